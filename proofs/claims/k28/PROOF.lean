import PyProof.Rows.All
import Wide.All
import OpenK.AllK
import Wide.FinOn
import HandS.ForMost
import HandS.Strs
import HandS.IsInst
import HandS.Evl
import HandS.MakeKw
import HandS.WideBits
import HandS.Star
import HandS.Walk
import HandS.Conv
import HandS.RaiseMore
import HandS.FStr
import HandS.Style
import HandS.More
import HandS.OwnEq
import PyProof.InstNe
import KE.KExcInit
import HandS.Exc
import HandS.ExcOwn
import HandS.ExcInit
import HandS.TryMany
import KE.KExcLine
import PyProof.EqAt
import PyProof.MeetsIn
import HandS.ExcIs
import HandS.IsInst
import HandS.Lambda
import HandS.EndTab
import HandS.Small
import HandS.ListItems
import HandS.Defaults
import HandS.Comp
import HandS.CallLocal
import PyProof.P3Eq
import PyProof.MeetsIn
import PyProof.FString4
import PyProof.EqKinds
import PyProof.EqAt
import PyProof.DictUpdate
import PyProof.DictDisplay
import PyProof.DictCopy
import KE.KStar
import KE.KExcInit
import HandS.Zip
import HandS.TupAny
import HandS.TryMany
import HandS.Text
import HandS.Property
import HandS.MakeKwOnly
import HandS.Lambda
import HandS.Iter
import HandS.ExcOwn
import HandS.ExcIs
import HandS.ExcInit
import HandS.Exc
import HandS.EndTab
import HandS.DictEq
import HandS.Deep
import KE.GoesEnumKw
import PySem.Challenge.RW_chargeways_k28_books_shown
import KE.KStateDown
import HandS.Base
import HandS.Call
import HandS.Ends
import HandS.Words
import HandS.Dict
import HandS.Head0
import HandS.Head1
import HandS.Head2
import HandS.HeadEnd
import HandS.HeadHook1
import HandS.HeadHook2
import HandS.HeadHook3
import HandS.HeadHook4
set_option Elab.async false
set_option linter.all false
set_option maxRecDepth 100000
set_option maxHeartbeats 4000000
/-! Promises kept where no repr is under way (the guards are empty): calls, methods, makings, bodies. -/
namespace GL
open PySem PySem.Spec PyProof.Rows L2
abbrev Fre (A : Around) : Prop := A.guards = some []
theorem fre_make {A : Around} {C : Addr} {us : List Value} {kw : List (Str × Value)} (h : Fre A) : Fre (A.under (.builtin "type.__call__" ⟨.ref C :: us, kw⟩)) := by
  first | exact h | simpa [Around.under, Code.guards, pushGuards, Code.isGuard] using h
/-- as FnOk, where nothing is being shown -/
structure FnG (P : Program) (w : World) (K : PySem.W.Frag) (mg : Str → Option Value) (base : Heap) (CX : CXT) (k : Nat) (f : Addr) (fd : FuncData) (ps : List Str) (sp : Sp) : Prop where
  many : ∀ vs H Q E, sp vs H Q E → vs.length = ps.length
  goes : ∀ {A : Around} {outer : List Env} {s : Shared} {H : Hp} {args : Args} {us : List Value} {vs : List V} {Q : VK} {E : XK}, Fre A → Room k A →
    Env0 P w K mg base A outer s H → BindsTo s fd args (ps.zip us) → Vals vs us → sp vs H Q E → codeAny (model P w) A (.call (.ref f) args) (CR CX outer P w H s Q E) s
section
variable {X : Cx} {CX : CXT} {k : Nat} {f C : Addr} {fd : FuncData} {ps ks : List Str} {sp : Sp} {dvs : List V} {ds : List Value} {E : XK} {x m : Str} {p pos apos : Pos} {e o : Expr} {es : List Expr} {kws : List Keyword} {ta : TE} {t tk : TA}
  {g : List Value → List Value → List Value} {gV : List V → List V → List V} {pins : List (Addr × Obj)} {σ : L2.St} {H : Hp} {s : Shared} {Q : VK} {us ws : List Value} {vs zs : List V}
/-- a call's result, taken into the caller's frame -/
theorem landed {code : Code} (hx : Passes CX X E) (I : Inv X pins σ H s) (h : codeAny (model X.prog X.w) X.A code (CR CX X.stack X.prog X.w H s Q E) s) :
    codeAny (model X.prog X.w) X.A code (fun r s' => match r with
      | .ok (.ret u) => EP X pins σ Q u s'
      | .ok _ => False
      | .error e => X.xe e s') s := by
  refine codeAny_mono h ?_
  intro r s' hq
  match r, hq with
  | .error e, hq => exact hx pins σ H s e s' I hq
  | .ok (.ret u), hq => exact I.after hq
  | .ok .next, hq => exact hq
  | .ok .brk, hq => exact hq
  | .ok .cont, hq => exact hq
theorem ran {v : Value} {args : List Value} {kw : List (Str × Value)} (h : codeAny (model X.prog X.w) X.A (.call v ⟨args, kw⟩) (fun r s' => match r with
      | .ok (.ret u) => EP X pins σ Q u s'
      | .ok _ => False
      | .error e => X.xe e s') s) : wpAny (model X.prog X.w) X.A (call v args kw) (EP X pins σ Q) X.xe s := by
  refine wpAny_call (codeAny_mono h ?_)
  intro r s' hq
  match r, hq with
  | .error e, hq => exact hq
  | .ok (.ret u), hq => exact hq
theorem ranF (G : Fre X.A) (F : FnG X.prog X.w X.K X.mg X.base CX k f fd ps sp) (hr : Room k X.A) (hb : Binds X.K fd ps ds) (hd : Vals dvs ds) (hx : Passes CX X E) (I : Inv X pins σ H s) (r : Vals vs us) (h : sp (vs ++ dvs) H Q E) :
    wpAny (model X.prog X.w) X.A (call (.ref f) us) (EP X pins σ Q) X.xe s :=
  have ra := r.append hd
  ran (landed hx I (F.goes G hr I.env0 (hb s us I.kIn (ra.length.symm.trans (F.many _ _ _ _ h))) ra h))
/-- f(e, ..) -/
theorem pc (G : Fre X.A) (F : FnG X.prog X.w X.K X.mg X.base CX k f fd ps sp) (hr : Room k X.A) (hg : Gl X x) (hm : X.mg x = some (.ref f)) (hk : PySem.W.keepIn X.K (.ref f) = true) (hb : Binds X.K fd ps ds) (hd : Vals dvs ds) (hx : Passes CX X E)
    (ha : PA X (e :: es) t) (ndb : (x == ("__debug__" : Str)) = false := by decide) (he : starEach (e :: es) X.env = (false, eval e X.env) :: starEach es X.env := by rfl) (hpl : (backTo pos (starEach es X.env)).any (·.1) = false := by rfl) :
    PE X (.Call (.Name x p) (e :: es) [] pos) (tCall sp dvs E t) where
  run := fun pins s σ H Q I h => wpAny_Call_Name_kw (ld_glob I hg hm
    (PySem.W.callWith_K I.ok.mod.kin hk (thn (ha.run pos pins s σ H _ I h) fun us s1 ⟨vs, H1, I1, r, q⟩ => ⟨I1.kIn, ranF G F hr hb hd hx I1 r q⟩) he hpl) ndb)
theorem pc0 (G : Fre X.A) (F : FnG X.prog X.w X.K X.mg X.base CX k f fd ps sp) (hr : Room k X.A) (hg : Gl X x) (hm : X.mg x = some (.ref f)) (hk : PySem.W.keepIn X.K (.ref f) = true) (hb : Binds X.K fd ps ds) (hd : Vals dvs ds) (hx : Passes CX X E)
    (ndb : (x == ("__debug__" : Str)) = false := by decide) : PE X (.Call (.Name x p) [] [] pos) (tCall sp dvs E tNil) where
  run := fun pins s σ H Q I h => wpAny_Call_Name_kw (ld_glob I hg hm (PySem.W.callWith_K0 I.kIn hk (ranF (us := []) G F hr hb hd hx I .nil h)) ndb)
/-- o.m(e, ..) -/
theorem pm {pl : Sem Bool} (G : Fre X.A) (he : PE X o ta) (c : Cls X.K C) (hm : Meth X.K C m f) (F : FnG X.prog X.w X.K X.mg X.base CX k f fd ps sp) (hr : Room k X.A) (hb : Binds X.K fd ps ds) (hd : Vals dvs ds) (hx : Passes CX X E) (ha : PA X (e :: es) t)
    (hse : starEach (e :: es) X.env = (false, eval e X.env) :: starEach es X.env := by rfl) (hpl : (backTo pos (starEach es X.env)).any (·.1) = false := by rfl)
    (hev : eval (.Call (.Attribute o m apos) (e :: es) [] pos) X.env = (do
      let ov ← eval o X.env
      standAt apos.atName
      let (fn, frst) ← holding [ov] (getMethod ov m pl)
      callWith pos fn frst (backTo pos (starEach (e :: es) X.env)) (backToKw pos (keywordEach [] X.env))) := by rfl) : PE X (.Call (.Attribute o m apos) (e :: es) [] pos) (tMeth C m sp dvs E ta t) := by
  constructor
  intro pins s σ H Q I h
  refine PySem.W.methodCall_KW (pl := pl) (thn (he.run pins s σ H _ I h) ?_) hev
  rintro u s1 ⟨v, H1, I1, rv, a, dx, fs, rfl, ea, l, q⟩
  cases rv
  refine getmeth_ok I1 ea c hm l (PySem.W.callWith_K (first := [.ref a]) (h₀ := X.base) I.ok.mod.kin hm.kp (thn (ha.run pos pins s1 σ H1 _ I1 q) ?_) hse hpl)
  rintro us s2 ⟨vs, H2, I2, r, q2⟩
  exact ⟨I2.kIn, ranF (us := .ref a :: us) (vs := .ref a :: vs) G F hr hb hd hx I2 (.cons rfl r) q2⟩
/-- C(..): the instance is made, then its __init__ -/
theorem ranM (G : Fre X.A) (M : Mk X.K C f) (F : FnG X.prog X.w X.K X.mg X.base CX k f fd ps sp) (hr : Room (k + 1) X.A) (hb : Binds X.K fd ps ds) (hd : Vals dvs ds) (hx : Passes CX X E) (I : Inv X pins σ H s) (r : Vals vs us)
    (h : ∀ y dy, H y = none → H dy = none → dy ≠ y → sp (.ref y :: (vs ++ dvs)) (upd (upd H dy (.own y)) y (.ins C dy [])) (fun v H2 => v = .non ∧ Q (.ref y) H2) E) : wpAny (model X.prog X.w) X.A (call (.ref C) us) (EP X pins σ Q) X.xe s := by
  have h0 := h (s.heap.objs.size + 1) s.heap.objs.size (I.hok.fresh (Nat.le_succ _)) (I.hok.fresh (Nat.le_refl _)) (Nat.ne_of_lt (Nat.lt_succ_self _))
  have J := Inv.made (C := C) I
  have rz : Vals (V.ref (s.heap.objs.size + 1) :: (vs ++ dvs)) (Value.ref (s.heap.objs.size + 1) :: (us ++ ds)) := .cons rfl (r.append hd)
  have hl : (Value.ref (s.heap.objs.size + 1) :: us ++ ds).length = ps.length := rz.length.symm.trans (F.many _ _ _ _ h0)
  have run := F.goes (fre_make G) (hr.make C us []) (J.env0.make C us []) (hb _ (Value.ref (s.heap.objs.size + 1) :: us) J.kIn hl) rz h0
  refine wpAny_call (make_map (f := f) I.kIn M.makes M.init (beq_iff_eq.mp M.fn) (codeAny_mono run ?_))
  intro r s' z
  match r, z with
  | .error e, z => exact hx pins σ _ _ e s' J z
  | .ok (.ret u), z =>
    obtain ⟨v, H', I3, rv, ev, q3⟩ := J.after z
    cases ev
    exact And.intro rv ⟨V.ref (s.heap.objs.size + 1), H', I3, rfl, q3⟩
  | .ok .next, z => exact z.elim
  | .ok .brk, z => exact z.elim
  | .ok .cont, z => exact z.elim
theorem pk (G : Fre X.A) (M : Mk X.K C f) (F : FnG X.prog X.w X.K X.mg X.base CX k f fd ps sp) (hr : Room (k + 1) X.A) (hg : Gl X x) (hm : X.mg x = some (.ref C)) (hb : Binds X.K fd ps ds) (hd : Vals dvs ds) (hx : Passes CX X E)
    (ha : PA X (e :: es) t) (ndb : (x == ("__debug__" : Str)) = false := by decide) (he : starEach (e :: es) X.env = (false, eval e X.env) :: starEach es X.env := by rfl) (hpl : (backTo pos (starEach es X.env)).any (·.1) = false := by rfl) :
    PE X (.Call (.Name x p) (e :: es) [] pos) (tMake C sp dvs E t) where
  run := fun pins s σ H Q I h => wpAny_Call_Name_kw (ld_glob I hg hm
    (PySem.W.callWith_K I.ok.mod.kin M.kp (thn (ha.run pos pins s σ H _ I h) fun us s1 ⟨vs, H1, I1, r, q⟩ => ⟨I1.kIn, ranM G M F hr hb hd hx I1 r q⟩) he hpl) ndb)
theorem pk0 (G : Fre X.A) (M : Mk X.K C f) (F : FnG X.prog X.w X.K X.mg X.base CX k f fd ps sp) (hr : Room (k + 1) X.A) (hg : Gl X x) (hm : X.mg x = some (.ref C)) (hb : Binds X.K fd ps ds) (hd : Vals dvs ds) (hx : Passes CX X E)
    (ndb : (x == ("__debug__" : Str)) = false := by decide) : PE X (.Call (.Name x p) [] [] pos) (tMake C sp dvs E tNil) where
  run := fun pins s σ H Q I h => wpAny_Call_Name_kw (ld_glob I hg hm (PySem.W.callWith_K0 I.kIn M.kp (ranM (us := []) G M F hr hb hd hx I .nil h)) ndb)
end
/-- a body keeps its promise -/
theorem bodied {CX : CXT} {P : Program} {w : World} {K : PySem.W.Frag} {mg : Str → Option Value} {base : Heap} {k : Nat} {f : Addr} {name qual : Str} {params : Arguments} {body : List Stmt} {scope : Scope} {dV kV doc pm cdv ct oc : Value} {an od : Option Addr}
    {sl0 : Array (Option Value)} {N ps : List Str} {sp : Sp} (lk : K.lookup f = some ⟨oc, od, .func (PySem.W.fnOf name qual params body scope dV kV doc pm an cdv ct), sl0⟩) (hcd : PySem.W.codeIn K cdv qual = true) (S : FnScope N ps scope)
    (many : ∀ vs H Q E, sp vs H Q E → vs.length = ps.length)
    (hb : ∀ (A : Around) (outer : List Env) (s : Shared) (H : Hp) (vs : List V) (Q : VK) (E : XK), Fre (A.deeper (envOfC qual scope s.heap.objs.size f cdv)) → Room k (A.deeper (envOfC qual scope s.heap.objs.size f cdv)) → sp vs H Q E →
      ∃ tr, PSs (cxOf CX P w K mg base N qual scope f cdv A outer s H E) body tr ∧ tr { nx := fun _ H' => Q .non H', rt := Q } (start N vs) H) :
    FnG P w K mg base CX (k + 1) f (PySem.W.fnOf name qual params body scope dV kV doc pm an cdv ct) ps sp := by
  refine ⟨many, ?_⟩
  intro A outer s H args us vs Q E hgd hr e0 hbd r hsp
  have KI : K.In s.heap := e0.mod.kin.keeps fun b o e => (e0.bs b o e).1
  have kinds : ∀ y ∈ ps.zip us, scope.names.lookup y.1 = some .local ∨ (scope.names.lookup y.1 = some .cell ∧ ((cellsFrom (s.heap.objs.size + 1) scope.names []).lookup y.1).isSome = true) := by
    rintro ⟨n, v⟩ hy
    exact (S.par n (List.of_mem_zip hy).1).imp id fun q => ⟨q, PySem.W.cellsFrom_some _ _ _ (.inl q)⟩
  refine codeAny_call_function hr.depth (KI _ _ lk) rfl S.co S.gen rfl (PySem.W.codeRec_of KI hcd) (hbd _ _ _ _ (wpAny_newFunctionEnv_cells S.kind kinds ?_))
  rintro env rfl s1 x
  refine ⟨(e0.mod.nolimit.keeps fun b o e => (e0.bs b o e).1).keeps x.toInCall.keep, codeAny_func ?_⟩
  obtain ⟨t, ht, hq⟩ := hb A outer s H vs Q E hgd (hr.deeper _) hsp
  have I := inv_start (CX := CX) (E := E) S hr.hd e0 (many _ _ _ _ hsp) r x
  refine wpAny_mono (ht.run [] s1 (start N vs) H _ I hq) ?_ (fun _ _ z => z)
  intro fl s' z
  match fl, z with
  | .ret u, z =>
    obtain ⟨v, σ', H', J, rv, q⟩ := z
    exact ⟨v, H', J.os, J.bare, J.base, J.hok, rv, q⟩
  | .next, z =>
    obtain ⟨σ', H', J, q⟩ := z
    exact ⟨V.non, H', J.os, J.bare, J.base, J.hok, rfl, q⟩
  | .brk, z => exact z.elim fun _ z => z.elim fun _ z => z.2.elim
  | .cont, z => exact z.elim fun _ z => z.elim fun _ z => z.2.elim
section
variable {P : Program} {w : World} {K : PySem.W.Frag} {mg : Str → Option Value} {base : Heap} {x qual : Str} {st : Stmt} {f : Addr} {fd : FuncData} {N ps : List Str} {k : Nat} {sp : Sp} {CX : CXT}
theorem okG (F : L2.Fun K x qual st f fd) (S : FnScope N ps (defScope st)) (many : ∀ vs H Q E, sp vs H Q E → vs.length = ps.length)
    (hb : ∀ (cdv : Value) (A : Around) (outer : List Env) (s : Shared) (H : Hp) (vs : List V) (Q : VK) (E : XK), Fre (A.deeper (envOfC qual (defScope st) s.heap.objs.size f cdv)) → Room k (A.deeper (envOfC qual (defScope st) s.heap.objs.size f cdv)) → sp vs H Q E →
      ∃ t, PSs (cxOf CX0 P w K mg base N qual (defScope st) f cdv A outer s H E).nox (defBody st) t ∧ t { nx := fun _ H' => Q .non H', rt := Q } (start N vs) H) : FnG P w K mg base CX0 (k + 1) f fd ps sp := by
  obtain ⟨c0, o0, kV, doc, pm, an, cdv, ct, s0, rfl, lk, hcd⟩ := F.ex
  exact bodied lk hcd S many fun A outer s H vs Q E g hr hsp => (hb cdv A outer s H vs Q E g hr hsp).imp fun t z => ⟨z.1.nox, z.2⟩
theorem okGD {dvs : List V} {kws : List (Str × V)} (F : L2.FunD K x qual (defArgs st) (defBody st) (defScope st) dvs kws f fd) (S : FnScope N ps (defScope st)) (many : ∀ vs H Q E, sp vs H Q E → vs.length = ps.length)
    (hb : ∀ (cdv : Value) (A : Around) (outer : List Env) (s : Shared) (H : Hp) (vs : List V) (Q : VK) (E : XK), Fre (A.deeper (envOfC qual (defScope st) s.heap.objs.size f cdv)) → Room k (A.deeper (envOfC qual (defScope st) s.heap.objs.size f cdv)) → sp vs H Q E →
      ∃ t, PSs (cxOf CX0 P w K mg base N qual (defScope st) f cdv A outer s H E).nox (defBody st) t ∧ t { nx := fun _ H' => Q .non H', rt := Q } (start N vs) H) : FnG P w K mg base CX0 (k + 1) f fd ps sp := by
  obtain ⟨c0, o0, dV, kV, doc, pm, an, cdv, ct, s0, rfl, lk, hcd, _, _⟩ := F.ex
  exact bodied lk hcd S many fun A outer s H vs Q E g hr hsp => (hb cdv A outer s H vs Q E g hr hsp).imp fun t z => ⟨z.1.nox, z.2⟩
end
end GL
namespace GL
open PySem PySem.Spec PyProof.Rows L2
section
variable {X : Cx} {CX : CXT} {k : Nat} {f C : Addr} {fd : FuncData} {sp : Sp} {E : XK}
/-- len(o), o of a class with an own __len__ -/
theorem call_lenG (G : Fre X.A) (F : FnG X.prog X.w X.K X.mg X.base CX k f fd ["self"] sp) (hr : Room (k + 1) X.A) (hb : Binds X.K fd ["self"] []) (hs : PySem.W.findIn X.K (.ref C) "__len__" = some (some (.ref f))) (hf : PySem.W.isFn X.K (.ref f) = true) (hx : Passes CX X E) :
    CallR X (.builtin "len") (fun xs H Q => ∃ a dx fs, xs = [.ref a] ∧ H a = some (.ins C dx fs) ∧ sp [.ref a] H (fun v H' => ∃ n : Nat, v = .int (n : Int) ∧ n < 1000000 ∧ Q (.int (n : Int)) H') E) := by
  intro pins s σ H xs us Q I r h
  obtain ⟨a, dx, fs, rfl, ha, h⟩ := h
  cases r with
  | cons r rt =>
    cases rt
    cases r
    obtain ⟨mA, O, _⟩ := ins_get I.hok ha
    obtain ⟨m, fr⟩ := I.fr
    obtain ⟨od, es, ep, hod, _⟩ := O.ns
    refine PySem.W.len_K (od := some od) fr I.ok.mod.kin ⟨O.obj, rfl, rfl, hod⟩ hs hf ?_
    refine wpAny_call (codeAny_mono (F.goes (A := X.A.in1) (outer := X.stack) (vs := [.ref a]) (us := [.ref a]) G hr.in1 I.env0.in1 (hb s [.ref a] I.kIn rfl) (.cons rfl .nil) h) ?_)
    intro r s' z
    match r, z with
    | .error e, z => exact hx pins σ H s e s' I z
    | .ok (.ret u), z =>
      obtain ⟨v, H', I3, rv, n, rfl, hn, q⟩ := I.after z
      obtain ⟨t, rfl⟩ := rv
      refine ⟨⟨by omega, by omega⟩, ⟨.int n, H', I3.tok _, ⟨_, rfl⟩, q⟩⟩
/-- repr(x) of a list or tuple of data -/
def rRepr (K : PySem.W.Frag) : List V → Hp → VK → Prop := fun xs H Q => ∃ v d, xs = [v] ∧ Dp K H v d ∧ isDisplay d = true ∧ d.showable = true ∧ d.hasDict = false ∧ d.depth ≤ 60 ∧ d.shown.length ≤ sizeLine ∧ Q (.str d.shown) H
theorem call_repr (G : Fre X.A) (hu : X.A.units + 64 < cLine) : CallR X (.builtin "repr") (rRepr X.K) := by
  intro pins s σ H xs us Q I r h
  obtain ⟨v, d, rfl, hd, h1, h2, h3, h4, h5, q⟩ := h
  cases r with
  | cons r rt =>
    cases rt
    obtain ⟨as, rd⟩ := Dp.reads I d v _ hd r
    obtain ⟨a, rfl⟩ := isRef_of_reads rd h1
    exact repr_of_reads' rd h2 (PyData.noDict_hsm h3) G (by omega) (fun _ _ e => e) (fun h' u tk hk => ⟨.str d.shown, H, I.kept hk, ⟨u, rfl⟩, q⟩) h5
end
/-! ### enumerate from any start, over lists and tuples -/
structure Src (K : PySem.W.Frag) (SQ : Hp → Addr → List V → Prop) (HI : Heap → Addr → Array Value → Prop) (IT : Heap → Addr → Addr → Nat → Prop) : Prop where
  at_ : ∀ {X : Cx} {pins : List (Addr × Obj)} {σ : L2.St} {H : Hp} {s : Shared} {a : Addr} {xs : List V}, X.K = K → L2.Inv X pins σ H s → SQ H a xs → ∃ its : List Value, Vals xs its ∧ HI s.heap a its.toArray
  inj : ∀ {X : Cx} {pins : List (Addr × Obj)} {σ : L2.St} {H : Hp} {s : Shared} {a : Addr} {xs ys : List V}, X.K = K → L2.Inv X pins σ H s → SQ H a xs → SQ H a ys → xs = ys
  obj : ∀ {h : Heap} {it a : Addr} {i : Nat}, IT h it a i → ∃ o, h.get? it = some o ∧ ∀ v, o.data ≠ .cell v
  keep : ∀ {h h' : Heap} {it a : Addr} {i : Nat}, IT h it a i → (∀ o, h.get? it = some o → h'.get? it = some o) → IT h' it a i
  ne1 : ∀ {h : Heap} {it a b : Addr} {i : Nat} {vs : Array Value}, IT h it a i → HI h b vs → b ≠ it
  ne2 : ∀ {h : Heap} {e x a : Addr} {k : Int} {old : Value} {vs : Array Value}, IsEnum h e x k old → HI h a vs → a ≠ e
  dr : ∀ {prog : Program} {w : World} {A : Around}, A.handled = none → ∀ (it l : Addr), l ≠ it → ∀ vs : Array Value, Draws prog w A it [it, l] vs.size (fun i v => vs[i]? = some v) (fun i h => IT h it l i ∧ HI h l vs)
theorem src_list (K : PySem.W.Frag) : Src K (SqL K) (fun h a vs => h.IsList a vs) (fun h it a i => h.IsListIter it a i) where
  at_ := fun e I h => by subst e; obtain ⟨its, r, p, _⟩ := I.list h; exact ⟨its, r, p.isList⟩
  inj := fun e I h h' => by subst e; exact I.list_inj h h'
  obj := fun ⟨o, ho, hc, hd⟩ => ⟨o, ho, fun v q => by rw [hd] at q; cases q⟩
  keep := fun h k => h.at k
  ne1 := fun ⟨o, ho, hc, hd⟩ ⟨o', ho', hc', n, hd'⟩ e => by subst e; rw [ho] at ho'; cases ho'; rw [hd] at hd'; cases hd'
  ne2 := fun he ⟨o', ho', hc', n, hd'⟩ e => by subst e; rw [he] at ho'; cases ho'; cases hd'
  dr := fun hh it l hne vs => Draws.list hh it l hne vs
theorem src_tup (K : PySem.W.Frag) : Src K (SqT K) (fun h a vs => h.IsTuple a vs) (fun h it a i => h.IsTupleIter it a i) where
  at_ := fun e I h => by subst e; obtain ⟨its, r, p, _⟩ := I.tuple h; exact ⟨its, r, p⟩
  inj := fun e I h h' => by subst e; exact I.tuple_inj h h'
  obj := fun ⟨o, ho, hc, hd⟩ => ⟨o, ho, fun v q => by rw [hd] at q; cases q⟩
  keep := fun h k => h.at k
  ne1 := fun ⟨o, ho, hc, hd⟩ ⟨o', ho', hc', n, hd'⟩ e => by subst e; rw [ho] at ho'; cases ho'; rw [hd] at hd'; cases hd'
  ne2 := fun he ⟨o', ho', hc', n, hd'⟩ e => by subst e; rw [he] at ho'; cases ho'; cases hd'
  dr := fun hh it l hne vs => Draws.tuple hh it l hne vs
section
variable {K : PySem.W.Frag} {SQ : Hp → Addr → List V → Prop} {HI : Heap → Addr → Array Value → Prop} {IT : Heap → Addr → Addr → Nat → Prop}
def ItE (SQ : Hp → Addr → List V → Prop) (a : Addr) (k : Int) : It where
  go := fun i H => ∃ (xs : List V) (x : V), SQ H a xs ∧ xs[i]? = some x
  yld := fun i H v H' => ∃ T x, v = .ref T ∧ H T = none ∧ H' = upd H T (.tup [.int (k + (i : Nat)), x]) ∧ ∀ xs, SQ H a xs → xs[i]? = some x
  stop := fun i H => ∃ xs : List V, SQ H a xs ∧ xs.length = i
theorem turn_enumE {P : Program} {w : World} {elts : List Expr} {kk : Nat} {tpos : Pos} (S : Src K SQ HI IT) (k : Int) (a e it : Addr) :
    Turn P w K (.Tuple elts kk tpos) (ItE SQ a k) [e, it] e (fun i h => (∃ old, IsEnum h e it (k + (i : Nat)) old) ∧ IT h it a i ∧ e ≠ it) where
  mem := List.mem_cons_self
  obj := fun i h st b hb => by
    obtain ⟨⟨old, he⟩, hit, _⟩ := st
    rcases List.mem_cons.mp hb with rfl | hb
    · exact ⟨_, he, fun v q => nomatch q⟩
    · cases List.mem_singleton.mp hb
      exact S.obj hit
  keep := fun i h h' st k => by
    obtain ⟨⟨old, he⟩, hit, hne⟩ := st
    exact ⟨⟨old, k e (by simp) _ he⟩, S.keep hit fun o q => k it (by simp) o q, hne⟩
  item := by
    intro X hP hw hK hc i pins s σ H E I hf st hg
    subst hP hw
    obtain ⟨⟨old, he⟩, hit, hne⟩ := st
    obtain ⟨xs, x, hq, hx⟩ := hg
    obtain ⟨its, rv, p⟩ := S.at_ hK I hq
    obtain ⟨u, hu, ru⟩ := rv.get hx
    have hel : e < s.heap.objs.size := Heap.lt_size he
    have hil : it < s.heap.objs.size := by
      obtain ⟨o, q, _⟩ := S.obj hit
      exact Heap.lt_size q
    have d1 := S.ne1 hit p
    have d2 := S.ne2 he p
    have hu' : its.toArray[i]? = some u := by simpa using hu
    have hlt : i < its.toArray.size := (Array.getElem?_eq_some_iff.mp hu').1
    have hin : (X.A.in1).handled = none := I.ok.hd hc
    refine wpAny_pyNext_enum_itemC (S.dr (A := X.A.in1) hin it a d1 its.toArray) he ⟨hit, p⟩ hlt hne (by
      intro z
      rcases List.mem_cons.mp z with z | z
      · exact hne z
      · exact d2 (List.mem_singleton.mp z).symm) fun y h' tk hy ho hst hT hsz hk => ?_
    have ey : y = u := Option.some.inj (hy.symm.trans hu')
    subst ey
    refine ⟨_, rfl, wpAny_letOwnedTupleGo_enum (s := { s with heap := h', toks := tk + 1 }) ho fun h2 he2 sb => ?_⟩
    have hT2 : h2.get? s.heap.objs.size = some { cls := .type "tuple", data := .seq #[.int (k + (i : Nat)) tk, y] } := (sb.2 _ (Nat.ne_of_gt hel)).trans hT
    have new : ObjOk X.prog X.w (upd H s.heap.objs.size (.tup [.int (k + (i : Nat)), x])) h2 s.heap.objs.size (.tup [.int (k + (i : Nat)), x]) :=
      ⟨show 2 ≤ sizeLine by decide, [.int (k + (i : Nat)) tk, y], .cons ⟨_, rfl⟩ (.cons ru .nil), ⟨_, hT2, rfl, _, rfl⟩⟩
    have J := I.turnedNew (ch := [e, it]) (h' := h2) (t' := tk + 1) (fun b ob hb q => (sb.2 b (fun z => hb (by simp [z]))).trans (hk b ob (fun z => hb (by simp [z])) (fun z => hb (by simp [z])) q)) hf (Nat.le_refl _) new
    refine ⟨.ref s.heap.objs.size, _, J, rfl, ⟨_, x, rfl, I.hok.fresh (Nat.le_refl _), rfl, fun ys hy => ?_⟩, ⟨⟨y, ?_⟩, S.keep hst.1 fun o q => (sb.2 it (Ne.symm hne)).trans q, hne⟩, fun b hb => ?_⟩
    · rw [S.inj hK I hy hq]
      exact hx
    · have e1 : k + ((i + 1 : Nat) : Int) = k + (i : Nat) + 1 := by omega
      rw [e1]
      exact he2
    · have hb' : b < s.heap.objs.size := by
        rcases List.mem_cons.mp hb with rfl | hb
        · exact hel
        · cases List.mem_singleton.mp hb
          exact hil
      rw [upd_ne (Nat.ne_of_lt hb')]
      exact (hf b hb).1
  done := by
    intro X hP hw hK hc i pins s σ H E I hf st hg
    subst hP hw
    obtain ⟨⟨old, he⟩, hit, hne⟩ := st
    obtain ⟨xs, hq, hx⟩ := hg
    obtain ⟨its, rv, p⟩ := S.at_ hK I hq
    obtain ⟨f0, f1, f2, f3, f4, f5⟩ := hf it (by simp)
    have hl := rv.length
    have d1 := S.ne1 hit p
    have hin : (X.A.in1).handled = none := I.ok.hd hc
    have hsz : its.toArray.size = i := by
      rw [List.size_toArray, ← hl, hx]
    subst hsz
    exact wpAny_pyNext_enum_endD (S.dr (A := X.A.in1) hin it a d1 its.toArray) he ⟨hit, p⟩ fun h' eb => ⟨rfl, I.turned (t' := s.toks) (fun b o hb q => eb b o hb q) f0 f1 f3 f4 f5⟩
  self := fun A i s Q E st h => by
    obtain ⟨⟨_, he⟩, _⟩ := st
    exact wpAny_pyIter_enum he h
theorem walk_enumE {a : Addr} {xs : List V} {k : Int} : Walk (ItE SQ a k) xs.length (fun H => SQ H a xs) (YPair (fun i => some (.int (k + (i : Nat)))) (fun i => xs[i]?)) := by
  refine ⟨fun i H hi q => ⟨xs, xs[i], q, by simp [hi]⟩, fun H q => ⟨xs, q, rfl⟩, fun i H v H' hi q y => ?_⟩
  obtain ⟨T, x, h1, h2, h3, h4⟩ := y
  exact ⟨T, .int (k + (i : Nat)), x, h1, h2, h3, rfl, h4 xs q⟩
end
set_option maxHeartbeats 1000000 in
theorem meets_enum0 {v : Value} {o : Obj} {H : Heap → Prop} (B : Begins v o H) :
    Meets (Builtin.«enumerate.__new__» ⟨[.type "enumerate", v], []⟩) (fun _ R s => H s.heap ∧
      R (.ok (.ret (.ref (s.heap.push o).objs.size))) { s with heap := (s.heap.push o).push { cls := .type "enumerate", data := .fields #[.none, .bool false, .ref s.heap.objs.size, rawInt 0, .none, .none] } }) :=
  .of_wp fun prog w A R s h => by
    obtain ⟨hp, g, d, tk, os⟩ := s
    obtain ⟨h1, h⟩ := h
    have hsub := sub_enumerate
    have q1 : ∀ {A' : Around} {E Q : Value → Shared → Prop}, Q (.ref hp.objs.size) ⟨hp.push o, g, d, tk, os⟩ → wpAny (model prog w) A' (pyIter v) Q E ⟨hp, g, d, tk, os⟩ :=
      fun q => B.iter prog w _ _ ⟨hp, g, d, tk, os⟩ _ h1 q
    wp_walk using q1
    refine wpAny_stack_any fun st => wpAny_pure ?_
    split
    · rename_i c _ _ _ _ _
      cases (c == Value.type "enumerate")
      · wp_walk using q1
        exact ⟨_, rfl, h⟩
      · wp_walk using q1
        exact ⟨_, rfl, h⟩
    · wp_walk using q1
      exact ⟨_, rfl, h⟩
section
variable {prog : Program} {w : World} {A : Around} {Er : Value → Shared → Prop} {s : Shared}
theorem enum_begins0 {v : Value} {o : Obj} {H : Heap → Prop} {Q : Value → Shared → Prop} (B : Begins v o H) (h1 : H s.heap)
    (h : ∀ h', IsEnum h' (s.heap.objs.size + 1) s.heap.objs.size 0 .none → h'.get? s.heap.objs.size = some o → (∀ b o, s.heap.get? b = some o → h'.get? b = some o) → Q (.ref (s.heap.objs.size + 1)) { s with heap := h' }) :
    wpAny (model prog w) A (call (.type "enumerate") [v]) Q Er s := by
  refine callType_new F.called_enumerate (by decide) (F.typeCall_enumerate_1 _) (F.newCall_enumerate_1 _) (fun obj => F.args_object_init_2 obj _) F.entry_enumerate_new (meets_enum0 B) ⟨h1, ?_⟩
  have hone : (s.heap.push o).objs.size = s.heap.objs.size + 1 := Heap.size_push ..
  show _ ∧ _
  rw [hone]
  have he : IsEnum ((s.heap.push o).push { cls := .type "enumerate", data := .fields #[.none, .bool false, .ref s.heap.objs.size, rawInt 0, .none, .none] }) (s.heap.objs.size + 1) s.heap.objs.size 0 .none := by
    have q := Heap.get?_push_size (s.heap.push o) (o := { cls := .type "enumerate", data := .fields #[.none, .bool false, .ref s.heap.objs.size, rawInt 0, .none, .none] }) rfl
    rw [hone] at q
    exact q
  exact ⟨⟨_, he, rfl⟩, h _ he (Heap.get?_push_of_some _ (Heap.get?_push_size _ B.free)) fun b o x => Heap.get?_push_of_some _ (Heap.get?_push_of_some _ x)⟩
end
section
variable {X : Cx} {e : Expr} {ta : TA} {te : TE} {p pos tpos kpos : Pos} {elts : List Expr} {kk : Nat}
def iEnT (K : PySem.W.Frag) (ta : TA) : TI := fun σ H R => ta σ H fun vs H1 => ∃ a xs, vs = [.ref a] ∧ SqT K H1 a xs ∧ R (ItE (SqT K) a 0) H1
/-- enumerate(t), t a tuple -/
theorem pi_enumT (hg : Gl X "enumerate") (hm : X.mg "enumerate" = none) (ha : PA X [e] ta) (hs : starEach [e] X.env = [(false, eval e X.env)] := by rfl) :
    PI X (.Tuple elts kk tpos) (.Call (.Name "enumerate" p) [e] [] pos) (iEnT X.K ta) := by
  refine ⟨fun pins s σ H R I h => Call_ (ld_blt I hg hm boot_enumerate (PyProof.Rows.callWith_type1 (thn (ha.run pos pins s σ H _ I h) ?_) hs rfl))⟩
  rintro us s1 ⟨vs, H1, I1, r1, a, xs, rfl, hq, q⟩
  cases r1 with
  | cons r rr =>
    cases rr
    cases r
    obtain ⟨its, rv, p', _⟩ := I1.tuple hq
    refine enum_begins0 (begins_tuple a its.toArray) p' fun h' he hit hk => wpAny_pyIter_enum he ?_
    have I2 := I1.kept (t' := s1.toks) hk
    have fr : ∀ b ∈ [s1.heap.objs.size + 1, s1.heap.objs.size], FpOk X pins H1 b := by
      intro b hb
      have hle : s1.heap.objs.size ≤ b := by
        rcases List.mem_cons.mp hb with rfl | hb
        · exact Nat.le_add_right _ _
        · exact Nat.le_of_eq (List.mem_singleton.mp hb).symm
      exact I1.fpOk hle (I1.hok.fresh hle)
    exact ⟨_, _, _, _, H1, rfl, I2, turn_enumE (src_tup X.K) 0 a _ _, ⟨⟨.none, he⟩, ⟨_, hit, rfl, rfl⟩, Nat.succ_ne_self _⟩, fr, q⟩
def iEnK (K : PySem.W.Frag) (ta : TA) (tk : TA) : TI := fun σ H R => ta σ H fun vs H1 => tk σ H1 fun ks H2 => ∃ a xs k, vs = [.ref a] ∧ ks = [.int k] ∧ -(2 ^ 63) ≤ k ∧ k < 2 ^ 63 ∧ SqL K H2 a xs ∧ R (ItE (SqL K) a k) H2
theorem typed_kw {M : Model} {A : Around} {Er : Value → Shared → Prop} {s : Shared} {env : Env} {T : String} {pos : Pos} {e : Expr} {kws : List Keyword} {Q : Value → Shared → Prop}
    (h : wpAny M A (spliced (backTo pos (starEach [e] env))) (fun vs s₁ => wpAny M A (evalAll ((backToKw pos (keywordEach kws env)).map (·.2)))
      (fun kvs s₂ => wpAny M A (call (.type T) vs (((backToKw pos (keywordEach kws env)).filterMap (·.1)).zip kvs)) Q Er s₂) Er s₁) Er s)
    (he : backTo pos (starEach [e] env) = [(false, eval e env)]) (hall : (backToKw pos (keywordEach kws env)).all (·.1.isSome) = true) (hkw : (backToKw pos (keywordEach kws env)).any (·.1.isNone) = false) :
    wpAny M A (callWith pos (.type T) [] (backTo pos (starEach [e] env)) (backToKw pos (keywordEach kws env))) Q Er s := by
  rw [he] at h ⊢
  unfold callWith
  refine wpAny_bind (wpAny_holding (wpAny_mono (evalArgs_kwB (Q := fun a s₁ => wpAny M A (call (.type T) ([] ++ a.pos) a.kw) Q Er s₁) hall h) (fun a s₁ h₁ => wpAny_bind (wpAny_standAt ?_)) fun _ _ x => x))
  simp only [List.any_cons, List.any_nil, hkw, Bool.or_false]
  refine wpAny_bind (wpAny_pure ?_)
  exact wpAny_bind (wpAny_mono h₁ (fun v s3 hv => wpAny_bind (wpAny_holding (wpAny_point (wpAny_pure hv)))) fun _ _ z => z)
theorem pi_enumK (hg : Gl X "enumerate") (hm : X.mg "enumerate" = none) (ha : PA X [e] ta) {v : Expr} {tk : TA} (hk : PK X [⟨some "start", v, kpos⟩] tk) (hs : starEach [e] X.env = [(false, eval e X.env)] := by rfl) :
    PI X (.Tuple elts kk tpos) (.Call (.Name "enumerate" p) [e] [⟨some "start", v, kpos⟩] pos) (iEnK X.K ta tk) := by
  refine ⟨fun pins s σ H R I h => wpAny_Call_Name_kw (ld_blt I hg hm boot_enumerate (typed_kw (thn (ha.run pos pins s σ H _ I h) ?_) (by rw [hs]; rfl) rfl rfl))⟩
  rintro us s1 ⟨vs, H1, I1, r1, h1⟩
  refine thn (hk.run pos pins s1 σ H1 _ I1 h1) ?_
  rintro ws s2 ⟨zs, H2, I2, r2, a, xs, k, rfl, rfl, hk0, hk1, hq, q⟩
  cases r1 with
  | cons r rr =>
    cases rr
    cases r
    cases r2 with
    | cons r' rr' =>
      cases rr'
      obtain ⟨t, rfl⟩ := r'
      obtain ⟨its, rv, p', _⟩ := I2.list hq
      refine enum_begins_start (begins_list a its.toArray) p'.isList hk0 hk1 fun h' he hit hz hkp => wpAny_pyIter_enum he ?_
      have J := I2.kept (t' := s2.toks) hkp
      have fr : ∀ b ∈ [s2.heap.objs.size + 1, s2.heap.objs.size], FpOk X pins H2 b := by
        intro b hb
        have hle : s2.heap.objs.size ≤ b := by
          rcases List.mem_cons.mp hb with rfl | hb
          · exact Nat.le_add_right _ _
          · exact Nat.le_of_eq (List.mem_singleton.mp hb).symm
        exact I2.fpOk hle (I2.hok.fresh hle)
      exact ⟨_, _, _, _, H2, rfl, J, turn_enumE (src_list X.K) k a _ _, ⟨⟨.none, by simpa using he⟩, ⟨_, hit, rfl, rfl⟩, Nat.succ_ne_self _⟩, fr, q⟩
end
/-! ### sorted(t), t a tuple of ints -/
section
variable {prog : Program} {w : World} {A : Around} {Er : Value → Shared → Prop} {s : Shared}
theorem collect_tup {l : Addr} {vs : List Value} {Q : List Value → Shared → Prop} (hl : s.heap.IsTuple l vs.toArray)
    (h : Q vs { s with heap := (s.heap.push (seqObj "list" #[] 0)).update s.heap.objs.size (Obj.mapSeq (· ++ vs.toArray)) }) (hsz : vs.length ≤ sizeLine) : wpAny (model prog w) A (collect (.ref l)) Q Er s := by
  obtain ⟨ob, hob, hcl, n, hdt⟩ := id hl
  unfold collect
  refine wpAny_bind (wpAny_runValue (codeAny_builtin entry_proto_collect' (?start : wpAny _ _ (do again (.builtin "list.__iadd__" ⟨[← newList [], .ref l], []⟩)) _ _ s)))
  refine wpAny_bind (wpAny_newList (wpAny_pure ⟨Code.quiet_builtin _ (by decide +kernel), codeAny_builtin entry_list_iadd' ?_⟩))
  show wpAny _ _ (Builtin.List.listExtendWith (.ref s.heap.objs.size) (.ref l) (.ref s.heap.objs.size)) _ _ { s with heap := s.heap.push (seqObj "list" #[] 0) }
  unfold Builtin.List.listExtendWith
  have hnew : (s.heap.push (seqObj "list" #[] 0)).get? l = some ob := Heap.get?_push_of_some _ hob
  refine wpAny_bind (wpAny_typeOf (T := "tuple") ⟨ob, hnew, hcl⟩ ?_)
  rw [if_pos (by rw [show (Value.type "tuple" == Value.type "tuple") = true from rfl]; simp)]
  refine wpAny_bind (listItems_at hnew hdt ?_)
  refine wpAny_bind (listItems_at (xs := #[]) (n := 0) (Heap.get?_push_size _ rfl) rfl ?_)
  rw [if_neg (by simp)]
  refine wpAny_bind (listUpdate_at (xs := #[]) (n := 0) (Heap.get?_push_size _ rfl) rfl ?_ (Nat.zero_le _) (by
    show (#[] ++ vs.toArray).size ≤ sizeLine + 1
    rw [Array.size_append, List.size_toArray]
    show 0 + vs.length ≤ _
    omega))
  refine wpAny_pure ?_
  refine wpAny_bind (wpAny_load (get?_update_seq (Heap.get?_push_size _ rfl) _) ?_)
  show wpAny _ _ (pure ((#[] : Array Value) ++ vs.toArray).toList) Q Er _
  rw [show ((#[] : Array Value) ++ vs.toArray).toList = vs from by simp]
  exact wpAny_pure h
theorem sorted_tup {l : Addr} {vs : List Value} {ns : List Int} {Q : Value → Shared → Prop} (hl : s.heap.IsTuple l vs.toArray) (hI : IntsAre vs ns) (h64 : vs.length < 64)
    (h : ∀ (out : Array Value) (ms : List Int), IntsAre out.toList ms → ms.Perm ns → ms.Pairwise (· ≤ ·) → Q (.ref (s.heap.objs.size + 1)) { s with heap := sortedAll s.heap vs out }) :
    wpAny (model prog w) A (call (.builtin "sorted") [.ref l]) Q Er s := by
  refine Calls.call_function_entry kind_sorted plain_sorted entry_sorted (args_sorted1 (.ref l)) ?_
  unfold Builtin.«sorted»
  refine wpAny_bind (m := checkCount "sorted" 1 1 _) (wpAny_pure (wpAny_bind (collect_tup hl ?_ (Nat.le_trans (Nat.le_of_lt h64) (by decide)))))
  refine wpAny_bind (wpAny_newList ?_)
  have hzz : ((s.heap.push (seqObj "list" #[] 0)).update s.heap.objs.size (Obj.mapSeq (· ++ vs.toArray))).objs.size = s.heap.objs.size + 1 := by
    rw [Heap.size_update, size_push']
  have hsrt : (((s.heap.push (seqObj "list" #[] 0)).update s.heap.objs.size (Obj.mapSeq (· ++ vs.toArray))).push (seqObj "list" vs.toArray 0)).get? (s.heap.objs.size + 1) = some (seqObj "list" vs.toArray 0) := by
    rw [← hzz]
    exact Heap.get?_push_size _ rfl
  show wpAny _ _ _ _ _ { s with heap := ((s.heap.push (seqObj "list" #[] 0)).update s.heap.objs.size (Obj.mapSeq (· ++ vs.toArray))).push (seqObj "list" vs.toArray 0) }
  rw [hzz]
  refine wpAny_bind (wpAny_holding (wpAny_call_entry slot_list_sort ⟨_, hsrt, rfl⟩ entry_list_sort (list_sort_tree hsrt hI h64 fun out ms b1 b2 b3 => ⟨_, rfl, ?_⟩) (args_list_sort _)))
  exact wpAny_pure ⟨_, rfl, h out ms b1 b2 b3⟩
end
def rSortedU (K : PySem.W.Frag) : List V → Hp → VK → Prop := fun vs H Q => ∃ (a : Addr) (ns : List Int), vs = [V.ref a] ∧ (SqL K H a (ns.map V.int) ∨ SqT K H a (ns.map V.int)) ∧ ns.length < 64 ∧
  ∀ (ms : List Int) (p : Addr), ms.Perm ns → ms.Pairwise (· ≤ ·) → H p = none → Q (.ref p) (upd H p (.lst (ms.map V.int)))
theorem call_sortedU {X : Cx} : CallR X (.builtin "sorted") (rSortedU X.K) := by
  intro pins s σ H vs us Q I r h
  obtain ⟨a, ns, rfl, hs, h64, q⟩ := h
  rcases hs with hs | hs
  · exact cr_sorted pins s σ H [V.ref a] us Q I r ⟨a, ns, rfl, hs, h64, q⟩
  · obtain ⟨its, rv, hl, _⟩ := I.tuple hs
    rw [Vals.ref1 r]
    have hi := rv.ints
    refine sorted_tup hl hi (by rw [hi.length]; exact h64) fun out ms h1 h2 h3 => ?_
    obtain ⟨epo, hat⟩ := PyProof.Rows.sortedAll_at s.heap its out
    have hlen : (ms.map V.int).length ≤ sizeLine := by
      rw [List.length_map, h2.length_eq]
      exact small64 h64
    exact ⟨.ref _, upd H (s.heap.objs.size + 1) (.lst (ms.map V.int)), I.laid (t' := s.toks) (fun _ _ => PyProof.Rows.sortedAll_old) (Nat.le_succ _) ⟨hlen, out.toList, epo, vals_of_ints h1, hat⟩, rfl, q ms _ h2 h3 (I.hok.fresh (Nat.le_succ _))⟩
end GL
namespace GL
open PySem PySem.Spec PyProof.Rows L2
section
variable {X : Cx} {CX : CXT} {k : Nat} {f C : Addr} {fd : FuncData} {sp : Sp} {E : XK}
/-- repr(o), o of a class with its own text -/
theorem call_reprG (G : Fre X.A) (F : FnG X.prog X.w X.K X.mg X.base CX k f fd ["self"] sp) (hr : Room (k + 1) X.A) (hu : X.A.units + 64 < cLine) (hb : Binds X.K fd ["self"] []) (hs : PySem.W.findIn X.K (.ref C) "__repr__" = some (some (.ref f))) (hf : PySem.W.isFn X.K (.ref f) = true) (hx : Passes CX X E) :
    CallR X (.builtin "repr") (fun xs H Q => ∃ a dx fs, xs = [.ref a] ∧ H a = some (.ins C dx fs) ∧ sp [.ref a] H (fun v H' => ∃ z : Str, v = .str z ∧ Q (.str z) H') E) := by
  intro pins s σ H xs us Q I r h
  obtain ⟨a, dx, fs, rfl, ha, h⟩ := h
  cases r with
  | cons r rt =>
    cases rt
    cases r
    obtain ⟨mA, O, _⟩ := ins_get I.hok ha
    obtain ⟨m, fr⟩ := I.fr
    obtain ⟨od, es, ep, hod, _⟩ := O.ns
    refine PySem.W.repr_K (od := some od) (show X.A.units + 1 < cLine by omega) fr I.ok.mod.kin ⟨O.obj, rfl, rfl, hod⟩ hs hf ?_
    refine wpAny_call (codeAny_mono (F.goes (A := X.A.in1) (outer := X.stack) (vs := [.ref a]) (us := [.ref a]) G hr.in1 I.env0.in1 (hb s [.ref a] I.kIn rfl) (.cons rfl .nil) h) ?_)
    intro r s' z
    match r, z with
    | .error e, z => exact hx pins σ H s e s' I z
    | .ok (.ret u), z =>
      obtain ⟨v, H', I3, rv, y, rfl, q⟩ := I.after z
      obtain ⟨t, rfl⟩ := rv
      exact ⟨.str y, H', I3, ⟨t, rfl⟩, q⟩
end
/-! ### enumerate(t, start=k), t a tuple -/
section
variable {X : Cx} {e : Expr} {ta : TA} {te : TE} {p pos tpos kpos : Pos} {elts : List Expr} {kk : Nat}
def iEnKT (K : PySem.W.Frag) (ta : TA) (tk : TA) : TI := fun σ H R => ta σ H fun vs H1 => tk σ H1 fun ks H2 => ∃ a xs k, vs = [.ref a] ∧ ks = [.int k] ∧ -(2 ^ 63) ≤ k ∧ k < 2 ^ 63 ∧ SqT K H2 a xs ∧ R (ItE (SqT K) a k) H2
theorem pi_enumKT (hg : Gl X "enumerate") (hm : X.mg "enumerate" = none) (ha : PA X [e] ta) {v : Expr} {tk : TA} (hk : PK X [⟨some "start", v, kpos⟩] tk) (hs : starEach [e] X.env = [(false, eval e X.env)] := by rfl) :
    PI X (.Tuple elts kk tpos) (.Call (.Name "enumerate" p) [e] [⟨some "start", v, kpos⟩] pos) (iEnKT X.K ta tk) := by
  refine ⟨fun pins s σ H R I h => wpAny_Call_Name_kw (ld_blt I hg hm boot_enumerate (typed_kw (thn (ha.run pos pins s σ H _ I h) ?_) (by rw [hs]; rfl) rfl rfl))⟩
  rintro us s1 ⟨vs, H1, I1, r1, h1⟩
  refine thn (hk.run pos pins s1 σ H1 _ I1 h1) ?_
  rintro ws s2 ⟨zs, H2, I2, r2, a, xs, k, rfl, rfl, hk0, hk1, hq, q⟩
  cases r1 with
  | cons r rr =>
    cases rr
    cases r
    cases r2 with
    | cons r' rr' =>
      cases rr'
      obtain ⟨t, rfl⟩ := r'
      obtain ⟨its, rv, p', _⟩ := I2.tuple hq
      refine enum_begins_start (begins_tuple a its.toArray) p' hk0 hk1 fun h' he hit hz hkp => wpAny_pyIter_enum he ?_
      have J := I2.kept (t' := s2.toks) hkp
      have fr : ∀ b ∈ [s2.heap.objs.size + 1, s2.heap.objs.size], FpOk X pins H2 b := by
        intro b hb
        have hle : s2.heap.objs.size ≤ b := by
          rcases List.mem_cons.mp hb with rfl | hb
          · exact Nat.le_add_right _ _
          · exact Nat.le_of_eq (List.mem_singleton.mp hb).symm
        exact I2.fpOk hle (I2.hok.fresh hle)
      exact ⟨_, _, _, _, H2, rfl, J, turn_enumE (src_tup X.K) k a _ _, ⟨⟨.none, by simpa using he⟩, ⟨_, hit, rfl, rfl⟩, Nat.succ_ne_self _⟩, fr, q⟩
end
end GL
namespace GL
open PySem PySem.Spec PyProof.Rows L2
section
variable {X : Cx} {CX : CXT} {k : Nat} {f C : Addr} {fd : FuncData} {ps ks : List Str} {sp : Sp} {E : XK} {x : Str} {p pos : Pos} {kws : List Keyword} {tk : TA} {g : List Value → List Value → List Value} {gV : List V → List V → List V} {pins : List (Addr × Obj)} {σ : L2.St} {H : Hp} {s : Shared} {Q : VK} {ws : List Value} {zs : List V}
/-- C(k = v, ..): the instance is made, then its __init__ -/
theorem ranMK (G : Fre X.A) (M : Mk X.K C f) (F : FnG X.prog X.w X.K X.mg X.base CX k f fd ps sp) (hr : Room (k + 1) X.A) (hb : KBn X.K fd ps 1 ks g gV) (hx : Passes CX X E) (I : Inv X pins σ H s) (rz : Vals zs ws) (l2 : zs.length = ks.length)
    (h : ∀ y dy, H y = none → H dy = none → dy ≠ y → sp (gV [.ref y] zs) (upd (upd H dy (.own y)) y (.ins C dy [])) (fun v H2 => v = .non ∧ Q (.ref y) H2) E) : wpAny (model X.prog X.w) X.A (call (.ref C) [] (ks.zip ws)) (EP X pins σ Q) X.xe s := by
  have h0 := h (s.heap.objs.size + 1) s.heap.objs.size (I.hok.fresh (Nat.le_succ _)) (I.hok.fresh (Nat.le_refl _)) (Nat.ne_of_lt (Nat.lt_succ_self _))
  have J := Inv.made (C := C) I
  have r1 : Vals [V.ref (s.heap.objs.size + 1)] [Value.ref (s.heap.objs.size + 1)] := .cons rfl .nil
  have run := F.goes (fre_make G) (hr.make C [] (ks.zip ws)) (J.env0.make C [] (ks.zip ws)) (hb.to _ [Value.ref (s.heap.objs.size + 1)] ws J.kIn rfl (rz.length.symm.trans l2)) (hb.rel r1 rz) h0
  refine wpAny_call (make_map (f := f) I.kIn M.makes M.init (beq_iff_eq.mp M.fn) (codeAny_mono run ?_))
  intro r s' z
  match r, z with
  | .error e, z => exact hx pins σ _ _ e s' J z
  | .ok (.ret u), z =>
    obtain ⟨v, H', I3, rv, ev, q3⟩ := J.after z
    cases ev
    exact And.intro rv ⟨V.ref (s.heap.objs.size + 1), H', I3, rfl, q3⟩
  | .ok .next, z => exact z.elim
  | .ok .brk, z => exact z.elim
  | .ok .cont, z => exact z.elim
def tMakeK (C : Addr) (m : Nat) (sp : Sp) (gV : List V → List V → List V) (E : XK) (tk : TA) : TE := fun σ H Q => tk σ H fun zs H2 => zs.length = m ∧
  ∀ x dx, H2 x = none → H2 dx = none → dx ≠ x → sp (gV [.ref x] zs) (upd (upd H2 dx (.own x)) x (.ins C dx [])) (fun v H3 => v = .non ∧ Q (.ref x) H3) E
theorem pkK (G : Fre X.A) (M : Mk X.K C f) (F : FnG X.prog X.w X.K X.mg X.base CX k f fd ps sp) (hr : Room (k + 1) X.A) (hg : Gl X x) (hm : X.mg x = some (.ref C)) (hb : KBn X.K fd ps 1 ks g gV) (hx : Passes CX X E)
    (hkw : PK X kws tk) (ndb : (x == ("__debug__" : Str)) = false := by decide) (hall : (backToKw pos (keywordEach kws X.env)).all (·.1.isSome) = true := by rfl) (hks : (backToKw pos (keywordEach kws X.env)).filterMap (·.1) = ks := by rfl)
    (hpl : (backToKw pos (keywordEach kws X.env)).any (·.1.isNone) = false := by rfl) :
    PE X (.Call (.Name x p) [] kws pos) (tMakeK C ks.length sp gV E tk) where
  run := fun pins s σ H Q I h => wpAny_Call_Name_kw (ld_glob I hg hm
    (PySem.W.callWith_KW0 (first := []) (h₀ := X.base) I.ok.mod.kin M.kp hall (thn (hkw.run pos pins s σ H _ I h) fun ws s2 ⟨zs, H2, I2, rz, l2, q2⟩ => by
      rw [hks]
      exact ⟨I2.kIn, ranMK G M F hr hb hx I2 rz l2 q2⟩) hpl) ndb)
end
end GL
namespace GL
open PySem PySem.Spec PyProof.Rows L2
theorem looks_is {M : Model} {u : Value} {T : String} {s : Shared} (h : s.TypeIs u T) : PySem.W.Looks M s.heap (typeOf u) (.type T) := fun A Q E s' k q => by
  have h' : s'.TypeIs u T := by
    cases u <;> first | exact h | (obtain ⟨o, e, c⟩ := h; exact ⟨o, k _ _ e, c⟩)
  exact wpAny_typeOf h' q
def kinds : List String := ["NoneType", "bool", "int", "str", "list", "tuple", "dict"]
theorem sub_kind {K : PySem.W.Frag} {C : Addr} : ∀ {T : String}, T ∈ kinds → PySem.W.subIn K (.type T) (.ref C) = some false := by
  have go : ∀ T l, fastBuiltinMro T = some l → l.contains (.ref C) = false → PySem.W.subIn K (.type T) (.ref C) = some false := fun T l h1 h2 => by
    show (fastBuiltinMro T).map (·.contains (.ref C)) = some false
    rw [h1]
    exact congrArg some h2
  intro T hT
  simp only [kinds, List.mem_cons, List.not_mem_nil, or_false] at hT
  rcases hT with rfl | rfl | rfl | rfl | rfl | rfl | rfl
  · exact go _ [.type "NoneType", .type "object"] (by decide +kernel) (by simp)
  · exact go _ [.type "bool", .type "int", .type "object"] (by decide +kernel) (by simp)
  · exact go _ [.type "int", .type "object"] (by decide +kernel) (by simp)
  · exact go _ [.type "str", .type "object"] (by decide +kernel) (by simp)
  · exact go _ [.type "list", .type "object"] (by decide +kernel) (by simp)
  · exact go _ [.type "tuple", .type "object"] (by decide +kernel) (by simp)
  · exact go _ [.type "dict", .type "object"] (by decide +kernel) (by simp)
/-- the other side of ==: one of the same class, or of a kind of Python's -/
inductive Oth (K : PySem.W.Frag) (H : Hp) (C : Addr) : V → Prop where
  | ins {b dy : Addr} {gs : List (Str × V)} (h : H b = some (.ins C dy gs)) : Oth K H C (.ref b)
  | oth {y : V} {T : String} (h : TyB K H y T) (hT : T ∈ kinds) : Oth K H C y
section
variable {X : Cx} {CX : CXT} {k : Nat} {f C : Addr} {fd : FuncData} {sp : Sp} {E : XK}
theorem Oth.go {pins : List (Addr × Obj)} {σ : L2.St} {H : Hp} {s : Shared} {y : V} {u : Value} (h : Oth X.K H C y) (I : Inv X pins σ H s) (r : RelV y u) : ∃ tb, PySem.W.Looks (model X.prog X.w) s.heap (typeOf u) tb ∧ PySem.W.notFirst X.K C tb = true := by
  cases h with
  | ins h =>
    cases r
    obtain ⟨mB, J', _⟩ := ins_get I.hok h
    obtain ⟨od', J', _⟩ := J'.look
    exact ⟨_, J'.type, by simp [PySem.W.notFirst]⟩
  | oth h hT => exact ⟨_, looks_is (h.is I r), by
      unfold PySem.W.notFirst
      rw [sub_kind hT]
      simp⟩
end
/-! ### != by the own == -/
end GL
/-! Own errors, over any of Python's classes, with an __init__ that keeps one value or nothing: made, raised, read. -/
namespace PySem
namespace GX
open PySem.W PySem.Calls PyProof.Rows PySem.HandSPX Builtin Builtin.ObjectAttr
/-- an error's class at C, its __init__ at fI, over the class that newId makes -/
structure ErrT (K : Frag) (C fI : Addr) (bmB : List Value) (newId : String) : Prop where
  ini : excInitIn K C bmB newId = true
  ov : excOver K C bmB = true
  sa : findIn K (.ref C) "__setattr__" = some (some (.builtin "object.__setattr__"))
  ga : findIn K (.ref C) "__getattribute__" = some (some (.builtin "BaseException.__getattribute__"))
  gg : findIn K (.ref C) "__getattr__" = some none
  iC : findIn K (.ref C) "__init__" = some (some (.ref fI))
  fn : isFn K (.ref fI) = true
  kp : keepIn K (.ref C) = true
  exC : subIn K (.ref C) (.type "BaseException") = some true
  ty : typeIn K (.ref C) = some (.type "type")
  hd : hasDictIn K C = true
section
variable {prog : Program} {w : World} {A : Around} {E : Value → Shared → Prop} {R : Result → Shared → Prop} {K : Frag} {C fI x t : Addr} {bmB : List Value} {B newId initId : String}
/-- the first thing that an error keeps: its dict is made -/
theorem keeps_first {hp : Heap} {g : Array GenState} {dr : Drawn} {tt : Nat} {os : OsState} {name : Str} {tk : Tok} {v : Value} (SF : StoreFacts B bmB "object.__setattr__" "object") (X : K.In hp) (T : ErrT K C fI bmB newId) (ht : takerIn K C name = some none) (hx : hp.get? x = some (excObj C t none .none))
    (hq : ∀ h' tk' dx, (∀ b o, b ≠ x → hp.get? b = some o → h'.get? b = some o) → hp.objs.size ≤ dx → dx ≠ x → h'.get? x = some (excObj C t (some dx) .none) → h'.Ns1 dx (fun y => if y = name then some v else none) → R (.ok (.ret .none)) ⟨h', g, dr, tk', os⟩) :
    codeAny (model prog w) A (.call (.builtin "object.__setattr__") ⟨[.ref x, .str name tk, v], []⟩) R ⟨hp, g, dr, tt, os⟩ := by
  refine osa_openX (s := ⟨hp, g, dr, tt, os⟩) (od := none) SF X ⟨hx, rfl, rfl, trivial⟩ T.ov ht fun b => ?_
  obtain ⟨cd, hc, hdct⟩ := any_some T.hd
  have hlt : x < hp.objs.size := Heap.lt_size hx
  refine wpAny_bind (wpAny_pure (wpAny_bind (instanceDict_exc hx (looks_clsIn X hc) hdct ?_)))
  show wpAny _ _ (storeInDict hp.objs.size (.str name tk) name v) _ _ _
  have hnew : ((hp.push (dictOf [] 0)).update x fun o => { o with dict := some hp.objs.size }).get? hp.objs.size = some (dictOf [] 0) := (Heap.get?_update_ne _ _ _ _ (Nat.ne_of_gt hlt)).trans (Heap.get?_push_at rfl rfl)
  refine store_in_new ⟨dictOf [] 0, #[], _, hnew, rfl, fun e he => absurd he (by simp), fun _ => rfl⟩ fun h' tk' hns hsame => ?_
  have hx1 : (hp.push (dictOf [] 0)).get? x = some (excObj C t none .none) := Heap.get?_push_of_some _ hx
  refine hq h' tk' hp.objs.size (fun b o hb ho => ?_) (Nat.le_refl _) (Nat.ne_of_gt hlt) ?_ hns
  · exact (hsame.2 b (Nat.ne_of_lt (Heap.lt_size ho))).trans ((Heap.get?_update_ne _ _ _ _ hb).trans (Heap.get?_push_of_some _ ho))
  · exact (hsame.2 x (Nat.ne_of_lt hlt)).trans (Heap.get?_update_self _ hx1 rfl)
theorem ld_par {M : Model} {s : Shared} {name : Str} {scope : Scope} {L a : Addr} {cd : Value} {m : Str → Option Value} {y : Str} {pos : Pos} {v : Value} {Q : Value → Shared → Prop} (hn : s.heap.Ns L m) (hv : m y = some v) (h : Q v s)
    (hk : scope.kind = .function) (hl : (envOfC name scope L a cd).kindOf y = some .local) (hd : (y == ("__debug__" : Str)) = false) :
    wpAny M A (eval (.Name y pos) (envOfC name scope L a cd)) Q E s := wpAny_Name (wpAny_loadName_local hk hl hn hv h) hd
theorem one_fits {v : Value} : [v].length ≤ sizeLine := by
  rw [sizeLine_eq]
  exact (by decide : 1 ≤ 16777216)
/-- an error was made at e, its dict at d (or none) -/
structure Kept (h h' : Heap) (e C : Addr) (d : Option Addr) : Prop where
  keep : ∀ b o, h.get? b = some o → h'.get? b = some o
  new : h.objs.size ≤ e
  obj : ∃ oe vs, h'.get? e = some oe ∧ oe.cls = .ref C ∧ oe.dict = d ∧ oe.data = .fields vs ∧ vs[1]? = some .none
end
def inivalueA (p1 p2 : Pos) : Arguments := { posonlyargs := [], args := [{ arg := "self", annotation := none, pos := p1 }, { arg := "value", annotation := none, pos := p2 }], vararg := none, kwonlyargs := [], kw_defaults := [], kwarg := none, defaults := [] }
def inivalueB (q1 q2 q3 q4 : Pos) : List Stmt := [.Assign [.Attribute (.Name "self" q1) "value" q2] (.Name "value" q3) q4]
def inivalueS : Scope := { kind := .function, names := [(PySem.Str.ofString "self", .local), (PySem.Str.ofString "value", .local)], isGenerator := false, isCoroutine := false, more := [] }
/-- it keeps one value, as value -/
structure Errvalue (K : Frag) (C fI : Addr) (bmB : List Value) (newId : String) : Prop extends ErrT K C fI bmB newId where
  tk : takerIn K C "value" = some none
  no : findIn K (.ref C) "value" = some none
  code : ∃ (oc : Value) (od : Option Addr) (doc pm : Value) (an : Option Addr) (cdv ct : Value) (osl : Array (Option Value)) (qual : Str) (p1 p2 q1 q2 q3 q4 : Pos),
    K.lookup fI = some ⟨oc, od, .func (fnOf "__init__" qual (inivalueA p1 p2) (inivalueB q1 q2 q3 q4) inivalueS .none .none doc pm an cdv ct), osl⟩ ∧ codeIn K cdv qual = true
section
variable {prog : Program} {w : World} {A : Around} {E : Value → Shared → Prop} {R : Result → Shared → Prop} {K : Frag} {C fI x t : Addr} {bmB : List Value} {B newId initId : String}
theorem init_value {s : Shared} {v : Value} (SF : StoreFacts B bmB "object.__setattr__" "object") (T : Errvalue K C fI bmB newId) (X : K.In s.heap) (hlim : s.heap.NoLimit) (hx : s.heap.get? x = some (excObj C t none .none)) (hroom : A.depth < recursionLimit)
    (hq : ∀ h' tk dx, (∀ b o, b ≠ x → s.heap.get? b = some o → h'.get? b = some o) → s.heap.objs.size ≤ dx → dx ≠ x → h'.get? x = some (excObj C t (some dx) .none) → h'.Ns1 dx (fun y => if y = "value" then some v else none) → R (.ok (.ret .none)) { s with heap := h', toks := tk }) :
    codeAny (model prog w) A (.call (.ref fI) ⟨[.ref x, v], []⟩) R s := by
  obtain ⟨oc, od, doc, pm, an, cdv, ct, osl, qual, p1, p2, q1, q2, q3, q4, ho, hcd⟩ := T.code
  refine Att.call_fn (binds := [("self", .ref x), ("value", v)]) X hlim ho hcd hroom (.of_eq rfl) rfl (fun s₁ IC => ?_) rfl rfl rfl
  obtain ⟨h₁, tk₁, rfl⟩ := IC.toInCall.same
  have kk : ∀ b o, s.heap.get? b = some o → h₁.get? b = some o := IC.toInCall.keep
  have hn := IC.toInCall.ns
  show wpAny _ _ (execs _ _) _ _ _
  refine wpAny_execs_cons (plainObj_wpAny_Assign_Attribute ?_)
  refine ld_par (v := v) hn rfl (ld_par (v := .ref x) hn rfl ?_ rfl rfl (by decide)) rfl rfl (by decide)
  refine set_plain (X.keeps kk) (ox := excObj C t none .none) (od := none) ⟨kk _ _ hx, rfl, rfl, trivial⟩ T.sa ?_
  refine keeps_first SF (X.keeps kk) T.toErrT T.tk (kk _ _ hx) fun h₃ tk₃ dx k₃ dn dne hx₃ hn₃ => ?_
  show wpAny _ _ (execs _ _) _ _ _
  have z : s.heap.objs.size < h₁.objs.size := hn.lt
  exact wpAny_execs_nil (hq h₃ tk₃ dx (fun b o hb e => k₃ b o hb (kk b o e)) (Nat.le_of_lt (Nat.lt_of_lt_of_le z dn)) dne hx₃ hn₃)
theorem made_value {s : Shared} {v : Value} (SF : StoreFacts B bmB "object.__setattr__" "object") (FB : ExcBaseFacts B newId initId bmB) (T : Errvalue K C fI bmB newId) (X : K.In s.heap) (hlim : s.heap.NoLimit) (hroom : A.depth + 1 < recursionLimit)
    (hq : ∀ h' tk e d, Kept s.heap h' e C (some d) → s.heap.objs.size ≤ d → d ≠ e → h'.Ns1 d (fun y => if y = "value" then some v else none) → R (.ok (.ret (.ref e))) { s with heap := h', toks := tk }) :
    codeAny (model prog w) A (.call (.ref C) ⟨[v], []⟩) R s := by
  obtain ⟨nm, N, qn, bs, bm, hdct, sn, sub, ab, col, dd, k0, k1, k2, k3, k5, hC, hT⟩ := excInit_of X T.ini
  obtain ⟨hp, g, dr, tk, os⟩ := s
  have kk : ∀ b o, hp.get? b = some o → ((hp.push (kdv_tup [v])).push (excO C hp.objs.size)).get? b = some o := fun b o e => Heap.get?_push_of_some _ (Heap.get?_push_of_some _ e)
  have hget : ((hp.push (kdv_tup [v])).push (excO C hp.objs.size)).get? (hp.objs.size + 1) = some (excO C hp.objs.size) := by heap_get
  refine call_own FB hT hC (looks_findIn X T.iC) (fun self => bind_fn X self (beq_iff_eq.mp T.fn)) one_fits ?_
  refine init_value (s := ⟨(hp.push (kdv_tup [v])).push (excO C hp.objs.size), g, dr, tk, os⟩) SF T (X.keeps kk) (hlim.keeps kk) hget hroom fun h' tk' dx k' dn dne hx hns => ?_
  have old : ∀ b o, hp.get? b = some o → h'.get? b = some o := fun b o e => k' b o (Nat.ne_of_lt (Nat.lt_succ_of_lt (Heap.lt_size e))) (kk b o e)
  have z : hp.objs.size + 1 + 1 ≤ dx := by
    have q := dn
    rw [Heap.size_push, Heap.size_push] at q
    exact q
  exact ⟨rfl, hq h' tk' (hp.objs.size + 1) dx ⟨old, Nat.le_succ _, _, _, hx, rfl, rfl, rfl, rfl⟩ (Nat.le_trans (Nat.le_trans (Nat.le_succ _) (Nat.le_succ _)) z) dne hns⟩
end
end GX
end PySem
/-! try with several except clauses, each with a name or without. -/
namespace GL
open PySem PySem.Spec PyProof.Rows L2
/-- a clause: the class, its suite, the slot of its name -/
structure Cl where
  c : Value
  ts : Addr → Value → Option Addr → TS
  i : Option Nat
/-- the ends of a suite whose name stands in slot i: the name is gone behind it -/
def goneD (D : Ends) (i : Nat) : Ends := { nx := fun σ H => D.nx (σ.set i none) H, rt := D.rt, bk := fun σ H => D.bk (σ.set i none) H, ct := fun σ H => D.ct (σ.set i none) H }
def runCl (k : Cl) (D : Ends) (cls : Value) (d : Option Addr) (σ : L2.St) (H : Hp) : Prop := ∀ a, H a = none → match k.i with
  | none => k.ts a cls d D σ H
  | some i => k.ts a cls d (goneD D i) (σ.set i (some (.ref a))) H
/-- what the clauses wish of an error of the body -/
def wAny (K : PySem.W.Frag) (Wout : WX) (D : Ends) : List Cl → WX
  | [] => Wout
  | k :: r => fun cls d σ H => ∃ b, PySem.W.exmOne K cls k.c = some b ∧ (b = true → runCl k D cls d σ H) ∧ (b = false → wAny K Wout D r cls d σ H)
def SuiteOk (X : Cx) (sts : List Stmt) (ts : Addr → Value → Option Addr → TS) : Prop := ∀ (a : Addr) (oe : Obj) (cls : Value) (d : Option Addr) (pn : List (Addr × Obj)), Zc cls d oe → (∃ vs, oe.data = .fields vs) → PSs (X.suite a ((a, oe) :: pn)) sts (ts a cls d)
inductive Cls' (X : Cx) : List ExceptHandler → List Cl → Prop
  | nil : Cls' X [] []
  | plain {x : Str} {c : Value} {ts : Addr → Value → Option Addr → TS} {s₀ : Stmt} {sts : List Stmt} {p1 p2 : Pos} {hs : List ExceptHandler} {l : List Cl} (hc : Names X x c) (ok : SuiteOk X (s₀ :: sts) ts) (r : Cls' X hs l) :
      Cls' X (.ExceptHandler (some (.Name x p1)) none (s₀ :: sts) p2 :: hs) (⟨c, ts, none⟩ :: l)
  | named {x n : Str} {i : Nat} {c : Value} {ts : Addr → Value → Option Addr → TS} {s₀ : Stmt} {sts : List Stmt} {p1 p2 : Pos} {hs : List ExceptHandler} {l : List Cl} (hc : Names X x c) (hN : X.N.Nodup) (hi : X.N[i]? = some n) (hn : X.env.kindOf n = some .local) (ok : SuiteOk X (s₀ :: sts) ts) (r : Cls' X hs l) :
      Cls' X (.ExceptHandler (some (.Name x p1)) (some n) (s₀ :: sts) p2 :: hs) (⟨c, ts, some i⟩ :: l)
section
variable {X : Cx} {body : List Stmt} {h₁ : ExceptHandler} {hs' : List ExceptHandler} {l : List Cl} {pos : Pos} {tb : WX → TS} {Wout : WX}
/-- an error of the body on its way to the clauses -/
def caught (X : Cx) (pins : List (Addr × Obj)) (D : Ends) (hl : List ExceptHandler) (e : Value) (s1 : Shared) : Prop :=
  wpAny (model X.prog X.w) X.A (noteFrame e X.env) (fun _ s2 => wpAny (model X.prog X.w) X.A (setFlight e none) (fun _ s3 => wpAny (model X.prog X.w) X.A (handleBy e X.env hl) (SP X pins D) X.xe s3) X.xe s2) X.xe s1
theorem ps_try_any (est : X.stack = X.env :: X.outer) (efr : X.env.frame = some X.env.locals) (tk : Takes X Wout)
    (hbody : ∀ (W : WX) (pn : List (Addr × Obj)) (xe : Value → Shared → Prop), Takes (X.tr pn xe) W → PassesOwn (model X.prog X.w) X.A X.env xe → PSs (X.tr pn xe) body (tb W)) (hcl : Cls' X (h₁ :: hs') l) :
    PS X (.Try body (h₁ :: hs') [] [] pos) (fun D σ H => tb (wAny X.K Wout D l) D σ H) := by
  constructor
  intro pins s σ H D I hb0
  have okX := I.ok
  have frA : X.A.frames = some (X.env :: X.outer) := by
    rw [okX.frames, est]
  have land : Takes (X.tr (X.pn ++ pins) (caught X pins D (h₁ :: hs'))) (wAny X.K Wout D l) := by
    rintro u t1 ⟨e, Bz, sz, pz, σ1, H1, cls, d, rfl, Jt, nbz, upz, skz, hnone, eos, bare, wish⟩
    have J : Inv X pins σ1 H1 sz := Jt.ofTry okX
    have sk1 : Sky Bz (X.env :: X.outer) e (Zc cls d) X.env.locals t1.heap := by
      rw [← est]
      exact skz
    show wpAny (model X.prog X.w) X.A (noteFrame (.ref e) X.env) _ _ _
    refine Sky.land Zc.steady frA efr sk1 fun g1 fly1 u1 => ?_
    have J1 : Inv X pins σ1 H1 { t1 with heap := g1 } := J.landed nbz fly1.1 (upz.trans u1) eos bare
    obtain ⟨oz, vz, ez, zz, dz⟩ := fly1.there
    have outF : e ∉ frs (X.env :: X.outer) := fun hm => by
      obtain ⟨_, o2, e2, hno⟩ := fly1.2.2.1.mem hm
      rw [ez] at e2
      cases e2
      exact hno _ dz
    have outL : e ≠ X.env.locals := fun z => outF (List.mem_filterMap.mpr ⟨X.env, List.mem_cons_self, by rw [efr, z]⟩)
    have outS : e ∉ X.fs := fun hm => by
      obtain ⟨v, hv, q⟩ := List.mem_filterMap.mp hm
      exact outF (List.mem_filterMap.mpr ⟨v, List.mem_cons_of_mem _ hv, q⟩)
    have S1 := J1.suite ez dz hnone outL outS
    have kind : PySem.W.Looks (model X.prog X.w) g1 (typeOf (.ref e)) cls := fun A' Q' E' s3 k3 q3 => wpAny_typeOf_ref (k3 _ _ ez) (by
      rw [zz.1]
      exact q3)
    -- the class that a clause names
    have named : ∀ {x : Str} {c : Value} {p1 : Pos}, Names X x c → ∀ {Q' E' : Value → Shared → Prop}, Q' c { t1 with heap := g1 } → wpAny (model X.prog X.w) (X.A.mark (some (.ref e))) (eval (.Name x p1) X.env) Q' E' { t1 with heap := g1 } := fun {x c p1} nm {Q' E'} q3 => by
      obtain ⟨g3, d3, m3 | ⟨m3, b3, n3⟩⟩ := nm
      · exact ld_glob (X := X.suite e ((e, oz) :: (X.pn ++ pins))) S1 g3 m3 q3 d3
      · exact ld_blt (X := X.suite e ((e, oz) :: (X.pn ++ pins))) S1 g3 m3 b3 q3 n3 d3
    have walk : ∀ {hl : List ExceptHandler} {kl : List Cl}, Cls' X hl kl → wAny X.K Wout D kl cls d σ1 H1 → wpAny (model X.prog X.w) X.A (handleBy (.ref e) X.env hl) (SP X pins D) X.xe { t1 with heap := g1 } := by
      intro hl kl hk
      induction hk with
      | nil =>
        intro w0
        refine wpAny_handleBy_nil ?_
        obtain ⟨a1, a2, a3, oe, ve, Ta, oTa, tsa, b1, b2, b3, b4, b5⟩ := id fly1
        have up : wpAny (model X.prog X.w) X.A (setFlight (.ref e) X.env.frame) (fun _ s4 => wpAny (model X.prog X.w) X.A (throw (.ref e) : Sem Flow) (SP X pins D) X.xe s4) X.xe { t1 with heap := g1 } := by
          rw [efr]
          refine HandSPX.setFlight_upZ fly1 fun g4 fly4 u4 => wpAny_throw (tk _ _ ⟨e, Bz, sz, pins, σ1, H1, cls, d, rfl, J, nbz, (upz.trans u1).trans u4, .inr (.inr ?_), hnone, eos, bare, w0⟩)
          rw [est]
          exact fly4
        unfold PySem.passOn
        refine wpAny_bind (wpAny_field b1 b3 b4 ?_)
        rw [if_neg (show ¬ ((Value.ref Ta == Value.none) = true) from by simp)]
        first
          | exact wpAny_bind (wpAny_pure (wpAny_bind up))
          | exact wpAny_bind up
      | @plain x c ts s₀ sts p1 p2 hl' kl' hc ok r ih =>
        rintro ⟨b, hb, yes, no⟩
        refine wpAny_handleBy_cons (codeAny_handlers_test ?_) (by intro q; cases q)
        refine named hc ((PySem.W.exm_one (M := model X.prog X.w) J1.kIn kind hb).here ?_)
        cases b with
        | false =>
          show wpAny _ X.A (handleBy (.ref e) X.env hl') _ _ _
          exact ih (no rfl)
        | true =>
          refine codeAny_handlers_suite (HandSPX.lands_againZ fly1 fun g4 fly4 u4 => ?_)
          have J4 : Inv X pins σ1 H1 { t1 with heap := g4 } := J.landed nbz fly4.1 ((upz.trans u1).trans u4) eos bare
          obtain ⟨o4, v4, e4, z4, d4⟩ := fly4.there
          refine wpAny_mono ((ok e o4 cls d (X.pn ++ pins) z4 ⟨_, d4⟩).run [] _ _ H1 _ (J4.suite e4 d4 hnone outL outS) (yes rfl e hnone)) (fun fl t6 q => ?_) (fun _ _ z => False.elim z)
          match fl, q with
          | .next, ⟨σ6, H6, S6, q6⟩ => exact ⟨_, _, S6.unsuite okX, q6⟩
          | .brk, ⟨σ6, H6, S6, q6⟩ => exact ⟨_, _, S6.unsuite okX, q6⟩
          | .cont, ⟨σ6, H6, S6, q6⟩ => exact ⟨_, _, S6.unsuite okX, q6⟩
          | .ret u, ⟨v6, σ6, H6, S6, r6, q6⟩ => exact ⟨_, _, _, S6.unsuite okX, r6, q6⟩
      | @named x n i c ts s₀ sts p1 p2 hl' kl' hc hN hi hn ok r ih =>
        rintro ⟨b, hb, yes, no⟩
        refine wpAny_handleBy_cons (codeAny_handlers_test ?_) (by intro q; cases q)
        refine named hc ((PySem.W.exm_one (M := model X.prog X.w) J1.kIn kind hb).here ?_)
        cases b with
        | false =>
          show wpAny _ X.A (handleBy (.ref e) X.env hl') _ _ _
          exact ih (no rfl)
        | true =>
          refine codeAny_handlers_suite_as (HandSPX.lands_againZ fly1 fun g4 fly4 u4 => ?_)
          have J4 : Inv X pins σ1 H1 { t1 with heap := g4 } := J.landed nbz fly4.1 ((upz.trans u1).trans u4) eos bare
          obtain ⟨o4, v4, e4, z4, d4⟩ := fly4.there
          have S4 := J4.suite e4 d4 hnone outL outS
          refine store_ok (X := X.suite e ((e, o4) :: (X.pn ++ pins))) (v := .ref e) S4 hN hi (.inl hn) rfl (fun s5 S5 => ?_) (.inr hn)
          refine wpAny_mono ((ok e o4 cls d (X.pn ++ pins) z4 ⟨_, d4⟩).run [] s5 _ H1 _ S5 (yes rfl e hnone)) (fun fl t6 q => ?_) (fun _ _ z => False.elim z)
          have behind : ∀ {σ6 : L2.St} {H6 : Hp} {Q6 : Shared → Prop}, Inv (X.suite e ((e, o4) :: (X.pn ++ pins))) [] σ6 H6 t6 → (∀ s7, Inv X pins (σ6.set i none) H6 s7 → Q6 s7) →
              wpAny (model X.prog X.w) X.A (do bindName X.env n .none; unbindBehindTheSuite X.env n p2) (fun _ s7 => Q6 s7) X.xe t6 := fun {σ6 H6 Q6} S6 kk => gone_ok (S6.unsuite okX) hN hi hn kk
          match fl, q with
          | .next, ⟨σ6, H6, S6, q6⟩ => exact behind S6 fun s7 J7 => ⟨_, _, J7, q6⟩
          | .brk, ⟨σ6, H6, S6, q6⟩ => exact behind S6 fun s7 J7 => ⟨_, _, J7, q6⟩
          | .cont, ⟨σ6, H6, S6, q6⟩ => exact behind S6 fun s7 J7 => ⟨_, _, J7, q6⟩
          | .ret u, ⟨v6, σ6, H6, S6, r6, q6⟩ => exact behind S6 fun s7 J7 => ⟨_, _, _, J7, r6, q6⟩
    exact walk hcl wish
  refine wpAny_Try_except ?_
  refine wpAny_mono ((hbody (wAny X.K Wout D l) (X.pn ++ pins) (caught X pins D (h₁ :: hs')) land PassesOwn.looking).run [] s σ H D (I.toTry _) hb0) (fun fl t1 q => ?_) (fun _ _ z => z)
  match fl, q with
  | .next, ⟨σ1, H1, J, q1⟩ => exact wpAny_execs_nil ⟨σ1, H1, J.ofTry okX, q1⟩
  | .brk, ⟨σ1, H1, J, q1⟩ => exact ⟨σ1, H1, J.ofTry okX, q1⟩
  | .cont, ⟨σ1, H1, J, q1⟩ => exact ⟨σ1, H1, J.ofTry okX, q1⟩
  | .ret u, ⟨v1, σ1, H1, J, rv, q1⟩ => exact ⟨v1, σ1, H1, J.ofTry okX, rv, q1⟩
end
end GL
/-! own errors: made, raised, caught, read -/
namespace GL
open PySem PySem.Spec PyProof.Rows L2
theorem relO_one {v : V} {v' : Value} (r : RelV v v') (g f : Str) : RelO (List.lookup f [(g, v)]) (if f = g then some v' else none) := by
  by_cases hw : f = g
  · rw [if_pos hw, hw]
    simp only [List.lookup, beq_self_eq_true]
    exact r
  · rw [if_neg hw]
    have qw : (f == g) = false := by simpa using hw
    simp only [List.lookup, qw]
    trivial
section
variable {X : Cx} {C fI : Addr} {bmB : List Value} {B newId initId : String} {x : Str} {p pos : Pos} {k : Nat}
/-- C(e): an error whose own dict, new, holds the value -/
def tMk1 (C : Addr) (g : Str) (ta : TA) : L2.St → Hp → XK → Prop := fun σ H Q => ta σ H fun vs H1 => ∃ v, vs = [v] ∧ ∀ d, H1 d = none → Q (.ref C) (some d) (upd H1 d (.xd [(g, v)]))
/-- a made error, taken out of the heap that is known -/
theorem out_of {pins : List (Addr × Obj)} {σ : L2.St} {H1 : Hp} {Q : XK} {hp h' : Heap} {g : Array GenState} {dr : Drawn} {tk tk' : Nat} {os : OsState} {e d : Addr} {f : Str} {v : V} {v' : Value} (T : GX.ErrT X.K C fI bmB newId) (I1 : Inv X pins σ H1 ⟨hp, g, dr, tk, os⟩) (M : GX.Kept hp h' e C (some d)) (hd : hp.objs.size ≤ d) (dne : d ≠ e)
    (hns : h'.Ns1 d (fun y => if y = f then some v' else none)) (rv : RelV v v') (q1 : ∀ d, H1 d = none → Q (.ref C) (some d) (upd H1 d (.xd [(f, v)]))) : MkP X pins σ Q (.ref e) ⟨h', g, dr, tk', os⟩ := by
  obtain ⟨oe, fv, hoe, hc, hdc, hdat, h1⟩ := M.obj
  obtain ⟨G', g1, g2⟩ := restrict h' fun b => decide (b ≠ e)
  have same : ∀ b, b ≠ e → G'.get? b = h'.get? b := fun b hb => g1 b (decide_eq_true hb)
  have gone : G'.get? e = none := g2 e (by simp)
  have old : ∀ b o, hp.get? b = some o → G'.get? b = some o := fun b o q => (same b (Nat.ne_of_lt (Nat.lt_of_lt_of_le (Heap.lt_size q) M.new))).trans (M.keep b o q)
  have dictOk : ObjOk X.prog X.w (upd H1 d (.xd [(f, v)])) G' d (.xd [(f, v)]) := ⟨_, hns.at (fun o q => (same d dne).trans q), fun y => relO_one rv f y⟩
  have J : Inv X pins σ (upd H1 d (.xd [(f, v)])) ⟨G', g, dr, tk', os⟩ := I1.laid (t' := tk') old hd dictOk
  refine ⟨e, oe, fv, ⟨G', g, dr, tk', os⟩, _, .ref C, some d, rfl, J, fun b o q => ?_, gone, hoe, ⟨hc, hdc⟩, hdat, h1, ?_, rfl, I1.bare, raises_own T.exC T.ty, q1 d (I1.hok.fresh hd)⟩
  · by_cases hb : b = e
    · rw [hb] at q
      cases gone.symm.trans q
    · exact (same b hb).symm.trans q
  · rw [upd_ne dne.symm]
    exact I1.hok.fresh M.new
theorem pmk_value {a : Expr} {ta : TA} (SF : StoreFacts B bmB "object.__setattr__" "object") (FB : ExcBaseFacts B newId initId bmB) (T : GX.Errvalue X.K C fI bmB newId) (hr : Room k X.A) (hg : Gl X x) (hm : X.mg x = some (.ref C)) (ha : PA X [a] ta) (ndb : (x == ("__debug__" : Str)) = false := by decide)
    (he : starEach (a :: []) X.env = (false, eval a X.env) :: starEach [] X.env := by rfl) (hpl : (backTo pos (starEach [] X.env)).any (·.1) = false := by rfl) : PMk X (.Call (.Name x p) [a] [] pos) (tMk1 C "value" ta) := by
  intro pins s σ H Q I h
  refine wpAny_Call_Name_kw (ld_glob I hg hm ?_ ndb)
  refine PySem.W.callWith_K (h₀ := X.base) I.ok.mod.kin T.kp (thn (ha.run pos pins s σ H _ I h) fun us s1 hh => ?_) he hpl
  obtain ⟨vs, H1, I1, r1, v, rfl, q1⟩ := hh
  refine ⟨I1.kIn, ?_⟩
  cases r1 with
  | cons rv rn =>
    rename_i v' us'
    cases rn
    have hlim := I1.nolimit
    obtain ⟨hp, g, dr, tk, os⟩ := s1
    exact wpAny_call (GX.made_value SF FB T I1.kIn hlim (by have := hr.dp; omega) fun h' tk' e d M hd dne hns => out_of T.toErrT I1 M hd dne hns rv q1)
end
/-! ### which clause takes which error -/
theorem exm_is {K : PySem.W.Frag} {S D : Addr} {b : Bool} (h1 : PySem.W.subIn K (.ref D) (.type "BaseException") = some true) (h2 : PySem.W.isClsIn K D = true) (h3 : PySem.W.typeIn K (.ref D) = some (.type "type")) (h4 : PySem.W.subIn K (.ref S) (.ref D) = some b) : PySem.W.exmOne K (.ref S) (.ref D) = some b := by
  have e2 : (PySem.W.clsIn K D).isSome = true := h2
  have e1 : (PySem.W.subIn K (.ref D) (.type "BaseException") == some true) = true := by rw [h1]; rfl
  have e3 : ((PySem.W.clsIn K D).isSome && PySem.W.typeIn K (.ref D) == some (.type "type")) = true := by rw [e2, h3]; rfl
  show (if (PySem.W.subIn K (.ref D) (.type "BaseException") == some true) = true then (if ((PySem.W.clsIn K D).isSome && PySem.W.typeIn K (.ref D) == some (.type "type")) = true then PySem.W.subIn K (.ref S) (.ref D) else none) else none) = some b
  rw [if_pos e1, if_pos e3]
  exact h4
/-! ### defs that may raise -/
section
variable {P : Program} {w : World} {K : PySem.W.Frag} {mg : Str → Option Value} {base : Heap} {x qual : Str} {st : Stmt} {f : Addr} {fd : FuncData} {N ps : List Str} {k : Nat} {sp : Sp} {CX : CXT}
theorem okGX (F : L2.Fun K x qual st f fd) (S : FnScope N ps (defScope st)) (many : ∀ vs H Q E, sp vs H Q E → vs.length = ps.length)
    (hb : ∀ (cdv : Value) (A : Around) (outer : List Env) (s : Shared) (H : Hp) (vs : List V) (Q : VK) (E : XK), Fre (A.deeper (envOfC qual (defScope st) s.heap.objs.size f cdv)) → Room k (A.deeper (envOfC qual (defScope st) s.heap.objs.size f cdv)) → sp vs H Q E →
      ∃ t, PSs (cxOf CX P w K mg base N qual (defScope st) f cdv A outer s H E) (defBody st) t ∧ t { nx := fun _ H' => Q .non H', rt := Q } (start N vs) H) : FnG P w K mg base CX (k + 1) f fd ps sp := by
  obtain ⟨c0, o0, kV, doc, pm, an, cdv, ct, s0, rfl, lk, hcd⟩ := F.ex
  exact bodied lk hcd S many fun A outer s H vs Q E g hr hsp => hb cdv A outer s H vs Q E g hr hsp
end
end GL
/-! == and != of two lists of a text and an instance, by the instances' own == -/
namespace PySem
end PySem
namespace GL
open PySem PySem.Spec PyProof.Rows L2
end GL
/-! isinstance(e, C), e an error of ours that a suite holds, with a dict of its own or without -/
namespace PySem
end PySem
namespace GL
open PySem PySem.Spec PyProof.Rows L2
end GL
/-! a lambda handed to a def, where nothing is being shown; defs whose code object has a table -/
namespace GL
open PySem PySem.Spec PyProof.Rows L2
/-- the def st stands at f, its code object at c -/
structure FunT (K : PySem.W.Frag) (x qual : Str) (st : Stmt) (f : Addr) (fd : FuncData) (c : Addr) : Prop where
  ex : ∃ (oc : Value) (od : Option Addr) (kV doc pm : Value) (an : Option Addr) (ct : Value) (osl : Array (Option Value)),
    fd = PySem.W.fnOf x qual (defArgs st) (defBody st) (defScope st) .none kV doc pm an (.ref c) ct ∧ K.lookup f = some ⟨oc, od, .func fd, osl⟩ ∧ PySem.W.codeIn K (.ref c) qual = true
section
variable {P : Program} {w : World} {K : PySem.W.Frag} {mg : Str → Option Value} {base : Heap} {x qual : Str} {st : Stmt} {f c : Addr} {fd : FuncData} {N ps : List Str} {k : Nat} {sp : Sp} {CX : CXT}
theorem okGT (F : FunT K x qual st f fd c) (S : FnScope N ps (defScope st)) (many : ∀ vs H Q E, sp vs H Q E → vs.length = ps.length)
    (hb : ∀ (A : Around) (outer : List Env) (s : Shared) (H : Hp) (vs : List V) (Q : VK) (E : XK), Fre (A.deeper (envOfC qual (defScope st) s.heap.objs.size f (.ref c))) → Room k (A.deeper (envOfC qual (defScope st) s.heap.objs.size f (.ref c))) → sp vs H Q E →
      ∃ t, PSs (cxOf CX0 P w K mg base N qual (defScope st) f (.ref c) A outer s H E).nox (defBody st) t ∧ t { nx := fun _ H' => Q .non H', rt := Q } (start N vs) H) : FnG P w K mg base CX0 (k + 1) f fd ps sp := by
  obtain ⟨c0, o0, kV, doc, pm, an, ct, s0, rfl, lk, hcd⟩ := F.ex
  exact bodied lk hcd S many fun A outer s H vs Q E g hr hsp => (hb A outer s H vs Q E g hr hsp).imp fun t z => ⟨z.1.nox, z.2⟩
end
/-- what the def at g makes of a lambda's reading, that it calls under the name a -/
def GivesG (X : Cx) (Ng : List Str) (x : Str) (sg : Scope) (g : Addr) (bg : List Stmt) (a : Str) (q : Str) (k : Nat) (TT : (XK → Hp → VK → Prop) → Hp → VK → Prop) : Prop :=
  ∀ (cd : Value) (f c' : Addr) (s : Shared) (H : Hp) (Q : VK) (tl : XK → Hp → VK → Prop),
    Fre (X.A.deeper (envOfC x sg s.heap.objs.size g cd)) → Room (k + 1) (X.A.deeper (envOfC x sg s.heap.objs.size g cd)) →
    (∀ (W : WX) (pn : List (Addr × Obj)) (xe : Value → Shared → Prop) (E : XK) (p1 p2 : Pos), Takes ((cxOf CX0 X.prog X.w X.K X.mg X.base Ng x sg g cd X.A X.stack s H E0).nox.tr pn xe) W → (∀ cls d (σ' : L2.St) H', σ'.length = Ng.length → E cls d H' → W cls d σ' H') →
      PE ((cxOf CX0 X.prog X.w X.K X.mg X.base Ng x sg g cd X.A X.stack s H E0).nox.tr pn xe) (.Call (.Name a p1) [] [] p2) (fun σZ HZ Q => σZ[0]? = some (some (.ref f)) ∧ HZ c' = some (LamX.CodeO c' q) ∧ tl E HZ Q)) →
    H c' = some (LamX.CodeO c' q) → TT tl H Q →
    ∃ t, PSs (cxOf CX0 X.prog X.w X.K X.mg X.base Ng x sg g cd X.A X.stack s H E0).nox bg t ∧ t { nx := fun _ H' => Q .non H', rt := Q } (L2.start Ng [.ref f]) H
section
variable {X : Cx} {pins : List (Addr × Obj)} {σ : L2.St} {H : Hp} {s : Shared}
theorem fre_deeper {A : Around} {e : Env} (h : Fre A) : Fre (A.deeper e) := by
  first | exact h | simpa [Around.deeper] using h
/-- the lambda that stands at f, made at s, is called in a def that runs from s on -/
theorem act_G {Ng : List Str} {qg : Str} {sg : Scope} {g f c' : Addr} {cdg pm ctv : Value} {params : Arguments} {body : Expr} {scope : Scope} {k i : Nat} {a : Str} {pn : List (Addr × Obj)} {xe : Value → Shared → Prop} {W : WX} {E : XK} {tb : TE} {p1 p2 : Pos}
    (I : Inv X pins σ H s) (L : LamX.LamS X.env.scope scope) (hf : s.heap.get? f = some (PySem.W.kla_obj "<lambda>" (X.env.qual ++ "<lambda>") params body scope (cloFrom X.env.cells scope.names []) pm c' ctv)) (hfn : H f = none) (hfr : f ∉ frs X.stack)
    (hbind : bindArgs (PySem.W.kla_fn "<lambda>" (X.env.qual ++ "<lambda>") params body scope (cloFrom X.env.cells scope.names []) pm (.ref c') ctv) ⟨[], []⟩ = pure [])
    (G : Fre (X.A.deeper (envOfC qg sg s.heap.objs.size g cdg))) (hr : Room (k + 1) (X.A.deeper (envOfC qg sg s.heap.objs.size g cdg))) (tk : Takes ((cxOf CX0 X.prog X.w X.K X.mg X.base Ng qg sg g cdg X.A X.stack s H E0).nox.tr pn xe) W) (hW : ∀ cls d (σ' : L2.St) H', σ'.length = Ng.length → E cls d H' → W cls d σ' H')
    (hbody : ∀ (A : Around) (outer : List Env) (s : Shared) (H : Hp), Fre (A.deeper (LamX.lamEnv X scope s.heap.objs.size f c')) → Room k (A.deeper (LamX.lamEnv X scope s.heap.objs.size f c')) → PE (LamX.lamCx X A outer s H E scope f c') body tb)
    (hN : Ng[i]? = some a) (hv : Vis sg a) (hd : (a == ("__debug__" : Str)) = false := by decide) (hcd : (a == ("__classdict__" : Str)) = false := by decide) :
    PE ((cxOf CX0 X.prog X.w X.K X.mg X.base Ng qg sg g cdg X.A X.stack s H E0).nox.tr pn xe) (.Call (.Name a p1) [] [] p2) (fun σZ HZ Q => σZ[i]? = some (some (.ref f)) ∧ HZ c' = some (LamX.CodeO c' (X.env.qual ++ "<lambda>")) ∧ tb σ HZ Q) := by
  constructor
  intro pinsZ sZ σZ HZ Q IZ ⟨hs, hc, ht⟩
  have look := (pe_var (X := (cxOf CX0 X.prog X.w X.K X.mg X.base Ng qg sg g cdg X.A X.stack s H E0).nox.tr pn xe) (pos := p1) (i := i) hN hv hd hcd).run pinsZ sZ σZ HZ (fun v H1 => v = .ref f ∧ H1 = HZ) IZ ⟨.ref f, hs, rfl, rfl⟩
  refine wpAny_Call_Name_kw (thn look ?_)
  rintro u s1 ⟨v, H1, I1, r1, q1, q2⟩
  rw [q2] at I1
  rw [q1] at r1
  cases (show u = Value.ref f from r1)
  have there : s1.heap.get? f = some (PySem.W.kla_obj "<lambda>" (X.env.qual ++ "<lambda>") params body scope (cloFrom X.env.cells scope.names []) pm c' ctv) := I1.base.keep f _ hf hfn hfr List.not_mem_nil
  have un : Un (frs X.stack) [] H HZ s.heap s1.heap := I1.base
  refine PySem.W.callWith_F0 ⟨_, _, _, _, there⟩ ?_
  obtain ⟨⟨oc, us, tc, g1, g2, g3⟩, _, _⟩ := I1.hok c' _ hc
  have run : codeAny (model X.prog X.w) (X.A.deeper (envOfC qg sg s.heap.objs.size g cdg)) (.call (.ref f) ⟨[], []⟩) (CR (L2.CX X.prog X.w) (envOfC qg sg s.heap.objs.size g cdg :: X.stack) X.prog X.w HZ s1 Q E) s1 := by
    refine PySem.W.kla_callFunE hr.depth there rfl L.co L.gen rfl ⟨c', oc, us, tc, rfl, g1, g2, g3⟩ ?_
    rw [hbind]
    refine wpAny_pure (wpAny_newFunctionEnv (fun y hy => (L.own y hy).2) (fun y hy => absurd hy List.not_mem_nil) (fun h1 hns hsb => ⟨I1.nolimit.fresh _ hsb, ?_⟩) L.kind)
    show codeAny _ _ (.expr body (LamX.lamEnv X scope s1.heap.objs.size f c')) _ _
    have stay : ∀ b o, s1.heap.get? b = some o → h1.get? b = some o := fun b o e => hsb.extBut b o (Nat.ne_of_lt (Heap.lt_size e)) (Heap.get?_push_of_some _ e)
    have J := LamX.lam_start2 (tk := s1.toks + ([] : List (Str × Value)).length) (A := X.A.deeper (envOfC qg sg s.heap.objs.size g cdg)) (outer := envOfC qg sg s.heap.objs.size g cdg :: X.stack) (E := E) (f := f) (c' := c') I L I1.env0 hr.hd un hns stay
    refine PySem.W.kla_codeExpr (wpAny_mono ((hbody _ _ s1 HZ (fre_deeper G) (hr.deeper _)).run [] _ _ HZ Q J ht) ?_ fun _ _ z => z)
    rintro y s2 ⟨y', H', J', ry, q⟩
    exact ⟨y', H', J'.os, J'.bare, J'.base, J'.hok, ry, q⟩
  refine wpAny_call (codeAny_mono run ?_)
  intro r s2 q
  match r, q with
  | .error e, q => exact tk e s2 (XE.of_call I1 (fun cls d H' h => hW cls d σZ H' I1.len h) q)
  | .ok (.ret y), q => exact I1.after q
  | .ok .next, q => exact q
  | .ok .brk, q => exact q
  | .ok .cont, q => exact q
end
section
variable {X : Cx}
def tLamG (T : List (Addr × Str)) (TT : (XK → Hp → VK → Prop) → Hp → VK → Prop) (t : XK → TE) : TE := fun σ H Q => LamX.Tabs T H ∧ ∀ H1, LamX.ExtN H H1 → LamX.Tabs T H1 → TT (fun E H' Q' => t E σ H' Q') H1 Q
/-- x(lambda: body) -/
theorem pe_lamG {T : List (Addr × Str)} {TT : (XK → Hp → VK → Prop) → Hp → VK → Prop} {x a : Str} {g c P : Addr} {k : Nat} {st : Stmt} {fd : FuncData} {Ng : List Str} {params : Arguments} {body : Expr} {scope : Scope} {t : XK → TE} {p lpos pos : Pos}
    (G : Fre X.A) (hg : Gl X x) (hm : X.mg x = some (.ref g)) (FG : L2.Fun X.K x x st g fd) (hb : L2.Binds X.K fd [a] []) (Sg : FnScope Ng [a] (defScope st)) (hNg : Ng[0]? = some a) (hva : Vis (defScope st) a)
    (hG : GivesG X Ng x (defScope st) g (defBody st) a (X.env.qual ++ "<lambda>") k TT)
    (TB : LamX.TabB X.base X.mg c P) (hcode : X.env.code = .ref c) (hmT : (P, X.env.qual ++ "<lambda>") ∈ T) (hu : ∀ p ∈ T, p.1 = P → p.2 = X.env.qual ++ "<lambda>") (hr : Room (k + 2) X.A) (L : LamX.LamS X.env.scope scope) (hdef : defaultsOf params X.env = ([], []))
    (hbind : ∀ (q : Str) (cl : List (Str × Addr)) (pm cv ctv : Value), bindArgs (PySem.W.kla_fn "<lambda>" q params body scope cl pm cv ctv) ⟨[], []⟩ = pure [])
    (hbody : ∀ (A : Around) (outer : List Env) (s : Shared) (H : Hp) (E : XK) (f c' : Addr), Fre (A.deeper (LamX.lamEnv X scope s.heap.objs.size f c')) → Room k (A.deeper (LamX.lamEnv X scope s.heap.objs.size f c')) → PE (LamX.lamCx X A outer s H E scope f c') body (t E))
    (hdb : (x == ("__debug__" : Str)) = false := by decide) (hd : (a == ("__debug__" : Str)) = false := by decide) (hcd : (a == ("__classdict__" : Str)) = false := by decide) :
    PE X (.Call (.Name x p) [.Lambda params body scope lpos] [] pos) (tLamG T TT t) := by
  constructor
  intro pins s σ H Q I ⟨hT, h⟩
  obtain ⟨oc, od, kV, doc, pm, an, cdv, ct, osl, rfl, lk, hcg⟩ := FG.ex
  refine wpAny_Call_Name_kw (ld_glob I hg hm (PySem.W.callWith_K (h₀ := X.base) I.ok.mod.kin FG.kp ?_ (by rfl) (by rfl)) hdb)
  show wpAny _ _ (spliced ((false, eval (.Lambda params body scope lpos) X.env) :: backTo pos (starEach [] X.env))) _ _ s
  refine Calls.spliced_cons (LamX.lam_make2 I TB hcode hmT hu hT hdef (L.has I.ok) fun f c' pm' ctv H1 s' I1 eN T1 hf hfn hfr hco => Calls.spliced_nil ⟨I1.kIn, ?_⟩)
  have rc : codeAny (model X.prog X.w) X.A (.call (.ref g) ⟨[.ref f], []⟩) (CR CX0 X.stack X.prog X.w H1 s' Q E0) s' := by
    refine LamX.run_ofS (N := Ng) (ps := [a]) (us := [.ref f]) (vs := [.ref f]) lk hcg Sg hr I1.env0 (hb s' [.ref f] I1.kIn rfl) (.cons rfl .nil) rfl fun hr' => ?_
    have gz : Fre (X.A.deeper (envOfC x (defScope st) s'.heap.objs.size g cdv)) := fre_deeper G
    obtain ⟨tz, h1, h2⟩ := hG cdv f c' s' H1 Q (fun E H' Q' => t E σ H' Q') gz hr' (fun W pn xe E p1 p2 tk hW => act_G (i := 0) I1 L hf hfn hfr (hbind _ _ _ _ _) gz hr' tk hW (fun A outer s H g2 hr2 => hbody A outer s H E f c' g2 hr2) hNg hva hd hcd) hco (h H1 eN T1)
    exact ⟨tz, h1.nox, h2⟩
  refine wpAny_call (codeAny_mono rc ?_)
  intro r s2 q
  match r, q with
  | .error e, q => exact (show False from q).elim
  | .ok (.ret y), q => exact I1.after q
  | .ok .next, q => exact q
  | .ok .brk, q => exact q
  | .ok .cont, q => exact q
end
end GL
/-! properties of own classes, calls of a local that holds a def, where nothing is being shown -/
namespace GL
open PySem PySem.Spec PyProof.Rows L2
section
variable {X : Cx} {CX : CXT} {k i : Nat} {C p g f : Addr} {m x : Str} {fd : FuncData} {ps : List Str} {sp : Sp} {ds : List Value} {dvs : List V} {E : XK} {e : Expr} {es : List Expr} {pos q : Pos} {ta : TE} {t : TA}
/-- o.m, m a property -/
theorem pgP (G : Fre X.A) (he : PE X e ta) (c : Cls X.K C) (hp : PropOf X.K C m p g) (F : FnG X.prog X.w X.K X.mg X.base CX k g fd ps sp) (hr : Room (k + 1) X.A) (hb : Binds X.K fd ps ds) (hd : Vals dvs ds) (hx : Passes CX X.nox E)
    (hab : attributeBase e m X.env (eval e X.env) = eval e X.env := by rfl) : PE X (.Attribute e m pos) (tProp C sp dvs E ta) := by
  constructor
  intro pins s σ H Q I h
  refine attr_of hab (thn (he.run pins s σ H _ I h) ?_)
  rintro u s1 ⟨y, H1, I1, ry, a, dx, fs, rfl, ea, q1⟩
  cases (show u = Value.ref a from ry)
  obtain ⟨mA, O, _⟩ := ins_get I1.hok ea
  obtain ⟨od, J, _⟩ := O.look
  obtain ⟨rest, hrec⟩ := hp.rec_
  obtain ⟨cd, hc, _⟩ := PySem.W.any_some c.hd
  have hcs : (PySem.W.clsIn X.K C).isSome = true := by
    rw [hc]
    rfl
  have I2 := I1.tok (s1.toks + 1)
  have ra : Vals (.ref a :: dvs) (.ref a :: ds) := .cons rfl hd
  have hl : ([Value.ref a] ++ ds).length = ps.length := by
    rw [← F.many _ _ _ _ q1]
    exact ra.length.symm
  have run := F.goes (A := X.A.in1) (outer := X.stack) (s := { s1 with toks := s1.toks + 1 }) (H := H1) (args := ⟨[.ref a], []⟩) (us := .ref a :: ds) (vs := .ref a :: dvs) (Q := Q) (E := E) G hr.in1 I2.env0.in1 (hb _ [.ref a] I2.kIn hl) ra q1
  refine PySem.W.get_bind I1.kIn J (PySem.W.plainGet_of (c.get m)).1 (PySem.W.findObj_data hcs hp.at_ hp.get hp.tak) (PySem.W.plainGet_of (c.get m)).2 (wpAny_call (PySem.W.prop_get (s := { s1 with toks := s1.toks + 1 }) I1.kIn hrec (codeAny_mono run ?_)))
  intro r s2 z
  match r, z with
  | .error er, z => exact (hx pins σ H1 { s1 with toks := s1.toks + 1 } er s2 (I2.wish _) z).elim
  | .ok (.ret v), z =>
    obtain ⟨w, H2, I3, rv, q3⟩ := I2.after z
    show wpAny _ _ (handedOut v) _ _ _
    rw [PySem.W.handedOut_of (handed_of rv)]
    exact wpAny_pure ⟨w, H2, I3, rv, q3⟩
  | .ok .next, z => exact z.elim
  | .ok .brk, z => exact z.elim
  | .ok .cont, z => exact z.elim
/-- y(e, ..), y a local that holds one of several defs -/
structure HeldG (P : Program) (w : World) (K : PySem.W.Frag) (mg : Str → Option Value) (base : Heap) (k : Nat) (f : Addr) (sp : Sp) : Prop where
  ex : ∃ (fd : FuncData) (ps : List Str), FnG P w K mg base CX0 k f fd ps sp ∧ PySem.W.keepIn K (.ref f) = true ∧ Binds K fd ps []
def tHeld (i : Nat) (S : Addr → Sp → Prop) (t : TA) : TE := fun σ H Q => ∃ f sp, σ[i]? = some (some (.ref f)) ∧ S f sp ∧ t σ H fun vs H1 => sp vs H1 Q E0
theorem pcH {S : Addr → Sp → Prop} (G : Fre X.A) (A : ∀ f sp, S f sp → HeldG X.prog X.w X.K X.mg X.base k f sp) (hr : Room k X.A) (hN : X.N[i]? = some x) (hv : Vis X.env.scope x) (ha : PA X (e :: es) t)
    (hdb : (x == ("__debug__" : Str)) = false := by decide) (hcd : (x == ("__classdict__" : Str)) = false := by decide)
    (he : starEach (e :: es) X.env = (false, eval e X.env) :: starEach es X.env := by rfl) (hpl : (backTo pos (starEach es X.env)).any (·.1) = false := by rfl) : PE X (.Call (.Name x q) (e :: es) [] pos) (tHeld i S t) := by
  constructor
  intro pins s σ H Q I h
  obtain ⟨f, sp, hs, hS, ht⟩ := h
  obtain ⟨fd, ps, F, hk, hb⟩ := (A f sp hS).ex
  refine wpAny_Call_Name_kw (thn ((pe_var (pos := q) hN hv hdb hcd).run pins s σ H (fun v H1 => v = .ref f ∧ H1 = H) I ⟨.ref f, hs, rfl, rfl⟩) ?_)
  rintro u s1 ⟨v, H1, I1, r1, rfl, rfl⟩
  cases (show u = Value.ref f from r1)
  refine PySem.W.callWith_K (h₀ := X.base) I.ok.mod.kin hk (thn (ha.run pos pins s1 σ _ _ I1 ht) ?_) he hpl
  rintro us s2 ⟨vs, H2, I2, r, q2⟩
  refine ⟨I2.kIn, wpAny_call (codeAny_mono (F.goes G hr I2.env0 (by
    have z := hb s2 us I2.kIn (by rw [List.append_nil, ← r.length]; exact F.many _ _ _ _ q2)
    rw [List.append_nil] at z
    exact z) r q2) ?_)⟩
  intro r s3 z
  match r, z with
  | .error er, z => exact z.elim
  | .ok (.ret y), z => exact I2.after z
  | .ok .next, z => exact z.elim
  | .ok .brk, z => exact z.elim
  | .ok .cont, z => exact z.elim
end
end GL
/-! a dict laid into another one: {**d, ..} -/
namespace PySem
namespace DM
open PySem
section
variable {prog : Program} {w : World} {K : Type} [DecidableEq K] {knd : KeyKind prog w K} {A : Around} {E : Value → Shared → Prop} {s : Shared}
/-- one pair, its hash at hand -/
theorem put_one {d : Addr} {kvs : List (K × Value)} {k : K} {key v : Value} {Q : Unit → Shared → Prop} (hkey : knd.is k key = true) (hm : s.heap.DictOf knd d kvs)
    (hQ : ∀ h', h'.DictOf knd d (stored kvs k v) → Heap.SameBut d s.heap h' → Q () { s with heap := h' }) (hsz : kvs.length ≤ sizeLine) : wpAny (model prog w) A (dictPut d (knd.hash k) key v) Q E s := by
  refine (?_ : wpAny (model prog w) A (do
    match ← dictFind d key (knd.hash k) with
    | some i => updateDict d (·.modify i fun e => { e with val := v })
    | none => updateDictKeys d (·.push ⟨knd.hash k, key, v⟩)) Q E s)
  obtain ⟨o, es, ep, ho, hc, hd, hk, hp, hn⟩ := hm
  have len : es.size = kvs.length := by
    have := hp.length
    simpa using this
  refine wpAny_bind (wpAny_dictFind_of hkey ho hd hk ?_)
  have same : (es.findIdx? fun e => knd.is k e.key) = kvs.findIdx? fun kv => decide (kv.1 = k) := by
    have := hp.findIdx k
    obtain ⟨l⟩ := es
    simpa using this
  cases at_ : es.findIdx? fun e => knd.is k e.key with
  | some i =>
    rw [at_] at same
    have there := any_of_findIdx_some same.symm
    refine wpAny_updateDict ho hd (hQ _ ⟨_, _, ep, Heap.get?_update_self _ ho (Obj.isFreed_of_dict (Obj.data_mapDict hd _)), hc.mapDict _, Obj.data_mapDict hd _, hk.modify _ _, ?_, ?_⟩ (Heap.SameBut.update ..))
    · rw [stored, if_pos there]
      have hl : (es.toList.findIdx? fun e => knd.is k e.key) = some i := by
        obtain ⟨l⟩ := es
        simpa using at_
      have := hp.modify hn hl v
      obtain ⟨l⟩ := es
      simpa using this
    · rw [stored, if_pos there, keys_map_store]
      exact hn
  | none =>
    rw [at_] at same
    have off := not_mem_of_findIdx_none same.symm
    have nope : ¬ (kvs.any fun kv => decide (kv.1 = k)) = true := fun z => by
      obtain ⟨kv, h1, h2⟩ := List.any_eq_true.mp z
      exact off (List.mem_map.mpr ⟨kv, h1, of_decide_eq_true h2⟩)
    refine wpAny_updateDictKeys (hz := by omega) ho hd (hQ _ ⟨_, _, ep + 1, Heap.get?_update_self _ ho (Obj.isFreed_of_dict (Obj.data_mapDictKeys hd _)), hc.mapDictKeys _, Obj.data_mapDictKeys hd _, hk.push hkey _, ?_, ?_⟩ (Heap.SameBut.update ..))
    · rw [stored, if_neg nope]
      have := hp.append hkey (knd.hash k) v
      obtain ⟨l⟩ := es
      simpa using this
    · rw [stored, if_neg nope, List.map_append, List.nodup_append]
      refine ⟨hn, by simp, fun a ha b hb e => ?_⟩
      rw [List.map_singleton, List.mem_singleton] at hb
      have hb : b = k := hb
      exact off (by rw [← hb, ← e]; exact ha)
theorem pairs_at {es : List DictEntry} {kvs : List (K × Value)} (h : Pairs knd es kvs) : ∀ (i : Nat) (hi : i < es.length), ∃ kv, kvs[i]? = some kv ∧ knd.is kv.1 es[i].key = true ∧ es[i].val = kv.2 := by
  induction h with
  | nil => exact fun i hi => absurd hi (Nat.not_lt_zero i)
  | @cons e kv es kvs h1 h2 _ ih =>
    intro i hi
    cases i with
    | zero => exact ⟨kv, rfl, h1, h2⟩
    | succ i =>
      obtain ⟨kv', a, b, c⟩ := ih i (by simpa using hi)
      exact ⟨kv', by simpa using a, by simpa using b, by simpa using c⟩
/-- the pairs, one by one -/
def tail (p a : Addr) : Sem Unit := do
  let es ← dictEntries a
  let epoch ← dictEpoch a
  forIn (List.range es.size) PUnit.unit fun i _ => do
    let es ← dictEntries a
    match es[i]? with
    | some e => do
      holding [e.key, e.val] (dictPut p e.hash e.key e.val)
      let n ← dictEpoch a
      if (n != epoch) = true then do
        let _ ← (unsupported "dict.changed-during-merge" : Sem Unit)
        pure (ForInStep.yield PUnit.unit)
      else pure (ForInStep.yield PUnit.unit)
    | _ => do
      let _ ← (unsupported "dict.changed-during-merge" : Sem Unit)
      pure (ForInStep.yield PUnit.unit)
  pure ()
theorem tail_ok {p a : Addr} {kvs more : List (K × Value)} {Q : Unit → Shared → Prop} (hm : s.heap.DictOf knd p kvs) (ha : s.heap.DictOf knd a more) (ne : p ≠ a) (hz : kvs.length + more.length ≤ sizeLine)
    (hQ : ∀ h', h'.DictOf knd p (merged kvs more) → Heap.SameBut p s.heap h' → Q () { s with heap := h' }) : wpAny (model prog w) A (tail p a) Q E s := by
  obtain ⟨oa, ea, epa, hoa, hca, hda, hka, hpa, hna⟩ := id ha
  have len : ea.size = more.length := by
    have := hpa.length
    simpa using this
  unfold tail
  refine wpAny_bind (wpAny_dictEntries hoa hda (wpAny_bind (wpAny_dictEpoch hoa hda (wpAny_bind ?_))))
  refine wpAny_forIn_list _ (fun rest _ s' => ∃ i, rest = List.range' i (ea.size - i) ∧ i ≤ ea.size ∧ s'.gens = s.gens ∧ s'.drawn = s.drawn ∧ s'.toks = s.toks ∧ s'.os = s.os ∧ s'.heap.DictOf knd p (merged kvs (more.take i)) ∧ Heap.SameBut p s.heap s'.heap) _ ?_ ?_ _ _ ?_
  · rintro x rest _ s' ⟨i, hr, hi, g1, g2, g3, g4, hd', same⟩
    have lt : i < ea.size := by
      by_cases q : i < ea.size
      · exact q
      · rw [Nat.sub_eq_zero_of_le (by omega)] at hr
        cases hr
    obtain ⟨n, hn⟩ : ∃ n, ea.size - i = n + 1 := ⟨ea.size - i - 1, by omega⟩
    rw [hn, List.range'_succ] at hr
    cases hr
    have hoa' : s'.heap.get? a = some oa := (same.2 a ne.symm).trans hoa
    refine wpAny_bind (wpAny_dictEntries hoa' hda ?_)
    rw [Array.getElem?_eq_getElem lt]
    obtain ⟨k, hkey, hhash⟩ := hka ea[x] (Array.getElem_mem lt)
    obtain ⟨kv, hkv, his, hval⟩ := pairs_at hpa x (by simpa using lt)
    have e1 : ea.toList[x] = ea[x] := by simp
    rw [e1] at his hval
    have ek : kv.1 = k := knd.inj _ _ _ his hkey
    have lenm := merged_length_le kvs (more.take x)
    have lt2 : (more.take x).length ≤ x := List.length_take_le ..
    show wpAny _ _ (holding [ea[x].key, ea[x].val] (dictPut p ea[x].hash ea[x].key ea[x].val) >>= _) _ _ _
    rw [hhash]
    refine wpAny_bind (wpAny_holding (put_one hkey hd' (fun h' hd2 same2 => ?_) (by omega)))
    have sm : Heap.SameBut p s.heap h' := ⟨same2.1.trans same.1, fun b hb => (same2.2 b hb).trans (same.2 b hb)⟩
    have hoa2 : h'.get? a = some oa := (sm.2 a ne.symm).trans hoa
    refine wpAny_bind (wpAny_dictEpoch hoa2 hda ?_)
    rw [if_neg (by simp)]
    refine wpAny_pure ⟨x + 1, ?_, by omega, g1, g2, g3, g4, ?_, sm⟩
    · rw [show ea.size - (x + 1) = n by omega]
    · rw [merged_take_succ _ _ _ _ hkv, ek, ← hval]
      exact hd2
  · rintro _ s' ⟨i, hr, hi, g1, g2, g3, g4, hd', same⟩
    have e : i = ea.size := by
      by_cases q : i < ea.size
      · obtain ⟨n, hn⟩ : ∃ n, ea.size - i = n + 1 := ⟨ea.size - i - 1, by omega⟩
        rw [hn, List.range'_succ] at hr
        cases hr
      · omega
    rw [e, len, List.take_length] at hd'
    refine wpAny_pure ?_
    have z := hQ _ hd' same
    obtain ⟨h1, h2, h3, h4, h5⟩ := s'
    cases g1
    cases g2
    cases g3
    cases g4
    exact z
  · refine ⟨0, by rw [List.range_eq_range', Nat.sub_zero], Nat.zero_le _, rfl, rfl, rfl, rfl, ?_, ⟨rfl, fun _ _ => rfl⟩⟩
    simpa [merged] using hm
theorem merge_into {p a : Addr} {kvs more : List (K × Value)} {Q : Unit → Shared → Prop} (hm : s.heap.DictOf knd p kvs) (ha : s.heap.DictOf knd a more) (na : (a == sysModules) = false) (ne : p ≠ a) (hz : kvs.length + more.length ≤ sizeLine)
    (hQ : ∀ h', h'.DictOf knd p (merged kvs more) → Heap.SameBut p s.heap h' → Q () { s with heap := h' }) : wpAny (model prog w) A (mergeMapping p (.ref a) false) Q E s := by
  obtain ⟨oa, ea, epa, hoa, hca, hda, hka, hpa, hna⟩ := id ha
  obtain ⟨op, ep, epp, hop, hcp, hdp, hkp, hpp, hnp⟩ := id hm
  have ty : s.TypeIs (.ref a) "dict" := ⟨oa, hoa, hca.1⟩
  unfold mergeMapping
  refine wpAny_bind (wpAny_isInstance ty isSubtype_dict_dict ?_)
  rw [if_pos rfl]
  refine wpAny_bind (wpAny_specialOf ty PySem.F.slot_dict_iter.lookup (wpAny_bind (wpAny_pure ?_)))
  have t : (some (Value.builtin "dict.__iter__") == some (Value.builtin "dict.__iter__")) = true := by decide +kernel
  rw [t]
  have nn : ¬ (a == sysModules) = true := by
    rw [na]
    exact Bool.false_ne_true
  show wpAny _ _ (if (a == sysModules) = true then _ else _) _ _ _
  rw [if_neg nn]
  refine wpAny_bind (wpAny_dictEntries hop hdp ?_)
  have rest := tail_ok (A := A) (E := E) (Q := Q) hm ha ne hz hQ
  by_cases hemp : ep.isEmpty = true
  · rw [if_pos hemp]
    have loop : (forIn ea PUnit.unit fun (e : DictEntry) (_ : PUnit) => (match e.key with
          | Value.ref a => do
            let q ← specialOf e.key (Str.ofString "__eq__")
            if (q != some (Value.builtin "object.__eq__")) = true then
                if (Array.filter (fun x => x.hash == e.hash) ea).size > 1 then do
                  let _ ← (unsupported "dict.merge-into-an-empty-dict:keys-of-equal-hash" : Sem PUnit)
                  pure (ForInStep.yield PUnit.unit)
                else pure (ForInStep.yield PUnit.unit)
              else pure (ForInStep.yield PUnit.unit)
          | _ => pure (ForInStep.yield PUnit.unit) : Sem (ForInStep PUnit))) = pure PUnit.unit := by
      rw [← Array.forIn_toList]
      refine forIn_yield_id _ fun e he c => ?_
      obtain ⟨k, hkey, _⟩ := hka e (Array.mem_toList_iff.mp he)
      have cv := knd.byValue k _ hkey
      cases q : e.key with
      | ref b =>
        rw [q] at cv
        exact absurd cv Bool.false_ne_true
      | _ => rfl
    exact wpAny_bind (wpAny_dictEntries hoa hda (wpAny_bind (wpAny_of_eq loop rest)))
  · rw [if_neg hemp]
    exact rest
end
end DM
end PySem
namespace PySem
namespace DM
open PySem
section
variable {prog : Program} {w : World} {K : Type} [DecidableEq K] {knd : KeyKind prog w K} {A : Around} {E : Value → Shared → Prop} {s : Shared}
theorem gather (main : Option Addr) (f : (Option (Sem Value) × Sem Value) → (Option Addr × List (Sem Value × Sem Value)) → Sem (ForInStep (Option Addr × List (Sem Value × Sem Value))))
    (hf : ∀ (p : Sem Value × Sem Value) (run : List (Sem Value × Sem Value)), run.length + 1 < 17 → f (some p.1, p.2) (main, run) = pure (.yield (main, run ++ [p]))) :
    ∀ (items run : List (Sem Value × Sem Value)), run.length + items.length < 17 → forIn (items.map fun p => (some p.1, p.2)) (main, run) f = pure (main, run ++ items) := by
  intro items
  induction items with
  | nil =>
    intro run _
    rw [List.append_nil]
    rfl
  | cons p rest ih =>
    intro run h
    rw [List.length_cons] at h
    rw [List.map_cons, List.forIn_cons, hf p run (by omega), pure_bind]
    have z := ih (run ++ [p]) (by rw [List.length_append, List.length_singleton]; omega)
    rw [List.append_assoc] at z
    exact z
/-- {**m, k: v, ..} -/
theorem star_display {v0 : Sem Value} {pairs : List (Sem Value × Sem Value)} {Q : Value → Shared → Prop} (h0 : pairs ≠ []) (hlen : pairs.length ≤ 15)
    (h : wpAny (model prog w) A v0 (fun m s1 => ∃ (a : Addr) (more : List (K × Value)), m = .ref a ∧ s1.heap.DictOf knd a more ∧ s1.heap.DictOf knd s.heap.objs.size [] ∧ (a == sysModules) = false ∧ s.heap.objs.size ≠ a ∧ more.length ≤ sizeLine ∧
      ∀ h1, h1.DictOf knd s.heap.objs.size more → Heap.SameBut s.heap.objs.size s1.heap h1 →
        wpAny (model prog w) A (evalPairs pairs) (fun vs s2 => ∃ kvs m2, Carries knd vs kvs ∧ s2.heap.DictOf knd h1.objs.size [] ∧ s2.heap.DictOf knd s.heap.objs.size m2 ∧ h1.objs.size ≠ s.heap.objs.size ∧ m2.length + kvs.length ≤ sizeLine ∧ (h1.objs.size == sysModules) = false ∧
          ∀ hm h2, hm.DictOf knd h1.objs.size (merged [] kvs) → Heap.SameBut h1.objs.size s2.heap hm → h2.DictOf knd s.heap.objs.size (merged m2 (merged [] kvs)) → Heap.SameBut s.heap.objs.size hm h2 → Q (.ref s.heap.objs.size) { s2 with heap := h2, toks := s2.toks + vs.length }) E
          { s1 with heap := h1.push { cls := .type "dict", data := .dict #[] } }) E { s with heap := s.heap.push { cls := .type "dict", data := .dict #[] } }) :
    wpAny (model prog w) A (dictDisplay ((none, v0) :: pairs.map fun p => (some p.1, p.2))) Q E s := by
  unfold dictDisplay
  dsimp only
  rw [List.forIn_cons]
  simp only [List.isEmpty_nil, if_true, pure_bind, bind_assoc]
  refine wpAny_bind (wpAny_alloc ?_)
  refine wpAny_bind (wpAny_holding (wpAny_mono h (fun m s1 hh => ?_) fun _ _ z => z))
  obtain ⟨a, more, rfl, ha, hp, na, ne, hz, k⟩ := hh
  have nd : (more.map (·.1)).Nodup := by
    obtain ⟨_, _, _, _, _, _, _, _, nd⟩ := ha
    exact nd
  refine wpAny_bind (wpAny_onRaise (wpAny_tryCatch (wpAny_onRaise (wpAny_holding (merge_into hp ha na ne (by rw [List.length_nil]; omega) fun h1 hd1 sm1 => ?_)))))
  rw [merged_nil_of_nodup more nd] at hd1
  have go := k h1 hd1 sm1
  rw [gather (some s.heap.objs.size) _ (fun p run hr => by
    have hne : ((run ++ [(p.1, p.2)]).length == 17) = false := by simp; omega
    simp only [hne, Bool.false_eq_true, if_false]) pairs [] (by rw [List.length_nil]; omega)]
  simp only [pure_bind, List.nil_append]
  have ie : ¬ pairs.isEmpty = true := by
    rw [List.isEmpty_iff]
    exact h0
  rw [if_neg ie]
  simp only [bind_assoc]
  refine wpAny_bind (wpAny_holding (wpAny_subDict (knd := knd) hlen (wpAny_mono go (fun vs s2 hh => ?_) fun _ _ z => z)))
  obtain ⟨kvs, m2, hc, hs, hm, nn, hz2, nsm, kk⟩ := hh
  refine ⟨kvs, hc, hs, fun h2 hs2 sm2 => ?_⟩
  have hm2 : h2.DictOf knd s.heap.objs.size m2 := hm.sameBut sm2 nn.symm
  refine wpAny_bind (wpAny_onRaise (wpAny_holding (merge_into (s := { s2 with heap := h2, toks := s2.toks + vs.length }) hm2 hs2 nsm nn.symm (by
    have := merged_length_le ([] : List (K × Value)) kvs
    rw [List.length_nil] at this
    omega) fun h3 hd3 sm3 => ?_)))
  simp only [pure_bind]
  exact wpAny_pure (kk h2 h3 hs2 sm2 hd3 sm3)
end
end DM
end PySem
namespace GL
open PySem PySem.Spec PyProof.Rows L2
/-- {**d, k: v, ..}: p the new dict, q the one of the further pairs -/
def tStarD (te : TE) (trs : List (TE × TE)) : TE := fun σ H Q => ∀ p, H p = none → te σ (upd H p (.dK [])) fun x H1 => H1 p = some (.dK []) ∧ ∃ (a : Addr) (more : List (Key × V)), x = .ref a ∧ Rd H1 a (.dK more) ∧ p ≠ a ∧ more.length ≤ 1000 ∧
  ∀ q, q ≠ p → H1 q = none → tPairs trs σ (upd (upd H1 p (.dK more)) q (.dK [])) fun ps H2 => H2 p = some (.dK more) ∧ H2 q = some (.dK []) ∧ ∃ kvs : List (Key × V), ps = kvs.map (fun kv => (kV kv.1, kv.2)) ∧ kvs.length ≤ 15 ∧
    Q (.ref p) (upd (upd H2 q (.dK (mergeK [] kvs))) p (.dK (mergeK more (mergeK [] kvs))))
theorem pe_starD {X : Cx} {pos : Pos} {d : Expr} {te : TE} {keys : List (Option Expr)} {values : List Expr} {trs : List (TE × TE)} (he : PE X d te) (h : PPs X pos keys values trs) (hall : keys.all (·.isSome) = true) (hl : keys.length = values.length) (h0 : keys ≠ [])
    (h15 : keys.length ≤ 15) : PE X (.Dict (none :: keys) (d :: values) pos) (tStarD te trs) := by
  constructor
  intro pins s σ H Q I q
  have hn := I.hok.fresh (Nat.le_refl s.heap.objs.size)
  have I1 := I.laid (a := s.heap.objs.size) (o := .dK []) (h' := s.heap.push { cls := .type "dict", data := .dict #[] }) (t' := s.toks) (fun _ _ q => Heap.get?_push_of_some _ q) (Nat.le_refl _) (dk_empty s.heap I.big)
  rw [arm_eval_Dict]
  show wpAny _ _ (standAt pos >>= fun _ => dictDisplay ((none, do let x ← eval d X.env; standAt pos; pure x) :: (evalEachOpt keys X.env).zip ((evalEach values X.env).map fun v => do let x ← v; standAt pos; pure x))) _ _ _
  rw [zip_pairTrees keys values X.env pos hall hl]
  have pl := pairTrees_length keys values X.env pos hall hl
  refine wpAny_bind (wpAny_standAt (DM.star_display (knd := mixKind X.prog X.w) (fun z => ?_) (by rw [pl]; exact h15) (wpAny_bind (thn (he.run pins _ σ _ _ I1 (q _ hn)) fun u s1 hh => wpAny_bind (wpAny_standAt (wpAny_pure ?_))))))
  · rw [z] at pl
    exact h0 (List.length_eq_zero_iff.mp pl.symm)
  obtain ⟨x, H1, I2, rx, hp, a, more, rfl, ra, ne, hz, k⟩ := hh
  cases (show u = Value.ref a from rx)
  obtain ⟨zp, sp0, vp, rp, dp⟩ := dk_of I2.hok hp
  cases rp
  obtain ⟨za, sa, va, rva, da⟩ := dk_rd I2.hok ra
  have lv : va.length = more.length := rva.length.symm
  refine ⟨a, va, rfl, da, dp, sa, ne, by rw [lv]; exact za, fun h1 hd1 sm1 => ?_⟩
  have ex1 : ∃ o, h1.get? s.heap.objs.size = some o := by
    obtain ⟨o, _, _, ho, _⟩ := hd1
    exact ⟨o, ho⟩
  have I3 := d_write (t' := s1.toks) I2 (by rw [hp]; exact True.intro) sm1 ex1 (dk_new za sp0 rva hd1)
  have nq := I3.hok.fresh (Nat.le_refl h1.objs.size)
  have nqp : h1.objs.size ≠ s.heap.objs.size := fun e => by
    rw [e, upd_same] at nq
    cases nq
  have nq1 : H1 h1.objs.size = none := by rw [upd_ne nqp] at nq; exact nq
  have I4 := I3.laid (a := h1.objs.size) (o := .dK []) (h' := h1.push { cls := .type "dict", data := .dict #[] }) (t' := s1.toks) (fun _ _ q => Heap.get?_push_of_some _ q) (Nat.le_refl _) (dk_empty h1 I3.big)
  refine thn (h.run pins _ σ _ _ I4 (k h1.objs.size nqp nq1)) fun ws s2 hh2 => ?_
  obtain ⟨ps, H2, I5, rel, e1, e2, kvs, eps, lk, q2⟩ := hh2
  subst eps
  obtain ⟨rs, c, rk⟩ := carries_of (P := X.prog) (w := X.w) rel
  obtain ⟨z1, sq, vs0, r0, dd⟩ := dk_of I5.hok e2
  cases r0
  obtain ⟨z2, _, m2, r2, dd2⟩ := dk_of I5.hok e1
  have l2 : m2.length = more.length := r2.length.symm
  have lr : rs.length = kvs.length := rk.length.symm
  refine ⟨rs, m2, c, dd, dd2, nqp, by rw [l2, lr, sizeLine_eq]; omega, sq, fun hm h2 a1 a2 a3 a4 => ?_⟩
  have lm := length_mergeK kvs []
  have lm2 := length_mergeK (mergeK [] kvs) more
  rw [List.length_nil] at lm
  have I6 := d_write (t' := s2.toks) I5 (by rw [e2]; exact True.intro) a2 (by
    obtain ⟨o, _, _, ho, _⟩ := a1
    exact ⟨o, ho⟩) (dk_new (by rw [sizeLine_eq]; omega) sq (rk.merge .nil) a1)
  have I7 := d_write (t' := s2.toks + ws.length) I6 (by rw [upd_ne nqp.symm, e1]; exact True.intro) a4 (by
    obtain ⟨o, _, _, ho, _⟩ := a3
    exact ⟨o, ho⟩) (dk_new (by rw [sizeLine_eq]; omega) sp0 (KV.merge (rk.merge .nil) r2) a3)
  exact ⟨.ref s.heap.objs.size, _, I7, rfl, q2⟩
end GL
/-! C(**d): what a call's mapping is read as -/
namespace PySem
namespace DM
open PySem
section
variable {prog : Program} {w : World} {K : Type} [DecidableEq K] {knd : KeyKind prog w K} {A : Around} {E : Value → Shared → Prop} {s : Shared}
theorem find_none {d : Addr} {kvs : List (K × Value)} {k : K} {key : Value} {Q : Option Nat → Shared → Prop} (hkey : knd.is k key = true) (hm : s.heap.DictOf knd d kvs) (off : k ∉ kvs.map (·.1)) (hQ : Q none s) : wpAny (model prog w) A (dictFind d key (knd.hash k)) Q E s := by
  obtain ⟨o, es, ep, ho, hc, hd, hk, hp, hn⟩ := hm
  refine wpAny_dictFind_of hkey ho hd hk ?_
  have same : (es.findIdx? fun e => knd.is k e.key) = kvs.findIdx? fun kv => decide (kv.1 = k) := by
    have := hp.findIdx k
    obtain ⟨l⟩ := es
    simpa using this
  rw [same, List.findIdx?_eq_none_iff.mpr fun kv hkv => decide_eq_false fun e => off (List.mem_map.mpr ⟨kv, hkv, e⟩)]
  exact hQ
def tailU (p a : Addr) : Sem Unit := do
  let es ← dictEntries a
  let epoch ← dictEpoch a
  forIn (List.range es.size) PUnit.unit fun i _ => do
    let es ← dictEntries a
    match es[i]? with
    | some e => do
      holding [e.key, e.val] (do
        let q ← dictFind p e.key e.hash
        if q.isSome = true then do
          rule "dict.merge.duplicate-key"
          let x ← newExc (Value.type "KeyError") [e.key]
          let _ ← (raiseNew x : Sem Unit)
          dictPut p e.hash e.key e.val
        else dictPut p e.hash e.key e.val)
      let n ← dictEpoch a
      if (n != epoch) = true then do
        let _ ← (unsupported "dict.changed-during-merge" : Sem Unit)
        pure (ForInStep.yield PUnit.unit)
      else pure (ForInStep.yield PUnit.unit)
    | _ => do
      let _ ← (unsupported "dict.changed-during-merge" : Sem Unit)
      pure (ForInStep.yield PUnit.unit)
  pure ()
theorem tailU_ok {p a : Addr} {more : List (K × Value)} {Q : Unit → Shared → Prop} (hm : s.heap.DictOf knd p []) (ha : s.heap.DictOf knd a more) (ne : p ≠ a) (hz : more.length ≤ sizeLine)
    (hQ : ∀ h', h'.DictOf knd p more → Heap.SameBut p s.heap h' → Q () { s with heap := h' }) : wpAny (model prog w) A (tailU p a) Q E s := by
  obtain ⟨oa, ea, epa, hoa, hca, hda, hka, hpa, hna⟩ := id ha
  have len : ea.size = more.length := by
    have := hpa.length
    simpa using this
  unfold tailU
  refine wpAny_bind (wpAny_dictEntries hoa hda (wpAny_bind (wpAny_dictEpoch hoa hda (wpAny_bind ?_))))
  refine wpAny_forIn_list _ (fun rest _ s' => ∃ i, rest = List.range' i (ea.size - i) ∧ i ≤ ea.size ∧ s'.gens = s.gens ∧ s'.drawn = s.drawn ∧ s'.toks = s.toks ∧ s'.os = s.os ∧ s'.heap.DictOf knd p (more.take i) ∧ Heap.SameBut p s.heap s'.heap) _ ?_ ?_ _ _ ?_
  · rintro x rest _ s' ⟨i, hr, hi, g1, g2, g3, g4, hd', same⟩
    have lt : i < ea.size := by
      by_cases q : i < ea.size
      · exact q
      · rw [Nat.sub_eq_zero_of_le (by omega)] at hr
        cases hr
    obtain ⟨n, hn⟩ : ∃ n, ea.size - i = n + 1 := ⟨ea.size - i - 1, by omega⟩
    rw [hn, List.range'_succ] at hr
    cases hr
    have hoa' : s'.heap.get? a = some oa := (same.2 a ne.symm).trans hoa
    refine wpAny_bind (wpAny_dictEntries hoa' hda ?_)
    rw [Array.getElem?_eq_getElem lt]
    obtain ⟨k, hkey, hhash⟩ := hka ea[x] (Array.getElem_mem lt)
    obtain ⟨kv, hkv, his, hval⟩ := pairs_at hpa x (by simpa using lt)
    have e1 : ea.toList[x] = ea[x] := by simp
    rw [e1] at his hval
    have ek : kv.1 = k := knd.inj _ _ _ his hkey
    have lt2 : (more.take x).length ≤ x := List.length_take_le ..
    have off : k ∉ (more.take x).map (·.1) := fun m => by
      obtain ⟨y, hy, ey⟩ := List.mem_map.mp m
      obtain ⟨j, hj, ej⟩ := List.getElem_of_mem hy
      rw [List.length_take] at hj
      rw [List.getElem_take] at ej
      have lx : x < more.length := by omega
      have ex : more[x] = kv := by
        rw [List.getElem?_eq_getElem lx] at hkv
        exact Option.some.inj hkv
      have := List.pairwise_iff_getElem.mp hna j x (by rw [List.length_map]; omega) (by rw [List.length_map]; exact lx) (by omega)
      rw [List.getElem_map, List.getElem_map, ej, ex] at this
      exact this (ey.trans ek.symm)
    show wpAny _ _ (holding [ea[x].key, ea[x].val] (dictFind p ea[x].key ea[x].hash >>= _) >>= _) _ _ _
    rw [hhash]
    refine wpAny_bind (wpAny_holding (wpAny_bind (find_none hkey hd' off ?_)))
    rw [if_neg (by simp)]
    refine put_one hkey hd' (fun h' hd2 same2 => ?_) (by omega)
    have sm : Heap.SameBut p s.heap h' := ⟨same2.1.trans same.1, fun b hb => (same2.2 b hb).trans (same.2 b hb)⟩
    have hoa2 : h'.get? a = some oa := (sm.2 a ne.symm).trans hoa
    refine wpAny_bind (wpAny_dictEpoch hoa2 hda ?_)
    rw [if_neg (by simp)]
    refine wpAny_pure ⟨x + 1, ?_, by omega, g1, g2, g3, g4, ?_, sm⟩
    · rw [show ea.size - (x + 1) = n by omega]
    · have nope : ¬ ((more.take x).any fun y => decide (y.1 = k)) = true := fun z => by
        obtain ⟨y, h1, h2⟩ := List.any_eq_true.mp z
        exact off (List.mem_map.mpr ⟨y, h1, of_decide_eq_true h2⟩)
      rw [stored, if_neg nope] at hd2
      rw [List.take_add_one, hkv]
      have ekv : (k, ea[x].val) = kv := by
        rw [hval, ← ek]
      rw [ekv] at hd2
      exact hd2
  · rintro _ s' ⟨i, hr, hi, g1, g2, g3, g4, hd', same⟩
    have e : i = ea.size := by
      by_cases q : i < ea.size
      · obtain ⟨n, hn⟩ : ∃ n, ea.size - i = n + 1 := ⟨ea.size - i - 1, by omega⟩
        rw [hn, List.range'_succ] at hr
        cases hr
      · omega
    rw [e, len, List.take_length] at hd'
    refine wpAny_pure ?_
    have z := hQ _ hd' same
    obtain ⟨h1, h2, h3, h4, h5⟩ := s'
    cases g1
    cases g2
    cases g3
    cases g4
    exact z
  · refine ⟨0, by rw [List.range_eq_range', Nat.sub_zero], Nat.zero_le _, rfl, rfl, rfl, rfl, ?_, ⟨rfl, fun _ _ => rfl⟩⟩
    simpa using hm
theorem merge_new {p a : Addr} {more : List (K × Value)} {Q : Unit → Shared → Prop} (hm : s.heap.DictOf knd p []) (ha : s.heap.DictOf knd a more) (na : (a == sysModules) = false) (ne : p ≠ a) (hz : more.length ≤ sizeLine)
    (hQ : ∀ h', h'.DictOf knd p more → Heap.SameBut p s.heap h' → Q () { s with heap := h' }) : wpAny (model prog w) A (mergeMapping p (.ref a) true) Q E s := by
  obtain ⟨oa, ea, epa, hoa, hca, hda, hka, hpa, hna⟩ := id ha
  obtain ⟨op, ep, epp, hop, hcp, hdp, hkp, hpp, hnp⟩ := id hm
  have ty : s.TypeIs (.ref a) "dict" := ⟨oa, hoa, hca.1⟩
  unfold mergeMapping
  refine wpAny_bind (wpAny_isInstance ty isSubtype_dict_dict ?_)
  rw [if_pos rfl]
  refine wpAny_bind (wpAny_specialOf ty PySem.F.slot_dict_iter.lookup (wpAny_bind (wpAny_pure ?_)))
  have t : (some (Value.builtin "dict.__iter__") == some (Value.builtin "dict.__iter__")) = true := by decide +kernel
  rw [t]
  have nn : ¬ (a == sysModules) = true := by
    rw [na]
    exact Bool.false_ne_true
  show wpAny _ _ (if (a == sysModules) = true then _ else _) _ _ _
  rw [if_neg nn]
  refine wpAny_bind (wpAny_dictEntries hop hdp ?_)
  have rest := tailU_ok (A := A) (E := E) (Q := Q) hm ha ne hz hQ
  by_cases hemp : ep.isEmpty = true
  · rw [if_pos hemp]
    have loop : (forIn ea PUnit.unit fun (e : DictEntry) (_ : PUnit) => (match e.key with
          | Value.ref a => do
            let q ← specialOf e.key (Str.ofString "__eq__")
            if (q != some (Value.builtin "object.__eq__")) = true then
                if (Array.filter (fun x => x.hash == e.hash) ea).size > 1 then do
                  let _ ← (unsupported "dict.merge-into-an-empty-dict:keys-of-equal-hash" : Sem PUnit)
                  pure (ForInStep.yield PUnit.unit)
                else pure (ForInStep.yield PUnit.unit)
              else pure (ForInStep.yield PUnit.unit)
          | _ => pure (ForInStep.yield PUnit.unit) : Sem (ForInStep PUnit))) = pure PUnit.unit := by
      rw [← Array.forIn_toList]
      refine forIn_yield_id _ fun e he c => ?_
      obtain ⟨k, hkey, _⟩ := hka e (Array.mem_toList_iff.mp he)
      have cv := knd.byValue k _ hkey
      cases q : e.key with
      | ref b =>
        rw [q] at cv
        exact absurd cv Bool.false_ne_true
      | _ => rfl
    exact wpAny_bind (wpAny_dictEntries hoa hda (wpAny_bind (wpAny_of_eq loop rest)))
  · rw [if_neg hemp]
    exact rest
end
end DM
end PySem
/-! C(**d) -/
namespace PySem
namespace DM
open PySem PySem.Spec PyProof.Rows L2
section
variable {prog : Program} {w : World} {A : Around} {E : Value → Shared → Prop} {s : Shared}
theorem loop_kw {F : DictEntry → List (Str × Value) → Sem (ForInStep (List (Str × Value)))} (hF : ∀ (e : DictEntry) (x : Str) (t : Tok) (kw : List (Str × Value)), e.key = .str x t → F e kw = pure (.yield (kw ++ [(x, e.val)]))) :
    ∀ (es : List DictEntry) (more done : List (Str × Value)), Pairs (mixKind prog w) es (more.map fun p => ((.inr p.1 : Key), p.2)) → forIn es done F = pure (done ++ more) := by
  intro es
  induction es with
  | nil =>
    intro more done h
    generalize hx : (more.map fun p => ((.inr p.1 : Key), p.2)) = xs at h
    cases h
    rw [List.map_eq_nil_iff.mp hx, List.append_nil, List.forIn_nil]
  | cons e es ih =>
    intro more done h
    cases more with
    | nil => cases h
    | cons p more =>
      rw [List.map_cons] at h
      cases h with
      | cons h1 h2 ht =>
        rcases keyIs_shape (show keyIs (.inr p.1) e.key = true from h1) with ⟨i, t, e1, e2⟩ | ⟨x, t, e1, e2⟩
        · cases e1
        · have ex : p.1 = x := Sum.inr.inj e1
          rw [List.forIn_cons, hF e x t done e2, pure_bind]
          have z := ih more (done ++ [p]) ht
          rw [List.append_assoc] at z
          have ep : (x, e.val) = p := by
            rw [h2, ← ex]
          rw [ep]
          exact z
theorem keywords_in {f : Value} {d : Addr} {more : List (Str × Value)} {Q : List (Str × Value) → Shared → Prop} (hm : s.heap.DictOf (mixKind prog w) d (more.map fun p => (.inr p.1, p.2))) (hQ : Q more s) : wpAny (model prog w) A (keywordsIn f d) Q E s := by
  obtain ⟨o, es, ep, ho, hc, hd, hk, hp, hn⟩ := hm
  unfold keywordsIn
  dsimp only
  refine wpAny_bind (wpAny_dictEntries ho hd (wpAny_bind ?_))
  rw [← Array.forIn_toList]
  refine wpAny_of_eq (loop_kw (prog := prog) (w := w) (fun e x t kw h => ?_) es.toList more [] hp) (wpAny_pure hQ)
  simp only [h]
/-- what (**x) is read as -/
theorem args_star {f : Value} {x : Sem Value} {Q : Args → Shared → Prop}
    (h : wpAny (model prog w) A x (fun m s1 => ∃ (a : Addr) (more : List (Str × Value)), m = .ref a ∧ s1.heap.DictOf (mixKind prog w) a (more.map fun p => (.inr p.1, p.2)) ∧ s1.heap.DictOf (mixKind prog w) s.heap.objs.size [] ∧ (a == sysModules) = false ∧ s.heap.objs.size ≠ a ∧ more.length ≤ sizeLine ∧
      ∀ h1, h1.DictOf (mixKind prog w) s.heap.objs.size (more.map fun p => (.inr p.1, p.2)) → Heap.SameBut s.heap.objs.size s1.heap h1 → Q ⟨[], more⟩ { s1 with heap := h1 }) E { s with heap := s.heap.push { cls := .type "dict", data := .dict #[] } }) :
    wpAny (model prog w) A (evalArgs f true [] [(none, x)]) Q E s := by
  unfold evalArgs
  refine wpAny_bind (show wpAny _ _ (pure []) _ _ _ from wpAny_pure (wpAny_bind (wpAny_pure ?_)))
  show wpAny _ _ (holding ([] ++ []) _) _ _ _
  refine wpAny_holding ?_
  rw [if_neg (by simp)]
  refine wpAny_bind ?_
  unfold mergedKeywords
  refine wpAny_bind (wpAny_alloc (wpAny_bind (wpAny_holding ?_)))
  show wpAny _ _ (forIn [(none, x)] [] _ >>= _) _ _ _
  refine wpAny_bind ?_
  rw [List.forIn_cons]
  refine wpAny_bind (wpAny_bind (show wpAny _ _ (pure PUnit.unit) _ _ _ from wpAny_pure (wpAny_bind (wpAny_mono h (fun m s1 hh => ?_) fun _ _ z => z))))
  obtain ⟨a, more, rfl, ha, hp, na, ne, hz, k⟩ := hh
  refine wpAny_bind (wpAny_onRaise ?_)
  refine wpAny_holding (wpAny_tryCatch (wpAny_onRaise (merge_new hp ha na ne (by rw [List.length_map]; exact hz) fun h1 hd1 sm1 => ?_)))
  refine wpAny_pure ?_
  show wpAny _ _ (forIn [] _ _) _ _ _
  rw [List.forIn_nil]
  refine wpAny_pure ?_
  show wpAny _ _ (pure PUnit.unit) _ _ _
  refine wpAny_pure (wpAny_pure ?_)
  refine wpAny_bind (show wpAny _ _ (pure []) _ _ _ from wpAny_pure ?_)
  exact wpAny_bind (wpAny_holding (keywords_in hd1 (wpAny_pure (k h1 hd1 sm1))))
end
end DM
end PySem
namespace PySem
namespace DM
open PySem PySem.W
theorem callWith_dict {M : Model} {A : Around} {E : Value → Shared → Prop} {s : Shared} {f : Value} {first : List Value} {pos : Pos} {Q : Value → Shared → Prop} {P : Heap → Prop} {kws : List (Option Str × Sem Value)} (hst : kws.any (·.1.isNone) = true)
    (hk : ∀ h, P h → ∃ k, (k = Keeper.frame ∨ k = Keeper.machine ∨ k = Keeper.boundFrame) ∧ Looks M h (keeperOf f) k)
    (h : wpAny M A (evalArgs f true [] kws) (fun a s1 => P s1.heap ∧ wpAny M A (call f (first ++ a.pos) a.kw) Q E s1) E s) : wpAny M A (callWith pos f first [] kws) Q E s := by
  unfold callWith
  refine wpAny_bind (wpAny_holding (wpAny_mono h ?_ fun _ _ z => z))
  rintro a s1 ⟨hP, run⟩
  refine wpAny_bind (wpAny_standAt ?_)
  obtain ⟨k, which, L⟩ := hk _ hP
  have st : (([] : List (Bool × Sem Value)).any (·.1) || kws.any (·.1.isNone)) = true := by
    rw [hst, Bool.or_true]
  simp only [st]
  refine wpAny_bind (L.here ?_)
  have last : ∀ {t : Sem Value}, wpAny M A t Q E s1 → wpAny M A (t >>= fun r => holding [r] point >>= fun _ => pure r) Q E s1 := fun ht =>
    wpAny_bind (wpAny_mono ht (fun r s2 hr => wpAny_bind (wpAny_holding (wpAny_point (wpAny_pure hr)))) fun _ _ z => z)
  have mark (mk : Value) : wpAny M A (callMarked mk f (first ++ a.pos) a.kw) Q E s1 := by
    unfold callMarked
    exact Calls.wpAny_keep run
  rcases which with rfl | rfl | rfl
  · dsimp only
    exact last (mark _)
  · dsimp only
    exact last (wpAny_operating run)
  · dsimp only
    exact last (wpAny_operating run)
end DM
end PySem
namespace GL
open PySem PySem.Spec PyProof.Rows L2
/-- a told dict whose keys are these texts -/
def kvN (names : List Str) (zs : List V) : List (Key × V) := (names.zip zs).map fun p => (.inr p.1, p.2)
theorem kvN_vals : ∀ {names : List Str} {zs : List V} {vs : List (Key × Value)}, zs.length = names.length → KV (kvN names zs) vs → ∃ ws : List Value, Vals zs ws ∧ vs = (names.zip ws).map fun p => (.inr p.1, p.2)
  | [], [], vs, _, h => by
    cases h
    exact ⟨[], .nil, rfl⟩
  | [], _ :: _, _, e, _ => by cases e
  | _ :: _, [], _, e, _ => by cases e
  | n :: ns, z :: zs, vs, e, h => by
    cases h with
    | @cons _ b _ bs hb ht =>
      obtain ⟨ws, r, q⟩ := kvN_vals (names := ns) (zs := zs) (by simpa using e) ht
      obtain ⟨b1, b2⟩ := b
      have e1 : (Sum.inr n : Key) = b1 := hb.1
      refine ⟨b2 :: ws, .cons hb.2 r, ?_⟩
      rw [q, ← e1]
      rfl
/-- C(**e): p the dict that the call makes of it -/
def tMakeD (C : Addr) (names : List Str) (sp : Sp) (gV : List V → List V → List V) (E : XK) (te : TE) : TE := fun σ H Q => ∀ p, H p = none → te σ (upd H p (.dK [])) fun x H1 => H1 p = some (.dK []) ∧ ∃ (a : Addr) (zs : List V), x = .ref a ∧ p ≠ a ∧ Rd H1 a (.dK (kvN names zs)) ∧ zs.length = names.length ∧ names.length ≤ 1000 ∧
  ∀ x dx, upd H1 p (.dK (kvN names zs)) x = none → upd H1 p (.dK (kvN names zs)) dx = none → dx ≠ x → sp (gV [.ref x] zs) (upd (upd (upd H1 p (.dK (kvN names zs))) dx (.own x)) x (.ins C dx [])) (fun v H3 => v = .non ∧ Q (.ref x) H3) E
theorem pkD {X : Cx} {CX : CXT} {k : Nat} {f C : Addr} {fd : FuncData} {ps names : List Str} {sp : Sp} {E : XK} {x : Str} {p pos kp : Pos} {e : Expr} {te : TE} {g : List Value → List Value → List Value} {gV : List V → List V → List V}
    (G : Fre X.A) (M : Mk X.K C f) (F : FnG X.prog X.w X.K X.mg X.base CX k f fd ps sp) (hr : Room (k + 1) X.A) (hg : Gl X x) (hm : X.mg x = some (.ref C)) (hb : KBn X.K fd ps 1 names g gV) (hx : Passes CX X E) (he : PE X e te) (ndb : (x == ("__debug__" : Str)) = false := by decide)
    (hkw : backToKw pos (keywordEach [⟨none, e, kp⟩] X.env) = [(none, do let v ← eval e X.env; standAt pos; pure v)] := by rfl) :
    PE X (.Call (.Name x p) [] [⟨none, e, kp⟩] pos) (tMakeD C names sp gV E te) := by
  constructor
  intro pins s σ H Q I h
  refine wpAny_Call_Name_kw (ld_glob I hg hm ?_ ndb)
  rw [hkw]
  show wpAny _ _ (callWith pos (.ref C) [] [] _) _ _ _
  have hn := I.hok.fresh (Nat.le_refl s.heap.objs.size)
  have I1 := I.laid (a := s.heap.objs.size) (o := .dK []) (h' := s.heap.push { cls := .type "dict", data := .dict #[] }) (t' := s.toks) (fun _ _ q => Heap.get?_push_of_some _ q) (Nat.le_refl _) (dk_empty s.heap I.big)
  refine DM.callWith_dict (P := X.K.In) rfl (PySem.W.keeps_K M.kp) (DM.args_star (wpAny_bind (thn (he.run pins _ σ _ _ I1 (h _ hn)) fun u s1 hh => wpAny_bind (wpAny_standAt (wpAny_pure ?_)))))
  obtain ⟨y, H1, I2, ry, hp, a, zs, rfl, ne, ra, lz, ln, k1⟩ := hh
  cases (show u = Value.ref a from ry)
  obtain ⟨zp, sp0, vp, rp, dp⟩ := dk_of I2.hok hp
  cases rp
  obtain ⟨za, sa, va, rva, da⟩ := dk_rd I2.hok ra
  obtain ⟨ws, rz, ev⟩ := kvN_vals lz rva
  rw [ev] at da
  have lw : (names.zip ws).length ≤ 1000 := by
    have := List.length_zip (l₁ := names) (l₂ := ws)
    omega
  refine ⟨a, names.zip ws, rfl, da, dp, sa, ne, by rw [sizeLine_eq]; omega, fun h1 hd1 sm1 => ?_⟩
  have ex1 : ∃ o, h1.get? s.heap.objs.size = some o := by
    obtain ⟨o, _, _, ho, _⟩ := hd1
    exact ⟨o, ho⟩
  have I3 := d_write (t' := s1.toks) I2 (by rw [hp]; exact True.intro) sm1 ex1 (dk_new za sp0 rva (by rw [ev]; exact hd1))
  exact ⟨I3.kIn, ranMK G M F hr hb hx I3 rz lz k1⟩
end GL
/-! == and != of two dicts with the same keys, whose values are data -/
namespace GL
open PySem PySem.Spec PyProof.Rows L2
end GL
/-! {x!r}, x a text, a number, a truth value, a list or a tuple of data -/
namespace GL
open PySem PySem.Spec PyProof.Rows L2
section
variable {X : Cx} {e : Expr} {te t1 t2 : TE} {pos : Pos}
def tFmtV (K : PySem.W.Frag) (te : TE) : TE := fun σ H Q => te σ H fun x H1 =>
  (∃ y : Str, x = .str y ∧ (reprText y).length ≤ sizeLine ∧ Q (.str (reprText y)) H1) ∨ (∃ i : Int, x = .int i ∧ i.natAbs.log2 < 1920 ∧ Q (.str (toString i)) H1) ∨ (∃ b : Bool, x = .bl b ∧ Q (.str (if b then "True" else "False")) H1) ∨
  (∃ d, Dp K H1 x d ∧ isDisplay d = true ∧ d.showable = true ∧ d.hasDict = false ∧ d.depth ≤ 60 ∧ d.shown.length ≤ sizeLine ∧ Q (.str d.shown) H1)
end
end GL
/-! ### len(set(t)), t a tuple of texts, each once -/
namespace GB
open PySem PySem.Spec PyProof.Rows L2
theorem take_no {xs : List Str} (nd : xs.Nodup) {i : Nat} (hi : i < xs.length) : (xs.take i).any (· == xs.getD i Str.empty) = false := by
  rw [List.any_eq_false]
  intro y hy q
  obtain ⟨j, hj, ej⟩ := List.getElem_of_mem hy
  rw [List.length_take] at hj
  rw [List.getElem_take] at ej
  have e2 : xs.getD i Str.empty = xs[i] := by rw [List.getD_eq_getElem?_getD, List.getElem?_eq_getElem hi, Option.getD_some]
  have e3 : xs[j]'(by omega) = xs[i] := by rw [ej, eq_of_beq q, e2]
  exact (List.pairwise_iff_getElem.mp nd j i (by omega) hi (by omega)) e3
theorem take_next {xs : List Str} {i : Nat} (hi : i < xs.length) (k : Str) : ((xs.take i).any (· == k) || decide (k = xs.getD i Str.empty)) = (xs.take (i + 1)).any (· == k) := by
  have e2 : xs.getD i Str.empty = xs[i] := by rw [List.getD_eq_getElem?_getD, List.getElem?_eq_getElem hi, Option.getD_some]
  rw [List.take_add_one, List.getElem?_eq_getElem hi, List.any_append, e2]
  show _ = ((xs.take i).any (· == k) || [xs[i]].any (· == k))
  congr 1
  by_cases e : k = xs[i]
  · rw [decide_eq_true e, e]
    simp
  · rw [decide_eq_false e]
    have : (xs[i] == k) = false := beq_eq_false_iff_ne.mpr fun z => e z.symm
    simp [this]
section
variable {prog : Program} {w : World} {A : Around} {R : Result → Shared → Prop} {it : Addr} {fps wrs : List Addr} {GG : Array GenState → Array GenState → Prop} {m : Nat} {PP : Nat → Value → Prop} {Sta : Nat → Shared → Prop}
/-- the set as it stands behind i of the texts -/
abbrev Upto (prog : Program) (w : World) (h : Heap) (T : Addr) (xs : List Str) (i : Nat) : Prop := h.SetOf (PySem.strKind prog w) T (fun k => (xs.take i).any (· == k)) i
theorem upto_keep {h h' : Heap} {T : Addr} {xs : List Str} {i : Nat} (u : Upto prog w h T xs i) (k : ∀ o, h.get? T = some o → h'.get? T = some o) : Upto prog w h' T xs i :=
  let ⟨o, es, ep, t, ho, r⟩ := u
  ⟨o, es, ep, t, k o ho, r⟩
theorem each (W : WalksS prog w A.in1 it fps wrs GG m PP Sta) (T : Addr) (hT : T ∉ fps) (xs : List Str) (hm : xs.length = m) (nd : xs.Nodup) (hb : m + 1 < scanBound)
    (val : ∀ i v, PP i v → ∃ t, v = .str (xs.getD i Str.empty) t) (j : Nat) : ∀ (i : Nat) (s : Shared), m - i = j → i ≤ m → Sta i s → Upto prog w s.heap T xs i →
      (∀ s', Moved (T :: wrs) GG s s' → Upto prog w s'.heap T xs m → R (.ok (.ret .none)) s') → codeAny (model prog w) A (.builtin "set.update.loop" ⟨[.ref T, .ref it], []⟩) R s := by
  have nT : T ∉ wrs := fun q => hT (W.sub _ q)
  have more : ∀ b ∈ wrs, b ∈ T :: wrs := fun b q => List.mem_cons_of_mem _ q
  induction j with
  | zero =>
    intro i s hj hi hs hu hR
    obtain rfl : i = m := by omega
    refine codeAny_builtin PyProof.Rows.F.entry_set_update_loop (by
      rw [Around.under_plainId PyProof.Rows.F.plain_set_update_loop _]
      exact (show wpAny _ A.in1 (pyNext (.ref it) >>= _) _ _ s from wpAny_bind (W.done s _ _ hs fun s' mv => (show wpAny _ A.in1 (ret Value.none) _ _ s' from wpAny_pure (hR s' (mv.mono more) (upto_keep hu (mv.heap T · nT)))))))
  | succ j ih =>
    intro i s hj hi hs hu hR
    have lt : i < m := by omega
    have lx : i < xs.length := by omega
    refine codeAny_builtin PyProof.Rows.F.entry_set_update_loop ?_
    rw [Around.under_plainId PyProof.Rows.F.plain_set_update_loop _]
    refine (show wpAny _ A.in1 (pyNext (.ref it) >>= _) _ _ s from wpAny_bind (W.item i s _ _ lt hs fun v s1 hv hs1 mv => ?_))
    obtain ⟨t, rfl⟩ := val i v hv
    refine (show wpAny _ A.in1 (holding [Value.str (xs.getD i Str.empty) t] (setAdd T (.str (xs.getD i Str.empty) t)) >>= _) _ _ s1 from wpAny_bind (wpAny_holding ?_))
    unfold setAdd
    refine wpAny_holding (wpAny_bind ((PySem.strKind prog w).pyHash (strKind_is _ _ (xs.getD i Str.empty) _) ?_))
    refine wpAny_setAddHashed_of (knd := PySem.strKind prog w) (s := { s1 with toks := s1.toks + 1 }) (strKind_is _ _ _ _) rfl (upto_keep hu (mv.heap T · nT)) (by omega) fun h2 same u2 => ?_
    have u3 : Upto prog w h2 T xs (i + 1) := SetOf_congr u2 (take_next lx) (by
      rw [take_no nd lx]
      rfl)
    refine wpAny_pure ⟨plainId_quiet PyProof.Rows.F.plain_set_update_loop _, ih (i + 1) _ (by omega) lt (W.frame _ s1 _ _ hs1 (Nat.le_succ _) fun b q o e => (same.2 b (fun z => hT (z ▸ q))).trans e) u3 fun s3 mv3 u4 => hR s3 (Moved.trans W.gtrans ((mv.mono more).then_heap (Nat.le_succ _) fun b o q e => (same.2 b (fun z => q (z ▸ List.mem_cons_self))).trans e) mv3) u4⟩
end
section
variable {prog : Program} {w : World} {A : Around} {E : Value → Shared → Prop} {s : Shared}
abbrev emptyS (led : Bool) : Obj := { cls := .type "set", dict := none, data := .set #[] 0 (.fresh 0 0 led) }
theorem set_texts {l : Addr} {its : Array Value} {xs : List Str} {Q : Value → Shared → Prop} (calm : A.handled = none) (hl : s.heap.IsTuple l its) (hx : StrsAre its.toList xs) (nd : xs.Nodup) (few : xs.length + 1 < scanBound)
    (h : ∀ (h' : Heap) (tk : Nat), Upto prog w h' s.heap.objs.size xs its.size → (∀ b o, b < s.heap.objs.size → s.heap.get? b = some o → h'.get? b = some o) → Q (.ref s.heap.objs.size) { s with heap := h', toks := tk }) :
    wpAny (model prog w) A (call (.type "set") [.ref l]) Q E s := by
  obtain ⟨cc, tl, hmro⟩ := PySem.F.called_set.mro
  have a1 := PySem.F.called_set.made; have a2 := PySem.F.called_set.sub; have a3 := PySem.F.called_set.notType; have a4 := PySem.F.called_set.canCreate; have a5 := PySem.F.typeCall_set_1 (.ref l)
  refine wpAny_call (codeAny_of_tree (show wpAny _ _ (callAny (.type "set") _) _ _ _ from wpAny_pure ⟨Code.quiet_builtin _ (by decide +kernel), codeAny_builtin PySem.F.entry_type_call ?_⟩))
  rw [Around.under_plain (weight_type_call_type "set" [.ref l] []) rfl]
  repeat (any_goals (first | assumption | wp_step))
  refine codeAny_mono (code_set_new_1 (.ref l) (E := E) (Q₁ := fun ob t1 => ∃ led : Bool, ob = .ref s.heap.objs.size ∧ t1 = { s with heap := s.heap.push (emptyS led) }) fun led => ⟨led, rfl, rfl⟩) fun r t1 hr => ?_
  match r, hr with
  | .error e, hr => exact hr
  | .ok .next, hr => exact hr.elim
  | .ok .brk, hr => exact hr.elim
  | .ok .cont, hr => exact hr.elim
  | .ok (.ret ob), hr =>
    obtain ⟨led, rfl, rfl⟩ := hr
    have g0 : (s.heap.push (emptyS led)).get? s.heap.objs.size = some (emptyS led) := Heap.get?_push_size _ rfl
    have ty : Shared.TypeIs { s with heap := s.heap.push (emptyS led) } (.ref s.heap.objs.size) "set" := ⟨_, g0, rfl⟩
    have b1 := PySem.F.called_set.init.lookup; have b2 := PySem.F.called_set.init.bind (.ref s.heap.objs.size)
    repeat (any_goals (first | assumption | wp_step))
    refine codeAny_mono (codeAny_call_builtin (R := wants (fun r t2 => r = .none ∧ ∃ h' tk, t2 = { s with heap := h', toks := tk } ∧ Upto prog w h' s.heap.objs.size xs its.size ∧ (∀ b o, b < s.heap.objs.size → s.heap.get? b = some o → h'.get? b = some o)) E) PySem.F.called_set.init.plain PySem.F.entry_set_init (check_set_init_1 ty ?_)) fun r2 t2 hr2 => ?_
    · obtain ⟨⟨oc, od, odat, osl⟩, ho, hc, nn, hd⟩ := hl
      dsimp only at hc hd
      subst hc hd
      have ho2 : (s.heap.push (emptyS led)).get? l = some { cls := .type "tuple", dict := od, data := .seq its nn, slots := osl } := Heap.get?_push_of_some _ ho
      have c1 := PySem.F.sub_tuple_set; have c2 := PySem.F.sub_tuple_frozenset; have c3 : (Value.type "tuple" == Value.type "dict") = false := by decide
      have tu : (s.heap.push (emptyS led)).IsTuple l its := ⟨_, ho2, rfl, nn, rfl⟩
      unfold Builtin.«set.__init__» noKeywords Builtin.Frozenset.updateFrom
      generalize hI : pyIter = PI
      wp_walk
      subst hI
      refine wpAny_pyIter_tuple tu (wpAny_bind (wpAny_runValue ?_))
      have ls : l < s.heap.objs.size := Heap.lt_size ho
      have sz : (s.heap.push (emptyS led)).objs.size = s.heap.objs.size + 1 := Heap.size_push _ _
      have len : xs.length = its.size := (StrsAre.len_eq hx).symm.trans Array.length_toList
      have calm3 : A.in1.in1.in1.handled = none := by simp [calm]
      refine each ((Walks.tuple calm3 _ l (by rw [sz]; exact Nat.ne_of_lt (Nat.lt_succ_of_lt ls)) its).toS) s.heap.objs.size (by
        rw [sz]
        simp only [List.mem_cons, List.not_mem_nil, or_false, not_or]
        exact ⟨Nat.ne_of_lt (Nat.lt_succ_self _), Nat.ne_of_gt ls⟩) xs len nd (by rw [← len]; exact few) (fun i v hv => SS.strs_at hx i v (by rw [Array.getElem?_toList]; exact hv)) (its.size - 0) 0 _ (by omega) (Nat.zero_le _) ⟨⟨_, Heap.get?_push_size _ rfl, rfl, rfl⟩, tu.push _⟩ ?_ ?_
      · exact SetOf_congr ((setObjOf_fresh (knd := PySem.strKind prog w) led).setOf (Heap.get?_push_of_some _ g0) (by unfold scanBound; omega)) (fun _ => rfl) rfl
      · rintro ⟨h2, g2, d2, tk2, os2⟩ mv u
        have e1 : g2 = s.gens := mv.gens
        have e2 : d2 = s.drawn := mv.drawn
        have e3 : os2 = s.os := mv.os
        subst e1 e2 e3
        refine (show wpAny _ _ _ _ _ _ from wpAny_pure (show wpAny _ _ (ret Value.none) _ _ _ from wpAny_pure ⟨rfl, h2, tk2, rfl, u, fun b o lt e => mv.heap b o ?_ (Heap.get?_push_of_some _ (Heap.get?_push_of_some _ e))⟩))
        rw [sz]
        simp only [List.mem_cons, List.not_mem_nil, or_false, not_or]
        exact ⟨Nat.ne_of_lt lt, Nat.ne_of_lt (Nat.lt_succ_of_lt lt)⟩
    · match r2, hr2 with
      | .error e, hr2 => exact hr2
      | .ok .next, hr2 => exact hr2.elim
      | .ok .brk, hr2 => exact hr2.elim
      | .ok .cont, hr2 => exact hr2.elim
      | .ok (.ret r), hr2 =>
        obtain ⟨rfl, h2, tk2, rfl, u, kp⟩ := hr2
        repeat (any_goals (first | assumption | wp_step))
        exact h _ _ u kp
end
end GB
namespace GL
open PySem PySem.Spec PyProof.Rows L2
def tLenSetT (K : PySem.W.Frag) (ta : TE) : TE := fun σ H Q => ta σ H fun x H1 => ∃ (l : Addr) (xs : List Str), x = .ref l ∧ SqT K H1 l (xs.map V.str) ∧ xs.Nodup ∧ xs.length ≤ 1000 ∧ Q (.int (xs.length : Nat)) H1
theorem pe_lenSetT {X : Cx} {a : Expr} {ta : TE} {p p2 q pos : Pos} (hg : Gl X "len") (hm : X.mg "len" = none) (hg2 : Gl X "set") (hm2 : X.mg "set" = none) (ha : PE X a ta) (hc : X.calm = true := by rfl)
    (na : starEach [a] X.env = (false, eval a X.env) :: starEach [] X.env := by rfl) : PE X (.Call (.Name "len" p) [.Call (.Name "set" p2) [a] [] q] [] pos) (tLenSetT X.K ta) := by
  constructor
  intro pins s σ H Q I h
  refine Call_ (ld_blt I hg hm boot_len (callWith_builtin1 (args_cons (Call_ (ld_blt I hg2 hm2 boot_set (callWith_type1 (args_cons (thn (ha.run pins s σ H _ I h) fun v s1 hh => args_nil ?_) na) na rfl))) rfl) rfl rfl))
  obtain ⟨x, H1, I1, r1, l, xs, rfl, hq, nd, few, q1⟩ := hh
  cases r1
  obtain ⟨its, r, pl, hz⟩ := I1.tuple hq
  have len : its.toArray.size = xs.length := by rw [List.size_toArray, ← r.length, List.length_map]
  refine GB.set_texts (I1.ok.hd hc) pl (by simpa using strsAre_of r) nd (by unfold scanBound; omega) fun h' tk u kp => args_nil ?_
  rw [len] at u
  obtain ⟨o, es, ep, t, ho, hex, hd, _, _, _, hf, hn⟩ := u
  have I2 : Inv X pins σ H1 { s1 with heap := h', toks := tk } := I1.kept fun b o e => kp b o (Heap.lt_size e) e
  exact call_len_set ho hex hd hf (by rw [hn] <;> omega) ⟨.int xs.length, H1, I2.tok _, ⟨_, by rw [hn]⟩, q1⟩
/-! ### t in ts, data of any depth, ts a tuple -/
def rInDT (K : PySem.W.Frag) : R2 := fun x y H Q => ∃ d ds, Dp K H x d ∧ Dp K H y (.tuple ds) ∧ SeqAt.shaped d = true ∧ SeqAt.shaped (.tuple ds) = true ∧ Q (.bl (ds.any fun z => PyData.eqv z d)) H
theorem op_inDT {X : Cx} (hu : X.A.units + 65 < cLine) : OpR X (compareOp .In) (rInDT X.K) := by
  intro pins s σ H x y v u Q I rx ry h
  obtain ⟨d, ds, hd, he, sd, se, q⟩ := h
  obtain ⟨as, r1⟩ := Dp.reads I d x v hd rx
  obtain ⟨bs, r2⟩ := Dp.reads I (.tuple ds) y u he ry
  exact SeqAt.in_tuple_reads r2 r1 (SeqAt.canLay_of_shaped se) (SeqAt.canLay_of_shaped sd) (room_in_shaped sd hu) ⟨.bl _, H, I, rfl, q⟩
end GL
/-! x == o: x of a kind of Python's, o of an own class: o is asked -/
namespace PySem
end PySem
namespace GL
open PySem PySem.Spec PyProof.Rows L2
end GL
namespace GL
open PySem PySem.Spec PyProof.Rows L2
theorem roomW {k : Nat} {A : Around} (h : Room k A) : A.units + 65 < cLine := by
  have := h.un
  omega
/-- d.update(e) -/
def tDUpd (to te : TE) : TE := fun σ H Q => to σ H fun x H1 => ∃ a, x = .ref a ∧ IsD H1 a ∧ te σ H1 fun y H2 => ∃ (b : Addr) (ks ls : List (Key × V)), y = .ref b ∧ a ≠ b ∧ H2 a = some (.dK ks) ∧ Rd H2 b (.dK ls) ∧ ks.length + ls.length ≤ 1000 ∧ Q .non (upd H2 a (.dK (mergeK ks ls)))
theorem pe_dupd {X : Cx} {o e : Expr} {to te : TE} {apos cpos : Pos} (ho : PE X o to) (he : PE X e te) (m : M1 X o "update" apos e cpos) : PE X (.Call (.Attribute o "update" apos) [e] [] cpos) (tDUpd to te) := by
  constructor
  intro pins s σ H Q I h
  refine wpAny_Call_method m.base m.few m.line PySem.F.plainAttrs_dict PySem.F.slot_dict_update PySem.F.type_dict_update (thn (ho.run pins s σ H _ I h) ?_)
  rintro u s1 ⟨x, H1, I1, rx, a, rfl, d, q1⟩
  cases (show u = Value.ref a from rx)
  obtain ⟨t1, t2, na⟩ := isD_at I1 d
  refine ⟨t1, t2, ?_⟩
  rw [m.trees]
  refine Calls.callWith_builtin rfl (Calls.evalArgs_plain (Calls.spliced_cons (thn (he.run pins s1 σ H1 _ I1 q1) fun iv s2 ⟨y, H2, I2, ry, b, ks, ls, ey, ne, ea, eb, hz, q2⟩ => Calls.spliced_nil ?_)))
  subst ey
  cases (show iv = Value.ref b from ry)
  obtain ⟨z1, l1, vs, r1, d1⟩ := dk_of I2.hok ea
  obtain ⟨z2, l2, ws, r2, d2⟩ := dk_rd I2.hok eb
  have lm := length_mergeK ls ks
  refine call_meetsIn PySem.F.slot_dict_update d1.typeIs PySem.F.entry_dict_update (PySem.F.args_dict_update_2 _ _) (meets_dict_update (mixKind X.prog X.w) a b ne l2) ⟨vs, ws, d1, d2, by rw [← r1.length, ← r2.length, sizeLine_eq]; omega, fun h' dd _ hs => ?_⟩
  have he' : ∃ q, h'.get? a = some q := let ⟨q, _, _, hq, _⟩ := dd; ⟨q, hq⟩
  exact ⟨.non, _, d_write (t' := s2.toks) I2 (by rw [ea]; exact True.intro) hs he' (dk_new (by rw [sizeLine_eq]; omega) l1 (r2.merge r1) dd), rfl, q2⟩
/-! ### != of two dicts -/
end GL
/-! ### tuples that are told with their object: no dict of their own -/
namespace GL
open PySem PySem.Spec PyProof.Rows L2
/-- a tuple's object as it is made -/
def Bare (o : Obj) : Prop := o.dict = none ∧ o.cls = .type "tuple"
/-- a display -/
def tTupX (t : TA) : TE := fun σ H Q => t σ H fun xs H1 => xs.length ≤ sizeLine ∧ ∀ p o, H1 p = none → Bare o → Q (.ref p) (upd H1 p (.frz o (.tup xs)))
section
variable {X : Cx} {es : List Expr} {t : TA} {pos : Pos} {pins : List (Addr × Obj)} {σ : L2.St} {H : Hp} {s : Shared}
theorem bare_laid {xs : List V} {us : List Value} (I : Inv X pins σ H s) (r : Vals xs us) (z : xs.length ≤ sizeLine) : Inv X pins σ (upd H s.heap.objs.size (.frz { cls := .type "tuple", data := .seq us.toArray } (.tup xs))) { s with heap := s.heap.push { cls := .type "tuple", data := .seq us.toArray } } :=
  I.laid (t' := s.toks) (fun b u e => Heap.get?_push_of_some _ e) (Nat.le_refl _) ⟨Heap.get?_push_size _ rfl, z, us, r, ⟨_, Heap.get?_push_size _ rfl, rfl, _, rfl⟩⟩
theorem pe_tupX {x1} (h : PA X es t) : PE X (.Tuple es x1 pos) (tTupX t) := by
  constructor
  intro pins s σ H Q I hq
  refine wpAny_Tuple_spliced (thn (h.run pos pins s σ H _ I hq) fun us s1 ⟨xs, H1, I1, r, z, q⟩ => ⟨by rw [← r.length]; exact z, ?_⟩)
  exact ⟨.ref s1.heap.objs.size, _, bare_laid I1 r z, rfl, q _ _ (I1.hok.fresh (Nat.le_refl _)) ⟨rfl, rfl⟩⟩
/-- t + u -/
def rCatX (K : PySem.W.Frag) : R2 := fun x y H Q => ∃ a b xs ys, x = .ref a ∧ y = .ref b ∧ SqT K H a xs ∧ SqT K H b ys ∧ xs.length + ys.length ≤ sizeLine ∧ ys ≠ [] ∧
  (xs = [] → Q (.ref b) H) ∧ (xs ≠ [] → ∀ p o, H p = none → Bare o → Q (.ref p) (upd H p (.frz o (.tup (xs ++ ys)))))
theorem op_catX : OpR X (binaryOp .Add) (rCatX X.K) := by
  intro pins s σ H x y v u Q I rx ry h
  obtain ⟨a, b, xs, ys, rfl, rfl, ha, hb, hz, ne, q0, q1⟩ := h
  cases rx
  cases ry
  obtain ⟨its, r1, p1, _⟩ := I.tuple ha
  obtain ⟨its2, r2, p2, _⟩ := I.tuple hb
  by_cases hx : xs = []
  · subst hx
    cases r1
    exact cat_tup0 p1 p2 ⟨.ref b, H, I, rfl, q0 rfl⟩
  · refine HT.cat_tup p1 p2 (fun z => hx (r1.nil_iff.mp z)) (fun z => absurd (r2.nil_iff.mp z) ne) (fun z => ?_) (by rw [← r1.length, ← r2.length]; exact hz)
    exact ⟨.ref s.heap.objs.size, _, bare_laid I (r1.append r2) (by rw [List.length_append]; exact hz), rfl, q1 hx _ _ (I.hok.fresh (Nat.le_refl _)) ⟨rfl, rfl⟩⟩
/-- at a a tuple without a dict of its own -/
def Tpl (K : PySem.W.Frag) (H : Hp) (a : Addr) : Prop := (∃ o u, H a = some (.frz o u) ∧ Bare o) ∨ ∃ o, K.lookup a = some o ∧ Bare o
/-- t.m(e, ..), t such a tuple -/
def tBMX (K : PySem.W.Frag) (r : V → List V → Hp → VK → Prop) (to : TE) (t : TA) : TE := fun σ H Q => to σ H fun x H1 => (∃ a, x = .ref a ∧ Tpl K H1 a) ∧ t σ H1 fun xs H2 => r x xs H2 Q
theorem pe_bmX {o e : Expr} {to : TE} {name : Str} {apos cpos : Pos} {id : String} {r : V → List V → Hp → VK → Prop} (slot : Slot "tuple" name id) (hty : typeOf (.builtin id) = pure (.type "method_descriptor")) (hm : MtR X id r) (ho : PE X o to) (ha : PA X (e :: es) t)
    (hbase : attributeBase o name X.env (eval o X.env) = eval o X.env := by rfl)
    (few : ((backTo cpos (starEach (e :: es) X.env)).all (fun x => !x.1) && (backToKw cpos (keywordEach [] X.env)).all (fun x => x.1.isSome) && decide ((e :: es).length + ([] : List Keyword).length + (if ([] : List Keyword).isEmpty then 0 else 1) < 30)) = true := by rfl)
    (hline : (apos.endLine == cpos.line) = true := by rfl) (hs : starEach (e :: es) X.env = (false, eval e X.env) :: starEach es X.env := by rfl) (hplain : (backTo cpos (starEach es X.env)).any (·.1) = false := by rfl) :
    PE X (.Call (.Attribute o name apos) (e :: es) [] cpos) (tBMX X.K r to t) := by
  constructor
  intro pins s σ H Q I h
  refine wpAny_Call_method_late hbase few hline rfl (thn (ho.run pins s σ H _ I h) fun v s1 ⟨x, H1, I1, r1, ⟨a, ea, tp⟩, q1⟩ => ?_)
  subst ea
  cases (show v = Value.ref a from r1)
  have ob : ∃ ob, s1.heap.get? a = some ob ∧ Bare ob := by
    rcases tp with ⟨o, u, e, b⟩ | ⟨o, e, b⟩
    · exact ⟨o, (I1.hok a _ e).1, b⟩
    · exact ⟨o, I1.kIn a o e, b⟩
  obtain ⟨ob, e1, b1, b2⟩ := ob
  refine ⟨"tuple", id, PySem.F.plainAttrs_tuple, slot, hty, ⟨ob, e1, b2⟩, fun c ec => ?_, ?_⟩
  · cases ec
    exact ⟨ob, e1, b1⟩
  have hA := ha.run cpos pins s1 σ H1 _ I1 q1
  rw [hs] at hA ⊢
  refine Calls.callWith_builtin (by show (false || (backTo cpos (starEach es X.env)).any (·.1)) = false; rw [hplain] <;> rfl) (Calls.evalArgs_plain ?_)
  exact thn hA fun us s2 ⟨vs, H2, I2, r2, q2⟩ => hm pins s2 σ H2 (.ref a) vs (.ref a) us Q I2 rfl r2 q2
end
end GL
namespace My
open PySem PySem.Spec PyProof.Rows L2 GL
/-! ### words, rows, rules: no Python here -/
inductive Wd where
  | look | add | tri | live | home | off | fin | set | both | take | give | move | lift | settle | undo | leave | wait
deriving DecidableEq
def Wd.s : Wd → Str
  | .look => "look" | .add => "add" | .tri => "try" | .live => "live" | .home => "home" | .off => "off" | .fin => "end" | .set => "set" | .both => "both"
  | .take => "take" | .give => "give" | .move => "move" | .lift => "lift" | .settle => "settle" | .undo => "undo" | .leave => "leave" | .wait => "wait"
def Wd.n : Wd → Nat
  | .look => 0 | .add => 1 | .tri => 2 | .live => 3 | .home => 4 | .off => 5 | .fin => 6 | .set => 7 | .both => 8
  | .take => 9 | .give => 10 | .move => 11 | .lift => 12 | .settle => 13 | .undo => 14 | .leave => 15 | .wait => 16
def allW : List Wd := [.look, .add, .tri, .live, .home, .off, .fin, .set, .both, .take, .give, .move, .lift, .settle, .undo, .leave, .wait]
theorem allW_mem (w : Wd) : w ∈ allW := by cases w <;> decide
theorem Wd.inj {a b : Wd} (h : a.s = b.s) : a = b := by
  have go : (allW.all fun a => allW.all fun b => decide (a.s = b.s → a = b)) = true := by decide +kernel
  have h1 := List.all_eq_true.mp (List.all_eq_true.mp go a (allW_mem a)) b (allW_mem b)
  exact of_decide_eq_true h1 h
theorem Wd.len (w : Wd) : w.s.length ≤ 6 := by cases w <;> decide +kernel
abbrev wV (w : Wd) : V := .str w.s
theorem wV_eq (a b : Wd) : decide (wV a = wV b) = decide (a = b) := by
  by_cases e : a = b
  · rw [e, decide_eq_true rfl, decide_eq_true rfl]
  · rw [decide_eq_false e, decide_eq_false fun q => e (Wd.inj (V.str.inj q))]
theorem inV_w (a : Wd) : ∀ l : List Wd, inV (wV a) (l.map wV) = decide (a ∈ l)
  | [] => rfl
  | b :: l => by
    have ih := inV_w a l
    show ((b.s == a.s) || inV (wV a) (l.map wV)) = decide (a ∈ b :: l)
    rw [ih]
    by_cases e : a = b
    · subst e
      simp
    · have z : (b.s == a.s) = false := beq_eq_false_iff_ne.mpr fun q => e (Wd.inj q).symm
      rw [z, Bool.false_or]
      by_cases m : a ∈ l
      · rw [decide_eq_true m, decide_eq_true (List.mem_cons_of_mem _ m)]
      · rw [decide_eq_false m, decide_eq_false fun q => (List.mem_cons.mp q).elim e m]
theorem flat_w (l : List Wd) : (l.map wV).all flatV = true := by
  rw [List.all_eq_true]
  intro x hx
  obtain ⟨n, _, rfl⟩ := List.mem_map.mp hx
  rfl
theorem wV_strs (l : List Wd) : l.map wV = (l.map Wd.s).map V.str := by
  rw [List.map_map]
  rfl
theorem nodup_s {l : List Wd} (h : l.Nodup) : (l.map Wd.s).Nodup := by
  induction l with
  | nil => exact List.nodup_nil
  | cons a l ih =>
    rw [List.nodup_cons] at h
    rw [List.map_cons, List.nodup_cons]
    refine ⟨fun q => ?_, ih h.2⟩
    obtain ⟨b, hb, e⟩ := List.mem_map.mp q
    exact h.1 (Wd.inj e ▸ hb)
theorem at_w {l : List Wd} {i : Nat} {w : Wd} (h : l[i]? = some w) : (l.map wV)[i]? = some (wV w) := by
  rw [List.getElem?_map, h]
  rfl
/-! rows as the program looks at them -/
abbrev Rw := List Wd
def pTA (us : Rw) (w : Wd) : Bool := if w ∈ us then !decide (Wd.look ∈ us.drop (us.idxOf w)) && !decide (Wd.tri ∈ us.drop (us.idxOf w)) else true
def pOH (us : Rw) : Bool := !decide (Wd.off ∈ us) || decide (Wd.home ∈ us.take (us.idxOf .off))
def pW (us ws : Rw) : Bool := us.all fun w => decide (w ∈ ws)
def pTake (us : Rw) : Bool := pW us [.live, .tri, .add, .look] && decide (Wd.live ∈ us) && if Wd.tri ∈ us then decide (us = [.tri, .live]) else decide (Wd.add ∈ us) && pTA us .live
def pGive (us : Rw) : Bool := pW us [.fin, .home, .off] && decide (Wd.fin ∈ us) && pOH us
def pMove (us : Rw) : Bool := pW us [.set, .home, .add, .look, .tri, .off] && (decide (us = []) || (!(!decide (Wd.set ∈ us) || decide (Wd.tri ∈ us) && (decide (Wd.add ∈ us) || decide (Wd.look ∈ us))) && (pOH us && pTA us .set && pTA us .off)))
def liftRows : List Rw := [[], [.set], [.off], [.set, .off], [.off, .set], [.both]]
def pLift (us : Rw) : Bool := pW us [.set, .off, .both] && decide (us ∈ liftRows)
def pRow : Wd → Rw → Bool
  | .take => pTake
  | .give => pGive
  | .move => pMove
  | _ => pLift
def pBatch (us : Rw) (n : Nat) : Bool := decide (n = 1) || decide (us.getLast? = some .live)
def pShared (us : Rw) (b : Bool) : Bool := b || decide (us = []) || decide (us.head? = some .home)
/-! rows as the law has them -/
def lAhead (us : Rw) (a b : Wd) : Bool := !decide (a ∈ us) || !decide (b ∈ us) || decide (us.idxOf a < us.idxOf b)
def lTake (us : Rw) (n : Nat) : Bool := !(!decide (Wd.live ∈ us) || (decide (Wd.tri ∈ us) == decide (Wd.add ∈ us)) || decide (Wd.tri ∈ us) && decide (Wd.look ∈ us)) && (!(decide (n > 1) && !decide (us.getLast? = some .live)) && (lAhead us .look .live && lAhead us .tri .live))
def lGive (us : Rw) : Bool := decide (Wd.fin ∈ us) && (!decide (Wd.off ∈ us) || decide (Wd.home ∈ us) && lAhead us .home .off)
def lMoveA (us : Rw) : Bool := (lAhead us .look .set && lAhead us .look .off) && (lAhead us .tri .set && lAhead us .tri .off)
def lMove (us : Rw) (b : Bool) : Bool := decide (us = []) || (!(!decide (Wd.set ∈ us) || decide (Wd.tri ∈ us) && (decide (Wd.add ∈ us) || decide (Wd.look ∈ us))) && (!(decide (Wd.off ∈ us) && (!decide (Wd.home ∈ us) || !lAhead us .home .off)) && (!(!b && !decide (us.head? = some .home)) && lMoveA us)))
def ext (ws : Rw) (us : Rw) : List Rw := (ws.filter fun w => !decide (w ∈ us)).map fun w => us ++ [w]
def grow (ws : Rw) : Nat → List Rw
  | 0 => [[]]
  | n + 1 => (grow ws n).flatMap (ext ws)
def found (ws : Rw) : Nat → List Rw
  | 0 => [[]]
  | n + 1 => found ws n ++ grow ws (n + 1)
def seqs (ws : Rw) : List Rw := found ws ws.length
def takeWs : Rw := [.look, .add, .tri, .live]
def giveWs : Rw := [.home, .off, .fin]
def moveWs : Rw := [.home, .look, .add, .tri, .set, .off]
def takes (n : Nat) : List Rw := (seqs takeWs).filter fun us => lTake us n
def gives : List Rw := (seqs giveWs).filter lGive
def moves (b : Bool) : List Rw := (seqs moveWs).filter fun us => lMove us b
theorem seqs_nd (ws : Rw) (hw : ws ∈ [takeWs, giveWs, moveWs]) : ∀ us ∈ seqs ws, us.Nodup ∧ us.length ≤ 6 := by
  have go : ([takeWs, giveWs, moveWs].all fun ws => (seqs ws).all fun us => decide us.Nodup && decide (us.length ≤ 6)) = true := by decide +kernel
  intro us hu
  have h := List.all_eq_true.mp (List.all_eq_true.mp go ws hw) us hu
  rw [Bool.and_eq_true] at h
  exact ⟨of_decide_eq_true h.1, of_decide_eq_true h.2⟩
theorem lTake_n {us : Rw} {n : Nat} (hn : 1 < n) : lTake us n = lTake us 2 := by
  unfold lTake
  rw [decide_eq_true (show n > 1 from hn)]
  rfl
theorem lTake_1 {us : Rw} {n : Nat} (hn : ¬ 1 < n) : lTake us n = lTake us 1 := by
  unfold lTake
  rw [decide_eq_false (show ¬ n > 1 from hn)]
  rfl
structure RowOk (us : Rw) : Prop where
  nd : us.Nodup
  ln : us.length ≤ 6
theorem take_ok {us : Rw} {n : Nat} (h1n : 1 ≤ n) (h : us ∈ takes n) : RowOk us ∧ pTake us = true ∧ pBatch us n = true := by
  obtain ⟨h1, h2⟩ := List.mem_filter.mp h
  have nd := seqs_nd takeWs (by decide) us h1
  have go : ((seqs takeWs).all fun us => (!lTake us 2 || (pTake us && decide (us.getLast? = some .live))) && (!lTake us 1 || pTake us)) = true := by decide +kernel
  have g := List.all_eq_true.mp go us h1
  rw [Bool.and_eq_true] at g
  refine ⟨⟨nd.1, nd.2⟩, ?_⟩
  by_cases hn : 1 < n
  · rw [lTake_n hn] at h2
    rw [h2, Bool.not_true, Bool.false_or, Bool.and_eq_true] at g
    refine ⟨g.1.1, ?_⟩
    unfold pBatch
    rw [g.1.2, Bool.or_true]
  · rw [lTake_1 hn] at h2
    rw [h2, Bool.not_true, Bool.false_or] at g
    refine ⟨g.2, ?_⟩
    unfold pBatch
    rw [decide_eq_true (show n = 1 by omega), Bool.true_or]
theorem give_ok {us : Rw} (h : us ∈ gives) : RowOk us ∧ pGive us = true := by
  obtain ⟨h1, h2⟩ := List.mem_filter.mp h
  have nd := seqs_nd giveWs (by decide) us h1
  have go : ((seqs giveWs).all fun us => !lGive us || pGive us) = true := by decide +kernel
  have g := List.all_eq_true.mp go us h1
  rw [h2, Bool.not_true, Bool.false_or] at g
  exact ⟨⟨nd.1, nd.2⟩, g⟩
theorem move_ok {us : Rw} {b : Bool} (h : us ∈ moves b) : RowOk us ∧ pMove us = true ∧ pShared us b = true := by
  obtain ⟨h1, h2⟩ := List.mem_filter.mp h
  have nd := seqs_nd moveWs (by decide) us h1
  have go : ([true, false].all fun b => (seqs moveWs).all fun us => !lMove us b || (pMove us && pShared us b)) = true := by decide +kernel
  have g := List.all_eq_true.mp (List.all_eq_true.mp go b (by cases b <;> decide)) us h1
  rw [h2, Bool.not_true, Bool.false_or, Bool.and_eq_true] at g
  exact ⟨⟨nd.1, nd.2⟩, g.1, g.2⟩
theorem lift_ok {us : Rw} (h : us ∈ liftRows) : RowOk us ∧ pLift us = true := by
  have go : (liftRows.all fun us => decide us.Nodup && decide (us.length ≤ 6) && pLift us) = true := by decide +kernel
  have g := List.all_eq_true.mp go us h
  rw [Bool.and_eq_true, Bool.and_eq_true] at g
  exact ⟨⟨of_decide_eq_true g.1.1, of_decide_eq_true g.1.2⟩, g.2⟩
theorem takes_ne (n : Nat) : takes n ≠ [] := by
  have go : ((seqs takeWs).filter fun us => lTake us 2) ≠ [] ∧ ((seqs takeWs).filter fun us => lTake us 1) ≠ [] := by decide +kernel
  unfold takes
  by_cases h : 1 < n
  · rw [show (fun us => lTake us n) = fun us => lTake us 2 from funext fun us => lTake_n h]
    exact go.1
  · rw [show (fun us => lTake us n) = fun us => lTake us 1 from funext fun us => lTake_1 h]
    exact go.2
theorem gives_ne : gives ≠ [] := by decide +kernel
theorem moves_ne (b : Bool) : moves b ≠ [] := by
  have go : ∀ b, moves b ≠ [] := by decide +kernel
  exact go b
/-! rules of a book -/
inductive Pt where
  | take | give | move | lift | fails | shared | holds | batch | settles
deriving DecidableEq
def Pt.s : Pt → Str
  | .take => "take" | .give => "give" | .move => "move" | .lift => "lift" | .fails => "fails" | .shared => "shared" | .holds => "holds" | .batch => "batch" | .settles => "settles"
def allP : List Pt := [.take, .give, .move, .lift, .fails, .shared, .holds, .batch, .settles]
theorem allP_mem (p : Pt) : p ∈ allP := by cases p <;> decide
theorem Pt.inj {a b : Pt} (h : a.s = b.s) : a = b := by
  have go : (allP.all fun a => allP.all fun b => decide (a.s = b.s → a = b)) = true := by decide +kernel
  exact of_decide_eq_true (List.all_eq_true.mp (List.all_eq_true.mp go a (allP_mem a)) b (allP_mem b)) h
inductive Pv where
  | row (us : Rw) | hold (us : Rw) | wd (w : Wd) | bl (b : Bool) | int (n : Nat)
deriving DecidableEq
structure Ru where
  take : Rw
  give : Rw
  move : Rw
  lift : Rw
  fails : Wd
  shared : Bool
  holds : Rw
  batch : Nat
  settles : Bool
deriving DecidableEq
def Ru.get (r : Ru) : Pt → Pv
  | .take => .row r.take | .give => .row r.give | .move => .row r.move | .lift => .row r.lift | .fails => .wd r.fails | .shared => .bl r.shared | .holds => .hold r.holds | .batch => .int r.batch | .settles => .bl r.settles
/-- r with the part p of l -/
def Ru.upd (r l : Ru) : Pt → Ru
  | .take => { r with take := l.take } | .give => { r with give := l.give } | .move => { r with move := l.move } | .lift => { r with lift := l.lift } | .fails => { r with fails := l.fails }
  | .shared => { r with shared := l.shared } | .holds => { r with holds := l.holds } | .batch => { r with batch := l.batch } | .settles => { r with settles := l.settles }
theorem Ru.get_upd (r l : Ru) (p q : Pt) : (r.upd l p).get q = if q = p then l.get q else r.get q := by cases p <;> cases q <;> rfl
def kindRows : Rw := [.take, .give, .move, .lift]
def failWs : Rw := [.undo, .leave, .wait]
/-- rules that a book can have; holds stand in their sequence -/
structure Ok (r : Ru) : Prop where
  t : RowOk r.take ∧ pTake r.take = true ∧ pBatch r.take r.batch = true
  g : RowOk r.give ∧ pGive r.give = true
  m : RowOk r.move ∧ pMove r.move = true ∧ pShared r.move r.shared = true
  l : RowOk r.lift ∧ pLift r.lift = true
  f : r.fails ∈ failWs
  h : r.holds.Sublist kindRows
  b : 1 ≤ r.batch ∧ r.batch ≤ 50
theorem kinds_nd : kindRows.Nodup := by decide
theorem holds_nd {hs : Rw} (h : hs.Sublist kindRows) : hs.Nodup := h.nodup kinds_nd
theorem holds_ln {hs : Rw} (h : hs.Sublist kindRows) : hs.length ≤ 4 := h.length_le
theorem holds_sorted {hs : Rw} (h : hs.Sublist kindRows) : kindRows.filter (fun k => decide (k ∈ hs)) = hs := by
  have go : ∀ {ks hs : Rw}, hs.Sublist ks → ks.Nodup → ks.filter (fun k => decide (k ∈ hs)) = hs := by
    intro ks
    induction ks with
    | nil =>
      intro hs h _
      cases h
      rfl
    | cons k ks ih =>
      intro hs h nd
      rw [List.nodup_cons] at nd
      cases h with
      | cons _ h =>
        rw [List.filter_cons_of_neg (by simpa using fun q => nd.1 (h.subset q))]
        exact ih h nd.2
      | @cons_cons l1 _ _ h =>
        rw [List.filter_cons_of_pos (by simp)]
        congr 1
        rw [← ih h nd.2]
        refine List.filter_congr fun x hx => ?_
        have nx : x ≠ k := fun e => nd.1 (e ▸ hx)
        rw [ih h nd.2]
        simp [nx]
  exact go h kinds_nd
theorem Ok.holds_of {r l : Ru} (h : Ok r) (hs : l.holds.Sublist kindRows) : Ok { r with holds := l.holds } := ⟨h.t, h.g, h.m, h.l, h.f, hs, h.b⟩
end My
namespace My
open PySem PySem.Spec PyProof.Rows L2 GL Evl StX SkE
section
variable {K : PySem.W.Frag} {σ : L2.St} {H : Hp} {te : TE} {x y v : V} {r : R2}
theorem rc_isi {u t : Value} {b : Bool} {c : V} (k : ClsV c u) (ty : ∀ H1, TyX K H1 x t) (h : PySem.W.kitOne K t u = some b) : RC (rIsi K) [x, c] H (.bl b) := fun H1 e Q q => ⟨x, c, t, u, b, rfl, k, ty H1, h, q H1 (Ex.refl H1)⟩
theorem et_is' {b : Bool} (h : Ev te σ H (.bl b)) : Ev te σ H (.bl b) := h
theorem rv_bl {a b : Bool} (h : RV r x y H (.bl a)) (e : a = b) : RV r x y H (.bl b) := by
  rw [← e]
  exact h
end
abbrev nV (n : Nat) : V := .int (n : Int)
theorem nV_eq (a b : Nat) : decide (nV a = nV b) = decide (a = b) := by
  by_cases e : a = b
  · subst e
    rw [decide_eq_true rfl, decide_eq_true rfl]
  · have z : ¬ nV a = nV b := fun q => e (by have := V.int.inj q; omega)
    rw [decide_eq_false z, decide_eq_false e]
section
variable {K : PySem.W.Frag} {σ : L2.St} {H H' : Hp} {ta tb te : TE} {t u : TT} {x y z v : V} {C : Addr}
theorem ev_fld {p dx : Addr} {fs : List (Str × V)} {f : Str} (ha : Ev ta σ H (.ref p)) (h : H p = some (.ins C dx fs)) (c : Cls K C) (n : NoAttr K C f) (l : fs.lookup f = some v) : Ev (tFld K ta f) σ H v :=
  fun H1 e Q q => ha H1 e _ fun H2 e2 => ⟨p, C, dx, fs, v, rfl, e2 _ _ (e _ _ h), c, n, l, q H2 e2⟩
theorem ev_chain {r r' : R2} {tc : TE} {w : V} {b c : Bool} (ha : Ev ta σ H x) (hb : Ev tb σ H y) (hr : RV r x y H (.bl b)) (hc : b = true → Ev tc σ H w) (hr' : b = true → RV r' y w H (.bl c)) : Ev (tChain r r' ta tb tc) σ H (.bl (b && c)) := fun H1 e Q q =>
  ha H1 e _ fun H2 e2 => hb H2 (e.trans e2) _ fun H3 e3 => hr H3 ((e.trans e2).trans e3) _ fun H4 e4 => ⟨b, rfl, by
    have f4 := (e2.trans e3).trans e4
    cases b with
    | false => exact q H4 f4
    | true => exact hc rfl H4 (e.trans f4) _ fun H5 e5 => hr' rfl H5 ((e.trans f4).trans e5) Q fun H6 e6 => q H6 ((f4.trans e5).trans e6)⟩
end
def ExB (a : Addr) (H H' : Hp) : Prop := ∀ b o, b ≠ a → H b = some o → H' b = some o
theorem ExB.of {a : Addr} {H H' : Hp} (e : Ex H H') : ExB a H H' := fun b o _ h => e b o h
theorem ExB.refl (a : Addr) (H : Hp) : ExB a H H := fun _ _ _ h => h
theorem ExB.trans {a : Addr} {H H1 H2 : Hp} (x : ExB a H H1) (y : ExB a H1 H2) : ExB a H H2 := fun b o n h => y b o n (x b o n h)
theorem ExB.set {a : Addr} {H : Hp} {o : HO} : ExB a H (upd H a o) := fun b u n h => by
  rw [upd_ne n]
  exact h
theorem ExB.mut {a b : Addr} {H H' : Hp} {o : HO} (e : ExB a H H') (h : H b = none) : ExB a H (upd H' b o) := fun c u n hc => by
  rw [upd_ne (ne_of_none hc h)]
  exact e c u n hc
theorem ExB.free {a : Addr} {H H' : Hp} {p : Addr} {o : HO} (e : ExB a H H') (ha : H' a = some o) (h : H' p = none) : H p = none := by
  cases q : H p with
  | none => rfl
  | some u =>
    have n : p ≠ a := fun z => by rw [z, ha] at h; cases h
    rw [e p u n q] at h
    cases h
theorem ExB.all {a : Addr} {H0 H H' : Hp} (e0 : Ex H0 H) (h : H0 a = none) (e : ExB a H H') : Ex H0 H' := fun b o hb => e b o (ne_of_none hb h) (e0 b o hb)
def PotAt (H : Hp) (a : Addr) : Prop := ∃ x y : Int, H a = some (.lst [.int x, .int y]) ∧ 0 ≤ x ∧ 0 ≤ y ∧ y < 2147483600
theorem PotAt.ex {H H' : Hp} {a : Addr} (h : PotAt H a) (e : Ex H H') : PotAt H' a := by
  obtain ⟨x, y, h1, h2⟩ := h
  exact ⟨x, y, e _ _ h1, h2⟩
theorem PotAt.exB {H H' : Hp} {a b : Addr} (h : PotAt H a) (e : ExB b H H') (n : a ≠ b) : PotAt H' a := by
  obtain ⟨x, y, h1, h2⟩ := h
  exact ⟨x, y, e _ _ n h1, h2⟩
def sp_Lpot (K : PySem.W.Frag) : Sp := fun vs H Q _ => ∃ (a : Addr) (ns : List Int) (k : Nat), vs = [.ref a, .int (k : Int)] ∧ SqL K H a (ns.map V.int) ∧ ns.length ≤ 63 ∧ k < 3 ∧ ∀ H' p, H p = none → Ex H H' → PotAt H' p → Q (.ref p) H'
def sp_Ldraw : Sp := fun vs H Q _ => ∃ a, ∃ n : Nat, vs = [.ref a, nV n] ∧ PotAt H a ∧ 1 ≤ n ∧ n ≤ 1000 ∧ ∀ H' (d : Nat), ExB a H H' → PotAt H' a → d < n → Q (nV d) H'
theorem ev_raw {te : TE} {σ : L2.St} {H : Hp} {v : V} {Q : VK} (h : Ev te σ H v) (k : ∀ H1, Ex H H1 → Q v H1) : te σ H Q := h H (Ex.refl H) Q k
theorem cb_raw {r : List V → Hp → VK → Prop} {ta : TA} {σ : L2.St} {H : Hp} {vs : List V} {Q : VK} (h : EvA ta σ H vs) (k : ∀ H1, Ex H H1 → r vs H1 Q) : tCB r ta σ H Q := h H (Ex.refl H) _ k
theorem q_asgR {te : TE} {g : TG} {tz : TS} {D : Ends} {σ : L2.St} {H : Hp} (h : te σ H fun x H1 => g x σ H1 (tz D)) : tSeq (tAsg te g) tz D σ H := h
theorem s_retR {te : TE} {D : Ends} {σ : L2.St} {H : Hp} (h : te σ H D.rt) : tRet te D σ H := h
theorem no_pylong {x : Int} {n : Nat} (h : n ≤ 1000) : Builtin.divisionGoesByPylong x (n : Int) = false := by
  have hl : n.log2 < 10 := by
    by_cases e : n = 0
    · subst e
      decide
    · exact (Nat.log2_lt e).mpr (by omega)
  have hd : ¬ ((if ((n : Int) == 0) = true then 0 else (n : Int).natAbs.log2 / 30 + 1) > 300) := by
    rw [Int.natAbs_natCast]
    split <;> omega
  show (decide ((if ((n : Int) == 0) = true then 0 else (n : Int).natAbs.log2 / 30 + 1) > 300) && _) = false
  rw [decide_eq_false hd, Bool.false_and]
section
variable {K : PySem.W.Frag} {H : Hp}
theorem rc_lenL {a : Addr} {xs : List V} (h : SqL K H a xs) : RC (rLenS K) [.ref a] H (.int (xs.length : Int)) := fun H1 e Q q => ⟨a, xs, rfl, .inl (ex_l e h), q H1 (Ex.refl H1)⟩
theorem rc_max2 {i j : Int} : RC rMax2 [.int i, .int j] H (.int (if j > i then j else i)) := fun H1 _ Q q => ⟨i, j, rfl, q H1 (Ex.refl H1)⟩
theorem rc_int {i : Int} : RC (fun xs H Q => (∃ i, xs = [V.int i] ∧ Q (.int i) H) ∨ ∃ k, xs = [V.bl k] ∧ Q (.int (if k then 1 else 0)) H) [.int i] H (.int i) := fun H1 _ Q q => .inl ⟨i, rfl, q H1 (Ex.refl H1)⟩
theorem rc_abs {i : Int} : RC (fun xs H Q => ∃ i, xs = [V.int i] ∧ Q (.int (if i < 0 then -i else i)) H) [.int i] H (.int (if i < 0 then -i else i)) := fun H1 _ Q q => ⟨i, rfl, q H1 (Ex.refl H1)⟩
end
section
variable {P : Program} {w : World} {K : PySem.W.Frag} {mg : Str → Option Value} {base : Heap} {C : Addr} {H : Hp}
theorem dr {t : TA} {σ : L2.St} {Er : XK} {Q : VK} {a : Addr} {n : Nat} (h : EvA t σ H [.ref a, nV n]) (p : PotAt H a) (h1 : 1 ≤ n) (h2 : n ≤ 1000) (k : ∀ H' (d : Nat), ExB a H H' → PotAt H' a → d < n → Q (nV d) H') : tCall sp_Ldraw [] Er t σ H Q :=
  h H (Ex.refl H) _ fun H1 e1 => ⟨a, n, rfl, p.ex e1, h1, h2, fun H' d x p' hd => k H' d ((ExB.of e1).trans x) p' hd⟩
theorem yes_raw {σ : L2.St} {A B : Hp → Prop} (h : A H) : tYes σ H fun b H3 => if b = true then A H3 else B H3 := by
  show if true = true then A H else B H
  exact iteT h
theorem op_raw {r : R2} {ta tb : TE} {σ : L2.St} {Q : VK} (h : ta σ H fun x H1 => tb σ H1 fun y H2 => r x y H2 Q) : tOp r ta tb σ H Q := h
theorem test_raw {te : TE} {σ : L2.St} {Q : Bool → Hp → Prop} (h : te σ H fun x H' => ∃ k, x = .bl k ∧ Q k H') : tTest te σ H Q := h
end
theorem roomU {k : Nat} {A : Around} (h : Room k A) : A.units + 64 < cLine := by
  have := h.un
  omega
section
variable {K : PySem.W.Frag} {σ : L2.St} {H : Hp} {te tb : TE} {ta : TA} {t tu : TT} {D : Ends} {tz : TS} {xs ys : List V} {b : Bool}
theorem et_yes : EvT tYes σ H true := fun H1 _ _ q => q H1 (Ex.refl H1)
theorem el_is (h : EvL te σ H xs) (e : xs = ys) : EvL te σ H ys := by
  rw [← e]
  exact h
theorem rc_all {p : Addr} {bs : List Bool} (h : H p = some (.lst (bs.map V.bl))) : RC (rAll K) [.ref p] H (.bl (bs.all id)) := fun H1 e Q q => ⟨p, bs, rfl, sq_of (e _ _ h), q H1 (Ex.refl H1)⟩
theorem ev_allB {bs : List Bool} (h : EvL te σ H (bs.map V.bl)) : Ev (tCB (rAll K) (tCons te tNil)) σ H (.bl (bs.all id)) := fun H1 e Q q => h H1 e _ fun p H2 hp e2 h2 => rc_all h2 H2 (Ex.refl H2) Q fun H3 e3 => q H3 (e2.trans e3)
end
end My
namespace My
open PySem PySem.Spec PyProof.Rows L2 GL Evl StX SkE
/-! ### rows and rules in the heap -/
def isTup : HO → Bool
  | .tup _ => true
  | .frz _ (.tup _) => true
  | _ => false
/-- no tuple stands at b -/
def NoTup (H : Hp) (b : Addr) : Prop := ∀ u, H b = some u → isTup u = false
inductive RowAt (K : PySem.W.Frag) (H : Hp) (a : Addr) (us : Rw) : Prop where
  | tup (h : H a = some (.tup (us.map wV)))
  | fx {o : Obj} (h : H a = some (.frz o (.tup (us.map wV)))) (b : Bare o)
  | kst (h : ∀ H, SqT K H a (us.map wV)) (y : ∀ H, TyX K H (.ref a) (.type "tuple"))
section
variable {K : PySem.W.Frag} {H H' : Hp} {a b : Addr} {us ws : Rw}
theorem NoTup.lst {xs : List V} (h : H b = some (.lst xs)) : NoTup H b := fun u e => by
  rw [h] at e
  cases e
  rfl
theorem NoTup.dK {xs : List (Key × V)} (h : H b = some (.dK xs)) : NoTup H b := fun u e => by
  rw [h] at e
  cases e
  rfl
theorem NoTup.ins {C dx : Addr} {xs : List (Str × V)} (h : H b = some (.ins C dx xs)) : NoTup H b := fun u e => by
  rw [h] at e
  cases e
  rfl
theorem NoTup.none (h : H b = .none) : NoTup H b := fun u e => by
  rw [h] at e
  cases e
theorem RowAt.sq (h : RowAt K H a us) : SqT K H a (us.map wV) := by
  cases h with
  | tup h => exact st_of h
  | fx h _ => exact .inl (.inr ⟨_, h⟩)
  | kst h _ => exact h H
theorem RowAt.ty (h : RowAt K H a us) : TyX K H (.ref a) (.type "tuple") := by
  cases h with
  | tup h => exact .base (.tup h)
  | fx h _ => exact .fTuple h
  | kst _ y => exact y H
theorem RowAt.ex (h : RowAt K H a us) (e : Ex H H') : RowAt K H' a us := by
  cases h with
  | tup h => exact .tup (e _ _ h)
  | fx h b => exact .fx (e _ _ h) b
  | kst h y => exact .kst h y
/-- a place where no tuple stands may change -/
theorem RowAt.exB (h : RowAt K H a us) (e : ExB b H H') (n : NoTup H b) : RowAt K H' a us := by
  cases h with
  | tup h => exact .tup (e _ _ (fun q => Bool.noConfusion (n _ (q ▸ h))) h)
  | fx h c => exact .fx (e _ _ (fun q => Bool.noConfusion (n _ (q ▸ h))) h) c
  | kst h y => exact .kst h y
/-- a row: a tuple without a dict -/
inductive RowX (K : PySem.W.Frag) (H : Hp) (a : Addr) (us : Rw) : Prop where
  | fx {o : Obj} (h : H a = some (.frz o (.tup (us.map wV)))) (b : Bare o)
  | kst (h : ∀ H, SqT K H a (us.map wV)) (y : ∀ H, TyX K H (.ref a) (.type "tuple")) (t : ∃ o, K.lookup a = some o ∧ Bare o)
theorem RowX.at_ (h : RowX K H a us) : RowAt K H a us := by
  cases h with
  | fx h b => exact .fx h b
  | kst h y t => exact .kst h y
theorem RowX.tp (h : RowX K H a us) : Tpl K H a := by
  cases h with
  | fx h b => exact .inl ⟨_, _, h, b⟩
  | kst h y t => exact .inr t
theorem RowX.sq (h : RowX K H a us) : SqT K H a (us.map wV) := h.at_.sq
theorem RowX.ex (h : RowX K H a us) (e : Ex H H') : RowX K H' a us := by
  cases h with
  | fx h b => exact .fx (e _ _ h) b
  | kst h y t => exact .kst h y t
theorem RowX.exB (h : RowX K H a us) (e : ExB b H H') (n : NoTup H b) : RowX K H' a us := by
  cases h with
  | fx h c => exact .fx (e _ _ (fun q => Bool.noConfusion (n _ (q ▸ h))) h) c
  | kst h y t => exact .kst h y t
def dW (w : Wd) : PyData := .str w.s
def dRow (us : Rw) : PyData := .tuple (us.map dW)
theorem dp_ws (H : Hp) : ∀ us : Rw, DpAll K H (us.map wV) (us.map dW)
  | [] => .nil
  | u :: us => .cons (.str _) (dp_ws H us)
theorem RowAt.dp (h : RowAt K H a us) : Dp K H (.ref a) (dRow us) := .tup h.sq (dp_ws H us)
theorem RowX.dp (h : RowX K H a us) : Dp K H (.ref a) (dRow us) := h.at_.dp
theorem eqv_ws : ∀ us ws : Rw, PyData.eqvAll (us.map dW) (ws.map dW) = decide (us = ws)
  | [], [] => rfl
  | [], _ :: _ => rfl
  | _ :: _, [] => rfl
  | u :: us, w :: ws => by
    have ih := eqv_ws us ws
    show (PyData.eqv (dW u) (dW w) && PyData.eqvAll (us.map dW) (ws.map dW)) = decide (u :: us = w :: ws)
    rw [ih]
    have e1 : PyData.eqv (dW u) (dW w) = decide (u = w) := by
      show (u.s == w.s) = decide (u = w)
      by_cases e : u = w
      · rw [e, decide_eq_true rfl, beq_self_eq_true]
      · rw [decide_eq_false e]
        exact beq_eq_false_iff_ne.mpr fun q => e (Wd.inj q)
    rw [e1]
    by_cases e : u = w <;> by_cases e' : us = ws <;> simp [e, e']
theorem eqv_row (us ws : Rw) : PyData.eqv (dRow us) (dRow ws) = decide (us = ws) := by
  show PyData.eqvAll (us.map dW) (ws.map dW) = decide (us = ws)
  exact eqv_ws us ws
theorem shaped_of {d : PyData} (h1 : d.canLay0 = true) (h2 : d.depth ≤ 64) : SeqAt.shaped d = true := by
  show (d.canLay0 && decide (d.depth ≤ 64)) = true
  rw [h1, decide_eq_true h2]
  rfl
theorem w_ok (w : Wd) : PyData.strOk w.s = true := by cases w <;> decide +kernel
theorem lay_ws : ∀ us : Rw, PyData.canLayAll0 (us.map dW) = true
  | [] => rfl
  | u :: us => by
    show ((PyData.str u.s).canLay0 && PyData.canLayAll0 (us.map dW)) = true
    rw [lay_ws us]
    simp only [PyData.canLay0, w_ok, Bool.and_self]
theorem depth_ws : ∀ us : Rw, PyData.depthAll (us.map dW) ≤ 0
  | [] => Nat.le_refl _
  | u :: us => by
    show max (dW u).depth (PyData.depthAll (us.map dW)) ≤ 0
    exact Nat.max_le.mpr ⟨Nat.le_refl _, depth_ws us⟩
theorem row_lay (us : Rw) : (dRow us).canLay0 = true := lay_ws us
theorem row_depth (us : Rw) : (dRow us).depth ≤ 1 := by
  have := depth_ws us
  show (PyData.tuple (us.map dW)).depth ≤ 1
  simp only [PyData.depth]
  omega
theorem row_shaped (us : Rw) : SeqAt.shaped (dRow us) = true := shaped_of (row_lay us) (Nat.le_trans (row_depth us) (by decide))
theorem rows_lay : ∀ rs : List Rw, PyData.canLayAll0 (rs.map dRow) = true
  | [] => rfl
  | u :: us => by
    show ((dRow u).canLay0 && PyData.canLayAll0 (us.map dRow)) = true
    rw [rows_lay us, row_lay]
    rfl
theorem rows_depth : ∀ rs : List Rw, PyData.depthAll (rs.map dRow) ≤ 1
  | [] => Nat.zero_le _
  | u :: us => by
    show max (dRow u).depth (PyData.depthAll (us.map dRow)) ≤ 1
    exact Nat.max_le.mpr ⟨row_depth u, rows_depth us⟩
theorem rowsT_shaped (rs : List Rw) : SeqAt.shaped (.tuple (rs.map dRow)) = true := shaped_of (rows_lay rs) (by
  have := rows_depth rs
  simp only [PyData.depth]
  omega)
theorem any_row (us : Rw) (rs : List Rw) : ((rs.map dRow).any fun z => PyData.eqv z (dRow us)) = decide (us ∈ rs) := by
  rw [List.any_map]
  induction rs with
  | nil => rfl
  | cons r rs ih =>
    rw [List.any_cons, ih]
    show (PyData.eqv (dRow r) (dRow us) || decide (us ∈ rs)) = decide (us ∈ r :: rs)
    rw [eqv_row]
    by_cases e : r = us
    · subst e
      simp
    · have e' : ¬ us = r := fun q => e q.symm
      simp [e, e']
end
/-! lists of rows -/
inductive RowsAt (K : PySem.W.Frag) (H : Hp) : List V → List Rw → Prop where
  | nil : RowsAt K H [] []
  | cons {a : Addr} {us : Rw} {vs : List V} {rs : List Rw} (h : RowX K H a us) (t : RowsAt K H vs rs) : RowsAt K H (.ref a :: vs) (us :: rs)
section
variable {K : PySem.W.Frag} {H H' : Hp} {vs ws : List V} {rs qs : List Rw}
theorem RowsAt.ex (h : RowsAt K H vs rs) (e : Ex H H') : RowsAt K H' vs rs := by
  induction h with
  | nil => exact .nil
  | cons h _ ih => exact .cons (h.ex e) ih
theorem RowsAt.len (h : RowsAt K H vs rs) : vs.length = rs.length := by
  induction h with
  | nil => rfl
  | cons _ _ ih => rw [List.length_cons, List.length_cons, ih]
theorem RowsAt.app (h : RowsAt K H vs rs) (h2 : RowsAt K H ws qs) : RowsAt K H (vs ++ ws) (rs ++ qs) := by
  induction h with
  | nil => exact h2
  | cons h _ ih => exact .cons h ih
theorem RowsAt.at (h : RowsAt K H vs rs) {i : Nat} {v : V} (hv : vs[i]? = some v) : ∃ a us, v = .ref a ∧ rs[i]? = some us ∧ RowX K H a us := by
  induction h generalizing i with
  | nil => simp at hv
  | @cons a us vs rs h _ ih =>
    cases i with
    | zero =>
      rw [List.getElem?_cons_zero] at hv
      exact ⟨a, us, (Option.some.inj hv).symm, rfl, h⟩
    | succ i =>
      rw [List.getElem?_cons_succ] at hv
      obtain ⟨b, ws, e, e2, hb⟩ := ih hv
      exact ⟨b, ws, e, by rw [List.getElem?_cons_succ]; exact e2, hb⟩
theorem RowsAt.mem (h : RowsAt K H vs rs) {v : V} (hv : v ∈ vs) : ∃ a us, v = .ref a ∧ us ∈ rs ∧ RowX K H a us := by
  obtain ⟨i, hi⟩ := List.getElem?_of_mem hv
  obtain ⟨a, us, e, e2, h2⟩ := h.at hi
  exact ⟨a, us, e, List.mem_of_getElem? e2, h2⟩
theorem RowsAt.dp (h : RowsAt K H vs rs) : DpAll K H vs (rs.map dRow) := by
  induction h with
  | nil => exact .nil
  | cons h _ ih => exact .cons h.dp ih
end
/-! parts -/
def Pv.At (K : PySem.W.Frag) (H : Hp) : Pv → V → Prop
  | .row us, v => ∃ a, v = .ref a ∧ RowX K H a us
  | .hold us, v => ∃ a, v = .ref a ∧ RowAt K H a us
  | .wd w, v => v = wV w
  | .bl b, v => v = .bl b
  | .int n, v => v = nV n
def Pv.d : Pv → PyData
  | .row us => dRow us
  | .hold us => dRow us
  | .wd w => dW w
  | .bl b => .bool b
  | .int n => .int n
section
variable {K : PySem.W.Frag} {H H' : Hp} {p q : Pv} {v : V} {b : Addr}
theorem Pv.At.ex (h : p.At K H v) (e : Ex H H') : p.At K H' v := by
  cases p with
  | row us =>
    obtain ⟨a, rfl, h⟩ := h
    exact ⟨a, rfl, h.ex e⟩
  | hold us =>
    obtain ⟨a, rfl, h⟩ := h
    exact ⟨a, rfl, h.ex e⟩
  | _ => exact h
theorem Pv.At.exB (h : p.At K H v) (e : ExB b H H') (n : NoTup H b) : p.At K H' v := by
  cases p with
  | row us =>
    obtain ⟨a, rfl, h⟩ := h
    exact ⟨a, rfl, h.exB e n⟩
  | hold us =>
    obtain ⟨a, rfl, h⟩ := h
    exact ⟨a, rfl, h.exB e n⟩
  | _ => exact h
theorem Pv.At.dp (h : p.At K H v) : Dp K H v p.d := by
  cases p with
  | row us =>
    obtain ⟨a, rfl, h⟩ := h
    exact h.dp
  | hold us =>
    obtain ⟨a, rfl, h⟩ := h
    exact h.dp
  | wd w =>
    cases h
    exact .str _
  | bl b =>
    cases h
    exact .bl b
  | int n =>
    cases h
    exact .int _
theorem Pv.shaped (p : Pv) : SeqAt.shaped p.d = true := by
  cases p with
  | row us => exact row_shaped us
  | hold us => exact row_shaped us
  | wd w => exact shaped_of (d := .str w.s) (by simp only [PyData.canLay0, w_ok]) (by simp only [PyData.depth]; omega)
  | bl b => exact shaped_of (d := .bool b) (by simp only [PyData.canLay0]) (by simp only [PyData.depth]; omega)
  | int n => exact shaped_of (d := .int n) (by simp only [PyData.canLay0]) (by simp only [PyData.depth]; omega)
end
/-! dicts of rules -/
abbrev kvs (ks : List Pt) (f : Pt → V) : List (Key × V) := ks.map fun p => (.inr p.s, f p)
theorem pkey {p q : Pt} : ((Sum.inr p.s : Key) = Sum.inr q.s) ↔ p = q := ⟨fun e => Pt.inj (Sum.inr.inj e), fun e => e ▸ rfl⟩
theorem val_at {f : Pt → V} {p : Pt} : ∀ {ks : List Pt}, p ∈ ks → valV (kvs ks f) (.inr p.s) = some (f p)
  | q :: ks, h => by
    by_cases e : q = p
    · subst e
      exact valV_pos rfl
    · have hp : p ∈ ks := (List.mem_cons.mp h).resolve_left fun z => e z.symm
      have ih := val_at (f := f) hp
      unfold valV at ih ⊢
      rw [show kvs (q :: ks) f = (.inr q.s, f q) :: kvs ks f from rfl, List.find?_cons, decide_eq_false (fun z => e (pkey.mp z))]
      exact ih
def put (f : Pt → V) (p : Pt) (v : V) : Pt → V := fun q => if q = p then v else f q
theorem any_kvs (ks : List Pt) (f : Pt → V) (p : Pt) : ((kvs ks f).any fun kv => decide (kv.1 = Sum.inr p.s)) = decide (p ∈ ks) := by
  rw [List.any_map]
  induction ks with
  | nil => rfl
  | cons q ks ih =>
    rw [List.any_cons, ih]
    show (decide ((Sum.inr q.s : Key) = Sum.inr p.s) || decide (p ∈ ks)) = _
    by_cases e : q = p
    · subst e
      simp
    · have e' : ¬ p = q := fun z => e z.symm
      rw [decide_eq_false (fun z => e (pkey.mp z))]
      simp [e']
theorem put_old {ks : List Pt} {f : Pt → V} {p : Pt} {v : V} (h : p ∈ ks) : putK (kvs ks f) (.inr p.s) v = kvs ks (put f p v) := by
  unfold putK
  rw [any_kvs, decide_eq_true h, if_pos rfl, List.map_map]
  refine List.map_congr_left fun q _ => ?_
  show (if (Sum.inr q.s : Key) = Sum.inr p.s then (Sum.inr q.s, v) else (Sum.inr q.s, f q)) = (Sum.inr q.s, put f p v q)
  unfold put
  by_cases e : q = p
  · rw [if_pos (pkey.mpr e), if_pos e]
  · rw [if_neg (fun z => e (pkey.mp z)), if_neg e]
theorem put_new {ks : List Pt} {f : Pt → V} {p : Pt} {v : V} (h : p ∉ ks) : putK (kvs ks f) (.inr p.s) v = kvs (ks ++ [p]) (put f p v) := by
  unfold putK
  rw [any_kvs, decide_eq_false h, if_neg (by decide)]
  unfold kvs
  rw [List.map_append]
  congr 1
  · refine List.map_congr_left fun q hq => ?_
    unfold put
    rw [if_neg (fun e : q = p => h (e ▸ hq))]
  · show [(Sum.inr p.s, v)] = [(Sum.inr p.s, put f p v p)]
    unfold put
    rw [if_pos rfl]
/-- at d a dict with these keys, whose values are r's parts -/
def DictAt (K : PySem.W.Frag) (H : Hp) (d : Addr) (ks : List Pt) (r : Ru) : Prop := ∃ f : Pt → V, H d = some (.dK (kvs ks f)) ∧ ∀ p ∈ ks, (r.get p).At K H (f p)
section
variable {K : PySem.W.Frag} {H H' : Hp} {d b : Addr} {ks : List Pt} {r : Ru}
theorem DictAt.ex (h : DictAt K H d ks r) (e : Ex H H') : DictAt K H' d ks r := by
  obtain ⟨f, h1, h2⟩ := h
  exact ⟨f, e _ _ h1, fun p hp => (h2 p hp).ex e⟩
theorem DictAt.exB (h : DictAt K H d ks r) (e : ExB b H H') (nd : d ≠ b) (n : NoTup H b) : DictAt K H' d ks r := by
  obtain ⟨f, h1, h2⟩ := h
  exact ⟨f, e _ _ nd h1, fun p hp => (h2 p hp).exB e n⟩
end
end My
namespace My
open PySem PySem.Spec PyProof.Rows L2 GL Evl StX SkE
def fd : V → PyData
  | .int i => .int i
  | .str x => .str x
  | .bl b => .bool b
  | _ => .none
theorem fd_dp {K : PySem.W.Frag} {H : Hp} : ∀ {x : V}, flatV x = true → Dp K H x (fd x)
  | .non, _ => .non
  | .bl b, _ => .bl b
  | .int i, _ => .int i
  | .str x, _ => .str x
  | .byt _, h => by cases h
  | .flt _, h => by cases h
  | .ref _, h => by cases h
  | .ty _, h => by cases h
def Shrt (x : V) : Prop := flatV x = true ∧ (fd x).showable = true ∧ (fd x).hasDict = false ∧ (fd x).depth ≤ 0 ∧ (fd x).shown.length ≤ 40
theorem shrt_nat {n : Nat} (h : n ≤ 100000) : Shrt (nV n) := by
  refine ⟨rfl, ?_, ?_, ?_, ?_⟩
  · show (PyData.int (n : Int)).showable = true
    simp only [PyData.showable]
    refine decide_eq_true ?_
    rw [Int.natAbs_natCast]
    by_cases e : n = 0
    · subst e
      decide
    · exact (Nat.log2_lt e).mpr (Nat.lt_of_le_of_lt h (by
        have : 2 ^ 17 ≤ 2 ^ 1920 := Nat.pow_le_pow_right (by decide) (by decide)
        omega))
  · show (PyData.int (n : Int)).hasDict = false
    simp only [PyData.hasDict]
  · show (PyData.int (n : Int)).depth ≤ 0
    simp only [PyData.depth]
    omega
  · have := PyData.shown_int_le2 (i := (n : Int)) (by omega) (by omega)
    show (PyData.int (n : Int)).shown.length ≤ 40
    omega
theorem shrt_bl (b : Bool) : Shrt (.bl b) := by
  refine ⟨rfl, ?_, ?_, ?_, ?_⟩
  · show (PyData.bool b).showable = true
    simp only [PyData.showable]
  · show (PyData.bool b).hasDict = false
    simp only [PyData.hasDict]
  · show (PyData.bool b).depth ≤ 0
    simp only [PyData.depth]
    omega
  · show (PyData.bool b).shown.length ≤ 40
    cases b <;> decide +kernel
theorem text_len (B : Nat) : ∀ (ts : List Str) (k : Nat) (acc : Str), (∀ t ∈ ts, t.length ≤ B) → (textFrom k acc ts).length ≤ acc.length + ts.length * (B + 2)
  | [], k, acc, _ => by
    show acc.length ≤ acc.length + 0 * (B + 2)
    omega
  | t :: r, k, acc, h => by
    have ih := text_len B r (k + 1) (acc ++ (if k > 0 then ", " else "" : String) ++ t) fun y hy => h y (List.mem_cons_of_mem _ hy)
    have ht := h t List.mem_cons_self
    have e2 : (Str.ofString (if k > 0 then ", " else "")).length ≤ 2 := by
      split <;> decide
    rw [Str.length_append, Str.length_append] at ih
    show (textFrom (k + 1) (acc ++ (if k > 0 then ", " else "" : String) ++ t) r).length ≤ acc.length + (r.length + 1) * (B + 2)
    rw [Nat.add_mul, Nat.one_mul]
    omega
theorem list_text_len {B : Nat} {ts : List Str} (h : ∀ t ∈ ts, t.length ≤ B) : (listText ts).length ≤ ts.length * (B + 2) + 2 := by
  have q := text_len B ts 0 "[" h
  have e1 : (Str.ofString "[").length = 1 := by decide
  have e2 : (Str.ofString "]").length = 1 := by decide
  unfold listText
  rw [Str.length_append, e2]
  omega
theorem shownAll_mem : ∀ {ds : List PyData} {t : Str}, t ∈ PyData.shownAll ds → ∃ d ∈ ds, t = d.shown
  | [], t, h => by
    simp only [PyData.shownAll] at h
    cases h
  | d :: ds, t, h => by
    simp only [PyData.shownAll] at h
    rcases List.mem_cons.mp h with z | z
    · exact ⟨d, List.mem_cons_self, z⟩
    · obtain ⟨e, he, q⟩ := shownAll_mem z
      exact ⟨e, List.mem_cons_of_mem _ he, q⟩
theorem shownAll_len : ∀ ds : List PyData, (PyData.shownAll ds).length = ds.length
  | [] => by simp only [PyData.shownAll, List.length_nil]
  | d :: ds => by
    simp only [PyData.shownAll, List.length_cons]
    rw [shownAll_len ds]
theorem showableAll_of : ∀ {ds : List PyData}, (∀ d ∈ ds, d.showable = true) → PyData.showableAll ds = true
  | [], _ => by simp only [PyData.showableAll]
  | d :: ds, h => by
    simp only [PyData.showableAll, Bool.and_eq_true]
    exact ⟨h d List.mem_cons_self, showableAll_of fun e he => h e (List.mem_cons_of_mem _ he)⟩
theorem hasDictAll_of : ∀ {ds : List PyData}, (∀ d ∈ ds, d.hasDict = false) → PyData.hasDictAll ds = false
  | [], _ => by simp only [PyData.hasDictAll]
  | d :: ds, h => by
    simp only [PyData.hasDictAll, Bool.or_eq_false_iff]
    exact ⟨h d List.mem_cons_self, hasDictAll_of fun e he => h e (List.mem_cons_of_mem _ he)⟩
theorem depthAll_of : ∀ {ds : List PyData} {k : Nat}, (∀ d ∈ ds, d.depth ≤ k) → PyData.depthAll ds ≤ k
  | [], _, _ => by
    simp only [PyData.depthAll]
    omega
  | d :: ds, k, h => by
    simp only [PyData.depthAll]
    have h1 := h d List.mem_cons_self
    have h2 := depthAll_of (ds := ds) (k := k) fun e he => h e (List.mem_cons_of_mem _ he)
    omega
structure Sm (d : PyData) (k B : Nat) : Prop where
  sh : d.showable = true
  nd : d.hasDict = false
  de : d.depth ≤ k
  ln : d.shown.length ≤ B
theorem Shrt.sm {x : V} (h : Shrt x) : Sm (fd x) 0 40 := ⟨h.2.1, h.2.2.1, h.2.2.2.1, h.2.2.2.2⟩
theorem Sm.mono {d : PyData} {k B k' B' : Nat} (h : Sm d k B) (hk : k ≤ k') (hB : B ≤ B') : Sm d k' B' := ⟨h.sh, h.nd, Nat.le_trans h.de hk, Nat.le_trans h.ln hB⟩
theorem sm_list {ds : List PyData} {k B : Nat} (h : ∀ d ∈ ds, Sm d k B) : Sm (.list ds) (k + 1) (ds.length * (B + 2) + 2) := by
  refine ⟨?_, ?_, ?_, ?_⟩
  · simp only [PyData.showable]
    exact showableAll_of fun d hd => (h d hd).sh
  · simp only [PyData.hasDict]
    exact hasDictAll_of fun d hd => (h d hd).nd
  · simp only [PyData.depth]
    have := depthAll_of (ds := ds) (k := k) fun d hd => (h d hd).de
    omega
  · simp only [PyData.shown]
    have := list_text_len (B := B) (ts := PyData.shownAll ds) fun t ht => by
      obtain ⟨d, hd, rfl⟩ := shownAll_mem ht
      exact (h d hd).ln
    rw [shownAll_len] at this
    exact this
/-! texts of tuples, of parts -/
theorem join_len {B : Nat} : ∀ {ts : List Str}, (∀ t ∈ ts, t.length ≤ B) → (Str.join ", " ts).length ≤ ts.length * (B + 2)
  | [], _ => by
    rw [List.length_nil, Nat.zero_mul]
    decide
  | t :: ts, h => by
    have e := join_length_add (t :: ts) (by simp)
    have p : ∀ {us : List Str}, (∀ u ∈ us, u.length ≤ B) → piled us ≤ us.length * (B + 2) := by
      intro us
      induction us with
      | nil => intro _; simp [piled]
      | cons u us ih =>
        intro hu
        have h1 := hu u List.mem_cons_self
        have h2 := ih fun x hx => hu x (List.mem_cons_of_mem _ hx)
        rw [List.length_cons, Nat.add_mul, Nat.one_mul, piled_cons]
        omega
    have := p h
    omega
theorem tuple_text_len {B : Nat} {ts : List Str} (h : ∀ t ∈ ts, t.length ≤ B) : (tupleText ts).length ≤ ts.length * (B + 2) + 3 := by
  have q := join_len h
  unfold tupleText
  rw [Str.length_append, Str.length_append]
  have e1 : (Str.ofString "(").length = 1 := by decide
  have e2 : (Str.ofString (if ts.length == 1 then ",)" else ")" : String)).length ≤ 2 := by split <;> decide
  omega
theorem w_text (w : Wd) : (dW w).shown.length ≤ 8 := by
  show (PyData.str w.s).shown.length ≤ 8
  simp only [PyData.shown]
  cases w <;> decide +kernel
theorem sm_row {us : Rw} {n : Nat} (hl : us.length ≤ n) : Sm (dRow us) 1 (n * 10 + 3) := by
  refine ⟨?_, ?_, row_depth us, ?_⟩
  · show (PyData.tuple (us.map dW)).showable = true
    simp only [PyData.showable]
    refine showableAll_of fun d hd => ?_
    obtain ⟨u, _, rfl⟩ := List.mem_map.mp hd
    show (PyData.str u.s).showable = true
    simp only [PyData.showable]
  · show (PyData.tuple (us.map dW)).hasDict = false
    simp only [PyData.hasDict]
    refine hasDictAll_of fun d hd => ?_
    obtain ⟨u, _, rfl⟩ := List.mem_map.mp hd
    show (PyData.str u.s).hasDict = false
    simp only [PyData.hasDict]
  · show (PyData.tuple (us.map dW)).shown.length ≤ _
    simp only [PyData.shown]
    have := tuple_text_len (B := 8) (ts := PyData.shownAll (us.map dW)) fun t ht => by
      obtain ⟨d, hd, rfl⟩ := shownAll_mem ht
      obtain ⟨u, _, rfl⟩ := List.mem_map.mp hd
      exact w_text u
    rw [shownAll_len, List.length_map] at this
    have z : us.length * 10 ≤ n * 10 := Nat.mul_le_mul_right _ hl
    omega
end My
/-! ### tuple(list), told with its object -/
namespace GL
open PySem PySem.Spec PyProof.Rows L2
end GL
namespace My
open PySem PySem.Spec PyProof.Rows L2 GL Evl StX SkE
/-! ### the laws' menus of rows -/
def rowPs : List Pt := [.take, .give, .move, .lift]
end My
/-! ### f(k = v, ..), by names alone -/
namespace GL
open PySem PySem.Spec PyProof.Rows L2
end GL
/-! isinstance(e, C), C a class of ours or a built-in one -/
namespace GL
open PySem PySem.Spec PyProof.Rows L2
end GL
/-! promises kept where lists with instances are being shown: what stands in the way (the guards) are the addresses L -/
namespace GL
open PySem PySem.Spec PyProof.Rows L2 Evl StX SkE
def Gu (L : List Addr) (g : List Code) : Prop := ∀ id v rest kw, Code.builtin id ⟨v :: rest, kw⟩ ∈ g → ∃ l ∈ L, v = .ref l
def FreL (L : List Addr) (A : Around) : Prop := ∃ g, A.guards = some g ∧ Gu L g
theorem FreL.of {A : Around} (h : Fre A) : FreL [] A := ⟨[], h, fun _ _ _ _ q => nomatch q⟩
structure FnL (L : List Addr) (P : Program) (w : World) (K : PySem.W.Frag) (mg : Str → Option Value) (base : Heap) (CX : CXT) (k : Nat) (f : Addr) (fd : FuncData) (ps : List Str) (sp : Sp) : Prop where
  many : ∀ vs H Q E, sp vs H Q E → vs.length = ps.length
  goes : ∀ {A : Around} {outer : List Env} {s : Shared} {H : Hp} {args : Args} {us : List Value} {vs : List V} {Q : VK} {E : XK}, FreL L A → Room k A →
    Env0 P w K mg base A outer s H → BindsTo s fd args (ps.zip us) → Vals vs us → sp vs H Q E → codeAny (model P w) A (.call (.ref f) args) (CR CX outer P w H s Q E) s
theorem FnL.g {P : Program} {w : World} {K : PySem.W.Frag} {mg : Str → Option Value} {base : Heap} {CX : CXT} {k : Nat} {f : Addr} {fd : FuncData} {ps : List Str} {sp : Sp} (F : FnL [] P w K mg base CX k f fd ps sp) : FnG P w K mg base CX k f fd ps sp :=
  ⟨F.many, fun h r e b v q => F.goes (FreL.of h) r e b v q⟩
/-- a body keeps its promise where the guards are L -/
theorem bodiedL {L : List Addr} {CX : CXT} {P : Program} {w : World} {K : PySem.W.Frag} {mg : Str → Option Value} {base : Heap} {k : Nat} {f : Addr} {name qual : Str} {params : Arguments} {body : List Stmt} {scope : Scope} {dV kV doc pm cdv ct oc : Value} {an od : Option Addr}
    {sl0 : Array (Option Value)} {N ps : List Str} {sp : Sp} (lk : K.lookup f = some ⟨oc, od, .func (PySem.W.fnOf name qual params body scope dV kV doc pm an cdv ct), sl0⟩) (hcd : PySem.W.codeIn K cdv qual = true) (S : FnScope N ps scope)
    (many : ∀ vs H Q E, sp vs H Q E → vs.length = ps.length)
    (hb : ∀ (A : Around) (outer : List Env) (s : Shared) (H : Hp) (vs : List V) (Q : VK) (E : XK), FreL L (A.deeper (envOfC qual scope s.heap.objs.size f cdv)) → Room k (A.deeper (envOfC qual scope s.heap.objs.size f cdv)) → sp vs H Q E →
      ∃ tr, PSs (cxOf CX P w K mg base N qual scope f cdv A outer s H E) body tr ∧ tr { nx := fun _ H' => Q .non H', rt := Q } (start N vs) H) :
    FnL L P w K mg base CX (k + 1) f (PySem.W.fnOf name qual params body scope dV kV doc pm an cdv ct) ps sp := by
  refine ⟨many, ?_⟩
  intro A outer s H args us vs Q E hgd hr e0 hbd r hsp
  have KI : K.In s.heap := e0.mod.kin.keeps fun b o e => (e0.bs b o e).1
  have kinds : ∀ y ∈ ps.zip us, scope.names.lookup y.1 = some .local ∨ (scope.names.lookup y.1 = some .cell ∧ ((cellsFrom (s.heap.objs.size + 1) scope.names []).lookup y.1).isSome = true) := by
    rintro ⟨n, v⟩ hy
    exact (S.par n (List.of_mem_zip hy).1).imp id fun q => ⟨q, PySem.W.cellsFrom_some _ _ _ (.inl q)⟩
  refine codeAny_call_function hr.depth (KI _ _ lk) rfl S.co S.gen rfl (PySem.W.codeRec_of KI hcd) (hbd _ _ _ _ (wpAny_newFunctionEnv_cells S.kind kinds ?_))
  rintro env rfl s1 x
  refine ⟨(e0.mod.nolimit.keeps fun b o e => (e0.bs b o e).1).keeps x.toInCall.keep, codeAny_func ?_⟩
  obtain ⟨t, ht, hq⟩ := hb A outer s H vs Q E hgd (hr.deeper _) hsp
  have I := inv_start (CX := CX) (E := E) S hr.hd e0 (many _ _ _ _ hsp) r x
  refine wpAny_mono (ht.run [] s1 (start N vs) H _ I hq) ?_ (fun _ _ z => z)
  intro fl s' z
  match fl, z with
  | .ret u, z =>
    obtain ⟨v, σ', H', J, rv, q⟩ := z
    exact ⟨v, H', J.os, J.bare, J.base, J.hok, rv, q⟩
  | .next, z =>
    obtain ⟨σ', H', J, q⟩ := z
    exact ⟨V.non, H', J.os, J.bare, J.base, J.hok, rfl, q⟩
  | .brk, z => exact z.elim fun _ z => z.elim fun _ z => z.2.elim
  | .cont, z => exact z.elim fun _ z => z.elim fun _ z => z.2.elim
section
variable {P : Program} {w : World} {K : PySem.W.Frag} {mg : Str → Option Value} {base : Heap} {x qual : Str} {st : Stmt} {f : Addr} {fd : FuncData} {N ps : List Str} {k : Nat} {sp : Sp} {CX : CXT} {L : List Addr}
theorem okL (F : L2.Fun K x qual st f fd) (S : FnScope N ps (defScope st)) (many : ∀ vs H Q E, sp vs H Q E → vs.length = ps.length)
    (hb : ∀ (cdv : Value) (A : Around) (outer : List Env) (s : Shared) (H : Hp) (vs : List V) (Q : VK) (E : XK), FreL L (A.deeper (envOfC qual (defScope st) s.heap.objs.size f cdv)) → Room k (A.deeper (envOfC qual (defScope st) s.heap.objs.size f cdv)) → sp vs H Q E →
      ∃ t, PSs (cxOf CX0 P w K mg base N qual (defScope st) f cdv A outer s H E).nox (defBody st) t ∧ t { nx := fun _ H' => Q .non H', rt := Q } (start N vs) H) : FnL L P w K mg base CX0 (k + 1) f fd ps sp := by
  obtain ⟨c0, o0, kV, doc, pm, an, cdv, ct, s0, rfl, lk, hcd⟩ := F.ex
  exact bodiedL lk hcd S many fun A outer s H vs Q E g hr hsp => (hb cdv A outer s H vs Q E g hr hsp).imp fun t z => ⟨z.1.nox, z.2⟩
end
/-! what is no data -/
def Odd (K : PySem.W.Frag) (H : Hp) (l : Addr) : Prop := ∃ xs a C dx fs, (SqL K H l xs ∨ SqT K H l xs) ∧ V.ref a ∈ xs ∧ H a = some (.ins C dx fs)
theorem Odd.ex {K : PySem.W.Frag} {H H' : Hp} {l : Addr} (h : Odd K H l) (e : Ex H H') : Odd K H' l := by
  obtain ⟨xs, a, C, dx, fs, h1, h2, h3⟩ := h
  exact ⟨xs, a, C, dx, fs, h1.imp (ex_l e) (ex_t e), h2, e _ _ h3⟩
theorem vals_mem {vs : List V} {us : List Value} (h : Vals vs us) {a : Addr} (m : V.ref a ∈ vs) : Value.ref a ∈ us := by
  induction h with
  | nil => cases m
  | cons r t ih =>
    rcases List.mem_cons.mp m with e | m
    · subst e
      cases r
      exact List.mem_cons_self
    · exact List.mem_cons_of_mem _ (ih m)
theorem readsAll_mem {h : Heap} : ∀ {us : List Value} {ds : List PyData} {as : List Addr}, ReadsAll h us ds as → ∀ u ∈ us, ∃ d bs, Reads h u d bs
  | _, _, _, .nil, u, m => by cases m
  | _, _, _, .cons r t, u, m => by
    rcases List.mem_cons.mp m with e | m
    · subst e
      exact ⟨_, _, r⟩
    · exact readsAll_mem t u m
section
variable {X : Cx} {pins : List (Addr × Obj)} {σ : L2.St} {H : Hp} {s : Shared}
theorem odd_no (I : Inv X pins σ H s) {l : Addr} (h : Odd X.K H l) (d : PyData) (as : List Addr) (r : Reads s.heap (.ref l) d as) : False := by
  obtain ⟨xs, a, C, dx, fs, h1, h2, h3⟩ := h
  obtain ⟨mA, O, _⟩ := ins_get I.hok h3
  have no : ∀ d as, Reads s.heap (.ref a) d as → False := fun d as r => by
    have o := O.obj
    cases r with
    | list h1 h2 _ _ =>
      rw [o] at h1
      cases h1
      cases h2
    | tuple h1 h2 _ _ =>
      rw [o] at h1
      cases h1
      cases h2
    | dict h1 h2 _ _ _ =>
      rw [o] at h1
      cases h1
      cases h2
  have all : ∀ {its : List Value} {o : Obj} {n : Nat}, Vals xs its → s.heap.get? l = some o → o.data = .seq its.toArray n → False := fun {its o n} rv ho hd => by
    have m := vals_mem rv h2
    cases r with
    | list g1 _ g3 g4 =>
      rw [ho] at g1
      cases g1
      rw [hd] at g3
      cases g3
      obtain ⟨d, bs, r⟩ := readsAll_mem g4 _ m
      exact no d bs r
    | tuple g1 _ g3 g4 =>
      rw [ho] at g1
      cases g1
      rw [hd] at g3
      cases g3
      obtain ⟨d, bs, r⟩ := readsAll_mem g4 _ m
      exact no d bs r
    | dict g1 _ g3 _ _ =>
      rw [ho] at g1
      cases g1
      rw [hd] at g3
      cases g3
  rcases h1 with h1 | h1
  · obtain ⟨its, rv, ⟨o, n, ho, hc, _, hd⟩, _⟩ := I.list h1
    exact all rv ho hd
  · obtain ⟨its, rv, p, _⟩ := I.tuple h1
    obtain ⟨o, ho, hc, n, hd⟩ := p
    exact all rv ho hd
theorem odd_clear (I : Inv X pins σ H s) {L : List Addr} {g : List Code} (hg : Gu L g) (hL : ∀ l ∈ L, Odd X.K H l) {b : Addr} (r : ∃ d as, Reads s.heap (.ref b) d as) : Clear g b := fun id v rest kw m e => by
  obtain ⟨l, hl, e2⟩ := hg id v rest kw m
  rw [e] at e2
  cases e2
  obtain ⟨d, as, r⟩ := r
  exact odd_no I (hL _ hl) d as r
end
end GL
/-! {x!r} of data where the guards are L; repr of a list whose members are instances with an own text, or data -/
namespace GL
open PySem PySem.Spec PyProof.Rows L2 Evl StX SkE
section
variable {prog : Program} {w : World} {h₀ : Heap} {a : Addr} {d : PyData} {as : List Addr} {A : Around} {E : Value → Shared → Prop} {s : Shared} {Q : Value → Shared → Prop} {g : List Code}
/-- the text of data where no guard is data -/
theorem shown_under (r : Reads h₀ (.ref a) d as) (hs : d.showable = true) (hn : d.hasDict = false) (hd : isDisplay d = true) (hg : A.guards = some g) (hc : ∀ b, (∃ d as, Reads h₀ (.ref b) d as) → Clear g b) (hu : A.units + d.depth < cLine) (hk0 : ∀ b o, h₀.get? b = some o → s.heap.get? b = some o)
    (hQ : ∀ h' u tk, (∀ b o, s.heap.get? b = some o → h'.get? b = some o) → Q (.str d.shown u) { s with heap := h', toks := tk }) (hz : d.shown.length ≤ sizeLine) : wpAny (model prog w) A (pyReprObj (.ref a)) Q E s := by
  have rr := r
  cases r with
  | list h1 h2 h3 h4 =>
    rename_i o vs n xs bs₀
    have hz2 : (listText (PyData.shownAll xs)).length ≤ sizeLine := by simpa only [PyData.shown] using hz
    simp only [PyData.showable] at hs
    simp only [PyData.hasDict] at hn
    obtain ⟨bs, hb, hk⟩ := ReprAllK.of_readsAll (prog := prog) (w := w) h4 hs (fun q => absurd (hn.symm.trans q) Bool.false_ne_true) fun t ht => Nat.le_trans (listText_mem_le ht) hz2
    have hna : a ∉ bs := not_mem_of_deeper rr (by simp only [PyData.depth]; omega) hb
    simp only [PyData.depth] at hu
    simp only [PyData.shown] at hQ
    have cl : ∀ b ∈ a :: bs, Clear g b := fun b hb' => by
      rcases List.mem_cons.mp hb' with e | hb'
      · subst e
        exact hc _ ⟨_, _, rr⟩
      · obtain ⟨d', as', r', _⟩ := hb b hb'
        exact hc b ⟨d', as', r'⟩
    obtain ⟨l⟩ := vs
    cases l with
    | nil =>
      have h5 : ReadsAll h₀ [] xs _ := h4
      cases h5
      simp only [PyData.shownAll, listText_nil] at hQ
      exact wpAny_pyReprObj_list_empty ⟨o, hk0 _ _ h1, h2⟩ (by omega) (hk0 _ _ h1) h3 (hQ s.heap _ _ fun _ _ e => e)
    | cons x l => exact wpAny_pyReprObj_listK h1 h2 h3 hna (by simpa using hk.length_eq) (fun i y e => hk.item i y (by simpa using e)) hg cl hu hk0 hQ hz2
  | tuple h1 h2 h3 h4 =>
    rename_i o vs n xs
    have hz2 : (tupleText (PyData.shownAll xs)).length ≤ sizeLine := by simpa only [PyData.shown] using hz
    simp only [PyData.showable] at hs
    simp only [PyData.hasDict] at hn
    obtain ⟨bs, hb, hk⟩ := ReprAllK.of_readsAll (prog := prog) (w := w) h4 hs (fun q => absurd (hn.symm.trans q) Bool.false_ne_true) fun t ht => Nat.le_trans (tupleText_mem_le ht) hz2
    have hna : a ∉ bs := not_mem_of_deeper rr (by simp only [PyData.depth]; omega) hb
    simp only [PyData.depth] at hu
    simp only [PyData.shown] at hQ
    have cl : ∀ b ∈ a :: bs, Clear g b := fun b hb' => by
      rcases List.mem_cons.mp hb' with e | hb'
      · subst e
        exact hc _ ⟨_, _, rr⟩
      · obtain ⟨d', as', r', _⟩ := hb b hb'
        exact hc b ⟨d', as', r'⟩
    exact wpAny_pyReprObj_tupleK h1 h2 h3 hna hk hg cl hu hk0 hQ hz2
  | dict _ _ _ _ _ => simp only [PyData.hasDict] at hn; exact absurd hn (by decide)
end
section
variable {X : Cx} {e : Expr} {te : TE} {pos : Pos} {L : List Addr}
/-- {x!r}: a text, a number, a truth value, data; the guards are L -/
def tFmtL (K : PySem.W.Frag) (L : List Addr) (te : TE) : TE := fun σ H Q => te σ H fun x H1 =>
  (∃ y : Str, x = .str y ∧ (reprText y).length ≤ sizeLine ∧ Q (.str (reprText y)) H1) ∨ (∃ i : Int, x = .int i ∧ i.natAbs.log2 < 1920 ∧ Q (.str (toString i)) H1) ∨ (∃ b : Bool, x = .bl b ∧ Q (.str (if b then "True" else "False")) H1) ∨
  (∃ d, Dp K H1 x d ∧ isDisplay d = true ∧ d.showable = true ∧ d.hasDict = false ∧ d.depth ≤ 60 ∧ d.shown.length ≤ sizeLine ∧ (∀ l ∈ L, Odd K H1 l) ∧ Q (.str d.shown) H1)
theorem pe_fmtL (G : FreL L X.A) (hu : X.A.units + 64 < cLine) (he : PE X e te) : PE X (.FormattedValue e 114 none pos) (tFmtL X.K L te) := by
  constructor
  intro pins s σ H Q I h
  refine wpAny_FormattedValue_repr (thn (he.run pins s σ H _ I h) ?_)
  rintro u s1 ⟨x, H1, I1, r1, ⟨y, rfl, hz, q⟩ | ⟨i, rfl, hz, q⟩ | ⟨b, rfl, q⟩ | ⟨d, hd, h1, h2, h3, h4, h5, ho, q⟩⟩
  · obtain ⟨t, rfl⟩ := r1
    have fin : ∀ (tk : Tok) (n : Nat), EP X pins σ Q (.str (reprText y) tk) { s1 with toks := n } := fun tk n => ⟨.str (reprText y), H1, I1.tok _, ⟨_, rfl⟩, q⟩
    exact pyReprObj_str (wpAny_formatField_str (fin _ _) (fin _ _) hz) hz
  · obtain ⟨t, rfl⟩ := r1
    have fin : ∀ (tk : Tok) (n : Nat), EP X pins σ Q (.str (toString i) tk) { s1 with toks := n } := fun tk n => ⟨.str (toString i), H1, I1.tok _, ⟨_, rfl⟩, q⟩
    exact pyReprObj_int hz (wpAny_formatField_str (fin _ _) (fin _ _) (int_text_fits hz))
  · cases (show u = Value.bool b from r1)
    have fin : ∀ (tk : Tok) (n : Nat), EP X pins σ Q (.str (if b then "True" else "False") tk) { s1 with toks := n } := fun tk n => ⟨.str (if b then "True" else "False"), H1, I1.tok _, ⟨_, rfl⟩, q⟩
    exact pyReprObj_bool (wpAny_formatField_str (fin _ _) (fin _ _) (by rw [sizeLine_eq]; cases b <;> decide))
  · obtain ⟨as, rd⟩ := Dp.reads I1 d x _ hd r1
    obtain ⟨a, rfl⟩ := isRef_of_reads rd h1
    obtain ⟨g, hg, hL⟩ := G
    exact shown_under rd h2 h3 h1 hg (fun b hb => odd_clear I1 hL ho hb) (by omega) (fun _ _ e => e) (fun h' u tk hk => wpAny_formatField_str ⟨.str d.shown, H1, I1.kept hk, ⟨_, rfl⟩, q⟩ ⟨.str d.shown, H1, I1.kept hk, ⟨_, rfl⟩, q⟩ h5) h5
end
/-! ### members with a text -/
/-- what is shown of a member, the guards being L -/
abbrev ItP := List Addr → Hp → V → Str → Prop
structure Shows (X : Cx) (k : Nat) (It : ItP) : Prop where
  mono : ∀ {L H H' v t}, It L H v t → Ex H H' → It L H' v t
  goes : ∀ {L pins σ H s v t u A base}, It L H v t → base + t.length ≤ sizeLine → Inv X pins σ H s → RelV v u → FreL L A → Room k A → A.frames = some X.stack →
    wpAny (model X.prog X.w) A (pyReprUnder base u) (fun t' s' => t' = t ∧ ∃ H', Ex H H' ∧ Inv X pins σ H' s') X.xe s
theorem Shows.or {X : Cx} {k : Nat} {I1 I2 : ItP} (a : Shows X k I1) (b : Shows X k I2) : Shows X k (fun L H v t => I1 L H v t ∨ I2 L H v t) where
  mono := fun h e => h.imp (fun h => a.mono h e) fun h => b.mono h e
  goes := fun h hb I r g rm fr => h.elim (fun h => a.goes h hb I r g rm fr) fun h => b.goes h hb I r g rm fr
/-- an instance with an own text -/
def itInst (C : Addr) (sp : List Addr → Sp) (E : XK) : ItP := fun L H v t => ∃ a dx fs, v = .ref a ∧ H a = some (.ins C dx fs) ∧ ∀ H1, Ex H H1 → sp L [.ref a] H1 (fun v' H2 => v' = .str t ∧ Ex H1 H2) E
theorem shows_inst {X : Cx} {CX : CXT} {k k0 : Nat} {f C : Addr} {fd : FuncData} {sp : List Addr → Sp} {E : XK} (hk : k0 ≤ k) (F : ∀ L, FnL L X.prog X.w X.K X.mg X.base CX k0 f fd ["self"] (sp L)) (hb : Binds X.K fd ["self"] []) (hs : PySem.W.findIn X.K (.ref C) "__repr__" = some (some (.ref f))) (hf : PySem.W.isFn X.K (.ref f) = true) (hx : Passes CX X E) : Shows X k (itInst C sp E) where
  mono := fun ⟨a, dx, fs, h1, h2, h3⟩ e => ⟨a, dx, fs, h1, e _ _ h2, fun H1 e1 => h3 H1 (e.trans e1)⟩
  goes := by
    rintro L pins σ H s v t u A base ⟨a, dx, fs, rfl, ha, h⟩ hz I r g rm fr
    cases r
    obtain ⟨mA, O, _⟩ := ins_get I.hok ha
    obtain ⟨od, es, ep, hod, _⟩ := O.ns
    have env : Env0 X.prog X.w X.K X.mg X.base A X.stack s H := ⟨fr, I.env0.mod, I.env0.bs, I.env0.bsz, I.env0.funs, I.env0.frf, I.env0.hok, I.env0.bare⟩
    refine wpAny_pyReprUnder_ref (by omega) ?_
    have run : wpAny (model X.prog X.w) A (call (.ref f) [.ref a]) (fun r s' => ∃ tk, r = .str t tk ∧ ∃ H', Ex H H' ∧ Inv X pins σ H' s') X.xe s := by
      refine wpAny_call (codeAny_mono ((F L).goes (vs := [.ref a]) (us := [.ref a]) g (rm.mono hk) env (hb s [.ref a] I.kIn rfl) (.cons rfl .nil) (h H (Ex.refl H))) ?_)
      intro r s' z
      match r, z with
      | .error e, z => exact hx pins σ H s e s' I z
      | .ok (.ret u), z =>
        obtain ⟨v, H', I3, rv, rfl, e⟩ := I.after z
        obtain ⟨tk, rfl⟩ := rv
        exact ⟨tk, rfl, H', e, I3⟩
    have KI : X.K.In s.heap := I.kIn
    have IA : PySem.W.InstAt s.heap a _ C (some od) := ⟨O.obj, rfl, rfl, hod⟩
    unfold pyReprObjUnder pyReprObjBy
    refine wpAny_bind (m := cRoomFor _ _) (wpAny_cRoomFor rm.units0 ?_)
    refine wpAny_bind (wpAny_bind (IA.type.here ((PySem.W.looks_findIn KI hs).here ?_)))
    show wpAny _ _ (if (some (Value.ref f)).isNone = true then _ else _) _ _ _
    rw [if_neg (by simp)]
    have after : ∀ (tk : Tok) (s' : Shared), (∃ H', Ex H H' ∧ Inv X pins σ H' s') → wpAny (model X.prog X.w) A (do
        if ← isInstance (.str t tk) (.type "str") then pure (Value.str t tk) else raiseError "TypeError" s!"__repr__ returned non-string (type {← typeNameOf (.str t tk)})") (fun v s' => ∃ x u, v = .str x u ∧ x = t ∧ ∃ H', Ex H H' ∧ Inv X pins σ H' s') X.xe s' := fun tk s' q =>
      wpAny_bind (wpAny_isInstance (T := "str") (b := true) rfl isSubtype_str_str (wpAny_pure ⟨t, tk, rfl, rfl, q⟩))
    refine wpAny_bind (wpAny_mono (Q := fun r s' => ∃ tk, r = some (.str t tk) ∧ ∃ H', Ex H H' ∧ Inv X pins σ H' s') ?_ (fun r s' z => ?_) fun _ _ z => z)
    · simp only [callSpecialIfBoundBy?, bindSpecialIfBound?]
      have fin : wpAny (model X.prog X.w) A (do
          let r ← call (.ref f) ([.ref a] ++ [])
          pure (some r)) (fun r s' => ∃ tk, r = some (.str t tk) ∧ ∃ H', Ex H H' ∧ Inv X pins σ H' s') X.xe s := wpAny_bind (wpAny_mono run (fun r s' z => by
        obtain ⟨tk, rfl, q⟩ := z
        exact wpAny_pure ⟨tk, rfl, q⟩) fun _ _ z => z)
      refine wpAny_holding (wpAny_bind (wpAny_bind (wpAny_bind (IA.type.here ((PySem.W.looks_findIn KI hs).here ?_)))))
      refine wpAny_bind (wpAny_askSetting (wpAny_ite ?_))
      split
      · exact wpAny_bind ((PySem.W.bind_fn KI _ (beq_iff_eq.mp hf)).here (wpAny_pure (by exact fin)))
      · exact wpAny_tryCatch (wpAny_bind ((PySem.W.bind_fn KI _ (beq_iff_eq.mp hf)).here (wpAny_pure (by exact fin))))
    · obtain ⟨tk, rfl, q⟩ := z
      exact after tk s' q
end GL
namespace GL
open PySem PySem.Spec PyProof.Rows L2 Evl StX SkE
section
variable {X : Cx} {k : Nat} {It : ItP} {A : Around} {p P : Addr} {vs : List V} {ts : List Str} {pins : List (Addr × Obj)}
theorem loop_depth (args : Args) : (A.under (.builtin "list.__repr__.loop" args)).depth ≤ A.depth + 1 := by
  have e : (Code.builtin "list.__repr__.loop" args).weight ≤ 1 := by
    unfold Code.weight
    have h1 : (Code.builtin "list.__repr__.loop" args).frames = 0 := rfl
    have h2 : (Code.builtin "list.__repr__.loop" args).isCreation = false := rfl
    have h3 : (Code.builtin "list.__repr__.loop" args).isCaller = false := rfl
    rw [h1, h2, h3, if_neg Bool.false_ne_true, if_neg Bool.false_ne_true]
    split <;> omega
  show A.depth + (Code.builtin "list.__repr__.loop" args).weight ≤ A.depth + 1
  omega
theorem loop_room (h : Room (k + 1) A) (args : Args) : Room k (A.under (.builtin "list.__repr__.loop" args)) := by
  refine ⟨h.hd, ?_, ?_⟩
  · have := h.dp
    have := loop_depth (A := A) args
    omega
  · have := h.un
    rw [units_under_list_loop]
    omega
theorem loop_frames {o : List Env} (h : A.frames = some o) (args : Args) : (A.under (.builtin "list.__repr__.loop" args)).frames = some o := by
  simpa [Around.under, Code.envs, Code.isFrame, pushEnvs] using h
theorem loop_guard {L : List Addr} (h : FreL L A) (rest : List Value) : FreL (p :: L) (A.under (.builtin "list.__repr__.loop" ⟨.ref p :: rest, []⟩)) := by
  obtain ⟨g, hg, hL⟩ := h
  refine ⟨_, guards_under_guard (isGuard_list_loop _) hg, fun id v rest' kw m => ?_⟩
  rcases List.mem_cons.mp m with e | m
  · cases e
    exact ⟨p, List.mem_cons_self, rfl⟩
  · obtain ⟨l, hl, e⟩ := hL id v rest' kw m
    exact ⟨l, List.mem_cons_of_mem _ hl, e⟩
/-- the list's members, one by one, into the list at P -/
theorem shows_loop (S : Shows X k It) {L : List Addr} (hg : FreL L A) (hr : Room (k + 1) A) (hf : A.frames = some X.stack) (hl : ts.length = vs.length) {b0 : Nat} (hz : b0 + (listText ts).length ≤ sizeLine) :
    ∀ (n i : Nat) (σ : L2.St) (H : Hp) (s : Shared) (acc : Array Value) (c : Nat) (don : List (Str × Tok)), vs.length - i = n → i ≤ vs.length → Inv X pins σ H s → FpOk X pins H P → SqL X.K H p vs → (∀ (j : Nat) (v : V) (t : Str), vs[j]? = some v → ts[j]? = some t → It (p :: L) H v t) →
      s.heap.get? P = some { cls := .type "list", dict := none, data := .seq acc c, slots := #[] } → acc.toList = strValues don → don.map (·.1) = ts.take i →
      codeAny (model X.prog X.w) A (.builtin "list.__repr__.loop" ⟨[.ref p, rawInt i, .ref P, rawInt ((b0 + piled (ts.take i) : Nat) : Int)], []⟩) (fun r s' => match r with
        | .ok (.ret u) => ∃ tk, u = .str (listText ts) tk ∧ ∃ H', Ex H H' ∧ Inv X pins σ H' s'
        | .ok _ => False
        | .error e => X.xe e s') s := by
  have lX : (listText ts).length = (textFrom 0 "[" ts).length + 1 := by
    show (textFrom 0 "[" ts ++ "]").length = _
    rw [strLen_append]
    rfl
  have lL := textFrom_len ts 0 "["
  have z1 : ∀ t ∈ ts, t.length ≤ sizeLine := fun t ht => by
    have := lL.2.1 t ht
    omega
  have z2 : ts.length ≤ sizeLine := by
    have := lL.1
    rw [if_neg (Nat.lt_irrefl 0)] at this
    omega
  have pl := piled_le_listText ts
  intro n
  induction n with
  | zero =>
    intro i σ H s acc c don hn hi I fp hs hT hP hacc hdon
    obtain ⟨its, rv, ⟨o, m, ho, hc, _, hd⟩, _⟩ := I.list hs
    have lv := rv.length
    refine codeAny_builtin F.entry_list_repr_loop ?_
    show wpAny _ _ (Builtin.«list.__repr__.loop» ⟨[.ref p, .int i 0, .ref P, .int ((b0 + piled (ts.take i) : Nat) : Int) 0], []⟩) _ _ s
    rw [repr_loop_tree]
    refine wpAny_bind (wpAny_listItems ho hd ?_)
    have no : its.toArray[(i : Int).toNat]? = none := by
      rw [Int.toNat_natCast]
      simp
      omega
    simp only [no]
    unfold reprEnd
    refine wpAny_bind (wpAny_listItems hP rfl ?_)
    rw [hacc, repr_fold]
    refine wpAny_bind (wpAny_pure ?_)
    have all : don.map (·.1) = ts := by
      rw [hdon]
      exact List.take_of_length_le (by omega)
    rw [all]
    refine wpAny_bind (wpAny_mkStr (wpAny_pure ?_) (by show (listText ts).length ≤ sizeLine; omega))
    exact ⟨_, rfl, H, Ex.refl H, I.tok _⟩
  | succ n ih =>
    intro i σ H s acc c don hn hi I fp hs hT hP hacc hdon
    have hlt : i < vs.length := by omega
    obtain ⟨its, rv, ⟨o, m, ho, hc, _, hd⟩, _⟩ := I.list hs
    have hv : vs[i]? = some vs[i] := List.getElem?_eq_getElem hlt
    obtain ⟨t, ht⟩ : ∃ t, ts[i]? = some t := ⟨ts[i]'(by omega), List.getElem?_eq_getElem (by omega)⟩
    obtain ⟨u, hu, ru⟩ := rv.get hv
    have q1 := piled_take_succ ht
    have q2 := piled_take_le ts (i + 1)
    refine codeAny_builtin F.entry_list_repr_loop ?_
    show wpAny _ _ (Builtin.«list.__repr__.loop» ⟨[.ref p, .int i 0, .ref P, .int ((b0 + piled (ts.take i) : Nat) : Int) 0], []⟩) _ _ s
    rw [repr_loop_tree]
    refine wpAny_bind (wpAny_listItems ho hd ?_)
    have yes : its.toArray[(i : Int).toNat]? = some u := by
      rw [Int.toNat_natCast]
      simpa using hu
    simp only [yes]
    rw [Int.toNat_natCast]
    obtain ⟨f0, f1, f2, f3, f4, f5⟩ := fp
    have Ip : Inv X (pins ++ [(P, { cls := .type "list", dict := none, data := .seq acc c, slots := #[] })]) σ H s := I.pins_of fun x hx => by
      rcases List.mem_append.mp hx with hx | hx
      · exact I.pin x (List.mem_append_right _ hx)
      · rw [List.mem_singleton.mp hx]
        exact ⟨hP, f0, f1, f2, fun v q => nomatch q⟩
    refine wpAny_bind (wpAny_holding (wpAny_mono (S.goes (hT i _ t hv ht) (by omega) Ip ru (loop_guard hg _) (loop_room hr _) (loop_frames hf _)) ?_ fun _ _ z => z))
    rintro t' s1 ⟨rfl, H1, e1, I1⟩
    obtain ⟨hP1, g0, _⟩ := I1.pin (P, { cls := .type "list", dict := none, data := .seq acc c, slots := #[] }) (List.mem_append_right _ (List.mem_append_right _ List.mem_cons_self))
    have J1 : Inv X pins σ H1 s1 := I1.pins_of fun x hx => I1.pin x (List.mem_append_right _ (List.mem_append_left _ hx))
    refine wpAny_bind (wpAny_mkStr ?_ (z1 _ (List.mem_of_getElem? ht)))
    refine wpAny_bind ?_
    show wpAny _ _ (updateSeq P _) _ _ _
    have az : acc.size ≤ sizeLine := by
      have w1 : acc.toList.length = acc.size := by simp
      have w2 : (strValues don).length = don.length := by simp [strValues]
      have w3 : don.length = (ts.take i).length := by rw [← hdon, List.length_map]
      have w4 : (ts.take i).length ≤ i := by rw [List.length_take]; omega
      rw [hacc] at w1
      omega
    refine wpAny_updateSeq hP1 rfl (wpAny_pure ⟨F.quiet_list_repr_loop _, ?_⟩) az
    have n1 : ((i : Int) + 1) = ((i + 1 : Nat) : Int) := by omega
    have n2 : b0 + piled (ts.take i) + (t'.length + 2) = b0 + piled (ts.take (i + 1)) := by omega
    rw [n1, n2]
    have J2 : Inv X pins σ H1 { s1 with heap := s1.heap.update P (Obj.mapSeq fun a => a.push (.str t' s1.toks)), toks := s1.toks + 1 } := J1.turned (fun b o hb e => (Heap.get?_update_other _ _ (fun h : P = b => hb h.symm)).trans e) g0 f1 f3 f4 f5
    refine codeAny_mono (ih (i + 1) σ H1 _ (acc.push (.str t' s1.toks)) _ (don ++ [(t', s1.toks)]) (by omega) hlt J2 ⟨g0, f1, f2, f3, f4, f5⟩ (ex_l e1 hs) (fun j v t h1 h2 => S.mono (hT j v t h1 h2) e1) (Heap.get?_update_self _ hP1 rfl) (by simp [hacc, strValues]) (by simp [List.take_add_one, ht, hdon])) ?_
    intro r s' z
    match r, z with
    | .error e, z => exact z
    | .ok (.ret u), z =>
      obtain ⟨tk, rfl, H', e', I'⟩ := z
      exact ⟨tk, rfl, H', e1.trans e', I'⟩
end
end GL
namespace GL
open PySem PySem.Spec PyProof.Rows L2 Evl StX SkE
/-- repr(l), l a list of such members -/
def rReprI (K : PySem.W.Frag) (It : ItP) : List V → Hp → VK → Prop := fun xs H Q => ∃ p vs ts, xs = [.ref p] ∧ SqL K H p vs ∧ vs ≠ [] ∧ ts.length = vs.length ∧ (∀ (j : Nat) (v : V) (t : Str), vs[j]? = some v → ts[j]? = some t → It [p] H v t) ∧ (listText ts).length ≤ sizeLine ∧ ∀ H', Ex H H' → Q (.str (listText ts)) H'
theorem call_reprI {X : Cx} {k : Nat} {It : ItP} (G : Fre X.A) (S : Shows X k It) (hr : Room (k + 3) X.A) : CallR X (.builtin "repr") (rReprI X.K It) := by
  intro pins s σ H xs us Q I r h
  obtain ⟨p, vs, ts, rfl, hs, hne, hl, hT, hz, q⟩ := h
  cases r with
  | cons r rt =>
    cases rt
    cases r
    obtain ⟨its, rv, ⟨o, m, ho, hc, hdn, hd⟩, _⟩ := I.list hs
    have ty : s.TypeIs (.ref p) "list" := ⟨o, ho, hc⟩
    have lv := rv.length
    obtain ⟨x, l, hx⟩ : ∃ x l, its = x :: l := by
      cases its with
      | nil =>
        cases vs with
        | nil => exact absurd rfl hne
        | cons => cases lv
      | cons x l => exact ⟨x, l, rfl⟩
    subst hx
    have fr : X.A.frames = some X.stack := I.ok.frames
    refine call_repr_slot (by have := hr.un; omega) ty F.slot_list_repr.toG ?_
    refine wpAny_call (codeAny_call_builtin F.slot_list_repr.plain F.entry_list_repr (F.slot_list_repr.check _ _ _ _ _ _ _ _ ty (F.args_list_repr_1 _) ?_))
    refine wpAny_list_repr_head (A := X.A.in1.in1) (b := 0) G (fun v rest kw hm => nomatch hm) ho hd ?_
    refine wpAny_bind (m := newList []) (wpAny_newObj_type ?_)
    refine wpAny_pure ⟨F.quiet_list_repr_loop _, ?_⟩
    have keep : ∀ b u, s.heap.get? b = some u → (s.heap.push { cls := .type "list", dict := none, data := .seq #[] 0, slots := #[] }).get? b = some u := fun b u e => Heap.get?_push_of_some _ e
    have I1 := I.kept (t' := s.toks) keep
    have fp := I.fpOk (b := s.heap.objs.size) (Nat.le_refl _) (I.hok.fresh (Nat.le_refl _))
    have go := shows_loop (A := X.A.in1) (p := p) (P := s.heap.objs.size) (L := []) (b0 := 0) (ts := ts) S (FreL.of G) (hr.mono (by omega)).in1 fr hl (by omega) vs.length 0 σ H _ #[] 0 [] (by omega) (Nat.zero_le _) I1 fp hs hT (Heap.get?_push_size _ rfl) rfl rfl
    refine codeAny_mono go ?_
    intro r s' z
    match r, z with
    | .error e, z => exact z
    | .ok (.ret u), z =>
      obtain ⟨tk, rfl, H', e', I'⟩ := z
      exact ⟨_, _, rfl, ⟨.str (listText ts), H', I', ⟨_, rfl⟩, q H' e'⟩⟩
end GL
/-! own errors that keep two values: kind, value -/
namespace PySem
namespace GX
open PySem.W PySem.Calls PyProof.Rows PySem.HandSPX Builtin Builtin.ObjectAttr
def inikvA (p1 p2 p3 : Pos) : Arguments := { posonlyargs := [], args := [{ arg := "self", annotation := none, pos := p1 }, { arg := "kind", annotation := none, pos := p2 }, { arg := "value", annotation := none, pos := p3 }], vararg := none, kwonlyargs := [], kw_defaults := [], kwarg := none, defaults := [] }
def inikvB (q1 q2 q3 q4 r1 r2 r3 r4 : Pos) : List Stmt := [.Assign [.Attribute (.Name "self" q1) "kind" q2] (.Name "kind" q3) q4, .Assign [.Attribute (.Name "self" r1) "value" r2] (.Name "value" r3) r4]
def inikvS : Scope := { kind := .function, names := [(PySem.Str.ofString "self", .local), (PySem.Str.ofString "kind", .local), (PySem.Str.ofString "value", .local)], isGenerator := false, isCoroutine := false, more := [] }
/-- it keeps two values, as kind and value -/
structure Errkv (K : Frag) (C fI : Addr) (bmB : List Value) (newId : String) : Prop extends ErrT K C fI bmB newId where
  tk1 : takerIn K C "kind" = some none
  no1 : findIn K (.ref C) "kind" = some none
  tk2 : takerIn K C "value" = some none
  no2 : findIn K (.ref C) "value" = some none
  code : ∃ (oc : Value) (od : Option Addr) (doc pm : Value) (an : Option Addr) (cdv ct : Value) (osl : Array (Option Value)) (qual : Str) (p1 p2 p3 q1 q2 q3 q4 r1 r2 r3 r4 : Pos),
    K.lookup fI = some ⟨oc, od, .func (fnOf "__init__" qual (inikvA p1 p2 p3) (inikvB q1 q2 q3 q4 r1 r2 r3 r4) inikvS .none .none doc pm an cdv ct), osl⟩ ∧ codeIn K cdv qual = true
section
variable {prog : Program} {w : World} {A : Around} {E : Value → Shared → Prop} {R : Result → Shared → Prop} {K : Frag} {C fI x t : Addr} {bmB : List Value} {B newId initId : String}
/-- one thing more that an error keeps: it has its dict -/
theorem keeps_next {hp : Heap} {g : Array GenState} {dr : Drawn} {tt : Nat} {os : OsState} {name : Str} {tk : Tok} {v : Value} {dx : Addr} {m0 : Str → Option Value} {nl : List Str} (SF : StoreFacts B bmB "object.__setattr__" "object") (X : K.In hp) (T : ErrT K C fI bmB newId) (ht : takerIn K C name = some none) (hx : hp.get? x = some (excObj C t (some dx) .none))
    (hns : hp.Ns1 dx m0) (hw : Within m0 nl) (hz : nl.length ≤ 1000)
    (hq : ∀ h' tk', (∀ b o, b ≠ dx → hp.get? b = some o → h'.get? b = some o) → h'.Ns1 dx (fun y => if y = name then some v else m0 y) → R (.ok (.ret .none)) ⟨h', g, dr, tk', os⟩) :
    codeAny (model prog w) A (.call (.builtin "object.__setattr__") ⟨[.ref x, .str name tk, v], []⟩) R ⟨hp, g, dr, tt, os⟩ := by
  obtain ⟨oD, esD, epD, hoD, hdD, _⟩ := hns.count hw
  refine osa_openX (s := ⟨hp, g, dr, tt, os⟩) (od := some oD) SF X ⟨hx, rfl, rfl, hoD⟩ T.ov ht fun b => ?_
  obtain ⟨cd, hc, hdct⟩ := any_some T.hd
  refine wpAny_bind (wpAny_pure (wpAny_bind (wpAny_bind (wpAny_loadPart hx (wpAny_bind ((looks_clsIn X hc).here ?_))))))
  rw [hdct]
  refine wpAny_pure (a := some dx) ?_
  exact OEX.store_in_old hns hw hz fun h' tk' hn' hs => hq h' tk' (fun b o hb ho => (hs.2 b hb).trans ho) hn'
theorem two_fits {v u : Value} : [v, u].length ≤ sizeLine := by
  rw [sizeLine_eq]
  exact (by decide : 2 ≤ 16777216)
theorem init_kv {s : Shared} {v u : Value} (SF : StoreFacts B bmB "object.__setattr__" "object") (T : Errkv K C fI bmB newId) (X : K.In s.heap) (hlim : s.heap.NoLimit) (nk : K.lookup x = none) (hx : s.heap.get? x = some (excObj C t none .none)) (hroom : A.depth < recursionLimit)
    (hq : ∀ h' tk dx, (∀ b o, b ≠ x → s.heap.get? b = some o → h'.get? b = some o) → s.heap.objs.size ≤ dx → dx ≠ x → h'.get? x = some (excObj C t (some dx) .none) → h'.Ns1 dx (fun y => if y = "value" then some u else if y = "kind" then some v else none) → R (.ok (.ret .none)) { s with heap := h', toks := tk }) :
    codeAny (model prog w) A (.call (.ref fI) ⟨[.ref x, v, u], []⟩) R s := by
  obtain ⟨oc, od, doc, pm, an, cdv, ct, osl, qual, p1, p2, p3, q1, q2, q3, q4, r1, r2, r3, r4, ho, hcd⟩ := T.code
  refine Att.call_fn (binds := [("self", .ref x), ("kind", v), ("value", u)]) X hlim ho hcd hroom (.of_eq rfl) rfl (fun s₁ IC => ?_) rfl rfl rfl
  obtain ⟨h₁, tk₁, rfl⟩ := IC.toInCall.same
  have kk : ∀ b o, s.heap.get? b = some o → h₁.get? b = some o := IC.toInCall.keep
  have hn := IC.toInCall.ns
  show wpAny _ _ (execs _ _) _ _ _
  refine wpAny_execs_cons (plainObj_wpAny_Assign_Attribute ?_)
  refine ld_par (v := v) hn rfl (ld_par (v := .ref x) hn rfl ?_ rfl rfl (by decide)) rfl rfl (by decide)
  refine set_plain (X.keeps kk) (ox := excObj C t none .none) (od := none) ⟨kk _ _ hx, rfl, rfl, trivial⟩ T.sa ?_
  refine keeps_first SF (X.keeps kk) T.toErrT T.tk1 (kk _ _ hx) fun h₃ tk₃ dx k₃ dn dne hx₃ hn₃ => ?_
  have z : s.heap.objs.size < h₁.objs.size := hn.lt
  have hxl : x < s.heap.objs.size := Heap.lt_size hx
  have hn3 := hn.at fun o q => k₃ _ o (Nat.ne_of_gt hxl) q
  show wpAny _ _ (execs _ _) _ _ _
  refine wpAny_execs_cons (plainObj_wpAny_Assign_Attribute ?_)
  refine ld_par (v := u) hn3 rfl (ld_par (v := .ref x) hn3 rfl ?_ rfl rfl (by decide)) rfl rfl (by decide)
  have kk3 : ∀ b o, b ≠ x → s.heap.get? b = some o → h₃.get? b = some o := fun b o hb e => k₃ b o hb (kk b o e)
  have X3 : K.In h₃ := fun a o e => kk3 a o (fun z => by rw [z, nk] at e; cases e) (X a o e)
  obtain ⟨oD, esD, epD, hoD, hdD, _⟩ := hn₃.count (ns := ["kind"]) (fun y hy => by
    by_cases e : y = "kind"
    · rw [e]
      exact List.mem_cons_self
    · rw [if_neg e] at hy
      exact absurd rfl hy)
  refine set_plain X3 (ox := excObj C t (some dx) .none) (od := some oD) ⟨hx₃, rfl, rfl, hoD⟩ T.sa ?_
  have dlt : s.heap.objs.size ≤ dx := Nat.le_of_lt (Nat.lt_of_lt_of_le z dn)
  refine keeps_next SF X3 T.toErrT T.tk2 hx₃ hn₃ (nl := ["kind"]) (fun y hy => by
    by_cases e : y = "kind"
    · rw [e]
      exact List.mem_cons_self
    · rw [if_neg e] at hy
      exact absurd rfl hy) (by decide) fun h₄ tk₄ k₄ hn₄ => ?_
  show wpAny _ _ (execs _ _) _ _ _
  have ndx : ∀ b, b < s.heap.objs.size → b ≠ dx := fun b hb e => by
    rw [e] at hb
    omega
  exact wpAny_execs_nil (hq h₄ tk₄ dx (fun b o hb e => k₄ b o (ndx b (Heap.lt_size e)) (kk3 b o hb e)) dlt dne (k₄ _ _ (ndx x hxl) hx₃) hn₄)
theorem made_kv {s : Shared} {v u : Value} (SF : StoreFacts B bmB "object.__setattr__" "object") (FB : ExcBaseFacts B newId initId bmB) (T : Errkv K C fI bmB newId) (X : K.In s.heap) (hlim : s.heap.NoLimit) (hroom : A.depth + 1 < recursionLimit)
    (hq : ∀ h' tk e d, Kept s.heap h' e C (some d) → s.heap.objs.size ≤ d → d ≠ e → h'.Ns1 d (fun y => if y = "value" then some u else if y = "kind" then some v else none) → R (.ok (.ret (.ref e))) { s with heap := h', toks := tk }) :
    codeAny (model prog w) A (.call (.ref C) ⟨[v, u], []⟩) R s := by
  obtain ⟨nm, N, qn, bs, bm, hdct, sn, sub, ab, col, dd, k0, k1, k2, k3, k5, hC, hT⟩ := excInit_of X T.ini
  obtain ⟨hp, g, dr, tk, os⟩ := s
  have kk : ∀ b o, hp.get? b = some o → ((hp.push (kdv_tup [v, u])).push (excO C hp.objs.size)).get? b = some o := fun b o e => Heap.get?_push_of_some _ (Heap.get?_push_of_some _ e)
  have hget : ((hp.push (kdv_tup [v, u])).push (excO C hp.objs.size)).get? (hp.objs.size + 1) = some (excO C hp.objs.size) := by heap_get
  have nk : K.lookup (hp.objs.size + 1) = none := by
    cases z : K.lookup (hp.objs.size + 1) with
    | none => rfl
    | some o =>
      have := Heap.lt_size (X _ _ z)
      have h2 : hp.objs.size + 1 < hp.objs.size := this
      omega
  refine call_own FB hT hC (looks_findIn X T.iC) (fun self => bind_fn X self (beq_iff_eq.mp T.fn)) two_fits ?_
  refine init_kv (s := ⟨(hp.push (kdv_tup [v, u])).push (excO C hp.objs.size), g, dr, tk, os⟩) SF T (X.keeps kk) (hlim.keeps kk) nk hget hroom fun h' tk' dx k' dn dne hx hns => ?_
  have old : ∀ b o, hp.get? b = some o → h'.get? b = some o := fun b o e => k' b o (Nat.ne_of_lt (Nat.lt_succ_of_lt (Heap.lt_size e))) (kk b o e)
  have z : hp.objs.size + 1 + 1 ≤ dx := by
    have q := dn
    rw [Heap.size_push, Heap.size_push] at q
    exact q
  exact ⟨rfl, hq h' tk' (hp.objs.size + 1) dx ⟨old, Nat.le_succ _, _, _, hx, rfl, rfl, rfl, rfl⟩ (Nat.le_trans (Nat.le_trans (Nat.le_succ _) (Nat.le_succ _)) z) dne hns⟩
end
end GX
end PySem
namespace GL
open PySem PySem.Spec PyProof.Rows L2
theorem relO_two {v u : V} {v' u' : Value} (r : RelV v v') (q : RelV u u') (f : Str) : RelO (List.lookup f [("kind", v), ("value", u)]) (if f = "value" then some u' else if f = "kind" then some v' else none) := by
  by_cases h1 : f = "kind"
  · subst h1
    rw [if_neg (by decide), if_pos rfl]
    exact r
  · by_cases h2 : f = "value"
    · subst h2
      rw [if_pos rfl]
      exact q
    · have q1 : (f == ("kind" : Str)) = false := by simpa using h1
      have q2 : (f == ("value" : Str)) = false := by simpa using h2
      rw [if_neg h2, if_neg h1]
      simp only [List.lookup, q1, q2]
      trivial
section
variable {X : Cx} {C fI : Addr} {bmB : List Value} {B newId initId : String} {x : Str} {p pos : Pos} {k : Nat}
/-- C(e, e): an error whose own dict, new, holds the values -/
def tMk2 (C : Addr) (ta : TA) : L2.St → Hp → XK → Prop := fun σ H Q => ta σ H fun vs H1 => ∃ v u, vs = [v, u] ∧ ∀ d, H1 d = none → Q (.ref C) (some d) (upd H1 d (.xd [("kind", v), ("value", u)]))
theorem out_of2 {pins : List (Addr × Obj)} {σ : L2.St} {H1 : Hp} {Q : XK} {hp h' : Heap} {g : Array GenState} {dr : Drawn} {tk tk' : Nat} {os : OsState} {e d : Addr} {v u : V} {v' u' : Value} (T : GX.ErrT X.K C fI bmB newId) (I1 : Inv X pins σ H1 ⟨hp, g, dr, tk, os⟩) (M : GX.Kept hp h' e C (some d)) (hd : hp.objs.size ≤ d) (dne : d ≠ e)
    (hns : h'.Ns1 d (fun y => if y = "value" then some u' else if y = "kind" then some v' else none)) (rv : RelV v v') (ru : RelV u u') (q1 : ∀ d, H1 d = none → Q (.ref C) (some d) (upd H1 d (.xd [("kind", v), ("value", u)]))) : MkP X pins σ Q (.ref e) ⟨h', g, dr, tk', os⟩ := by
  obtain ⟨oe, fv, hoe, hc, hdc, hdat, h1⟩ := M.obj
  obtain ⟨G', g1, g2⟩ := restrict h' fun b => decide (b ≠ e)
  have same : ∀ b, b ≠ e → G'.get? b = h'.get? b := fun b hb => g1 b (decide_eq_true hb)
  have gone : G'.get? e = none := g2 e (by simp)
  have old : ∀ b o, hp.get? b = some o → G'.get? b = some o := fun b o q => (same b (Nat.ne_of_lt (Nat.lt_of_lt_of_le (Heap.lt_size q) M.new))).trans (M.keep b o q)
  have dictOk : ObjOk X.prog X.w (upd H1 d (.xd [("kind", v), ("value", u)])) G' d (.xd [("kind", v), ("value", u)]) := ⟨_, hns.at (fun o q => (same d dne).trans q), fun y => relO_two rv ru y⟩
  have J : Inv X pins σ (upd H1 d (.xd [("kind", v), ("value", u)])) ⟨G', g, dr, tk', os⟩ := I1.laid (t' := tk') old hd dictOk
  refine ⟨e, oe, fv, ⟨G', g, dr, tk', os⟩, _, .ref C, some d, rfl, J, fun b o q => ?_, gone, hoe, ⟨hc, hdc⟩, hdat, h1, ?_, rfl, I1.bare, raises_own T.exC T.ty, q1 d (I1.hok.fresh hd)⟩
  · by_cases hb : b = e
    · rw [hb] at q
      cases gone.symm.trans q
    · exact (same b hb).symm.trans q
  · rw [upd_ne dne.symm]
    exact I1.hok.fresh M.new
theorem pmk_kv {a b : Expr} {ta : TA} (SF : StoreFacts B bmB "object.__setattr__" "object") (FB : ExcBaseFacts B newId initId bmB) (T : GX.Errkv X.K C fI bmB newId) (hr : Room k X.A) (hg : Gl X x) (hm : X.mg x = some (.ref C)) (ha : PA X [a, b] ta) (ndb : (x == ("__debug__" : Str)) = false := by decide)
    (he : starEach (a :: [b]) X.env = (false, eval a X.env) :: starEach [b] X.env := by rfl) (hpl : (backTo pos (starEach [b] X.env)).any (·.1) = false := by rfl) : PMk X (.Call (.Name x p) [a, b] [] pos) (tMk2 C ta) := by
  intro pins s σ H Q I h
  refine wpAny_Call_Name_kw (ld_glob I hg hm ?_ ndb)
  refine PySem.W.callWith_K (h₀ := X.base) I.ok.mod.kin T.kp (thn (ha.run pos pins s σ H _ I h) fun us s1 hh => ?_) he hpl
  obtain ⟨vs, H1, I1, r1, v, u, rfl, q1⟩ := hh
  refine ⟨I1.kIn, ?_⟩
  cases r1 with
  | cons rv rn =>
    cases rn with
    | cons ru rn =>
      cases rn
      have hlim := I1.nolimit
      obtain ⟨hp, g, dr, tk, os⟩ := s1
      exact wpAny_call (GX.made_kv SF FB T I1.kIn hlim (by have := hr.dp; omega) fun h' tk' e d M hd dne hns => out_of2 T.toErrT I1 M hd dne hns rv ru q1)
end
end GL
/-! a tuple of one member that has a text -/
namespace GL
open PySem PySem.Spec PyProof.Rows L2 Evl StX SkE
/-- a tuple of one such member -/
def itTup1 (K : PySem.W.Frag) (It : ItP) : ItP := fun L H v t => ∃ a m t0, v = .ref a ∧ SqT K H a [m] ∧ a ∉ L ∧ t = tupleText [t0] ∧ It (a :: L) H m t0
theorem tup_depth {A : Around} (args : Args) : (A.under (.builtin "tuple.__repr__.under" args)).depth ≤ A.depth + 1 := by
  have e : (Code.builtin "tuple.__repr__.under" args).weight ≤ 1 := by
    unfold Code.weight
    have h1 : (Code.builtin "tuple.__repr__.under" args).frames = 0 := rfl
    have h2 : (Code.builtin "tuple.__repr__.under" args).isCreation = false := rfl
    have h3 : (Code.builtin "tuple.__repr__.under" args).isCaller = false := rfl
    rw [h1, h2, h3, if_neg Bool.false_ne_true, if_neg Bool.false_ne_true]
    split <;> omega
  show A.depth + (Code.builtin "tuple.__repr__.under" args).weight ≤ A.depth + 1
  omega
theorem tup_room {A : Around} {k : Nat} (h : Room (k + 1) A) (args : Args) : Room k (A.under (.builtin "tuple.__repr__.under" args)) := by
  refine ⟨h.hd, ?_, ?_⟩
  · have := h.dp
    have := tup_depth (A := A) args
    omega
  · have := h.un
    rw [units_under_tuple_repr_under]
    omega
theorem tup_frames {A : Around} {o : List Env} (h : A.frames = some o) (args : Args) : (A.under (.builtin "tuple.__repr__.under" args)).frames = some o := by
  simpa [Around.under, Code.envs, Code.isFrame, pushEnvs] using h
theorem tup_guard {A : Around} {L : List Addr} {p : Addr} (h : FreL L A) (rest : List Value) : FreL (p :: L) (A.under (.builtin "tuple.__repr__.under" ⟨.ref p :: rest, []⟩)) := by
  obtain ⟨g, hg, hL⟩ := h
  refine ⟨_, guards_under_guard (isGuard_tuple_repr_under _) hg, fun id v rest' kw m => ?_⟩
  rcases List.mem_cons.mp m with e | m
  · cases e
    exact ⟨p, List.mem_cons_self, rfl⟩
  · obtain ⟨l, hl, e⟩ := hL id v rest' kw m
    exact ⟨l, List.mem_cons_of_mem _ hl, e⟩
theorem shows_tup1 {X : Cx} {k : Nat} {It : ItP} (S : Shows X k It) : Shows X (k + 1) (itTup1 X.K It) where
  mono := fun ⟨a, m, t0, h1, h2, h3, h4, h5⟩ e => ⟨a, m, t0, h1, ex_t e h2, h3, h4, S.mono h5 e⟩
  goes := by
    rintro L pins σ H s v t u A base ⟨a, m, t0, rfl, hs, na, rfl, hm⟩ hz I r g rm fr
    cases r
    obtain ⟨its, rv, ⟨o, ho, hc, n, hd⟩, _⟩ := I.tuple hs
    obtain ⟨u1, rfl, ru⟩ : ∃ u1, its = [u1] ∧ RelV m u1 := by
      cases rv with
      | cons r1 rt =>
        cases rt
        exact ⟨_, rfl, r1⟩
    have ht : s.TypeIs (.ref a) "tuple" := ⟨o, ho, hc⟩
    have lt : (tupleText [t0]).length = t0.length + 3 := by
      unfold tupleText
      rw [strLen_append, strLen_append]
      show (Str.ofString "(").length + (Str.join ", " [t0]).length + (Str.ofString ",)").length = _
      rw [show Str.join (Str.ofString ", ") [t0] = t0 from rfl, show (Str.ofString "(").length = 1 by decide, show (Str.ofString ",)").length = 2 by decide]
      omega
    have gg := g
    obtain ⟨gs, hg, hL⟩ := gg
    have hno : (gs.any fun c => tupGuardF (.ref a) (c, default)) = false := by
      rw [List.any_eq_false]
      intro c hcm
      have cl : Clear gs a := fun id v rest kw hm e => by
        obtain ⟨l, hl, e2⟩ := hL id v rest kw hm
        rw [e] at e2
        cases e2
        exact na hl
      rw [tupGuardF_of_clear cl c hcm]
      exact Bool.false_ne_true
    refine wpAny_pyReprUnder_ref (by omega) (wpAny_pyReprObjUnder_twin (twin := "tuple.__repr__.under") ht F.slot_tuple_repr rfl rm.units0 ?_)
    refine call_twin_own (F.quiet_tuple_repr_under _) F.entry_tuple_repr_under F.check_tuple_repr_under ht F.slot_tuple_repr (F.args_tuple_repr_1 _) ?_
    rw [tuple_repr_tree, tupleReprUnderWay_eq]
    refine wpOwn_bind (wpOwn_stackTailAny hg (tupGuardF_off _) (tupGuardF_pos _) ?_)
    rw [hno]
    refine wpOwn_of_wpAny ?_
    show wpAny _ _ (tupleReprRest base (.ref a)) _ _ s
    unfold tupleReprRest Builtin.Tuple.tupleItemsOf
    refine wpAny_bind (wpAny_bind (wpAny_seqItems ho hd (wpAny_pure ?_)))
    rw [← Array.forIn_toList]
    show wpAny _ _ ((forIn [u1] (⟨#[], base⟩ : (Array Str × Nat)) tupBody) >>= _) _ _ s
    rw [List.forIn_cons]
    refine wpAny_bind (wpAny_bind (wpAny_bind (wpAny_mono (S.goes (base := base + 1) hm (by omega) I ru (tup_guard g _) (tup_room rm _) (tup_frames fr _)) ?_ fun _ _ z => ?_)))
    · rintro t' s1 ⟨rfl, H1, e1, I1⟩
      refine wpAny_pure ?_
      dsimp only
      rw [List.forIn_nil]
      refine wpAny_pure ?_
      refine wpAny_bind (wpAny_mkStr (wpAny_pure ?_) ?_)
      · exact ⟨⟨_, _, rfl⟩, _, _, rfl, rfl, H1, e1, I1.tok _⟩
      · show (tupleText [t']).length ≤ sizeLine
        omega
    · exact z
end GL
namespace GL
open PySem PySem.Spec PyProof.Rows L2
end GL
namespace GL
open PySem PySem.Spec PyProof.Rows L2
/-- the pairs of a code object and its table, at the law's call -/
structure TabsIn (ts : List (Addr × Addr)) (K : PySem.W.Frag) (h : Heap) : Prop where
  code : ∀ p ∈ ts, PySem.W.CodeHd h p.1 p.2
  emp : ∀ p ∈ ts, h.get? p.2 = some (PySem.W.tabObj #[])
  out : ∀ p ∈ ts, K.lookup p.2 = none
def isTab (ts : List (Addr × Addr)) (b : Addr) : Prop := ∃ p ∈ ts, p.2 = b
section
variable {P : Program} {w : World} {K : PySem.W.Frag} {mg mb : Str → Option Value} {k : Nat} {fa a : Addr} {fd : FuncData} {x : Str} {sp : Sp} {s₁ : Shared} {vs : List Value} {ns : List Int} {ts : List (Addr × Addr)}
theorem tab_at (TI : TabsIn ts K s₁.heap) {b : Addr} (hb : isTab ts b) : s₁.heap.get? b = some (PySem.W.tabObj #[]) := by
  obtain ⟨p, hp, rfl⟩ := hb
  exact TI.emp p hp
/-- the law's call, where code objects have tables -/
theorem law_coreT {H : Hp} (KX : K.In s₁.heap) (hns : s₁.heap.Ns mainGlobals mg) (hb : s₁.heap.Ns builtinsNs mb) (hbb : ∀ x : Str, x ≠ "__name__" → mb x = bootBuiltins x) (hlim : s₁.heap.NoLimit) (hg : s₁.gens = #[])
    (hbm : ∃ (bm : Addr) (ob : Obj), mg "__builtins__" = some (.ref bm) ∧ bm ≠ builtinsNs ∧ s₁.heap.get? bm = some ob ∧ ob.cls = .type "module" ∧ ob.dict = some builtinsNs ∧ ob.data = .plain)
    (TI : TabsIn ts K s₁.heap) (ha : s₁.heap.get? a = some { cls := .type "list", data := .seq vs.toArray }) (hr : Room k callerA)
    (F : ∀ base : Heap, K.In base → base.Ns mainGlobals mg → (∀ p ∈ ts, LamX.TabB base mg p.1 p.2) → FnG P w K mg base CX0 k fa fd [x] sp) (hbind : ∀ (s : Shared) (u : Value), BindsTo s fd ⟨[u], []⟩ [(x, u)])
    (hH : ∀ b, isTab ts b → H b = some (.tbl #[])) (hO : ∀ b, H b = none ∨ isTab ts b ∨ ∃ ob xs, H b = some (.frz ob (.lst xs))) (hok : HOk P w H s₁.heap) (hA : ∀ b, H b ≠ none → b = a ∨ isTab ts b) (hK : H a ≠ none → K.lookup a = none)
    (hsp : sp [.ref a] H (fun v _ => v = .bl true) fun _ _ _ => False) :
    codeAny (model P w) callerA (.call (.ref fa) ⟨[.ref a], []⟩) (fun r s' => r = .ok (.ret (.bool true)) ∧ OldK s₁.heap s'.heap ∧ s'.os = s₁.os ∧ AllBare s'.gens) s₁ := by
  -- what is neither a list nor a record without words isn't tracked
  have off : ∀ {b : Addr} {o : Obj}, s₁.heap.get? b = some o → (∀ its n, o.data ≠ .seq its n) → o.data ≠ .fields #[] → H b = none := by
    intro b o e d1 d2
    by_cases q : H b = none
    · exact q
    · rcases hA b q with rfl | t
      · rw [ha] at e
        cases e
        exact absurd rfl (d1 _ _)
      · rw [tab_at TI t] at e
        cases e
        exact absurd rfl d2
  have offD : ∀ {b : Addr} {o : Obj} {es : Array DictEntry} {ep : Nat}, s₁.heap.get? b = some o → o.data = .dict es ep → H b = none := fun e d => off e (fun _ _ z => by rw [d] at z; cases z) (fun z => by rw [d] at z; cases z)
  have hid : ∀ {b : Addr} {m : Str → Option Value}, s₁.heap.Ns b m → (hidT s₁.heap H).Ns b m := fun ⟨o, es, ep, e, d, r⟩ => ⟨o, es, ep, hidT_get e (offD e d), d, r⟩
  have inK : K.In (hidT s₁.heap H) := by
    intro b o e
    refine hidT_get (KX b o e) ?_
    by_cases q : H b = none
    · exact q
    · rcases hA b q with z | ⟨p, hp, z⟩
      · rw [z] at e q
        rw [hK q] at e
        cases e
      · rw [← z, TI.out p hp] at e
        cases e
  have lim : (hidT s₁.heap H).NoLimit := by
    obtain ⟨mc, h1, h2⟩ := hlim
    exact ⟨mc, hid h1, h2⟩
  have tabs : ∀ p ∈ ts, LamX.TabB (hidT s₁.heap H) mg p.1 p.2 := by
    intro p hp
    have hPt := TI.emp p hp
    refine ⟨?_, ?_, ?_⟩
    · obtain ⟨o, us, file, tf, flags, tg, inF, text, tt, e1, r1, r2, r3, rest⟩ := TI.code p hp
      refine ⟨o, us, file, tf, flags, tg, inF, text, tt, hidT_get e1 (off e1 (fun _ _ z => ?_) fun z => ?_), r1, r2, r3, rest⟩
      · rw [r2] at z
        cases z
      · rw [r2] at z
        cases z
        simp at r3
    · obtain ⟨bm, ob, b1, b2, b3, b4, b5, b6⟩ := hbm
      refine ⟨bm, ob, b1, b2, fun z => ?_, fun z => ?_, hidT_get b3 (off b3 (fun _ _ z => ?_) fun z => ?_), b4, b5, b6⟩
      · obtain ⟨o, es, ep, e, d, _⟩ := hns
        rw [z, e] at b3
        cases b3
        rw [d] at b6
        cases b6
      · rw [z, hPt] at b3
        cases b3
        cases b6
      · rw [b6] at z
        cases z
      · rw [b6] at z
        cases z
    · intro z
      obtain ⟨o, es, ep, e, d, _⟩ := hns
      rw [z, hPt] at e
      cases e
      cases d
  have e0 : Env0 P w K mg (hidT s₁.heap H) callerA [] s₁ H := by
    refine ⟨rfl, ⟨inK, hid hns, ⟨mb, hid hb, hbb⟩, lim⟩, fun b o e => of_hidT e, Nat.le_of_eq (hidT_size _ _), trivial, fun b z => ?_, hok, .of_eq hg⟩
    cases (show b ∈ ([] : List Addr) from z)
  have run := (F _ inK (hid hns) tabs).goes (A := callerA) (outer := []) (vs := [.ref a]) (us := [.ref a]) rfl hr e0 (hbind s₁ (.ref a)) (.cons rfl .nil) hsp
  refine codeAny_mono run ?_
  intro r s' z
  match r, z with
  | .error e, z => exact z.elim
  | .ok .next, z => exact z.elim
  | .ok .brk, z => exact z.elim
  | .ok .cont, z => exact z.elim
  | .ok (.ret u), z =>
    obtain ⟨v, H', os, bare, un, hok', r', q⟩ := z
    cases (show v = .bl true from q)
    obtain rfl : u = Value.bool true := r'
    have same : ∀ b o, ¬ isTab ts b → s₁.heap.get? b = some o → s'.heap.get? b = some o := by
      intro b o nt e
      rcases hO b with q | q | ⟨ob, xs, q⟩
      · exact un.keep b o e q (List.not_mem_nil) (List.not_mem_nil)
      · exact absurd q nt
      · obtain ⟨e1, _⟩ := hok b _ q
        obtain ⟨e2, _⟩ := hok' b _ (un.frzs b ob _ q)
        rw [e] at e1
        cases e1
        exact e2
    have more : ∀ b, isTab ts b → ∃ ps : Array Value, s'.heap.get? b = some (PySem.W.tabObj ps) := by
      intro b t
      obtain ⟨ps, z⟩ := un.tbls b #[] (hH b t)
      exact ⟨_, hok' b _ z⟩
    refine ⟨rfl, ⟨fun b o e => ?_, fun b o e => ?_⟩, os, bare⟩
    · by_cases t : isTab ts b
      · obtain ⟨ps, m⟩ := more b t
        have e' := e
        rw [tab_at TI t] at e'
        cases e'
        obtain ⟨p, hp, rfl⟩ := t
        exact .inr (.inl ⟨((TI.code p hp).tab (TI.emp p hp)).isCodeTable, rfl, #[], ps, rfl, by simpa using m⟩)
      · exact .inl (same b o t e)
    · by_cases t : isTab ts b
      · obtain ⟨ps, m⟩ := more b t
        exact ⟨_, m⟩
      · exact ⟨o, same b o t e⟩
theorem law_atT (KX : K.In s₁.heap) (hns : s₁.heap.Ns mainGlobals mg) (hb : s₁.heap.Ns builtinsNs mb) (hbb : ∀ x : Str, x ≠ "__name__" → mb x = bootBuiltins x) (hlim : s₁.heap.NoLimit) (hg : s₁.gens = #[])
    (hbm : ∃ (bm : Addr) (ob : Obj), mg "__builtins__" = some (.ref bm) ∧ bm ≠ builtinsNs ∧ s₁.heap.get? bm = some ob ∧ ob.cls = .type "module" ∧ ob.dict = some builtinsNs ∧ ob.data = .plain)
    (TI : TabsIn ts K s₁.heap) (ha : s₁.heap.get? a = some { cls := .type "list", data := .seq vs.toArray }) (hi : IntsAre vs ns) (hl : ns.length ≤ sizeLine) (hr : Room k callerA)
    (F : ∀ base : Heap, K.In base → base.Ns mainGlobals mg → (∀ p ∈ ts, LamX.TabB base mg p.1 p.2) → FnG P w K mg base CX0 k fa fd [x] sp) (hbind : ∀ (s : Shared) (u : Value), BindsTo s fd ⟨[u], []⟩ [(x, u)])
    (hsp : ∀ H : Hp, (∀ p ∈ ts, H p.2 = some (.tbl #[])) → SqL K H a (ns.map V.int) → sp [.ref a] H (fun v _ => v = .bl true) fun _ _ _ => False) :
    codeAny (model P w) callerA (.call (.ref fa) ⟨[.ref a], []⟩) (fun r s' => r = .ok (.ret (.bool true)) ∧ OldK s₁.heap s'.heap ∧ s'.os = s₁.os ∧ AllBare s'.gens) s₁ := by
  have rv := vals_ints hi
  have lenV := hi.length
  have na : ¬ isTab ts a := fun t => by
    have e := tab_at TI t
    rw [ha] at e
    exact nomatch congrArg Obj.data (Option.some.inj e)
  have go : ∀ H : Hp, (∀ b, isTab ts b → H b = some (.tbl #[])) → (∀ b, ¬ isTab ts b → b ≠ a → H b = none) → (H a = none ∨ (H a = some (.frz { cls := .type "list", data := .seq vs.toArray } (.lst (ns.map V.int))) ∧ K.lookup a = none)) → SqL K H a (ns.map V.int) →
      codeAny (model P w) callerA (.call (.ref fa) ⟨[.ref a], []⟩) (fun r s' => r = .ok (.ret (.bool true)) ∧ OldK s₁.heap s'.heap ∧ s'.os = s₁.os ∧ AllBare s'.gens) s₁ := by
    intro H h1 h2 h3 h4
    refine law_coreT (H := H) KX hns hb hbb hlim hg hbm TI ha hr F hbind h1 (fun b => ?_) (fun b u z => ?_) (fun b z => ?_) (fun z => ?_) (hsp H (fun p hp => h1 _ ⟨p, hp, rfl⟩) h4)
    · by_cases t : isTab ts b
      · exact .inr (.inl t)
      · by_cases e : b = a
        · subst e
          exact h3.imp id fun q => .inr ⟨_, _, q.1⟩
        · exact .inl (h2 b t e)
    · by_cases t : isTab ts b
      · cases (h1 b t).symm.trans z
        exact tab_at TI t
      · by_cases e : b = a
        · subst e
          rcases h3 with q | ⟨q, _⟩
          · cases q.symm.trans z
          · cases q.symm.trans z
            exact ⟨ha, by rw [List.length_map]; exact hl, vs, _, rv, ha⟩
        · cases (h2 b t e).symm.trans z
    · by_cases e : b = a
      · exact .inl e
      · by_cases t : isTab ts b
        · exact .inr t
        · exact absurd (h2 b t e) z
    · rcases h3 with q | ⟨_, q⟩
      · exact absurd q z
      · exact q
  classical
  cases hk : K.lookup a with
  | some o =>
    have e := KX a o hk
    rw [ha] at e
    cases e
    exact go (fun b => if isTab ts b then some (.tbl #[]) else none) (fun b t => if_pos t) (fun b t _ => if_neg t) (.inl (if_neg na)) (.inr ⟨_, vs.toArray, _, hk, rfl, rfl, rfl, by rw [List.size_toArray, lenV]; exact hl, by simpa using rv⟩)
  | none =>
    have at_ : (fun b => if isTab ts b then some (HO.tbl #[]) else if b = a then some (.frz { cls := .type "list", data := .seq vs.toArray } (.lst (ns.map V.int))) else none : Hp) a = some (.frz { cls := .type "list", data := .seq vs.toArray } (.lst (ns.map V.int))) := (if_neg na).trans (if_pos rfl)
    exact go _ (fun b t => if_pos t) (fun b t e => (if_neg t).trans (if_neg e)) (.inr ⟨at_, hk⟩) (.inl (.inr ⟨_, at_⟩))
end
end GL
namespace HK
open PySem PySem.Spec PyProof.Rows L2 He
abbrev At : Type := PySem.W.Frag → Addr
/-- what stands at an address, if a function -/
def fnAt (K : PySem.W.Frag) (a : Addr) : FnW := match K.lookup a with
  | some ⟨_, _, .func fd, _⟩ => some (fd.name, fd.qualname, fd.params, fd.body, fd.scope, fd.globals, fd.closure, fd.builtins)
  | _ => none
def codeAt (K : PySem.W.Frag) (a : Addr) : Addr := match K.lookup a with
  | some ⟨_, _, .func fd, _⟩ => (match fd.code with
    | .ref c => c
    | _ => 0)
  | _ => 0
/-- the function behind a property -/
def pfA (K : PySem.W.Frag) (p : Addr) : Addr := match PySem.W.recIn K p "property" with
  | some (.ref f :: _) => f
  | _ => 0
def pfB (K : PySem.W.Frag) (p : Addr) : Bool := match PySem.W.recIn K p "property" with
  | some (.ref _ :: _) => true
  | _ => false
theorem pf_ok {K : PySem.W.Frag} {p : Addr} (c : pfB K p = true) : ∃ pl : List Value, PySem.W.recIn K p "property" = some (.ref (pfA K p) :: pl) := by
  unfold pfB at c
  unfold pfA
  cases z : PySem.W.recIn K p "property" with
  | none =>
    rw [z] at c
    cases c
  | some l =>
    rw [z] at c
    cases l with
    | nil => cases c
    | cons x l =>
      cases x with
      | ref f => exact ⟨l, rfl⟩
      | _ => cases c
abbrev Al : Type := Bool × List FnW × List (Option (List (Option (Str × Int))))
def obsK (at_ : List At) (ts : List Tab) (ex : List (PySem.W.Frag → Bool)) (K : PySem.W.Frag) : Al := (ex.all fun b => b K, at_.map (fun p => fnAt K (p K)), ts.map fun t => dicW K (t.1 K))
def obsM (as : List Addr) (at_ : List At) (ts : List Tab) (ex : List (PySem.W.Frag → Bool)) (g : Addr → Option Obj) : Al := obsK at_ ts ex (frT g as)
def valM (fv : List FnW) (ts : List Tab) (w : World) : Al := (true, fv, ts.map fun t => some (keysIn w.params t.2))
/-- what is told -/
def Says (at_ : List At) (fv : List FnW) (ts : List Tab) (ex : List (PySem.W.Frag → Bool)) (w : World) (K : PySem.W.Frag) : Prop := obsK at_ ts ex K = valM fv ts w
def hook (as : List Addr) (at_ : List At) (fv : List FnW) (ts : List Tab) (ex : List (PySem.W.Frag → Bool)) : PySem.W.Hook where
  α := Al
  obs := fun s => obsM as at_ ts ex s.heap.get?
  val := fun w => valM fv ts w
  says := fun w h => ∃ K : PySem.W.Frag, K.In h ∧ Says at_ fv ts ex w K
  of := fun _ _ e => ⟨_, frT_in, e⟩
  keeps := fun _ _ _ ⟨K, hK, c⟩ k => ⟨K, PySem.W.Frag.In.keeps hK k, c⟩
theorem obs_eq {as : List Addr} {at_ : List At} {fv : List FnW} {ts : List Tab} {ex : List (PySem.W.Frag → Bool)} {g : Addr → Option Obj} {s : Shared} (h : ∀ a, g a = s.heap.get? a) : obsM as at_ ts ex g = (hook as at_ fv ts ex).obs s := by
  have e : g = s.heap.get? := funext h
  rw [e] <;> rfl
section
variable {at_ : List At} {fv : List FnW} {ts : List Tab} {ex : List (PySem.W.Frag → Bool)} {w : World} {K : PySem.W.Frag}
theorem Says.fact (c : Says at_ fv ts ex w K) (i : Nat) {b : PySem.W.Frag → Bool} (h : ex[i]? = some b := by rfl) : b K = true := by
  have c1 : (ex.all fun b => b K) = true := congrArg (fun z : Al => z.1) c
  exact List.all_eq_true.mp c1 b (List.mem_of_getElem? h)
theorem Says.fn (c : Says at_ fv ts ex w K) (i : Nat) {p : At} {v : FnW} (h : at_[i]? = some p := by rfl) (hv : fv[i]? = some v := by rfl) : fnAt K (p K) = v := by
  have e : at_.map (fun p => fnAt K (p K)) = fv := congrArg (fun z : Al => z.2.1) c
  have e2 : (at_.map (fun p => fnAt K (p K)))[i]? = fv[i]? := by rw [e]
  rw [List.getElem?_map, h, hv] at e2
  exact Option.some.inj e2
theorem Says.tab (c : Says at_ fv ts ex w K) (i : Nat) {t : Tab} (h : ts[i]? = some t := by rfl) : dicW K (t.1 K) = some (keysIn w.params t.2) := by
  have e : ts.map (fun t => dicW K (t.1 K)) = ts.map fun t => some (keysIn w.params t.2) := congrArg (fun z : Al => z.2.2) c
  have e2 : (ts.map fun t => dicW K (t.1 K))[i]? = (ts.map fun t => some (keysIn w.params t.2))[i]? := by rw [e]
  rw [List.getElem?_map, List.getElem?_map, h] at e2
  exact Option.some.inj e2
end
/-! ### facts of forms -/
def eqB {α : Type} [DecidableEq α] (a b : α) : Bool := decide (a = b)
theorem eqB_ok {α : Type} [DecidableEq α] {a b : α} (h : eqB a b = true) : a = b := of_decide_eq_true h
/-- a function's defaults, by what they should be -/
def dfA (K : PySem.W.Frag) (f : Addr) : Addr := match K.lookup f with
  | some ⟨_, _, .func fd, _⟩ => (match fd.defaults with
    | .ref a => a
    | _ => 0)
  | _ => 0
def itA (K : PySem.W.Frag) (T : Addr) (i : Nat) : Addr := match K.lookup T with
  | some ⟨_, _, .seq its _, _⟩ => (match its[i]? with
    | some (.ref a) => a
    | _ => 0)
  | _ => 0
def fB (K : PySem.W.Frag) (f : Addr) (q : Str) (dv : Value) : Bool := match K.lookup f with
  | some ⟨_, _, .func fd, _⟩ => decide (fd.defaults = dv) && PySem.W.codeIn K fd.code q
  | _ => false
theorem f_ok {K : PySem.W.Frag} {p : Addr} {n q : Str} {ps : Arguments} {bd : List Stmt} {sc : Scope} {dv : Value} (e : fnAt K p = some (n, q, ps, .stmts bd, sc, mainGlobals, [], builtinsNs)) (c : fB K p q dv = true) :
    ∃ (oc : Value) (od : Option Addr) (kV dc pm : Value) (an : Option Addr) (cd ct : Value) (sl : Array (Option Value)), K.lookup p = some ⟨oc, od, .func (PySem.W.fnOf n q ps bd sc dv kV dc pm an cd ct), sl⟩ ∧ PySem.W.codeIn K cd q = true := by
  unfold fnAt at e
  unfold fB at c
  cases z : K.lookup p with
  | none =>
    rw [z] at c
    cases c
  | some o =>
    obtain ⟨oc, od, dt, osl⟩ := o
    rw [z] at c e
    cases dt with
    | func fd =>
      obtain ⟨n1, n2, n3, n4, n5, n6, n7, n8, n9, n10, n11, n12, n13, n14, n15⟩ := fd
      have e2 : (some (n1, n2, n3, n4, n5, n6, n7, n15) : FnW) = some (n, q, ps, .stmts bd, sc, mainGlobals, [], builtinsNs) := e
      simp only [Option.some.injEq, Prod.mk.injEq] at e2
      obtain ⟨h1, h2, h3, h4, h5, h6, h7, h8⟩ := e2
      subst h1 h2 h3 h4 h5 h6 h7 h8
      obtain ⟨k1, k2⟩ := ba (show (decide (n8 = dv) && PySem.W.codeIn K n13 _) = true from c)
      have k3 := of_decide_eq_true k1
      subst k3
      exact ⟨oc, od, n9, n10, n11, n12, n13, n14, osl, rfl, k2⟩
    | _ => cases c
def fBN (K : PySem.W.Frag) (f : Addr) (q : Str) (dv : Value) : Bool := match K.lookup f with
  | some ⟨_, _, .func fd, _⟩ => decide (fd.defaults = dv) && (decide (fd.kwdefaults = .none) && PySem.W.codeIn K fd.code q)
  | _ => false
theorem f_okN {K : PySem.W.Frag} {p : Addr} {n q : Str} {ps : Arguments} {bd : List Stmt} {sc : Scope} {dv : Value} (e : fnAt K p = some (n, q, ps, .stmts bd, sc, mainGlobals, [], builtinsNs)) (c : fBN K p q dv = true) :
    ∃ (oc : Value) (od : Option Addr) (dc pm : Value) (an : Option Addr) (cd ct : Value) (sl : Array (Option Value)), K.lookup p = some ⟨oc, od, .func (PySem.W.fnOf n q ps bd sc dv .none dc pm an cd ct), sl⟩ ∧ PySem.W.codeIn K cd q = true := by
  unfold fnAt at e
  unfold fBN at c
  cases z : K.lookup p with
  | none =>
    rw [z] at c
    cases c
  | some o =>
    obtain ⟨oc, od, dt, osl⟩ := o
    rw [z] at c e
    cases dt with
    | func fd =>
      obtain ⟨n1, n2, n3, n4, n5, n6, n7, n8, n9, n10, n11, n12, n13, n14, n15⟩ := fd
      have e2 : (some (n1, n2, n3, n4, n5, n6, n7, n15) : FnW) = some (n, q, ps, .stmts bd, sc, mainGlobals, [], builtinsNs) := e
      simp only [Option.some.injEq, Prod.mk.injEq] at e2
      obtain ⟨h1, h2, h3, h4, h5, h6, h7, h8⟩ := e2
      subst h1 h2 h3 h4 h5 h6 h7 h8
      obtain ⟨k1, k2⟩ := ba (show (decide (n8 = dv) && (decide (n9 = .none) && PySem.W.codeIn K n13 _)) = true from c)
      obtain ⟨k4, k2⟩ := ba k2
      have k3 := of_decide_eq_true k1
      have k5 := of_decide_eq_true k4
      subst k3 k5
      exact ⟨oc, od, n10, n11, n12, n13, n14, osl, rfl, k2⟩
    | _ => cases c
theorem f_okT {K : PySem.W.Frag} {p : Addr} {n q : Str} {ps : Arguments} {bd : List Stmt} {sc : Scope} {dv : Value} (e : fnAt K p = some (n, q, ps, .stmts bd, sc, mainGlobals, [], builtinsNs)) (c : fB K p q dv = true) :
    ∃ (oc : Value) (od : Option Addr) (kV dc pm : Value) (an : Option Addr) (ct : Value) (sl : Array (Option Value)), K.lookup p = some ⟨oc, od, .func (PySem.W.fnOf n q ps bd sc dv kV dc pm an (.ref (codeAt K p)) ct), sl⟩ ∧ PySem.W.codeIn K (.ref (codeAt K p)) q = true := by
  obtain ⟨oc, od, kV, dc, pm, an, cd, ct, sl, h, k⟩ := f_ok e c
  obtain ⟨x, rfl⟩ := codeIn_ref k
  have hx : codeAt K p = x := by
    unfold codeAt
    rw [h]
  rw [hx]
  exact ⟨oc, od, kV, dc, pm, an, ct, sl, h, k⟩
def tbB (K : PySem.W.Frag) (c : Addr) : Bool := match K.lookup c with
  | some ⟨_, _, .fields vs, _⟩ => decide (vs[11]? = some (.ref (tabOf K c)))
  | _ => false
theorem tb_ok {K : PySem.W.Frag} {c : Addr} (h : tbB K c = true) : ∃ (oc : Value) (od : Option Addr) (vs : Array Value) (sl : Array (Option Value)), K.lookup c = some ⟨oc, od, .fields vs, sl⟩ ∧ vs[11]? = some (.ref (tabOf K c)) := by
  unfold tbB at h
  cases z : K.lookup c with
  | none =>
    rw [z] at h
    cases h
  | some o =>
    obtain ⟨oc, od, dt, osl⟩ := o
    rw [z] at h
    cases dt with
    | fields vs => exact ⟨oc, od, vs, osl, rfl, of_decide_eq_true h⟩
    | _ => cases h
theorem no_ok {K : PySem.W.Frag} {c : Addr} (h : (K.lookup c).isNone = true) : K.lookup c = none := Option.isNone_iff_eq_none.mp h
/-- values, some of whose parts are not asked -/
inductive VP where
  | val (v : Value) | str (s : Str) | int (i : Int) | any
def VP.ok : VP → Value → Bool
  | .val v, u => decide (u = v)
  | .str s, .str z _ => decide (z = s)
  | .int i, .int j _ => decide (j = i)
  | .any, _ => true
  | _, _ => false
def vpAll : List VP → List Value → Bool
  | [], [] => true
  | p :: ps, v :: vs => p.ok v && vpAll ps vs
  | _, _ => false
def VP.ex : List VP → (List Value → Prop) → Prop
  | [], k => k []
  | .val v :: ps, k => VP.ex ps fun vs => k (v :: vs)
  | .str s :: ps, k => ∃ t, VP.ex ps fun vs => k (.str s t :: vs)
  | .int i :: ps, k => ∃ t, VP.ex ps fun vs => k (.int i t :: vs)
  | .any :: ps, k => ∃ v, VP.ex ps fun vs => k (v :: vs)
theorem vp_ok : ∀ {ps : List VP} {vs : List Value} {k : List Value → Prop}, vpAll ps vs = true → k vs → VP.ex ps k
  | [], [], k, _, h => h
  | [], _ :: _, _, c, _ => by cases c
  | _ :: _, [], _, c, _ => by cases c
  | p :: ps, v :: vs, k, c, h => by
    obtain ⟨c1, c2⟩ := ba (show (p.ok v && vpAll ps vs) = true from c)
    cases p with
    | val u =>
      have e : v = u := of_decide_eq_true c1
      subst e
      exact vp_ok (k := fun vs => k (v :: vs)) c2 h
    | str s =>
      cases v with
      | str z t =>
        have e : z = s := of_decide_eq_true c1
        subst e
        exact ⟨t, vp_ok (k := fun vs => k (.str z t :: vs)) c2 h⟩
      | _ => cases c1
    | int i =>
      cases v with
      | int z t =>
        have e : z = i := of_decide_eq_true c1
        subst e
        exact ⟨t, vp_ok (k := fun vs => k (.int z t :: vs)) c2 h⟩
      | _ => cases c1
    | any => exact ⟨v, vp_ok (k := fun vs => k (v :: vs)) c2 h⟩
/-- a sequence of the heap, of a class or of any -/
def seqB (K : PySem.W.Frag) (a : Addr) (c : Option Value) (ps : List VP) : Bool := match K.lookup a with
  | some ⟨oc, _, .seq its _, _⟩ => (match c with
    | some u => decide (oc = u)
    | none => true) && vpAll ps its.toList
  | _ => false
theorem seq_any {K : PySem.W.Frag} {a : Addr} {ps : List VP} (c : seqB K a none ps = true) : VP.ex ps fun vs => ∃ (oc : Value) (od : Option Addr) (n : Nat) (sl : Array (Option Value)), K.lookup a = some ⟨oc, od, .seq ⟨vs⟩ n, sl⟩ := by
  unfold seqB at c
  cases z : K.lookup a with
  | none =>
    rw [z] at c
    cases c
  | some o =>
    obtain ⟨oc, od, dt, osl⟩ := o
    rw [z] at c
    cases dt with
    | seq its n => exact vp_ok (k := fun vs => ∃ (oc' : Value) (od' : Option Addr) (n' : Nat) (sl : Array (Option Value)), some (⟨oc, od, .seq its n, osl⟩ : Obj) = some ⟨oc', od', .seq ⟨vs⟩ n', sl⟩) (ba c).2 ⟨oc, od, n, osl, rfl⟩
    | _ => cases c
theorem seq_is {K : PySem.W.Frag} {a : Addr} {u : Value} {ps : List VP} (c : seqB K a (some u) ps = true) : VP.ex ps fun vs => ∃ (od : Option Addr) (n : Nat) (sl : Array (Option Value)), K.lookup a = some ⟨u, od, .seq ⟨vs⟩ n, sl⟩ := by
  unfold seqB at c
  cases z : K.lookup a with
  | none =>
    rw [z] at c
    cases c
  | some o =>
    obtain ⟨oc, od, dt, osl⟩ := o
    rw [z] at c
    cases dt with
    | seq its n =>
      obtain ⟨c1, c2⟩ := ba c
      have e : oc = u := of_decide_eq_true c1
      subst e
      exact vp_ok (k := fun vs => ∃ (od' : Option Addr) (n' : Nat) (sl : Array (Option Value)), some (⟨oc, od, .seq its n, osl⟩ : Obj) = some ⟨oc, od', .seq ⟨vs⟩ n', sl⟩) c2 ⟨od, n, osl, rfl⟩
    | _ => cases c
/-- a name of the module with a value, a part of which is not asked -/
def nsB (K : PySem.W.Frag) (x : Str) (p : VP) : Bool := match PySem.W.nsIn K mainGlobals x with
  | some (some v) => p.ok v
  | _ => false
theorem ns_int {K : PySem.W.Frag} {x : Str} {i : Int} (c : nsB K x (.int i) = true) : ∃ t, PySem.W.nsIn K mainGlobals x = some (some (.int i t)) := by
  unfold nsB at c
  cases z : PySem.W.nsIn K mainGlobals x with
  | none =>
    rw [z] at c
    cases c
  | some o =>
    rw [z] at c
    cases o with
    | none => cases c
    | some v =>
      cases v with
      | int j t =>
        have e : j = i := of_decide_eq_true c
        subst e
        exact ⟨t, rfl⟩
      | _ => cases c
theorem dic_ok {K : PySem.W.Frag} {w : World} {a : Addr} {ks : List Str} (h : dicW K a = some (keysIn w.params ks)) : ∃ (es : Array DictEntry) (n : Nat), K.lookup a = some ⟨.type "dict", none, .dict es n, #[]⟩ ∧ PySem.W.KeysLit w.params es.toList ∧ True := by
  obtain ⟨es, n, k⟩ := dicW_ok h
  exact ⟨es, n, k.at_, k.lit, trivial⟩
end HK
/-! the end of a law whose defs make lambdas, over such a head -/
namespace HK
open PySem PySem.Spec PyProof.Rows L2 He GL
theorem walkHT {l : PySem.W.OpenLaw} {k : Nat} {q : Program} {loose : List Str} {XP : (Str → Option Value) → Heap → Prop} {YP : World → Heap → Prop} {d : DefRec} {sp : PySem.W.Frag → List (Addr × Addr) → Sp} {x : Str} {xs : List Str}
    (hn : l.most = some 63) (hdf : d.params.defaults = []) (hr : Room k callerA)
    (hx : ∀ y ∈ xs, ∃ e : DefRec, (recsOf q).find? (fun e => e.name == y) = some e)
    (F : ∀ (w : World) (mg : Str → Option Value) (fa : Addr) (h : Heap), YP w h → h.Ns mainGlobals mg → mg d.name = some (.ref fa) →
      ∃ (K : PySem.W.Frag) (fd : FuncData) (ts : List (Addr × Addr)), K.In h ∧ (∀ p ∈ ts, ∃ y ∈ xs, PySem.W.tabIn K y = some p) ∧ (∀ p ∈ ts, K.lookup p.2 = none) ∧ (∀ (s : Shared) (u : Value), BindsTo s fd ⟨[u], []⟩ [(x, u)]) ∧
        (∀ base : Heap, K.In base → base.Ns mainGlobals mg → (∀ p ∈ ts, LamX.TabB base mg p.1 p.2) → FnG l.prog w K mg base CX0 k fa fd [x] (sp K ts)))
    (hsp : ∀ (K : PySem.W.Frag) (ts : List (Addr × Addr)) (H : Hp) (a : Addr) (ns : List Int), ns.length ≤ 63 → (∀ p ∈ ts, H p.2 = some (.tbl #[])) → SqL K H a (ns.map V.int) → sp K ts [.ref a] H (fun v _ => v = .bl true) fun _ _ _ => False) :
    PySem.W.WalkO q loose XP YP l.row.toRowW d [] (fun f vs => PySem.call f vs) := by
  refine Att.attach_call hn hdf fun w s₀ s₁ mg mb fa o pm cd doc a vs ns G Y ho hd hcd hmg hobj hints hlen hg => ?_
  obtain ⟨K, fd, ts, KX, h1, h2, h3, h4⟩ := F w mg fa _ Y G.T.g hmg
  have TI : TabsIn ts K s₁.heap := by
    have both : ∀ p ∈ ts, PySem.W.CodeHd s₁.heap p.1 p.2 ∧ s₁.heap.get? p.2 = some (PySem.W.tabObj #[]) := fun p hp => by
      obtain ⟨y, hy, ht⟩ := h1 p hp
      obtain ⟨e, he⟩ := hx y hy
      exact PySem.W.tab_of G.T KX he ht
    exact ⟨fun p hp => (both p hp).1, fun p hp => (both p hp).2, h2⟩
  exact law_atT KX G.T.g G.T.b G.T.builtins G.T.nolimit hg G.T.bmain TI hobj hints (Nat.le_trans hlen (by decide)) hr h4 h3 fun H hH hS => hsp _ ts H a ns hlen hH hS
end HK
/-! the head: the defaults of arguments given by name alone -/
namespace HK
open PySem PySem.Spec PyProof.Rows L2 He
def kdA (K : PySem.W.Frag) (f : Addr) : Addr := match K.lookup f with
  | some ⟨_, _, .func fd, _⟩ => (match fd.kwdefaults with
    | .ref a => a
    | _ => 0)
  | _ => 0
def fBK (K : PySem.W.Frag) (f : Addr) (q : Str) (dv kv : Value) : Bool := match K.lookup f with
  | some ⟨_, _, .func fd, _⟩ => decide (fd.defaults = dv) && (decide (fd.kwdefaults = kv) && PySem.W.codeIn K fd.code q)
  | _ => false
theorem f_okK {K : PySem.W.Frag} {p : Addr} {n q : Str} {ps : Arguments} {bd : List Stmt} {sc : Scope} {dv kv : Value} (e : fnAt K p = some (n, q, ps, .stmts bd, sc, mainGlobals, [], builtinsNs)) (c : fBK K p q dv kv = true) :
    ∃ (oc : Value) (od : Option Addr) (dc pm : Value) (an : Option Addr) (cd ct : Value) (sl : Array (Option Value)), K.lookup p = some ⟨oc, od, .func (PySem.W.fnOf n q ps bd sc dv kv dc pm an cd ct), sl⟩ ∧ PySem.W.codeIn K cd q = true := by
  unfold fnAt at e
  unfold fBK at c
  cases z : K.lookup p with
  | none =>
    rw [z] at c
    cases c
  | some o =>
    obtain ⟨oc, od, dt, osl⟩ := o
    rw [z] at c e
    cases dt with
    | func fd =>
      obtain ⟨n1, n2, n3, n4, n5, n6, n7, n8, n9, n10, n11, n12, n13, n14, n15⟩ := fd
      have e2 : (some (n1, n2, n3, n4, n5, n6, n7, n15) : FnW) = some (n, q, ps, .stmts bd, sc, mainGlobals, [], builtinsNs) := e
      simp only [Option.some.injEq, Prod.mk.injEq] at e2
      obtain ⟨h1, h2, h3, h4, h5, h6, h7, h8⟩ := e2
      subst h1 h2 h3 h4 h5 h6 h7 h8
      obtain ⟨k1, k2⟩ := ba (show (decide (n8 = dv) && (decide (n9 = kv) && PySem.W.codeIn K n13 _)) = true from c)
      obtain ⟨k4, k7⟩ := ba k2
      have k3 := of_decide_eq_true k1
      have k5 := of_decide_eq_true k4
      subst k3 k5
      exact ⟨oc, od, n10, n11, n12, n13, n14, osl, rfl, k7⟩
    | _ => cases c
/-- the address at a name of a space -/
def nsA (K : PySem.W.Frag) (D : Addr) (x : Str) : Addr := match PySem.W.nsIn K D x with
  | some (some (.ref a)) => a
  | _ => 0
def nsDB (K : PySem.W.Frag) (D : Addr) (x : Str) (p : VP) : Bool := match PySem.W.nsIn K D x with
  | some (some v) => p.ok v
  | _ => false
theorem nsD_int {K : PySem.W.Frag} {D : Addr} {x : Str} {i : Int} (c : nsDB K D x (.int i) = true) : ∃ t, PySem.W.nsIn K D x = some (some (.int i t)) := by
  unfold nsDB at c
  cases z : PySem.W.nsIn K D x with
  | none =>
    rw [z] at c
    cases c
  | some o =>
    rw [z] at c
    cases o with
    | none => cases c
    | some v =>
      cases v with
      | int j t =>
        have e : j = i := of_decide_eq_true c
        subst e
        exact ⟨t, rfl⟩
      | _ => cases c
theorem nsD_str {K : PySem.W.Frag} {D : Addr} {x : Str} {i : Str} (c : nsDB K D x (.str i) = true) : ∃ t, PySem.W.nsIn K D x = some (some (.str i t)) := by
  unfold nsDB at c
  cases z : PySem.W.nsIn K D x with
  | none =>
    rw [z] at c
    cases c
  | some o =>
    rw [z] at c
    cases o with
    | none => cases c
    | some v =>
      cases v with
      | str j t =>
        have e : j = i := of_decide_eq_true c
        subst e
        exact ⟨t, rfl⟩
      | _ => cases c
/-- an object without a dict of its own -/
def bareB (K : PySem.W.Frag) (a : Addr) : Bool := match K.lookup a with
  | some o => decide (o.dict = none)
  | none => false
theorem bare_ok {K : PySem.W.Frag} {a : Addr} {oc : Value} {od : Option Addr} {dt : Data} {sl : Array (Option Value)} (c : bareB K a = true) (h : K.lookup a = some ⟨oc, od, dt, sl⟩) : od = none := by
  unfold bareB at c
  rw [h] at c
  exact of_decide_eq_true c
end HK
namespace My
open PySem PySem.Spec PyProof.Rows L2 GL
def topS (i : Nat) : Stmt := PySem.Challenge.pw_chargeways_k28_books_shown.main.body.getD i (.Pass ⟨0, 0, 0, 0⟩)
abbrev s_is_an_integer : Stmt := topS 2
abbrev N_is_an_integer : List Str := ["value"]
theorem sc_is_an_integer : FnScope N_is_an_integer ["value"] (defScope s_is_an_integer) := ⟨rfl, rfl, rfl, by decide +kernel, rfl, by decide +kernel, by decide +kernel⟩
abbrev s_is_list : Stmt := topS 3
abbrev N_is_list : List Str := ["value"]
theorem sc_is_list : FnScope N_is_list ["value"] (defScope s_is_list) := ⟨rfl, rfl, rfl, by decide +kernel, rfl, by decide +kernel, by decide +kernel⟩
abbrev s_check_group : Stmt := topS 54
abbrev N_check_group : List Str := ["tree", "value"]
theorem sc_check_group : FnScope N_check_group ["tree", "value"] (defScope s_check_group) := ⟨rfl, rfl, rfl, by decide +kernel, rfl, by decide +kernel, by decide +kernel⟩
abbrev s_check_parents : Stmt := topS 55
abbrev N_check_parents : List Str := ["parents", "position", "parent"]
theorem sc_check_parents : FnScope N_check_parents ["parents"] (defScope s_check_parents) := ⟨rfl, rfl, rfl, by decide +kernel, rfl, by decide +kernel, by decide +kernel⟩
abbrev s_check_struck : Stmt := topS 56
abbrev N_check_struck : List Str := ["parents", "struck", "seen", "position", "group", "needed", "child", "parent"]
theorem sc_check_struck : FnScope N_check_struck ["parents", "struck"] (defScope s_check_struck) := ⟨rfl, rfl, rfl, by decide +kernel, rfl, by decide +kernel, by decide +kernel⟩
abbrev s_Tinit : Stmt := inClass (topS 57) 0
abbrev N_Tinit : List Str := ["self", "parents", "struck"]
theorem sc_Tinit : FnScope N_Tinit ["self", "parents", "struck"] (defScope s_Tinit) := ⟨rfl, rfl, rfl, by decide +kernel, rfl, by decide +kernel, by decide +kernel⟩
abbrev s_Tlen : Stmt := inClass (topS 57) 1
abbrev N_Tlen : List Str := ["self"]
theorem sc_Tlen : FnScope N_Tlen ["self"] (defScope s_Tlen) := ⟨rfl, rfl, rfl, by decide +kernel, rfl, by decide +kernel, by decide +kernel⟩
abbrev s_Tway : Stmt := inClass (topS 57) 8
abbrev N_Tway : List Str := ["self", "group", "found"]
theorem sc_Tway : FnScope N_Tway ["self", "group"] (defScope s_Tway) := ⟨rfl, rfl, rfl, by decide +kernel, rfl, by decide +kernel, by decide +kernel⟩
abbrev s_Tapart : Stmt := inClass (topS 57) 15
abbrev N_Tapart : List Str := ["self", "group", "seen", "way", "other", "step"]
theorem sc_Tapart : FnScope N_Tapart ["self", "group", "seen"] (defScope s_Tapart) := ⟨rfl, rfl, rfl, by decide +kernel, rfl, by decide +kernel, by decide +kernel⟩
abbrev s_is_word : Stmt := topS 4
abbrev N_is_word : List Str := ["value", "words"]
theorem sc_is_word : FnScope N_is_word ["value", "words"] (defScope s_is_word) := ⟨rfl, rfl, rfl, by decide +kernel, rfl, by decide +kernel, by decide +kernel⟩
abbrev s_are_different_words : Stmt := topS 5
abbrev N_are_different_words : List Str := ["values", "words", "value"]
theorem sc_are_different_words : FnScope N_are_different_words ["values", "words"] (defScope s_are_different_words) := ⟨rfl, rfl, rfl, by decide +kernel, rfl, by decide +kernel, by decide +kernel⟩
abbrev s_has_words_of : Stmt := topS 24
abbrev N_has_words_of : List Str := ["value", "words"]
theorem sc_has_words_of : FnScope N_has_words_of ["value", "words"] (defScope s_has_words_of) := ⟨rfl, rfl, rfl, by decide +kernel, rfl, by decide +kernel, by decide +kernel⟩
abbrev s_tests_are_ahead : Stmt := topS 25
abbrev N_tests_are_ahead : List Str := ["row", "word", "behind"]
theorem sc_tests_are_ahead : FnScope N_tests_are_ahead ["row", "word"] (defScope s_tests_are_ahead) := ⟨rfl, rfl, rfl, by decide +kernel, rfl, by decide +kernel, by decide +kernel⟩
abbrev s_off_has_home : Stmt := topS 26
abbrev N_off_has_home : List Str := ["row"]
theorem sc_off_has_home : FnScope N_off_has_home ["row"] (defScope s_off_has_home) := ⟨rfl, rfl, rfl, by decide +kernel, rfl, by decide +kernel, by decide +kernel⟩
abbrev s_is_take_row : Stmt := topS 27
abbrev N_is_take_row : List Str := ["value"]
theorem sc_is_take_row : FnScope N_is_take_row ["value"] (defScope s_is_take_row) := ⟨rfl, rfl, rfl, by decide +kernel, rfl, by decide +kernel, by decide +kernel⟩
abbrev s_is_give_row : Stmt := topS 28
abbrev N_is_give_row : List Str := ["value"]
theorem sc_is_give_row : FnScope N_is_give_row ["value"] (defScope s_is_give_row) := ⟨rfl, rfl, rfl, by decide +kernel, rfl, by decide +kernel, by decide +kernel⟩
abbrev s_is_move_row : Stmt := topS 29
abbrev N_is_move_row : List Str := ["value"]
theorem sc_is_move_row : FnScope N_is_move_row ["value"] (defScope s_is_move_row) := ⟨rfl, rfl, rfl, by decide +kernel, rfl, by decide +kernel, by decide +kernel⟩
abbrev s_is_lift_row : Stmt := topS 30
abbrev N_is_lift_row : List Str := ["value"]
theorem sc_is_lift_row : FnScope N_is_lift_row ["value"] (defScope s_is_lift_row) := ⟨rfl, rfl, rfl, by decide +kernel, rfl, by decide +kernel, by decide +kernel⟩
abbrev s_is_row : Stmt := topS 32
abbrev N_is_row : List Str := ["kind", "value", "check"]
theorem sc_is_row : FnScope N_is_row ["kind", "value"] (defScope s_is_row) := ⟨rfl, rfl, rfl, by decide +kernel, rfl, by decide +kernel, by decide +kernel⟩
abbrev s_fits_batch : Stmt := topS 33
abbrev N_fits_batch : List Str := ["row", "batch"]
theorem sc_fits_batch : FnScope N_fits_batch ["row", "batch"] (defScope s_fits_batch) := ⟨rfl, rfl, rfl, by decide +kernel, rfl, by decide +kernel, by decide +kernel⟩
abbrev s_fits_shared : Stmt := topS 34
abbrev N_fits_shared : List Str := ["row", "shared"]
theorem sc_fits_shared : FnScope N_fits_shared ["row", "shared"] (defScope s_fits_shared) := ⟨rfl, rfl, rfl, by decide +kernel, rfl, by decide +kernel, by decide +kernel⟩
abbrev s_check_rows : Stmt := topS 38
abbrev N_check_rows : List Str := ["rows", "kind", "row"]
theorem sc_check_rows : FnScope N_check_rows ["rows"] (defScope s_check_rows) := ⟨rfl, rfl, rfl, by decide +kernel, rfl, by decide +kernel, by decide +kernel⟩
abbrev s_check_fails : Stmt := topS 39
abbrev N_check_fails : List Str := ["value"]
theorem sc_check_fails : FnScope N_check_fails ["value"] (defScope s_check_fails) := ⟨rfl, rfl, rfl, by decide +kernel, rfl, by decide +kernel, by decide +kernel⟩
abbrev s_check_bool : Stmt := topS 40
abbrev N_check_bool : List Str := ["name", "value"]
theorem sc_check_bool : FnScope N_check_bool ["name", "value"] (defScope s_check_bool) := ⟨rfl, rfl, rfl, by decide +kernel, rfl, by decide +kernel, by decide +kernel⟩
abbrev s_check_holds : Stmt := topS 41
abbrev N_check_holds : List Str := ["value"]
theorem sc_check_holds : FnScope N_check_holds ["value"] (defScope s_check_holds) := ⟨rfl, rfl, rfl, by decide +kernel, rfl, by decide +kernel, by decide +kernel⟩
abbrev s_check_batch : Stmt := topS 42
abbrev N_check_batch : List Str := ["value"]
theorem sc_check_batch : FnScope N_check_batch ["value"] (defScope s_check_batch) := ⟨rfl, rfl, rfl, by decide +kernel, rfl, by decide +kernel, by decide +kernel⟩
abbrev s_check_row_kind : Stmt := topS 43
abbrev N_check_row_kind : List Str := ["value"]
theorem sc_check_row_kind : FnScope N_check_row_kind ["value"] (defScope s_check_row_kind) := ⟨rfl, rfl, rfl, by decide +kernel, rfl, by decide +kernel, by decide +kernel⟩
abbrev s_Binit : Stmt := inClass (topS 44) 1
abbrev N_Binit : List Str := ["self", "take", "give", "move", "lift", "fails", "shared", "holds", "batch", "settles", "rows", "sorted_holds", "kind"]
theorem sc_Binit : FnScope N_Binit ["self", "take", "give", "move", "lift", "fails", "shared", "holds", "batch", "settles"] (defScope s_Binit) := ⟨rfl, rfl, rfl, by decide +kernel, rfl, by decide +kernel, by decide +kernel⟩
abbrev s_Brepr : Stmt := inClass (topS 44) 3
abbrev N_Brepr : List Str := ["self", "parts", "name", "value"]
theorem sc_Brepr : FnScope N_Brepr ["self"] (defScope s_Brepr) := ⟨rfl, rfl, rfl, by decide +kernel, rfl, by decide +kernel, by decide +kernel⟩
abbrev s_Bfails : Stmt := inClass (topS 44) 4
abbrev N_Bfails : List Str := ["self"]
theorem sc_Bfails : FnScope N_Bfails ["self"] (defScope s_Bfails) := ⟨rfl, rfl, rfl, by decide +kernel, rfl, by decide +kernel, by decide +kernel⟩
abbrev s_Bshared : Stmt := inClass (topS 44) 5
abbrev N_Bshared : List Str := ["self"]
theorem sc_Bshared : FnScope N_Bshared ["self"] (defScope s_Bshared) := ⟨rfl, rfl, rfl, by decide +kernel, rfl, by decide +kernel, by decide +kernel⟩
abbrev s_Bholds : Stmt := inClass (topS 44) 6
abbrev N_Bholds : List Str := ["self"]
theorem sc_Bholds : FnScope N_Bholds ["self"] (defScope s_Bholds) := ⟨rfl, rfl, rfl, by decide +kernel, rfl, by decide +kernel, by decide +kernel⟩
abbrev s_Bbatch : Stmt := inClass (topS 44) 7
abbrev N_Bbatch : List Str := ["self"]
theorem sc_Bbatch : FnScope N_Bbatch ["self"] (defScope s_Bbatch) := ⟨rfl, rfl, rfl, by decide +kernel, rfl, by decide +kernel, by decide +kernel⟩
abbrev s_Bsettles : Stmt := inClass (topS 44) 8
abbrev N_Bsettles : List Str := ["self"]
theorem sc_Bsettles : FnScope N_Bsettles ["self"] (defScope s_Bsettles) := ⟨rfl, rfl, rfl, by decide +kernel, rfl, by decide +kernel, by decide +kernel⟩
abbrev s_Brow : Stmt := inClass (topS 44) 9
abbrev N_Brow : List Str := ["self", "kind"]
theorem sc_Brow : FnScope N_Brow ["self", "kind"] (defScope s_Brow) := ⟨rfl, rfl, rfl, by decide +kernel, rfl, by decide +kernel, by decide +kernel⟩
abbrev s_Bwith_row : Stmt := inClass (topS 44) 10
abbrev N_Bwith_row : List Str := ["self", "kind", "row", "parts"]
theorem sc_Bwith_row : FnScope N_Bwith_row ["self", "kind", "row"] (defScope s_Bwith_row) := ⟨rfl, rfl, rfl, by decide +kernel, rfl, by decide +kernel, by decide +kernel⟩
abbrev s_Bwith_holds : Stmt := inClass (topS 44) 11
abbrev N_Bwith_holds : List Str := ["self", "holds", "parts"]
theorem sc_Bwith_holds : FnScope N_Bwith_holds ["self", "holds"] (defScope s_Bwith_holds) := ⟨rfl, rfl, rfl, by decide +kernel, rfl, by decide +kernel, by decide +kernel⟩
abbrev s_Cinit : Stmt := inClass (topS 46) 0
abbrev N_Cinit : List Str := ["self", "kind", "words", "group", "old", "leaves_out"]
theorem sc_Cinit : FnScope N_Cinit ["self", "kind", "words", "group", "old", "leaves_out"] (defScope s_Cinit) := ⟨rfl, rfl, rfl, by decide +kernel, rfl, by decide +kernel, by decide +kernel⟩
abbrev s_Cgroups : Stmt := inClass (topS 46) 1
abbrev N_Cgroups : List Str := ["self", "tree", "word", "begin", "other"]
theorem sc_Cgroups : FnScope N_Cgroups ["self", "tree", "word"] (defScope s_Cgroups) := ⟨rfl, rfl, rfl, by decide +kernel, rfl, by decide +kernel, by decide +kernel⟩
abbrev s_Csingle_deeds : Stmt := inClass (topS 46) 2
abbrev N_Csingle_deeds : List Str := ["self", "tree", "words", "word", "group"]
theorem sc_Csingle_deeds : FnScope N_Csingle_deeds ["self", "tree", "words"] (defScope s_Csingle_deeds) := ⟨rfl, rfl, rfl, by decide +kernel, rfl, by decide +kernel, by decide +kernel⟩
abbrev s_take_course : Stmt := topS 47
abbrev N_take_course : List Str := ["book", "group"]
theorem sc_take_course : FnScope N_take_course ["book", "group"] (defScope s_take_course) := ⟨rfl, rfl, rfl, by decide +kernel, rfl, by decide +kernel, by decide +kernel⟩
abbrev s_give_course : Stmt := topS 48
abbrev N_give_course : List Str := ["book", "old"]
theorem sc_give_course : FnScope N_give_course ["book", "old"] (defScope s_give_course) := ⟨rfl, rfl, rfl, by decide +kernel, rfl, by decide +kernel, by decide +kernel⟩
abbrev s_move_course : Stmt := topS 49
abbrev N_move_course : List Str := ["book", "group", "old"]
theorem sc_move_course : FnScope N_move_course ["book", "group", "old"] (defScope s_move_course) := ⟨rfl, rfl, rfl, by decide +kernel, rfl, by decide +kernel, by decide +kernel⟩
abbrev s_lift_course : Stmt := topS 50
abbrev N_lift_course : List Str := ["book", "group"]
theorem sc_lift_course : FnScope N_lift_course ["book", "group"] (defScope s_lift_course) := ⟨rfl, rfl, rfl, by decide +kernel, rfl, by decide +kernel, by decide +kernel⟩
abbrev s_settle_course : Stmt := topS 51
abbrev N_settle_course : List Str := ["group"]
theorem sc_settle_course : FnScope N_settle_course ["group"] (defScope s_settle_course) := ⟨rfl, rfl, rfl, by decide +kernel, rfl, by decide +kernel, by decide +kernel⟩
abbrev s_plan : Stmt := topS 59
abbrev N_plan : List Str := ["course", "tree"]
theorem sc_plan : FnScope N_plan ["course", "tree"] (defScope s_plan) := ⟨rfl, rfl, rfl, by decide +kernel, rfl, by decide +kernel, by decide +kernel⟩
abbrev s_take_plan : Stmt := topS 60
abbrev N_take_plan : List Str := ["book", "tree", "group"]
theorem sc_take_plan : FnScope N_take_plan ["book", "tree", "group"] (defScope s_take_plan) := ⟨rfl, rfl, rfl, by decide +kernel, rfl, by decide +kernel, by decide +kernel⟩
abbrev s_give_plan : Stmt := topS 61
abbrev N_give_plan : List Str := ["book", "tree", "home"]
theorem sc_give_plan : FnScope N_give_plan ["book", "tree", "home"] (defScope s_give_plan) := ⟨rfl, rfl, rfl, by decide +kernel, rfl, by decide +kernel, by decide +kernel⟩
abbrev s_move_plan : Stmt := topS 62
abbrev N_move_plan : List Str := ["book", "tree", "home", "target"]
theorem sc_move_plan : FnScope N_move_plan ["book", "tree", "home", "target"] (defScope s_move_plan) := ⟨rfl, rfl, rfl, by decide +kernel, rfl, by decide +kernel, by decide +kernel⟩
abbrev s_lift_plan : Stmt := topS 63
abbrev N_lift_plan : List Str := ["book", "tree", "home"]
theorem sc_lift_plan : FnScope N_lift_plan ["book", "tree", "home"] (defScope s_lift_plan) := ⟨rfl, rfl, rfl, by decide +kernel, rfl, by decide +kernel, by decide +kernel⟩
abbrev s_settle_plan : Stmt := topS 64
abbrev N_settle_plan : List Str := ["tree", "group"]
theorem sc_settle_plan : FnScope N_settle_plan ["tree", "group"] (defScope s_settle_plan) := ⟨rfl, rfl, rfl, by decide +kernel, rfl, by decide +kernel, by decide +kernel⟩
abbrev s_Lpot : Stmt := topS 66
abbrev N_Lpot : List Str := ["_law_script", "_law_k", "_law_cell"]
theorem sc_Lpot : FnScope N_Lpot ["_law_script", "_law_k"] (defScope s_Lpot) := ⟨rfl, rfl, rfl, by decide +kernel, rfl, by decide +kernel, by decide +kernel⟩
abbrev s_Ldraw : Stmt := topS 67
abbrev N_Ldraw : List Str := ["_law_pot_here", "_law_sides", "_law_digit"]
theorem sc_Ldraw : FnScope N_Ldraw ["_law_pot_here", "_law_sides"] (defScope s_Ldraw) := ⟨rfl, rfl, rfl, by decide +kernel, rfl, by decide +kernel, by decide +kernel⟩
abbrev s_Lpick : Stmt := topS 68
abbrev N_Lpick : List Str := ["_law_pot_here", "_law_some"]
theorem sc_Lpick : FnScope N_Lpick ["_law_pot_here", "_law_some"] (defScope s_Lpick) := ⟨rfl, rfl, rfl, by decide +kernel, rfl, by decide +kernel, by decide +kernel⟩
abbrev s_Lsequences : Stmt := topS 69
abbrev N_Lsequences : List Str := ["_law_words", "_law_found", "_law_longer", "_law_turn", "_law_later", "_law_some", "_law_word"]
theorem sc_Lsequences : FnScope N_Lsequences ["_law_words"] (defScope s_Lsequences) := ⟨rfl, rfl, rfl, by decide +kernel, rfl, by decide +kernel, by decide +kernel⟩
abbrev s_Lis_ahead : Stmt := topS 70
abbrev N_Lis_ahead : List Str := ["_law_some", "_law_word", "_law_later"]
theorem sc_Lis_ahead : FnScope N_Lis_ahead ["_law_some", "_law_word", "_law_later"] (defScope s_Lis_ahead) := ⟨rfl, rfl, rfl, by decide +kernel, rfl, by decide +kernel, by decide +kernel⟩
abbrev s_Lis_take : Stmt := topS 71
abbrev N_Lis_take : List Str := ["_law_some", "_law_amount"]
theorem sc_Lis_take : FnScope N_Lis_take ["_law_some", "_law_amount"] (defScope s_Lis_take) := ⟨rfl, rfl, rfl, by decide +kernel, rfl, by decide +kernel, by decide +kernel⟩
abbrev s_Lis_give : Stmt := topS 72
abbrev N_Lis_give : List Str := ["_law_some"]
theorem sc_Lis_give : FnScope N_Lis_give ["_law_some"] (defScope s_Lis_give) := ⟨rfl, rfl, rfl, by decide +kernel, rfl, by decide +kernel, by decide +kernel⟩
abbrev s_Lis_move : Stmt := topS 73
abbrev N_Lis_move : List Str := ["_law_some", "_law_is_shared", "_law_word"]
theorem sc_Lis_move : FnScope N_Lis_move ["_law_some", "_law_is_shared"] (defScope s_Lis_move) := ⟨rfl, rfl, rfl, by decide +kernel, rfl, by decide +kernel, by decide +kernel⟩
abbrev s_Ltakes : Stmt := topS 74
abbrev N_Ltakes : List Str := ["_law_amount", "_law_some"]
theorem sc_Ltakes : FnScope N_Ltakes ["_law_amount"] (defScope s_Ltakes) := ⟨rfl, rfl, rfl, by decide +kernel, rfl, by decide +kernel, by decide +kernel⟩
abbrev s_Lgives : Stmt := topS 75
abbrev N_Lgives : List Str := ["_law_some"]
theorem sc_Lgives : FnScope N_Lgives [] (defScope s_Lgives) := ⟨rfl, rfl, rfl, by decide +kernel, rfl, by decide +kernel, by decide +kernel⟩
abbrev s_Lmoves : Stmt := topS 76
abbrev N_Lmoves : List Str := ["_law_is_shared", "_law_words", "_law_some"]
theorem sc_Lmoves : FnScope N_Lmoves ["_law_is_shared"] (defScope s_Lmoves) := ⟨rfl, rfl, rfl, by decide +kernel, rfl, by decide +kernel, by decide +kernel⟩
abbrev s_Llifts : Stmt := topS 77
abbrev N_Llifts : List Str := []
theorem sc_Llifts : FnScope N_Llifts [] (defScope s_Llifts) := ⟨rfl, rfl, rfl, by decide +kernel, rfl, by decide +kernel, by decide +kernel⟩
abbrev s_Lany : Stmt := topS 78
abbrev N_Lany : List Str := ["_law_pot_here", "_law_found", "_law_sort"]
theorem sc_Lany : FnScope N_Lany ["_law_pot_here"] (defScope s_Lany) := ⟨rfl, rfl, rfl, by decide +kernel, rfl, by decide +kernel, by decide +kernel⟩
abbrev s_Lbook : Stmt := topS 79
abbrev N_Lbook : List Str := ["_law_rules"]
theorem sc_Lbook : FnScope N_Lbook ["_law_rules"] (defScope s_Lbook) := ⟨rfl, rfl, rfl, by decide +kernel, rfl, by decide +kernel, by decide +kernel⟩
abbrev s_Lwords_shown : Stmt := topS 80
abbrev N_Lwords_shown : List Str := ["_law_some", "_law_quoted", "_law_word"]
theorem sc_Lwords_shown : FnScope N_Lwords_shown ["_law_some"] (defScope s_Lwords_shown) := ⟨rfl, rfl, rfl, by decide +kernel, rfl, by decide +kernel, by decide +kernel⟩
abbrev s_Lshown : Stmt := topS 81
abbrev N_Lshown : List Str := ["_law_rules", "_law_rows", "_law_sort"]
theorem sc_Lshown : FnScope N_Lshown ["_law_rules"] (defScope s_Lshown) := ⟨rfl, rfl, rfl, by decide +kernel, rfl, by decide +kernel, by decide +kernel⟩
abbrev s_Lplain : Stmt := topS 82
abbrev N_Lplain : List Str := ["_law_found"]
theorem sc_Lplain : FnScope N_Lplain [] (defScope s_Lplain) := ⟨rfl, rfl, rfl, by decide +kernel, rfl, by decide +kernel, by decide +kernel⟩
abbrev s_Lis_refused : Stmt := topS 83
abbrev N_Lis_refused : List Str := ["_law_call"]
theorem sc_Lis_refused : FnScope N_Lis_refused ["_law_call"] (defScope s_Lis_refused) := ⟨rfl, rfl, rfl, by decide +kernel, rfl, by decide +kernel, by decide +kernel⟩
abbrev s_Lasked : Stmt := topS 84
abbrev N_Lasked : List Str := ["_law_made", "_law_tree", "_law_told", "_law_refused"]
theorem sc_Lasked : FnScope N_Lasked ["_law_made"] (defScope s_Lasked) := ⟨rfl, rfl, rfl, by decide +kernel, rfl, by decide +kernel, by decide +kernel⟩
abbrev s_Lright : Stmt := topS 85
abbrev N_Lright : List Str := ["_law_pot_here", "_law_pairs", "_law_plain_here", "_law_turn", "_law_rules", "_law_made", "_law_shown_here", "_law_told"]
theorem sc_Lright : FnScope N_Lright ["_law_pot_here"] (defScope s_Lright) := ⟨rfl, rfl, rfl, by decide +kernel, rfl, by decide +kernel, by decide +kernel⟩
abbrev s_law : Stmt := topS 86
abbrev N_law : List Str := ["_law_script", "_law_k"]
theorem sc_law : FnScope N_law ["_law_script"] (defScope s_law) := ⟨rfl, rfl, rfl, by decide +kernel, rfl, by decide +kernel, by decide +kernel⟩
def kbA {α : Type} (us ws : List α) : List α := us ++ ws
abbrev s_E_InvalidRow : Stmt := inClass (topS 12) 0
theorem sh_InvalidRow : ∃ p1 p2 p3 q1 q2 q3 q4 r1 r2 r3 r4, defArgs s_E_InvalidRow = GX.inikvA p1 p2 p3 ∧ defBody s_E_InvalidRow = GX.inikvB q1 q2 q3 q4 r1 r2 r3 r4 ∧ defScope s_E_InvalidRow = GX.inikvS := ⟨_, _, _, _, _, _, _, _, _, _, _, rfl, rfl, rfl⟩
abbrev s_E_InvalidHolds : Stmt := inClass (topS 14) 0
theorem sh_InvalidHolds : ∃ p1 p2 q1 q2 q3 q4, defArgs s_E_InvalidHolds = GX.inivalueA p1 p2 ∧ defBody s_E_InvalidHolds = GX.inivalueB q1 q2 q3 q4 ∧ defScope s_E_InvalidHolds = GX.inivalueS := ⟨_, _, _, _, _, _, rfl, rfl, rfl⟩
abbrev bm_ValueError : List Value := [.type "ValueError", .type "Exception", .type "BaseException", .type "object"]
theorem kwc_Binit {x qual : Str} {D : Addr} {doc pm : Value} {an : Option Addr} {cdv ct : Value} {us ks : List Value} (l1 : us.length = 1) (l2 : ks.length = 9) :
    KwChain D ((["take", "give", "move", "lift", "fails", "shared", "holds", "batch", "settles"] : List Str).zip ks) (bindArgs (PySem.W.fnOf x qual (defArgs s_Binit) (defBody s_Binit) (defScope s_Binit) .none (.ref D) doc pm an cdv ct) ⟨us, []⟩) ((["self", "take", "give", "move", "lift", "fails", "shared", "holds", "batch", "settles"] : List Str).zip (us ++ ks)) := by
  match us, l1, ks, l2 with
  | [u], _, [a0, a1, a2, a3, a4, a5, a6, a7, a8], _ =>
    refine ⟨_, _, _, _, _, _, rfl, rfl, ?_⟩
    refine ⟨_, _, _, _, _, _, rfl, rfl, ?_⟩
    refine ⟨_, _, _, _, _, _, rfl, rfl, ?_⟩
    refine ⟨_, _, _, _, _, _, rfl, rfl, ?_⟩
    refine ⟨_, _, _, _, _, _, rfl, rfl, ?_⟩
    refine ⟨_, _, _, _, _, _, rfl, rfl, ?_⟩
    refine ⟨_, _, _, _, _, _, rfl, rfl, ?_⟩
    refine ⟨_, _, _, _, _, _, rfl, rfl, ?_⟩
    refine ⟨_, _, _, _, _, _, rfl, rfl, ?_⟩
    rfl
set_option genInjectivity false in
set_option genSizeOf false in
structure Txt (K : PySem.W.Frag) (mg : Str → Option Value) (w : World) where
  C : Addr
  c_Book : Cls K C
  m_Book : mg "Book" = some (.ref C)
  n_parts : NoAttr K C "_parts"
  x_class : PySem.W.findIn K (.ref C) "__class__" = some (some (.builtin "object.__class__"))
  x_get : PySem.W.specialIn K (.builtin "object.__class__") "__get__" = some (some (.builtin "getset_descriptor.__get__"))
  x_tk : PySem.W.takesIn K (.builtin "object.__class__") = some true
  x_mro : PySem.W.mroIn K C (.type "object") = some true
  x_ne : PySem.W.findIn K (.ref C) "__ne__" = some (some (.builtin "object.__ne__"))
  x_cls : PySem.W.isClsIn K C = true
  x_ty : PySem.W.typeIn K (.ref C) = some (.type "type")
  C_Tree : Addr
  c_Tree : Cls K C_Tree
  m_Tree : mg "Tree" = some (.ref C_Tree)
  n_above : NoAttr K C_Tree "_above"
  n_struck : NoAttr K C_Tree "_struck"
  x_class_Tree : PySem.W.findIn K (.ref C_Tree) "__class__" = some (some (.builtin "object.__class__"))
  x_get_Tree : PySem.W.specialIn K (.builtin "object.__class__") "__get__" = some (some (.builtin "getset_descriptor.__get__"))
  x_tk_Tree : PySem.W.takesIn K (.builtin "object.__class__") = some true
  x_mro_Tree : PySem.W.mroIn K C_Tree (.type "object") = some true
  x_ne_Tree : PySem.W.findIn K (.ref C_Tree) "__ne__" = some (some (.builtin "object.__ne__"))
  x_cls_Tree : PySem.W.isClsIn K C_Tree = true
  x_ty_Tree : PySem.W.typeIn K (.ref C_Tree) = some (.type "type")
  C_Course : Addr
  c_Course : Cls K C_Course
  m_Course : mg "Course" = some (.ref C_Course)
  nkind : NoAttr K C_Course "kind"
  nwords : NoAttr K C_Course "words"
  ngroup : NoAttr K C_Course "group"
  nold : NoAttr K C_Course "old"
  nleaves_out : NoAttr K C_Course "leaves_out"
  f_is_an_integer : Addr
  fd_is_an_integer : FuncData
  F_is_an_integer : L2.Fun K "is_an_integer" "is_an_integer" s_is_an_integer f_is_an_integer fd_is_an_integer
  b_is_an_integer : Binds K fd_is_an_integer ["value"] []
  m_is_an_integer : mg "is_an_integer" = some (.ref f_is_an_integer)
  f_is_list : Addr
  fd_is_list : FuncData
  F_is_list : L2.Fun K "is_list" "is_list" s_is_list f_is_list fd_is_list
  b_is_list : Binds K fd_is_list ["value"] []
  m_is_list : mg "is_list" = some (.ref f_is_list)
  f_check_group : Addr
  fd_check_group : FuncData
  F_check_group : L2.Fun K "check_group" "check_group" s_check_group f_check_group fd_check_group
  b_check_group : Binds K fd_check_group ["tree", "value"] []
  m_check_group : mg "check_group" = some (.ref f_check_group)
  f_check_parents : Addr
  fd_check_parents : FuncData
  F_check_parents : L2.Fun K "check_parents" "check_parents" s_check_parents f_check_parents fd_check_parents
  b_check_parents : Binds K fd_check_parents ["parents"] []
  m_check_parents : mg "check_parents" = some (.ref f_check_parents)
  f_check_struck : Addr
  fd_check_struck : FuncData
  F_check_struck : L2.Fun K "check_struck" "check_struck" s_check_struck f_check_struck fd_check_struck
  b_check_struck : Binds K fd_check_struck ["parents", "struck"] []
  m_check_struck : mg "check_struck" = some (.ref f_check_struck)
  f_Tinit : Addr
  fd_Tinit : FuncData
  d0_Tinit : Addr
  d1_Tinit : Addr
  e0_Tinit : ∀ H, SqT K H d0_Tinit []
  y0_Tinit : ∀ H, TyX K H (.ref d0_Tinit) (.type "tuple")
  e1_Tinit : ∀ H, SqT K H d1_Tinit []
  y1_Tinit : ∀ H, TyX K H (.ref d1_Tinit) (.type "tuple")
  F_Tinit : L2.FunD K "__init__" "Tree.__init__" (defArgs s_Tinit) (defBody s_Tinit) (defScope s_Tinit) [.ref d0_Tinit, .ref d1_Tinit] [] f_Tinit fd_Tinit
  w0_Tinit : List Value
  v0_Tinit : Vals [.ref d0_Tinit, .ref d1_Tinit] w0_Tinit
  b0_Tinit : Binds K fd_Tinit ["self", "parents", "struck"] w0_Tinit
  w1_Tinit : List Value
  v1_Tinit : Vals [.ref d1_Tinit] w1_Tinit
  b1_Tinit : Binds K fd_Tinit ["self", "parents", "struck"] w1_Tinit
  w2_Tinit : List Value
  v2_Tinit : Vals [] w2_Tinit
  b2_Tinit : Binds K fd_Tinit ["self", "parents", "struck"] w2_Tinit
  mk_Tree : Mk K C_Tree f_Tinit
  f_Tlen : Addr
  fd_Tlen : FuncData
  F_Tlen : L2.Fun K "__len__" "Tree.__len__" s_Tlen f_Tlen fd_Tlen
  b_Tlen : Binds K fd_Tlen ["self"] []
  M_Tlen : Meth K C_Tree "__len__" f_Tlen
  f_Tway : Addr
  fd_Tway : FuncData
  F_Tway : L2.Fun K "way" "Tree.way" s_Tway f_Tway fd_Tway
  b_Tway : Binds K fd_Tway ["self", "group"] []
  M_Tway : Meth K C_Tree "way" f_Tway
  f_Tapart : Addr
  fd_Tapart : FuncData
  F_Tapart : L2.Fun K "apart" "Tree.apart" s_Tapart f_Tapart fd_Tapart
  b_Tapart : Binds K fd_Tapart ["self", "group", "seen"] []
  M_Tapart : Meth K C_Tree "apart" f_Tapart
  f_is_word : Addr
  fd_is_word : FuncData
  F_is_word : L2.Fun K "is_word" "is_word" s_is_word f_is_word fd_is_word
  b_is_word : Binds K fd_is_word ["value", "words"] []
  m_is_word : mg "is_word" = some (.ref f_is_word)
  f_are_different_words : Addr
  fd_are_different_words : FuncData
  F_are_different_words : L2.Fun K "are_different_words" "are_different_words" s_are_different_words f_are_different_words fd_are_different_words
  b_are_different_words : Binds K fd_are_different_words ["values", "words"] []
  m_are_different_words : mg "are_different_words" = some (.ref f_are_different_words)
  f_has_words_of : Addr
  fd_has_words_of : FuncData
  F_has_words_of : L2.Fun K "has_words_of" "has_words_of" s_has_words_of f_has_words_of fd_has_words_of
  b_has_words_of : Binds K fd_has_words_of ["value", "words"] []
  m_has_words_of : mg "has_words_of" = some (.ref f_has_words_of)
  f_tests_are_ahead : Addr
  fd_tests_are_ahead : FuncData
  F_tests_are_ahead : L2.Fun K "tests_are_ahead" "tests_are_ahead" s_tests_are_ahead f_tests_are_ahead fd_tests_are_ahead
  b_tests_are_ahead : Binds K fd_tests_are_ahead ["row", "word"] []
  m_tests_are_ahead : mg "tests_are_ahead" = some (.ref f_tests_are_ahead)
  f_off_has_home : Addr
  fd_off_has_home : FuncData
  F_off_has_home : L2.Fun K "off_has_home" "off_has_home" s_off_has_home f_off_has_home fd_off_has_home
  b_off_has_home : Binds K fd_off_has_home ["row"] []
  m_off_has_home : mg "off_has_home" = some (.ref f_off_has_home)
  f_is_take_row : Addr
  fd_is_take_row : FuncData
  F_is_take_row : L2.Fun K "is_take_row" "is_take_row" s_is_take_row f_is_take_row fd_is_take_row
  b_is_take_row : Binds K fd_is_take_row ["value"] []
  m_is_take_row : mg "is_take_row" = some (.ref f_is_take_row)
  f_is_give_row : Addr
  fd_is_give_row : FuncData
  F_is_give_row : L2.Fun K "is_give_row" "is_give_row" s_is_give_row f_is_give_row fd_is_give_row
  b_is_give_row : Binds K fd_is_give_row ["value"] []
  m_is_give_row : mg "is_give_row" = some (.ref f_is_give_row)
  f_is_move_row : Addr
  fd_is_move_row : FuncData
  F_is_move_row : L2.Fun K "is_move_row" "is_move_row" s_is_move_row f_is_move_row fd_is_move_row
  b_is_move_row : Binds K fd_is_move_row ["value"] []
  m_is_move_row : mg "is_move_row" = some (.ref f_is_move_row)
  f_is_lift_row : Addr
  fd_is_lift_row : FuncData
  F_is_lift_row : L2.Fun K "is_lift_row" "is_lift_row" s_is_lift_row f_is_lift_row fd_is_lift_row
  b_is_lift_row : Binds K fd_is_lift_row ["value"] []
  m_is_lift_row : mg "is_lift_row" = some (.ref f_is_lift_row)
  f_is_row : Addr
  fd_is_row : FuncData
  F_is_row : L2.Fun K "is_row" "is_row" s_is_row f_is_row fd_is_row
  b_is_row : Binds K fd_is_row ["kind", "value"] []
  m_is_row : mg "is_row" = some (.ref f_is_row)
  f_fits_batch : Addr
  fd_fits_batch : FuncData
  F_fits_batch : L2.Fun K "fits_batch" "fits_batch" s_fits_batch f_fits_batch fd_fits_batch
  b_fits_batch : Binds K fd_fits_batch ["row", "batch"] []
  m_fits_batch : mg "fits_batch" = some (.ref f_fits_batch)
  f_fits_shared : Addr
  fd_fits_shared : FuncData
  F_fits_shared : L2.Fun K "fits_shared" "fits_shared" s_fits_shared f_fits_shared fd_fits_shared
  b_fits_shared : Binds K fd_fits_shared ["row", "shared"] []
  m_fits_shared : mg "fits_shared" = some (.ref f_fits_shared)
  f_check_rows : Addr
  fd_check_rows : FuncData
  F_check_rows : L2.Fun K "check_rows" "check_rows" s_check_rows f_check_rows fd_check_rows
  b_check_rows : Binds K fd_check_rows ["rows"] []
  m_check_rows : mg "check_rows" = some (.ref f_check_rows)
  f_check_fails : Addr
  fd_check_fails : FuncData
  F_check_fails : L2.Fun K "check_fails" "check_fails" s_check_fails f_check_fails fd_check_fails
  b_check_fails : Binds K fd_check_fails ["value"] []
  m_check_fails : mg "check_fails" = some (.ref f_check_fails)
  f_check_bool : Addr
  fd_check_bool : FuncData
  F_check_bool : L2.Fun K "check_bool" "check_bool" s_check_bool f_check_bool fd_check_bool
  b_check_bool : Binds K fd_check_bool ["name", "value"] []
  m_check_bool : mg "check_bool" = some (.ref f_check_bool)
  f_check_holds : Addr
  fd_check_holds : FuncData
  F_check_holds : L2.Fun K "check_holds" "check_holds" s_check_holds f_check_holds fd_check_holds
  b_check_holds : Binds K fd_check_holds ["value"] []
  m_check_holds : mg "check_holds" = some (.ref f_check_holds)
  f_check_batch : Addr
  fd_check_batch : FuncData
  F_check_batch : L2.Fun K "check_batch" "check_batch" s_check_batch f_check_batch fd_check_batch
  b_check_batch : Binds K fd_check_batch ["value"] []
  m_check_batch : mg "check_batch" = some (.ref f_check_batch)
  f_check_row_kind : Addr
  fd_check_row_kind : FuncData
  F_check_row_kind : L2.Fun K "check_row_kind" "check_row_kind" s_check_row_kind f_check_row_kind fd_check_row_kind
  b_check_row_kind : Binds K fd_check_row_kind ["value"] []
  m_check_row_kind : mg "check_row_kind" = some (.ref f_check_row_kind)
  f_Binit : Addr
  fd_Binit : FuncData
  F_Binit : L2.Fun K "__init__" "Book.__init__" s_Binit f_Binit fd_Binit
  kd_take : Addr
  ks_take : ∀ H, SqT K H kd_take [.str "try", .str "live"]
  ky_take : ∀ H, TyX K H (.ref kd_take) (.type "tuple")
  kt_take : ∃ o, K.lookup kd_take = some o ∧ Bare o
  kd_give : Addr
  ks_give : ∀ H, SqT K H kd_give [.str "home", .str "off", .str "end"]
  ky_give : ∀ H, TyX K H (.ref kd_give) (.type "tuple")
  kt_give : ∃ o, K.lookup kd_give = some o ∧ Bare o
  kd_move : Addr
  ks_move : ∀ H, SqT K H kd_move [.str "home", .str "try", .str "set", .str "off"]
  ky_move : ∀ H, TyX K H (.ref kd_move) (.type "tuple")
  kt_move : ∃ o, K.lookup kd_move = some o ∧ Bare o
  kd_lift : Addr
  ks_lift : ∀ H, SqT K H kd_lift [.str "both"]
  ky_lift : ∀ H, TyX K H (.ref kd_lift) (.type "tuple")
  kt_lift : ∃ o, K.lookup kd_lift = some o ∧ Bare o
  kd_holds : Addr
  ks_holds : ∀ H, SqT K H kd_holds [.str "take", .str "give", .str "move", .str "lift"]
  ky_holds : ∀ H, TyX K H (.ref kd_holds) (.type "tuple")
  kt_holds : ∃ o, K.lookup kd_holds = some o ∧ Bare o
  w0_Binit : List Value
  v0_Binit : Vals [.ref kd_take, .ref kd_give, .ref kd_move, .ref kd_lift, .str "undo", .bl true, .ref kd_holds, .int 1, .bl true] w0_Binit
  b0_Binit : Binds K fd_Binit ["self", "take", "give", "move", "lift", "fails", "shared", "holds", "batch", "settles"] w0_Binit
  mk_Book : Mk K C f_Binit
  k_Binit : KBn K fd_Binit ["self", "take", "give", "move", "lift", "fails", "shared", "holds", "batch", "settles"] 1 ["take", "give", "move", "lift", "fails", "shared", "holds", "batch", "settles"] kbA kbA
  f_Brepr : Addr
  fd_Brepr : FuncData
  F_Brepr : L2.Fun K "__repr__" "Book.__repr__" s_Brepr f_Brepr fd_Brepr
  b_Brepr : Binds K fd_Brepr ["self"] []
  M_Brepr : Meth K C "__repr__" f_Brepr
  f_Bfails : Addr
  fd_Bfails : FuncData
  F_Bfails : L2.Fun K "fails" "Book.fails" s_Bfails f_Bfails fd_Bfails
  b_Bfails : Binds K fd_Bfails ["self"] []
  p_Bfails : Addr
  P_Bfails : PropOf K C "fails" p_Bfails f_Bfails
  f_Bshared : Addr
  fd_Bshared : FuncData
  F_Bshared : L2.Fun K "shared" "Book.shared" s_Bshared f_Bshared fd_Bshared
  b_Bshared : Binds K fd_Bshared ["self"] []
  p_Bshared : Addr
  P_Bshared : PropOf K C "shared" p_Bshared f_Bshared
  f_Bholds : Addr
  fd_Bholds : FuncData
  F_Bholds : L2.Fun K "holds" "Book.holds" s_Bholds f_Bholds fd_Bholds
  b_Bholds : Binds K fd_Bholds ["self"] []
  p_Bholds : Addr
  P_Bholds : PropOf K C "holds" p_Bholds f_Bholds
  f_Bbatch : Addr
  fd_Bbatch : FuncData
  F_Bbatch : L2.Fun K "batch" "Book.batch" s_Bbatch f_Bbatch fd_Bbatch
  b_Bbatch : Binds K fd_Bbatch ["self"] []
  p_Bbatch : Addr
  P_Bbatch : PropOf K C "batch" p_Bbatch f_Bbatch
  f_Bsettles : Addr
  fd_Bsettles : FuncData
  F_Bsettles : L2.Fun K "settles" "Book.settles" s_Bsettles f_Bsettles fd_Bsettles
  b_Bsettles : Binds K fd_Bsettles ["self"] []
  p_Bsettles : Addr
  P_Bsettles : PropOf K C "settles" p_Bsettles f_Bsettles
  f_Brow : Addr
  fd_Brow : FuncData
  F_Brow : L2.Fun K "row" "Book.row" s_Brow f_Brow fd_Brow
  b_Brow : Binds K fd_Brow ["self", "kind"] []
  M_Brow : Meth K C "row" f_Brow
  f_Bwith_row : Addr
  fd_Bwith_row : FuncData
  F_Bwith_row : L2.Fun K "with_row" "Book.with_row" s_Bwith_row f_Bwith_row fd_Bwith_row
  b_Bwith_row : Binds K fd_Bwith_row ["self", "kind", "row"] []
  M_Bwith_row : Meth K C "with_row" f_Bwith_row
  f_Bwith_holds : Addr
  fd_Bwith_holds : FuncData
  F_Bwith_holds : L2.Fun K "with_holds" "Book.with_holds" s_Bwith_holds f_Bwith_holds fd_Bwith_holds
  b_Bwith_holds : Binds K fd_Bwith_holds ["self", "holds"] []
  M_Bwith_holds : Meth K C "with_holds" f_Bwith_holds
  f_Cinit : Addr
  fd_Cinit : FuncData
  F_Cinit : L2.FunD K "__init__" "Course.__init__" (defArgs s_Cinit) (defBody s_Cinit) (defScope s_Cinit) [.non, .non, .bl false] [] f_Cinit fd_Cinit
  w0_Cinit : List Value
  v0_Cinit : Vals [.non, .non, .bl false] w0_Cinit
  b0_Cinit : Binds K fd_Cinit ["self", "kind", "words", "group", "old", "leaves_out"] w0_Cinit
  w1_Cinit : List Value
  v1_Cinit : Vals [.non, .bl false] w1_Cinit
  b1_Cinit : Binds K fd_Cinit ["self", "kind", "words", "group", "old", "leaves_out"] w1_Cinit
  w2_Cinit : List Value
  v2_Cinit : Vals [.bl false] w2_Cinit
  b2_Cinit : Binds K fd_Cinit ["self", "kind", "words", "group", "old", "leaves_out"] w2_Cinit
  w3_Cinit : List Value
  v3_Cinit : Vals [] w3_Cinit
  b3_Cinit : Binds K fd_Cinit ["self", "kind", "words", "group", "old", "leaves_out"] w3_Cinit
  mk_Course : Mk K C_Course f_Cinit
  f_Cgroups : Addr
  fd_Cgroups : FuncData
  F_Cgroups : L2.Fun K "groups" "Course.groups" s_Cgroups f_Cgroups fd_Cgroups
  b_Cgroups : Binds K fd_Cgroups ["self", "tree", "word"] []
  M_Cgroups : Meth K C_Course "groups" f_Cgroups
  f_Csingle_deeds : Addr
  fd_Csingle_deeds : FuncData
  F_Csingle_deeds : L2.Fun K "single_deeds" "Course.single_deeds" s_Csingle_deeds f_Csingle_deeds fd_Csingle_deeds
  b_Csingle_deeds : Binds K fd_Csingle_deeds ["self", "tree", "words"] []
  M_Csingle_deeds : Meth K C_Course "single_deeds" f_Csingle_deeds
  f_take_course : Addr
  fd_take_course : FuncData
  F_take_course : L2.Fun K "take_course" "take_course" s_take_course f_take_course fd_take_course
  b_take_course : Binds K fd_take_course ["book", "group"] []
  m_take_course : mg "take_course" = some (.ref f_take_course)
  f_give_course : Addr
  fd_give_course : FuncData
  F_give_course : L2.FunD K "give_course" "give_course" (defArgs s_give_course) (defBody s_give_course) (defScope s_give_course) [.non] [] f_give_course fd_give_course
  w0_give_course : List Value
  v0_give_course : Vals [.non] w0_give_course
  b0_give_course : Binds K fd_give_course ["book", "old"] w0_give_course
  w1_give_course : List Value
  v1_give_course : Vals [] w1_give_course
  b1_give_course : Binds K fd_give_course ["book", "old"] w1_give_course
  m_give_course : mg "give_course" = some (.ref f_give_course)
  f_move_course : Addr
  fd_move_course : FuncData
  F_move_course : L2.FunD K "move_course" "move_course" (defArgs s_move_course) (defBody s_move_course) (defScope s_move_course) [.non] [] f_move_course fd_move_course
  w0_move_course : List Value
  v0_move_course : Vals [.non] w0_move_course
  b0_move_course : Binds K fd_move_course ["book", "group", "old"] w0_move_course
  w1_move_course : List Value
  v1_move_course : Vals [] w1_move_course
  b1_move_course : Binds K fd_move_course ["book", "group", "old"] w1_move_course
  m_move_course : mg "move_course" = some (.ref f_move_course)
  f_lift_course : Addr
  fd_lift_course : FuncData
  F_lift_course : L2.Fun K "lift_course" "lift_course" s_lift_course f_lift_course fd_lift_course
  b_lift_course : Binds K fd_lift_course ["book", "group"] []
  m_lift_course : mg "lift_course" = some (.ref f_lift_course)
  f_settle_course : Addr
  fd_settle_course : FuncData
  F_settle_course : L2.Fun K "settle_course" "settle_course" s_settle_course f_settle_course fd_settle_course
  b_settle_course : Binds K fd_settle_course ["group"] []
  m_settle_course : mg "settle_course" = some (.ref f_settle_course)
  f_plan : Addr
  fd_plan : FuncData
  F_plan : L2.Fun K "plan" "plan" s_plan f_plan fd_plan
  b_plan : Binds K fd_plan ["course", "tree"] []
  m_plan : mg "plan" = some (.ref f_plan)
  f_take_plan : Addr
  fd_take_plan : FuncData
  F_take_plan : L2.Fun K "take_plan" "take_plan" s_take_plan f_take_plan fd_take_plan
  b_take_plan : Binds K fd_take_plan ["book", "tree", "group"] []
  m_take_plan : mg "take_plan" = some (.ref f_take_plan)
  f_give_plan : Addr
  fd_give_plan : FuncData
  F_give_plan : L2.Fun K "give_plan" "give_plan" s_give_plan f_give_plan fd_give_plan
  b_give_plan : Binds K fd_give_plan ["book", "tree", "home"] []
  m_give_plan : mg "give_plan" = some (.ref f_give_plan)
  f_move_plan : Addr
  fd_move_plan : FuncData
  F_move_plan : L2.Fun K "move_plan" "move_plan" s_move_plan f_move_plan fd_move_plan
  b_move_plan : Binds K fd_move_plan ["book", "tree", "home", "target"] []
  m_move_plan : mg "move_plan" = some (.ref f_move_plan)
  f_lift_plan : Addr
  fd_lift_plan : FuncData
  F_lift_plan : L2.Fun K "lift_plan" "lift_plan" s_lift_plan f_lift_plan fd_lift_plan
  b_lift_plan : Binds K fd_lift_plan ["book", "tree", "home"] []
  m_lift_plan : mg "lift_plan" = some (.ref f_lift_plan)
  f_settle_plan : Addr
  fd_settle_plan : FuncData
  F_settle_plan : L2.Fun K "settle_plan" "settle_plan" s_settle_plan f_settle_plan fd_settle_plan
  b_settle_plan : Binds K fd_settle_plan ["tree", "group"] []
  m_settle_plan : mg "settle_plan" = some (.ref f_settle_plan)
  f_Lpot : Addr
  fd_Lpot : FuncData
  F_Lpot : L2.Fun K "_law_pot" "_law_pot" s_Lpot f_Lpot fd_Lpot
  b_Lpot : Binds K fd_Lpot ["_law_script", "_law_k"] []
  m_Lpot : mg "_law_pot" = some (.ref f_Lpot)
  f_Ldraw : Addr
  fd_Ldraw : FuncData
  F_Ldraw : L2.Fun K "_law_draw" "_law_draw" s_Ldraw f_Ldraw fd_Ldraw
  b_Ldraw : Binds K fd_Ldraw ["_law_pot_here", "_law_sides"] []
  m_Ldraw : mg "_law_draw" = some (.ref f_Ldraw)
  f_Lpick : Addr
  fd_Lpick : FuncData
  F_Lpick : L2.Fun K "_law_pick" "_law_pick" s_Lpick f_Lpick fd_Lpick
  b_Lpick : Binds K fd_Lpick ["_law_pot_here", "_law_some"] []
  m_Lpick : mg "_law_pick" = some (.ref f_Lpick)
  f_Lsequences : Addr
  fd_Lsequences : FuncData
  F_Lsequences : L2.Fun K "_law_sequences" "_law_sequences" s_Lsequences f_Lsequences fd_Lsequences
  b_Lsequences : Binds K fd_Lsequences ["_law_words"] []
  m_Lsequences : mg "_law_sequences" = some (.ref f_Lsequences)
  f_Lis_ahead : Addr
  fd_Lis_ahead : FuncData
  F_Lis_ahead : L2.Fun K "_law_is_ahead" "_law_is_ahead" s_Lis_ahead f_Lis_ahead fd_Lis_ahead
  b_Lis_ahead : Binds K fd_Lis_ahead ["_law_some", "_law_word", "_law_later"] []
  m_Lis_ahead : mg "_law_is_ahead" = some (.ref f_Lis_ahead)
  f_Lis_take : Addr
  fd_Lis_take : FuncData
  F_Lis_take : L2.Fun K "_law_is_take" "_law_is_take" s_Lis_take f_Lis_take fd_Lis_take
  b_Lis_take : Binds K fd_Lis_take ["_law_some", "_law_amount"] []
  m_Lis_take : mg "_law_is_take" = some (.ref f_Lis_take)
  f_Lis_give : Addr
  fd_Lis_give : FuncData
  F_Lis_give : L2.Fun K "_law_is_give" "_law_is_give" s_Lis_give f_Lis_give fd_Lis_give
  b_Lis_give : Binds K fd_Lis_give ["_law_some"] []
  m_Lis_give : mg "_law_is_give" = some (.ref f_Lis_give)
  f_Lis_move : Addr
  fd_Lis_move : FuncData
  F_Lis_move : L2.Fun K "_law_is_move" "_law_is_move" s_Lis_move f_Lis_move fd_Lis_move
  b_Lis_move : Binds K fd_Lis_move ["_law_some", "_law_is_shared"] []
  m_Lis_move : mg "_law_is_move" = some (.ref f_Lis_move)
  f_Ltakes : Addr
  fd_Ltakes : FuncData
  F_Ltakes : L2.Fun K "_law_takes" "_law_takes" s_Ltakes f_Ltakes fd_Ltakes
  b_Ltakes : Binds K fd_Ltakes ["_law_amount"] []
  m_Ltakes : mg "_law_takes" = some (.ref f_Ltakes)
  f_Lgives : Addr
  fd_Lgives : FuncData
  F_Lgives : L2.Fun K "_law_gives" "_law_gives" s_Lgives f_Lgives fd_Lgives
  b_Lgives : Binds K fd_Lgives [] []
  m_Lgives : mg "_law_gives" = some (.ref f_Lgives)
  f_Lmoves : Addr
  fd_Lmoves : FuncData
  F_Lmoves : L2.Fun K "_law_moves" "_law_moves" s_Lmoves f_Lmoves fd_Lmoves
  b_Lmoves : Binds K fd_Lmoves ["_law_is_shared"] []
  m_Lmoves : mg "_law_moves" = some (.ref f_Lmoves)
  f_Llifts : Addr
  fd_Llifts : FuncData
  F_Llifts : L2.Fun K "_law_lifts" "_law_lifts" s_Llifts f_Llifts fd_Llifts
  b_Llifts : Binds K fd_Llifts [] []
  m_Llifts : mg "_law_lifts" = some (.ref f_Llifts)
  f_Lany : Addr
  fd_Lany : FuncData
  F_Lany : L2.Fun K "_law_any" "_law_any" s_Lany f_Lany fd_Lany
  b_Lany : Binds K fd_Lany ["_law_pot_here"] []
  m_Lany : mg "_law_any" = some (.ref f_Lany)
  f_Lbook : Addr
  fd_Lbook : FuncData
  F_Lbook : L2.Fun K "_law_book" "_law_book" s_Lbook f_Lbook fd_Lbook
  b_Lbook : Binds K fd_Lbook ["_law_rules"] []
  m_Lbook : mg "_law_book" = some (.ref f_Lbook)
  f_Lwords_shown : Addr
  fd_Lwords_shown : FuncData
  F_Lwords_shown : L2.Fun K "_law_words_shown" "_law_words_shown" s_Lwords_shown f_Lwords_shown fd_Lwords_shown
  b_Lwords_shown : Binds K fd_Lwords_shown ["_law_some"] []
  m_Lwords_shown : mg "_law_words_shown" = some (.ref f_Lwords_shown)
  f_Lshown : Addr
  fd_Lshown : FuncData
  F_Lshown : L2.Fun K "_law_shown" "_law_shown" s_Lshown f_Lshown fd_Lshown
  b_Lshown : Binds K fd_Lshown ["_law_rules"] []
  m_Lshown : mg "_law_shown" = some (.ref f_Lshown)
  f_Lplain : Addr
  fd_Lplain : FuncData
  F_Lplain : L2.Fun K "_law_plain" "_law_plain" s_Lplain f_Lplain fd_Lplain
  b_Lplain : Binds K fd_Lplain [] []
  m_Lplain : mg "_law_plain" = some (.ref f_Lplain)
  f_Lis_refused : Addr
  fd_Lis_refused : FuncData
  F_Lis_refused : L2.Fun K "_law_is_refused" "_law_is_refused" s_Lis_refused f_Lis_refused fd_Lis_refused
  b_Lis_refused : Binds K fd_Lis_refused ["_law_call"] []
  m_Lis_refused : mg "_law_is_refused" = some (.ref f_Lis_refused)
  f_Lasked : Addr
  fd_Lasked : FuncData
  F_Lasked : L2.Fun K "_law_asked" "_law_asked" s_Lasked f_Lasked fd_Lasked
  b_Lasked : Binds K fd_Lasked ["_law_made"] []
  m_Lasked : mg "_law_asked" = some (.ref f_Lasked)
  f_Lright : Addr
  fd_Lright : FuncData
  F_Lright : L2.Fun K "_law_right" "_law_right" s_Lright f_Lright fd_Lright
  b_Lright : Binds K fd_Lright ["_law_pot_here"] []
  m_Lright : mg "_law_right" = some (.ref f_Lright)
  f_law : Addr
  fd_law : FuncData
  F_law : L2.Fun K "law" "law" s_law f_law fd_law
  b_law : Binds K fd_law ["_law_script"] []
  m_law : mg "law" = some (.ref f_law)
  C_InvalidRow : Addr
  I_InvalidRow : Addr
  X_InvalidRow : GX.Errkv K C_InvalidRow I_InvalidRow bm_ValueError "ValueError.__new__"
  m_InvalidRow : mg "InvalidRow" = some (.ref C_InvalidRow)
  C_InvalidHolds : Addr
  I_InvalidHolds : Addr
  X_InvalidHolds : GX.Errvalue K C_InvalidHolds I_InvalidHolds bm_ValueError "ValueError.__new__"
  m_InvalidHolds : mg "InvalidHolds" = some (.ref C_InvalidHolds)
  c_Lasked : Addr
  p_Lasked : Addr
  FT_Lasked : GL.FunT K "_law_asked" "_law_asked" s_Lasked f_Lasked fd_Lasked c_Lasked
  q_InvalidRow_InvalidRow : PySem.W.exmOne K (.ref C_InvalidRow) (.ref C_InvalidRow) = some true
  q_InvalidHolds_InvalidRow : PySem.W.exmOne K (.ref C_InvalidHolds) (.ref C_InvalidRow) = some false
  q_InvalidHolds_InvalidHolds : PySem.W.exmOne K (.ref C_InvalidHolds) (.ref C_InvalidHolds) = some true
  z_abs : mg "abs" = none
  z_all : mg "all" = none
  z_bool : mg "bool" = none
  z_divmod : mg "divmod" = none
  z_enumerate : mg "enumerate" = none
  z_int : mg "int" = none
  z_isinstance : mg "isinstance" = none
  z_len : mg "len" = none
  z_list : mg "list" = none
  z_max : mg "max" = none
  z_min : mg "min" = none
  z_range : mg "range" = none
  z_repr : mg "repr" = none
  z_set : mg "set" = none
  z_sorted : mg "sorted" = none
  z_str : mg "str" = none
  z_tuple : mg "tuple" = none
  t_MOST_BATCH : Tok
  m_MOST_BATCH : mg "MOST_BATCH" = some (.int 50 t_MOST_BATCH)
  t_MOST_GROUPS : Tok
  m_MOST_GROUPS : mg "MOST_GROUPS" = some (.int 200 t_MOST_GROUPS)
  g_FAILS : Addr
  m_FAILS : mg "FAILS" = some (.ref g_FAILS)
  s_FAILS : ∀ H, SqT K H g_FAILS [.str "undo", .str "leave", .str "wait"]
  g_ROW_KINDS : Addr
  m_ROW_KINDS : mg "ROW_KINDS" = some (.ref g_ROW_KINDS)
  s_ROW_KINDS : ∀ H, SqT K H g_ROW_KINDS [.str "take", .str "give", .str "move", .str "lift"]
  g_WAY_WORDS : Addr
  m_WAY_WORDS : mg "WAY_WORDS" = some (.ref g_WAY_WORDS)
  s_WAY_WORDS : ∀ H, SqT K H g_WAY_WORDS [.str "look", .str "add", .str "try", .str "off"]
  g_LIFT_ROWS : Addr
  m_LIFT_ROWS : mg "LIFT_ROWS" = some (.ref g_LIFT_ROWS)
  g0_LIFT_ROWS : Addr
  s0_LIFT_ROWS : ∀ H, SqT K H g0_LIFT_ROWS []
  g1_LIFT_ROWS : Addr
  s1_LIFT_ROWS : ∀ H, SqT K H g1_LIFT_ROWS [.str "set"]
  g2_LIFT_ROWS : Addr
  s2_LIFT_ROWS : ∀ H, SqT K H g2_LIFT_ROWS [.str "off"]
  g3_LIFT_ROWS : Addr
  s3_LIFT_ROWS : ∀ H, SqT K H g3_LIFT_ROWS [.str "set", .str "off"]
  g4_LIFT_ROWS : Addr
  s4_LIFT_ROWS : ∀ H, SqT K H g4_LIFT_ROWS [.str "off", .str "set"]
  g5_LIFT_ROWS : Addr
  s5_LIFT_ROWS : ∀ H, SqT K H g5_LIFT_ROWS [.str "both"]
  s_LIFT_ROWS : ∀ H, SqT K H g_LIFT_ROWS [.ref g0_LIFT_ROWS, .ref g1_LIFT_ROWS, .ref g2_LIFT_ROWS, .ref g3_LIFT_ROWS, .ref g4_LIFT_ROWS, .ref g5_LIFT_ROWS]
  g_ROW_CHECKS : Addr
  m_ROW_CHECKS : mg "ROW_CHECKS" = some (.ref g_ROW_CHECKS)
  k_ROW_CHECKS_take : KDct K w g_ROW_CHECKS "take" (.ref f_is_take_row)
  k_ROW_CHECKS_give : KDct K w g_ROW_CHECKS "give" (.ref f_is_give_row)
  k_ROW_CHECKS_move : KDct K w g_ROW_CHECKS "move" (.ref f_is_move_row)
  k_ROW_CHECKS_lift : KDct K w g_ROW_CHECKS "lift" (.ref f_is_lift_row)
abbrev q_Lasked : Str := (("_law_asked" : Str) ++ Str.ofString ".<locals>.") ++ "<lambda>"
section
variable {K : PySem.W.Frag} {mg : Str → Option Value} {w : World}
def Txt.tabs (T : Txt K mg w) : List (Addr × Str) := [(T.p_Lasked, q_Lasked)]
theorem Txt.tab_Lasked (T : Txt K mg w) : (T.p_Lasked, q_Lasked) ∈ T.tabs := List.mem_cons_self
theorem Txt.one_Lasked (T : Txt K mg w) : ∀ p ∈ T.tabs, p.1 = T.p_Lasked → p.2 = q_Lasked := by
  intro p hp e
  rw [List.mem_singleton.mp hp]
end
end My
/-! parents, ways, zones -/
namespace Hd
open PySem PySem.Spec PyProof.Rows L2 GL My
def aa_C (K : PySem.W.Frag) : Addr := He.ga K "Book"
def aa_C_Tree (K : PySem.W.Frag) : Addr := He.ga K "Tree"
def aa_C_Course (K : PySem.W.Frag) : Addr := He.ga K "Course"
def aa_f1 (K : PySem.W.Frag) : Addr := He.ga K "is_an_integer"
def aa_f2 (K : PySem.W.Frag) : Addr := He.ga K "is_list"
def aa_f3 (K : PySem.W.Frag) : Addr := He.ga K "check_group"
def aa_f4 (K : PySem.W.Frag) : Addr := He.ga K "check_parents"
def aa_f5 (K : PySem.W.Frag) : Addr := He.ga K "check_struck"
def aa_f6 (K : PySem.W.Frag) : Addr := He.ma K (aa_C_Tree K) "__init__"
def aa_T6 (K : PySem.W.Frag) : Addr := HK.dfA K (aa_f6 K)
def aa_d6_0 (K : PySem.W.Frag) : Addr := HK.itA K (aa_T6 K) 0
def aa_d6_1 (K : PySem.W.Frag) : Addr := HK.itA K (aa_T6 K) 1
def aa_f7 (K : PySem.W.Frag) : Addr := He.ma K (aa_C_Tree K) "__len__"
def aa_f8 (K : PySem.W.Frag) : Addr := He.ma K (aa_C_Tree K) "way"
def aa_f9 (K : PySem.W.Frag) : Addr := He.ma K (aa_C_Tree K) "apart"
def aa_f10 (K : PySem.W.Frag) : Addr := He.ga K "is_word"
def aa_f11 (K : PySem.W.Frag) : Addr := He.ga K "are_different_words"
def aa_f12 (K : PySem.W.Frag) : Addr := He.ga K "has_words_of"
def aa_f13 (K : PySem.W.Frag) : Addr := He.ga K "tests_are_ahead"
def aa_f14 (K : PySem.W.Frag) : Addr := He.ga K "off_has_home"
def aa_f15 (K : PySem.W.Frag) : Addr := He.ga K "is_take_row"
def aa_f16 (K : PySem.W.Frag) : Addr := He.ga K "is_give_row"
def aa_f17 (K : PySem.W.Frag) : Addr := He.ga K "is_move_row"
def aa_f18 (K : PySem.W.Frag) : Addr := He.ga K "is_lift_row"
def aa_f19 (K : PySem.W.Frag) : Addr := He.ga K "is_row"
def aa_f20 (K : PySem.W.Frag) : Addr := He.ga K "fits_batch"
def aa_f21 (K : PySem.W.Frag) : Addr := He.ga K "fits_shared"
def aa_f22 (K : PySem.W.Frag) : Addr := He.ga K "check_rows"
def aa_f23 (K : PySem.W.Frag) : Addr := He.ga K "check_fails"
def aa_f24 (K : PySem.W.Frag) : Addr := He.ga K "check_bool"
def aa_f25 (K : PySem.W.Frag) : Addr := He.ga K "check_holds"
def aa_f26 (K : PySem.W.Frag) : Addr := He.ga K "check_batch"
def aa_f27 (K : PySem.W.Frag) : Addr := He.ga K "check_row_kind"
def aa_f28 (K : PySem.W.Frag) : Addr := He.ma K (aa_C K) "__init__"
def aa_KD28 (K : PySem.W.Frag) : Addr := HK.kdA K (aa_f28 K)
def aa_kd_take (K : PySem.W.Frag) : Addr := HK.nsA K (aa_KD28 K) "take"
def aa_kd_give (K : PySem.W.Frag) : Addr := HK.nsA K (aa_KD28 K) "give"
def aa_kd_move (K : PySem.W.Frag) : Addr := HK.nsA K (aa_KD28 K) "move"
def aa_kd_lift (K : PySem.W.Frag) : Addr := HK.nsA K (aa_KD28 K) "lift"
def aa_kd_holds (K : PySem.W.Frag) : Addr := HK.nsA K (aa_KD28 K) "holds"
def aa_f29 (K : PySem.W.Frag) : Addr := He.ma K (aa_C K) "__repr__"
def aa_pr30 (K : PySem.W.Frag) : Addr := He.ma K (aa_C K) "fails"
def aa_f30 (K : PySem.W.Frag) : Addr := HK.pfA K (aa_pr30 K)
def aa_pr31 (K : PySem.W.Frag) : Addr := He.ma K (aa_C K) "shared"
def aa_f31 (K : PySem.W.Frag) : Addr := HK.pfA K (aa_pr31 K)
def aa_pr32 (K : PySem.W.Frag) : Addr := He.ma K (aa_C K) "holds"
def aa_f32 (K : PySem.W.Frag) : Addr := HK.pfA K (aa_pr32 K)
def aa_pr33 (K : PySem.W.Frag) : Addr := He.ma K (aa_C K) "batch"
def aa_f33 (K : PySem.W.Frag) : Addr := HK.pfA K (aa_pr33 K)
def aa_pr34 (K : PySem.W.Frag) : Addr := He.ma K (aa_C K) "settles"
def aa_f34 (K : PySem.W.Frag) : Addr := HK.pfA K (aa_pr34 K)
def aa_f35 (K : PySem.W.Frag) : Addr := He.ma K (aa_C K) "row"
def aa_f36 (K : PySem.W.Frag) : Addr := He.ma K (aa_C K) "with_row"
def aa_f37 (K : PySem.W.Frag) : Addr := He.ma K (aa_C K) "with_holds"
def aa_f38 (K : PySem.W.Frag) : Addr := He.ma K (aa_C_Course K) "__init__"
def aa_T38 (K : PySem.W.Frag) : Addr := HK.dfA K (aa_f38 K)
def aa_f39 (K : PySem.W.Frag) : Addr := He.ma K (aa_C_Course K) "groups"
def aa_f40 (K : PySem.W.Frag) : Addr := He.ma K (aa_C_Course K) "single_deeds"
def aa_f41 (K : PySem.W.Frag) : Addr := He.ga K "take_course"
def aa_f42 (K : PySem.W.Frag) : Addr := He.ga K "give_course"
def aa_T42 (K : PySem.W.Frag) : Addr := HK.dfA K (aa_f42 K)
def aa_f43 (K : PySem.W.Frag) : Addr := He.ga K "move_course"
def aa_T43 (K : PySem.W.Frag) : Addr := HK.dfA K (aa_f43 K)
def aa_f44 (K : PySem.W.Frag) : Addr := He.ga K "lift_course"
def aa_f45 (K : PySem.W.Frag) : Addr := He.ga K "settle_course"
def aa_f46 (K : PySem.W.Frag) : Addr := He.ga K "plan"
def aa_f47 (K : PySem.W.Frag) : Addr := He.ga K "take_plan"
def aa_f48 (K : PySem.W.Frag) : Addr := He.ga K "give_plan"
def aa_f49 (K : PySem.W.Frag) : Addr := He.ga K "move_plan"
def aa_f50 (K : PySem.W.Frag) : Addr := He.ga K "lift_plan"
def aa_f51 (K : PySem.W.Frag) : Addr := He.ga K "settle_plan"
def aa_f52 (K : PySem.W.Frag) : Addr := He.ga K "_law_pot"
def aa_f53 (K : PySem.W.Frag) : Addr := He.ga K "_law_draw"
def aa_f54 (K : PySem.W.Frag) : Addr := He.ga K "_law_pick"
def aa_f55 (K : PySem.W.Frag) : Addr := He.ga K "_law_sequences"
def aa_f56 (K : PySem.W.Frag) : Addr := He.ga K "_law_is_ahead"
def aa_f57 (K : PySem.W.Frag) : Addr := He.ga K "_law_is_take"
def aa_f58 (K : PySem.W.Frag) : Addr := He.ga K "_law_is_give"
def aa_f59 (K : PySem.W.Frag) : Addr := He.ga K "_law_is_move"
def aa_f60 (K : PySem.W.Frag) : Addr := He.ga K "_law_takes"
def aa_f61 (K : PySem.W.Frag) : Addr := He.ga K "_law_gives"
def aa_f62 (K : PySem.W.Frag) : Addr := He.ga K "_law_moves"
def aa_f63 (K : PySem.W.Frag) : Addr := He.ga K "_law_lifts"
def aa_f64 (K : PySem.W.Frag) : Addr := He.ga K "_law_any"
def aa_f65 (K : PySem.W.Frag) : Addr := He.ga K "_law_book"
def aa_f66 (K : PySem.W.Frag) : Addr := He.ga K "_law_words_shown"
def aa_f67 (K : PySem.W.Frag) : Addr := He.ga K "_law_shown"
def aa_f68 (K : PySem.W.Frag) : Addr := He.ga K "_law_plain"
def aa_f69 (K : PySem.W.Frag) : Addr := He.ga K "_law_is_refused"
def aa_f70 (K : PySem.W.Frag) : Addr := He.ga K "_law_asked"
def aa_cc70 (K : PySem.W.Frag) : Addr := HK.codeAt K (aa_f70 K)
def aa_pp70 (K : PySem.W.Frag) : Addr := He.tabOf K (aa_cc70 K)
def aa_f71 (K : PySem.W.Frag) : Addr := He.ga K "_law_right"
def aa_f72 (K : PySem.W.Frag) : Addr := He.ga K "law"
def aa_cx1 (K : PySem.W.Frag) : Addr := He.ga K "InvalidRow"
def aa_ix1 (K : PySem.W.Frag) : Addr := He.ma K (aa_cx1 K) "__init__"
def aa_cx2 (K : PySem.W.Frag) : Addr := He.ga K "InvalidHolds"
def aa_ix2 (K : PySem.W.Frag) : Addr := He.ma K (aa_cx2 K) "__init__"
def aa_T_FAILS (K : PySem.W.Frag) : Addr := He.ga K "FAILS"
def aa_T_ROW_KINDS (K : PySem.W.Frag) : Addr := He.ga K "ROW_KINDS"
def aa_T_WAY_WORDS (K : PySem.W.Frag) : Addr := He.ga K "WAY_WORDS"
def aa_T_LIFT_ROWS (K : PySem.W.Frag) : Addr := He.ga K "LIFT_ROWS"
def aa_T0_LIFT_ROWS (K : PySem.W.Frag) : Addr := HK.itA K (aa_T_LIFT_ROWS K) 0
def aa_T1_LIFT_ROWS (K : PySem.W.Frag) : Addr := HK.itA K (aa_T_LIFT_ROWS K) 1
def aa_T2_LIFT_ROWS (K : PySem.W.Frag) : Addr := HK.itA K (aa_T_LIFT_ROWS K) 2
def aa_T3_LIFT_ROWS (K : PySem.W.Frag) : Addr := HK.itA K (aa_T_LIFT_ROWS K) 3
def aa_T4_LIFT_ROWS (K : PySem.W.Frag) : Addr := HK.itA K (aa_T_LIFT_ROWS K) 4
def aa_T5_LIFT_ROWS (K : PySem.W.Frag) : Addr := HK.itA K (aa_T_LIFT_ROWS K) 5
def aa_T_ROW_CHECKS (K : PySem.W.Frag) : Addr := He.ga K "ROW_CHECKS"
def ex0 : List (PySem.W.Frag → Bool) := [
  fun K => HK.eqB (PySem.W.nsIn K mainGlobals "Book") (some (some (.ref (aa_C K)))),
  fun K => PySem.W.plainGet K (aa_C K) Str.empty,
  fun K => PySem.W.hasDictIn K (aa_C K),
  fun K => PySem.W.plainOver K (aa_C K),
  fun K => HK.eqB (PySem.W.findIn K (.ref (aa_C K)) "__setattr__") (some (some (.builtin "object.__setattr__"))),
  fun K => PySem.W.makesIn K (aa_C K),
  fun K => PySem.W.keepIn K (.ref (aa_C K)),
  fun K => HK.eqB (PySem.W.findIn K (.ref (aa_C K)) "_parts") (some none),
  fun K => HK.eqB (PySem.W.findIn K (.ref (aa_C K)) "__class__") (some (some (.builtin "object.__class__"))),
  fun K => HK.eqB (PySem.W.specialIn K (.builtin "object.__class__") "__get__") (some (some (.builtin "getset_descriptor.__get__"))),
  fun K => HK.eqB (PySem.W.takesIn K (.builtin "object.__class__")) (some true),
  fun K => HK.eqB (PySem.W.mroIn K (aa_C K) (.type "object")) (some true),
  fun K => HK.eqB (PySem.W.findIn K (.ref (aa_C K)) "__ne__") (some (some (.builtin "object.__ne__"))),
  fun K => PySem.W.isClsIn K (aa_C K),
  fun K => HK.eqB (PySem.W.typeIn K (.ref (aa_C K))) (some (.type "type")),
  fun K => HK.eqB (PySem.W.nsIn K mainGlobals "Tree") (some (some (.ref (aa_C_Tree K)))),
  fun K => PySem.W.plainGet K (aa_C_Tree K) Str.empty,
  fun K => PySem.W.hasDictIn K (aa_C_Tree K),
  fun K => PySem.W.plainOver K (aa_C_Tree K),
  fun K => HK.eqB (PySem.W.findIn K (.ref (aa_C_Tree K)) "__setattr__") (some (some (.builtin "object.__setattr__"))),
  fun K => PySem.W.makesIn K (aa_C_Tree K),
  fun K => PySem.W.keepIn K (.ref (aa_C_Tree K)),
  fun K => HK.eqB (PySem.W.findIn K (.ref (aa_C_Tree K)) "_above") (some none),
  fun K => HK.eqB (PySem.W.findIn K (.ref (aa_C_Tree K)) "_struck") (some none),
  fun K => HK.eqB (PySem.W.findIn K (.ref (aa_C_Tree K)) "__class__") (some (some (.builtin "object.__class__"))),
  fun K => HK.eqB (PySem.W.specialIn K (.builtin "object.__class__") "__get__") (some (some (.builtin "getset_descriptor.__get__"))),
  fun K => HK.eqB (PySem.W.takesIn K (.builtin "object.__class__")) (some true),
  fun K => HK.eqB (PySem.W.mroIn K (aa_C_Tree K) (.type "object")) (some true),
  fun K => HK.eqB (PySem.W.findIn K (.ref (aa_C_Tree K)) "__ne__") (some (some (.builtin "object.__ne__"))),
  fun K => PySem.W.isClsIn K (aa_C_Tree K)]
def ex1 : List (PySem.W.Frag → Bool) := [
  fun K => HK.eqB (PySem.W.typeIn K (.ref (aa_C_Tree K))) (some (.type "type")),
  fun K => HK.eqB (PySem.W.nsIn K mainGlobals "Course") (some (some (.ref (aa_C_Course K)))),
  fun K => PySem.W.plainGet K (aa_C_Course K) Str.empty,
  fun K => PySem.W.hasDictIn K (aa_C_Course K),
  fun K => PySem.W.plainOver K (aa_C_Course K),
  fun K => HK.eqB (PySem.W.findIn K (.ref (aa_C_Course K)) "__setattr__") (some (some (.builtin "object.__setattr__"))),
  fun K => PySem.W.makesIn K (aa_C_Course K),
  fun K => PySem.W.keepIn K (.ref (aa_C_Course K)),
  fun K => HK.eqB (PySem.W.findIn K (.ref (aa_C_Course K)) "kind") (some none),
  fun K => HK.eqB (PySem.W.findIn K (.ref (aa_C_Course K)) "words") (some none),
  fun K => HK.eqB (PySem.W.findIn K (.ref (aa_C_Course K)) "group") (some none),
  fun K => HK.eqB (PySem.W.findIn K (.ref (aa_C_Course K)) "old") (some none),
  fun K => HK.eqB (PySem.W.findIn K (.ref (aa_C_Course K)) "leaves_out") (some none),
  fun K => HK.eqB (PySem.W.nsIn K mainGlobals "is_an_integer") (some (some (.ref (aa_f1 K)))),
  fun K => HK.fB K (aa_f1 K) "is_an_integer" .none,
  fun K => PySem.W.keepIn K (.ref (aa_f1 K)),
  fun K => HK.eqB (PySem.W.nsIn K mainGlobals "is_list") (some (some (.ref (aa_f2 K)))),
  fun K => HK.fB K (aa_f2 K) "is_list" .none,
  fun K => PySem.W.keepIn K (.ref (aa_f2 K)),
  fun K => HK.eqB (PySem.W.nsIn K mainGlobals "check_group") (some (some (.ref (aa_f3 K)))),
  fun K => HK.fB K (aa_f3 K) "check_group" .none,
  fun K => PySem.W.keepIn K (.ref (aa_f3 K)),
  fun K => HK.eqB (PySem.W.nsIn K mainGlobals "check_parents") (some (some (.ref (aa_f4 K)))),
  fun K => HK.fB K (aa_f4 K) "check_parents" .none,
  fun K => PySem.W.keepIn K (.ref (aa_f4 K)),
  fun K => HK.eqB (PySem.W.nsIn K mainGlobals "check_struck") (some (some (.ref (aa_f5 K)))),
  fun K => HK.fB K (aa_f5 K) "check_struck" .none,
  fun K => PySem.W.keepIn K (.ref (aa_f5 K)),
  fun K => HK.eqB (PySem.W.findIn K (.ref (aa_C_Tree K)) "__init__") (some (some (.ref (aa_f6 K)))),
  fun K => PySem.W.isFn K (.ref (aa_f6 K))]
def ex2 : List (PySem.W.Frag → Bool) := [
  fun K => HK.fB K (aa_f6 K) "Tree.__init__" (.ref (aa_T6 K)),
  fun K => PySem.W.keepIn K (.ref (aa_f6 K)),
  fun K => HK.seqB K (aa_T6 K) (none) [.val (.ref (aa_d6_0 K)), .val (.ref (aa_d6_1 K))],
  fun K => HK.seqB K (aa_d6_0 K) (some (.type "tuple")) [],
  fun K => HK.seqB K (aa_d6_1 K) (some (.type "tuple")) [],
  fun K => HK.eqB (PySem.W.findIn K (.ref (aa_C_Tree K)) "__len__") (some (some (.ref (aa_f7 K)))),
  fun K => PySem.W.isFn K (.ref (aa_f7 K)),
  fun K => HK.fB K (aa_f7 K) "Tree.__len__" .none,
  fun K => PySem.W.keepIn K (.ref (aa_f7 K)),
  fun K => HK.eqB (PySem.W.findIn K (.ref (aa_C_Tree K)) "way") (some (some (.ref (aa_f8 K)))),
  fun K => PySem.W.isFn K (.ref (aa_f8 K)),
  fun K => HK.fB K (aa_f8 K) "Tree.way" .none,
  fun K => PySem.W.keepIn K (.ref (aa_f8 K)),
  fun K => HK.eqB (PySem.W.findIn K (.ref (aa_C_Tree K)) "apart") (some (some (.ref (aa_f9 K)))),
  fun K => PySem.W.isFn K (.ref (aa_f9 K)),
  fun K => HK.fB K (aa_f9 K) "Tree.apart" .none,
  fun K => PySem.W.keepIn K (.ref (aa_f9 K)),
  fun K => HK.eqB (PySem.W.nsIn K mainGlobals "is_word") (some (some (.ref (aa_f10 K)))),
  fun K => HK.fB K (aa_f10 K) "is_word" .none,
  fun K => PySem.W.keepIn K (.ref (aa_f10 K)),
  fun K => HK.eqB (PySem.W.nsIn K mainGlobals "are_different_words") (some (some (.ref (aa_f11 K)))),
  fun K => HK.fB K (aa_f11 K) "are_different_words" .none,
  fun K => PySem.W.keepIn K (.ref (aa_f11 K)),
  fun K => HK.eqB (PySem.W.nsIn K mainGlobals "has_words_of") (some (some (.ref (aa_f12 K)))),
  fun K => HK.fB K (aa_f12 K) "has_words_of" .none,
  fun K => PySem.W.keepIn K (.ref (aa_f12 K)),
  fun K => HK.eqB (PySem.W.nsIn K mainGlobals "tests_are_ahead") (some (some (.ref (aa_f13 K)))),
  fun K => HK.fB K (aa_f13 K) "tests_are_ahead" .none,
  fun K => PySem.W.keepIn K (.ref (aa_f13 K)),
  fun K => HK.eqB (PySem.W.nsIn K mainGlobals "off_has_home") (some (some (.ref (aa_f14 K))))]
def ex3 : List (PySem.W.Frag → Bool) := [
  fun K => HK.fB K (aa_f14 K) "off_has_home" .none,
  fun K => PySem.W.keepIn K (.ref (aa_f14 K)),
  fun K => HK.eqB (PySem.W.nsIn K mainGlobals "is_take_row") (some (some (.ref (aa_f15 K)))),
  fun K => HK.fB K (aa_f15 K) "is_take_row" .none,
  fun K => PySem.W.keepIn K (.ref (aa_f15 K)),
  fun K => HK.eqB (PySem.W.nsIn K mainGlobals "is_give_row") (some (some (.ref (aa_f16 K)))),
  fun K => HK.fB K (aa_f16 K) "is_give_row" .none,
  fun K => PySem.W.keepIn K (.ref (aa_f16 K)),
  fun K => HK.eqB (PySem.W.nsIn K mainGlobals "is_move_row") (some (some (.ref (aa_f17 K)))),
  fun K => HK.fB K (aa_f17 K) "is_move_row" .none,
  fun K => PySem.W.keepIn K (.ref (aa_f17 K)),
  fun K => HK.eqB (PySem.W.nsIn K mainGlobals "is_lift_row") (some (some (.ref (aa_f18 K)))),
  fun K => HK.fB K (aa_f18 K) "is_lift_row" .none,
  fun K => PySem.W.keepIn K (.ref (aa_f18 K)),
  fun K => HK.eqB (PySem.W.nsIn K mainGlobals "is_row") (some (some (.ref (aa_f19 K)))),
  fun K => HK.fB K (aa_f19 K) "is_row" .none,
  fun K => PySem.W.keepIn K (.ref (aa_f19 K)),
  fun K => HK.eqB (PySem.W.nsIn K mainGlobals "fits_batch") (some (some (.ref (aa_f20 K)))),
  fun K => HK.fB K (aa_f20 K) "fits_batch" .none,
  fun K => PySem.W.keepIn K (.ref (aa_f20 K)),
  fun K => HK.eqB (PySem.W.nsIn K mainGlobals "fits_shared") (some (some (.ref (aa_f21 K)))),
  fun K => HK.fB K (aa_f21 K) "fits_shared" .none,
  fun K => PySem.W.keepIn K (.ref (aa_f21 K)),
  fun K => HK.eqB (PySem.W.nsIn K mainGlobals "check_rows") (some (some (.ref (aa_f22 K)))),
  fun K => HK.fB K (aa_f22 K) "check_rows" .none,
  fun K => PySem.W.keepIn K (.ref (aa_f22 K)),
  fun K => HK.eqB (PySem.W.nsIn K mainGlobals "check_fails") (some (some (.ref (aa_f23 K)))),
  fun K => HK.fB K (aa_f23 K) "check_fails" .none,
  fun K => PySem.W.keepIn K (.ref (aa_f23 K)),
  fun K => HK.eqB (PySem.W.nsIn K mainGlobals "check_bool") (some (some (.ref (aa_f24 K))))]
def ex4 : List (PySem.W.Frag → Bool) := [
  fun K => HK.fB K (aa_f24 K) "check_bool" .none,
  fun K => PySem.W.keepIn K (.ref (aa_f24 K)),
  fun K => HK.eqB (PySem.W.nsIn K mainGlobals "check_holds") (some (some (.ref (aa_f25 K)))),
  fun K => HK.fB K (aa_f25 K) "check_holds" .none,
  fun K => PySem.W.keepIn K (.ref (aa_f25 K)),
  fun K => HK.eqB (PySem.W.nsIn K mainGlobals "check_batch") (some (some (.ref (aa_f26 K)))),
  fun K => HK.fB K (aa_f26 K) "check_batch" .none,
  fun K => PySem.W.keepIn K (.ref (aa_f26 K)),
  fun K => HK.eqB (PySem.W.nsIn K mainGlobals "check_row_kind") (some (some (.ref (aa_f27 K)))),
  fun K => HK.fB K (aa_f27 K) "check_row_kind" .none,
  fun K => PySem.W.keepIn K (.ref (aa_f27 K)),
  fun K => HK.eqB (PySem.W.findIn K (.ref (aa_C K)) "__init__") (some (some (.ref (aa_f28 K)))),
  fun K => PySem.W.isFn K (.ref (aa_f28 K)),
  fun K => HK.fBK K (aa_f28 K) "Book.__init__" .none (.ref (aa_KD28 K)),
  fun K => PySem.W.keepIn K (.ref (aa_f28 K)),
  fun K => HK.eqB (PySem.W.nsIn K (aa_KD28 K) "take") (some (some (.ref (aa_kd_take K)))),
  fun K => HK.seqB K (aa_kd_take K) (some (.type "tuple")) [.str "try", .str "live"],
  fun K => HK.bareB K (aa_kd_take K),
  fun K => HK.eqB (PySem.W.nsIn K (aa_KD28 K) "give") (some (some (.ref (aa_kd_give K)))),
  fun K => HK.seqB K (aa_kd_give K) (some (.type "tuple")) [.str "home", .str "off", .str "end"],
  fun K => HK.bareB K (aa_kd_give K),
  fun K => HK.eqB (PySem.W.nsIn K (aa_KD28 K) "move") (some (some (.ref (aa_kd_move K)))),
  fun K => HK.seqB K (aa_kd_move K) (some (.type "tuple")) [.str "home", .str "try", .str "set", .str "off"],
  fun K => HK.bareB K (aa_kd_move K),
  fun K => HK.eqB (PySem.W.nsIn K (aa_KD28 K) "lift") (some (some (.ref (aa_kd_lift K)))),
  fun K => HK.seqB K (aa_kd_lift K) (some (.type "tuple")) [.str "both"],
  fun K => HK.bareB K (aa_kd_lift K),
  fun K => HK.nsDB K (aa_KD28 K) "fails" (.str "undo"),
  fun K => HK.eqB (PySem.W.nsIn K (aa_KD28 K) "shared") (some (some (.bool true))),
  fun K => HK.eqB (PySem.W.nsIn K (aa_KD28 K) "holds") (some (some (.ref (aa_kd_holds K))))]
def ex5 : List (PySem.W.Frag → Bool) := [
  fun K => HK.seqB K (aa_kd_holds K) (some (.type "tuple")) [.str "take", .str "give", .str "move", .str "lift"],
  fun K => HK.bareB K (aa_kd_holds K),
  fun K => HK.nsDB K (aa_KD28 K) "batch" (.int 1),
  fun K => HK.eqB (PySem.W.nsIn K (aa_KD28 K) "settles") (some (some (.bool true))),
  fun K => HK.eqB (PySem.W.findIn K (.ref (aa_C K)) "__repr__") (some (some (.ref (aa_f29 K)))),
  fun K => PySem.W.isFn K (.ref (aa_f29 K)),
  fun K => HK.fB K (aa_f29 K) "Book.__repr__" .none,
  fun K => PySem.W.keepIn K (.ref (aa_f29 K)),
  fun K => HK.eqB (PySem.W.findIn K (.ref (aa_C K)) "fails") (some (some (.ref (aa_pr30 K)))),
  fun K => HK.eqB (PySem.W.specialIn K (.ref (aa_pr30 K)) "__get__") (some (some (.builtin "property.__get__"))),
  fun K => HK.eqB (PySem.W.takesIn K (.ref (aa_pr30 K))) (some true),
  fun K => HK.pfB K (aa_pr30 K),
  fun K => HK.fB K (aa_f30 K) "Book.fails" .none,
  fun K => PySem.W.keepIn K (.ref (aa_f30 K)),
  fun K => HK.eqB (PySem.W.findIn K (.ref (aa_C K)) "shared") (some (some (.ref (aa_pr31 K)))),
  fun K => HK.eqB (PySem.W.specialIn K (.ref (aa_pr31 K)) "__get__") (some (some (.builtin "property.__get__"))),
  fun K => HK.eqB (PySem.W.takesIn K (.ref (aa_pr31 K))) (some true),
  fun K => HK.pfB K (aa_pr31 K),
  fun K => HK.fB K (aa_f31 K) "Book.shared" .none,
  fun K => PySem.W.keepIn K (.ref (aa_f31 K)),
  fun K => HK.eqB (PySem.W.findIn K (.ref (aa_C K)) "holds") (some (some (.ref (aa_pr32 K)))),
  fun K => HK.eqB (PySem.W.specialIn K (.ref (aa_pr32 K)) "__get__") (some (some (.builtin "property.__get__"))),
  fun K => HK.eqB (PySem.W.takesIn K (.ref (aa_pr32 K))) (some true),
  fun K => HK.pfB K (aa_pr32 K),
  fun K => HK.fB K (aa_f32 K) "Book.holds" .none,
  fun K => PySem.W.keepIn K (.ref (aa_f32 K)),
  fun K => HK.eqB (PySem.W.findIn K (.ref (aa_C K)) "batch") (some (some (.ref (aa_pr33 K)))),
  fun K => HK.eqB (PySem.W.specialIn K (.ref (aa_pr33 K)) "__get__") (some (some (.builtin "property.__get__"))),
  fun K => HK.eqB (PySem.W.takesIn K (.ref (aa_pr33 K))) (some true),
  fun K => HK.pfB K (aa_pr33 K)]
def ex6 : List (PySem.W.Frag → Bool) := [
  fun K => HK.fB K (aa_f33 K) "Book.batch" .none,
  fun K => PySem.W.keepIn K (.ref (aa_f33 K)),
  fun K => HK.eqB (PySem.W.findIn K (.ref (aa_C K)) "settles") (some (some (.ref (aa_pr34 K)))),
  fun K => HK.eqB (PySem.W.specialIn K (.ref (aa_pr34 K)) "__get__") (some (some (.builtin "property.__get__"))),
  fun K => HK.eqB (PySem.W.takesIn K (.ref (aa_pr34 K))) (some true),
  fun K => HK.pfB K (aa_pr34 K),
  fun K => HK.fB K (aa_f34 K) "Book.settles" .none,
  fun K => PySem.W.keepIn K (.ref (aa_f34 K)),
  fun K => HK.eqB (PySem.W.findIn K (.ref (aa_C K)) "row") (some (some (.ref (aa_f35 K)))),
  fun K => PySem.W.isFn K (.ref (aa_f35 K)),
  fun K => HK.fB K (aa_f35 K) "Book.row" .none,
  fun K => PySem.W.keepIn K (.ref (aa_f35 K)),
  fun K => HK.eqB (PySem.W.findIn K (.ref (aa_C K)) "with_row") (some (some (.ref (aa_f36 K)))),
  fun K => PySem.W.isFn K (.ref (aa_f36 K)),
  fun K => HK.fB K (aa_f36 K) "Book.with_row" .none,
  fun K => PySem.W.keepIn K (.ref (aa_f36 K)),
  fun K => HK.eqB (PySem.W.findIn K (.ref (aa_C K)) "with_holds") (some (some (.ref (aa_f37 K)))),
  fun K => PySem.W.isFn K (.ref (aa_f37 K)),
  fun K => HK.fB K (aa_f37 K) "Book.with_holds" .none,
  fun K => PySem.W.keepIn K (.ref (aa_f37 K)),
  fun K => HK.eqB (PySem.W.findIn K (.ref (aa_C_Course K)) "__init__") (some (some (.ref (aa_f38 K)))),
  fun K => PySem.W.isFn K (.ref (aa_f38 K)),
  fun K => HK.fB K (aa_f38 K) "Course.__init__" (.ref (aa_T38 K)),
  fun K => PySem.W.keepIn K (.ref (aa_f38 K)),
  fun K => HK.seqB K (aa_T38 K) (none) [.val (.none), .val (.none), .val (.bool false)],
  fun K => HK.eqB (PySem.W.findIn K (.ref (aa_C_Course K)) "groups") (some (some (.ref (aa_f39 K)))),
  fun K => PySem.W.isFn K (.ref (aa_f39 K)),
  fun K => HK.fB K (aa_f39 K) "Course.groups" .none,
  fun K => PySem.W.keepIn K (.ref (aa_f39 K)),
  fun K => HK.eqB (PySem.W.findIn K (.ref (aa_C_Course K)) "single_deeds") (some (some (.ref (aa_f40 K))))]
def ex7 : List (PySem.W.Frag → Bool) := [
  fun K => PySem.W.isFn K (.ref (aa_f40 K)),
  fun K => HK.fB K (aa_f40 K) "Course.single_deeds" .none,
  fun K => PySem.W.keepIn K (.ref (aa_f40 K)),
  fun K => HK.eqB (PySem.W.nsIn K mainGlobals "take_course") (some (some (.ref (aa_f41 K)))),
  fun K => HK.fB K (aa_f41 K) "take_course" .none,
  fun K => PySem.W.keepIn K (.ref (aa_f41 K)),
  fun K => HK.eqB (PySem.W.nsIn K mainGlobals "give_course") (some (some (.ref (aa_f42 K)))),
  fun K => HK.fB K (aa_f42 K) "give_course" (.ref (aa_T42 K)),
  fun K => PySem.W.keepIn K (.ref (aa_f42 K)),
  fun K => HK.seqB K (aa_T42 K) (none) [.val (.none)],
  fun K => HK.eqB (PySem.W.nsIn K mainGlobals "move_course") (some (some (.ref (aa_f43 K)))),
  fun K => HK.fB K (aa_f43 K) "move_course" (.ref (aa_T43 K)),
  fun K => PySem.W.keepIn K (.ref (aa_f43 K)),
  fun K => HK.seqB K (aa_T43 K) (none) [.val (.none)],
  fun K => HK.eqB (PySem.W.nsIn K mainGlobals "lift_course") (some (some (.ref (aa_f44 K)))),
  fun K => HK.fB K (aa_f44 K) "lift_course" .none,
  fun K => PySem.W.keepIn K (.ref (aa_f44 K)),
  fun K => HK.eqB (PySem.W.nsIn K mainGlobals "settle_course") (some (some (.ref (aa_f45 K)))),
  fun K => HK.fB K (aa_f45 K) "settle_course" .none,
  fun K => PySem.W.keepIn K (.ref (aa_f45 K)),
  fun K => HK.eqB (PySem.W.nsIn K mainGlobals "plan") (some (some (.ref (aa_f46 K)))),
  fun K => HK.fB K (aa_f46 K) "plan" .none,
  fun K => PySem.W.keepIn K (.ref (aa_f46 K)),
  fun K => HK.eqB (PySem.W.nsIn K mainGlobals "take_plan") (some (some (.ref (aa_f47 K)))),
  fun K => HK.fB K (aa_f47 K) "take_plan" .none,
  fun K => PySem.W.keepIn K (.ref (aa_f47 K)),
  fun K => HK.eqB (PySem.W.nsIn K mainGlobals "give_plan") (some (some (.ref (aa_f48 K)))),
  fun K => HK.fB K (aa_f48 K) "give_plan" .none,
  fun K => PySem.W.keepIn K (.ref (aa_f48 K)),
  fun K => HK.eqB (PySem.W.nsIn K mainGlobals "move_plan") (some (some (.ref (aa_f49 K))))]
def ex8 : List (PySem.W.Frag → Bool) := [
  fun K => HK.fB K (aa_f49 K) "move_plan" .none,
  fun K => PySem.W.keepIn K (.ref (aa_f49 K)),
  fun K => HK.eqB (PySem.W.nsIn K mainGlobals "lift_plan") (some (some (.ref (aa_f50 K)))),
  fun K => HK.fB K (aa_f50 K) "lift_plan" .none,
  fun K => PySem.W.keepIn K (.ref (aa_f50 K)),
  fun K => HK.eqB (PySem.W.nsIn K mainGlobals "settle_plan") (some (some (.ref (aa_f51 K)))),
  fun K => HK.fB K (aa_f51 K) "settle_plan" .none,
  fun K => PySem.W.keepIn K (.ref (aa_f51 K)),
  fun K => HK.eqB (PySem.W.nsIn K mainGlobals "_law_pot") (some (some (.ref (aa_f52 K)))),
  fun K => HK.fB K (aa_f52 K) "_law_pot" .none,
  fun K => PySem.W.keepIn K (.ref (aa_f52 K)),
  fun K => HK.eqB (PySem.W.nsIn K mainGlobals "_law_draw") (some (some (.ref (aa_f53 K)))),
  fun K => HK.fB K (aa_f53 K) "_law_draw" .none,
  fun K => PySem.W.keepIn K (.ref (aa_f53 K)),
  fun K => HK.eqB (PySem.W.nsIn K mainGlobals "_law_pick") (some (some (.ref (aa_f54 K)))),
  fun K => HK.fB K (aa_f54 K) "_law_pick" .none,
  fun K => PySem.W.keepIn K (.ref (aa_f54 K)),
  fun K => HK.eqB (PySem.W.nsIn K mainGlobals "_law_sequences") (some (some (.ref (aa_f55 K)))),
  fun K => HK.fB K (aa_f55 K) "_law_sequences" .none,
  fun K => PySem.W.keepIn K (.ref (aa_f55 K)),
  fun K => HK.eqB (PySem.W.nsIn K mainGlobals "_law_is_ahead") (some (some (.ref (aa_f56 K)))),
  fun K => HK.fB K (aa_f56 K) "_law_is_ahead" .none,
  fun K => PySem.W.keepIn K (.ref (aa_f56 K)),
  fun K => HK.eqB (PySem.W.nsIn K mainGlobals "_law_is_take") (some (some (.ref (aa_f57 K)))),
  fun K => HK.fB K (aa_f57 K) "_law_is_take" .none,
  fun K => PySem.W.keepIn K (.ref (aa_f57 K)),
  fun K => HK.eqB (PySem.W.nsIn K mainGlobals "_law_is_give") (some (some (.ref (aa_f58 K)))),
  fun K => HK.fB K (aa_f58 K) "_law_is_give" .none,
  fun K => PySem.W.keepIn K (.ref (aa_f58 K)),
  fun K => HK.eqB (PySem.W.nsIn K mainGlobals "_law_is_move") (some (some (.ref (aa_f59 K))))]
def ex9 : List (PySem.W.Frag → Bool) := [
  fun K => HK.fB K (aa_f59 K) "_law_is_move" .none,
  fun K => PySem.W.keepIn K (.ref (aa_f59 K)),
  fun K => HK.eqB (PySem.W.nsIn K mainGlobals "_law_takes") (some (some (.ref (aa_f60 K)))),
  fun K => HK.fB K (aa_f60 K) "_law_takes" .none,
  fun K => PySem.W.keepIn K (.ref (aa_f60 K)),
  fun K => HK.eqB (PySem.W.nsIn K mainGlobals "_law_gives") (some (some (.ref (aa_f61 K)))),
  fun K => HK.fB K (aa_f61 K) "_law_gives" .none,
  fun K => PySem.W.keepIn K (.ref (aa_f61 K)),
  fun K => HK.eqB (PySem.W.nsIn K mainGlobals "_law_moves") (some (some (.ref (aa_f62 K)))),
  fun K => HK.fB K (aa_f62 K) "_law_moves" .none,
  fun K => PySem.W.keepIn K (.ref (aa_f62 K)),
  fun K => HK.eqB (PySem.W.nsIn K mainGlobals "_law_lifts") (some (some (.ref (aa_f63 K)))),
  fun K => HK.fB K (aa_f63 K) "_law_lifts" .none,
  fun K => PySem.W.keepIn K (.ref (aa_f63 K)),
  fun K => HK.eqB (PySem.W.nsIn K mainGlobals "_law_any") (some (some (.ref (aa_f64 K)))),
  fun K => HK.fB K (aa_f64 K) "_law_any" .none,
  fun K => PySem.W.keepIn K (.ref (aa_f64 K)),
  fun K => HK.eqB (PySem.W.nsIn K mainGlobals "_law_book") (some (some (.ref (aa_f65 K)))),
  fun K => HK.fB K (aa_f65 K) "_law_book" .none,
  fun K => PySem.W.keepIn K (.ref (aa_f65 K)),
  fun K => HK.eqB (PySem.W.nsIn K mainGlobals "_law_words_shown") (some (some (.ref (aa_f66 K)))),
  fun K => HK.fB K (aa_f66 K) "_law_words_shown" .none,
  fun K => PySem.W.keepIn K (.ref (aa_f66 K)),
  fun K => HK.eqB (PySem.W.nsIn K mainGlobals "_law_shown") (some (some (.ref (aa_f67 K)))),
  fun K => HK.fB K (aa_f67 K) "_law_shown" .none,
  fun K => PySem.W.keepIn K (.ref (aa_f67 K)),
  fun K => HK.eqB (PySem.W.nsIn K mainGlobals "_law_plain") (some (some (.ref (aa_f68 K)))),
  fun K => HK.fB K (aa_f68 K) "_law_plain" .none,
  fun K => PySem.W.keepIn K (.ref (aa_f68 K)),
  fun K => HK.eqB (PySem.W.nsIn K mainGlobals "_law_is_refused") (some (some (.ref (aa_f69 K))))]
def ex10 : List (PySem.W.Frag → Bool) := [
  fun K => HK.fB K (aa_f69 K) "_law_is_refused" .none,
  fun K => PySem.W.keepIn K (.ref (aa_f69 K)),
  fun K => HK.eqB (PySem.W.nsIn K mainGlobals "_law_asked") (some (some (.ref (aa_f70 K)))),
  fun K => HK.fB K (aa_f70 K) "_law_asked" .none,
  fun K => HK.tbB K (aa_cc70 K),
  fun K => (K.lookup (aa_pp70 K)).isNone,
  fun K => PySem.W.keepIn K (.ref (aa_f70 K)),
  fun K => HK.eqB (PySem.W.nsIn K mainGlobals "_law_right") (some (some (.ref (aa_f71 K)))),
  fun K => HK.fB K (aa_f71 K) "_law_right" .none,
  fun K => PySem.W.keepIn K (.ref (aa_f71 K)),
  fun K => HK.eqB (PySem.W.nsIn K mainGlobals "law") (some (some (.ref (aa_f72 K)))),
  fun K => HK.fB K (aa_f72 K) "law" .none,
  fun K => PySem.W.keepIn K (.ref (aa_f72 K)),
  fun K => HK.eqB (PySem.W.nsIn K mainGlobals "InvalidRow") (some (some (.ref (aa_cx1 K)))),
  fun K => PySem.W.excInitIn K (aa_cx1 K) bm_ValueError "ValueError.__new__",
  fun K => PySem.W.excOver K (aa_cx1 K) bm_ValueError,
  fun K => HK.eqB (PySem.W.findIn K (.ref (aa_cx1 K)) "__setattr__") (some (some (.builtin "object.__setattr__"))),
  fun K => HK.eqB (PySem.W.findIn K (.ref (aa_cx1 K)) "__getattribute__") (some (some (.builtin "BaseException.__getattribute__"))),
  fun K => HK.eqB (PySem.W.findIn K (.ref (aa_cx1 K)) "__getattr__") (some none),
  fun K => HK.eqB (PySem.W.findIn K (.ref (aa_cx1 K)) "__init__") (some (some (.ref (aa_ix1 K)))),
  fun K => PySem.W.isFn K (.ref (aa_ix1 K)),
  fun K => PySem.W.keepIn K (.ref (aa_cx1 K)),
  fun K => HK.eqB (PySem.W.subIn K (.ref (aa_cx1 K)) (.type "BaseException")) (some true),
  fun K => HK.eqB (PySem.W.typeIn K (.ref (aa_cx1 K))) (some (.type "type")),
  fun K => PySem.W.hasDictIn K (aa_cx1 K),
  fun K => HK.fBN K (aa_ix1 K) "InvalidRow.__init__" .none,
  fun K => HK.eqB (PySem.W.takerIn K (aa_cx1 K) "kind") (some none),
  fun K => HK.eqB (PySem.W.findIn K (.ref (aa_cx1 K)) "kind") (some none),
  fun K => HK.eqB (PySem.W.takerIn K (aa_cx1 K) "value") (some none),
  fun K => HK.eqB (PySem.W.findIn K (.ref (aa_cx1 K)) "value") (some none)]
def ex11 : List (PySem.W.Frag → Bool) := [
  fun K => HK.eqB (PySem.W.nsIn K mainGlobals "InvalidHolds") (some (some (.ref (aa_cx2 K)))),
  fun K => PySem.W.excInitIn K (aa_cx2 K) bm_ValueError "ValueError.__new__",
  fun K => PySem.W.excOver K (aa_cx2 K) bm_ValueError,
  fun K => HK.eqB (PySem.W.findIn K (.ref (aa_cx2 K)) "__setattr__") (some (some (.builtin "object.__setattr__"))),
  fun K => HK.eqB (PySem.W.findIn K (.ref (aa_cx2 K)) "__getattribute__") (some (some (.builtin "BaseException.__getattribute__"))),
  fun K => HK.eqB (PySem.W.findIn K (.ref (aa_cx2 K)) "__getattr__") (some none),
  fun K => HK.eqB (PySem.W.findIn K (.ref (aa_cx2 K)) "__init__") (some (some (.ref (aa_ix2 K)))),
  fun K => PySem.W.isFn K (.ref (aa_ix2 K)),
  fun K => PySem.W.keepIn K (.ref (aa_cx2 K)),
  fun K => HK.eqB (PySem.W.subIn K (.ref (aa_cx2 K)) (.type "BaseException")) (some true),
  fun K => HK.eqB (PySem.W.typeIn K (.ref (aa_cx2 K))) (some (.type "type")),
  fun K => PySem.W.hasDictIn K (aa_cx2 K),
  fun K => HK.fBN K (aa_ix2 K) "InvalidHolds.__init__" .none,
  fun K => HK.eqB (PySem.W.takerIn K (aa_cx2 K) "value") (some none),
  fun K => HK.eqB (PySem.W.findIn K (.ref (aa_cx2 K)) "value") (some none),
  fun K => PySem.W.isClsIn K (aa_cx1 K),
  fun K => HK.eqB (PySem.W.subIn K (.ref (aa_cx1 K)) (.ref (aa_cx1 K))) (some true),
  fun K => HK.eqB (PySem.W.subIn K (.ref (aa_cx2 K)) (.ref (aa_cx1 K))) (some false),
  fun K => PySem.W.isClsIn K (aa_cx2 K),
  fun K => HK.eqB (PySem.W.subIn K (.ref (aa_cx2 K)) (.ref (aa_cx2 K))) (some true),
  fun K => HK.eqB (PySem.W.nsIn K mainGlobals "abs") (some none),
  fun K => HK.eqB (PySem.W.nsIn K mainGlobals "all") (some none),
  fun K => HK.eqB (PySem.W.nsIn K mainGlobals "bool") (some none),
  fun K => HK.eqB (PySem.W.nsIn K mainGlobals "divmod") (some none),
  fun K => HK.eqB (PySem.W.nsIn K mainGlobals "enumerate") (some none),
  fun K => HK.eqB (PySem.W.nsIn K mainGlobals "int") (some none),
  fun K => HK.eqB (PySem.W.nsIn K mainGlobals "isinstance") (some none),
  fun K => HK.eqB (PySem.W.nsIn K mainGlobals "len") (some none),
  fun K => HK.eqB (PySem.W.nsIn K mainGlobals "list") (some none),
  fun K => HK.eqB (PySem.W.nsIn K mainGlobals "max") (some none)]
def ex12 : List (PySem.W.Frag → Bool) := [
  fun K => HK.eqB (PySem.W.nsIn K mainGlobals "min") (some none),
  fun K => HK.eqB (PySem.W.nsIn K mainGlobals "range") (some none),
  fun K => HK.eqB (PySem.W.nsIn K mainGlobals "repr") (some none),
  fun K => HK.eqB (PySem.W.nsIn K mainGlobals "set") (some none),
  fun K => HK.eqB (PySem.W.nsIn K mainGlobals "sorted") (some none),
  fun K => HK.eqB (PySem.W.nsIn K mainGlobals "str") (some none),
  fun K => HK.eqB (PySem.W.nsIn K mainGlobals "tuple") (some none),
  fun K => HK.nsB K "MOST_BATCH" (.int 50),
  fun K => HK.nsB K "MOST_GROUPS" (.int 200),
  fun K => HK.eqB (PySem.W.nsIn K mainGlobals "FAILS") (some (some (.ref (aa_T_FAILS K)))),
  fun K => HK.seqB K (aa_T_FAILS K) (some (.type "tuple")) [.str "undo", .str "leave", .str "wait"],
  fun K => HK.eqB (PySem.W.nsIn K mainGlobals "ROW_KINDS") (some (some (.ref (aa_T_ROW_KINDS K)))),
  fun K => HK.seqB K (aa_T_ROW_KINDS K) (some (.type "tuple")) [.str "take", .str "give", .str "move", .str "lift"],
  fun K => HK.eqB (PySem.W.nsIn K mainGlobals "WAY_WORDS") (some (some (.ref (aa_T_WAY_WORDS K)))),
  fun K => HK.seqB K (aa_T_WAY_WORDS K) (some (.type "tuple")) [.str "look", .str "add", .str "try", .str "off"],
  fun K => HK.eqB (PySem.W.nsIn K mainGlobals "LIFT_ROWS") (some (some (.ref (aa_T_LIFT_ROWS K)))),
  fun K => HK.seqB K (aa_T_LIFT_ROWS K) (some (.type "tuple")) [.val (.ref (aa_T0_LIFT_ROWS K)), .val (.ref (aa_T1_LIFT_ROWS K)), .val (.ref (aa_T2_LIFT_ROWS K)), .val (.ref (aa_T3_LIFT_ROWS K)), .val (.ref (aa_T4_LIFT_ROWS K)), .val (.ref (aa_T5_LIFT_ROWS K))],
  fun K => HK.seqB K (aa_T0_LIFT_ROWS K) (some (.type "tuple")) [],
  fun K => HK.seqB K (aa_T1_LIFT_ROWS K) (some (.type "tuple")) [.str "set"],
  fun K => HK.seqB K (aa_T2_LIFT_ROWS K) (some (.type "tuple")) [.str "off"],
  fun K => HK.seqB K (aa_T3_LIFT_ROWS K) (some (.type "tuple")) [.str "set", .str "off"],
  fun K => HK.seqB K (aa_T4_LIFT_ROWS K) (some (.type "tuple")) [.str "off", .str "set"],
  fun K => HK.seqB K (aa_T5_LIFT_ROWS K) (some (.type "tuple")) [.str "both"],
  fun K => HK.eqB (PySem.W.nsIn K mainGlobals "ROW_CHECKS") (some (some (.ref (aa_T_ROW_CHECKS K)))),
  fun K => HK.eqB (PySem.W.nsIn K (aa_T_ROW_CHECKS K) "take") (some (some (.ref (aa_f15 K)))),
  fun K => HK.eqB (PySem.W.nsIn K (aa_T_ROW_CHECKS K) "give") (some (some (.ref (aa_f16 K)))),
  fun K => HK.eqB (PySem.W.nsIn K (aa_T_ROW_CHECKS K) "move") (some (some (.ref (aa_f17 K)))),
  fun K => HK.eqB (PySem.W.nsIn K (aa_T_ROW_CHECKS K) "lift") (some (some (.ref (aa_f18 K))))]
def ex : List (PySem.W.Frag → Bool) := ex0 ++ (ex1 ++ (ex2 ++ (ex3 ++ (ex4 ++ (ex5 ++ (ex6 ++ (ex7 ++ (ex8 ++ (ex9 ++ (ex10 ++ (ex11 ++ (ex12))))))))))))
def ats0 : List HK.At := [
  fun K => (aa_f1 K),
  fun K => (aa_f2 K),
  fun K => (aa_f3 K),
  fun K => (aa_f4 K),
  fun K => (aa_f5 K),
  fun K => (aa_f6 K),
  fun K => (aa_f7 K),
  fun K => (aa_f8 K),
  fun K => (aa_f9 K),
  fun K => (aa_f10 K),
  fun K => (aa_f11 K),
  fun K => (aa_f12 K),
  fun K => (aa_f13 K),
  fun K => (aa_f14 K),
  fun K => (aa_f15 K),
  fun K => (aa_f16 K),
  fun K => (aa_f17 K),
  fun K => (aa_f18 K),
  fun K => (aa_f19 K),
  fun K => (aa_f20 K),
  fun K => (aa_f21 K),
  fun K => (aa_f22 K),
  fun K => (aa_f23 K),
  fun K => (aa_f24 K),
  fun K => (aa_f25 K)]
def ats1 : List HK.At := [
  fun K => (aa_f26 K),
  fun K => (aa_f27 K),
  fun K => (aa_f28 K),
  fun K => (aa_f29 K),
  fun K => (aa_f30 K),
  fun K => (aa_f31 K),
  fun K => (aa_f32 K),
  fun K => (aa_f33 K),
  fun K => (aa_f34 K),
  fun K => (aa_f35 K),
  fun K => (aa_f36 K),
  fun K => (aa_f37 K),
  fun K => (aa_f38 K),
  fun K => (aa_f39 K),
  fun K => (aa_f40 K),
  fun K => (aa_f41 K),
  fun K => (aa_f42 K),
  fun K => (aa_f43 K),
  fun K => (aa_f44 K),
  fun K => (aa_f45 K),
  fun K => (aa_f46 K),
  fun K => (aa_f47 K),
  fun K => (aa_f48 K),
  fun K => (aa_f49 K),
  fun K => (aa_f50 K)]
def ats2 : List HK.At := [
  fun K => (aa_f51 K),
  fun K => (aa_f52 K),
  fun K => (aa_f53 K),
  fun K => (aa_f54 K),
  fun K => (aa_f55 K),
  fun K => (aa_f56 K),
  fun K => (aa_f57 K),
  fun K => (aa_f58 K),
  fun K => (aa_f59 K),
  fun K => (aa_f60 K),
  fun K => (aa_f61 K),
  fun K => (aa_f62 K),
  fun K => (aa_f63 K),
  fun K => (aa_f64 K),
  fun K => (aa_f65 K),
  fun K => (aa_f66 K),
  fun K => (aa_f67 K),
  fun K => (aa_f68 K),
  fun K => (aa_f69 K),
  fun K => (aa_f70 K),
  fun K => (aa_f71 K),
  fun K => (aa_f72 K),
  fun K => (aa_ix1 K),
  fun K => (aa_ix2 K)]
def ats : List HK.At := ats0 ++ (ats1 ++ (ats2))
def fvs0 : List He.FnW := [
  some ("is_an_integer", "is_an_integer", defArgs s_is_an_integer, .stmts (defBody s_is_an_integer), defScope s_is_an_integer, mainGlobals, [], builtinsNs),
  some ("is_list", "is_list", defArgs s_is_list, .stmts (defBody s_is_list), defScope s_is_list, mainGlobals, [], builtinsNs),
  some ("check_group", "check_group", defArgs s_check_group, .stmts (defBody s_check_group), defScope s_check_group, mainGlobals, [], builtinsNs),
  some ("check_parents", "check_parents", defArgs s_check_parents, .stmts (defBody s_check_parents), defScope s_check_parents, mainGlobals, [], builtinsNs),
  some ("check_struck", "check_struck", defArgs s_check_struck, .stmts (defBody s_check_struck), defScope s_check_struck, mainGlobals, [], builtinsNs),
  some ("__init__", "Tree.__init__", defArgs s_Tinit, .stmts (defBody s_Tinit), defScope s_Tinit, mainGlobals, [], builtinsNs),
  some ("__len__", "Tree.__len__", defArgs s_Tlen, .stmts (defBody s_Tlen), defScope s_Tlen, mainGlobals, [], builtinsNs),
  some ("way", "Tree.way", defArgs s_Tway, .stmts (defBody s_Tway), defScope s_Tway, mainGlobals, [], builtinsNs),
  some ("apart", "Tree.apart", defArgs s_Tapart, .stmts (defBody s_Tapart), defScope s_Tapart, mainGlobals, [], builtinsNs),
  some ("is_word", "is_word", defArgs s_is_word, .stmts (defBody s_is_word), defScope s_is_word, mainGlobals, [], builtinsNs),
  some ("are_different_words", "are_different_words", defArgs s_are_different_words, .stmts (defBody s_are_different_words), defScope s_are_different_words, mainGlobals, [], builtinsNs),
  some ("has_words_of", "has_words_of", defArgs s_has_words_of, .stmts (defBody s_has_words_of), defScope s_has_words_of, mainGlobals, [], builtinsNs),
  some ("tests_are_ahead", "tests_are_ahead", defArgs s_tests_are_ahead, .stmts (defBody s_tests_are_ahead), defScope s_tests_are_ahead, mainGlobals, [], builtinsNs),
  some ("off_has_home", "off_has_home", defArgs s_off_has_home, .stmts (defBody s_off_has_home), defScope s_off_has_home, mainGlobals, [], builtinsNs),
  some ("is_take_row", "is_take_row", defArgs s_is_take_row, .stmts (defBody s_is_take_row), defScope s_is_take_row, mainGlobals, [], builtinsNs),
  some ("is_give_row", "is_give_row", defArgs s_is_give_row, .stmts (defBody s_is_give_row), defScope s_is_give_row, mainGlobals, [], builtinsNs),
  some ("is_move_row", "is_move_row", defArgs s_is_move_row, .stmts (defBody s_is_move_row), defScope s_is_move_row, mainGlobals, [], builtinsNs),
  some ("is_lift_row", "is_lift_row", defArgs s_is_lift_row, .stmts (defBody s_is_lift_row), defScope s_is_lift_row, mainGlobals, [], builtinsNs),
  some ("is_row", "is_row", defArgs s_is_row, .stmts (defBody s_is_row), defScope s_is_row, mainGlobals, [], builtinsNs),
  some ("fits_batch", "fits_batch", defArgs s_fits_batch, .stmts (defBody s_fits_batch), defScope s_fits_batch, mainGlobals, [], builtinsNs),
  some ("fits_shared", "fits_shared", defArgs s_fits_shared, .stmts (defBody s_fits_shared), defScope s_fits_shared, mainGlobals, [], builtinsNs),
  some ("check_rows", "check_rows", defArgs s_check_rows, .stmts (defBody s_check_rows), defScope s_check_rows, mainGlobals, [], builtinsNs),
  some ("check_fails", "check_fails", defArgs s_check_fails, .stmts (defBody s_check_fails), defScope s_check_fails, mainGlobals, [], builtinsNs),
  some ("check_bool", "check_bool", defArgs s_check_bool, .stmts (defBody s_check_bool), defScope s_check_bool, mainGlobals, [], builtinsNs),
  some ("check_holds", "check_holds", defArgs s_check_holds, .stmts (defBody s_check_holds), defScope s_check_holds, mainGlobals, [], builtinsNs)]
def fvs1 : List He.FnW := [
  some ("check_batch", "check_batch", defArgs s_check_batch, .stmts (defBody s_check_batch), defScope s_check_batch, mainGlobals, [], builtinsNs),
  some ("check_row_kind", "check_row_kind", defArgs s_check_row_kind, .stmts (defBody s_check_row_kind), defScope s_check_row_kind, mainGlobals, [], builtinsNs),
  some ("__init__", "Book.__init__", defArgs s_Binit, .stmts (defBody s_Binit), defScope s_Binit, mainGlobals, [], builtinsNs),
  some ("__repr__", "Book.__repr__", defArgs s_Brepr, .stmts (defBody s_Brepr), defScope s_Brepr, mainGlobals, [], builtinsNs),
  some ("fails", "Book.fails", defArgs s_Bfails, .stmts (defBody s_Bfails), defScope s_Bfails, mainGlobals, [], builtinsNs),
  some ("shared", "Book.shared", defArgs s_Bshared, .stmts (defBody s_Bshared), defScope s_Bshared, mainGlobals, [], builtinsNs),
  some ("holds", "Book.holds", defArgs s_Bholds, .stmts (defBody s_Bholds), defScope s_Bholds, mainGlobals, [], builtinsNs),
  some ("batch", "Book.batch", defArgs s_Bbatch, .stmts (defBody s_Bbatch), defScope s_Bbatch, mainGlobals, [], builtinsNs),
  some ("settles", "Book.settles", defArgs s_Bsettles, .stmts (defBody s_Bsettles), defScope s_Bsettles, mainGlobals, [], builtinsNs),
  some ("row", "Book.row", defArgs s_Brow, .stmts (defBody s_Brow), defScope s_Brow, mainGlobals, [], builtinsNs),
  some ("with_row", "Book.with_row", defArgs s_Bwith_row, .stmts (defBody s_Bwith_row), defScope s_Bwith_row, mainGlobals, [], builtinsNs),
  some ("with_holds", "Book.with_holds", defArgs s_Bwith_holds, .stmts (defBody s_Bwith_holds), defScope s_Bwith_holds, mainGlobals, [], builtinsNs),
  some ("__init__", "Course.__init__", defArgs s_Cinit, .stmts (defBody s_Cinit), defScope s_Cinit, mainGlobals, [], builtinsNs),
  some ("groups", "Course.groups", defArgs s_Cgroups, .stmts (defBody s_Cgroups), defScope s_Cgroups, mainGlobals, [], builtinsNs),
  some ("single_deeds", "Course.single_deeds", defArgs s_Csingle_deeds, .stmts (defBody s_Csingle_deeds), defScope s_Csingle_deeds, mainGlobals, [], builtinsNs),
  some ("take_course", "take_course", defArgs s_take_course, .stmts (defBody s_take_course), defScope s_take_course, mainGlobals, [], builtinsNs),
  some ("give_course", "give_course", defArgs s_give_course, .stmts (defBody s_give_course), defScope s_give_course, mainGlobals, [], builtinsNs),
  some ("move_course", "move_course", defArgs s_move_course, .stmts (defBody s_move_course), defScope s_move_course, mainGlobals, [], builtinsNs),
  some ("lift_course", "lift_course", defArgs s_lift_course, .stmts (defBody s_lift_course), defScope s_lift_course, mainGlobals, [], builtinsNs),
  some ("settle_course", "settle_course", defArgs s_settle_course, .stmts (defBody s_settle_course), defScope s_settle_course, mainGlobals, [], builtinsNs),
  some ("plan", "plan", defArgs s_plan, .stmts (defBody s_plan), defScope s_plan, mainGlobals, [], builtinsNs),
  some ("take_plan", "take_plan", defArgs s_take_plan, .stmts (defBody s_take_plan), defScope s_take_plan, mainGlobals, [], builtinsNs),
  some ("give_plan", "give_plan", defArgs s_give_plan, .stmts (defBody s_give_plan), defScope s_give_plan, mainGlobals, [], builtinsNs),
  some ("move_plan", "move_plan", defArgs s_move_plan, .stmts (defBody s_move_plan), defScope s_move_plan, mainGlobals, [], builtinsNs),
  some ("lift_plan", "lift_plan", defArgs s_lift_plan, .stmts (defBody s_lift_plan), defScope s_lift_plan, mainGlobals, [], builtinsNs)]
def fvs2 : List He.FnW := [
  some ("settle_plan", "settle_plan", defArgs s_settle_plan, .stmts (defBody s_settle_plan), defScope s_settle_plan, mainGlobals, [], builtinsNs),
  some ("_law_pot", "_law_pot", defArgs s_Lpot, .stmts (defBody s_Lpot), defScope s_Lpot, mainGlobals, [], builtinsNs),
  some ("_law_draw", "_law_draw", defArgs s_Ldraw, .stmts (defBody s_Ldraw), defScope s_Ldraw, mainGlobals, [], builtinsNs),
  some ("_law_pick", "_law_pick", defArgs s_Lpick, .stmts (defBody s_Lpick), defScope s_Lpick, mainGlobals, [], builtinsNs),
  some ("_law_sequences", "_law_sequences", defArgs s_Lsequences, .stmts (defBody s_Lsequences), defScope s_Lsequences, mainGlobals, [], builtinsNs),
  some ("_law_is_ahead", "_law_is_ahead", defArgs s_Lis_ahead, .stmts (defBody s_Lis_ahead), defScope s_Lis_ahead, mainGlobals, [], builtinsNs),
  some ("_law_is_take", "_law_is_take", defArgs s_Lis_take, .stmts (defBody s_Lis_take), defScope s_Lis_take, mainGlobals, [], builtinsNs),
  some ("_law_is_give", "_law_is_give", defArgs s_Lis_give, .stmts (defBody s_Lis_give), defScope s_Lis_give, mainGlobals, [], builtinsNs),
  some ("_law_is_move", "_law_is_move", defArgs s_Lis_move, .stmts (defBody s_Lis_move), defScope s_Lis_move, mainGlobals, [], builtinsNs),
  some ("_law_takes", "_law_takes", defArgs s_Ltakes, .stmts (defBody s_Ltakes), defScope s_Ltakes, mainGlobals, [], builtinsNs),
  some ("_law_gives", "_law_gives", defArgs s_Lgives, .stmts (defBody s_Lgives), defScope s_Lgives, mainGlobals, [], builtinsNs),
  some ("_law_moves", "_law_moves", defArgs s_Lmoves, .stmts (defBody s_Lmoves), defScope s_Lmoves, mainGlobals, [], builtinsNs),
  some ("_law_lifts", "_law_lifts", defArgs s_Llifts, .stmts (defBody s_Llifts), defScope s_Llifts, mainGlobals, [], builtinsNs),
  some ("_law_any", "_law_any", defArgs s_Lany, .stmts (defBody s_Lany), defScope s_Lany, mainGlobals, [], builtinsNs),
  some ("_law_book", "_law_book", defArgs s_Lbook, .stmts (defBody s_Lbook), defScope s_Lbook, mainGlobals, [], builtinsNs),
  some ("_law_words_shown", "_law_words_shown", defArgs s_Lwords_shown, .stmts (defBody s_Lwords_shown), defScope s_Lwords_shown, mainGlobals, [], builtinsNs),
  some ("_law_shown", "_law_shown", defArgs s_Lshown, .stmts (defBody s_Lshown), defScope s_Lshown, mainGlobals, [], builtinsNs),
  some ("_law_plain", "_law_plain", defArgs s_Lplain, .stmts (defBody s_Lplain), defScope s_Lplain, mainGlobals, [], builtinsNs),
  some ("_law_is_refused", "_law_is_refused", defArgs s_Lis_refused, .stmts (defBody s_Lis_refused), defScope s_Lis_refused, mainGlobals, [], builtinsNs),
  some ("_law_asked", "_law_asked", defArgs s_Lasked, .stmts (defBody s_Lasked), defScope s_Lasked, mainGlobals, [], builtinsNs),
  some ("_law_right", "_law_right", defArgs s_Lright, .stmts (defBody s_Lright), defScope s_Lright, mainGlobals, [], builtinsNs),
  some ("law", "law", defArgs s_law, .stmts (defBody s_law), defScope s_law, mainGlobals, [], builtinsNs),
  some ("__init__", "InvalidRow.__init__", defArgs s_E_InvalidRow, .stmts (defBody s_E_InvalidRow), defScope s_E_InvalidRow, mainGlobals, [], builtinsNs),
  some ("__init__", "InvalidHolds.__init__", defArgs s_E_InvalidHolds, .stmts (defBody s_E_InvalidHolds), defScope s_E_InvalidHolds, mainGlobals, [], builtinsNs)]
def fvs : List He.FnW := fvs0 ++ (fvs1 ++ (fvs2))
def tbs : List He.Tab := [(fun K => (aa_T_ROW_CHECKS K), ["take", "give", "move", "lift"])]
def ls0 : List Str := ["_wall", "is_an_integer", "is_list", "is_word", "are_different_words", "WayError", "InvalidGroup", "InvalidParents", "InvalidStruck", "InvalidKind", "InvalidRow", "InvalidWord", "InvalidHolds", "InvalidCount", "StandError", "IsTop", "LimitError", "TooMany", "ROW_KINDS", "WAY_WORDS", "LIFT_ROWS", "has_words_of", "tests_are_ahead", "off_has_home", "is_take_row", "is_give_row", "is_move_row", "is_lift_row", "ROW_CHECKS", "is_row"]
def ls1 : List Str := ["fits_batch", "fits_shared", "FAILS", "MOST_BATCH", "check_rows", "check_fails", "check_bool", "check_holds", "check_batch", "check_row_kind", "Book", "Course", "take_course", "give_course", "move_course", "lift_course", "settle_course", "MOST_GROUPS", "check_group", "check_parents", "check_struck", "Tree", "plan", "take_plan", "give_plan", "move_plan", "lift_plan", "settle_plan", "_law_pot", "_law_draw"]
def ls2 : List Str := ["_law_pick", "_law_sequences", "_law_is_ahead", "_law_is_take", "_law_is_give", "_law_is_move", "_law_takes", "_law_gives", "_law_moves", "_law_lifts", "_law_any", "_law_book", "_law_words_shown", "_law_shown", "_law_plain", "_law_is_refused", "_law_right"]
def loose : List Str := ls0 ++ (ls1 ++ (ls2))
abbrev R : PySem.W.OpenRow := PySem.W.OpenLaw.row PySem.Challenge.rw_chargeways_k28_books_shown
def as : List Addr := (List.range 1000).reverse
abbrev hk : PySem.W.Hook := HK.hook as ats fvs tbs ex
def ob (s : PySem.W.SharedT) : HK.Al := HK.obsM as ats tbs ex (HandSHeadRun.getT s)
theorem ob_eq (s : PySem.W.SharedT) : ob s = hk.obs s.abs := HK.obs_eq (HandSHeadRun.getT_eq s)
set_option maxHeartbeats 0 in
theorem run_f (w : World) : HandSHeadRun.RunEq R (PySem.W.view R.prog [84, 86]) hk ob 9000 loose (w.withFollow "special-get-raises" false) := by
  intro os
  kernel_rfl
set_option maxHeartbeats 0 in
theorem run_t (w : World) : HandSHeadRun.RunEq R (PySem.W.view R.prog [84, 86]) hk ob 9000 loose (w.withFollow "special-get-raises" true) := by
  intro os
  kernel_rfl
theorem run : ∀ w : World, HandSHeadRun.RunEq R (PySem.W.view R.prog [84, 86]) hk ob 9000 loose w := PySem.W.byRow2 "special-get-raises" (P := fun w => HandSHeadRun.RunEq R (PySem.W.view R.prog [84, 86]) hk ob 9000 loose w) run_f run_t
end Hd
namespace My
/-- the parents of the groups 1, 2, .. : each one ahead of its child -/
def Good (ps : List Nat) : Prop := ∀ i, i < ps.length → ps.getD i 0 ≤ i
def up (ps : List Nat) (g : Nat) : Nat := ps.getD (g - 1) 0
def pathF (ps : List Nat) : Nat → Nat → List Nat
  | 0, g => [g]
  | f + 1, g => if g = 0 then [0] else g :: pathF ps f (up ps g)
def path (ps : List Nat) (g : Nat) : List Nat := pathF ps g g
theorem up_lt {ps : List Nat} (h : Good ps) {g : Nat} (h0 : 0 < g) (h1 : g ≤ ps.length) : up ps g < g := by
  have q := h (g - 1) (by omega)
  unfold up
  omega
theorem pathF_eq {ps : List Nat} (h : Good ps) : ∀ (f f' g : Nat), g ≤ f → g ≤ f' → g ≤ ps.length → pathF ps f g = pathF ps f' g
  | 0, 0, g, _, _, _ => rfl
  | 0, f' + 1, g, h1, _, _ => by
    have e : g = 0 := by omega
    subst e
    rfl
  | f + 1, 0, g, _, h2, _ => by
    have e : g = 0 := by omega
    subst e
    rfl
  | f + 1, f' + 1, g, h1, h2, h3 => by
    unfold pathF
    by_cases e : g = 0
    · rw [if_pos e, if_pos e]
    · have u := up_lt h (by omega) h3
      rw [if_neg e, if_neg e, pathF_eq h f f' (up ps g) (by omega) (by omega) (by omega)]
theorem path_zero (ps : List Nat) : path ps 0 = [0] := rfl
theorem path_step {ps : List Nat} (h : Good ps) {g : Nat} (h0 : 0 < g) (h1 : g ≤ ps.length) : path ps g = g :: path ps (up ps g) := by
  have u := up_lt h h0 h1
  obtain ⟨f, rfl⟩ : ∃ f, g = f + 1 := ⟨g - 1, by omega⟩
  show (if f + 1 = 0 then [0] else (f + 1) :: pathF ps f (up ps (f + 1))) = _
  rw [if_neg (by omega), pathF_eq h f (up ps (f + 1)) (up ps (f + 1)) (by omega) (Nat.le_refl _) (by omega)]
  rfl
theorem path_len {ps : List Nat} (h : Good ps) : ∀ (n g : Nat), g ≤ n → g ≤ ps.length → (path ps g).length ≤ g + 1 := by
  intro n
  induction n with
  | zero =>
    intro g h1 _
    have e : g = 0 := by omega
    subst e
    exact Nat.le_refl _
  | succ n ih =>
    intro g h1 h2
    by_cases e : g = 0
    · subst e
      exact Nat.le_refl _
    · have u := up_lt h (by omega) h2
      have q := ih (up ps g) (by omega) (by omega)
      rw [path_step h (by omega) h2, List.length_cons]
      omega
theorem path_len_le {ps : List Nat} (h : Good ps) {g : Nat} (h2 : g ≤ ps.length) : (path ps g).length ≤ g + 1 := path_len h g g (Nat.le_refl _) h2
theorem Good.snoc {ps : List Nat} (h : Good ps) {g : Nat} (hg : g ≤ ps.length) : Good (ps ++ [g]) := by
  intro i hi
  rw [List.length_append, List.length_singleton] at hi
  rw [List.getD_eq_getElem?_getD]
  by_cases e : i < ps.length
  · rw [List.getElem?_append_left e, ← List.getD_eq_getElem?_getD]
    exact h i e
  · have e2 : i = ps.length := by omega
    subst e2
    rw [List.getElem?_append_right (Nat.le_refl _), Nat.sub_self]
    exact hg
theorem Good.nil : Good [] := fun i h => absurd h (Nat.not_lt_zero i)
theorem Good.range (n : Nat) : Good (List.range n) := by
  intro i hi
  rw [List.length_range] at hi
  rw [List.getD_eq_getElem?_getD, List.getElem?_range hi]
  exact Nat.le_refl _
end My
namespace MyT
open My PySem PySem.Spec PyProof.Rows L2 GL Evl StX SkE
section
variable {K : PySem.W.Frag} {σ : L2.St} {H : Hp} {te : TE} {x y v : V} {r : R2}
theorem rc_isi {u t : Value} {b : Bool} {c : V} (k : ClsV c u) (ty : ∀ H1, TyX K H1 x t) (h : PySem.W.kitOne K t u = some b) : RC (rIsi K) [x, c] H (.bl b) := fun H1 e Q q => ⟨x, c, t, u, b, rfl, k, ty H1, h, q H1 (Ex.refl H1)⟩
theorem et_is' {b : Bool} (h : Ev te σ H (.bl b)) : Ev te σ H (.bl b) := h
theorem rv_bl {a b : Bool} (h : RV r x y H (.bl a)) (e : a = b) : RV r x y H (.bl b) := by
  rw [← e]
  exact h
end
/-! ### helpers -/
abbrev nV (n : Nat) : V := .int (n : Int)
def upsV (ps : List Nat) : List V := V.non :: ps.map nV
theorem upsV_len (ps : List Nat) : (upsV ps).length = ps.length + 1 := by
  unfold upsV
  rw [List.length_cons, List.length_map]
theorem nV_eq (a b : Nat) : decide (nV a = nV b) = decide (a = b) := by
  by_cases e : a = b
  · subst e
    rw [decide_eq_true rfl, decide_eq_true rfl]
  · have z : ¬ nV a = nV b := fun q => e (by have := V.int.inj q; omega)
    rw [decide_eq_false z, decide_eq_false e]
theorem inV_nat (a : Nat) : ∀ l : List Nat, inV (nV a) (l.map nV) = decide (a ∈ l)
  | [] => rfl
  | b :: l => by
    have ih := inV_nat a l
    show (((b : Int) == (a : Int)) || inV (nV a) (l.map nV)) = decide (a ∈ b :: l)
    rw [ih]
    by_cases e : a = b
    · subst e
      simp
    · have z : ((b : Int) == (a : Int)) = false := beq_eq_false_iff_ne.mpr (by omega)
      rw [z, Bool.false_or]
      by_cases m : a ∈ l
      · rw [decide_eq_true m, decide_eq_true (List.mem_cons_of_mem _ m)]
      · rw [decide_eq_false m, decide_eq_false (fun q => (List.mem_cons.mp q).elim e m)]
theorem flat_nat (l : List Nat) : (l.map nV).all flatV = true := by
  rw [List.all_eq_true]
  intro x hx
  obtain ⟨n, _, rfl⟩ := List.mem_map.mp hx
  rfl
theorem at_nat {l : List Nat} {i : Nat} (h : i < l.length) : (l.map nV)[i]? = some (nV (l.getD i 0)) := by
  rw [List.getElem?_map, List.getElem?_eq_getElem h, List.getD_eq_getElem?_getD, List.getElem?_eq_getElem h]
  rfl
theorem ups_at {ps : List Nat} {g : Nat} (h0 : 0 < g) (h : g ≤ ps.length) : (upsV ps)[g]? = some (nV (up ps g)) := by
  obtain ⟨f, rfl⟩ : ∃ f, g = f + 1 := ⟨g - 1, by omega⟩
  unfold upsV up
  rw [List.getElem?_cons_succ, at_nat (by omega), Nat.add_sub_cancel]
section
variable {K : PySem.W.Frag} {σ : L2.St} {H H' : Hp} {ta tb te : TE} {t u : TT} {x y z v : V} {C : Addr}
theorem ev_fld {p dx : Addr} {fs : List (Str × V)} {f : Str} (ha : Ev ta σ H (.ref p)) (h : H p = some (.ins C dx fs)) (c : Cls K C) (n : NoAttr K C f) (l : fs.lookup f = some v) : Ev (tFld K ta f) σ H v :=
  fun H1 e Q q => ha H1 e _ fun H2 e2 => ⟨p, C, dx, fs, v, rfl, e2 _ _ (e _ _ h), c, n, l, q H2 e2⟩
theorem el_meth {m : Str} {sp : Sp} {dvs vs xs : List V} {Er : XK} {tb : TA} {p dx : Addr} {fs : List (Str × V)} (ha : Ev ta σ H (.ref p)) (h : H p = some (.ins C dx fs)) (l : fs.lookup m = none) (hb : EvA tb σ H vs) (hs : SpL sp (.ref p :: (vs ++ dvs)) H xs) : EvL (tMeth C m sp dvs Er ta tb) σ H xs :=
  fun H1 e Q q => ha H1 e _ fun H2 e2 => ⟨p, dx, fs, rfl, e2 _ _ (e _ _ h), l, hb H2 (e.trans e2) _ fun H3 e3 => hs H3 ((e.trans e2).trans e3) Q (fun r H4 hr e4 h4 => q r H4 (fresh_back (e2.trans e3) hr) ((e2.trans e3).trans e4) h4) Er⟩
theorem ev_chain {r r' : R2} {tc : TE} {w : V} {b c : Bool} (ha : Ev ta σ H x) (hb : Ev tb σ H y) (hr : RV r x y H (.bl b)) (hc : b = true → Ev tc σ H w) (hr' : b = true → RV r' y w H (.bl c)) : Ev (tChain r r' ta tb tc) σ H (.bl (b && c)) := fun H1 e Q q =>
  ha H1 e _ fun H2 e2 => hb H2 (e.trans e2) _ fun H3 e3 => hr H3 ((e.trans e2).trans e3) _ fun H4 e4 => ⟨b, rfl, by
    have f4 := (e2.trans e3).trans e4
    cases b with
    | false => exact q H4 f4
    | true => exact hc rfl H4 (e.trans f4) _ fun H5 e5 => hr' rfl H5 ((e.trans f4).trans e5) Q fun H6 e6 => q H6 ((f4.trans e5).trans e6)⟩
end
/-! ### a tree -/
def tf (la ls : Addr) : List (Str × V) := putF "_struck" (.ref ls) (putF "_above" (.ref la) [])
theorem tf_above (la ls : Addr) : (tf la ls).lookup ("_above" : Str) = some (.ref la) := by
  unfold tf
  rw [lookup_putF, if_neg (by decide +kernel), lookup_putF, if_pos rfl]
theorem tf_no (la ls : Addr) {m : Str} (h1 : ¬ m = "_struck") (h2 : ¬ m = "_above") : (tf la ls).lookup m = none := by
  unfold tf
  rw [lookup_putF, if_neg h1, lookup_putF, if_neg h2]
  rfl
/-- at t a tree with these parents and struck groups -/
structure TreeP (C : Addr) (H : Hp) (t dx la ls : Addr) (ps st : List Nat) : Prop where
  ob : H t = some (.ins C dx (tf la ls))
  ab : H la = some (.lst (upsV ps))
  sk : H ls = some (.lst (st.map nV))
def TreeAt (C : Addr) (H : Hp) (t : Addr) (ps st : List Nat) : Prop := ∃ dx la ls, TreeP C H t dx la ls ps st
theorem TreeP.ex {C : Addr} {H H' : Hp} {t dx la ls : Addr} {ps st : List Nat} (h : TreeP C H t dx la ls ps st) (e : Ex H H') : TreeP C H' t dx la ls ps st := ⟨e _ _ h.ob, e _ _ h.ab, e _ _ h.sk⟩
theorem TreeAt.ex {C : Addr} {H H' : Hp} {t : Addr} {ps st : List Nat} (h : TreeAt C H t ps st) (e : Ex H H') : TreeAt C H' t ps st := by
  obtain ⟨dx, la, ls, p⟩ := h
  exact ⟨dx, la, ls, p.ex e⟩
/-- the same, all of it made behind H0 -/
def TreeNew (C : Addr) (H0 H : Hp) (t : Addr) (ps st : List Nat) : Prop := ∃ dx la ls, TreeP C H t dx la ls ps st ∧ H0 t = none ∧ H0 la = none ∧ H0 ls = none
theorem TreeNew.now {C : Addr} {H0 H : Hp} {t : Addr} {ps st : List Nat} (h : TreeNew C H0 H t ps st) : TreeAt C H t ps st := by
  obtain ⟨dx, la, ls, p, _⟩ := h
  exact ⟨dx, la, ls, p⟩
theorem TreeNew.ex {C : Addr} {H0 H H' : Hp} {t : Addr} {ps st : List Nat} (h : TreeNew C H0 H t ps st) (e : Ex H H') : TreeNew C H0 H' t ps st := by
  obtain ⟨dx, la, ls, p, q⟩ := h
  exact ⟨dx, la, ls, p.ex e, q⟩
/-! ### promises: the program -/
/-- a list, a tuple, a tuple of the text -/
inductive Seq (K : PySem.W.Frag) (H : Hp) (a : Addr) (xs : List V) : Prop where
  | lst (h : H a = some (.lst xs))
  | tup (h : H a = some (.tup xs))
  | kst (h : ∀ H, SqT K H a xs) (y : ∀ H, TyX K H (.ref a) (.type "tuple"))
theorem Seq.ex {K : PySem.W.Frag} {H H' : Hp} {a : Addr} {xs : List V} (h : Seq K H a xs) (e : Ex H H') : Seq K H' a xs := by
  cases h with
  | lst h => exact .lst (e _ _ h)
  | tup h => exact .tup (e _ _ h)
  | kst h y => exact .kst h y
theorem Seq.sq {K : PySem.W.Frag} {H : Hp} {a : Addr} {xs : List V} (h : Seq K H a xs) : SqL K H a xs ∨ SqT K H a xs := by
  cases h with
  | lst h => exact .inl (sq_of h)
  | tup h => exact .inr (st_of h)
  | kst h y => exact .inr (h H)
theorem Seq.ty {K : PySem.W.Frag} {H : Hp} {a : Addr} {xs : List V} (h : Seq K H a xs) : TyX K H (.ref a) (.type "list") ∨ TyX K H (.ref a) (.type "tuple") := by
  cases h with
  | lst h => exact .inl (.base (.lst h))
  | tup h => exact .inr (.base (.tup h))
  | kst h y => exact .inr (y H)
theorem pi_or {X : Cx} {tg it : Expr} {w1 w2 : TI} (h1 : PI X tg it w1) (h2 : PI X tg it w2) : PI X tg it (fun σ H R => w1 σ H R ∨ w2 σ H R) :=
  ⟨fun pins s σ H R I h => h.elim (h1.run pins s σ H R I) (h2.run pins s σ H R I)⟩
section
variable {K : PySem.W.Frag} {σ : L2.St} {H : Hp} {a : Addr} {xs : List V} {ta : TA} {D : Ends} {tb : TS}
/-- for i, x in enumerate(seq) -/
theorem s_forE {i j : Nat} {Hb : Hp} (h : EvA ta σ H [.ref a]) (hs : Seq K Hb a xs) (hb : Ex Hb H) (Pv : Nat → L2.St → Hp → Prop) (h0 : ∀ H1, Ex H H1 → Pv 0 σ H1) (hE : ∀ n σ' H', Pv n σ' H' → Ex Hb H')
    (step : ∀ n x σ' H' H2, xs[n]? = some x → Pv n σ' H' → Ex H' H2 → tb { D with nx := Pv (n + 1), ct := Pv (n + 1), bk := D.nx } ((σ'.set i (some (.int (n : Nat)))).set j (some x)) H2) (hd : ∀ σ' H', Pv xs.length σ' H' → D.nx σ' H') :
    tFor (fun σ H R => iEnum K ta σ H R ∨ iEnT K ta σ H R) (gTup K 2 (gCons (gName i) (gCons (gName j) gNil))) tb D σ H := by
  have turn : ∀ n v σ' H' H2, Pv n σ' H' → YPair (fun i => some (.int (i : Nat))) (fun i => xs[i]?) n H' v H2 → gTup K 2 (gCons (gName i) (gCons (gName j) gNil)) v σ' H2 fun σ2 H2 => tb { D with nx := Pv (n + 1), ct := Pv (n + 1), bk := D.nx } σ2 H2 := by
    rintro n v σ' H' H2 p ⟨T, x, z, rfl, nT, rfl, e1, e2⟩
    cases e1
    exact ⟨T, _, rfl, st_of upd_same, rfl, _, _, rfl, _, _, rfl, rfl, step n z σ' H' _ e2 p (Ex.new nT)⟩
  have tupled : (∀ H', Ex Hb H' → SqT K H' a xs) → tFor (fun σ H R => iEnum K ta σ H R ∨ iEnT K ta σ H R) (gTup K 2 (gCons (gName i) (gCons (gName j) gNil))) tb D σ H := fun st =>
    .inr (h H (Ex.refl H) _ fun H1 e => ⟨a, xs, rfl, st H1 (hb.trans e), for_it (walk_enumE) Pv (h0 H1 e) (fun n σ' H' _ p => st H' (hE n σ' H' p)) (fun n v σ' H' H2 _ p y => turn n v σ' H' H2 p (by simpa using y)) hd⟩)
  cases hs with
  | lst hl => exact .inl (h H (Ex.refl H) _ fun H1 e => ⟨a, xs, rfl, sq_of (e _ _ (hb _ _ hl)), for_it walk_enum Pv (h0 H1 e) (fun n σ' H' _ p => sq_of (hE n σ' H' p _ _ hl)) (fun n v σ' H' H2 _ p y => turn n v σ' H' H2 p y) hd⟩)
  | tup hl => exact tupled fun H' e => st_of (e _ _ hl)
  | kst hl _ => exact tupled fun H' _ => hl H'
end
def sp_is_an_integer : Sp := fun vs H Q _ => ∃ i : Int, vs = [.int i] ∧ RetV (.bl true) H Q
def sp_is_list (K : PySem.W.Frag) : Sp := fun vs H Q _ => ∃ a xs, vs = [.ref a] ∧ Seq K H a xs ∧ RetV (.bl true) H Q
def sp_Tlen (C : Addr) : Sp := fun vs H Q _ => ∃ t ps st, vs = [.ref t] ∧ TreeAt C H t ps st ∧ ps.length ≤ 199 ∧ RetV (nV (ps.length + 1)) H Q
def sp_check_group (C : Addr) : Sp := fun vs H Q _ => ∃ t ps st, ∃ g : Nat, vs = [.ref t, nV g] ∧ TreeAt C H t ps st ∧ ps.length ≤ 199 ∧ g ≤ ps.length ∧ RetV .non H Q
section
variable {P : Program} {w : World} {K : PySem.W.Frag} {mg : Str → Option Value} {base : Heap}
theorem ok_is_an_integer (T : Txt K mg w) : FnG P w K mg base CX0 1 T.f_is_an_integer T.fd_is_an_integer ["value"] sp_is_an_integer := by
  refine okG T.F_is_an_integer sc_is_an_integer (fun vs H Q E h => ?_) (fun cdv A outer s H vs Q E gd hr h => ?_)
  · obtain ⟨i, rfl, _⟩ := h
    rfl
  · obtain ⟨i, rfl, q⟩ := h
    refine ⟨_, (pss_one (ps_ret (pe_and (pe_callB call_isi (by rfl) T.z_isinstance boot_isinstance (pa_cons (pv 0) (pa_cons (pe_bltn (v := .ty "int") (u := .type "int") (by rfl) T.z_int (by decide +kernel) rfl) pa_nil))) (pe_one (pe_not (pe_callB call_isi (by rfl) T.z_isinstance boot_isinstance (pa_cons (pv 0) (pa_cons (pe_bltn (v := .ty "bool") (u := .type "bool") (by rfl) T.z_bool (by decide +kernel) rfl) pa_nil)))))))), ?_⟩
    refine s_ret (v := .bl true) (ev_andV (a := true) (b := true) (ev_cb (ea_cons (ev_var rfl) (ea_cons ev_c ea_nil)) (rc_isi (.ty "int") (fun _ => .base (.int i)) (kit_ty (by decide +kernel)))) fun _ => ?_) q
    exact ev_notV (a := false) (ev_cb (ea_cons (ev_var rfl) (ea_cons ev_c ea_nil)) (rc_isi (.ty "bool") (fun _ => .base (.int i)) (kit_ty (by decide +kernel))))
theorem ok_is_list (T : Txt K mg w) : FnG P w K mg base CX0 1 T.f_is_list T.fd_is_list ["value"] (sp_is_list K) := by
  refine okG T.F_is_list sc_is_list (fun vs H Q E h => ?_) (fun cdv A outer s H vs Q E gd hr h => ?_)
  · obtain ⟨a, xs, rfl, _⟩ := h
    rfl
  · obtain ⟨a, xs, rfl, hs, q⟩ := h
    refine ⟨_, (pss_one (ps_ret (pe_callB call_isiT (by rfl) T.z_isinstance boot_isinstance (pa_cons (pv 0) (pa_cons (pe_tup (pa_cons (pe_bltn (v := .ty "list") (u := .type "list") (by rfl) T.z_list (by decide +kernel) rfl) (pa_cons (pe_bltn (v := .ty "tuple") (u := .type "tuple") (by rfl) T.z_tuple (by decide +kernel) rfl) pa_nil))) pa_nil))))), ?_⟩
    refine ⟨_, rfl, (by show 2 ≤ sizeLine; decide), fun p hp => ?_⟩
    have e := Ex.new (o := .tup [.ty "list", .ty "tuple"]) hp
    rcases (hs.ex e).ty with ty | ty
    · exact ⟨.ref a, p, _, _, _, true, rfl, upd_same, .cons (.ty "list") (.cons (.ty "tuple") .nil), ty, kitAny_cons (b := true) (kit_ty (by decide +kernel)) (fun z => nomatch z) (fun _ => rfl), q _ e⟩
    · exact ⟨.ref a, p, _, _, _, true, rfl, upd_same, .cons (.ty "list") (.cons (.ty "tuple") .nil), ty, kitAny_cons (b := false) (kit_ty (by decide +kernel)) (fun _ => kitAny_cons (b := true) (kit_ty (by decide +kernel)) (fun z => nomatch z) (fun _ => rfl)) (fun z => nomatch z), q _ e⟩
theorem ok_Tlen (T : Txt K mg w) : FnG P w K mg base CX0 1 T.f_Tlen T.fd_Tlen ["self"] (sp_Tlen T.C_Tree) := by
  refine okG T.F_Tlen sc_Tlen (fun vs H Q E h => ?_) (fun cdv A outer s H vs Q E gd hr h => ?_)
  · obtain ⟨t, ps, st, rfl, _⟩ := h
    rfl
  · obtain ⟨t, ps, st, rfl, ⟨dx, la, ls, p⟩, hl, q⟩ := h
    refine ⟨_, (pss_one (ps_ret (pe_callB call_len_seq (by rfl) T.z_len PySem.boot_len (pa_cons (pe_fld (pv 0) rfl) pa_nil)))), ?_⟩
    refine s_ret (ev_is (ev_len (ev_fld (ev_var rfl) p.ob T.c_Tree T.n_above (tf_above la ls)) (sq_of p.ab)) ?_) q
    rw [upsV_len]
/-- len(tree) by its own method -/
theorem rc_lenT {C : Addr} {H : Hp} {t : Addr} {ps st : List Nat} {E : XK} (h : TreeAt C H t ps st) (hl : ps.length ≤ 199) :
    RC (fun xs H Q => ∃ a dx fs, xs = [V.ref a] ∧ H a = some (.ins C dx fs) ∧ sp_Tlen C [V.ref a] H (fun v H' => ∃ n : Nat, v = V.int (n : Int) ∧ n < 1000000 ∧ Q (V.int (n : Int)) H') E) [V.ref t] H (nV (ps.length + 1)) := by
  intro H1 e Q q
  obtain ⟨dx, la, ls, p⟩ := h.ex e
  exact ⟨t, dx, _, rfl, p.ob, t, ps, st, rfl, ⟨dx, la, ls, p⟩, hl, fun H2 e2 => ⟨ps.length + 1, rfl, by omega, q H2 e2⟩⟩
theorem ok_check_group (T : Txt K mg w) (G_is_an_integer : FnG P w K mg base CX0 1 T.f_is_an_integer T.fd_is_an_integer ["value"] sp_is_an_integer) (G_Tlen : FnG P w K mg base CX0 1 T.f_Tlen T.fd_Tlen ["self"] (sp_Tlen T.C_Tree)) : FnG P w K mg base CX0 3 T.f_check_group T.fd_check_group ["tree", "value"] (sp_check_group T.C_Tree) := by
  refine okG T.F_check_group sc_check_group (fun vs H Q E h => ?_) (fun cdv A outer s H vs Q E gd hr h => ?_)
  · obtain ⟨t, ps, st, g, rfl, _⟩ := h
    rfl
  · obtain ⟨t, ps, st, g, rfl, ht, hl, hg, q⟩ := h
    refine ⟨_, (pss_one (ps_if ((pw_or (pt_not (pt_val (pc gd G_is_an_integer (hr.mono (by decide)) (by rfl) T.m_is_an_integer T.F_is_an_integer.kp T.b_is_an_integer .nil pass0 (pa_cons (pv 1) pa_nil)))) (pw_or1 (pt_not (pt_chain op_le op_lt pe_int (pv 1) (pe_callB (call_lenG gd G_Tlen (hr.mono (by decide)) T.b_Tlen T.M_Tlen.at_ T.M_Tlen.fn pass0) (by rfl) T.z_len PySem.boot_len (pa_cons (pv 0) pa_nil))))))).pt (pss_one ps_never) pss_nil)), ?_⟩
    refine s_when (b := false) (et_is (et_or (a := false) (b := false) (et_is (et_not (et_B (b := true) (ev_call (ea_cons (ev_var rfl) ea_nil) fun H1 e Q q E => ⟨g, rfl, q⟩))) rfl) fun _ => ?_) rfl) (fun z => nomatch z) fun _ H1 e1 => q H1 e1
    refine et_is (et_not (a := true) (et_test (et_is' (ev_chain (b := true) (c := true) ev_c (ev_var rfl) ?_ (fun _ => ev_cb (ea_cons (ev_var rfl) ea_nil) (rc_lenT ht hl)) ?_)))) rfl
    · exact rv_bl rv_I0 (decide_eq_true (by omega))
    · exact fun _ => rv_bl rv_I0 (decide_eq_true (by omega))
end
end MyT
namespace MyT
open My PySem PySem.Spec PyProof.Rows L2 GL Evl StX SkE
section
variable {K : PySem.W.Frag} {σ : L2.St} {H : Hp} {a : Addr} {xs : List V} {ta : TA} {te tb : TE} {D : Ends} {tz : TS} {C : Addr}
theorem ea_star {tr : TA} {ys : List V} (h : Ev te σ H (.ref a)) (hs : Seq K H a xs) (hr : EvA tr σ H ys) : EvA (tStar K te tr) σ H (xs ++ ys) := fun H1 e Q q =>
  h H1 e _ fun H2 e2 => ⟨a, xs, rfl, (hs.ex (e.trans e2)).sq.symm, hr H2 (e.trans e2) _ fun H3 e3 => q H3 (e2.trans e3)⟩
theorem q_fldL {f : Str} {p dx : Addr} {fs : List (Str × V)} (h : EvL te σ H xs) (ho : Ev tb σ H (.ref p)) (hp : H p = some (.ins C dx fs)) (c : Cls K C) (n : NoAttr K C f) (hl : fs.length < 1000)
    (k : ∀ l H1, H l = none → Ex H H1 → H1 l = some (.lst xs) → tz D σ (upd H1 p (.ins C dx (putF f (.ref l) fs)))) : tSeq (sFld K tb te f) tz D σ H :=
  h H (Ex.refl H) _ fun l H1 hl0 e1 h1 => ho H1 e1 _ fun H2 e2 => ⟨p, C, dx, fs, rfl, e2 _ _ (e1 _ _ hp), c, n, hl, k l H2 hl0 (e1.trans e2) (e2 _ _ h1)⟩
/-- [.. for i, x in enumerate(seq, start=k) if ..] -/
theorem el_lcEK {tk : TA} {i j : Nat} {vs : List Nat} {k : Int} {tt : TT} (f : Nat → Bool) (v : Nat → V) (h : EvA ta σ H [.ref a]) (hk : EvA tk σ H [.int k]) (hk0 : -1000 ≤ k ∧ k ≤ 1000) (hx : Seq K H a xs) (hz : xs.length ≤ 40000)
    (hw : ∀ x y, wipe (((wipe σ vs).set i (some x)).set j (some y)) vs = wipe σ vs)
    (ht : ∀ (n : Nat) (x : V) H1, Ex H H1 → xs[n]? = some x → EvT tt (((wipe σ vs).set i (some (.int (k + (n : Nat))))).set j (some x)) H1 (f n)) (he : ∀ (n : Nat) (x : V) H1, Ex H H1 → xs[n]? = some x → f n = true → Ev te (((wipe σ vs).set i (some (.int (k + (n : Nat))))).set j (some x)) H1 (v n)) :
    EvL (tLc (fun σ H R => iEnK K ta tk σ H R ∨ iEnKT K ta tk σ H R) (gTup K 2 (gCons (gName i) (gCons (gName j) gNil))) tt te vs) σ H (given xs.length f v) := fun H0 e Q q => by
  have turn : ∀ (SQ : Hp → Addr → List V → Prop) (H2 : Hp), Ex H H2 → ∀ (n : Nat) (w : V) (H' H3 : Hp) (Dl : Addr), n < xs.length → Cw H2 f v Dl n H' → YPair (fun i => some (.int (k + (i : Nat)))) (fun i => xs[i]?) n H' w H3 → gTup K 2 (gCons (gName i) (gCons (gName j) gNil)) w (wipe σ vs) H3 fun σ2 H4 => wipe σ2 vs = wipe σ vs ∧ tt σ2 H4 fun b H5 => if b = true then te σ2 H5 fun y H6 => ∃ acc, H6 Dl = some (.lst acc) ∧ acc.length < sizeLine ∧ Cw H2 f v Dl (n + 1) (upd H6 Dl (.lst (acc ++ [y]))) else Cw H2 f v Dl (n + 1) H5 := by
    rintro SQ H2 eH n w H' H3 Dl hn p ⟨T, y, z, rfl, nT, rfl, q1, q2⟩
    cases q1
    have p' : Cw H2 f v Dl n (upd H' T (.tup [.int (k + (n : Nat)), z])) := ⟨p.1, p.2.1.trans (Ex.new nT), Ex.new nT _ _ p.2.2⟩
    exact ⟨T, _, rfl, st_of upd_same, rfl, _, _, rfl, _, _, rfl, rfl, hw _ _, cw_turn p' (by omega) (ht n z H2 eH q2) (fun hf => he n z H2 eH q2 hf)⟩
  have tupled : (∀ H', Ex H H' → SqT K H' a xs) → tLc (fun σ H R => iEnK K ta tk σ H R ∨ iEnKT K ta tk σ H R) (gTup K 2 (gCons (gName i) (gCons (gName j) gNil))) tt te vs σ H0 Q := fun st => .inr (h H0 e _ fun H1 e1 => hk H1 (e.trans e1) _ fun H2 e2 => ⟨a, xs, k, rfl, rfl, by omega, by omega, st H2 ((e.trans e1).trans e2), fun Dl hD =>
    lc_it (walk_enumE (SQ := SqT K)) (Cw H2 f v Dl) ⟨hD, Ex.new hD, upd_same⟩ (fun n H' _ p => st H' (((e.trans e1).trans e2).trans p.2.1)) (fun n w H' H3 hn p y => turn (SqT K) H2 ((e.trans e1).trans e2) n w H' H3 Dl hn p y) (fun H' p => q Dl H' (fresh_back (e1.trans e2) p.1) ((e1.trans e2).trans p.2.1) p.2.2)⟩)
  cases hx with
  | lst hx => exact .inl (h H0 e _ fun H1 e1 => hk H1 (e.trans e1) _ fun H2 e2 => ⟨a, xs, k, rfl, rfl, by omega, by omega, sq_of (((e.trans e1).trans e2) _ _ hx), fun Dl hD =>
    lc_it (walk_enumE (SQ := SqL K)) (Cw H2 f v Dl) ⟨hD, Ex.new hD, upd_same⟩ (fun n H' _ p => sq_of (p.2.1 a _ (((e.trans e1).trans e2) _ _ hx))) (fun n w H' H3 hn p y => turn (SqL K) H2 ((e.trans e1).trans e2) n w H' H3 Dl hn p y) (fun H' p => q Dl H' (fresh_back (e1.trans e2) p.1) ((e1.trans e2).trans p.2.1) p.2.2)⟩)
  | tup hx => exact tupled fun H' e' => st_of (e' _ _ hx)
  | kst hx y => exact tupled fun H' _ => hx H'
end
theorem given_nat (n : Nat) (f : Nat → Bool) (v : Nat → Nat) : given n f (fun i => nV (v i)) = (((List.range n).filter f).map v).map nV := by
  unfold given
  rw [List.map_map]
  rfl
structure StOk (ps st : List Nat) : Prop where
  nd : st.Nodup
  bd : ∀ g ∈ st, 1 ≤ g ∧ g ≤ ps.length
  cl : ∀ c, 1 ≤ c → c ≤ ps.length → up ps c ∈ st → c ∈ st
theorem StOk.nil (ps : List Nat) : StOk ps [] := ⟨List.nodup_nil, fun _ h => absurd h List.not_mem_nil, fun _ _ _ h => absurd h List.not_mem_nil⟩
theorem StOk.len {ps st : List Nat} (h : StOk ps st) : st.length ≤ ps.length := by
  have q : ∀ (n : Nat) (l : List Nat), l.Nodup → (∀ x ∈ l, 1 ≤ x ∧ x ≤ n) → l.length ≤ n := by
    intro n
    induction n with
    | zero =>
      intro l _ hb
      cases l with
      | nil => exact Nat.le_refl _
      | cons x l =>
        have := hb x List.mem_cons_self
        omega
    | succ n ih =>
      intro l hn hb
      by_cases m : n + 1 ∈ l
      · have z := ih (l.erase (n + 1)) (hn.erase _) (fun x hx => by
          have h1 := (hn.mem_erase_iff).mp hx
          have := hb x h1.2
          exact ⟨this.1, by omega⟩)
        rw [List.length_erase_of_mem m] at z
        omega
      · have z := ih l hn (fun x hx => by
          have := hb x hx
          have : x ≠ n + 1 := fun e => m (e ▸ hx)
          exact ⟨by omega, by omega⟩)
        omega
  exact q _ _ h.nd h.bd
def sp_check_parents (K : PySem.W.Frag) : Sp := fun vs H Q _ => ∃ a ps, vs = [.ref a] ∧ Seq K H a (ps.map nV) ∧ Good ps ∧ ps.length ≤ 199 ∧ RetV .non H Q
def sp_check_struck (K : PySem.W.Frag) (w : World) : Sp := fun vs H Q _ => ∃ a b ps st, vs = [.ref a, .ref b] ∧ Seq K H a (ps.map nV) ∧ Seq K H b (st.map nV) ∧ ps.length ≤ 199 ∧ StOk ps st ∧ RetV .non H Q
section
variable {P : Program} {w : World} {K : PySem.W.Frag} {mg : Str → Option Value} {base : Heap}
theorem rv_sin {H : Hp} {p : Addr} {k : Int} {S : Int → Bool} {n : Nat} (h : H p = some (SetO w p S n)) : RV (rSIn w) (.int k) (.ref p) H (.bl (S k)) := fun H1 e Q q => ⟨k, p, S, n, rfl, rfl, e _ _ h, q H1 (Ex.refl H1)⟩
theorem rv_snin {H : Hp} {p : Addr} {k : Int} {S : Int → Bool} {n : Nat} (h : H p = some (SetO w p S n)) : RV (rSNotIn w) (.int k) (.ref p) H (.bl (!S k)) := fun H1 e Q q => ⟨k, p, S, n, rfl, rfl, e _ _ h, q H1 (Ex.refl H1)⟩
theorem sv_int {H : Hp} (i : Int) : SpV sp_is_an_integer [.int i] H (.bl true) := fun _ _ _ q _ => ⟨i, rfl, q⟩
theorem sv_list {H : Hp} {a : Addr} {xs : List V} (h : Seq K H a xs) : SpV (sp_is_list K) [.ref a] H (.bl true) := fun _ e _ q _ => ⟨a, xs, rfl, h.ex e, q⟩
theorem rc_len {H : Hp} {a : Addr} {xs : List V} (h : Seq K H a xs) : RC (rLenS K) [.ref a] H (.int (xs.length : Int)) := fun H1 e Q q => ⟨a, xs, rfl, (h.ex e).sq, q H1 (Ex.refl H1)⟩
theorem rc_lenN {H : Hp} {a : Addr} {ps : List Nat} (h : Seq K H a (ps.map nV)) : RC (rLenS K) [.ref a] H (nV ps.length) := by
  have q := rc_len h
  rwa [List.length_map] at q
theorem nat_item {ps : List Nat} {n : Nat} {x : V} (h : (ps.map nV)[n]? = some x) : n < ps.length ∧ x = nV (ps.getD n 0) := by
  have hl : n < ps.length := by
    have q := (List.getElem?_eq_some_iff.mp h).1
    rwa [List.length_map] at q
  exact ⟨hl, Option.some.inj (h.symm.trans (at_nat hl))⟩
theorem ok_check_parents (T : Txt K mg w) (G_is_list : FnG P w K mg base CX0 1 T.f_is_list T.fd_is_list ["value"] (MyT.sp_is_list K)) (G_is_an_integer : FnG P w K mg base CX0 1 T.f_is_an_integer T.fd_is_an_integer ["value"] MyT.sp_is_an_integer) : FnG P w K mg base CX0 2 T.f_check_parents T.fd_check_parents ["parents"] (MyT.sp_check_parents K) := by
  skip
  refine okG T.F_check_parents sc_check_parents (fun vs H Q E h => ?_) (fun cdv A outer s H vs Q E gd hr h => ?_)
  · obtain ⟨a, ps, rfl, _⟩ := h
    all_goals rfl
  · obtain ⟨a, ps, rfl, hs, hg, hl, q⟩ := h
    refine ⟨_, (pss_cons (ps_if (pt_not (pt_val (pc gd G_is_list (hr.mono (by decide)) (by rfl) T.m_is_list T.F_is_list.kp T.b_is_list .nil pass0 (pa_cons (pv 0) pa_nil)))) (pss_one ps_never) pss_nil) (pss_cons (ps_for PassesOwn.never rfl (pi_or (pi_enum (by rfl) T.z_enumerate (pa_cons (pv 0) pa_nil)) (pi_enumT (by rfl) T.z_enumerate (pa_cons (pv 0) pa_nil))) (pg_tup rfl (pgs_cons (pg_name (i := 1) sc_check_parents.nd rfl (Or.inl rfl) (Or.inr rfl)) (pgs_cons (pg_name (i := 2) sc_check_parents.nd rfl (Or.inl rfl) (Or.inr rfl)) pgs_nil))) (pss_one (ps_if ((pw_or (pt_not (pt_val (pc gd G_is_an_integer (hr.mono (by decide)) (by rfl) T.m_is_an_integer T.F_is_an_integer.kp T.b_is_an_integer .nil pass0 (pa_cons (pv 2) pa_nil)))) (pw_or1 (pt_not (pt_chain op_le op_le pe_int (pv 2) (pv 1)))))).pt (pss_one ps_never) pss_nil))) (pss_one (ps_if (pt_cmpR op_gt (pe_op op_add (pe_callB call_len_seq (by rfl) T.z_len PySem.boot_len (pa_cons (pv 0) pa_nil)) pe_int) (pe_glob (v := .int 200) (by rfl) T.m_MOST_GROUPS ⟨_, rfl⟩) (nomark _)) (pss_one ps_never) pss_nil)))), ?_⟩
    refine q_when (b := false) (et_is (et_not (et_B (b := true) (ev_call (ea_cons (ev_var rfl) ea_nil) (sv_list hs)))) rfl) (fun z => nomatch z) fun _ H1 e1 => ?_
    have hs1 := hs.ex e1
    refine s_forE (D := { nx := _, rt := _ }) (ea_cons (ev_var rfl) ea_nil) hs1 (Ex.refl H1) (fun n σ' H' => Ex H1 H' ∧ ∃ y1 y2, σ' = [some (.ref a), y1, y2]) (fun H2 e2 => ⟨e2, _, _, rfl⟩) (fun n σ' H' p => p.1) (fun n x σ' H' H2 hx p e2 => ?_) (fun σ' H' p => ?_)
    · obtain ⟨e', y1, y2, rfl⟩ := p
      obtain ⟨hn, rfl⟩ := nat_item hx
      have hle := hg n hn
      refine s_when (b := false) (et_is (et_or (a := false) (b := false) (et_is (et_not (et_B (b := true) (ev_call (ea_cons (ev_var rfl) ea_nil) (sv_int _)))) rfl) fun _ => et_is (et_not (a := true) (et_test (ev_chain (b := true) (c := true) ev_c (ev_var rfl) (rv_bl rv_I0 (decide_eq_true ?_)) (fun _ => ev_var rfl) (fun _ => rv_bl rv_I0 (decide_eq_true ?_))))) rfl) rfl) (fun z => nomatch z) fun _ H3 e3 => ?_
      · omega
      · omega
      · exact ⟨e'.trans (e2.trans e3), _, _, rfl⟩
    · obtain ⟨e', y1, y2, rfl⟩ := p
      refine s_when (b := false) (et_test (ev_op (ev_op (ev_cb (ea_cons (ev_var rfl) ea_nil) (rc_lenN (hs1.ex e'))) ev_c rv_I0) ev_c (rv_bl rv_I0 (decide_eq_false ?_)))) (fun z => nomatch z) fun _ H3 e3 => q _ (e1.trans (e'.trans e3))
      omega
theorem ok_check_struck (T : Txt K mg w) (G_is_list : FnG P w K mg base CX0 1 T.f_is_list T.fd_is_list ["value"] (MyT.sp_is_list K)) (G_is_an_integer : FnG P w K mg base CX0 1 T.f_is_an_integer T.fd_is_an_integer ["value"] MyT.sp_is_an_integer) : FnG P w K mg base CX0 2 T.f_check_struck T.fd_check_struck ["parents", "struck"] (MyT.sp_check_struck K w) := by
  skip
  refine okG T.F_check_struck sc_check_struck (fun vs H Q E h => ?_) (fun cdv A outer s H vs Q E gd hr h => ?_)
  · obtain ⟨a, b, ps, st, rfl, _⟩ := h
    all_goals rfl
  · obtain ⟨a, b, ps, st, rfl, ha, hb, hl, ok, q⟩ := h
    refine ⟨_, (pss_cons (ps_if (pt_not (pt_val (pc gd G_is_list (hr.mono (by decide)) (by rfl) T.m_is_list T.F_is_list.kp T.b_is_list .nil pass0 (pa_cons (pv 1) pa_nil)))) (pss_one ps_never) pss_nil) (pss_cons (ps_set (i := 2) sc_check_struck.nd rfl (Or.inr rfl) (pe_callTy0 cr_set0 (by rfl) T.z_set (by decide +kernel))) (pss_cons (ps_for PassesOwn.never rfl (pi_or (pi_enum (by rfl) T.z_enumerate (pa_cons (pv 1) pa_nil)) (pi_enumT (by rfl) T.z_enumerate (pa_cons (pv 1) pa_nil))) (pg_tup rfl (pgs_cons (pg_name (i := 3) sc_check_struck.nd rfl (Or.inl rfl) (Or.inr rfl)) (pgs_cons (pg_name (i := 4) sc_check_struck.nd rfl (Or.inl rfl) (Or.inr rfl)) pgs_nil))) (pss_cons (ps_if ((pw_or (pt_not (pt_val (pc gd G_is_an_integer (hr.mono (by decide)) (by rfl) T.m_is_an_integer T.F_is_an_integer.kp T.b_is_an_integer .nil pass0 (pa_cons (pv 4) pa_nil)))) (pw_or (pt_not (pt_chain op_le op_le pe_int (pv 4) (pe_callB call_len_seq (by rfl) T.z_len PySem.boot_len (pa_cons (pv 0) pa_nil)))) (pw_or1 (pt_cmpR or_sin (pv 4) (pv 2) (by rfl)))))).pt (pss_one ps_never) pss_nil) (pss_one (ps_expr (pe_sadd (pv 2) (pa_cons (pv 4) pa_nil)))))) (pss_cons (ps_setLc (i := 5) (own := [("child", 6), ("parent", 7)]) (g := gTup K 2 (gCons (gName 6) (gCons (gName 7) gNil))) rfl sc_check_struck.nd rfl rfl (sw_true rfl rfl rfl (by decide +kernel)) (pi_or (pi_enumK (by rfl) T.z_enumerate (pa_cons (pv 0) pa_nil) (pk_cons pe_int pk_nil)) (pi_enumKT (by rfl) T.z_enumerate (pa_cons (pv 0) pa_nil) (pk_cons pe_int pk_nil))) (blkOk_by (N := N_check_struck) (sc := defScope s_check_struck) (by decide +kernel)) (fun _ _ _ _ _ => (pg_tup rfl (pgs_cons (pg_name (i := 6) sc_check_struck.nd rfl (Or.inl rfl) (Or.inr rfl)) (pgs_cons (pg_name (i := 7) sc_check_struck.nd rfl (Or.inl rfl) (Or.inr rfl)) pgs_nil)))) (fun _ _ _ _ _ => pts_one (pt_cmpR (show OpR _ (compareOp .NotIn) (rSNotIn w) from or_snotin) (pv 6) (pv 2) (by rfl))) (fun _ _ _ _ _ => (pv 7))) (pss_one (ps_for PassesOwn.never rfl (pi_or (pi_enum (by rfl) T.z_enumerate (pa_cons (pv 1) pa_nil)) (pi_enumT (by rfl) T.z_enumerate (pa_cons (pv 1) pa_nil))) (pg_tup rfl (pgs_cons (pg_name (i := 3) sc_check_struck.nd rfl (Or.inl rfl) (Or.inr rfl)) (pgs_cons (pg_name (i := 4) sc_check_struck.nd rfl (Or.inl rfl) (Or.inr rfl)) pgs_nil))) (pss_one (ps_if (pt_cmpR op_in_seq (pv 4) (pv 5) (by rfl)) (pss_one ps_never) pss_nil)))))))), ?_⟩
    refine q_when (b := false) (et_is (et_not (et_B (b := true) (ev_call (ea_cons (ev_var rfl) ea_nil) (sv_list hb)))) rfl) (fun z => nomatch z) fun _ H1 e1 => ?_
    -- seen = set()
    refine ⟨rfl, fun p hp => ?_⟩
    have ha1 := ha.ex e1
    have hb1 := hb.ex e1
    refine s_forE (D := { nx := _, rt := _ }) (Hb := H1) (ea_cons (ev_var rfl) ea_nil) hb1 (Ex.new hp)
      (fun n σ' H' => Ex H1 H' ∧ H' p = some (SetO w p (fun k => decide (k ∈ (st.take n).map fun g : Nat => (g : Int))) n) ∧ ∃ y3 y4, σ' = [some (.ref a), some (.ref b), some (.ref p), y3, y4, none, none, none])
      (fun H2 e2 => ⟨(Ex.new hp).trans e2, e2 _ _ (by rw [upd_same]; rfl), _, _, rfl⟩) (fun n σ' H' z => z.1) (fun n x σ' H' H2 hx z e2 => ?_) (fun σ' H' z => ?_)
    · obtain ⟨e', hp', y3, y4, rfl⟩ := z
      obtain ⟨hn, rfl⟩ := nat_item hx
      have hmem : st.getD n 0 ∈ st := by
        rw [List.getD_eq_getElem?_getD, List.getElem?_eq_getElem hn]
        exact List.getElem_mem hn
      have hbd := ok.bd _ hmem
      have hnew : ¬ ((st.getD n 0 : Nat) : Int) ∈ (st.take n).map fun g : Nat => (g : Int) := by
        intro m
        obtain ⟨g, hg, eg⟩ := List.mem_map.mp m
        have eg' : g = st.getD n 0 := by omega
        obtain ⟨i, hi, ei⟩ := List.getElem_of_mem hg
        rw [List.length_take] at hi
        rw [List.getElem_take] at ei
        have hin : i < n := by omega
        have en : st[i] = st[n] := by
          rw [ei, eg', List.getD_eq_getElem?_getD, List.getElem?_eq_getElem hn]
          rfl
        exact List.pairwise_iff_getElem.mp ok.nd i n (by omega) hn hin en
      refine q_when (b := false) (et_is (et_or (a := false) (b := false) (et_is (et_not (et_B (b := true) (ev_call (ea_cons (ev_var rfl) ea_nil) (sv_int _)))) rfl) fun _ => et_is (et_or (a := false) (b := false) (et_is (et_not (a := true) (et_test (ev_chain (b := true) (c := true) ev_c (ev_var rfl) (rv_bl rv_I0 (decide_eq_true ?_)) (fun _ => ev_cb (ea_cons (ev_var rfl) ea_nil) (rc_lenN ((ha1.ex e').ex e2))) (fun _ => rv_bl rv_I0 (decide_eq_true ?_))))) rfl) fun _ => et_test (ev_op (ev_var rfl) (ev_var rfl) (rv_bl (rv_sin (e2 _ _ hp')) (decide_eq_false hnew)))) rfl) rfl) (fun z => nomatch z) fun _ H3 e3 => ?_
      · omega
      · omega
      · refine ⟨.ref p, rfl, ⟨p, _, _, rfl, e3 _ _ (e2 _ _ hp')⟩, _, rfl, p, _, _, n, rfl, rfl, e3 _ _ (e2 _ _ hp'), (by have := ok.len; show n + 1 < 4096; omega), ?_⟩
        refine ⟨Ex.mut (e'.trans (e2.trans e3)) hp, ?_, _, _, rfl⟩
        rw [upd_same, decide_eq_false hnew]
        show some (SetO w p (fun j => decide (j ∈ (st.take n).map fun g : Nat => (g : Int)) || decide (j = ((st.getD n 0 : Nat) : Int))) (n + 1)) = _
        congr 2
        funext j
        rw [List.take_add_one, List.getElem?_eq_getElem hn, List.map_append, List.getD_eq_getElem?_getD, List.getElem?_eq_getElem hn]
        show (decide (j ∈ (st.take n).map fun g : Nat => (g : Int)) || decide (j = ((st[n] : Nat) : Int))) = decide (j ∈ ((st.take n).map fun g : Nat => (g : Int)) ++ [((st[n] : Nat) : Int)])
        simp only [List.mem_append, List.mem_singleton, Bool.decide_or]
    · obtain ⟨e', hp', y3, y4, rfl⟩ := z
      have hlen : (st.map nV).length = st.length := List.length_map ..
      rw [hlen, List.take_length] at hp'
      have ha3 := ha1.ex e'
      -- needed = [..]
      have hneed := el_lcEK (K := K) (σ := [some (.ref a), some (.ref b), some (.ref p), y3, y4, none, none, none]) (H := H') (a := a) (xs := ps.map nV) (i := 6) (j := 7) (vs := [6, 7]) (k := 1) (ta := tCons (tVar 0) tNil) (tk := tCons (tC (.int 1)) tNil) (te := tVar 7) (tt := tTest (tOp (rSNotIn w) (tVar 6) (tVar 2)))
        (fun n => !decide (n + 1 ∈ st)) (fun n => nV (ps.getD n 0)) (ea_cons (ev_var rfl) ea_nil) (ea_cons ev_c ea_nil) (by omega) ha3 (by rw [List.length_map]; omega) (fun _ _ => rfl) (fun n x H1 e1 hx => ?_) (fun n x H1 e1 hx _ => ?_)
      · refine q_asgL (D := { nx := _, rt := _ }) hneed fun r H4 hr e4 hr4 => ?_
        rw [List.length_map, given_nat] at hr4
        refine s_forE (D := { nx := _, rt := _ }) (Hb := H4) (ea_cons (ev_var rfl) ea_nil) ((hb1.ex e').ex e4) (Ex.refl H4) (fun n σ2 H2 => Ex H4 H2 ∧ ∃ y3 y4, σ2 = [some (.ref a), some (.ref b), some (.ref p), y3, y4, some (.ref r), none, none]) (fun H2 e2 => ⟨e2, _, _, rfl⟩) (fun n σ2 H2 z => z.1) (fun n x σ2 H2 H3 hx z e3 => ?_) (fun σ2 H2 z => ?_)
        · obtain ⟨e5, y3, y4, rfl⟩ := z
          obtain ⟨hn, rfl⟩ := nat_item hx
          have hmem : st.getD n 0 ∈ st := by
            rw [List.getD_eq_getElem?_getD, List.getElem?_eq_getElem hn]
            exact List.getElem_mem hn
          refine s_when (b := false) (et_test (ev_op (ev_var rfl) (ev_var rfl) (rv_bl (rv_isL (sq_of ((e5.trans e3) _ _ hr4)) rfl (flat_nat _)) ?_))) (fun z => nomatch z) fun _ H6 e6 => ⟨e5.trans (e3.trans e6), _, _, rfl⟩
          rw [inV_nat]
          refine decide_eq_false fun m => ?_
          obtain ⟨i, hi, ei⟩ := List.mem_map.mp m
          obtain ⟨hi1, hi2⟩ := List.mem_filter.mp hi
          have hi1' := List.mem_range.mp hi1
          have hup : up ps (i + 1) = st.getD n 0 := by
            unfold up
            rw [Nat.add_sub_cancel]
            exact ei
          have := ok.cl (i + 1) (by omega) (by omega) (by rw [hup]; exact hmem)
          rw [decide_eq_true this] at hi2
          cases hi2
        · obtain ⟨e5, _⟩ := z
          exact q _ (e1.trans (e'.trans (e4.trans e5)))
      · refine et_test (ev_op (ev_var rfl) (ev_var rfl) (rv_bl (rv_snin (e1 _ _ hp')) ?_))
        congr 1
        have e0 : (1 : Int) + (n : Nat) = ((n + 1 : Nat) : Int) := by omega
        rw [e0]
        by_cases m : n + 1 ∈ st
        · rw [decide_eq_true m, decide_eq_true (List.mem_map.mpr ⟨n + 1, m, rfl⟩)]
        · rw [decide_eq_false m, decide_eq_false fun z => ?_]
          obtain ⟨g, hg, eg⟩ := List.mem_map.mp z
          have : g = n + 1 := by omega
          exact m (this ▸ hg)
      · obtain ⟨hn, rfl⟩ := nat_item hx
        exact ev_var rfl
end
end MyT
namespace MyT
open My PySem PySem.Spec PyProof.Rows L2 GL Evl StX SkE
def srt (st : List Nat) : List Nat := st.mergeSort fun a b => decide (a ≤ b)
theorem srt_perm (st : List Nat) : (srt st).Perm st := List.mergeSort_perm _ _
theorem srt_nil : srt [] = [] := List.Perm.eq_nil (srt_perm [])
theorem srt_eq {st : List Nat} {ns : List Int} (h : ns.Perm (st.map fun g : Nat => (g : Int))) (h2 : ns.Pairwise (· ≤ ·)) : ns.map V.int = (srt st).map nV := by
  have hs : ((srt st).map fun g : Nat => (g : Int)).Pairwise (· ≤ ·) := by
    refine List.pairwise_map.mpr ?_
    have q := List.pairwise_mergeSort (le := fun a b : Nat => decide (a ≤ b)) (fun a b c h1 h2 => decide_eq_true (Nat.le_trans (of_decide_eq_true h1) (of_decide_eq_true h2))) (fun a b => by
      rcases Nat.le_total a b with z | z
      · rw [decide_eq_true z, Bool.true_or]
      · rw [decide_eq_true z, Bool.or_true]) st
    exact q.imp fun {a b} z => Int.ofNat_le.mpr (of_decide_eq_true z)
  have e : ns = (srt st).map fun g : Nat => (g : Int) := List.Perm.eq_of_pairwise (le := fun a b : Int => a ≤ b) (fun x y _ _ h1 h2 => Int.le_antisymm h1 h2) h2 hs (h.trans ((srt_perm st).map _).symm)
  rw [e, List.map_map]
  rfl
theorem nat_int (st : List Nat) : (st.map fun g : Nat => (g : Int)).map V.int = st.map nV := by
  rw [List.map_map]
  rfl
def sp_Tinit (K : PySem.W.Frag) (C : Addr) : Sp := fun vs H Q _ => ∃ H0 t dx a b ps st, vs = [.ref t, .ref a, .ref b] ∧ Ex H0 H ∧ H0 t = none ∧ H t = some (.ins C dx []) ∧ Seq K H0 a (ps.map nV) ∧ Seq K H0 b (st.map nV) ∧ Good ps ∧ ps.length ≤ 199 ∧ StOk ps st ∧ st.length < 64 ∧
  ∀ H', Ex H0 H' → TreeNew C H0 H' t ps (srt st) → Q .non H'
def sp_Tway (C : Addr) : Sp := fun vs H Q _ => ∃ t ps st, ∃ g : Nat, vs = [.ref t, nV g] ∧ TreeAt C H t ps st ∧ Good ps ∧ ps.length ≤ 199 ∧ g ≤ ps.length ∧ RetL ((path ps g).map nV) H Q
theorem ne_of_none' {H : Hp} {a b : Addr} {o : HO} (h : H b = some o) (h' : H a = none) : a ≠ b := fun e => by
  rw [e, h] at h'
  cases h'
theorem el_is {te : TE} {σ : L2.St} {H : Hp} {xs ys : List V} (h : EvL te σ H xs) (e : xs = ys) : EvL te σ H ys := by
  rw [← e]
  exact h
section
variable {P : Program} {w : World} {K : PySem.W.Frag} {mg : Str → Option Value} {base : Heap} {C : Addr} {H : Hp}
theorem sv_group {t : Addr} {ps st : List Nat} {g : Nat} (h : TreeAt C H t ps st) (hl : ps.length ≤ 199) (hg : g ≤ ps.length) : SpV (sp_check_group C) [.ref t, nV g] H .non := fun _ e _ q _ => ⟨t, ps, st, g, rfl, h.ex e, hl, hg, q⟩
theorem sv_parents {a : Addr} {ps : List Nat} (h : Seq K H a (ps.map nV)) (hg : Good ps) (hl : ps.length ≤ 199) : SpV (sp_check_parents K) [.ref a] H .non := fun _ e _ q _ => ⟨a, ps, rfl, h.ex e, hg, hl, q⟩
theorem sv_struck {a b : Addr} {ps st : List Nat} (h : Seq K H a (ps.map nV)) (hb : Seq K H b (st.map nV)) (hl : ps.length ≤ 199) (ok : StOk ps st) : SpV (sp_check_struck K w) [.ref a, .ref b] H .non := fun _ e _ q _ => ⟨a, b, ps, st, rfl, h.ex e, hb.ex e, hl, ok, q⟩
theorem sl_way {t : Addr} {ps st : List Nat} {g : Nat} (h : TreeAt C H t ps st) (hp : Good ps) (hl : ps.length ≤ 199) (hg : g ≤ ps.length) : SpL (sp_Tway C) [.ref t, nV g] H ((path ps g).map nV) := fun _ e _ q _ => ⟨t, ps, st, g, rfl, h.ex e, hp, hl, hg, fun p H2 hp e2 h2 => q p H2 hp e2 h2⟩
theorem ok_Tinit (T : Txt K mg w) (G_check_parents : FnG P w K mg base CX0 2 T.f_check_parents T.fd_check_parents ["parents"] (MyT.sp_check_parents K)) (G_check_struck : FnG P w K mg base CX0 2 T.f_check_struck T.fd_check_struck ["parents", "struck"] (MyT.sp_check_struck K w)) : FnG P w K mg base CX0 3 T.f_Tinit T.fd_Tinit ["self", "parents", "struck"] (MyT.sp_Tinit K T.C_Tree) := by
  skip
  refine okGD T.F_Tinit sc_Tinit (fun vs H Q E h => ?_) (fun cdv A outer s H vs Q E gd hr h => ?_)
  · obtain ⟨_, _, _, _, _, _, _, rfl, _⟩ := h
    all_goals rfl
  · obtain ⟨H0, t, dx, a, b, ps, st, rfl, e0, ht0, ht, ha, hb, hg, hl, ok, h64, q⟩ := h
    refine ⟨_, (pss_cons (ps_expr (pc gd G_check_parents (hr.mono (by decide)) (by rfl) T.m_check_parents T.F_check_parents.kp T.b_check_parents .nil pass0 (pa_cons (pv 1) pa_nil))) (pss_cons (ps_expr (pc gd G_check_struck (hr.mono (by decide)) (by rfl) T.m_check_struck T.F_check_struck.kp T.b_check_struck .nil pass0 (pa_cons (pv 1) (pa_cons (pv 2) pa_nil)))) (pss_cons (ps_fld (pv 0) (pe_lst (pa_cons pe_non (pa_star (pv 1) pa_nil))) rfl) (pss_one (ps_fld (pv 0) (pe_callB call_sortedU (by rfl) T.z_sorted boot_sorted (pa_cons (pv 2) pa_nil)) rfl))))), ?_⟩
    refine q_drop (ev_call (ea_cons (ev_var rfl) ea_nil) (sv_parents (ha.ex e0) hg hl)) fun H1 e1 => ?_
    have x1 := e0.trans e1
    refine q_drop (ev_call (ea_cons (ev_var rfl) (ea_cons (ev_var rfl) ea_nil)) (sv_struck (ha.ex x1) (hb.ex x1) hl ok)) fun H2 e2 => ?_
    have x2 := x1.trans e2
    refine q_fldL (C := T.C_Tree) (fs := []) (dx := dx) (el_lst (ea_cons ev_c (ea_star (ev_var rfl) (ha.ex x2) ea_nil)) ?_) (ev_var rfl) (e2 _ _ (e1 _ _ ht)) T.c_Tree T.n_above (by show 0 < 1000; omega) fun la H3 hla e3 h3 => ?_
    · rw [List.append_nil, List.length_cons, List.length_map]
      omega
    · rw [List.append_nil] at h3
      have x3 : Ex H0 (upd H3 t (.ins T.C_Tree dx (putF "_above" (.ref la) []))) := Ex.mut (x2.trans e3) ht0
      have nla : la ≠ t := ne_of_none' (e2 _ _ (e1 _ _ ht)) hla
      -- self._struck = sorted(struck)
      refine ⟨_, rfl, b, st.map fun g : Nat => (g : Int), rfl, ?_, ?_, fun ns' ls hperm hpw hls => ?_⟩
      · rw [nat_int]
        exact (hb.ex x3).sq
      · rw [List.length_map]
        exact h64
      · rw [srt_eq hperm hpw]
        have nls : t ≠ ls := ne_of_none upd_same hls
        have nls2 : la ≠ ls := ne_of_none (show (upd H3 t _) la = some _ by rw [upd_ne nla]; exact h3) hls
        have hls0 : H0 ls = none := fresh_back x3 hls
        refine ⟨_, rfl, t, T.C_Tree, dx, _, rfl, (by rw [upd_ne nls, upd_same]), T.c_Tree, T.n_struck, (by show 1 < 1000; omega), ?_⟩
        refine q _ (Ex.mut (Ex.mut x3 hls0) ht0) ⟨dx, la, ls, ⟨upd_same, ?_, ?_⟩, ht0, fresh_back x2 hla, hls0⟩
        · rw [upd_ne nla, upd_ne nls2, upd_ne nla]
          exact h3
        · rw [upd_ne nls.symm, upd_same]
theorem ok_Tway (T : Txt K mg w) (G_check_group : FnG P w K mg base CX0 3 T.f_check_group T.fd_check_group ["tree", "value"] (MyT.sp_check_group T.C_Tree)) : FnG P w K mg base CX0 4 T.f_Tway T.fd_Tway ["self", "group"] (MyT.sp_Tway T.C_Tree) := by
  skip
  refine okG T.F_Tway sc_Tway (fun vs H Q E h => ?_) (fun cdv A outer s H vs Q E gd hr h => ?_)
  · obtain ⟨_, _, _, _, rfl, _⟩ := h
    all_goals rfl
  · obtain ⟨t, ps, st, g, rfl, ht, hp, hl, hg, q⟩ := h
    refine ⟨_, (pss_cons (ps_expr (pc gd G_check_group (hr.mono (by decide)) (by rfl) T.m_check_group T.F_check_group.kp T.b_check_group .nil pass0 (pa_cons (pv 0) (pa_cons (pv 1) pa_nil)))) (pss_cons (ps_set (i := 2) sc_Tway.nd rfl (Or.inl rfl) (pe_lst (pa_cons (pv 1) pa_nil))) (pss_cons (ps_while PassesOwn.never (pt_cmpR op_gt (pe_ix ix_list (pv 2) (pe_un un_neg pe_int) (fun _ _ => rfl)) pe_int (nomark _)) (pss_one (ps_expr (pe_bm PySem.F.plainAttrs_list PySem.F.slot_list_append PySem.F.type_list_append mt_append (pv 2) (pa_cons (pe_ix ix_list (pe_fld (pv 0) rfl) (pe_ix ix_list (pv 2) (pe_un un_neg pe_int) (fun _ _ => rfl)) (fun _ _ => rfl)) pa_nil))))) (pss_one (ps_ret (pv 2)))))), ?_⟩
    refine q_drop (ev_call (ea_cons (ev_var rfl) (ea_cons (ev_var rfl) ea_nil)) (sv_group ht hl hg)) fun H1 e1 => ?_
    refine q_asgL (xs := [nV g]) (el_lst (ea_cons (ev_var rfl) ea_nil) (by show 1 ≤ 100000; omega)) fun r H2 hr e2 h2 => ?_
    have hr0 : H r = none := fresh_back e1 hr
    have x2 := e1.trans e2
    refine q_while (fun m σ' H' => ∃ pre : List Nat, m ≤ ps.length ∧ σ' = [some (.ref t), some (nV g), some (.ref r)] ∧ Ex H H' ∧ H' r = some (.lst (pre.map nV ++ [nV m])) ∧ pre ++ path ps m = path ps g ∧ pre.length + m ≤ g) g ⟨[], hg, rfl, x2, h2, rfl, by show 0 + g ≤ g; omega⟩ (fun m σ' H' hw => ?_)
    obtain ⟨pre, hm, rfl, x3, h3, ep, el⟩ := hw
    obtain ⟨dx, la, ls, p⟩ := ht.ex x3
    have last : ∀ H1, Ex H' H1 → Ev (tOp (rIxL K) (tVar 2) (tUn (rU fun i => .int (-i)) (tC (.int 1)))) [some (.ref t), some (nV g), some (.ref r)] H1 (nV m) := fun H1 e1 => ev_op (ev_var rfl) (ev_un ev_c ru_neg) (rv_ixL (sq_of (e1 _ _ h3)) (atI_last _ _))
    refine ⟨decide ((0 : Int) < (m : Int)), et_test (ev_op (last _ (Ex.refl _)) ev_c rv_I0), fun hb H1 e1 => ?_, fun hb H1 e1 => ?_⟩
    · have h0 : 0 < m := by have := of_decide_eq_true hb; omega
      have hu := up_lt hp h0 hm
      refine ⟨fun σ2 H2 => σ2 = [some (.ref t), some (nV g), some (.ref r)] ∧ Ex H H2 ∧ H2 r = some (.lst ((pre ++ [m]).map nV ++ [nV (up ps m)])), fun σ2 H2 z => ⟨up ps m, hu, pre ++ [m], by omega, z.1, z.2.1, z.2.2, ?_, ?_⟩, ?_⟩
      · rw [List.append_assoc, ← ep, path_step hp h0 hm]
        rfl
      · rw [List.length_append, List.length_singleton]
        omega
      · refine s_app (e1 _ _ h3) (ev_var rfl) (ev_op (ev_fld (ev_var rfl) (e1 _ _ p.ob) T.c_Tree T.n_above (tf_above la ls)) (last H1 e1) (rv_ixL (sq_of (e1 _ _ p.ab)) (atI_nat (ups_at h0 hm)))) ?_ fun H2 e2 => ⟨rfl, Ex.mut (x3.trans (e1.trans e2)) hr0, ?_⟩
        · rw [List.length_append, List.length_map, List.length_singleton]
          omega
        · rw [upd_same, List.map_append]
          rfl
    · have h0 : m = 0 := by have := of_decide_eq_false hb; omega
      subst h0
      refine s_ret (ev_var rfl) fun H2 e2 => q r H2 hr0 (x3.trans (e1.trans e2)) ?_
      rw [(e1.trans e2) _ _ h3, ← ep, path_zero, List.map_append]
      rfl
end
end MyT
namespace MyT
open My PySem PySem.Spec PyProof.Rows L2 GL Evl StX SkE
/-! ### the law's draws -/
/-- all but what stands at a is as it was -/
def ExB (a : Addr) (H H' : Hp) : Prop := ∀ b o, b ≠ a → H b = some o → H' b = some o
theorem ExB.of {a : Addr} {H H' : Hp} (e : Ex H H') : ExB a H H' := fun b o _ h => e b o h
theorem ExB.refl (a : Addr) (H : Hp) : ExB a H H := fun _ _ _ h => h
theorem ExB.trans {a : Addr} {H H1 H2 : Hp} (x : ExB a H H1) (y : ExB a H1 H2) : ExB a H H2 := fun b o n h => y b o n (x b o n h)
theorem ExB.set {a : Addr} {H : Hp} {o : HO} : ExB a H (upd H a o) := fun b u n h => by
  rw [upd_ne n]
  exact h
/-- what was made behind H may change as well -/
theorem ExB.mut {a b : Addr} {H H' : Hp} {o : HO} (e : ExB a H H') (h : H b = none) : ExB a H (upd H' b o) := fun c u n hc => by
  rw [upd_ne (ne_of_none hc h)]
  exact e c u n hc
theorem ExB.free {a : Addr} {H H' : Hp} {p : Addr} {o : HO} (e : ExB a H H') (ha : H' a = some o) (h : H' p = none) : H p = none := by
  cases q : H p with
  | none => rfl
  | some u =>
    have n : p ≠ a := fun z => by rw [z, ha] at h; cases h
    rw [e p u n q] at h
    cases h
/-- the pot was made behind H: nothing of H has changed -/
theorem ExB.all {a : Addr} {H0 H H' : Hp} (e0 : Ex H0 H) (h : H0 a = none) (e : ExB a H H') : Ex H0 H' := fun b o hb => e b o (ne_of_none hb h) (e0 b o hb)
def PotAt (H : Hp) (a : Addr) : Prop := ∃ x y : Int, H a = some (.lst [.int x, .int y]) ∧ 0 ≤ x ∧ 0 ≤ y ∧ y < 2147483600
theorem PotAt.ex {H H' : Hp} {a : Addr} (h : PotAt H a) (e : Ex H H') : PotAt H' a := by
  obtain ⟨x, y, h1, h2⟩ := h
  exact ⟨x, y, e _ _ h1, h2⟩
theorem PotAt.exB {H H' : Hp} {a b : Addr} (h : PotAt H a) (e : ExB b H H') (n : a ≠ b) : PotAt H' a := by
  obtain ⟨x, y, h1, h2⟩ := h
  exact ⟨x, y, e _ _ n h1, h2⟩
def sp_Lpot (K : PySem.W.Frag) : Sp := fun vs H Q _ => ∃ (a : Addr) (ns : List Int) (k : Nat), vs = [.ref a, .int (k : Int)] ∧ SqL K H a (ns.map V.int) ∧ ns.length ≤ 63 ∧ k < 8 ∧ ∀ H' p, H p = none → Ex H H' → PotAt H' p → Q (.ref p) H'
def sp_Ldraw : Sp := fun vs H Q _ => ∃ a, ∃ n : Nat, vs = [.ref a, nV n] ∧ PotAt H a ∧ 1 ≤ n ∧ n ≤ 1000 ∧ ∀ H' (d : Nat), ExB a H H' → PotAt H' a → d < n → Q (nV d) H'
section
variable {P : Program} {w : World} {K : PySem.W.Frag} {mg : Str → Option Value} {base : Heap} {C : Addr} {H : Hp}
theorem ev_raw {te : TE} {σ : L2.St} {v : V} {Q : VK} (h : Ev te σ H v) (k : ∀ H1, Ex H H1 → Q v H1) : te σ H Q := h H (Ex.refl H) Q k
theorem cb_raw {r : List V → Hp → VK → Prop} {ta : TA} {σ : L2.St} {vs : List V} {Q : VK} (h : EvA ta σ H vs) (k : ∀ H1, Ex H H1 → r vs H1 Q) : tCB r ta σ H Q := h H (Ex.refl H) _ k
theorem q_asgR {te : TE} {g : TG} {tz : TS} {D : Ends} {σ : L2.St} (h : te σ H fun x H1 => g x σ H1 (tz D)) : tSeq (tAsg te g) tz D σ H := h
theorem no_pylong {x : Int} {n : Nat} (h : n ≤ 1000) : Builtin.divisionGoesByPylong x (n : Int) = false := by
  have hl : n.log2 < 10 := by
    by_cases e : n = 0
    · subst e
      decide
    · exact (Nat.log2_lt e).mpr (by omega)
  have hd : ¬ ((if ((n : Int) == 0) = true then 0 else (n : Int).natAbs.log2 / 30 + 1) > 300) := by
    rw [Int.natAbs_natCast]
    split <;> omega
  show (decide ((if ((n : Int) == 0) = true then 0 else (n : Int).natAbs.log2 / 30 + 1) > 300) && _) = false
  rw [decide_eq_false hd, Bool.false_and]
theorem rc_lenL {a : Addr} {xs : List V} (h : SqL K H a xs) : RC (rLenS K) [.ref a] H (.int (xs.length : Int)) := fun H1 e Q q => ⟨a, xs, rfl, .inl (ex_l e h), q H1 (Ex.refl H1)⟩
theorem rc_max2 {i j : Int} : RC rMax2 [.int i, .int j] H (.int (if j > i then j else i)) := fun H1 _ Q q => ⟨i, j, rfl, q H1 (Ex.refl H1)⟩
theorem rc_int {i : Int} : RC (fun xs H Q => (∃ i, xs = [V.int i] ∧ Q (.int i) H) ∨ ∃ k, xs = [V.bl k] ∧ Q (.int (if k then 1 else 0)) H) [.int i] H (.int i) := fun H1 _ Q q => .inl ⟨i, rfl, q H1 (Ex.refl H1)⟩
theorem rc_abs {i : Int} : RC (fun xs H Q => ∃ i, xs = [V.int i] ∧ Q (.int (if i < 0 then -i else i)) H) [.int i] H (.int (if i < 0 then -i else i)) := fun H1 _ Q q => ⟨i, rfl, q H1 (Ex.refl H1)⟩
theorem ok_Ldraw (T : Txt K mg w)  : FnG P w K mg base CX0 1 T.f_Ldraw T.fd_Ldraw ["_law_pot_here", "_law_sides"] MyT.sp_Ldraw := by
  skip
  refine okG T.F_Ldraw sc_Ldraw (fun vs H Q E h => ?_) (fun cdv A outer s H vs Q E gd hr h => ?_)
  · obtain ⟨_, _, rfl, _⟩ := h
    all_goals rfl
  · obtain ⟨a, n, rfl, ⟨x, y, hx, hx0, hy0, hy1⟩, hn, hn2, q⟩ := h
    refine ⟨_, (pss_cons (ps_if (pt_cmpR op_gt (pe_ix ix_list (pv 0) pe_int (fun _ _ => rfl)) pe_int (nomark _)) (pss_cons (ps_asg (pe_callB call_divmodW (by rfl) T.z_divmod boot_divmod (pa_cons (pe_ix ix_list (pv 0) pe_int (fun _ _ => rfl)) (pa_cons (pv 1) pa_nil))) (pg_tup rfl (pgs_cons (pg_sub (pv 0) pe_int set_list) (pgs_cons (pg_name (i := 2) sc_Ldraw.nd rfl (Or.inl rfl) (Or.inr rfl)) pgs_nil)))) (pss_one (ps_ret (pv 2)))) pss_nil) (pss_cons (ps_asg (pe_op op_mod (pe_callTy call_int1 (by rfl) T.z_int (by decide +kernel) (pa_cons (pe_op op_add (pe_op op_mul (pe_ix ix_list (pv 0) pe_int (fun _ _ => rfl)) pe_int) pe_int) pa_nil)) pe_int) (pg_sub (pv 0) pe_int set_list)) (pss_one (ps_ret (pe_op op_mod (pe_callTy call_int1 (by rfl) T.z_int (by decide +kernel) (pa_cons (pe_op op_fdiv (pe_op op_mod (pe_callTy call_int1 (by rfl) T.z_int (by decide +kernel) (pa_cons (pe_op op_mul (pe_ix ix_list (pv 0) pe_int (fun _ _ => rfl)) (pe_ix ix_list (pv 0) pe_int (fun _ _ => rfl))) pa_nil)) pe_int) pe_int) pa_nil)) (pv 1)))))), ?_⟩
    have at0 : ∀ H1, H1 a = some (.lst [.int x, .int y]) → Ev (tOp (rIxL K) (tVar 0) (tC (.int 0))) [some (.ref a), some (nV n), none] H1 (.int x) := fun H1 h => ev_op (ev_var rfl) ev_c (rv_ixL (sq_of h) (atI_nat (j := 0) rfl))
    refine q_when (et_test (ev_op (at0 _ hx) ev_c rv_I0)) (fun hb H1 e1 => ?_) fun hb H1 e1 => ?_
    · refine q_asgR (cb_raw (ea_cons (at0 _ (e1 _ _ hx)) (ea_cons (ev_var rfl) ea_nil)) fun H2 e2 => ⟨x, n, rfl, ⟨by omega, no_pylong hn2⟩, fun p hp => ?_⟩)
      have hx2 := e2 _ _ (e1 _ _ hx)
      have nap : a ≠ p := ne_of_none hx2 hp
      have hx3 : (upd H2 p (.tup [.int (x / n), .int (x % n)])) a = some (.lst [.int x, .int y]) := by
        rw [upd_ne nap]
        exact hx2
      refine ⟨p, _, rfl, st_of upd_same, rfl, _, _, rfl, _, rfl, a, _, 0, 0, rfl, rfl, hx3, rfl, _, _, rfl, rfl, ?_⟩
      have hlo := Int.emod_nonneg x (show (n : Int) ≠ 0 by omega)
      have hhi := Int.emod_lt_of_pos x (show (0 : Int) < n by omega)
      have hq := Int.ediv_nonneg hx0 (show (0 : Int) ≤ n by omega)
      refine s_ret (v := nV (x % n).toNat) (ev_is (ev_var rfl) (by show V.int _ = V.int _; congr 1; omega)) fun H4 e4 => q H4 _ ?_ ?_ (by omega)
      · exact (((ExB.of (e1.trans e2)).trans (ExB.of (Ex.new hp))).trans ExB.set).trans (ExB.of e4)
      · exact ⟨_, _, e4 _ _ upd_same, hq, hy0, hy1⟩
    · have at1 : ∀ H1 z, H1 a = some (.lst [.int x, .int z]) → Ev (tOp (rIxL K) (tVar 0) (tC (.int 1))) [some (.ref a), some (nV n), none] H1 (.int z) := fun H1 z h => ev_op (ev_var rfl) ev_c (rv_ixL (sq_of h) (atI_nat (j := 1) rfl))
      have h1 := e1 _ _ hx
      refine q_asgR (ev_raw (ev_op (ev_cb (ea_cons (ev_op (ev_op (at1 H1 y h1) ev_c (rv_I (.inl ⟨by omega, by omega⟩))) ev_c rv_I0) ea_nil) rc_int) ev_c (rv_I (by show (0 : Int) < 2147483549; omega))) fun H2 e2 => ?_)
      refine ⟨_, rfl, a, _, 1, 1, rfl, rfl, e2 _ _ h1, rfl, ?_⟩
      have b0 := Int.emod_nonneg (y * 40009 + 17011) (show (2147483549 : Int) ≠ 0 by omega)
      have b1 := Int.emod_lt_of_pos (y * 40009 + 17011) (show (0 : Int) < 2147483549 by omega)
      generalize (y * 40009 + 17011) % 2147483549 = z at b0 b1
      have h3 : (upd H2 a (.lst [.int x, .int z])) a = some (.lst [.int x, .int z]) := upd_same
      have x3 : ExB a H (upd H2 a (.lst [.int x, .int z])) := (ExB.of (e1.trans e2)).trans ExB.set
      show tRet _ _ _ _
      refine s_ret (v := nV ((z * z % 2147483587 / 11) % n).toNat) (ev_is (ev_op (ev_cb (ea_cons (ev_op (ev_op (ev_cb (ea_cons (ev_op (at1 _ z h3) (at1 _ z h3) (rv_I (.inl ⟨by omega, by omega⟩))) ea_nil) rc_int) ev_c (rv_I (by show (0 : Int) < 2147483587; omega))) ev_c (rv_I ⟨by decide, by decide⟩)) ea_nil) rc_int) (ev_var rfl) (rv_I (by show (0 : Int) < n; omega))) ?_) fun H4 e4 => q H4 _ (x3.trans (ExB.of e4)) ⟨x, z, e4 _ _ h3, hx0, b0, by omega⟩ ?_
      · have := Int.emod_nonneg (z * z % 2147483587 / 11) (show (n : Int) ≠ 0 by omega)
        show V.int _ = V.int _
        congr 1
        omega
      · have := Int.emod_lt_of_pos (z * z % 2147483587 / 11) (show (0 : Int) < n by omega)
        have := Int.emod_nonneg (z * z % 2147483587 / 11) (show (n : Int) ≠ 0 by omega)
        omega
theorem ok_Lpot (T : Txt K mg w)  : FnG P w K mg base CX0 1 T.f_Lpot T.fd_Lpot ["_law_script", "_law_k"] (MyT.sp_Lpot K) := by
  skip
  refine okG T.F_Lpot sc_Lpot (fun vs H Q E h => ?_) (fun cdv A outer s H vs Q E gd hr h => ?_)
  · obtain ⟨_, _, _, rfl, _⟩ := h
    all_goals rfl
  · obtain ⟨a, ns, k, rfl, hs, hl, hk, q⟩ := h
    refine ⟨_, (pss_cons (ps_set (i := 2) sc_Lpot.nd rfl (Or.inl rfl) (pe_op op_add (pe_op op_mul pe_int (pv 1)) pe_int)) (Evl.pss_cut (ps_if (pt_cmpR op_lt (pv 1) (pe_callB call_len_seq (by rfl) T.z_len PySem.boot_len (pa_cons (pv 0) pa_nil)) (nomark _)) (pss_one (ps_set (i := 2) sc_Lpot.nd rfl (Or.inl rfl) (pe_callB call_abs (by rfl) T.z_abs boot_abs (pa_cons (pe_ix ix_list (pv 0) (pv 1) (fun _ _ => rfl)) pa_nil)))) pss_nil) (pss_one (ps_ret (pe_lst (pa_cons (pe_callB (call_max2 rfl) (by rfl) T.z_max boot_max (pa_cons pe_int (pa_cons (pe_op op_sub (pv 2) (pe_op op_pow pe_int pe_int)) pa_nil))) (pa_cons (pe_op op_add (pe_op op_mod (pe_op op_mul (pe_callTy call_int1 (by rfl) T.z_int (by decide +kernel) (pa_cons (pe_op op_add (pe_op op_mod (pe_callTy call_int1 (by rfl) T.z_int (by decide +kernel) (pa_cons (pv 2) pa_nil)) pe_int) pe_int) pa_nil)) (pe_op op_pow (pe_op op_add (pe_op op_mul pe_int (pv 1)) pe_int) pe_int)) pe_int) pe_int) pa_nil))))))), ?_⟩
    refine q_asg (ev_op (ev_op ev_c (ev_var rfl) (rv_I (.inl ⟨by omega, by omega⟩))) ev_c rv_I0) fun H1 e1 => ?_
    refine q_cut (M := fun σ' H' => Ex H H' ∧ ∃ c : Int, 0 ≤ c ∧ σ' = [some (.ref a), some (.int (k : Int)), some (.int c)]) ?_ fun σ' H' z => ?_
    · refine s_when (et_test (ev_op (ev_var rfl) (ev_cb (ea_cons (ev_var rfl) ea_nil) (rc_lenL (ex_l e1 hs))) rv_I0)) (fun hb H2 e2 => ?_) fun hb H2 e2 => ⟨e1.trans e2, _, ?_, rfl⟩
      · have hlt : k < ns.length := by
          have := of_decide_eq_true hb
          rw [List.length_map] at this
          omega
        refine s_asg (ev_cb (ea_cons (ev_op (ev_var rfl) (ev_var rfl) (rv_ixL (ex_l (e1.trans e2) hs) (atI_nat (v := .int ns[k]) (by rw [List.getElem?_map, List.getElem?_eq_getElem hlt]; rfl)))) ea_nil) rc_abs) fun H3 e3 => ⟨e1.trans (e2.trans e3), _, ?_, rfl⟩
        split <;> omega
      · omega
    · obtain ⟨x2, c, hc, rfl⟩ := z
      have m0 := Int.emod_nonneg c (show (2147483543 : Int) ≠ 0 by omega)
      have m1 := Int.emod_lt_of_pos c (show (0 : Int) < 2147483543 by omega)
      refine s_retL (xs := [.int (if c - 10 ^ (18 : Int).toNat > 0 then c - 10 ^ (18 : Int).toNat else 0), .int ((c % 2147483543 + 7) * (2 * (k : Int) + 3) ^ (3 : Int).toNat % 2147483489 + 1)])
        (el_lst (ea_cons (ev_cb (ea_cons ev_c (ea_cons (ev_op (ev_var rfl) (ev_op ev_c ev_c (rv_I ⟨by decide, by decide, by decide⟩)) rv_I0) ea_nil)) rc_max2) (ea_cons (ev_op (ev_op (ev_op (ev_cb (ea_cons (ev_op (ev_op (ev_cb (ea_cons (ev_var rfl) ea_nil) rc_int) ev_c (rv_I (by show (0 : Int) < 2147483543; omega))) ev_c rv_I0) ea_nil) rc_int)
          (ev_op (ev_op (ev_op ev_c (ev_var rfl) (rv_I (.inl ⟨by omega, by omega⟩))) ev_c rv_I0) ev_c (rv_I ⟨by decide, by decide, by omega⟩)) (rv_I (.inl ⟨by omega, by omega⟩))) ev_c (rv_I (by show (0 : Int) < 2147483489; omega))) ev_c rv_I0) ea_nil)) (by show 2 ≤ 100000; omega)) fun p H3 hp e3 h3 => q H3 p (fresh_back x2 hp) (x2.trans e3) ⟨_, _, h3, ?_, ?_, ?_⟩
      · split <;> omega
      · have := Int.emod_nonneg ((c % 2147483543 + 7) * (2 * (k : Int) + 3) ^ (3 : Int).toNat) (show (2147483489 : Int) ≠ 0 by omega)
        omega
      · have := Int.emod_lt_of_pos ((c % 2147483543 + 7) * (2 * (k : Int) + 3) ^ (3 : Int).toNat) (show (0 : Int) < 2147483489 by omega)
        omega
end
end MyT
namespace MyT
open My PySem PySem.Spec PyProof.Rows L2 GL Evl StX SkE
section
variable {P : Program} {w : World} {K : PySem.W.Frag} {mg : Str → Option Value} {base : Heap} {C : Addr} {H : Hp}
/-- a draw -/
theorem dr {t : TA} {σ : L2.St} {Er : XK} {Q : VK} {a : Addr} {n : Nat} (h : EvA t σ H [.ref a, nV n]) (p : PotAt H a) (h1 : 1 ≤ n) (h2 : n ≤ 1000) (k : ∀ H' (d : Nat), ExB a H H' → PotAt H' a → d < n → Q (nV d) H') : tCall sp_Ldraw [] Er t σ H Q :=
  h H (Ex.refl H) _ fun H1 e1 => ⟨a, n, rfl, p.ex e1, h1, h2, fun H' d x p' hd => k H' d ((ExB.of e1).trans x) p' hd⟩
theorem test_raw {te : TE} {σ : L2.St} {Q : Bool → Hp → Prop} (h : te σ H fun x H' => ∃ k, x = .bl k ∧ Q k H') : tTest te σ H Q := h
end
end MyT
namespace MyT
open My PySem PySem.Spec PyProof.Rows L2 GL Evl StX SkE
/-! ### what repr shows of a flat list -/
def fd : V → PyData
  | .int i => .int i
  | .str x => .str x
  | .bl b => .bool b
  | _ => .none
/-- a short value: shown by at most 40 signs -/
def Shrt (x : V) : Prop := flatV x = true ∧ (fd x).showable = true ∧ (fd x).hasDict = false ∧ (fd x).depth ≤ 0 ∧ (fd x).shown.length ≤ 40
end MyT
namespace MyT
open My PySem PySem.Spec PyProof.Rows L2 GL Evl StX SkE
/-! ### data that is short when shown -/
structure Sm (d : PyData) (k B : Nat) : Prop where
  sh : d.showable = true
  nd : d.hasDict = false
  de : d.depth ≤ k
  ln : d.shown.length ≤ B
theorem Shrt.sm {x : V} (h : Shrt x) : Sm (fd x) 0 40 := ⟨h.2.1, h.2.2.1, h.2.2.2.1, h.2.2.2.2⟩
theorem Sm.mono {d : PyData} {k B k' B' : Nat} (h : Sm d k B) (hk : k ≤ k') (hB : B ≤ B') : Sm d k' B' := ⟨h.sh, h.nd, Nat.le_trans h.de hk, Nat.le_trans h.ln hB⟩
end MyT
namespace MyT
open My PySem PySem.Spec PyProof.Rows L2 GL Evl StX SkE
/-! ### what two ways share -/
def shared (ps : List Nat) (g s : Nat) : List Nat := (path ps g).filter fun x => decide (x ∈ path ps s)
def own (ps : List Nat) (g s : Nat) : List Nat := (path ps g).filter fun x => !decide (x ∈ path ps s)
theorem range_getD (l : List Nat) : ((List.range l.length).map fun i => l.getD i 0) = l := by
  refine List.ext_getElem (by rw [List.length_map, List.length_range]) fun i h1 h2 => ?_
  rw [List.getElem_map, List.getElem_range, List.getD_eq_getElem?_getD, List.getElem?_eq_getElem h2]
  rfl
/-- a comprehension over a list of numbers, by a word of the number -/
theorem given_filter (l : List Nat) (p : Nat → Bool) : given (l.map nV).length (fun i => p (l.getD i 0)) (fun i => nV (l.getD i 0)) = (l.filter p).map nV := by
  have q : (((List.range l.length).map fun i => l.getD i 0).filter p).map nV = (l.filter p).map nV := by rw [range_getD]
  rw [List.filter_map, List.map_map] at q
  unfold given
  rw [List.length_map]
  exact q
def sp_Tapart (C : Addr) : Sp := fun vs H Q _ => ∃ t ps st, ∃ g s : Nat, vs = [.ref t, nV g, nV s] ∧ TreeAt C H t ps st ∧ Good ps ∧ ps.length ≤ 199 ∧ g ≤ ps.length ∧ s ≤ ps.length ∧ RetL ((own ps g s).map nV) H Q
section
variable {P : Program} {w : World} {K : PySem.W.Frag} {mg : Str → Option Value} {base : Heap} {C : Addr} {H H' : Hp} {σ : L2.St} {te tb : TE} {ta : TA} {xs ys : List V} {v : V} {D : Ends} {tz : TS} {a : Addr} {tt : TT}
theorem ok_Tapart (T : Txt K mg w) (G_Tway : FnG P w K mg base CX0 4 T.f_Tway T.fd_Tway ["self", "group"] (MyT.sp_Tway T.C_Tree)) : FnG P w K mg base CX0 5 T.f_Tapart T.fd_Tapart ["self", "group", "seen"] (MyT.sp_Tapart T.C_Tree) := by
  skip
  refine okG T.F_Tapart sc_Tapart (fun vs H Q E h => ?_) (fun cdv A outer s H vs Q E gd hr h => ?_)
  · obtain ⟨_, _, _, _, _, rfl, _⟩ := h
    all_goals rfl
  · obtain ⟨t, ps, st, g, s0, rfl, ht, hp, hl, hg, hs, q⟩ := h
    refine ⟨_, (pss_cons (ps_set (i := 3) sc_Tapart.nd rfl (Or.inl rfl) (pm gd (pv 0) T.c_Tree T.M_Tway G_Tway (hr.mono (by decide)) T.b_Tway .nil pass0 (pa_cons (pv 1) pa_nil))) (pss_cons (ps_set (i := 4) sc_Tapart.nd rfl (Or.inr rfl) (pm gd (pv 0) T.c_Tree T.M_Tway G_Tway (hr.mono (by decide)) T.b_Tway .nil pass0 (pa_cons (pv 2) pa_nil))) (pss_one (ps_ret (pe_lc (own := [("step", 5)]) (g := gName 5) rfl sc_Tapart.nd (pi_list (pv 3)) (blkOk_by (N := N_Tapart) (sc := defScope s_Tapart) (by decide +kernel)) (fun _ _ _ _ _ => (pg_name (i := 5) sc_Tapart.nd rfl (Or.inl rfl) (Or.inr rfl))) (fun _ _ _ _ _ => pts_one (pt_cmpR (show OpR _ (compareOp .NotIn) (rIn K true) from op_notIn_seq) (pv 5) (pv 4) (by rfl))) (fun _ _ _ _ _ => (pv 5))))))), ?_⟩
    obtain ⟨dx, la, ls, p⟩ := id ht
    refine q_asgL (el_meth (ev_var rfl) p.ob (tf_no la ls (by decide +kernel) (by decide +kernel)) (ea_cons (ev_var rfl) ea_nil) (sl_way ht hp hl hg)) fun r H1 hr e1 h1 => ?_
    refine q_asgL (el_meth (ev_var rfl) ((p.ex e1).ob) (tf_no la ls (by decide +kernel) (by decide +kernel)) (ea_cons (ev_var rfl) ea_nil) (sl_way (ht.ex e1) hp hl hs)) fun r2 H2 hr2 e2 h2 => ?_
    have lp := path_len_le hp hg
    refine s_retL (el_is (el_lcL (a := r) (xs := (path ps g).map nV) (fun i => !decide ((path ps g).getD i 0 ∈ path ps s0)) (fun i => nV ((path ps g).getD i 0)) (ev_var rfl) (sq_of (e2 _ _ h1)) (by rw [List.length_map]; omega) (fun _ => rfl) (fun i x H3 e3 hx => ?_) (fun i x H3 e3 hx _ => ?_)) (given_filter _ fun x => !decide (x ∈ path ps s0))) fun z H3 hz e3 h3 => q z H3 (fresh_back (e1.trans e2) hz) ((e1.trans e2).trans e3) h3
    · obtain ⟨hn, rfl⟩ := nat_item hx
      exact et_test (ev_is (ev_op (ev_var rfl) (ev_var rfl) (rv_niL (sq_of (e3 _ _ h2)) rfl (flat_nat _))) (congrArg V.bl (by rw [inV_nat])))
    · obtain ⟨hn, rfl⟩ := nat_item hx
      exact ev_var rfl
end
end MyT
namespace MyT
open My PySem PySem.Spec PyProof.Rows L2 GL Evl StX SkE
/-! ### what a value is, as data -/
def Das (K : PySem.W.Frag) (H : Hp) (v : V) (d : PyData) : Prop := ∀ H1, Ex H H1 → Dp K H1 v d
def DasL (K : PySem.W.Frag) (H : Hp) (vs : List V) (ds : List PyData) : Prop := ∀ H1, Ex H H1 → DpAll K H1 vs ds
/-- evaluates to something that is this data -/
def EvD (K : PySem.W.Frag) (te : TE) (σ : L2.St) (H : Hp) (d : PyData) : Prop := ∀ H1, Ex H H1 → ∀ Q : VK, (∀ v H2, Ex H1 H2 → Das K H2 v d → Q v H2) → te σ H1 Q
section
variable {K : PySem.W.Frag} {σ : L2.St} {H H' : Hp} {te tb : TE} {ta : TA} {v : V} {d e : PyData} {ds : List PyData} {xs : List V} {p : Addr} {D : Ends} {tz : TS}
theorem Das.ex (h : Das K H v d) (x : Ex H H') : Das K H' v d := fun H1 e1 => h H1 (x.trans e1)
theorem DasL.ex (h : DasL K H xs ds) (x : Ex H H') : DasL K H' xs ds := fun H1 e1 => h H1 (x.trans e1)
theorem EvD.mono (x : Ex H H') (h : EvD K te σ H d) : EvD K te σ H' d := fun H1 a Q q => h H1 (x.trans a) Q q
end
end MyT
namespace MyT
open My PySem PySem.Spec PyProof.Rows L2 GL Evl StX SkE
/-! ### lists and tuples as arguments, trees as values -/
/-- evaluates to a list of these, or a tuple of these -/
def EvS (K : PySem.W.Frag) (te : TE) (σ : L2.St) (H : Hp) (xs : List V) : Prop := ∀ H1, Ex H H1 → ∀ Q : VK, (∀ p H2, Ex H1 H2 → Seq K H2 p xs → Q (.ref p) H2) → te σ H1 Q
def EvTr (C : Addr) (te : TE) (σ : L2.St) (H : Hp) (ps st : List Nat) : Prop := ∀ H1, Ex H H1 → ∀ Q : VK, (∀ t H2, Ex H1 H2 → TreeAt C H2 t ps st → Q (.ref t) H2) → te σ H1 Q
section
variable {K : PySem.W.Frag} {C : Addr} {σ : L2.St} {H H' : Hp} {te ta tb : TE} {xs : List V} {p t : Addr} {ps st : List Nat} {Er : XK}
theorem es_l (h : EvL te σ H xs) : EvS K te σ H xs := fun H1 e Q q => h H1 e Q fun p H2 _ e2 h2 => q p H2 e2 (.lst h2)
/-- an instance is being made -/
theorem made_tr {a b dx : Addr} {Q : VK} (ht : H t = none) (hdx : H dx = none) (ha : Seq K H a (ps.map nV)) (hb : Seq K H b (st.map nV)) (hg : Good ps) (hl : ps.length ≤ 199) (ok : StOk ps st) (h64 : st.length < 64)
    (q : ∀ H3, Ex H H3 → TreeNew C H H3 t ps (srt st) → Q (.ref t) H3) : sp_Tinit K C [.ref t, .ref a, .ref b] (upd (upd H dx (.own t)) t (.ins C dx [])) (fun v H3 => v = .non ∧ Q (.ref t) H3) Er :=
  ⟨H, t, dx, a, b, ps, st, rfl, Ex.mut (Ex.new hdx) ht, ht, upd_same, ha, hb, hg, hl, ok, h64, fun H3 e hT => ⟨rfl, q H3 e hT⟩⟩
theorem tr_1 {d1 : Addr} (hd : ∀ H, Seq K H d1 []) (ha : EvS K ta σ H (ps.map nV)) (hg : Good ps) (hl : ps.length ≤ 199) : EvTr C (tMake C (sp_Tinit K C) [.ref d1] Er (tCons ta tNil)) σ H ps [] := fun H1 e Q q =>
  ha H1 e _ fun a H2 e2 h2 => fun x dx hx hdx hne => made_tr (st := []) hx hdx h2 (hd H2) hg hl (StOk.nil ps) (by decide) fun H4 e4 hT => q x H4 (e2.trans e4) (by
    rw [srt_nil] at hT
    exact hT.now)
end
end MyT
namespace MyT
open My PySem PySem.Spec PyProof.Rows L2 GL Evl StX SkE
/-! ### data that does not hang on what stands at r -/
def hole (r : Addr) (H : Hp) : Hp := fun b => if b = r then none else H b
theorem hole_ne {r b : Addr} {H : Hp} (h : b ≠ r) : hole r H b = H b := if_neg h
theorem hole_ex (r : Addr) (H : Hp) : Ex (hole r H) H := fun b o h => by
  by_cases e : b = r
  · unfold hole at h
    rw [if_pos e] at h
    cases h
  · rw [hole_ne e] at h
    exact h
theorem hole_mono {r : Addr} {H H' : Hp} (e : ExB r H H') : Ex (hole r H) (hole r H') := fun b o h => by
  by_cases z : b = r
  · unfold hole at h
    rw [if_pos z] at h
    cases h
  · rw [hole_ne z] at h ⊢
    exact e b o z h
end MyT
namespace My
open PySem PySem.Spec PyProof.Rows L2 GL Evl StX SkE
/-! ### comprehensions over words -/
theorem given_take {α : Type} (l : List α) (p : α → Bool) (g : α → V) : ∀ n, n ≤ l.length → given n (fun i => (l[i]?.map p).getD false) (fun i => (l[i]?.map g).getD .non) = ((l.take n).filter p).map g
  | 0, _ => rfl
  | n + 1, h => by
    have ih := given_take l p g n (by omega)
    have e2 : l[n]? = some l[n] := List.getElem?_eq_getElem (by omega)
    rw [List.take_add_one, e2, List.filter_append, List.map_append, ← ih]
    by_cases hp : p l[n] = true
    · rw [given_yes (by rw [e2]; exact hp)]
      congr 1
      · rw [e2]
        show _ = List.map g (List.filter p [l[n]])
        rw [List.filter_cons_of_pos hp]
        rfl
    · have hp' : p l[n] = false := by simpa using hp
      rw [given_no (by rw [e2]; exact hp')]
      show _ = _ ++ List.map g (List.filter p [l[n]])
      rw [List.filter_cons_of_neg hp]
      simp
theorem given_of {α : Type} (l : List α) (p : α → Bool) (g : α → V) : given l.length (fun i => (l[i]?.map p).getD false) (fun i => (l[i]?.map g).getD .non) = (l.filter p).map g := by
  rw [given_take l p g l.length (Nat.le_refl _), List.take_length]
section
variable {K : PySem.W.Frag} {σ : L2.St} {H H' : Hp} {te tl tb ta : TE} {t : TT} {a : Addr} {us ws : Rw} {j : Nat} {vs : List Nat} {xs : List V} {v : V} {D : Ends} {tz : TS}
theorem el_lcT (f : Nat → Bool) (g : Nat → V) (h : Ev tl σ H (.ref a)) (hx : SqT K H a xs) (hz : xs.length ≤ 40000) (hw : ∀ x, wipe ((wipe σ vs).set j (some x)) vs = wipe σ vs)
    (ht : ∀ (i : Nat) (x : V) H1, Ex H H1 → xs[i]? = some x → EvT t ((wipe σ vs).set j (some x)) H1 (f i)) (he : ∀ (i : Nat) (x : V) H1, Ex H H1 → xs[i]? = some x → f i = true → Ev te ((wipe σ vs).set j (some x)) H1 (g i)) :
    EvL (tLc (iTup K tl) (gName j) t te vs) σ H (given xs.length f g) := fun H0 e Q q => h H0 e _ fun H1 e1 => ⟨a, rfl, ⟨xs, ex_t (e.trans e1) hx⟩, fun Dl hD =>
  lc_it (walk_tup (K := K) (a := a) (xs := xs)) (Cw H1 f g Dl) ⟨hD, Ex.new hD, upd_same⟩ (fun i H' _ p => ex_t ((e.trans e1).trans p.2.1) hx) (fun i x H' H2 hi p y => by
    obtain ⟨rfl, hx'⟩ := y
    exact ⟨hw x, cw_turn p (by omega) (ht i x H1 (e.trans e1) hx') (fun hf => he i x H1 (e.trans e1) hx' hf)⟩)
    (fun H' p => q Dl H' (fresh_back e1 p.1) (e1.trans p.2.1) p.2.2)⟩
theorem w_item {us : Rw} {i : Nat} {x : V} (h : (us.map wV)[i]? = some x) : ∃ u, us[i]? = some u ∧ x = wV u ∧ u ∈ us := by
  rw [List.getElem?_map] at h
  obtain ⟨u, hu, rfl⟩ := Option.map_eq_some_iff.mp h
  exact ⟨u, hu, rfl, List.mem_of_getElem? hu⟩
/-- over a tuple of words -/
theorem el_lcW (p : Wd → Bool) (g : Wd → V) (h : Ev tl σ H (.ref a)) (hx : SqT K H a (us.map wV)) (hz : us.length ≤ 1000) (hw : ∀ x, wipe ((wipe σ vs).set j (some x)) vs = wipe σ vs)
    (ht : ∀ u H1, Ex H H1 → u ∈ us → EvT t ((wipe σ vs).set j (some (wV u))) H1 (p u)) (he : ∀ u H1, Ex H H1 → u ∈ us → p u = true → Ev te ((wipe σ vs).set j (some (wV u))) H1 (g u)) :
    EvL (tLc (iTup K tl) (gName j) t te vs) σ H ((us.filter p).map g) := by
  refine el_is (el_lcT (fun i => (us[i]?.map p).getD false) (fun i => (us[i]?.map g).getD .non) h hx (by rw [List.length_map]; omega) hw (fun i x H1 e1 hi => ?_) (fun i x H1 e1 hi hp => ?_)) (by rw [List.length_map]; exact given_of us p g)
  · obtain ⟨u, hu, rfl, m⟩ := w_item hi
    rw [hu]
    exact ht u H1 e1 m
  · obtain ⟨u, hu, rfl, m⟩ := w_item hi
    rw [hu] at hp ⊢
    exact he u H1 e1 m hp
/-- over a new list of words -/
theorem el_lcWN (p : Wd → Bool) (g : Wd → V) (h : EvL tl σ H (us.map wV)) (hz : us.length ≤ 1000) (hw : ∀ x, wipe ((wipe σ vs).set j (some x)) vs = wipe σ vs)
    (ht : ∀ u H1, Ex H H1 → u ∈ us → EvT t ((wipe σ vs).set j (some (wV u))) H1 (p u)) (he : ∀ u H1, Ex H H1 → u ∈ us → p u = true → Ev te ((wipe σ vs).set j (some (wV u))) H1 (g u)) :
    EvL (tLc (iList K tl) (gName j) t te vs) σ H ((us.filter p).map g) := by
  refine el_is (el_lcNL (fun i => (us[i]?.map p).getD false) (fun i => (us[i]?.map g).getD .non) h (by rw [List.length_map]; omega) hw (fun i x H1 e1 hi => ?_) (fun i x H1 e1 hi hp => ?_)) (by rw [List.length_map]; exact given_of us p g)
  · obtain ⟨u, hu, rfl, m⟩ := w_item hi
    rw [hu]
    exact ht u H1 e1 m
  · obtain ⟨u, hu, rfl, m⟩ := w_item hi
    rw [hu] at hp ⊢
    exact he u H1 e1 m hp
theorem filter_yes {α : Type} (l : List α) : l.filter (fun _ => true) = l := List.filter_eq_self.mpr fun _ _ => rfl
/-! words in rows -/
theorem rv_inW {w : Wd} (h : SqT K H a (us.map wV)) : RV (rIn K false) (wV w) (.ref a) H (.bl (decide (w ∈ us))) := by
  have z := rv_isT (x := wV w) h rfl (flat_w us)
  rwa [inV_w] at z
theorem rv_niW {w : Wd} (h : SqT K H a (us.map wV)) : RV (rIn K true) (wV w) (.ref a) H (.bl (!decide (w ∈ us))) := by
  have z := rv_niT (x := wV w) h rfl (flat_w us)
  rwa [inV_w] at z
/-- evaluates to a tuple of these words -/
def EvR (K : PySem.W.Frag) (te : TE) (σ : L2.St) (H : Hp) (us : Rw) : Prop := ∀ H1, Ex H H1 → ∀ Q : VK, (∀ p H2, Ex H1 H2 → RowX K H2 p us → Q (.ref p) H2) → te σ H1 Q
theorem EvR.mono (e : Ex H H') (h : EvR K te σ H us) : EvR K te σ H' us := fun H1 a Q q => h H1 (e.trans a) Q q
theorem er_tup {tA : TA} (h : EvA tA σ H (us.map wV)) (hl : us.length ≤ 1000) : EvR K (tTupX tA) σ H us := fun H1 e Q q => h H1 e _ fun H2 e2 => ⟨by rw [List.length_map, sizeLine_eq]; omega, fun p o hp b => q p _ (e2.trans (Ex.new hp)) (.fx upd_same b)⟩
/-- row == (words) -/
theorem ev_eqW (h : Ev ta σ H (.ref a)) (hr : RowX K H a us) (hu : EvR K tb σ H ws) : Ev (tOp (rEqD K) ta tb) σ H (.bl (decide (us = ws))) := fun H1 e Q q =>
  h H1 e _ fun H2 e2 => hu H2 (e.trans e2) _ fun p H3 e3 hp => ⟨dRow us, dRow ws, (hr.ex ((e.trans e2).trans e3)).dp, hp.dp, row_shaped _, row_shaped _, by
    rw [eqv_row]
    exact q H3 (e2.trans e3)⟩
/-- f(x, (words)) -/
theorem ev_callR {sp : Sp} {Er : XK} {x z : V} (h : Ev ta σ H x) (hu : EvR K tb σ H ws) (hs : ∀ p H1, Ex H H1 → RowX K H1 p ws → SpV sp [x, .ref p] H1 z) : Ev (tCall sp [] Er (tCons ta (tCons tb tNil))) σ H z := fun H1 e Q q =>
  h H1 e _ fun H2 e2 => hu H2 (e.trans e2) _ fun p H3 e3 hp => hs p H3 ((e.trans e2).trans e3) hp H3 (Ex.refl H3) Q (fun H4 e4 => q H4 ((e2.trans e3).trans e4)) Er
/-- row.index(word) -/
theorem idx_first {w : Wd} : ∀ {us : Rw}, w ∈ us → us[us.idxOf w]? = some w ∧ ∀ m, m < us.idxOf w → us[m]? ≠ some w
  | u :: us, h => by
    rw [List.idxOf_cons]
    by_cases e : u = w
    · subst e
      simp
    · have hw : w ∈ us := (List.mem_cons.mp h).resolve_left fun z => e z.symm
      obtain ⟨h1, h2⟩ := idx_first hw
      have ne : (u == w) = false := beq_eq_false_iff_ne.mpr e
      rw [ne]
      refine ⟨by simpa using h1, fun m hm => ?_⟩
      cases m with
      | zero => simpa using e
      | succ m =>
        rw [List.getElem?_cons_succ]
        exact h2 m (by simpa using hm)
theorem ev_idx {w : Wd} (h1 : Ev ta σ H (.ref a)) (h2 : Ev tb σ H (wV w)) (hr : RowX K H a us) (hw : w ∈ us) :
    Ev (tBMX K (fun x xs H Q => ∃ p, ∃ ys : List Str, ∃ z j, x = .ref p ∧ xs = [.str z] ∧ SqT K H p (ys.map V.str) ∧ ys[j]? = some z ∧ (∀ m, m < j → ys[m]? ≠ some z) ∧ Q (.int (j : Nat)) H) ta (tCons tb tNil)) σ H (nV (us.idxOf w)) := fun H1 e Q q =>
  h1 H1 e _ fun H2 e2 => ⟨⟨a, rfl, (hr.ex (e.trans e2)).tp⟩, h2 H2 (e.trans e2) _ fun H3 e3 => by
    obtain ⟨i1, i2⟩ := idx_first hw
    refine ⟨a, us.map Wd.s, w.s, us.idxOf w, rfl, rfl, by rw [← wV_strs]; exact (hr.ex ((e.trans e2).trans e3)).sq, by rw [List.getElem?_map, i1]; rfl, fun m hm q2 => ?_, q H3 (e2.trans e3)⟩
    rw [List.getElem?_map] at q2
    obtain ⟨u, hu, eu⟩ := Option.map_eq_some_iff.mp q2
    exact i2 m hm (by rw [hu, Wd.inj eu])⟩
/-- row[i:], row[:i], looked into -/
theorem ev_inCut {lo hi : Option Int} {tl th : TO} {w : Wd} (h1 : Ev ta σ H (wV w)) (h2 : Ev te σ H (.ref a)) (hl : EvO tl σ H lo) (hh : EvO th σ H hi) (hr : RowX K H a us) (cs : Rw) (hc : cutV (us.map wV) lo hi = cs.map wV) (hall : HT.sIx us.length 0 lo = 0 → HT.sIx us.length us.length hi = us.length → cs = us) :
    Ev (tOp (rIn K false) ta (tSl (rSlA K) te tl th)) σ H (.bl (decide (w ∈ cs))) := fun H1 e Q q =>
  h1 H1 e _ fun H2 e2 => h2 H2 (e.trans e2) _ fun H3 e3 => hl H3 ((e.trans e2).trans e3) _ fun H4 e4 => hh H4 (((e.trans e2).trans e3).trans e4) _ fun H5 e5 => by
    have x5 := (((e.trans e2).trans e3).trans e4).trans e5
    refine ⟨a, us.map wV, rfl, (hr.ex x5).sq, fun z => ?_, fun z p hp => ?_⟩
    · rw [List.length_map] at z
      have ec := hall z.1 z.2
      subst ec
      exact rv_inW (hr.ex x5).sq H5 (Ex.refl H5) Q fun H6 e6 => q H6 ((((e2.trans e3).trans e4).trans e5).trans e6)
    · rw [hc]
      exact rv_inW (us := cs) (st_of upd_same) _ (Ex.refl _) Q fun H6 e6 => q H6 (((((e2.trans e3).trans e4).trans e5).trans (Ex.new hp)).trans e6)
end
end My
namespace My
open PySem PySem.Spec PyProof.Rows L2 GL Evl StX SkE
/-! ### promises: words and rows -/
def sp_islist (K : PySem.W.Frag) : Sp := fun vs H Q _ => ∃ a us, vs = [.ref a] ∧ RowAt K H a us ∧ RetV (.bl true) H Q
def sp_isword (K : PySem.W.Frag) : Sp := fun vs H Q _ => ∃ w b, ∃ ws : Rw, vs = [wV w, .ref b] ∧ SqT K H b (ws.map wV) ∧ RetV (.bl (decide (w ∈ ws))) H Q
def sp_adw (K : PySem.W.Frag) : Sp := fun vs H Q _ => ∃ a b, ∃ us ws : Rw, vs = [.ref a, .ref b] ∧ RowAt K H a us ∧ SqT K H b (ws.map wV) ∧ us.Nodup ∧ us.length ≤ 900 ∧ RetV (.bl (pW us ws)) H Q
def sp_hwo (K : PySem.W.Frag) : Sp := fun vs H Q _ => ∃ a b, ∃ us ws : Rw, vs = [.ref a, .ref b] ∧ RowAt K H a us ∧ SqT K H b (ws.map wV) ∧ us.Nodup ∧ us.length ≤ 900 ∧ RetV (.bl (pW us ws)) H Q
def sp_taa (K : PySem.W.Frag) : Sp := fun vs H Q _ => ∃ a us w, vs = [.ref a, wV w] ∧ RowX K H a us ∧ RetV (.bl (pTA us w)) H Q
def sp_ohh (K : PySem.W.Frag) : Sp := fun vs H Q _ => ∃ a us, vs = [.ref a] ∧ RowX K H a us ∧ RetV (.bl (pOH us)) H Q
def sp_row (K : PySem.W.Frag) (f : Rw → Bool) : Sp := fun vs H Q _ => ∃ a us, vs = [.ref a] ∧ RowX K H a us ∧ RowOk us ∧ RetV (.bl (f us)) H Q
def sp_isrow (K : PySem.W.Frag) : Sp := fun vs H Q _ => ∃ k a us, vs = [wV k, .ref a] ∧ k ∈ kindRows ∧ RowX K H a us ∧ RowOk us ∧ RetV (.bl (pRow k us)) H Q
def sp_fitb (K : PySem.W.Frag) : Sp := fun vs H Q _ => ∃ a us, ∃ n : Nat, vs = [.ref a, nV n] ∧ RowX K H a us ∧ us ≠ [] ∧ RetV (.bl (pBatch us n)) H Q
def sp_fits (K : PySem.W.Frag) : Sp := fun vs H Q _ => ∃ a us b, vs = [.ref a, .bl b] ∧ RowX K H a us ∧ RetV (.bl (pShared us b)) H Q
section
variable {P : Program} {w : World} {K : PySem.W.Frag} {mg : Str → Option Value} {base : Heap} {H H' : Hp} {σ : L2.St} {te ta tb : TE} {D : Ends} {tz : TS} {a b : Addr} {us ws : Rw} {x c : V} {tl th : TO} {lo hi : Option Int}
theorem rc_isiE {u t : Value} {b : Bool} (k : ClsV c u) (ty : ∀ H1, Ex H H1 → TyX K H1 x t) (h : PySem.W.kitOne K t u = some b) : RC (rIsi K) [x, c] H (.bl b) := fun H1 e Q q => ⟨x, c, t, u, b, rfl, k, ty H1 e, h, q H1 (Ex.refl H1)⟩
theorem sv_isword {w : Wd} (h : SqT K H b (ws.map wV)) : SpV (sp_isword K) [wV w, .ref b] H (.bl (decide (w ∈ ws))) := fun _ e _ q _ => ⟨w, b, ws, rfl, ex_t e h, q⟩
theorem sv_adw (h : RowAt K H a us) (h2 : SqT K H b (ws.map wV)) (nd : us.Nodup) (hl : us.length ≤ 900) : SpV (sp_adw K) [.ref a, .ref b] H (.bl (pW us ws)) := fun _ e _ q _ => ⟨a, b, us, ws, rfl, h.ex e, ex_t e h2, nd, hl, q⟩
theorem sv_hwo (h : RowAt K H a us) (h2 : SqT K H b (ws.map wV)) (nd : us.Nodup) (hl : us.length ≤ 900) : SpV (sp_hwo K) [.ref a, .ref b] H (.bl (pW us ws)) := fun _ e _ q _ => ⟨a, b, us, ws, rfl, h.ex e, ex_t e h2, nd, hl, q⟩
theorem sv_taa {w : Wd} (h : RowX K H a us) : SpV (sp_taa K) [.ref a, wV w] H (.bl (pTA us w)) := fun _ e _ q _ => ⟨a, us, w, rfl, h.ex e, q⟩
theorem sv_ohh (h : RowX K H a us) : SpV (sp_ohh K) [.ref a] H (.bl (pOH us)) := fun _ e _ q _ => ⟨a, us, rfl, h.ex e, q⟩
theorem sv_row {f : Rw → Bool} (h : RowX K H a us) (ok : RowOk us) : SpV (sp_row K f) [.ref a] H (.bl (f us)) := fun _ e _ q _ => ⟨a, us, rfl, h.ex e, ok, q⟩
theorem sv_isrow {k : Wd} (hk : k ∈ kindRows) (h : RowX K H a us) (ok : RowOk us) : SpV (sp_isrow K) [wV k, .ref a] H (.bl (pRow k us)) := fun _ e _ q _ => ⟨k, a, us, rfl, hk, h.ex e, ok, q⟩
theorem cut_from {i : Nat} (hi : i ≤ us.length) : cutV (us.map wV) (some (i : Int)) none = (us.drop i).map wV := by
  unfold cutV
  rw [HT.sIx_nat, HT.sIx_none, List.length_map, Nat.min_eq_left hi, ← List.map_drop, List.take_of_length_le (by rw [List.length_map, List.length_drop]; omega)]
theorem cut_to {i : Nat} (hi : i ≤ us.length) : cutV (us.map wV) none (some (i : Int)) = (us.take i).map wV := by
  unfold cutV
  rw [HT.sIx_nat, HT.sIx_none, List.length_map, Nat.min_eq_left hi, Nat.sub_zero, List.drop_zero, List.map_take]
theorem idx_le (w : Wd) (us : Rw) : us.idxOf w ≤ us.length := List.idxOf_le_length
theorem all_from {i : Nat} (hi : i ≤ us.length) : HT.sIx us.length 0 (some (i : Int)) = 0 → HT.sIx us.length us.length none = us.length → us.drop i = us := fun h _ => by
  rw [HT.sIx_nat, Nat.min_eq_left hi] at h
  rw [h, List.drop_zero]
theorem all_to {i : Nat} (hi : i ≤ us.length) : HT.sIx us.length 0 none = 0 → HT.sIx us.length us.length (some (i : Int)) = us.length → us.take i = us := fun _ h => by
  rw [HT.sIx_nat, Nat.min_eq_left hi] at h
  rw [h, List.take_length]
theorem q_asgCut {i : Nat} (h2 : Ev te σ H (.ref a)) (hl : EvO tl σ H lo) (hh : EvO th σ H hi) (hr : RowX K H a us) (cs : Rw) (hc : cutV (us.map wV) lo hi = cs.map wV) (hall : HT.sIx us.length 0 lo = 0 → HT.sIx us.length us.length hi = us.length → cs = us)
    (k : ∀ p H1, Ex H H1 → RowAt K H1 p cs → tz D (σ.set i (some (.ref p))) H1) : tSeq (tAsg (tSl (rSlA K) te tl th) (gName i)) tz D σ H :=
  h2 H (Ex.refl H) _ fun H3 e3 => hl H3 e3 _ fun H4 e4 => hh H4 (e3.trans e4) _ fun H5 e5 => by
    have x5 := (e3.trans e4).trans e5
    refine ⟨a, us.map wV, rfl, (hr.ex x5).sq, fun z => ?_, fun z p hp => ?_⟩
    · rw [List.length_map] at z
      have ec := hall z.1 z.2
      subst ec
      exact k a H5 x5 (hr.ex x5).at_
    · rw [hc]
      exact k p _ (x5.trans (Ex.new hp)) (.tup upd_same)
theorem ev_lenSet {xs : List Str} (h : Ev te σ H (.ref a)) (hs : SqT K H a (xs.map V.str)) (nd : xs.Nodup) (hl : xs.length ≤ 1000) : Ev (tLenSetT K te) σ H (nV xs.length) := fun H1 e Q q => h H1 e _ fun H2 e2 => ⟨a, xs, rfl, ex_t (e.trans e2) hs, nd, hl, q H2 e2⟩
theorem ev_lenT {xs : List V} (h : Ev te σ H (.ref a)) (hs : SqT K H a xs) : Ev (tCB (rLenS K) (tCons te tNil)) σ H (nV xs.length) := fun H1 e Q q => h H1 e _ fun H2 e2 => ⟨a, xs, rfl, .inr (ex_t (e.trans e2) hs), q H2 e2⟩
theorem ok_is_an_integer (T : Txt K mg w)  : FnG P w K mg base CX0 1 T.f_is_an_integer T.fd_is_an_integer ["value"] MyT.sp_is_an_integer := by
  skip
  refine okG T.F_is_an_integer sc_is_an_integer (fun vs H Q E h => ?_) (fun cdv A outer s H vs Q E gd hr h => ?_)
  · obtain ⟨_, rfl, _⟩ := h
    all_goals rfl
  · obtain ⟨i, rfl, q⟩ := h
    refine ⟨_, (pss_one (ps_ret (pe_and (pe_callB call_isi (by rfl) T.z_isinstance boot_isinstance (pa_cons (pv 0) (pa_cons (pe_bltn (v := .ty "int") (u := .type "int") (by rfl) T.z_int (by decide +kernel) rfl) pa_nil))) (pe_one (pe_not (pe_callB call_isi (by rfl) T.z_isinstance boot_isinstance (pa_cons (pv 0) (pa_cons (pe_bltn (v := .ty "bool") (u := .type "bool") (by rfl) T.z_bool (by decide +kernel) rfl) pa_nil)))))))), ?_⟩
    refine s_ret (v := .bl true) (ev_andV (a := true) (b := true) (ev_cb (ea_cons (ev_var rfl) (ea_cons ev_c ea_nil)) (rc_isi (.ty "int") (fun _ => .base (.int i)) (kit_ty (by decide +kernel)))) fun _ => ?_) q
    exact ev_notV (a := false) (ev_cb (ea_cons (ev_var rfl) (ea_cons ev_c ea_nil)) (rc_isi (.ty "bool") (fun _ => .base (.int i)) (kit_ty (by decide +kernel))))
theorem ok_is_list (T : Txt K mg w)  : FnG P w K mg base CX0 1 T.f_is_list T.fd_is_list ["value"] (sp_islist K) := by
  skip
  refine okG T.F_is_list sc_is_list (fun vs H Q E h => ?_) (fun cdv A outer s H vs Q E gd hr h => ?_)
  · obtain ⟨_, _, rfl, _⟩ := h
    all_goals rfl
  · obtain ⟨a, us, rfl, ra, q⟩ := h
    refine ⟨_, (pss_one (ps_ret (pe_callB call_isiT (by rfl) T.z_isinstance boot_isinstance (pa_cons (pv 0) (pa_cons (pe_tup (pa_cons (pe_bltn (v := .ty "list") (u := .type "list") (by rfl) T.z_list (by decide +kernel) rfl) (pa_cons (pe_bltn (v := .ty "tuple") (u := .type "tuple") (by rfl) T.z_tuple (by decide +kernel) rfl) pa_nil))) pa_nil))))), ?_⟩
    refine ⟨_, rfl, (by show 2 ≤ sizeLine; decide), fun p hp => ?_⟩
    have e := Ex.new (o := .tup [.ty "list", .ty "tuple"]) hp
    exact ⟨.ref a, p, _, _, _, true, rfl, upd_same, .cons (.ty "list") (.cons (.ty "tuple") .nil), (ra.ex e).ty, kitAny_cons (b := false) (kit_ty (by decide +kernel)) (fun _ => kitAny_cons (b := true) (kit_ty (by decide +kernel)) (fun z => nomatch z) (fun _ => rfl)) (fun z => nomatch z), q _ e⟩
theorem ok_is_word (T : Txt K mg w)  : FnG P w K mg base CX0 1 T.f_is_word T.fd_is_word ["value", "words"] (sp_isword K) := by
  skip
  refine okG T.F_is_word sc_is_word (fun vs H Q E h => ?_) (fun cdv A outer s H vs Q E gd hr h => ?_)
  · obtain ⟨_, _, _, rfl, _⟩ := h
    all_goals rfl
  · obtain ⟨w0, b, ws, rfl, hb, q⟩ := h
    refine ⟨_, (pss_one (ps_ret (pe_and (pe_callB call_isi (by rfl) T.z_isinstance boot_isinstance (pa_cons (pv 0) (pa_cons (pe_bltn (v := .ty "str") (u := .type "str") (by rfl) T.z_str (by decide +kernel) rfl) pa_nil))) (pe_one (pe_cmpR op_in_seq (pv 0) (pv 1) (by rfl)))))), ?_⟩
    refine s_ret (ev_is (ev_andV (a := true) (ev_cb (ea_cons (ev_var rfl) (ea_cons ev_c ea_nil)) (rc_isi (.ty "str") (fun _ => .base (.str _)) (kit_ty (by decide +kernel)))) fun _ => ev_op (ev_var rfl) (ev_var rfl) (rv_inW hb)) (by rw [Bool.true_and])) q
theorem ok_are_different_words (T : Txt K mg w) (G_is_word : FnG P w K mg base CX0 1 T.f_is_word T.fd_is_word ["value", "words"] (sp_isword K)) : FnG P w K mg base CX0 2 T.f_are_different_words T.fd_are_different_words ["values", "words"] (sp_adw K) := by
  skip
  refine okG T.F_are_different_words sc_are_different_words (fun vs H Q E h => ?_) (fun cdv A outer s H vs Q E gd hr h => ?_)
  · obtain ⟨_, _, _, _, rfl, _⟩ := h
    all_goals rfl
  · obtain ⟨a, b, us, ws, rfl, ra, hb, nd, hl, q⟩ := h
    refine ⟨_, (pss_one (ps_ret (pe_and (pe_callB (cr_all rfl) (by rfl) T.z_all boot_all (pa_cons (pe_lc (own := [("value", 2)]) (g := gName 2) rfl sc_are_different_words.nd (pi_tup (pv 0)) (blkOk_by (N := N_are_different_words) (sc := defScope s_are_different_words) (by decide +kernel)) (fun _ _ _ _ _ => (pg_name (i := 2) sc_are_different_words.nd rfl (Or.inl rfl) (Or.inr rfl))) (fun _ _ _ _ _ => pts_nil) (fun _ _ _ _ _ => (pc gd G_is_word (hr.mono (by decide)) (by rfl) T.m_is_word T.F_is_word.kp T.b_is_word .nil pass0 (pa_cons (pv 2) (pa_cons (pv 1) pa_nil))))) pa_nil)) (pe_one (pe_cmpR op_eq (pe_lenSetT (by rfl) T.z_len (by rfl) T.z_set (pv 0)) (pe_callB call_len_seq (by rfl) T.z_len PySem.boot_len (pa_cons (pv 0) pa_nil)) (nomark _)))))), ?_⟩
    refine s_ret (ev_is (ev_andV (a := pW us ws) (b := true) (ev_is (ev_allB (bs := us.map fun u => decide (u ∈ ws)) (el_is (el_lcW (us := us) (fun _ => true) (fun u => .bl (decide (u ∈ ws))) (ev_var rfl) ra.sq (by omega) (fun _ => rfl) (fun u H1 e1 hu => et_yes) (fun u H1 e1 hu _ => ev_call (ea_cons (ev_var rfl) (ea_cons (ev_var rfl) ea_nil)) (sv_isword (ex_t e1 hb)))) (by rw [filter_yes, List.map_map]; rfl))) (by rw [List.all_map]; rfl)) fun _ => ?_) (by rw [Bool.and_true])) q
    have z := ev_op (r := rEq) (ev_lenSet (K := K) (H := H) (te := tVar 0) (σ := start N_are_different_words [.ref a, .ref b]) (a := a) (xs := us.map Wd.s) (ev_var rfl) (by rw [← wV_strs]; exact ra.sq) (nodup_s nd) (by rw [List.length_map]; omega)) (ev_lenT (K := K) (te := tVar 0) (xs := us.map wV) (ev_var rfl) ra.sq) (rv_eq rfl)
    rw [List.length_map, List.length_map, decide_eq_true rfl] at z
    exact z
theorem ok_has_words_of (T : Txt K mg w) (G_are_different_words : FnG P w K mg base CX0 2 T.f_are_different_words T.fd_are_different_words ["values", "words"] (sp_adw K)) : FnG P w K mg base CX0 3 T.f_has_words_of T.fd_has_words_of ["value", "words"] (sp_hwo K) := by
  skip
  refine okG T.F_has_words_of sc_has_words_of (fun vs H Q E h => ?_) (fun cdv A outer s H vs Q E gd hr h => ?_)
  · obtain ⟨_, _, _, _, rfl, _⟩ := h
    all_goals rfl
  · obtain ⟨a, b, us, ws, rfl, ra, hb, nd, hl, q⟩ := h
    refine ⟨_, (pss_one (ps_ret (pe_and (pe_callB call_isi (by rfl) T.z_isinstance boot_isinstance (pa_cons (pv 0) (pa_cons (pe_bltn (v := .ty "tuple") (u := .type "tuple") (by rfl) T.z_tuple (by decide +kernel) rfl) pa_nil))) (pe_one (pc gd G_are_different_words (hr.mono (by decide)) (by rfl) T.m_are_different_words T.F_are_different_words.kp T.b_are_different_words .nil pass0 (pa_cons (pv 0) (pa_cons (pv 1) pa_nil))))))), ?_⟩
    exact s_ret (ev_is (ev_andV (a := true) (ev_cb (ea_cons (ev_var rfl) (ea_cons ev_c ea_nil)) (rc_isiE (.ty "tuple") (fun H1 e => (ra.ex e).ty) (kit_ty (by decide +kernel)))) fun _ => ev_call (ea_cons (ev_var rfl) (ea_cons (ev_var rfl) ea_nil)) (sv_adw ra hb nd hl)) (by rw [Bool.true_and])) q
theorem ok_tests_are_ahead (T : Txt K mg w)  : FnG P w K mg base CX0 1 T.f_tests_are_ahead T.fd_tests_are_ahead ["row", "word"] (sp_taa K) := by
  skip
  refine okG T.F_tests_are_ahead sc_tests_are_ahead (fun vs H Q E h => ?_) (fun cdv A outer s H vs Q E gd hr h => ?_)
  · obtain ⟨_, _, _, rfl, _⟩ := h
    all_goals rfl
  · obtain ⟨a, us, w0, rfl, ra, q⟩ := h
    refine ⟨_, (pss_cons (ps_if (pt_cmpR op_notIn_seq (pv 1) (pv 0) (by rfl)) (pss_one (ps_ret pe_bl)) pss_nil) (pss_cons (ps_set (i := 2) sc_tests_are_ahead.nd rfl (Or.inl rfl) (pe_slice sl_tupA (pv 0) (po_some (pe_bmX PySem.F.slot_tuple_index PySem.F.type_tuple_index mt_tup_index (pv 0) (pa_cons (pv 1) pa_nil))) po_none)) (pss_one (ps_ret (pe_and (pe_cmpR op_notIn_seq pe_str (pv 2) (by rfl)) (pe_one (pe_cmpR op_notIn_seq pe_str (pv 2) (by rfl)))))))), ?_⟩
    refine q_when (et_test (ev_op (ev_var rfl) (ev_var rfl) (rv_niW ra.sq))) (fun hb H1 e1 => s_ret (ev_is ev_c ?_) fun H2 e2 => q H2 (e1.trans e2)) fun hb H1 e1 => ?_
    · have hw : ¬ w0 ∈ us := by simpa using hb
      unfold pTA
      rw [if_neg hw]
    · have hw : w0 ∈ us := by simpa using hb
      refine q_asgCut (us := us) (lo := some (us.idxOf w0 : Nat)) (hi := none) (ev_var rfl) (eo_some (ev_idx (us := us) (ev_var rfl) (ev_var rfl) (ra.ex e1) hw)) eo_none (ra.ex e1) _ (cut_from (idx_le _ _)) (all_from (idx_le _ _)) fun p H2 e2 hp => ?_
      refine s_ret (ev_is (ev_andV (ev_op (ev_is ev_c (show V.str "look" = wV .look from rfl)) (ev_var rfl) (rv_niW hp.sq)) fun _ => ev_op (ev_is ev_c (show V.str "try" = wV .tri from rfl)) (ev_var rfl) (rv_niW hp.sq)) ?_) fun H3 e3 => q H3 ((e1.trans e2).trans e3)
      unfold pTA
      rw [if_pos hw]
theorem ok_off_has_home (T : Txt K mg w)  : FnG P w K mg base CX0 1 T.f_off_has_home T.fd_off_has_home ["row"] (sp_ohh K) := by
  skip
  refine okG T.F_off_has_home sc_off_has_home (fun vs H Q E h => ?_) (fun cdv A outer s H vs Q E gd hr h => ?_)
  · obtain ⟨_, _, rfl, _⟩ := h
    all_goals rfl
  · obtain ⟨a, us, rfl, ra, q⟩ := h
    refine ⟨_, (pss_one (ps_ret (pe_or (pe_cmpR op_notIn_seq pe_str (pv 0) (by rfl)) (pe_one (pe_cmpR op_in_seq pe_str (pe_slice sl_tupA (pv 0) po_none (po_some (pe_bmX PySem.F.slot_tuple_index PySem.F.type_tuple_index mt_tup_index (pv 0) (pa_cons pe_str pa_nil)))) (by rfl)))))), ?_⟩
    refine s_ret (ev_orV (a := !decide (Wd.off ∈ us)) (ev_op (ev_is ev_c (show V.str "off" = wV .off from rfl)) (ev_var rfl) (rv_niW ra.sq)) fun hb => ?_) q
    have hw : Wd.off ∈ us := by simpa using hb
    exact ev_inCut (us := us) (lo := none) (hi := some (us.idxOf Wd.off : Nat)) (ev_is ev_c (show V.str "home" = wV .home from rfl)) (ev_var rfl) eo_none (eo_some (ev_idx (us := us) (ev_var rfl) (ev_is ev_c (show V.str "off" = wV .off from rfl)) ra hw)) ra _ (cut_to (idx_le _ _)) (all_to (idx_le _ _))
end
end My
namespace My
open PySem PySem.Spec PyProof.Rows L2 GL Evl StX SkE
/-! ### promises: what is checked -/
def rowKs : List Pt := [.take, .give, .move, .lift]
def ptW : Pt → Wd
  | .take => .take | .give => .give | .move => .move | _ => .lift
def sp_cfails : Sp := fun vs H Q _ => ∃ w : Wd, vs = [wV w] ∧ w ∈ failWs ∧ RetV .non H Q
def sp_cbool : Sp := fun vs H Q _ => ∃ (x : Str) (b : Bool), vs = [.str x, .bl b] ∧ RetV .non H Q
def sp_cholds (K : PySem.W.Frag) : Sp := fun vs H Q _ => ∃ a, ∃ us : Rw, vs = [.ref a] ∧ RowAt K H a us ∧ us.Sublist kindRows ∧ RetV .non H Q
def sp_cbatch : Sp := fun vs H Q _ => ∃ n : Nat, vs = [nV n] ∧ 1 ≤ n ∧ n ≤ 50 ∧ RetV .non H Q
/-- the rows of r, each one of its kind -/
def rowOf (r : Ru) : Pt → Rw
  | .take => r.take | .give => r.give | .move => r.move | _ => r.lift
def sp_crows (K : PySem.W.Frag) : Sp := fun vs H Q _ => ∃ d r, vs = [.ref d] ∧ DictAt K H d rowKs r ∧ Ok r ∧ RetV .non H Q
theorem pW_kinds {us : Rw} (h : us.Sublist kindRows) : pW us kindRows = true := List.all_eq_true.mpr fun u hu => decide_eq_true (h.subset hu)
theorem rows_ok {r : Ru} (h : Ok r) {p : Pt} (hp : p ∈ rowKs) : RowOk (rowOf r p) ∧ pRow (ptW p) (rowOf r p) = true ∧ r.get p = .row (rowOf r p) ∧ ptW p ∈ kindRows ∧ V.str p.s = wV (ptW p) := by
  simp only [rowKs, List.mem_cons, List.not_mem_nil, or_false] at hp
  rcases hp with rfl | rfl | rfl | rfl
  · exact ⟨h.t.1, h.t.2.1, rfl, by decide, rfl⟩
  · exact ⟨h.g.1, h.g.2, rfl, by decide, rfl⟩
  · exact ⟨h.m.1, h.m.2.1, rfl, by decide, rfl⟩
  · exact ⟨h.l.1, h.l.2, rfl, by decide, rfl⟩
theorem at_last {us : Rw} (h : us ≠ []) : ∃ x, us.getLast? = some x ∧ atI (us.map wV) (-1) = some (wV x) := by
  have hl : 0 < us.length := List.length_pos_iff.mpr h
  refine ⟨us.getLast h, List.getLast?_eq_some_getLast h, ?_⟩
  unfold atI
  rw [List.length_map]
  have e : ixN us.length (-1) = some (us.length - 1) := by
    unfold ixN
    rw [if_neg (by omega), if_pos (by omega)]
    congr 1
    omega
  rw [e]
  show (us.map wV)[us.length - 1]? = _
  rw [at_w (w := us.getLast h)]
  rw [List.getLast_eq_getElem]
  exact List.getElem?_eq_getElem (by omega)
section
variable {P : Program} {w : World} {K : PySem.W.Frag} {mg : Str → Option Value} {base : Heap} {H H' : Hp} {σ : L2.St} {te ta tb : TE} {tA : TA} {D : Ends} {tz : TS} {a b : Addr} {us ws : Rw} {x c : V}
theorem cbl {a b : Bool} (h : a = b) : V.bl a = V.bl b := congrArg V.bl h
theorem ev_hwo {Er : XK} (h1 : Ev ta σ H (.ref a)) (ra : RowX K H a us) (h2 : EvR K tb σ H ws) (ok : RowOk us) : Ev (tCall (sp_hwo K) [] Er (tCons ta (tCons tb tNil))) σ H (.bl (pW us ws)) :=
  ev_callR h1 h2 fun p H1 e1 hp => sv_hwo (ra.ex e1).at_ hp.sq ok.nd (by have := ok.ln; omega)
theorem ev_lit {z : Str} {w0 : Wd} (e : z = w0.s) : Ev (tC (.str z)) σ H (wV w0) := by
  rw [e]
  exact ev_c
theorem er_4 {z1 z2 z3 z4 : Str} {w1 w2 w3 w4 : Wd} (e1 : z1 = w1.s) (e2 : z2 = w2.s) (e3 : z3 = w3.s) (e4 : z4 = w4.s) : EvR K (tTupX (tCons (tC (.str z1)) (tCons (tC (.str z2)) (tCons (tC (.str z3)) (tCons (tC (.str z4)) tNil))))) σ H [w1, w2, w3, w4] := er_tup (ea_cons (ev_lit e1) (ea_cons (ev_lit e2) (ea_cons (ev_lit e3) (ea_cons (ev_lit e4) ea_nil)))) (by show 4 ≤ 1000; omega)
theorem er_3 {z1 z2 z3 : Str} {w1 w2 w3 : Wd} (e1 : z1 = w1.s) (e2 : z2 = w2.s) (e3 : z3 = w3.s) : EvR K (tTupX (tCons (tC (.str z1)) (tCons (tC (.str z2)) (tCons (tC (.str z3)) tNil)))) σ H [w1, w2, w3] := er_tup (ea_cons (ev_lit e1) (ea_cons (ev_lit e2) (ea_cons (ev_lit e3) ea_nil))) (by show 3 ≤ 1000; omega)
theorem er_2 {z1 z2 : Str} {w1 w2 : Wd} (e1 : z1 = w1.s) (e2 : z2 = w2.s) : EvR K (tTupX (tCons (tC (.str z1)) (tCons (tC (.str z2)) tNil))) σ H [w1, w2] := er_tup (ea_cons (ev_lit e1) (ea_cons (ev_lit e2) ea_nil)) (by show 2 ≤ 1000; omega)
theorem er_1 {z1 : Str} {w1 : Wd} (e1 : z1 = w1.s) : EvR K (tTupX (tCons (tC (.str z1)) tNil)) σ H [w1] := er_tup (ea_cons (ev_lit e1) ea_nil) (by show 1 ≤ 1000; omega)
theorem er_0 : EvR K (tTupX tNil) σ H [] := er_tup (us := []) ea_nil (Nat.zero_le _)
theorem ev_inL {z : Str} {w0 : Wd} (e : z = w0.s) (h2 : Ev tb σ H (.ref a)) (ra : RowX K H a us) : Ev (tOp (rIn K false) (tC (.str z)) tb) σ H (.bl (decide (w0 ∈ us))) := ev_op (ev_lit e) h2 (rv_inW ra.sq)
theorem ev_niL {z : Str} {w0 : Wd} (e : z = w0.s) (h2 : Ev tb σ H (.ref a)) (ra : RowX K H a us) : Ev (tOp (rIn K true) (tC (.str z)) tb) σ H (.bl (!decide (w0 ∈ us))) := ev_op (ev_lit e) h2 (rv_niW ra.sq)
theorem ok_is_take_row (T : Txt K mg w) (G_has_words_of : FnG P w K mg base CX0 3 T.f_has_words_of T.fd_has_words_of ["value", "words"] (sp_hwo K)) (G_tests_are_ahead : FnG P w K mg base CX0 1 T.f_tests_are_ahead T.fd_tests_are_ahead ["row", "word"] (sp_taa K)) : FnG P w K mg base CX0 4 T.f_is_take_row T.fd_is_take_row ["value"] (sp_row K pTake) := by
  skip
  refine okG T.F_is_take_row sc_is_take_row (fun vs H Q E h => ?_) (fun cdv A outer s H vs Q E gd hr h => ?_)
  · obtain ⟨_, _, rfl, _⟩ := h
    all_goals rfl
  · obtain ⟨a, us, rfl, ra, ok, q⟩ := h
    refine ⟨_, (pss_cons (ps_if ((pw_or (pt_not (pt_val (pc gd G_has_words_of (hr.mono (by decide)) (by rfl) T.m_has_words_of T.F_has_words_of.kp T.b_has_words_of .nil pass0 (pa_cons (pv 0) (pa_cons (pe_tupX (pa_cons pe_str (pa_cons pe_str (pa_cons pe_str (pa_cons pe_str pa_nil))))) pa_nil))))) (pw_or1 (pt_cmpR op_notIn_seq pe_str (pv 0) (by rfl))))).pt (pss_one (ps_ret pe_bl)) pss_nil) (pss_cons (ps_if (pt_cmpR op_in_seq pe_str (pv 0) (by rfl)) (pss_one (ps_ret (pe_cmpR (op_eqD (roomU hr)) (pv 0) (pe_tupX (pa_cons pe_str (pa_cons pe_str pa_nil))) (nomark _)))) pss_nil) (pss_one (ps_ret (pe_and (pe_cmpR op_in_seq pe_str (pv 0) (by rfl)) (pe_one (pc gd G_tests_are_ahead (hr.mono (by decide)) (by rfl) T.m_tests_are_ahead T.F_tests_are_ahead.kp T.b_tests_are_ahead .nil pass0 (pa_cons (pv 0) (pa_cons pe_str pa_nil))))))))), ?_⟩
    refine q_when (b := !pW us [.live, .tri, .add, .look] || !decide (Wd.live ∈ us)) (et_or (et_not (et_B (ev_hwo (ev_var rfl) ra (er_4 rfl rfl rfl rfl) ok))) fun _ => et_test (ev_niL rfl (ev_var rfl) ra)) (fun hb H1 e1 => s_ret (ev_is ev_c (cbl (b := pTake us) ?_)) fun H2 e2 => q H2 (e1.trans e2)) fun hb H1 e1 => ?_
    · unfold pTake
      rcases Bool.or_eq_true_iff.mp hb with h | h
      · rw [Bool.not_eq_true'] at h
        rw [h, Bool.false_and, Bool.false_and]
      · rw [Bool.not_eq_true'] at h
        rw [h, Bool.and_false, Bool.false_and]
    rw [Bool.or_eq_false_iff, Bool.not_eq_false', Bool.not_eq_false'] at hb
    refine q_when (et_test (ev_inL (w0 := .tri) rfl (ev_var rfl) (ra.ex e1))) (fun hc H2 e2 => ?_) fun hc H2 e2 => ?_
    · refine s_ret (ev_is (ev_eqW (us := us) (ev_var rfl) ((ra.ex e1).ex e2) (er_2 (w1 := .tri) (w2 := .live) rfl rfl)) (congrArg V.bl ?_)) fun H3 e3 => q H3 ((e1.trans e2).trans e3)
      unfold pTake
      rw [hb.1, hb.2, if_pos (of_decide_eq_true hc)]
      rfl
    · refine s_ret (ev_is (ev_andV (ev_inL (w0 := .add) rfl (ev_var rfl) ((ra.ex e1).ex e2)) fun _ => ev_call (ea_cons (ev_var rfl) (ea_cons (ev_lit (w0 := .live) rfl) ea_nil)) (sv_taa (w := .live) ((ra.ex e1).ex e2))) (congrArg V.bl ?_)) fun H3 e3 => q H3 ((e1.trans e2).trans e3)
      unfold pTake
      rw [hb.1, hb.2, if_neg (of_decide_eq_false hc)]
      rfl
theorem ok_is_give_row (T : Txt K mg w) (G_has_words_of : FnG P w K mg base CX0 3 T.f_has_words_of T.fd_has_words_of ["value", "words"] (sp_hwo K)) (G_off_has_home : FnG P w K mg base CX0 1 T.f_off_has_home T.fd_off_has_home ["row"] (sp_ohh K)) : FnG P w K mg base CX0 4 T.f_is_give_row T.fd_is_give_row ["value"] (sp_row K pGive) := by
  skip
  refine okG T.F_is_give_row sc_is_give_row (fun vs H Q E h => ?_) (fun cdv A outer s H vs Q E gd hr h => ?_)
  · obtain ⟨_, _, rfl, _⟩ := h
    all_goals rfl
  · obtain ⟨a, us, rfl, ra, ok, q⟩ := h
    refine ⟨_, (pss_one (ps_ret (pe_and (pc gd G_has_words_of (hr.mono (by decide)) (by rfl) T.m_has_words_of T.F_has_words_of.kp T.b_has_words_of .nil pass0 (pa_cons (pv 0) (pa_cons (pe_tupX (pa_cons pe_str (pa_cons pe_str (pa_cons pe_str pa_nil)))) pa_nil))) (pe_and (pe_cmpR op_in_seq pe_str (pv 0) (by rfl)) (pe_one (pc gd G_off_has_home (hr.mono (by decide)) (by rfl) T.m_off_has_home T.F_off_has_home.kp T.b_off_has_home .nil pass0 (pa_cons (pv 0) pa_nil))))))), ?_⟩
    exact s_ret (ev_is (ev_andV (ev_hwo (ev_var rfl) ra (er_3 rfl rfl rfl) ok) fun _ => ev_andV (ev_inL rfl (ev_var rfl) ra) fun _ => ev_call (ea_cons (ev_var rfl) ea_nil) (sv_ohh ra)) (congrArg V.bl (by unfold pGive; rw [Bool.and_assoc]))) q
theorem ok_is_move_row (T : Txt K mg w) (G_has_words_of : FnG P w K mg base CX0 3 T.f_has_words_of T.fd_has_words_of ["value", "words"] (sp_hwo K)) (G_off_has_home : FnG P w K mg base CX0 1 T.f_off_has_home T.fd_off_has_home ["row"] (sp_ohh K)) (G_tests_are_ahead : FnG P w K mg base CX0 1 T.f_tests_are_ahead T.fd_tests_are_ahead ["row", "word"] (sp_taa K)) : FnG P w K mg base CX0 4 T.f_is_move_row T.fd_is_move_row ["value"] (sp_row K pMove) := by
  skip
  refine okG T.F_is_move_row sc_is_move_row (fun vs H Q E h => ?_) (fun cdv A outer s H vs Q E gd hr h => ?_)
  · obtain ⟨_, _, rfl, _⟩ := h
    all_goals rfl
  · obtain ⟨a, us, rfl, ra, ok, q⟩ := h
    refine ⟨_, (pss_cons (ps_if (pt_not (pt_val (pc gd G_has_words_of (hr.mono (by decide)) (by rfl) T.m_has_words_of T.F_has_words_of.kp T.b_has_words_of .nil pass0 (pa_cons (pv 0) (pa_cons (pe_tupX (pa_cons pe_str (pa_cons pe_str (pa_cons pe_str (pa_cons pe_str (pa_cons pe_str (pa_cons pe_str pa_nil))))))) pa_nil))))) (pss_one (ps_ret pe_bl)) pss_nil) (pss_cons (ps_if (pt_cmpR (op_eqD (roomU hr)) (pv 0) (pe_tupX pa_nil) (nomark _)) (pss_one (ps_ret pe_bl)) pss_nil) (pss_cons (ps_if ((pw_or (pt_cmpR op_notIn_seq pe_str (pv 0) (by rfl)) (pw_or1 ((pw_and (pt_cmpR op_in_seq pe_str (pv 0) (by rfl)) (pw_and1 ((pw_or (pt_cmpR op_in_seq pe_str (pv 0) (by rfl)) (pw_or1 (pt_cmpR op_in_seq pe_str (pv 0) (by rfl))))).pt))).pt))).pt (pss_one (ps_ret pe_bl)) pss_nil) (pss_one (ps_ret (pe_and (pc gd G_off_has_home (hr.mono (by decide)) (by rfl) T.m_off_has_home T.F_off_has_home.kp T.b_off_has_home .nil pass0 (pa_cons (pv 0) pa_nil)) (pe_and (pc gd G_tests_are_ahead (hr.mono (by decide)) (by rfl) T.m_tests_are_ahead T.F_tests_are_ahead.kp T.b_tests_are_ahead .nil pass0 (pa_cons (pv 0) (pa_cons pe_str pa_nil))) (pe_one (pc gd G_tests_are_ahead (hr.mono (by decide)) (by rfl) T.m_tests_are_ahead T.F_tests_are_ahead.kp T.b_tests_are_ahead .nil pass0 (pa_cons (pv 0) (pa_cons pe_str pa_nil))))))))))), ?_⟩
    refine q_when (b := !pW us [.set, .home, .add, .look, .tri, .off]) (et_not (et_B (ev_hwo (ev_var rfl) ra (er_tup (us := [.set, .home, .add, .look, .tri, .off]) (ea_cons (ev_lit rfl) (ea_cons (ev_lit rfl) (ea_cons (ev_lit rfl) (ea_cons (ev_lit rfl) (ea_cons (ev_lit rfl) (ea_cons (ev_lit rfl) ea_nil)))))) (by show 6 ≤ 1000; omega)) ok))) (fun hb H1 e1 => s_ret (ev_is ev_c (cbl (b := pMove us) ?_)) fun H2 e2 => q H2 (e1.trans e2)) fun hb H1 e1 => ?_
    · rw [Bool.not_eq_true'] at hb
      unfold pMove
      rw [hb, Bool.false_and]
    rw [Bool.not_eq_false'] at hb
    refine q_when (et_test (ev_eqW (us := us) (ev_var rfl) (ra.ex e1) er_0)) (fun hc H2 e2 => s_ret (ev_is ev_c (cbl (b := pMove us) ?_)) fun H3 e3 => q H3 ((e1.trans e2).trans e3)) fun hc H2 e2 => ?_
    · unfold pMove
      rw [hb, hc, Bool.true_or, Bool.and_true]
    have r2 := (ra.ex e1).ex e2
    refine q_when (b := !decide (Wd.set ∈ us) || decide (Wd.tri ∈ us) && (decide (Wd.add ∈ us) || decide (Wd.look ∈ us))) (et_or (et_test (ev_niL rfl (ev_var rfl) r2)) fun _ => et_and (et_test (ev_inL rfl (ev_var rfl) r2)) fun _ => et_or (et_test (ev_inL rfl (ev_var rfl) r2)) fun _ => et_test (ev_inL rfl (ev_var rfl) r2)) (fun hd H3 e3 => s_ret (ev_is ev_c (cbl (b := pMove us) ?_)) fun H4 e4 => q H4 (((e1.trans e2).trans e3).trans e4)) fun hd H3 e3 => ?_
    · unfold pMove
      rw [hb, hc, hd]
      rfl
    refine s_ret (ev_is (ev_andV (ev_call (ea_cons (ev_var rfl) ea_nil) (sv_ohh (r2.ex e3))) fun _ => ev_andV (ev_call (ea_cons (ev_var rfl) (ea_cons (ev_lit rfl) ea_nil)) (sv_taa (w := .set) (r2.ex e3))) fun _ => ev_call (ea_cons (ev_var rfl) (ea_cons (ev_lit rfl) ea_nil)) (sv_taa (w := .off) (r2.ex e3))) (congrArg V.bl ?_)) fun H4 e4 => q H4 (((e1.trans e2).trans e3).trans e4)
    unfold pMove
    rw [hb, hc, hd, Bool.and_assoc]
    rfl
/-- a tuple of rows -/
theorem rows_at {T : Txt K mg w} : DpAll K H [.ref T.g0_LIFT_ROWS, .ref T.g1_LIFT_ROWS, .ref T.g2_LIFT_ROWS, .ref T.g3_LIFT_ROWS, .ref T.g4_LIFT_ROWS, .ref T.g5_LIFT_ROWS] (liftRows.map dRow) :=
  .cons (.tup (T.s0_LIFT_ROWS H) (dp_ws H [])) (.cons (.tup (T.s1_LIFT_ROWS H) (dp_ws H [.set])) (.cons (.tup (T.s2_LIFT_ROWS H) (dp_ws H [.off])) (.cons (.tup (T.s3_LIFT_ROWS H) (dp_ws H [.set, .off])) (.cons (.tup (T.s4_LIFT_ROWS H) (dp_ws H [.off, .set])) (.cons (.tup (T.s5_LIFT_ROWS H) (dp_ws H [.both])) .nil)))))
theorem ok_is_lift_row (T : Txt K mg w) (G_has_words_of : FnG P w K mg base CX0 3 T.f_has_words_of T.fd_has_words_of ["value", "words"] (sp_hwo K)) : FnG P w K mg base CX0 4 T.f_is_lift_row T.fd_is_lift_row ["value"] (sp_row K pLift) := by
  skip
  refine okG T.F_is_lift_row sc_is_lift_row (fun vs H Q E h => ?_) (fun cdv A outer s H vs Q E gd hr h => ?_)
  · obtain ⟨_, _, rfl, _⟩ := h
    all_goals rfl
  · obtain ⟨a, us, rfl, ra, ok, q⟩ := h
    refine ⟨_, (pss_one (ps_ret (pe_and (pc gd G_has_words_of (hr.mono (by decide)) (by rfl) T.m_has_words_of T.F_has_words_of.kp T.b_has_words_of .nil pass0 (pa_cons (pv 0) (pa_cons (pe_tupX (pa_cons pe_str (pa_cons pe_str (pa_cons pe_str pa_nil)))) pa_nil))) (pe_one (pe_cmpR (op_inDT (roomW hr)) (pv 0) (pe_glob (v := .ref T.g_LIFT_ROWS) (by rfl) T.m_LIFT_ROWS rfl) (by rfl)))))), ?_⟩
    refine s_ret (ev_andV (ev_hwo (ev_var rfl) ra (er_3 rfl rfl rfl) ok) fun _ => ev_op (ev_var rfl) ev_c fun H1 e1 Q q => ⟨dRow us, liftRows.map dRow, (ra.ex e1).dp, .tup (T.s_LIFT_ROWS H1) rows_at, row_shaped us, rowsT_shaped _, ?_⟩) q
    rw [any_row]
    exact q H1 (Ex.refl H1)
def RowChk (T : Txt K mg w) (f : Addr) (sp : Sp) : Prop := (f = T.f_is_take_row ∧ sp = sp_row K pTake) ∨ (f = T.f_is_give_row ∧ sp = sp_row K pGive) ∨ (f = T.f_is_move_row ∧ sp = sp_row K pMove) ∨ (f = T.f_is_lift_row ∧ sp = sp_row K pLift)
theorem rowChecks (T : Txt K mg w) (G1 : FnG P w K mg base CX0 4 T.f_is_take_row T.fd_is_take_row ["value"] (sp_row K pTake)) (G2 : FnG P w K mg base CX0 4 T.f_is_give_row T.fd_is_give_row ["value"] (sp_row K pGive)) (G3 : FnG P w K mg base CX0 4 T.f_is_move_row T.fd_is_move_row ["value"] (sp_row K pMove)) (G4 : FnG P w K mg base CX0 4 T.f_is_lift_row T.fd_is_lift_row ["value"] (sp_row K pLift)) :
    ∀ f sp, RowChk T f sp → HeldG P w K mg base 4 f sp := by
  intro f sp h
  rcases h with ⟨rfl, rfl⟩ | ⟨rfl, rfl⟩ | ⟨rfl, rfl⟩ | ⟨rfl, rfl⟩
  · exact ⟨_, _, G1, T.F_is_take_row.kp, T.b_is_take_row⟩
  · exact ⟨_, _, G2, T.F_is_give_row.kp, T.b_is_give_row⟩
  · exact ⟨_, _, G3, T.F_is_move_row.kp, T.b_is_move_row⟩
  · exact ⟨_, _, G4, T.F_is_lift_row.kp, T.b_is_lift_row⟩
theorem row_fn (T : Txt K mg w) {k : Wd} (hk : k ∈ kindRows) : ∃ f, KDct K w T.g_ROW_CHECKS k.s (.ref f) ∧ RowChk T f (sp_row K (pRow k)) := by
  simp only [kindRows, List.mem_cons, List.not_mem_nil, or_false] at hk
  rcases hk with rfl | rfl | rfl | rfl
  · exact ⟨_, T.k_ROW_CHECKS_take, .inl ⟨rfl, rfl⟩⟩
  · exact ⟨_, T.k_ROW_CHECKS_give, .inr (.inl ⟨rfl, rfl⟩)⟩
  · exact ⟨_, T.k_ROW_CHECKS_move, .inr (.inr (.inl ⟨rfl, rfl⟩))⟩
  · exact ⟨_, T.k_ROW_CHECKS_lift, .inr (.inr (.inr ⟨rfl, rfl⟩))⟩
theorem ok_is_row (T : Txt K mg w) (G_is_take_row : FnG P w K mg base CX0 4 T.f_is_take_row T.fd_is_take_row ["value"] (sp_row K pTake)) (G_is_give_row : FnG P w K mg base CX0 4 T.f_is_give_row T.fd_is_give_row ["value"] (sp_row K pGive)) (G_is_move_row : FnG P w K mg base CX0 4 T.f_is_move_row T.fd_is_move_row ["value"] (sp_row K pMove)) (G_is_lift_row : FnG P w K mg base CX0 4 T.f_is_lift_row T.fd_is_lift_row ["value"] (sp_row K pLift)) : FnG P w K mg base CX0 5 T.f_is_row T.fd_is_row ["kind", "value"] (sp_isrow K) := by
  skip
  refine okG T.F_is_row sc_is_row (fun vs H Q E h => ?_) (fun cdv A outer s H vs Q E gd hr h => ?_)
  · obtain ⟨_, _, _, rfl, _⟩ := h
    all_goals rfl
  · obtain ⟨k, a, us, rfl, hk, ra, ok, q⟩ := h
    refine ⟨_, (pss_cons (ps_set (i := 2) sc_is_row.nd rfl (Or.inl rfl) (pe_ix ix_kdict (pe_glob (v := .ref T.g_ROW_CHECKS) (by rfl) T.m_ROW_CHECKS rfl) (pv 0) (fun _ _ => rfl))) (pss_one (ps_ret (pcH (i := 2) gd (rowChecks T G_is_take_row G_is_give_row G_is_move_row G_is_lift_row) (hr.mono (by decide)) rfl (Or.inl rfl) (pa_cons (pv 1) pa_nil))))), ?_⟩
    obtain ⟨f, kd, rc⟩ := row_fn T hk
    refine q_asg (v := .ref f) (ev_op ev_c (ev_var rfl) fun H1 _ Q q => ⟨_, _, _, rfl, rfl, kd, q H1 (Ex.refl H1)⟩) fun H1 e1 => ?_
    exact s_retR ⟨f, _, rfl, rc, ea_cons (ev_var rfl) ea_nil H1 (Ex.refl H1) _ fun H2 e2 => sv_row (f := pRow k) (ra.ex (e1.trans e2)) ok H2 (Ex.refl H2) _ (fun H3 e3 => q H3 ((e1.trans e2).trans e3)) _⟩
theorem ok_fits_batch (T : Txt K mg w)  : FnG P w K mg base CX0 1 T.f_fits_batch T.fd_fits_batch ["row", "batch"] (sp_fitb K) := by
  skip
  refine okG T.F_fits_batch sc_fits_batch (fun vs H Q E h => ?_) (fun cdv A outer s H vs Q E gd hr h => ?_)
  · obtain ⟨_, _, _, rfl, _⟩ := h
    all_goals rfl
  · obtain ⟨a, us, n, rfl, ra, ne, q⟩ := h
    refine ⟨_, (pss_one (ps_ret (pe_or (pe_cmpR op_eq (pv 1) pe_int (nomark _)) (pe_one (pe_cmpR op_eq (pe_ix ix_tup (pv 0) (pe_un un_neg pe_int) (fun _ _ => rfl)) pe_str (nomark _)))))), ?_⟩
    obtain ⟨x, hx, hat⟩ := at_last ne
    refine s_ret (ev_is (ev_orV (a := decide (n = 1)) (ev_is (ev_op (ev_var rfl) ev_c (rv_eq rfl)) (congrArg V.bl (nV_eq n 1))) fun _ => ev_is (ev_op (ev_op (ev_var rfl) (ev_un ev_c ru_neg) (rv_ixT ra.sq hat)) (ev_lit rfl) (rv_eq rfl)) (congrArg V.bl (wV_eq x .live))) (congrArg V.bl ?_)) q
    unfold pBatch
    rw [hx]
    congr 1
    exact decide_eq_decide.mpr ⟨fun e => by rw [e], fun e => Option.some.inj e⟩
theorem ok_fits_shared (T : Txt K mg w)  : FnG P w K mg base CX0 1 T.f_fits_shared T.fd_fits_shared ["row", "shared"] (sp_fits K) := by
  skip
  refine okG T.F_fits_shared sc_fits_shared (fun vs H Q E h => ?_) (fun cdv A outer s H vs Q E gd hr h => ?_)
  · obtain ⟨_, _, _, rfl, _⟩ := h
    all_goals rfl
  · obtain ⟨a, us, b, rfl, ra, q⟩ := h
    refine ⟨_, (pss_one (ps_ret (pe_or (pv 1) (pe_or (pe_cmpR (op_eqD (roomU hr)) (pv 0) (pe_tupX pa_nil) (nomark _)) (pe_one (pe_cmpR op_eq (pe_ix ix_tup (pv 0) pe_int (fun _ _ => rfl)) pe_str (nomark _))))))), ?_⟩
    refine s_ret (ev_is (ev_orV (ev_var rfl) fun _ => ev_orV (a := decide (us = [])) (b := decide (us.head? = some .home)) (ev_eqW (us := us) (ev_var rfl) ra er_0) fun hne => ?_) (cbl (b := pShared us b) (by unfold pShared; rw [Bool.or_assoc]))) q
    cases us with
    | nil => cases hne
    | cons x us =>
      refine ev_is (ev_op (ev_op (ev_var rfl) ev_c (rv_ixT ra.sq (atI_nat (j := 0) rfl))) (ev_lit rfl) (rv_eq rfl)) (congrArg V.bl ((wV_eq x .home).trans ?_))
      exact decide_eq_decide.mpr ⟨fun e => by rw [e]; rfl, fun e => Option.some.inj e⟩
theorem ok_check_fails (T : Txt K mg w) (G_is_word : FnG P w K mg base CX0 1 T.f_is_word T.fd_is_word ["value", "words"] (sp_isword K)) : FnG P w K mg base CX0 2 T.f_check_fails T.fd_check_fails ["value"] sp_cfails := by
  skip
  refine okG T.F_check_fails sc_check_fails (fun vs H Q E h => ?_) (fun cdv A outer s H vs Q E gd hr h => ?_)
  · obtain ⟨_, rfl, _⟩ := h
    all_goals rfl
  · obtain ⟨w0, rfl, hw, q⟩ := h
    refine ⟨_, (pss_one (ps_if (pt_not (pt_val (pc gd G_is_word (hr.mono (by decide)) (by rfl) T.m_is_word T.F_is_word.kp T.b_is_word .nil pass0 (pa_cons (pv 0) (pa_cons (pe_glob (v := .ref T.g_FAILS) (by rfl) T.m_FAILS rfl) pa_nil))))) (pss_one ps_never) pss_nil)), ?_⟩
    refine s_when (b := false) (et_is (et_not (et_B (ev_call (ea_cons (ev_var rfl) (ea_cons ev_c ea_nil)) (sv_isword (ws := failWs) (T.s_FAILS H))))) (by rw [decide_eq_true hw]; rfl)) (fun z => nomatch z) fun _ H1 e1 => q H1 e1
theorem ok_check_bool (T : Txt K mg w)  : FnG P w K mg base CX0 1 T.f_check_bool T.fd_check_bool ["name", "value"] sp_cbool := by
  skip
  refine okG T.F_check_bool sc_check_bool (fun vs H Q E h => ?_) (fun cdv A outer s H vs Q E gd hr h => ?_)
  · obtain ⟨_, _, rfl, _⟩ := h
    all_goals rfl
  · obtain ⟨x, b, rfl, q⟩ := h
    refine ⟨_, (pss_one (ps_if (pt_not (pt_val (pe_callB call_isi (by rfl) T.z_isinstance boot_isinstance (pa_cons (pv 1) (pa_cons (pe_bltn (v := .ty "bool") (u := .type "bool") (by rfl) T.z_bool (by decide +kernel) rfl) pa_nil))))) (pss_one ps_never) pss_nil)), ?_⟩
    exact s_when (b := false) (et_not (a := true) (et_B (ev_cb (ea_cons (ev_var rfl) (ea_cons ev_c ea_nil)) (rc_isi (.ty "bool") (fun _ => .base (.bl b)) (kit_ty (by decide +kernel)))))) (fun z => nomatch z) fun _ H1 e1 => q H1 e1
theorem ok_check_holds (T : Txt K mg w) (G_is_list : FnG P w K mg base CX0 1 T.f_is_list T.fd_is_list ["value"] (sp_islist K)) (G_are_different_words : FnG P w K mg base CX0 2 T.f_are_different_words T.fd_are_different_words ["values", "words"] (sp_adw K)) : FnG P w K mg base CX0 3 T.f_check_holds T.fd_check_holds ["value"] (sp_cholds K) := by
  skip
  refine okG T.F_check_holds sc_check_holds (fun vs H Q E h => ?_) (fun cdv A outer s H vs Q E gd hr h => ?_)
  · obtain ⟨_, _, rfl, _⟩ := h
    all_goals rfl
  · obtain ⟨a, us, rfl, ra, hs, q⟩ := h
    refine ⟨_, (pss_one (ps_if ((pw_or (pt_not (pt_val (pc gd G_is_list (hr.mono (by decide)) (by rfl) T.m_is_list T.F_is_list.kp T.b_is_list .nil pass0 (pa_cons (pv 0) pa_nil)))) (pw_or1 (pt_not (pt_val (pc gd G_are_different_words (hr.mono (by decide)) (by rfl) T.m_are_different_words T.F_are_different_words.kp T.b_are_different_words .nil pass0 (pa_cons (pv 0) (pa_cons (pe_glob (v := .ref T.g_ROW_KINDS) (by rfl) T.m_ROW_KINDS rfl) pa_nil)))))))).pt (pss_one ps_never) pss_nil)), ?_⟩
    refine s_when (b := false) (et_or (a := false) (b := false) (et_not (a := true) (et_B (ev_call (ea_cons (ev_var rfl) ea_nil) fun H1 e1 Q q E => ⟨a, us, rfl, ra.ex e1, q⟩))) fun _ => et_not (a := true) (et_B (ev_is (ev_call (ea_cons (ev_var rfl) (ea_cons ev_c ea_nil)) (sv_adw ra (T.s_ROW_KINDS H) (ws := kindRows) (holds_nd hs) (by have := holds_ln hs; omega))) (congrArg V.bl (pW_kinds hs))))) (fun z => nomatch z) fun _ H1 e1 => q H1 e1
theorem ok_check_batch (T : Txt K mg w) (G_is_an_integer : FnG P w K mg base CX0 1 T.f_is_an_integer T.fd_is_an_integer ["value"] MyT.sp_is_an_integer) : FnG P w K mg base CX0 2 T.f_check_batch T.fd_check_batch ["value"] sp_cbatch := by
  skip
  refine okG T.F_check_batch sc_check_batch (fun vs H Q E h => ?_) (fun cdv A outer s H vs Q E gd hr h => ?_)
  · obtain ⟨_, rfl, _⟩ := h
    all_goals rfl
  · obtain ⟨n, rfl, h1, h2, q⟩ := h
    refine ⟨_, (pss_one (ps_if ((pw_or (pt_not (pt_val (pc gd G_is_an_integer (hr.mono (by decide)) (by rfl) T.m_is_an_integer T.F_is_an_integer.kp T.b_is_an_integer .nil pass0 (pa_cons (pv 0) pa_nil)))) (pw_or1 (pt_not (pt_chain op_le op_le pe_int (pv 0) (pe_glob (v := .int 50) (by rfl) T.m_MOST_BATCH ⟨_, rfl⟩)))))).pt (pss_one ps_never) pss_nil)), ?_⟩
    refine s_when (b := false) (et_or (a := false) (b := false) (et_not (a := true) (et_B (ev_call (ea_cons (ev_var rfl) ea_nil) fun H1 e1 Q q E => ⟨n, rfl, q⟩))) fun _ => et_not (a := true) (et_test (ev_chain (b := true) (c := true) ev_c (ev_var rfl) (rv_bl rv_I0 (decide_eq_true (by omega))) (fun _ => ev_c) fun _ => rv_bl rv_I0 (decide_eq_true (by omega))))) (fun z => nomatch z) fun _ H1 e1 => q H1 e1
end
end My
namespace My
open PySem PySem.Spec PyProof.Rows L2 GL Evl StX SkE
/-! ### dicts of parts, made and merged -/
theorem merge_kvs (f : Pt → V) : ∀ (ls ks : List Pt), (ks ++ ls).Nodup → mergeK (kvs ks f) (kvs ls f) = kvs (ks ++ ls) f
  | [], ks, _ => by rw [List.append_nil]; rfl
  | p :: ls, ks, nd => by
    have np : p ∉ ks := fun h => (List.nodup_append.mp nd).2.2 p h p List.mem_cons_self rfl
    have e : putK (kvs ks f) (.inr p.s) (f p) = kvs (ks ++ [p]) f := by
      rw [put_new np]
      have : put f p (f p) = f := funext fun q => by
        unfold put
        split
        · rename_i h
          rw [h]
        · rfl
      rw [this]
    have ih := merge_kvs f ls (ks ++ [p]) (by rw [List.append_assoc]; exact nd)
    rw [List.append_assoc] at ih
    show mergeK (putK (kvs ks f) (.inr p.s) (f p)) (kvs ls f) = _
    rw [e]
    exact ih
theorem made_kvs (f : Pt → V) {ks : List Pt} (nd : ks.Nodup) : mergeK [] (kvs ks f) = kvs ks f := merge_kvs f ks [] nd
/-- what is laid over: each key stands already, or is put at the end -/
theorem merge_put (f : Pt → V) {ks : List Pt} {p : Pt} {v : V} (h : p ∈ ks) : mergeK (kvs ks f) (kvs [p] (put f p v)) = kvs ks (put f p v) := by
  show putK (kvs ks f) (.inr p.s) (put f p v p) = _
  rw [show put f p v p = v by unfold put; rw [if_pos rfl]]
  exact put_old h
def bookKs : List Pt := [.take, .give, .move, .lift, .fails, .shared, .holds, .batch, .settles]
theorem bookKs_mem (p : Pt) : p ∈ bookKs := by cases p <;> decide
def bf (d : Addr) : List (Str × V) := putF "_parts" (.ref d) []
theorem bf_parts (d : Addr) : (bf d).lookup ("_parts" : Str) = some (.ref d) := by
  unfold bf
  rw [lookup_putF, if_pos rfl]
theorem bf_no (d : Addr) {m : Str} (h : ¬ m = "_parts") : (bf d).lookup m = none := by
  unfold bf
  rw [lookup_putF, if_neg h]
  rfl
/-- at b a book of these rules -/
structure BookP (K : PySem.W.Frag) (C : Addr) (H : Hp) (b dx d : Addr) (r : Ru) : Prop where
  ob : H b = some (.ins C dx (bf d))
  di : DictAt K H d bookKs r
  ok : Ok r
def BookAt (K : PySem.W.Frag) (C : Addr) (H : Hp) (b : Addr) (r : Ru) : Prop := ∃ dx d, BookP K C H b dx d r
section
variable {K : PySem.W.Frag} {C : Addr} {H H' : Hp} {a b dx d : Addr} {r : Ru}
theorem BookP.ex (h : BookP K C H b dx d r) (e : Ex H H') : BookP K C H' b dx d r := ⟨e _ _ h.ob, h.di.ex e, h.ok⟩
theorem BookAt.ex (h : BookAt K C H b r) (e : Ex H H') : BookAt K C H' b r := by
  obtain ⟨dx, d, p⟩ := h
  exact ⟨dx, d, p.ex e⟩
theorem BookP.exB (h : BookP K C H b dx d r) (e : ExB a H H') (n : NoTup H a) (nb : b ≠ a) (nd : d ≠ a) : BookP K C H' b dx d r := ⟨e _ _ nb h.ob, h.di.exB e nd n, h.ok⟩
/-- a list changes -/
theorem BookAt.exL (h : BookAt K C H b r) (e : ExB a H H') {xs : List V} (ha : H a = some (.lst xs)) : BookAt K C H' b r := by
  obtain ⟨dx, d, p⟩ := h
  refine ⟨dx, d, p.exB e (NoTup.lst ha) (fun z => ?_) (fun z => ?_)⟩
  · have := p.ob
    rw [z, ha] at this
    cases this
  · obtain ⟨f, h1, _⟩ := p.di
    rw [z, ha] at h1
    cases h1
theorem DictAt.exL {ks : List Pt} (h : DictAt K H d ks r) (e : ExB a H H') {xs : List V} (ha : H a = some (.lst xs)) : DictAt K H' d ks r := by
  refine h.exB e (fun z => ?_) (NoTup.lst ha)
  obtain ⟨f, h1, _⟩ := h
  rw [z, ha] at h1
  cases h1
/-- behind a lock -/
theorem unlock_ex {u : HO} (e : ExB d H H') (h : H d = some u) : Ex H (upd H' d u) := fun b o q => by
  by_cases z : b = d
  · rw [z, upd_same, ← h, ← z]
    exact q
  · rw [upd_ne z]
    exact e b o z q
end
/-- a book whose dict is new -/
def BookNew (K : PySem.W.Frag) (C : Addr) (H0 H : Hp) (b : Addr) (r : Ru) : Prop := ∃ dx d, H0 d = none ∧ BookP K C H b dx d r
theorem BookNew.at {K : PySem.W.Frag} {C : Addr} {H0 H : Hp} {b : Addr} {r : Ru} (h : BookNew K C H0 H b r) : BookAt K C H b r := by
  obtain ⟨dx, d, _, p⟩ := h
  exact ⟨dx, d, p⟩
theorem BookNew.old {K : PySem.W.Frag} {C : Addr} {G H0 H : Hp} {b : Addr} {r : Ru} (h : BookNew K C H0 H b r) (e : Ex G H0) : BookNew K C G H b r := by
  obtain ⟨dx, d, n, p⟩ := h
  exact ⟨dx, d, fresh_back e n, p⟩
def sp_Binit (K : PySem.W.Frag) (C : Addr) : Sp := fun vs H Q _ => ∃ H0 x dx r, ∃ f : Pt → V, vs = .ref x :: bookKs.map f ∧ Ex H0 H ∧ H0 x = none ∧ H x = some (.ins C dx []) ∧ (∀ p, (r.get p).At K H0 (f p)) ∧ Ok r ∧ ∀ H', Ex H0 H' → BookNew K C H0 H' x r → Q .non H'
def sp_Bwh (K : PySem.W.Frag) (C : Addr) : Sp := fun vs H Q _ => ∃ a b r, ∃ us : Rw, vs = [.ref a, .ref b] ∧ BookAt K C H a r ∧ RowAt K H b us ∧ us.Sublist kindRows ∧ ∀ H' p, H p = none → Ex H H' → BookAt K C H' p { r with holds := us } → Q (.ref p) H'
section
variable {P : Program} {w : World} {K : PySem.W.Frag} {mg : Str → Option Value} {base : Heap} {C : Addr} {H H' : Hp} {σ : L2.St} {te tb : TE} {E : XK} {D : Ends} {tz : TS} {a b d : Addr} {r l : Ru} {us : Rw} {ks : List Pt} {x : V}
theorem ok_check_rows (T : Txt K mg w) (G_is_row : FnG P w K mg base CX0 5 T.f_is_row T.fd_is_row ["kind", "value"] (sp_isrow K)) : FnG P w K mg base CX0 6 T.f_check_rows T.fd_check_rows ["rows"] (sp_crows K) := by
  skip
  refine okG T.F_check_rows sc_check_rows (fun vs H Q E h => ?_) (fun cdv A outer s H vs Q E gd hr h => ?_)
  · obtain ⟨_, _, rfl, _⟩ := h
    all_goals rfl
  · obtain ⟨d, r, rfl, ⟨f, hd, hf⟩, ok, q⟩ := h
    refine ⟨_, (pss_one (ps_lock (ps_for PassesOwn.never rfl (pi_items (pv 0)) (pg_tup rfl (pgs_cons (pg_name (i := 1) sc_check_rows.nd rfl (Or.inl rfl) (Or.inr rfl)) (pgs_cons (pg_name (i := 2) sc_check_rows.nd rfl (Or.inl rfl) (Or.inr rfl)) pgs_nil))) (pss_one (ps_if (pt_not (pt_val (pc gd G_is_row (hr.mono (by decide)) (by rfl) T.m_is_row T.F_is_row.kp T.b_is_row .nil pass0 (pa_cons (pv 1) (pa_cons (pv 2) pa_nil))))) (pss_one ps_never) pss_nil))))), ?_⟩
    refine ⟨d, _, hd, True.intro, fun od => ⟨_, rfl, d, od, kvs rowKs f, rfl, upd_same, for_it walk_items (fun i σ' H' => ∃ x y, σ' = [some (.ref d), x, y] ∧ ExB d H H' ∧ H' d = some (.frz od (.dK (kvs rowKs f)))) ⟨_, _, rfl, ExB.set, upd_same⟩ (fun i σ' H' _ p => ?_) (fun i v σ' H' H2 hi p y => ?_) (fun σ' H' p => ?_)⟩⟩
    · obtain ⟨_, _, _, _, z⟩ := p
      exact z
    · obtain ⟨_, _, rfl, x1, h1⟩ := p
      obtain ⟨T1, x, z, rfl, nT, rfl, e1, e2⟩ := y
      have hi' : i < rowKs.length := by rwa [List.length_map] at hi
      obtain ⟨p, hp⟩ : ∃ p, rowKs[i]? = some p := ⟨_, List.getElem?_eq_getElem hi'⟩
      have hk : (kvs rowKs f)[i]? = some (.inr p.s, f p) := by rw [List.getElem?_map, hp]; rfl
      dsimp only at e1 e2
      rw [hk] at e1 e2
      cases e1
      cases e2
      have mp := List.mem_of_getElem? hp
      obtain ⟨o1, o2, o3, o4, o5⟩ := rows_ok ok mp
      have at1 := hf p mp
      rw [o3] at at1
      obtain ⟨a, ea, ra⟩ := at1
      have ra2 := (ra.exB x1 (NoTup.dK hd)).ex (Ex.new (o := .tup [kV (.inr p.s), f p]) nT)
      refine ⟨T1, _, rfl, st_of upd_same, rfl, _, _, rfl, _, _, rfl, rfl, ?_⟩
      refine s_when (b := false) (et_is (et_not (et_B (ev_call (ea_cons (ev_is (ev_var rfl) o5) (ea_cons (ev_is (ev_var rfl) ea) ea_nil)) (sv_isrow o4 ra2 o1)))) (by rw [o2]; rfl)) (fun z => nomatch z) fun _ H3 e3 => ⟨_, _, rfl, ?_, ?_⟩
      · exact fun b o n hb => e3 _ _ (Ex.new nT _ _ (x1 b o n hb))
      · exact e3 _ _ (Ex.new nT _ _ h1)
    · obtain ⟨_, _, rfl, x1, h1⟩ := p
      exact ⟨h1, q _ (unlock_ex x1 hd)⟩
/-- a part evaluates -/
def EvP (K : PySem.W.Frag) (te : TE) (σ : L2.St) (H : Hp) (p : Pv) : Prop := ∀ H1, Ex H H1 → ∀ Q : VK, (∀ v H2, Ex H1 H2 → p.At K H2 v → Q v H2) → te σ H1 Q
theorem EvP.mono {p : Pv} (e : Ex H H') (h : EvP K te σ H p) : EvP K te σ H' p := fun H1 a Q q => h H1 (e.trans a) Q q
/-- d["part"] -/
theorem ep_get {p : Pt} {z : Str} (h : Ev te σ H (.ref d)) (hd : DictAt K H d ks r) (hp : p ∈ ks) (e : z = p.s) : EvP K (tDGet te (tC (.str z))) σ H (r.get p) := fun H1 e1 Q q => h H1 e1 _ fun H2 e2 => by
  obtain ⟨f, h1, h2⟩ := hd.ex (e1.trans e2)
  exact ⟨d, f p, rfl, .inl ⟨kvs ks f, .inr p.s, .inl h1, by rw [e]; rfl, (val_at hp).symm⟩, q _ H2 e2 (h2 p hp)⟩
theorem ep_getW {p : Pt} (h : Ev te σ H (.ref d)) (h2 : Ev tb σ H (.str p.s)) (hd : DictAt K H d ks r) (hp : p ∈ ks) : EvP K (tDGet te tb) σ H (r.get p) := fun H1 e1 Q q => h H1 e1 _ fun H2 e2 => h2 H2 (e1.trans e2) _ fun H3 e3 => by
  obtain ⟨f, z1, z2⟩ := hd.ex ((e1.trans e2).trans e3)
  exact ⟨d, f p, rfl, .inl ⟨kvs ks f, .inr p.s, .inl z1, rfl, (val_at hp).symm⟩, q _ H3 (e2.trans e3) (z2 p hp)⟩
theorem cb_L {r : List V → Hp → VK → Prop} {Q : VK} {xs : List V} (h : EvL te σ H xs) (k : ∀ p H1, H p = none → Ex H H1 → H1 p = some (.lst xs) → r [.ref p] H1 Q) : tCB r (tCons te tNil) σ H Q := h H (Ex.refl H) _ fun p H1 hp e h1 => k p H1 hp e h1
theorem sv_crows (h : DictAt K H d rowKs r) (ok : Ok r) : SpV (sp_crows K) [.ref d] H .non := fun _ e _ q _ => ⟨d, r, rfl, h.ex e, ok, q⟩
theorem ok_Binit (T : Txt K mg w) (G_check_rows : FnG P w K mg base CX0 6 T.f_check_rows T.fd_check_rows ["rows"] (sp_crows K)) (G_check_fails : FnG P w K mg base CX0 2 T.f_check_fails T.fd_check_fails ["value"] sp_cfails) (G_check_bool : FnG P w K mg base CX0 1 T.f_check_bool T.fd_check_bool ["name", "value"] sp_cbool) (G_check_holds : FnG P w K mg base CX0 3 T.f_check_holds T.fd_check_holds ["value"] (sp_cholds K)) (G_check_batch : FnG P w K mg base CX0 2 T.f_check_batch T.fd_check_batch ["value"] sp_cbatch) (G_fits_batch : FnG P w K mg base CX0 1 T.f_fits_batch T.fd_fits_batch ["row", "batch"] (sp_fitb K)) (G_fits_shared : FnG P w K mg base CX0 1 T.f_fits_shared T.fd_fits_shared ["row", "shared"] (sp_fits K)) : FnG P w K mg base CX0 7 T.f_Binit T.fd_Binit ["self", "take", "give", "move", "lift", "fails", "shared", "holds", "batch", "settles"] (sp_Binit K T.C) := by
  skip
  refine okG T.F_Binit sc_Binit (fun vs H Q E h => ?_) (fun cdv A outer s H vs Q E gd hr h => ?_)
  · obtain ⟨_, _, _, _, _, rfl, _⟩ := h
    all_goals rfl
  · obtain ⟨H0, x, dx, r, f, rfl, e0, hx0, hx, hf, ok, q⟩ := h
    refine ⟨_, (pss_cons (ps_set (i := 10) sc_Binit.nd rfl (Or.inl rfl) (pe_disp (pps_cons pe_str (pv 1) (pps_cons pe_str (pv 2) (pps_cons pe_str (pv 3) (pps_cons pe_str (pv 4) pps_nil)))) rfl rfl (by simp) (by simp))) (pss_cons (ps_expr (pc gd G_check_rows (hr.mono (by decide)) (by rfl) T.m_check_rows T.F_check_rows.kp T.b_check_rows .nil pass0 (pa_cons (pv 10) pa_nil))) (pss_cons (ps_expr (pc gd G_check_fails (hr.mono (by decide)) (by rfl) T.m_check_fails T.F_check_fails.kp T.b_check_fails .nil pass0 (pa_cons (pv 5) pa_nil))) (pss_cons (ps_expr (pc gd G_check_bool (hr.mono (by decide)) (by rfl) T.m_check_bool T.F_check_bool.kp T.b_check_bool .nil pass0 (pa_cons pe_str (pa_cons (pv 6) pa_nil)))) (pss_cons (ps_expr (pc gd G_check_holds (hr.mono (by decide)) (by rfl) T.m_check_holds T.F_check_holds.kp T.b_check_holds .nil pass0 (pa_cons (pv 7) pa_nil))) (pss_cons (ps_expr (pc gd G_check_batch (hr.mono (by decide)) (by rfl) T.m_check_batch T.F_check_batch.kp T.b_check_batch .nil pass0 (pa_cons (pv 8) pa_nil))) (pss_cons (ps_expr (pc gd G_check_bool (hr.mono (by decide)) (by rfl) T.m_check_bool T.F_check_bool.kp T.b_check_bool .nil pass0 (pa_cons pe_str (pa_cons (pv 9) pa_nil)))) (pss_cons (ps_if (pt_not (pt_val (pc gd G_fits_batch (hr.mono (by decide)) (by rfl) T.m_fits_batch T.F_fits_batch.kp T.b_fits_batch .nil pass0 (pa_cons (pv 1) (pa_cons (pv 8) pa_nil))))) (pss_one ps_never) pss_nil) (pss_cons (ps_if (pt_not (pt_val (pc gd G_fits_shared (hr.mono (by decide)) (by rfl) T.m_fits_shared T.F_fits_shared.kp T.b_fits_shared .nil pass0 (pa_cons (pv 3) (pa_cons (pv 6) pa_nil))))) (pss_one ps_never) pss_nil) (pss_cons (ps_set (i := 11) sc_Binit.nd rfl (Or.inl rfl) (pe_callTy call_tuple_of (by rfl) T.z_tuple (by decide +kernel) (pa_cons (pe_lc (own := [("kind", 12)]) (g := gName 12) rfl sc_Binit.nd (pi_tup (pe_glob (v := .ref T.g_ROW_KINDS) (by rfl) T.m_ROW_KINDS rfl)) (blkOk_by (N := N_Binit) (sc := defScope s_Binit) (by decide +kernel)) (fun _ _ _ _ _ => (pg_name (i := 12) sc_Binit.nd rfl (Or.inl rfl) (Or.inr rfl))) (fun _ _ _ _ _ => pts_one (pt_cmpR (show OpR _ (compareOp .In) (rIn K false) from op_in_seq) (pv 12) (pv 7) (by rfl))) (fun _ _ _ _ _ => (pv 12))) pa_nil))) (pss_one (ps_fld (pv 0) (pe_starD (pv 10) (pps_cons pe_str (pv 5) (pps_cons pe_str (pv 6) (pps_cons pe_str (pv 11) (pps_cons pe_str (pv 8) (pps_cons pe_str (pv 9) pps_nil))))) rfl rfl (by simp) (by simp)) rfl)))))))))))), ?_⟩
    obtain ⟨at_, ta, xt⟩ := hf .take
    obtain ⟨am, tm, xm⟩ := hf .move
    obtain ⟨ah, th, xh⟩ := hf .holds
    have tfl : f .fails = wV r.fails := hf .fails
    have tsh : f .shared = .bl r.shared := hf .shared
    have tba : f .batch = nV r.batch := hf .batch
    have tse : f .settles = .bl r.settles := hf .settles
    -- rows
    refine q_asgR fun d hd => ?_
    refine ⟨f .take, rfl, f .give, rfl, f .move, rfl, f .lift, rfl, upd_same, kvs rowKs f, rfl, (by show 4 ≤ 15; omega), ?_⟩
    rw [made_kvs f (by decide)]
    have e1 : Ex H (upd (upd H d (.dK [])) d (.dK (kvs rowKs f))) := Ex.mut (Ex.new hd) hd
    have h1 : (upd (upd H d (.dK [])) d (.dK (kvs rowKs f))) d = some (.dK (kvs rowKs f)) := upd_same
    generalize upd (upd H d (.dK [])) d (.dK (kvs rowKs f)) = H1 at e1 h1
    have x1 := e0.trans e1
    have d1 : DictAt K H1 d rowKs r := ⟨f, h1, fun p _ => (hf p).ex x1⟩
    show tSeq _ _ _ _ H1
    refine q_drop (ev_call (ea_cons (ev_var rfl) ea_nil) (sv_crows d1 ok)) fun H2 e2 => ?_
    refine q_drop (ev_call (ea_cons (ev_is (ev_var rfl) tfl) ea_nil) (fun _ _ _ q _ => ⟨r.fails, rfl, ok.f, q⟩)) fun H3 e3 => ?_
    refine q_drop (ev_call (ea_cons ev_c (ea_cons (ev_is (ev_var rfl) tsh) ea_nil)) (fun _ _ _ q _ => ⟨_, r.shared, rfl, q⟩)) fun H4 e4 => ?_
    have x4 := x1.trans (e2.trans (e3.trans e4))
    refine q_drop (ev_call (ea_cons (ev_is (ev_var rfl) th) ea_nil) (fun _ e _ q _ => ⟨ah, r.holds, rfl, xh.ex (x4.trans e), ok.h, q⟩)) fun H5 e5 => ?_
    refine q_drop (ev_call (ea_cons (ev_is (ev_var rfl) tba) ea_nil) (fun _ e _ q _ => ⟨r.batch, rfl, ok.b.1, ok.b.2, q⟩)) fun H6 e6 => ?_
    refine q_drop (ev_call (ea_cons ev_c (ea_cons (ev_is (ev_var rfl) tse) ea_nil)) (fun _ _ _ q _ => ⟨_, r.settles, rfl, q⟩)) fun H7 e7 => ?_
    have x7 := x4.trans (e5.trans (e6.trans e7))
    have ne : r.take ≠ [] := fun z => by
      have := ok.t.2.1
      rw [z] at this
      cases this
    refine q_when (b := false) (et_is (et_not (et_B (ev_call (ea_cons (ev_is (ev_var rfl) ta) (ea_cons (ev_is (ev_var rfl) tba) ea_nil)) (z := .bl (pBatch r.take r.batch)) (fun _ e _ q _ => ⟨at_, r.take, r.batch, rfl, xt.ex (x7.trans e), ne, q⟩)))) (by rw [ok.t.2.2]; rfl)) (fun z => nomatch z) fun _ H8 e8 => ?_
    refine q_when (b := false) (et_is (et_not (et_B (ev_call (ea_cons (ev_is (ev_var rfl) tm) (ea_cons (ev_is (ev_var rfl) tsh) ea_nil)) (z := .bl (pShared r.move r.shared)) (fun _ e _ q _ => ⟨am, r.move, r.shared, rfl, xm.ex ((x7.trans e8).trans e), q⟩)))) (by rw [ok.m.2.2]; rfl)) (fun z => nomatch z) fun _ H9 e9 => ?_
    have x9 := (x7.trans e8).trans e9
    -- sorted_holds
    refine q_asgR (cb_L (el_lcW (us := kindRows) (fun k => decide (k ∈ r.holds)) wV ev_c (T.s_ROW_KINDS H9) (by show 4 ≤ 1000; omega) (fun _ => rfl) (fun u H10 e10 hu => et_test (ev_op (ev_var rfl) (ev_is (ev_var rfl) th) (rv_inW (xh.ex (x9.trans e10)).sq))) (fun u H10 e10 hu _ => ev_var rfl)) fun sl H10 hsl e10 h10 => ⟨sl, _, rfl, .inl ⟨sq_of h10, fun t ht => ?_⟩⟩)
    rw [holds_sorted ok.h]
    have e11 := e10.trans (Ex.new (o := .tup (r.holds.map wV)) ht)
    have h11 : (upd H10 t (.tup (r.holds.map wV))) t = some (.tup (r.holds.map wV)) := upd_same
    generalize upd H10 t (.tup (r.holds.map wV)) = H11 at e11 h11
    have x11 := x9.trans e11
    have y11 : Ex H1 H11 := (e2.trans (e3.trans (e4.trans (e5.trans (e6.trans (e7.trans (e8.trans e9))))))).trans e11
    -- self._parts
    show sFld _ _ _ _ _ _ H11
    refine fun pn hpn => ⟨_, rfl, upd_same, d, kvs rowKs f, rfl, .inl (Ex.new hpn _ _ (y11 _ _ h1)), (ne_of_none (y11 _ _ h1) hpn).symm, (by show 4 ≤ 1000; omega), fun q2 nq hq => ?_⟩
    have nxp : x ≠ pn := fun z => by
      have := Ex.trans y11 (Ex.refl _) x _ (e1 _ _ hx)
      rw [z, hpn] at this
      cases this
    have hx11 : H11 x = some (.ins T.C dx []) := y11 _ _ (e1 _ _ hx)
    have nxq : x ≠ q2 := fun z => by
      have : (upd H11 pn (.dK [])) x = some (.ins T.C dx []) := by rw [upd_ne nxp]; exact hx11
      rw [z, hq] at this
      cases this
    have hq11 : H11 q2 = none := by rwa [upd_ne nq] at hq
    have e5k : kvs rowKs f = kvs rowKs (put f .holds (.ref t)) := List.map_congr_left fun p hp => by
      have : p ≠ .holds := fun z => by subst z; revert hp; decide
      unfold put
      rw [if_neg this]
    have mk : mergeK (kvs rowKs f) (mergeK [] (kvs [.fails, .shared, .holds, .batch, .settles] (put f .holds (.ref t)))) = kvs bookKs (put f .holds (.ref t)) := by
      rw [made_kvs _ (by decide), e5k]
      exact merge_kvs _ _ _ (by decide)
    refine ⟨f .fails, rfl, f .shared, rfl, .ref t, rfl, f .batch, rfl, f .settles, rfl, by rw [upd_ne nq.symm, upd_same], upd_same, kvs [.fails, .shared, .holds, .batch, .settles] (put f .holds (.ref t)), rfl, (by show 5 ≤ 15; omega), _, rfl, x, T.C, dx, [], rfl, by rw [upd_ne nxp, upd_ne nxq, upd_ne nxq, upd_ne nxp, upd_ne nxp]; exact hx11, T.c_Book, T.n_parts, (by show 0 < 1000; omega), ?_⟩
    rw [mk]
    have hp0 : H0 pn = none := fresh_back x11 hpn
    have hq0 : H0 q2 = none := fresh_back x11 hq11
    have z8 : ∀ {G : Hp}, Ex G H11 → G pn = none → G q2 = none → Ex G (upd (upd (upd (upd (upd H11 pn (.dK [])) pn (.dK (kvs rowKs f))) q2 (.dK [])) q2 (.dK (mergeK [] (kvs [.fails, .shared, .holds, .batch, .settles] (put f .holds (.ref t)))))) pn (.dK (kvs bookKs (put f .holds (.ref t))))) := fun g g1 g2 => Ex.mut (Ex.mut (Ex.mut (Ex.mut (Ex.mut g g1) g1) g2) g2) g1
    refine q _ (Ex.mut (z8 x11 hp0 hq0) hx0) ⟨dx, pn, hp0, ⟨upd_same, ⟨put f .holds (.ref t), by rw [upd_ne nxp.symm, upd_same], fun p _ => ?_⟩, ok⟩⟩
    by_cases hh : p = .holds
    · subst hh
      unfold put
      rw [if_pos rfl]
      exact ⟨t, rfl, (RowAt.tup (K := K) h11).exB ((ExB.of (z8 (Ex.refl _) hpn hq11)).trans ExB.set) (NoTup.ins hx11)⟩
    · unfold put
      rw [if_neg hh]
      exact (hf p).ex (Ex.mut (z8 x11 hp0 hq0) hx0)
end
end My
namespace My
open PySem PySem.Spec PyProof.Rows L2 GL Evl StX SkE
/-! ### a book as it is shown, compared -/
def itm (r : Ru) (p : Pt) : Str := ((Str.empty ++ p.s) ++ "=") ++ (r.get p).d.shown
def bText (r : Ru) : Str := ((Str.empty ++ "Book(") ++ Str.join ", " (bookKs.map (itm r))) ++ ")"
theorem num_len {n : Nat} (h : n ≤ 50) : (PyData.int (n : Int)).shown.length ≤ 10 := by
  have go : ((List.range 51).all fun n => decide ((toString (n : Int) : Str).length ≤ 10)) = true := by decide +kernel
  have z := List.all_eq_true.mp go n (List.mem_range.mpr (by omega))
  simp only [PyData.shown]
  exact of_decide_eq_true z
theorem sh_len {r : Ru} (ok : Ok r) (p : Pt) : (r.get p).d.shown.length ≤ 100 := by
  have row : ∀ {us : Rw}, us.length ≤ 6 → (dRow us).shown.length ≤ 100 := fun h => by have := (sm_row h).ln; omega
  have bl : ∀ b : Bool, (PyData.bool b).shown.length ≤ 100 := fun b => by
    simp only [PyData.shown]
    cases b <;> decide
  have wd : ∀ w : Wd, (dW w).shown.length ≤ 100 := fun w => by have := w_text w; omega
  cases p
  · exact row ok.t.1.ln
  · exact row ok.g.1.ln
  · exact row ok.m.1.ln
  · exact row ok.l.1.ln
  · exact wd _
  · exact bl _
  · exact row (by have := holds_ln ok.h; omega)
  · have := num_len ok.b.2
    show (PyData.int (r.batch : Int)).shown.length ≤ 100
    omega
  · exact bl _
theorem pt_len (p : Pt) : p.s.length ≤ 7 := by cases p <;> decide +kernel
theorem itm_len {r : Ru} (ok : Ok r) (p : Pt) : (itm r p).length ≤ 110 := by
  unfold itm
  rw [Str.length_append, Str.length_append, Str.length_append]
  have h1 := sh_len ok p
  have h2 := pt_len p
  have h3 : Str.empty.length = 0 := by decide
  have h4 : (Str.ofString "=").length = 1 := by decide
  omega
theorem sum_len {ts : List Str} {B : Nat} (h : ∀ t ∈ ts, t.length ≤ B) : (ts.map (·.length)).sum ≤ ts.length * B := by
  induction ts with
  | nil => simp
  | cons t ts ih =>
    have h1 := h t List.mem_cons_self
    have h2 := ih fun x hx => h x (List.mem_cons_of_mem _ hx)
    rw [List.map_cons, List.sum_cons, List.length_cons, Nat.add_mul, Nat.one_mul]
    omega
theorem items_len {r : Ru} (ok : Ok r) : ∀ t ∈ bookKs.map (itm r), t.length ≤ 110 := fun t ht => by
  obtain ⟨p, _, rfl⟩ := List.mem_map.mp ht
  exact itm_len ok p
section
variable {P : Program} {w : World} {K : PySem.W.Frag} {mg : Str → Option Value} {base : Heap} {C : Addr} {H H' : Hp} {σ : L2.St} {te tb ta : TE} {E : XK} {D : Ends} {tz : TS} {a b d : Addr} {r l : Ru} {us : Rw} {ks : List Pt} {x y : V}
theorem ev_get {p : Pt} {f : Pt → V} (h : Ev te σ H (.ref d)) (hd : H d = some (.dK (kvs ks f))) (hp : p ∈ ks) : Ev (tDGet te (tC (.str p.s))) σ H (f p) := fun H1 e1 Q q => h H1 e1 _ fun H2 e2 =>
  ⟨d, f p, rfl, .inl ⟨kvs ks f, .inr p.s, .inl (e2 _ _ (e1 _ _ hd)), rfl, (val_at hp).symm⟩, q H2 e2⟩
theorem meth_raw {m : Str} {sp : Sp} {dvs : List V} {Er : XK} {tA : TA} {Q : VK} (h : Ev ta σ H (.ref b)) (k : ∀ H1, Ex H H1 → ∃ dx fs, H1 b = some (.ins C dx fs) ∧ fs.lookup m = none ∧ tA σ H1 fun vs H2 => sp (.ref b :: (vs ++ dvs)) H2 Q Er) : tMeth C m sp dvs Er ta tA σ H Q := h H (Ex.refl H) _ fun H1 e1 => by
  obtain ⟨dx, fs, h1, h2, h3⟩ := k H1 e1
  exact ⟨b, dx, fs, rfl, h1, h2, h3⟩
theorem cons_raw {tA : TA} {x : V} {Q : List V → Hp → Prop} (h : Ev ta σ H x) (k : ∀ H1, Ex H H1 → tA σ H1 fun vs H2 => Q (x :: vs) H2) : tCons ta tA σ H Q := h H (Ex.refl H) _ k
theorem ok_Bwith_holds (T : Txt K mg w) (G_Binit : FnG P w K mg base CX0 7 T.f_Binit T.fd_Binit ["self", "take", "give", "move", "lift", "fails", "shared", "holds", "batch", "settles"] (sp_Binit K T.C)) : FnG P w K mg base CX0 9 T.f_Bwith_holds T.fd_Bwith_holds ["self", "holds"] (sp_Bwh K T.C) := by
  skip
  refine okG T.F_Bwith_holds sc_Bwith_holds (fun vs H Q E h => ?_) (fun cdv A outer s H vs Q E gd hr h => ?_)
  · obtain ⟨_, _, _, _, rfl, _⟩ := h
    all_goals rfl
  · obtain ⟨a, b, r, us, rfl, ⟨dx, d, p⟩, hb, hs, q⟩ := h
    refine ⟨_, (pss_cons (ps_set (i := 2) sc_Bwith_holds.nd rfl (Or.inl rfl) (pe_starD (pe_fld (pv 0) rfl) (pps_cons pe_str (pv 1) pps_nil) rfl rfl (by simp) (by simp))) (pss_one (ps_ret (pkD gd T.mk_Book G_Binit (hr.mono (by decide)) (by rfl) T.m_Book T.k_Binit pass0 (pv 2))))), ?_⟩
    obtain ⟨f, hd, hf⟩ := id p.di
    have hx := p.ob
    refine q_asgR fun pn hpn => ⟨_, rfl, a, T.C, dx, _, .ref d, rfl, Ex.new hpn _ _ hx, T.c_Book, T.n_parts, bf_parts d, upd_same, d, kvs bookKs f, rfl, .inl (Ex.new hpn _ _ hd), (ne_of_none hd hpn).symm, (by show 9 ≤ 1000; omega), fun q2 nq hq => ?_⟩
    refine ⟨.ref b, rfl, by rw [upd_ne nq.symm, upd_same], upd_same, kvs [.holds] (put f .holds (.ref b)), rfl, (by show 1 ≤ 15; omega), ?_⟩
    rw [made_kvs _ (by decide), merge_put f (bookKs_mem _)]
    have hq0 : H q2 = none := by rwa [upd_ne nq] at hq
    have e1 : Ex H (upd (upd (upd (upd (upd H pn (.dK [])) pn (.dK (kvs bookKs f))) q2 (.dK [])) q2 (.dK (kvs [.holds] (put f .holds (.ref b))))) pn (.dK (kvs bookKs (put f .holds (.ref b))))) := Ex.mut (Ex.mut (Ex.mut (Ex.mut (Ex.new hpn) hpn) hq0) hq0) hpn
    have h1 : (upd (upd (upd (upd (upd H pn (.dK [])) pn (.dK (kvs bookKs f))) q2 (.dK [])) q2 (.dK (kvs [.holds] (put f .holds (.ref b))))) pn (.dK (kvs bookKs (put f .holds (.ref b))))) pn = some (.dK (kvs bookKs (put f .holds (.ref b)))) := upd_same
    generalize upd (upd (upd (upd (upd H pn (.dK [])) pn (.dK (kvs bookKs f))) q2 (.dK [])) q2 (.dK (kvs [.holds] (put f .holds (.ref b))))) pn (.dK (kvs bookKs (put f .holds (.ref b)))) = H1 at e1 h1
    -- the parts of the new book
    have hg : ∀ p', (({ r with holds := us } : Ru).get p').At K H1 (put f .holds (.ref b) p') := fun p' => by
      by_cases z : p' = .holds
      · subst z
        unfold put
        rw [if_pos rfl]
        exact ⟨b, rfl, hb.ex e1⟩
      · unfold put
        rw [if_neg z]
        have g1 := (hf p' (bookKs_mem _)).ex e1
        have g2 : ({ r with holds := us } : Ru).get p' = r.get p' := by cases p' <;> first | rfl | exact absurd rfl z
        rw [g2]
        exact g1
    refine s_retR (fun pk hpk => ⟨_, rfl, upd_same, pn, bookKs.map (put f .holds (.ref b)), rfl, (ne_of_none h1 hpk).symm, .inl (by
      rw [upd_ne (ne_of_none h1 hpk), h1]
      rfl), rfl, (by show 9 ≤ 1000; omega), fun x dy hx0 hdy ndx => ?_⟩)
    have ek : kvN ["take", "give", "move", "lift", "fails", "shared", "holds", "batch", "settles"] (bookKs.map (put f .holds (.ref b))) = kvs bookKs (put f .holds (.ref b)) := rfl
    have hpk1 : H1 pk = none := hpk
    have nxk : x ≠ pk := fun z => by rw [z, upd_same] at hx0; cases hx0
    have nyk : dy ≠ pk := fun z => by rw [z, upd_same] at hdy; cases hdy
    have hx1 : H1 x = none := by rwa [upd_ne nxk, upd_ne nxk] at hx0
    have hy1 : H1 dy = none := by rwa [upd_ne nyk, upd_ne nyk] at hdy
    refine ⟨H1, x, dy, { r with holds := us }, put f .holds (.ref b), rfl, ?_, hx1, upd_same, hg, p.ok.holds_of (l := { r with holds := us }) hs, fun H2 e2 hb2 => ⟨rfl, q H2 x (fresh_back e1 hx1) (e1.trans e2) hb2.at⟩⟩
    exact Ex.mut (Ex.mut (Ex.mut (Ex.new hpk1) hpk1) hy1) hx1
theorem tlc_of {wi : TI} {g : TG} {tt : TT} {vs : List Nat} {Q : VK} {J : It} {n : Nat} {G : Hp → Prop} {Y : Nat → Hp → V → Hp → Prop} (w : Walk J n G Y) (hw : ∀ R : It → Hp → Prop, R J H → wi σ H R) (Pv : Addr → Nat → Hp → Prop) (h0 : ∀ Dl, H Dl = none → Pv Dl 0 (upd H Dl (.lst [])))
    (hG : ∀ Dl i H', i ≤ n → Pv Dl i H' → G H') (hs : ∀ Dl i x H1 H2, H Dl = none → i < n → Pv Dl i H1 → Y i H1 x H2 → g x (wipe σ vs) H2 fun σ2 H2 => wipe σ2 vs = wipe σ vs ∧ tt σ2 H2 fun b H3 => if b = true then te σ2 H3 fun y H4 => ∃ acc, H4 Dl = some (.lst acc) ∧ acc.length < sizeLine ∧ Pv Dl (i + 1) (upd H4 Dl (.lst (acc ++ [y]))) else Pv Dl (i + 1) H3)
    (hd : ∀ Dl H', H Dl = none → Pv Dl n H' → Q (.ref Dl) H') : tLc wi g tt te vs σ H Q := hw _ fun Dl hDl => lc_it w (Pv Dl) (h0 Dl hDl) (hG Dl) (fun i x H1 H2 hi p y => hs Dl i x H1 H2 hDl hi p y) (Qd := fun H' => Q (.ref Dl) H') (fun H' p => hd Dl H' hDl p)
theorem ej_cons {t : TE} {ts : List TE} {acc y : Str} {Q : Str → Hp → Prop} (h : Ev t σ H (.str y)) (hl : (acc ++ y).length ≤ 100000) (k : ∀ H1, Ex H H1 → tJs ts (acc ++ y) σ H1 Q) : tJs (t :: ts) acc σ H Q := h H (Ex.refl H) _ fun H1 e => ⟨y, rfl, sz_of hl, k H1 e⟩
theorem ev_fmtS {y : Str} (h : Ev te σ H (.str y)) (hl : y.length ≤ 100000) : Ev (tFmt te) σ H (.str y) := fun H1 e Q q => h H1 e _ fun H2 e2 => .inl ⟨y, rfl, sz_of hl, q H2 e2⟩
theorem fmt_any {v : V} {r : Ru} {p : Pt} {Q : VK} (ok : Ok r) (h : (r.get p).At K H v) (q : Q (.str (r.get p).d.shown) H) :
    (∃ y : Str, v = .str y ∧ (reprText y).length ≤ sizeLine ∧ Q (.str (reprText y)) H) ∨ (∃ i : Int, v = .int i ∧ i.natAbs.log2 < 1920 ∧ Q (.str (toString i)) H) ∨ (∃ b : Bool, v = .bl b ∧ Q (.str (if b then "True" else "False")) H) ∨
    (∃ d, Dp K H v d ∧ isDisplay d = true ∧ d.showable = true ∧ d.hasDict = false ∧ d.depth ≤ 60 ∧ d.shown.length ≤ sizeLine ∧ Q (.str d.shown) H) := by
  have len := sh_len ok p
  have row : ∀ {us : Rw}, us.length ≤ 6 → (r.get p).d = dRow us → ∃ d, Dp K H v d ∧ isDisplay d = true ∧ d.showable = true ∧ d.hasDict = false ∧ d.depth ≤ 60 ∧ d.shown.length ≤ sizeLine ∧ Q (.str d.shown) H := fun hl e => by
    have s := sm_row hl
    have dp := h.dp
    rw [e] at dp q len
    exact ⟨_, dp, rfl, s.sh, s.nd, by have := s.de; omega, sz_of (by omega), q⟩
  cases p
  · exact .inr (.inr (.inr (row ok.t.1.ln rfl)))
  · exact .inr (.inr (.inr (row ok.g.1.ln rfl)))
  · exact .inr (.inr (.inr (row ok.m.1.ln rfl)))
  · exact .inr (.inr (.inr (row ok.l.1.ln rfl)))
  · cases h
    have e : (dW r.fails).shown = reprText r.fails.s := by
      show (PyData.str r.fails.s).shown = _
      simp only [PyData.shown]
    have e2 : (r.get .fails).d = dW r.fails := rfl
    rw [e2, e] at q len
    exact .inl ⟨_, rfl, sz_of (by omega), q⟩
  · cases h
    have e : (PyData.bool r.shared).shown = (if r.shared then ("True" : Str) else "False") := by simp only [PyData.shown]
    have e2 : (r.get .shared).d = .bool r.shared := rfl
    rw [e2, e] at q
    exact .inr (.inr (.inl ⟨_, rfl, by cases hb : r.shared <;> rw [hb] at q <;> exact q⟩))
  · exact .inr (.inr (.inr (row (by have := holds_ln ok.h; omega) rfl)))
  · cases h
    have e : (PyData.int (r.batch : Int)).shown = toString (r.batch : Int) := by simp only [PyData.shown]
    have e2 : (r.get .batch).d = .int r.batch := rfl
    rw [e2, e] at q
    have hb := ok.b.2
    refine .inr (.inl ⟨_, rfl, ?_, q⟩)
    have : ((r.batch : Int)).natAbs = r.batch := Int.natAbs_natCast _
    rw [this]
    by_cases z : r.batch = 0
    · rw [z]
      decide
    · exact Nat.lt_of_lt_of_le ((Nat.log2_lt z).mpr (show r.batch < 2 ^ 6 by omega)) (by decide)
  · cases h
    have e : (PyData.bool r.settles).shown = (if r.settles then ("True" : Str) else "False") := by simp only [PyData.shown]
    have e2 : (r.get .settles).d = .bool r.settles := rfl
    rw [e2, e] at q
    exact .inr (.inr (.inl ⟨_, rfl, by cases hb : r.settles <;> rw [hb] at q <;> exact q⟩))
theorem ev_fmtA {v : V} {r : Ru} {p : Pt} (ok : Ok r) (h : Ev te σ H v) (hv : (r.get p).At K H v) : Ev (tFmtV K te) σ H (.str (r.get p).d.shown) := fun H1 e Q q => h H1 e _ fun H2 e2 => fmt_any ok (hv.ex (e.trans e2)) (q H2 e2)
end
end My
namespace My
open PySem PySem.Spec PyProof.Rows L2 GL Evl StX SkE
/-! ### the law's draws, its rows -/
def sp_Lpick : Sp := fun vs H Q _ => ∃ a l, ∃ xs : List V, vs = [.ref a, .ref l] ∧ PotAt H a ∧ l ≠ a ∧ H l = some (.lst xs) ∧ 1 ≤ xs.length ∧ xs.length ≤ 1000 ∧ ∀ H' v, ExB a H H' → PotAt H' a → v ∈ xs → Q v H'
def sp_Lseqs (K : PySem.W.Frag) : Sp := fun vs H Q _ => ∃ a ws, vs = [.ref a] ∧ SqL K H a (ws.map wV) ∧ ws ∈ [takeWs, giveWs, moveWs] ∧ ∀ H' p xs, H p = none → Ex H H' → H' p = some (.lst xs) → RowsAt K H' xs (seqs ws) → Q (.ref p) H'
def sp_Lahead (K : PySem.W.Frag) : Sp := fun vs H Q _ => ∃ a us x y, vs = [.ref a, wV x, wV y] ∧ RowX K H a us ∧ RetV (.bl (lAhead us x y)) H Q
def sp_Ltk (K : PySem.W.Frag) : Sp := fun vs H Q _ => ∃ a us, ∃ n : Nat, vs = [.ref a, nV n] ∧ RowX K H a us ∧ RetV (.bl (lTake us n)) H Q
def sp_Lgv (K : PySem.W.Frag) : Sp := fun vs H Q _ => ∃ a us, vs = [.ref a] ∧ RowX K H a us ∧ RetV (.bl (lGive us)) H Q
def sp_Lmv (K : PySem.W.Frag) : Sp := fun vs H Q _ => ∃ a us b, vs = [.ref a, .bl b] ∧ RowX K H a us ∧ RetV (.bl (lMove us b)) H Q
def sp_Ltakes (K : PySem.W.Frag) : Sp := fun vs H Q _ => ∃ n : Nat, vs = [nV n] ∧ ∀ H' p ys, H p = none → Ex H H' → H' p = some (.lst ys) → RowsAt K H' ys (takes n) → Q (.ref p) H'
def sp_Lgives (K : PySem.W.Frag) : Sp := fun vs H Q _ => vs = [] ∧ ∀ H' p ys, H p = none → Ex H H' → H' p = some (.lst ys) → RowsAt K H' ys gives → Q (.ref p) H'
def sp_Lmoves (K : PySem.W.Frag) : Sp := fun vs H Q _ => ∃ b : Bool, vs = [.bl b] ∧ ∀ H' p ys, H p = none → Ex H H' → H' p = some (.lst ys) → RowsAt K H' ys (moves b) → Q (.ref p) H'
def sp_Llifts (K : PySem.W.Frag) : Sp := fun vs H Q _ => vs = [] ∧ ∀ H' p ys, H p = none → Ex H H' → H' p = some (.lst ys) → RowsAt K H' ys liftRows → Q (.ref p) H'
theorem seq_len {ws : Rw} (hw : ws ∈ [takeWs, giveWs, moveWs]) {i : Nat} (hi : i ≤ ws.length) : (found ws i).length ≤ 2000 ∧ (grow ws i).length ≤ 2000 := by
  have go : ([takeWs, giveWs, moveWs].all fun ws => (List.range (ws.length + 1)).all fun i => decide ((found ws i).length ≤ 2000) && decide ((grow ws i).length ≤ 2000)) = true := by decide +kernel
  have h := List.all_eq_true.mp (List.all_eq_true.mp go ws hw) i (List.mem_range.mpr (by omega))
  rw [Bool.and_eq_true] at h
  exact ⟨of_decide_eq_true h.1, of_decide_eq_true h.2⟩
theorem ws_len {ws : Rw} (hw : ws ∈ [takeWs, giveWs, moveWs]) : ws.length ≤ 6 := by
  have go : ([takeWs, giveWs, moveWs].all fun ws => decide (ws.length ≤ 6)) = true := by decide
  exact of_decide_eq_true (List.all_eq_true.mp go ws hw)
theorem grow_len {ws : Rw} : ∀ {i : Nat} {us : Rw}, us ∈ grow ws i → us.length = i
  | 0, us, h => by
    rw [List.mem_singleton.mp h]
    rfl
  | i + 1, us, h => by
    obtain ⟨vs, hv, hu⟩ := List.mem_flatMap.mp h
    obtain ⟨w0, _, rfl⟩ := List.mem_map.mp hu
    rw [List.length_append, grow_len hv]
    rfl
theorem flat_take {f : Rw → List Rw} (ls : List Rw) (j : Nat) : ((ls.take j).flatMap f).length ≤ (ls.flatMap f).length := by
  conv => rhs; rw [← List.take_append_drop j ls]
  rw [List.flatMap_append, List.length_append]
  omega
theorem ext_take (ws us : Rw) {k : Nat} {w : Wd} (h : ws[k]? = some w) : ((ws.take (k + 1)).filter fun w => !decide (w ∈ us)).map (fun w => us ++ [w]) = ((ws.take k).filter fun w => !decide (w ∈ us)).map (fun w => us ++ [w]) ++ (if w ∈ us then [] else [us ++ [w]]) := by
  rw [List.take_add_one, h, List.filter_append, List.map_append]
  congr 1
  show List.map _ (List.filter _ [w]) = _
  by_cases e : w ∈ us
  · rw [if_pos e, List.filter_cons_of_neg (by simpa using e)]
    rfl
  · rw [if_neg e, List.filter_cons_of_pos (by simpa using e)]
    rfl
section
variable {P : Program} {w : World} {K : PySem.W.Frag} {mg : Str → Option Value} {base : Heap} {C : Addr} {H H' : Hp} {σ : L2.St} {te tb ta : TE} {tA : TA} {E : XK} {D : Ends} {tz : TS} {a b d : Addr} {us : Rw} {xs ys : List V} {rs qs : List Rw}
theorem RowsAt.exB (h : RowsAt K H xs rs) (e : ExB b H H') (n : NoTup H b) : RowsAt K H' xs rs := by
  induction h with
  | nil => exact .nil
  | cons h _ ih => exact .cons (h.exB e n) ih
theorem ok_Lpick (T : Txt K mg w) (G_Ldraw : FnG P w K mg base CX0 1 T.f_Ldraw T.fd_Ldraw ["_law_pot_here", "_law_sides"] MyT.sp_Ldraw) : FnG P w K mg base CX0 2 T.f_Lpick T.fd_Lpick ["_law_pot_here", "_law_some"] sp_Lpick := by
  skip
  refine okG T.F_Lpick sc_Lpick (fun vs H Q E h => ?_) (fun cdv A outer s H vs Q E gd hr h => ?_)
  · obtain ⟨_, _, _, rfl, _⟩ := h
    all_goals rfl
  · obtain ⟨a, l, xs, rfl, hp, nla, hl, h1, h2, q⟩ := h
    refine ⟨_, (pss_one (ps_ret (pe_ix ix_list (pv 1) (pc gd G_Ldraw (hr.mono (by decide)) (by rfl) T.m_Ldraw T.F_Ldraw.kp T.b_Ldraw .nil pass0 (pa_cons (pv 0) (pa_cons (pe_callB call_len_seq (by rfl) T.z_len PySem.boot_len (pa_cons (pv 1) pa_nil)) pa_nil))) (fun _ _ => rfl)))), ?_⟩
    refine s_retR (op_raw (ev_raw (ev_var (v := .ref l) rfl) fun H1 e1 => ?_))
    refine dr (n := xs.length) (ea_cons (ev_var rfl) (ea_cons (ev_len (ev_var rfl) (sq_of (e1 _ _ hl))) ea_nil)) (hp.ex e1) h1 h2 fun H2 d x2 p2 hd => ?_
    exact ⟨l, xs, (d : Int), xs[d], rfl, rfl, sq_of (x2 _ _ nla (e1 _ _ hl)), atI_nat (List.getElem?_eq_getElem hd), q H2 _ ((ExB.of e1).trans x2) p2 (List.getElem_mem hd)⟩
theorem ev_aheadI {i j : Nat} (h1 : Ev ta σ H (nV i)) (h2 : Ev tb σ H (nV j)) : Ev (tOp (rI0 fun i j => .bl (decide (i < j))) ta tb) σ H (.bl (decide (i < j))) := ev_is (ev_op h1 h2 rv_I0) (congrArg V.bl (decide_eq_decide.mpr (by omega)))
theorem ok_Lis_ahead (T : Txt K mg w)  : FnG P w K mg base CX0 1 T.f_Lis_ahead T.fd_Lis_ahead ["_law_some", "_law_word", "_law_later"] (sp_Lahead K) := by
  skip
  refine okG T.F_Lis_ahead sc_Lis_ahead (fun vs H Q E h => ?_) (fun cdv A outer s H vs Q E gd hr h => ?_)
  · obtain ⟨_, _, _, _, rfl, _⟩ := h
    all_goals rfl
  · obtain ⟨a, us, x, y, rfl, ra, q⟩ := h
    refine ⟨_, (pss_one (ps_ret (pe_or (pe_cmpR op_notIn_seq (pv 1) (pv 0) (by rfl)) (pe_or (pe_cmpR op_notIn_seq (pv 2) (pv 0) (by rfl)) (pe_one (pe_cmpR op_lt (pe_bmX PySem.F.slot_tuple_index PySem.F.type_tuple_index mt_tup_index (pv 0) (pa_cons (pv 1) pa_nil)) (pe_bmX PySem.F.slot_tuple_index PySem.F.type_tuple_index mt_tup_index (pv 0) (pa_cons (pv 2) pa_nil)) (nomark _))))))), ?_⟩
    refine s_ret (ev_is (ev_orV (ev_op (ev_var rfl) (ev_var rfl) (rv_niW ra.sq)) fun h1 => ev_orV (ev_op (ev_var rfl) (ev_var rfl) (rv_niW ra.sq)) fun h2 => ev_aheadI (ev_idx (us := us) (ev_var rfl) (ev_var rfl) ra (by simpa using h1)) (ev_idx (us := us) (ev_var rfl) (ev_var rfl) ra (by simpa using h2))) (cbl (b := lAhead us x y) (by unfold lAhead; rw [Bool.or_assoc]))) q
theorem sv_ahead {x y : Wd} (h : RowX K H a us) : SpV (sp_Lahead K) [.ref a, wV x, wV y] H (.bl (lAhead us x y)) := fun _ e _ q _ => ⟨a, us, x, y, rfl, h.ex e, q⟩
theorem ev_aheadC {Er : XK} {z1 z2 : Str} {x y : Wd} (e1 : z1 = x.s) (e2 : z2 = y.s) (h : Ev ta σ H (.ref a)) (ra : RowX K H a us) : Ev (tCall (sp_Lahead K) [] Er (tCons ta (tCons (tC (.str z1)) (tCons (tC (.str z2)) tNil)))) σ H (.bl (lAhead us x y)) := ev_call (ea_cons h (ea_cons (ev_lit e1) (ea_cons (ev_lit e2) ea_nil))) (sv_ahead ra)
theorem bl_eq (a b : Bool) : decide (V.bl a = V.bl b) = (a == b) := by cases a <;> cases b <;> rfl
theorem ok_Lis_take (T : Txt K mg w) (G_Lis_ahead : FnG P w K mg base CX0 1 T.f_Lis_ahead T.fd_Lis_ahead ["_law_some", "_law_word", "_law_later"] (sp_Lahead K)) : FnG P w K mg base CX0 2 T.f_Lis_take T.fd_Lis_take ["_law_some", "_law_amount"] (sp_Ltk K) := by
  skip
  refine okG T.F_Lis_take sc_Lis_take (fun vs H Q E h => ?_) (fun cdv A outer s H vs Q E gd hr h => ?_)
  · obtain ⟨_, _, _, rfl, _⟩ := h
    all_goals rfl
  · obtain ⟨a, us, n, rfl, ra, q⟩ := h
    refine ⟨_, (pss_cons (ps_if ((pw_or (pt_cmpR op_notIn_seq pe_str (pv 0) (by rfl)) (pw_or (pt_cmpR op_eq (pe_cmpR op_in_seq pe_str (pv 0) (by rfl)) (pe_cmpR op_in_seq pe_str (pv 0) (by rfl)) (nomark _)) (pw_or1 ((pw_and (pt_cmpR op_in_seq pe_str (pv 0) (by rfl)) (pw_and1 (pt_cmpR op_in_seq pe_str (pv 0) (by rfl))))).pt)))).pt (pss_one (ps_ret pe_bl)) pss_nil) (pss_cons (ps_if ((pw_and (pt_cmpR op_gt (pv 1) pe_int (nomark _)) (pw_and1 (pt_cmpR op_ne (pe_ix ix_tup (pv 0) (pe_un un_neg pe_int) (fun _ _ => rfl)) pe_str (nomark _))))).pt (pss_one (ps_ret pe_bl)) pss_nil) (pss_one (ps_ret (pe_and (pc gd G_Lis_ahead (hr.mono (by decide)) (by rfl) T.m_Lis_ahead T.F_Lis_ahead.kp T.b_Lis_ahead .nil pass0 (pa_cons (pv 0) (pa_cons pe_str (pa_cons pe_str pa_nil)))) (pe_one (pc gd G_Lis_ahead (hr.mono (by decide)) (by rfl) T.m_Lis_ahead T.F_Lis_ahead.kp T.b_Lis_ahead .nil pass0 (pa_cons (pv 0) (pa_cons pe_str (pa_cons pe_str pa_nil)))))))))), ?_⟩
    refine q_when (b := !decide (Wd.live ∈ us) || (decide (Wd.tri ∈ us) == decide (Wd.add ∈ us)) || decide (Wd.tri ∈ us) && decide (Wd.look ∈ us)) (et_is (et_or (et_test (ev_niL rfl (ev_var rfl) ra)) fun _ => et_or (et_test (ev_is (ev_op (ev_inL (w0 := .tri) rfl (ev_var rfl) ra) (ev_inL (w0 := .add) rfl (ev_var rfl) ra) (rv_eq rfl)) (cbl (bl_eq _ _)))) fun _ => et_and (et_test (ev_inL rfl (ev_var rfl) ra)) fun _ => et_test (ev_inL rfl (ev_var rfl) ra)) (by rw [Bool.or_assoc])) (fun hb H1 e1 => s_ret (ev_is ev_c (cbl (b := lTake us n) ?_)) fun H2 e2 => q H2 (e1.trans e2)) fun hb H1 e1 => ?_
    · unfold lTake
      rw [hb]
      rfl
    have r1 := ra.ex e1
    have ne : us ≠ [] := fun z => by subst z; cases hb
    obtain ⟨x, hx, hat⟩ := at_last ne
    refine q_when (b := decide (n > 1) && !decide (us.getLast? = some .live)) (et_and (et_test (ev_is (ev_op (ev_var rfl) ev_c rv_I0) (congrArg V.bl (decide_eq_decide.mpr (by omega))))) fun _ => et_test (ev_is (ev_op (ev_op (ev_var rfl) (ev_un ev_c ru_neg) (rv_ixT r1.sq hat)) (ev_lit (w0 := .live) rfl) (rv_ne rfl)) (cbl ?_))) (fun hc H2 e2 => s_ret (ev_is ev_c (cbl (b := lTake us n) ?_)) fun H3 e3 => q H3 ((e1.trans e2).trans e3)) fun hc H2 e2 => ?_
    · rw [wV_eq x .live, hx]
      congr 1
      exact decide_eq_decide.mpr ⟨fun e => by rw [e], fun e => Option.some.inj e⟩
    · unfold lTake
      rw [hb, hc]
      rfl
    refine s_ret (ev_is (ev_andV (ev_aheadC (x := .look) (y := .live) rfl rfl (ev_var rfl) (r1.ex e2)) fun _ => ev_aheadC (x := .tri) (y := .live) rfl rfl (ev_var rfl) (r1.ex e2)) (cbl (b := lTake us n) ?_)) fun H3 e3 => q H3 ((e1.trans e2).trans e3)
    unfold lTake
    rw [hb, hc]
    rfl
theorem ok_Lis_give (T : Txt K mg w) (G_Lis_ahead : FnG P w K mg base CX0 1 T.f_Lis_ahead T.fd_Lis_ahead ["_law_some", "_law_word", "_law_later"] (sp_Lahead K)) : FnG P w K mg base CX0 2 T.f_Lis_give T.fd_Lis_give ["_law_some"] (sp_Lgv K) := by
  skip
  refine okG T.F_Lis_give sc_Lis_give (fun vs H Q E h => ?_) (fun cdv A outer s H vs Q E gd hr h => ?_)
  · obtain ⟨_, _, rfl, _⟩ := h
    all_goals rfl
  · obtain ⟨a, us, rfl, ra, q⟩ := h
    refine ⟨_, (pss_one (ps_ret (pe_and (pe_cmpR op_in_seq pe_str (pv 0) (by rfl)) (pe_one (pe_or (pe_cmpR op_notIn_seq pe_str (pv 0) (by rfl)) (pe_one (pe_and (pe_cmpR op_in_seq pe_str (pv 0) (by rfl)) (pe_one (pc gd G_Lis_ahead (hr.mono (by decide)) (by rfl) T.m_Lis_ahead T.F_Lis_ahead.kp T.b_Lis_ahead .nil pass0 (pa_cons (pv 0) (pa_cons pe_str (pa_cons pe_str pa_nil)))))))))))), ?_⟩
    exact s_ret (ev_andV (ev_inL (w0 := .fin) rfl (ev_var rfl) ra) fun _ => ev_orV (ev_niL (w0 := .off) rfl (ev_var rfl) ra) fun _ => ev_andV (ev_inL (w0 := .home) rfl (ev_var rfl) ra) fun _ => ev_aheadC rfl rfl (ev_var rfl) ra) q
theorem ok_Lis_move (T : Txt K mg w) (G_Lis_ahead : FnG P w K mg base CX0 1 T.f_Lis_ahead T.fd_Lis_ahead ["_law_some", "_law_word", "_law_later"] (sp_Lahead K)) : FnG P w K mg base CX0 2 T.f_Lis_move T.fd_Lis_move ["_law_some", "_law_is_shared"] (sp_Lmv K) := by
  skip
  refine okG T.F_Lis_move sc_Lis_move (fun vs H Q E h => ?_) (fun cdv A outer s H vs Q E gd hr h => ?_)
  · obtain ⟨_, _, _, rfl, _⟩ := h
    all_goals rfl
  · obtain ⟨a, us, b, rfl, ra, q⟩ := h
    refine ⟨_, (pss_cons (ps_if (pt_cmpR (op_eqD (roomU hr)) (pv 0) (pe_tupX pa_nil) (nomark _)) (pss_one (ps_ret pe_bl)) pss_nil) (pss_cons (ps_if ((pw_or (pt_cmpR op_notIn_seq pe_str (pv 0) (by rfl)) (pw_or1 ((pw_and (pt_cmpR op_in_seq pe_str (pv 0) (by rfl)) (pw_and1 ((pw_or (pt_cmpR op_in_seq pe_str (pv 0) (by rfl)) (pw_or1 (pt_cmpR op_in_seq pe_str (pv 0) (by rfl))))).pt))).pt))).pt (pss_one (ps_ret pe_bl)) pss_nil) (pss_cons (ps_if ((pw_and (pt_cmpR op_in_seq pe_str (pv 0) (by rfl)) (pw_and1 ((pw_or (pt_cmpR op_notIn_seq pe_str (pv 0) (by rfl)) (pw_or1 (pt_not (pt_val (pc gd G_Lis_ahead (hr.mono (by decide)) (by rfl) T.m_Lis_ahead T.F_Lis_ahead.kp T.b_Lis_ahead .nil pass0 (pa_cons (pv 0) (pa_cons pe_str (pa_cons pe_str pa_nil))))))))).pt))).pt (pss_one (ps_ret pe_bl)) pss_nil) (pss_cons (ps_if ((pw_and (pt_not (pt_val (pv 1))) (pw_and1 (pt_cmpR op_ne (pe_ix ix_tup (pv 0) pe_int (fun _ _ => rfl)) pe_str (nomark _))))).pt (pss_one (ps_ret pe_bl)) pss_nil) (pss_cons (ps_for PassesOwn.never rfl (pi_list (pe_lst (pa_cons pe_str (pa_cons pe_str pa_nil)))) (pg_name (i := 2) sc_Lis_move.nd rfl (Or.inl rfl) (Or.inr rfl)) (pss_one (ps_if ((pw_or (pt_not (pt_val (pc gd G_Lis_ahead (hr.mono (by decide)) (by rfl) T.m_Lis_ahead T.F_Lis_ahead.kp T.b_Lis_ahead .nil pass0 (pa_cons (pv 0) (pa_cons (pv 2) (pa_cons pe_str pa_nil)))))) (pw_or1 (pt_not (pt_val (pc gd G_Lis_ahead (hr.mono (by decide)) (by rfl) T.m_Lis_ahead T.F_Lis_ahead.kp T.b_Lis_ahead .nil pass0 (pa_cons (pv 0) (pa_cons (pv 2) (pa_cons pe_str pa_nil))))))))).pt (pss_one (ps_ret pe_bl)) pss_nil))) (pss_one (ps_ret pe_bl))))))), ?_⟩
    refine q_when (et_test (ev_eqW (us := us) (ev_var rfl) ra er_0)) (fun hb H1 e1 => s_ret (ev_is ev_c (cbl (b := lMove us b) ?_)) fun H2 e2 => q H2 (e1.trans e2)) fun hb H1 e1 => ?_
    · unfold lMove
      rw [hb]
      rfl
    have r1 := ra.ex e1
    refine q_when (b := !decide (Wd.set ∈ us) || decide (Wd.tri ∈ us) && (decide (Wd.add ∈ us) || decide (Wd.look ∈ us))) (et_or (et_test (ev_niL rfl (ev_var rfl) r1)) fun _ => et_and (et_test (ev_inL rfl (ev_var rfl) r1)) fun _ => et_or (et_test (ev_inL rfl (ev_var rfl) r1)) fun _ => et_test (ev_inL rfl (ev_var rfl) r1)) (fun hc H2 e2 => s_ret (ev_is ev_c (cbl (b := lMove us b) ?_)) fun H3 e3 => q H3 ((e1.trans e2).trans e3)) fun hc H2 e2 => ?_
    · unfold lMove
      rw [hb, hc]
      rfl
    have r2 := r1.ex e2
    refine q_when (b := decide (Wd.off ∈ us) && (!decide (Wd.home ∈ us) || !lAhead us .home .off)) (et_and (et_test (ev_inL rfl (ev_var rfl) r2)) fun _ => et_or (et_test (ev_niL rfl (ev_var rfl) r2)) fun _ => et_not (et_B (ev_aheadC rfl rfl (ev_var rfl) r2))) (fun hd H3 e3 => s_ret (ev_is ev_c (cbl (b := lMove us b) ?_)) fun H4 e4 => q H4 (((e1.trans e2).trans e3).trans e4)) fun hd H3 e3 => ?_
    · unfold lMove
      rw [hb, hc, hd]
      rfl
    have r3 := r2.ex e3
    obtain ⟨u0, us', eu⟩ : ∃ u0 us', us = u0 :: us' := by
      cases us with
      | nil => cases hb
      | cons u0 us' => exact ⟨u0, us', rfl⟩
    have hh : us.head? = some u0 := by rw [eu]; rfl
    refine q_when (b := !b && !decide (us.head? = some .home)) (et_and (et_not (et_B (ev_var rfl))) fun _ => et_test (ev_is (ev_op (ev_op (ev_var rfl) ev_c (rv_ixT (v := wV u0) r3.sq (by rw [eu]; exact atI_nat (j := 0) rfl))) (ev_lit (w0 := .home) rfl) (rv_ne rfl)) (cbl (by
      rw [wV_eq, hh]
      congr 1
      exact decide_eq_decide.mpr ⟨fun e => by rw [e], fun e => Option.some.inj e⟩)))) (fun he H4 e4 => s_ret (ev_is ev_c (cbl (b := lMove us b) ?_)) fun H5 e5 => q H5 ((((e1.trans e2).trans e3).trans e4).trans e5)) fun he H4 e4 => ?_
    · unfold lMove
      rw [hb, hc, hd, he]
      rfl
    have x4 := ((e1.trans e2).trans e3).trans e4
    have fin : lMove us b = lMoveA us := by
      unfold lMove
      rw [hb, hc, hd, he]
      rfl
    refine q_forNLn (xs := [wV .look, wV .tri]) (el_lst (ea_cons (ev_lit rfl) (ea_cons (ev_lit rfl) ea_nil)) (by show 2 ≤ 100000; omega)) (fun p i σ' H' => ∃ x, σ' = [some (.ref a), some (.bl b), x] ∧ Ex H H' ∧ H' p = some (.lst [wV .look, wV .tri]) ∧ ∀ u ∈ ([.look, .tri] : Rw).take i, (lAhead us u .set && lAhead us u .off) = true) (fun p H5 _ e5 h5 => ⟨_, rfl, x4.trans e5, h5, fun u hu => by cases hu⟩) (fun p i σ' H' _ z => ?_) (fun p i x σ' H' hx z => ?_) (fun p σ' H' z => ?_)
    · obtain ⟨_, _, _, h, _⟩ := z
      exact sq_of h
    · obtain ⟨_, rfl, x5, h5, hall⟩ := z
      obtain ⟨u, hu, rfl, mu⟩ := w_item (us := [.look, .tri]) hx
      have r5 := ra.ex x5
      have step : (!lAhead us u .set || !lAhead us u .off) = !(lAhead us u .set && lAhead us u .off) := by rw [Bool.not_and]
      refine s_when (b := !lAhead us u .set || !lAhead us u .off) (et_or (et_not (et_B (ev_call (ea_cons (ev_var rfl) (ea_cons (ev_var rfl) (ea_cons (ev_lit rfl) ea_nil))) (sv_ahead (x := u) (y := .set) r5)))) fun _ => et_not (et_B (ev_call (ea_cons (ev_var rfl) (ea_cons (ev_var rfl) (ea_cons (ev_lit rfl) ea_nil))) (sv_ahead (x := u) (y := .off) r5)))) (fun hb6 H6 e6 => s_ret (ev_is ev_c (cbl (b := lMove us b) ?_)) fun H7 e7 => q H7 ((x5.trans e6).trans e7)) fun hb6 H6 e6 => ⟨_, rfl, x5.trans e6, e6 _ _ h5, fun v hv => ?_⟩
      · rw [fin]
        rw [step, Bool.not_eq_true'] at hb6
        unfold lMoveA
        simp only [List.mem_cons, List.not_mem_nil, or_false] at mu
        rcases mu with rfl | rfl
        · rw [hb6, Bool.false_and]
        · rw [hb6, Bool.and_false]
      · rw [step, Bool.not_eq_false'] at hb6
        rw [List.take_add_one, hu] at hv
        rcases List.mem_append.mp hv with h | h
        · exact hall v h
        · rw [List.mem_singleton.mp h]
          exact hb6
    · obtain ⟨_, rfl, x5, h5, hall⟩ := z
      refine s_ret (ev_is ev_c (cbl (b := lMove us b) ?_)) fun H6 e6 => q H6 (x5.trans e6)
      rw [fin]
      unfold lMoveA
      rw [hall .look (by decide), hall .tri (by decide)]
      rfl
/-! lists of rows are made -/
def EvRs (K : PySem.W.Frag) (te : TE) (σ : L2.St) (H : Hp) (rs : List Rw) : Prop := ∀ H1, Ex H H1 → ∀ Q : VK, (∀ p ys H2, H1 p = none → Ex H1 H2 → H2 p = some (.lst ys) → RowsAt K H2 ys rs → Q (.ref p) H2) → te σ H1 Q
def EvRA (K : PySem.W.Frag) (tA : TA) (σ : L2.St) (H : Hp) (rs : List Rw) : Prop := ∀ H1, Ex H H1 → ∀ Q : List V → Hp → Prop, (∀ ys H2, Ex H1 H2 → RowsAt K H2 ys rs → Q ys H2) → tA σ H1 Q
theorem era_nil : EvRA K tNil σ H [] := fun H1 _ Q q => q [] H1 (Ex.refl H1) .nil
theorem era_cons (h : EvR K te σ H us) (hr : EvRA K tA σ H rs) : EvRA K (tCons te tA) σ H (us :: rs) := fun H1 e Q q => h H1 e _ fun p H2 e2 hp => hr H2 (e.trans e2) _ fun ys H3 e3 hy => q _ H3 (e2.trans e3) (.cons (hp.ex e3) hy)
theorem ers_lst (h : EvRA K tA σ H rs) (hl : rs.length ≤ 1000) : EvRs K (tLst tA) σ H rs := fun H1 e Q q => h H1 e _ fun ys H2 e2 hy => ⟨by rw [hy.len, sizeLine_eq]; omega, fun p hp => q p ys _ (fresh_back e2 hp) (e2.trans (Ex.new hp)) upd_same (hy.ex (Ex.new hp))⟩
theorem q_parR {i j : Nat} (h : tA σ H fun vs H1 => ∃ v w, vs = [v, w] ∧ tz D ((σ.set i (some v)).set j (some w)) H1) : tSeq (tPar i j tA) tz D σ H := h
theorem dropR (h : te σ H fun _ H1 => D.nx σ H1) : tDrop te D σ H := h
theorem q_dropR (h : te σ H fun _ H1 => tz D σ H1) : tSeq (tDrop te) tz D σ H := h
theorem er_cat {w0 : Wd} (h1 : Ev ta σ H (.ref a)) (ra : RowX K H a us) (h2 : Ev tb σ H (wV w0)) (hl : us.length ≤ 1000) : EvR K (tOp (rCatX K) ta (tTupX (tCons tb tNil))) σ H (us ++ [w0]) := fun H1 e Q q => h1 H1 e _ fun H2 e2 => h2 H2 (e.trans e2) _ fun H3 e3 => ⟨by show 1 ≤ sizeLine; decide, fun p o hp ho => by
  have x3 := (e.trans e2).trans e3
  have r3 := (ra.ex x3).ex (Ex.new (o := .frz o (.tup [wV w0])) hp)
  have y3 : Ex H1 (upd H3 p (.frz o (.tup [wV w0]))) := (e2.trans e3).trans (Ex.new hp)
  refine ⟨a, p, us.map wV, [wV w0], rfl, rfl, r3.sq, .inl (.inr ⟨o, upd_same⟩), by rw [List.length_map, sizeLine_eq]; show us.length + 1 ≤ _; omega, (fun z => nomatch z), fun z => ?_, fun z p2 o2 hp2 ho2 => ?_⟩
  · have z' : us = [] := List.map_eq_nil_iff.mp z
    subst z'
    exact q p _ y3 (.fx upd_same ho)
  · refine q p2 _ (y3.trans (Ex.new hp2)) (.fx ?_ ho2)
    rw [upd_same, List.map_append]
    rfl⟩
/-- [s + (w,) for w in words if w not in s] -/
theorem ers_ext {ws : Rw} {vs : List Nat} {i0 : Nat} (h : σ[i0]? = some (some (.ref b))) (hb : SqL K H b (ws.map wV)) (hl : ws.length ≤ 6) (hz : us.length ≤ 900) (h5 : ∀ x, (((wipe σ vs).set 6 (some x))[5]? = some (some (.ref a)))) (h6 : ∀ x, (((wipe σ vs).set 6 (some x))[6]? = some (some x))) (hw : ∀ x, wipe ((wipe σ vs).set 6 (some x)) vs = wipe σ vs) (ra : RowX K H a us) :
    EvRs K (tLc (iList K (tVar i0)) (gName 6) (tTest (tOp (rIn K true) (tVar 6) (tVar 5))) (tOp (rCatX K) (tVar 5) (tTupX (tCons (tVar 6) tNil))) vs) σ H (ext ws us) := fun H0 e0 Q q => by
  refine tlc_of (walk_list (K := K) (a := b) (xs := ws.map wV)) (fun R hR => ⟨_, h, b, rfl, ⟨_, ex_l e0 hb⟩, hR⟩)
    (fun Dl k G => ∃ yc, Ex H0 G ∧ G Dl = some (.lst yc) ∧ RowsAt K G yc (((ws.take k).filter fun w => !decide (w ∈ us)).map fun w => us ++ [w]) ∧ H0 Dl = none) (fun Dl hD => ⟨[], Ex.new hD, upd_same, .nil, hD⟩) (fun Dl k G _ z => ?_) (fun Dl k v G1 G2 hD hk z y => ?_) (fun Dl G hD z => ?_)
  · obtain ⟨_, z1, _⟩ := z
    exact ex_l (e0.trans z1) hb
  · obtain ⟨rfl, hv⟩ := y
    obtain ⟨yc, z1, z2, z3, z4⟩ := z
    obtain ⟨w0, hw0, rfl, mw⟩ := w_item hv
    have kl : k < ws.length := by rwa [List.length_map] at hk
    refine ⟨hw _, ?_⟩
    have r1 := ra.ex (e0.trans z1)
    refine et_test (ev_op (ev_var (h6 _)) (ev_var (h5 _)) (rv_niW (w := w0) r1.sq)) G2 (Ex.refl _) _ fun G3 e3 => ?_
    by_cases hu : w0 ∈ us
    · rw [decide_eq_true hu]
      refine ⟨yc, z1.trans e3, e3 _ _ z2, ?_, z4⟩
      rw [ext_take ws us hw0, if_pos hu, List.append_nil]
      exact z3.ex e3
    · rw [decide_eq_false hu]
      refine er_cat (ev_var (h5 _)) (r1.ex e3) (ev_var (h6 _)) (by omega) G3 (Ex.refl _) _ fun p G4 e4 hp => ⟨yc, e4 _ _ (e3 _ _ z2), ?_, yc ++ [.ref p], ((z1.trans e3).trans e4).mut hD, upd_same, ?_, z4⟩
      · have l1 := z3.len
        have l2 := List.length_filter_le (fun w => !decide (w ∈ us)) (ws.take k)
        rw [List.length_map] at l1
        rw [List.length_take] at l2
        rw [sizeLine_eq]
        omega
      · rw [ext_take ws us hw0, if_neg hu]
        have x := (z3.ex (e3.trans e4)).app (.cons hp .nil)
        exact x.exB ExB.set (NoTup.lst (e4 _ _ (e3 _ _ z2)))
  · obtain ⟨yc, z1, z2, z3, z4⟩ := z
    rw [List.take_of_length_le (by rw [List.length_map]; omega)] at z3
    exact q Dl yc G hD z1 z2 z3
theorem ok_Lsequences (T : Txt K mg w)  : FnG P w K mg base CX0 1 T.f_Lsequences T.fd_Lsequences ["_law_words"] (sp_Lseqs K) := by
  skip
  refine okG T.F_Lsequences sc_Lsequences (fun vs H Q E h => ?_) (fun cdv A outer s H vs Q E gd hr h => ?_)
  · obtain ⟨_, _, rfl, _⟩ := h
    all_goals rfl
  · obtain ⟨a, ws, rfl, ha, hws, q⟩ := h
    refine ⟨_, (pss_cons (ps_par (i := 1) (j := 2) rfl sc_Lsequences.nd rfl rfl (by decide) rfl rfl (pa_cons (pe_lst (pa_cons (pe_tupX pa_nil) pa_nil)) (pa_cons (pe_lst (pa_cons (pe_tupX pa_nil) pa_nil)) pa_nil)) (by rfl)) (pss_cons (ps_for PassesOwn.never rfl (pi_range1 (by rfl) T.z_range (pa_cons (pe_callB call_len_seq (by rfl) T.z_len PySem.boot_len (pa_cons (pv 0) pa_nil)) pa_nil)) (pg_name (i := 3) sc_Lsequences.nd rfl (Or.inl rfl) (Or.inr rfl)) (pss_cons (ps_set (i := 4) sc_Lsequences.nd rfl (Or.inl rfl) (pe_lst pa_nil)) (pss_cons (ps_for PassesOwn.never rfl (pi_list (pv 2)) (pg_name (i := 5) sc_Lsequences.nd rfl (Or.inr rfl) (Or.inl rfl)) (pss_one (ps_expr (pe_bm PySem.F.plainAttrs_list PySem.F.slot_list_extend PySem.F.type_list_extend mt_extend (pv 4) (pa_cons (pe_lc (own := [("_law_word", 6)]) (g := gName 6) rfl sc_Lsequences.nd (pi_list (pv 0)) (blkOk_by (N := N_Lsequences) (sc := defScope s_Lsequences) (by decide +kernel)) (fun _ _ _ _ _ => (pg_name (i := 6) sc_Lsequences.nd rfl (Or.inl rfl) (Or.inr rfl))) (fun _ _ _ _ _ => pts_one (pt_cmpR (show OpR _ (compareOp .NotIn) (rIn K true) from op_notIn_seq) (pv 6) (pv 5) (by rfl))) (fun _ _ _ _ _ => (pe_op (show OpR _ (binaryOp .Add) (rCatX K) from op_catX) (pv 5) (pe_tupX (pa_cons (pv 6) pa_nil))))) pa_nil))))) (pss_cons (ps_set (i := 2) sc_Lsequences.nd rfl (Or.inl rfl) (pv 4)) (pss_one (ps_expr (pe_bm PySem.F.plainAttrs_list PySem.F.slot_list_extend PySem.F.type_list_extend mt_extend (pv 1) (pa_cons (pv 2) pa_nil)))))))) (pss_one (ps_ret (pv 1))))), ?_⟩
    have wl := ws_len hws
    refine q_parR (ers_lst (K := K) (era_cons er_0 era_nil) (by show 1 ≤ 1000; omega) H (Ex.refl H) _ fun fo yf H1 hfo e1 h1 r1 => ers_lst (K := K) (era_cons er_0 era_nil) (by show 1 ≤ 1000; omega) H1 (Ex.refl H1) _ fun lo yl H2 hlo e2 h2 r2 => ⟨.ref fo, .ref lo, rfl, ?_⟩)
    have x2 := e1.trans e2
    refine q_forR1 (n := ((ws.length : Nat) : Int)) (ea_cons (ev_is (ev_len (ev_var rfl) (ex_l x2 ha)) (by rw [List.length_map])) ea_nil) (by omega)
      (fun i σ' H' => ∃ lo yf yl x3 x4 x5 x6, σ' = [some (.ref a), some (.ref fo), some (.ref lo), x3, x4, x5, x6] ∧ Ex H H' ∧ H' fo = some (.lst yf) ∧ RowsAt K H' yf (found ws i) ∧ H' lo = some (.lst yl) ∧ RowsAt K H' yl (grow ws i) ∧ lo ≠ fo)
      (fun H3 e3 => ⟨lo, yf, yl, _, _, _, _, rfl, x2.trans e3, e3 _ _ (e2 _ _ h1), r1.ex (e2.trans e3), e3 _ _ h2, r2.ex e3, (ne_of_none h1 hlo).symm⟩) (fun i σ' H' hi z => ?_) (fun σ' H' z => ?_)
    · obtain ⟨lo, yf, yl, x3, x4, x5, x6, rfl, x, hf, rf, hl, rl, nlf⟩ := z
      have hi' : i < ws.length := by omega
      have hfo0 : H fo = none := hfo
      refine q_asgL (xs := []) (el_lst ea_nil (Nat.zero_le _)) fun la H3 hla e3 h3 => ?_
      have nlaf : la ≠ fo := (ne_of_none hf hla).symm
      refine q_forLn (a := lo) (xs := yl) (ev_var rfl) (sq_of (e3 _ _ hl)) (fun j σ'' H'' => ∃ x5 x6 ya, σ'' = [some (.ref a), some (.ref fo), some (.ref lo), some (.int (i : Int)), some (.ref la), x5, x6] ∧ Ex H' H'' ∧ H'' la = some (.lst ya) ∧ RowsAt K H'' ya (((grow ws i).take j).flatMap (ext ws)))
        (fun H4 e4 => ⟨_, _, [], rfl, e3.trans e4, e4 _ _ h3, .nil⟩) (fun j σ'' H'' _ z => ?_) (fun j v σ'' H'' hv z => ?_) (fun σ'' H'' z => ?_)
      · obtain ⟨_, _, _, _, z1, _⟩ := z
        exact sq_of (z1 _ _ hl)
      · obtain ⟨y5, y6, ya, rfl, z1, z2, z3⟩ := z
        obtain ⟨ar, us, rfl, hus, rus⟩ := (rl.ex z1).at hv
        have jl := (List.getElem?_eq_some_iff.mp hus).1
        have uok : us.length ≤ 900 := by
          have := grow_len (List.mem_of_getElem? hus)
          omega
        refine dropR ⟨_, rfl, .inl ⟨rfl, _, sq_of z2⟩, ers_ext (i0 := 0) rfl (ex_l (x.trans z1) ha) wl uok (fun _ => rfl) (fun _ => rfl) (fun _ => rfl) rus H'' (Ex.refl _) _ fun p ys H5 hp e5 h5 r5 => ⟨la, p, ya, ys, rfl, rfl, e5 _ _ z2, h5, ?_, ?_⟩⟩
        · have l1 := z3.len
          have l2 := r5.len
          have l3 := (seq_len hws (show i + 1 ≤ ws.length by omega)).2
          have l4 := flat_take (f := ext ws) (grow ws i) (j + 1)
          rw [List.take_add_one, hus, List.flatMap_append, List.length_append] at l4
          have l5 : (ext ws us).length = (([us] : List Rw).flatMap (ext ws)).length := by simp
          have l6 : (grow ws (i + 1)).length = ((grow ws i).flatMap (ext ws)).length := rfl
          show ya.length + ys.length ≤ sizeLine
          have l7 : (Option.toList (some us)) = [us] := rfl
          rw [l7] at l4
          rw [sizeLine_eq]
          omega
        · refine ⟨_, _, ya ++ ys, rfl, (z1.trans e5).mut hla, upd_same, ?_⟩
          rw [List.take_add_one, hus, List.flatMap_append]
          have l7 : (Option.toList (some us)) = [us] := rfl
          rw [l7, show ([us] : List Rw).flatMap (ext ws) = ext ws us by simp]
          exact ((z3.ex e5).app r5).exB ExB.set (NoTup.lst (e5 _ _ z2))
      · obtain ⟨y5, y6, ya, rfl, z1, z2, z3⟩ := z
        rw [rl.len, List.take_length] at z3
        refine q_asg (v := .ref la) (ev_var rfl) fun H4 e4 => ?_
        have f4 := e4 _ _ (z1 _ _ hf)
        refine dropR ⟨_, rfl, .inl ⟨rfl, _, sq_of f4⟩, _, rfl, fo, la, yf, ya, rfl, rfl, f4, e4 _ _ z2, ?_, ?_⟩
        · have l1 := rf.len
          have l2 := z3.len
          have l3 := (seq_len hws (show i ≤ ws.length by omega)).1
          have l4 := (seq_len hws (show i + 1 ≤ ws.length by omega)).2
          have l6 : (grow ws (i + 1)).length = ((grow ws i).flatMap (ext ws)).length := rfl
          rw [sizeLine_eq]
          omega
        · refine ⟨la, yf ++ ya, ya, _, _, _, _, rfl, ((x.trans z1).trans e4).mut hfo0, upd_same, ?_, ?_, ?_, nlaf⟩
          · exact ((rf.ex (z1.trans e4)).app (z3.ex e4)).exB ExB.set (NoTup.lst f4)
          · rw [upd_ne nlaf]
            exact e4 _ _ z2
          · exact (z3.ex e4).exB ExB.set (NoTup.lst f4)
    · obtain ⟨lo, yf, yl, x3, x4, x5, x6, rfl, x, hf, rf, hl, rl, nlf⟩ := z
      rw [Int.toNat_natCast] at rf
      exact s_ret (ev_var rfl) fun H3 e3 => q H3 fo yf hfo (x.trans e3) (e3 _ _ hf) (rf.ex e3)
end
end My
namespace My
open PySem PySem.Spec PyProof.Rows L2 GL Evl StX SkE
/-! ### rows by the law, any rules -/
section
variable {P : Program} {w : World} {K : PySem.W.Frag} {mg : Str → Option Value} {base : Heap} {C : Addr} {H H' : Hp} {σ : L2.St} {te tb ta tc : TE} {tt : TT} {tA : TA} {E : XK} {D : Ends} {tz : TS} {a b d : Addr} {us : Rw} {xs ys : List V} {rs qs : List Rw}
theorem ers_flt {vs : List Nat} {j : Nat} {f : Rw → Bool} (h : EvRs K tc σ H rs) (hl : rs.length ≤ 4000) (hj : ∀ x, ((wipe σ vs).set j (some x))[j]? = some (some x)) (hw : ∀ x, wipe ((wipe σ vs).set j (some x)) vs = wipe σ vs)
    (ht : ∀ a us G, RowX K G a us → EvT tt ((wipe σ vs).set j (some (.ref a))) G (f us)) : EvRs K (tLc (iList K tc) (gName j) tt (tVar j) vs) σ H (rs.filter f) := fun H0 e0 Q q => h H0 e0 _ fun p ys H1 hp e1 h1 r1 => ⟨p, rfl, ⟨_, sq_of h1⟩, fun Dl hD =>
  lc_it (walk_list (K := K) (a := p) (xs := ys)) (fun k G => ∃ yc, Ex H1 G ∧ G Dl = some (.lst yc) ∧ RowsAt K G yc ((rs.take k).filter f)) ⟨[], Ex.new hD, upd_same, .nil⟩ (fun k G _ z => by
    obtain ⟨_, z1, _⟩ := z
    exact ex_l z1 (sq_of h1)) (fun k v G1 G2 hk z y => by
    obtain ⟨rfl, hv⟩ := y
    obtain ⟨yc, z1, z2, z3⟩ := z
    obtain ⟨a, us, rfl, hu, ra⟩ := (r1.ex z1).at hv
    have kl : k < rs.length := (List.getElem?_eq_some_iff.mp hu).1
    refine ⟨hw _, ?_⟩
    refine ht a us _ ra _ (Ex.refl _) _ fun G3 e3 => ?_
    have tk : (rs.take (k + 1)).filter f = (rs.take k).filter f ++ (if f us then [us] else []) := by
      rw [List.take_add_one, hu, List.filter_append]
      congr 1
      show List.filter f [us] = _
      by_cases e : f us
      · rw [if_pos e, List.filter_cons_of_pos e]
        rfl
      · rw [if_neg e, List.filter_cons_of_neg e]
        rfl
    cases hf : f us with
    | false =>
      refine ⟨yc, z1.trans e3, e3 _ _ z2, ?_⟩
      rw [tk, hf]
      show RowsAt K G3 yc (_ ++ [])
      rw [List.append_nil]
      exact z3.ex e3
    | true =>
      refine ⟨_, hj _, yc, e3 _ _ z2, ?_, yc ++ [.ref a], (z1.trans e3).mut hD, upd_same, ?_⟩
      · have l1 := z3.len
        have l2 := List.length_filter_le f (rs.take k)
        rw [List.length_take] at l2
        rw [sizeLine_eq]
        omega
      · rw [tk, hf]
        have x := (z3.ex e3).app (.cons (ra.ex e3) .nil)
        exact x.exB ExB.set (NoTup.lst (e3 _ _ z2)))
    (fun G z => by
    obtain ⟨yc, z1, z2, z3⟩ := z
    rw [r1.len, List.take_length] at z3
    exact q Dl yc G (fresh_back e1 hD) (e1.trans z1) z2 z3)⟩
theorem ers_seqs {Er : XK} {ws : Rw} (h : EvL te σ H (ws.map wV)) (hw : ws ∈ [takeWs, giveWs, moveWs]) : EvRs K (tCall (sp_Lseqs K) [] Er (tCons te tNil)) σ H (seqs ws) := fun H0 e0 Q q => h H0 e0 _ fun p H1 hp e1 h1 => ⟨p, ws, rfl, sq_of h1, hw, fun H2 r xs hr e2 h2 r2 => q r xs H2 (fresh_back e1 hr) (e1.trans e2) h2 r2⟩
theorem seqs_len {ws : Rw} (hw : ws ∈ [takeWs, giveWs, moveWs]) : (seqs ws).length ≤ 4000 := Nat.le_trans (seq_len hw (Nat.le_refl _)).1 (by omega)
theorem s_rows {Q : VK} (h : EvRs K te σ H rs) (q : ∀ H' p ys, H p = none → Ex H H' → H' p = some (.lst ys) → RowsAt K H' ys rs → Q (.ref p) H') (hQ : D.rt = Q) : tRet te D σ H := by
  subst hQ
  exact h H (Ex.refl H) _ fun p ys H1 hp e1 h1 r1 => q H1 p ys hp e1 h1 r1
theorem ok_Ltakes (T : Txt K mg w) (G_Lsequences : FnG P w K mg base CX0 1 T.f_Lsequences T.fd_Lsequences ["_law_words"] (sp_Lseqs K)) (G_Lis_take : FnG P w K mg base CX0 2 T.f_Lis_take T.fd_Lis_take ["_law_some", "_law_amount"] (sp_Ltk K)) : FnG P w K mg base CX0 3 T.f_Ltakes T.fd_Ltakes ["_law_amount"] (sp_Ltakes K) := by
  skip
  refine okG T.F_Ltakes sc_Ltakes (fun vs H Q E h => ?_) (fun cdv A outer s H vs Q E gd hr h => ?_)
  · obtain ⟨_, rfl, _⟩ := h
    all_goals rfl
  · obtain ⟨n, rfl, q⟩ := h
    refine ⟨_, (pss_one (ps_ret (pe_lc (own := [("_law_some", 1)]) (g := gName 1) rfl sc_Ltakes.nd (pi_list (pc gd G_Lsequences (hr.mono (by decide)) (by rfl) T.m_Lsequences T.F_Lsequences.kp T.b_Lsequences .nil pass0 (pa_cons (pe_lst (pa_cons pe_str (pa_cons pe_str (pa_cons pe_str (pa_cons pe_str pa_nil))))) pa_nil))) (blkOk_by (N := N_Ltakes) (sc := defScope s_Ltakes) (by decide +kernel)) (fun _ _ _ _ _ => (pg_name (i := 1) sc_Ltakes.nd rfl (Or.inl rfl) (Or.inr rfl))) (fun _ _ _ _ _ => pts_one (pt_val (pc gd G_Lis_take (hr.mono (by decide)) (by rfl) T.m_Lis_take T.F_Lis_take.kp T.b_Lis_take .nil pass0 (pa_cons (pv 1) (pa_cons (pv 0) pa_nil))))) (fun _ _ _ _ _ => (pv 1))))), ?_⟩
    refine s_rows (ers_flt (f := fun us => lTake us n) (ers_seqs (ws := takeWs) (el_lst (ea_cons (ev_lit rfl) (ea_cons (ev_lit rfl) (ea_cons (ev_lit rfl) (ea_cons (ev_lit rfl) ea_nil)))) (by show 4 ≤ 100000; omega)) (by decide)) (seqs_len (by decide)) (fun _ => rfl) (fun _ => rfl) fun a us G ra => et_B (ev_call (ea_cons (ev_var rfl) (ea_cons (ev_var rfl) ea_nil)) fun _ e _ q _ => ⟨a, us, n, rfl, ra.ex e, q⟩)) q rfl
theorem ok_Lgives (T : Txt K mg w) (G_Lsequences : FnG P w K mg base CX0 1 T.f_Lsequences T.fd_Lsequences ["_law_words"] (sp_Lseqs K)) (G_Lis_give : FnG P w K mg base CX0 2 T.f_Lis_give T.fd_Lis_give ["_law_some"] (sp_Lgv K)) : FnG P w K mg base CX0 3 T.f_Lgives T.fd_Lgives [] (sp_Lgives K) := by
  skip
  refine okG T.F_Lgives sc_Lgives (fun vs H Q E h => ?_) (fun cdv A outer s H vs Q E gd hr h => ?_)
  · obtain ⟨rfl, _⟩ := h
    all_goals rfl
  · obtain ⟨rfl, q⟩ := h
    refine ⟨_, (pss_one (ps_ret (pe_lc (own := [("_law_some", 0)]) (g := gName 0) rfl sc_Lgives.nd (pi_list (pc gd G_Lsequences (hr.mono (by decide)) (by rfl) T.m_Lsequences T.F_Lsequences.kp T.b_Lsequences .nil pass0 (pa_cons (pe_lst (pa_cons pe_str (pa_cons pe_str (pa_cons pe_str pa_nil)))) pa_nil))) (blkOk_by (N := N_Lgives) (sc := defScope s_Lgives) (by decide +kernel)) (fun _ _ _ _ _ => (pg_name (i := 0) sc_Lgives.nd rfl (Or.inl rfl) (Or.inr rfl))) (fun _ _ _ _ _ => pts_one (pt_val (pc gd G_Lis_give (hr.mono (by decide)) (by rfl) T.m_Lis_give T.F_Lis_give.kp T.b_Lis_give .nil pass0 (pa_cons (pv 0) pa_nil)))) (fun _ _ _ _ _ => (pv 0))))), ?_⟩
    refine s_rows (ers_flt (f := fun us => lGive us) (ers_seqs (ws := giveWs) (el_lst (ea_cons (ev_lit rfl) (ea_cons (ev_lit rfl) (ea_cons (ev_lit rfl) ea_nil))) (by show 3 ≤ 100000; omega)) (by decide)) (seqs_len (by decide)) (fun _ => rfl) (fun _ => rfl) fun a us G ra => et_B (ev_call (ea_cons (ev_var rfl) ea_nil) fun _ e _ q _ => ⟨a, us, rfl, ra.ex e, q⟩)) q rfl
theorem ok_Lmoves (T : Txt K mg w) (G_Lsequences : FnG P w K mg base CX0 1 T.f_Lsequences T.fd_Lsequences ["_law_words"] (sp_Lseqs K)) (G_Lis_move : FnG P w K mg base CX0 2 T.f_Lis_move T.fd_Lis_move ["_law_some", "_law_is_shared"] (sp_Lmv K)) : FnG P w K mg base CX0 3 T.f_Lmoves T.fd_Lmoves ["_law_is_shared"] (sp_Lmoves K) := by
  skip
  refine okG T.F_Lmoves sc_Lmoves (fun vs H Q E h => ?_) (fun cdv A outer s H vs Q E gd hr h => ?_)
  · obtain ⟨_, rfl, _⟩ := h
    all_goals rfl
  · obtain ⟨b, rfl, q⟩ := h
    refine ⟨_, (pss_cons (ps_set (i := 1) sc_Lmoves.nd rfl (Or.inl rfl) (pe_lst (pa_cons pe_str (pa_cons pe_str (pa_cons pe_str (pa_cons pe_str (pa_cons pe_str (pa_cons pe_str pa_nil)))))))) (pss_one (ps_ret (pe_lc (own := [("_law_some", 2)]) (g := gName 2) rfl sc_Lmoves.nd (pi_list (pc gd G_Lsequences (hr.mono (by decide)) (by rfl) T.m_Lsequences T.F_Lsequences.kp T.b_Lsequences .nil pass0 (pa_cons (pv 1) pa_nil))) (blkOk_by (N := N_Lmoves) (sc := defScope s_Lmoves) (by decide +kernel)) (fun _ _ _ _ _ => (pg_name (i := 2) sc_Lmoves.nd rfl (Or.inl rfl) (Or.inr rfl))) (fun _ _ _ _ _ => pts_one (pt_val (pc gd G_Lis_move (hr.mono (by decide)) (by rfl) T.m_Lis_move T.F_Lis_move.kp T.b_Lis_move .nil pass0 (pa_cons (pv 2) (pa_cons (pv 0) pa_nil))))) (fun _ _ _ _ _ => (pv 2)))))), ?_⟩
    refine q_asgL (el_lst (ea_cons (ev_lit (w0 := .home) rfl) (ea_cons (ev_lit (w0 := .look) rfl) (ea_cons (ev_lit (w0 := .add) rfl) (ea_cons (ev_lit (w0 := .tri) rfl) (ea_cons (ev_lit (w0 := .set) rfl) (ea_cons (ev_lit (w0 := .off) rfl) ea_nil)))))) (by show 6 ≤ 100000; omega)) fun p H1 hp e1 h1 => ?_
    have r : EvRs K (tCall (sp_Lseqs K) [] (fun _ _ _ => False) (tCons (tVar 1) tNil)) [some (.bl b), some (.ref p), none] H1 (seqs moveWs) := fun H0 e0 Q q => ⟨_, rfl, p, moveWs, rfl, sq_of (e0 _ _ h1), by decide, fun H2 r xs hr e2 h2 r2 => q r xs H2 hr e2 h2 r2⟩
    refine s_rows (ers_flt (f := fun us => lMove us b) r (seqs_len (by decide)) (fun _ => rfl) (fun _ => rfl) fun a us G ra => et_B (ev_call (ea_cons (ev_var rfl) (ea_cons (ev_var rfl) ea_nil)) fun _ e _ q _ => ⟨a, us, b, rfl, ra.ex e, q⟩)) (fun H2 r ys hr e2 h2 r2 => q H2 r ys (fresh_back e1 hr) (e1.trans e2) h2 r2) rfl
theorem er_row {us : Rw} (h : EvA tA σ H (us.map wV)) (hl : us.length ≤ 1000) : EvR K (tTupX tA) σ H us := fun H1 e Q q => h H1 e _ fun H2 e2 => ⟨by rw [List.length_map, sizeLine_eq]; omega, fun p o hp ho => q p _ (e2.trans (Ex.new hp)) (.fx upd_same ho)⟩
theorem ok_Llifts (T : Txt K mg w)  : FnG P w K mg base CX0 1 T.f_Llifts T.fd_Llifts [] (sp_Llifts K) := by
  skip
  refine okG T.F_Llifts sc_Llifts (fun vs H Q E h => ?_) (fun cdv A outer s H vs Q E gd hr h => ?_)
  · obtain ⟨rfl, _⟩ := h
    all_goals rfl
  · obtain ⟨rfl, q⟩ := h
    refine ⟨_, (pss_one (ps_ret (pe_lst (pa_cons (pe_tupX pa_nil) (pa_cons (pe_tupX (pa_cons pe_str pa_nil)) (pa_cons (pe_tupX (pa_cons pe_str pa_nil)) (pa_cons (pe_tupX (pa_cons pe_str (pa_cons pe_str pa_nil))) (pa_cons (pe_tupX (pa_cons pe_str (pa_cons pe_str pa_nil))) (pa_cons (pe_tupX (pa_cons pe_str pa_nil)) pa_nil))))))))), ?_⟩
    have w1 : ∀ {z : Str} {x : Wd}, z = x.s → EvR K (tTupX (tCons (tC (.str z)) tNil)) (L2.start N_Llifts []) H [x] := fun e => er_row (ea_cons (ev_lit e) ea_nil) (by show 1 ≤ 1000; omega)
    have w2 : ∀ {z z' : Str} {x x' : Wd}, z = x.s → z' = x'.s → EvR K (tTupX (tCons (tC (.str z)) (tCons (tC (.str z')) tNil))) (L2.start N_Llifts []) H [x, x'] := fun e e' => er_row (ea_cons (ev_lit e) (ea_cons (ev_lit e') ea_nil)) (by show 2 ≤ 1000; omega)
    refine s_rows (rs := liftRows) (ers_lst (era_cons er_0 (era_cons (w1 rfl) (era_cons (w1 rfl) (era_cons (w2 rfl rfl) (era_cons (w2 rfl rfl) (era_cons (w1 rfl) era_nil)))))) (by decide)) q rfl
end
end My
namespace My
open PySem PySem.Spec PyProof.Rows L2 GL Evl StX SkE
/-! ### any rules -/
def anyKs : List Pt := [.fails, .shared, .batch, .settles, .holds, .take, .give, .move, .lift]
def sp_Lany (K : PySem.W.Frag) : Sp := fun vs H Q _ => ∃ a, vs = [.ref a] ∧ PotAt H a ∧ ∀ H' d r, ExB a H H' → PotAt H' a → H d = none → DictAt K H' d anyKs r → Ok r → Q (.ref d) H'
section
variable {P : Program} {w : World} {K : PySem.W.Frag} {mg : Str → Option Value} {base : Heap} {C : Addr} {H H' H0 H1 : Hp} {σ : L2.St} {te tb ta tc : TE} {tt : TT} {tA : TA} {E Er : XK} {D : Ends} {tz : TS} {a b d : Addr} {us : Rw} {xs ys : List V} {rs qs : List Rw} {ks : List Pt} {r l : Ru} {p : Pt} {v : V} {Q : VK}
theorem PotAt.nt (h : PotAt H a) : NoTup H a := by
  obtain ⟨x, y, h1, _⟩ := h
  exact NoTup.lst h1
theorem PotAt.ne (h : PotAt H a) (hd : H d = none) : d ≠ a := fun e => by
  obtain ⟨x, y, h1, _⟩ := h
  rw [e, h1] at hd
  cases hd
/-- where a dict of rules is filled beside a pot -/
structure Sta (K : PySem.W.Frag) (a d : Addr) (ks : List Pt) (r : Ru) (H0 H : Hp) : Prop where
  x : ExB a H0 H
  p : PotAt H a
  n : H0 d = none
  na : d ≠ a
  d : DictAt K H d ks r
theorem DictAt.put (h : DictAt K H d ks r) (hp : p ∉ ks) (hv : (l.get p).At K H v) {f : Pt → V} (hf : H d = some (.dK (kvs ks f))) : DictAt K (upd H d (.dK (putK (kvs ks f) (.inr p.s) v))) d (ks ++ [p]) (r.upd l p) := by
  obtain ⟨f', h1, h2⟩ := h
  have ef : ∀ q ∈ ks, f' q = f q := fun q hq => by
    rw [hf] at h1
    have e := HO.dK.inj (Option.some.inj h1)
    have e1 := val_at (f := f) hq
    rw [e, val_at hq] at e1
    exact Option.some.inj e1
  refine ⟨My.put f p v, by rw [upd_same, put_new hp], fun q hq => ?_⟩
  rw [Ru.get_upd]
  unfold My.put
  by_cases e : q = p
  · subst e
    rw [if_pos rfl, if_pos rfl]
    exact hv.exB ExB.set (NoTup.dK hf)
  · rw [if_neg e, if_neg e]
    have hq' : q ∈ ks := (List.mem_append.mp hq).resolve_right fun z => e (List.mem_singleton.mp z)
    rw [← ef q hq']
    exact (h2 q hq').exB ExB.set (NoTup.dK hf)
theorem DictAt.over (h : DictAt K H d ks r) (hp : p ∈ ks) (hv : (l.get p).At K H v) {f : Pt → V} (hf : H d = some (.dK (kvs ks f))) : DictAt K (upd H d (.dK (putK (kvs ks f) (.inr p.s) v))) d ks (r.upd l p) := by
  obtain ⟨f', h1, h2⟩ := h
  have ef : ∀ q ∈ ks, f' q = f q := fun q hq => by
    rw [hf] at h1
    have e := HO.dK.inj (Option.some.inj h1)
    have e1 := val_at (f := f) hq
    rw [e, val_at hq] at e1
    exact Option.some.inj e1
  refine ⟨My.put f p v, by rw [upd_same, put_old hp], fun q hq => ?_⟩
  rw [Ru.get_upd]
  unfold My.put
  by_cases e : q = p
  · subst e
    rw [if_pos rfl, if_pos rfl]
    exact hv.exB ExB.set (NoTup.dK hf)
  · rw [if_neg e, if_neg e, ← ef q hq]
    exact (h2 q hq).exB ExB.set (NoTup.dK hf)
/-- a part is told by draws -/
def EvPt (K : PySem.W.Frag) (te : TE) (σ : L2.St) (H : Hp) (a : Addr) (p : Pt) (X : Ru → Prop) : Prop := ∀ H1, Ex H H1 → ∀ Q : VK, (∀ H2 v l, ExB a H1 H2 → PotAt H2 a → (l.get p).At K H2 v → X l → Q v H2) → te σ H1 Q
theorem Sta.ex (st : Sta K a d ks r H0 H) (e : ExB a H H') (p : PotAt H' a) : Sta K a d ks r H0 H' := ⟨st.x.trans e, p, st.n, st.na, st.d.exB e st.na st.p.nt⟩
theorem Sta.put (st : Sta K a d ks r H0 H) (hp : p ∉ ks) (hv : (l.get p).At K H v) {f : Pt → V} (hf : H d = some (.dK (kvs ks f))) : Sta K a d (ks ++ [p]) (r.upd l p) H0 (upd H d (.dK (putK (kvs ks f) (.inr p.s) v))) := ⟨st.x.mut st.n, st.p.exB ExB.set st.na.symm, st.n, st.na, st.d.put hp hv hf⟩
theorem q_part {X : Ru → Prop} {i : Nat} (st : Sta K a d ks r H0 H) (hs : σ[i]? = some (some (.ref d))) (hp : p ∉ ks) (hl : ks.length ≤ 20) (h : EvPt K te σ H a p X) (k : ∀ H1 l, X l → Sta K a d (ks ++ [p]) (r.upd l p) H0 H1 → tz D σ H1) : tSeq (sDPut (tVar i) (tC (.str p.s)) te) tz D σ H :=
  h H (Ex.refl H) _ fun H1 v l e1 p1 hv hx => by
    have st1 := st.ex e1 p1
    obtain ⟨f, hf, _⟩ := id st1.d
    exact ⟨_, hs, d, _, rfl, .inl ⟨_, .inr p.s, hf, rfl, by rw [List.length_map, sizeLine_eq]; omega, rfl⟩, k _ l hx (st1.put hp hv hf)⟩
theorem n_eq0 (i : Nat) : RV rEq (nV i) (.int 0) H (.bl (decide (i = 0))) := rv_bl (rv_eq rfl) (nV_eq i 0)
theorem draw0 {i : Nat} (hp : PotAt H a) (hs : σ[i]? = some (some (.ref a))) {Q : VK} (k : ∀ H1 (b : Bool), ExB a H H1 → PotAt H1 a → Q (.bl b) H1) : tOp rEq (tCall sp_Ldraw [] Er (tCons (tVar i) (tCons (tC (.int 2)) tNil))) (tC (.int 0)) σ H Q :=
  op_raw (dr (n := 2) (ea_cons (ev_var hs) (ea_cons (ev_is ev_c rfl) ea_nil)) hp (by omega) (by omega) fun H1 j x1 p1 _ => ev_raw ev_c fun H2 e2 => n_eq0 j H2 (Ex.refl _) _ fun H3 e3 => k H3 _ ((x1.trans (ExB.of e2)).trans (ExB.of e3)) ((p1.ex e2).ex e3))
theorem ep_bool {i : Nat} (hp : PotAt H a) (hs : σ[i]? = some (some (.ref a))) (h : p = .shared ∨ p = .settles) : EvPt K (tOp rEq (tCall sp_Ldraw [] Er (tCons (tVar i) (tCons (tC (.int 2)) tNil))) (tC (.int 0))) σ H a p (fun _ => True) := fun H1 e1 Q q => draw0 (hp.ex e1) hs fun H2 b x2 p2 => by
  rcases h with rfl | rfl
  · exact q H2 (.bl b) ⟨[], [], [], [], .undo, b, [], 1, b⟩ x2 p2 rfl trivial
  · exact q H2 (.bl b) ⟨[], [], [], [], .undo, b, [], 1, b⟩ x2 p2 rfl trivial
/-- one of the rows -/
theorem pick_rows {i : Nat} {Q : VK} (hp : PotAt H a) (hs : σ[i]? = some (some (.ref a))) (h : EvRs K te σ H rs) (h1 : rs ≠ []) (h2 : rs.length ≤ 1000) (k : ∀ H1 b us, ExB a H H1 → PotAt H1 a → us ∈ rs → RowX K H1 b us → Q (.ref b) H1) : tCall sp_Lpick [] Er (tCons (tVar i) (tCons te tNil)) σ H Q :=
  ⟨_, hs, h H (Ex.refl H) _ fun p ys H1 hp1 e1 h3 r1 => ⟨a, p, ys, rfl, hp.ex e1, (hp.ne hp1), h3, by
    have := List.length_pos_iff.mpr h1
    rw [r1.len]
    omega, by rw [r1.len]; exact h2, fun H2 v x2 p2 hv => by
    obtain ⟨b, us, rfl, hu, hb⟩ := r1.mem hv
    exact k H2 b us ((ExB.of e1).trans x2) p2 hu (hb.exB x2 (hp.ex e1).nt)⟩⟩
def rowPt : Pt → Ru → Rw
  | .take, r => r.take | .give, r => r.give | .move, r => r.move | .lift, r => r.lift | _, r => r.holds
theorem ep_row {i : Nat} (hp : PotAt H a) (hs : σ[i]? = some (some (.ref a))) (h : EvRs K te σ H rs) (h1 : rs ≠ []) (h2 : rs.length ≤ 1000) (hk : p = .take ∨ p = .give ∨ p = .move ∨ p = .lift) : EvPt K (tCall sp_Lpick [] Er (tCons (tVar i) (tCons te tNil))) σ H a p (fun l => rowPt p l ∈ rs) := fun H1 e1 Q q =>
  pick_rows (hp.ex e1) hs (fun H2 e2 => h H2 (e1.trans e2)) h1 h2 fun H2 b us x2 p2 hu hb => by
    rcases hk with rfl | rfl | rfl | rfl
    · exact q H2 (.ref b) ⟨us, us, us, us, .undo, true, [], 1, true⟩ x2 p2 ⟨b, rfl, hb⟩ hu
    · exact q H2 (.ref b) ⟨us, us, us, us, .undo, true, [], 1, true⟩ x2 p2 ⟨b, rfl, hb⟩ hu
    · exact q H2 (.ref b) ⟨us, us, us, us, .undo, true, [], 1, true⟩ x2 p2 ⟨b, rfl, hb⟩ hu
    · exact q H2 (.ref b) ⟨us, us, us, us, .undo, true, [], 1, true⟩ x2 p2 ⟨b, rfl, hb⟩ hu
theorem ers_takes {n : Nat} (h : Ev te σ H (nV n)) : EvRs K (tCall (sp_Ltakes K) [] Er (tCons te tNil)) σ H (takes n) := fun H0 e0 Q q => h H0 e0 _ fun H1 e1 => ⟨n, rfl, fun H2 p ys hp e2 h2 r2 => q p ys H2 (fresh_back e1 hp) (e1.trans e2) h2 r2⟩
theorem ers_moves {b : Bool} (h : Ev te σ H (.bl b)) : EvRs K (tCall (sp_Lmoves K) [] Er (tCons te tNil)) σ H (moves b) := fun H0 e0 Q q => h H0 e0 _ fun H1 e1 => ⟨b, rfl, fun H2 p ys hp e2 h2 r2 => q p ys H2 (fresh_back e1 hp) (e1.trans e2) h2 r2⟩
theorem ers_gives : EvRs K (tCall (sp_Lgives K) [] Er tNil) σ H gives := fun H0 e0 Q q => ⟨rfl, fun H2 p ys hp e2 h2 r2 => q p ys H2 hp e2 h2 r2⟩
theorem ers_lifts : EvRs K (tCall (sp_Llifts K) [] Er tNil) σ H liftRows := fun H0 e0 Q q => ⟨rfl, fun H2 p ys hp e2 h2 r2 => q p ys H2 hp e2 h2 r2⟩
theorem takes_len (n : Nat) : (takes n).length ≤ 1000 := by
  have h : (seqs takeWs).length ≤ 1000 := by
    have go : decide ((seqs takeWs).length ≤ 1000) = true := by decide +kernel
    exact of_decide_eq_true go
  exact Nat.le_trans (List.length_filter_le _ _) h
theorem moves_len (b : Bool) : (moves b).length ≤ 1000 := by
  have go : ∀ b, decide ((moves b).length ≤ 1000) = true := by decide +kernel
  exact of_decide_eq_true (go b)
theorem gives_len : gives.length ≤ 1000 := by
  have go : decide (gives.length ≤ 1000) = true := by decide +kernel
  exact of_decide_eq_true go
/-- [k for k in us if draw == 0] -/
theorem tlc_sub {wi : TI} {vs : List Nat} {i j : Nat} {us : Rw} (hp : PotAt H a) (hl : us.length ≤ 1000) (hw : ∀ R : It → Hp → Prop, (∀ J G H1, Walk J (us.map wV).length G (YAt (us.map wV)) → Ex H H1 → (∀ H', ExB a H1 H' → G H') → R J H1) → wi σ H R)
    (h0 : ∀ x, ((wipe σ vs).set j (some x))[i]? = some (some (.ref a))) (hj : ∀ x, ((wipe σ vs).set j (some x))[j]? = some (some x)) (hv : ∀ x, wipe ((wipe σ vs).set j (some x)) vs = wipe σ vs)
    (q : ∀ H' Dl (ws : Rw), H Dl = none → ws.Sublist us → ExB a H H' → PotAt H' a → H' Dl = some (.lst (ws.map wV)) → Q (.ref Dl) H') : tLc wi (gName j) (tTest (tOp rEq (tCall sp_Ldraw [] Er (tCons (tVar i) (tCons (tC (.int 2)) tNil))) (tC (.int 0)))) (tVar j) vs σ H Q :=
  hw _ fun J G H1 wk e1 hG Dl hD => lc_it wk (fun k H' => ∃ ws : Rw, ExB a H1 H' ∧ PotAt H' a ∧ H' Dl = some (.lst (ws.map wV)) ∧ ws.Sublist (us.take k)) ⟨[], ExB.of (Ex.new hD), (hp.ex e1).ex (Ex.new hD), upd_same, List.nil_sublist _⟩
    (fun k H' _ z => hG H' z.choose_spec.1) (fun k v G1 G2 hk z y => by
    obtain ⟨rfl, hi⟩ := y
    obtain ⟨ws, z1, z2, z3, z4⟩ := z
    obtain ⟨u, hu, rfl, _⟩ := w_item hi
    refine ⟨hv _, ?_⟩
    refine test_raw (draw0 z2 (h0 _) fun H3 b x3 p3 => ⟨b, rfl, ?_⟩)
    have nd : Dl ≠ a := (hp.ex e1).ne hD
    have h3 : H3 Dl = some (.lst (ws.map wV)) := x3 _ _ nd z3
    have tk : us.take (k + 1) = us.take k ++ [u] := by
      rw [List.take_add_one, hu]
      rfl
    cases b with
    | true =>
      refine ⟨_, hj _, ws.map wV, h3, ?_, ws ++ [u], (z1.trans x3).mut hD, p3.exB ExB.set nd.symm, ?_, ?_⟩
      · have l1 := z4.length_le
        rw [List.length_take] at l1
        rw [List.length_map, sizeLine_eq]
        omega
      · rw [upd_same, List.map_append]
        rfl
      · rw [tk]
        exact z4.append (List.Sublist.refl _)
    | false => 
      refine ⟨ws, z1.trans x3, p3, h3, ?_⟩
      rw [tk]
      exact z4.trans (List.sublist_append_left _ _)) fun H' z => by
    obtain ⟨ws, z1, z2, z3, z4⟩ := z
    rw [List.length_map, List.take_length] at z4
    exact q H' Dl ws (fresh_back e1 hD) z4 ((ExB.of e1).trans z1) z2 z3
theorem cb1_raw {rr : List V → Hp → VK → Prop} (h : te σ H fun v H1 => rr [v] H1 Q) : tCB rr (tCons te tNil) σ H Q := h
theorem lst_raw (h : tA σ H fun xs H1 => xs.length ≤ sizeLine ∧ ∀ p, H1 p = none → Q (.ref p) (upd H1 p (.lst xs))) : tLst tA σ H Q := h
theorem cons1_raw {QA : List V → Hp → Prop} (h : te σ H fun x H1 => QA [x] H1) : tCons te tNil σ H QA := h
theorem cons_rw {QA : List V → Hp → Prop} (h : te σ H fun x H1 => tA σ H1 fun vs H2 => QA (x :: vs) H2) : tCons te tA σ H QA := h
theorem ep_holds {wi : TI} {vs : List Nat} {i j : Nat} {us : Rw} (hp : PotAt H a) (hl : us.length ≤ 1000) (hw : ∀ H0, Ex H H0 → ∀ R : It → Hp → Prop, (∀ J G H1, Walk J (us.map wV).length G (YAt (us.map wV)) → Ex H0 H1 → (∀ H', ExB a H1 H' → G H') → R J H1) → wi σ H0 R)
    (h0 : ∀ x, ((wipe σ vs).set j (some x))[i]? = some (some (.ref a))) (hj : ∀ x, ((wipe σ vs).set j (some x))[j]? = some (some x)) (hv : ∀ x, wipe ((wipe σ vs).set j (some x)) vs = wipe σ vs) :
    EvPt K (tCB (fun xs H Q => ∃ p ys, xs = [.ref p] ∧ ((SqL K H p ys ∧ ∀ l, H l = none → Q (.ref l) (upd H l (.tup ys))) ∨ (SqT K H p ys ∧ Q (.ref p) H))) (tCons (tLc wi (gName j) (tTest (tOp rEq (tCall sp_Ldraw [] Er (tCons (tVar i) (tCons (tC (.int 2)) tNil))) (tC (.int 0)))) (tVar j) vs) tNil)) σ H a .holds (fun l => l.holds.Sublist us) := fun H1 e1 Q q =>
  cb1_raw (tlc_sub (hp.ex e1) hl (hw H1 e1) h0 hj hv fun H2 Dl ws hD hs x2 p2 h2 => ⟨Dl, ws.map wV, rfl, .inl ⟨sq_of h2, fun t ht => q _ (.ref t) ⟨[], [], [], [], .undo, true, ws, 1, true⟩ (x2.trans (ExB.of (Ex.new ht))) (p2.ex (Ex.new ht)) ⟨t, rfl, .tup upd_same⟩ hs⟩⟩)
theorem q_dispR {g : TG} {trs : List (TE × TE)} (h : tDisp trs σ H fun x H1 => g x σ H1 (tz D)) : tSeq (tAsg (tDisp trs) g) tz D σ H := h
theorem fail_mem : ∀ v, v ∈ failWs.map wV → ∃ u ∈ failWs, v = wV u := fun v h => by
  obtain ⟨u, hu, rfl⟩ := List.mem_map.mp h
  exact ⟨u, hu, rfl⟩
theorem pick_list {i : Nat} {Q : VK} (hp : PotAt H a) (hs : σ[i]? = some (some (.ref a))) (h : EvL te σ H xs) (h1 : 1 ≤ xs.length) (h2 : xs.length ≤ 1000) (k : ∀ H1 v, ExB a H H1 → PotAt H1 a → v ∈ xs → Q v H1) : tCall sp_Lpick [] Er (tCons (tVar i) (tCons te tNil)) σ H Q :=
  ⟨_, hs, h H (Ex.refl H) _ fun p H1 hp1 e1 h3 => ⟨a, p, xs, rfl, hp.ex e1, (hp.ne hp1), h3, h1, h2, fun H2 v x2 p2 hv => k H2 v ((ExB.of e1).trans x2) p2 hv⟩⟩
theorem ev_part {i : Nat} (hs : σ[i]? = some (some (.ref d))) (h : DictAt K H d ks r) (hp : p ∈ ks) : ∃ v, Ev (tDGet (tVar i) (tC (.str p.s))) σ H v ∧ (r.get p).At K H v := by
  obtain ⟨f, h1, h2⟩ := h
  exact ⟨f p, ev_get (ev_var hs) h1 hp, h2 p hp⟩
theorem ev_pI {i : Nat} (hs : σ[i]? = some (some (.ref d))) (h : DictAt K H d ks r) (hp : .batch ∈ ks) : Ev (tDGet (tVar i) (tC (.str Pt.batch.s))) σ H (nV r.batch) := by
  obtain ⟨v, h1, h2⟩ := ev_part hs h hp
  have e : v = nV r.batch := h2
  rwa [e] at h1
theorem ev_pS {i : Nat} (hs : σ[i]? = some (some (.ref d))) (h : DictAt K H d ks r) (hp : .shared ∈ ks) : Ev (tDGet (tVar i) (tC (.str Pt.shared.s))) σ H (.bl r.shared) := by
  obtain ⟨v, h1, h2⟩ := ev_part hs h hp
  have e : v = .bl r.shared := h2
  rwa [e] at h1
theorem ep_batch {i : Nat} (hp : PotAt H a) (hs : σ[i]? = some (some (.ref a))) : EvPt K (tCall sp_Lpick [] Er (tCons (tVar i) (tCons (tLst (tCons (tC (.int 1)) (tCons (tC (.int 1)) (tCons (tC (.int 2)) (tCons (tOp (rI0 fun i j => .int (i + j)) (tC (.int 1)) (tCall sp_Ldraw [] Er (tCons (tVar i) (tCons (tC (.int 50)) tNil)))) (tCons (tC (.int 50)) tNil)))))) tNil))) σ H a .batch (fun l => 1 ≤ l.batch ∧ l.batch ≤ 50) := fun H1 e1 Q q =>
  ⟨_, hs, cons1_raw (lst_raw (cons_raw ev_c fun H2 e2 => cons_raw ev_c fun H3 e3 => cons_raw ev_c fun H4 e4 => cons_rw (op_raw (ev_raw ev_c fun H5 e5 => dr (n := 50) (ea_cons (ev_var hs) (ea_cons (ev_is ev_c rfl) ea_nil)) (((((hp.ex e1).ex e2).ex e3).ex e4).ex e5) (by omega) (by omega) fun H6 j x6 p6 hj => rv_I0 H6 (Ex.refl _) _ fun H7 e7 => cons_raw ev_c fun H8 e8 => ⟨(by show 5 ≤ sizeLine; decide), fun p hp8 => by
    have x18 : ExB a H1 H8 := ((((((ExB.of e2).trans (ExB.of e3)).trans (ExB.of e4)).trans (ExB.of e5)).trans x6).trans (ExB.of e7)).trans (ExB.of e8)
    have p8 := (p6.ex e7).ex e8
    refine ⟨a, p, _, rfl, p8.ex (Ex.new hp8), p8.ne hp8, upd_same, (by show 1 ≤ 5; omega), (by show 5 ≤ 1000; omega), fun H9 v x9 p9 hv => ?_⟩
    have x19 := (x18.trans (ExB.of (Ex.new hp8))).trans x9
    have go : ∃ n : Nat, v = nV n ∧ 1 ≤ n ∧ n ≤ 50 := by
      simp only [List.mem_cons, List.not_mem_nil, or_false] at hv
      rcases hv with rfl | rfl | rfl | rfl | rfl
      · exact ⟨1, rfl, by omega, by omega⟩
      · exact ⟨1, rfl, by omega, by omega⟩
      · exact ⟨2, rfl, by omega, by omega⟩
      · exact ⟨1 + j, by show V.int _ = V.int _; congr 1, by omega, by omega⟩
      · exact ⟨50, rfl, by omega, by omega⟩
    obtain ⟨n, rfl, n1, n2⟩ := go
    exact q H9 (nV n) ⟨[], [], [], [], .undo, true, [], n, true⟩ x19 p9 rfl ⟨n1, n2⟩⟩))))⟩
theorem ok_Lany (T : Txt K mg w) (G_Lpick : FnG P w K mg base CX0 2 T.f_Lpick T.fd_Lpick ["_law_pot_here", "_law_some"] sp_Lpick) (G_Ldraw : FnG P w K mg base CX0 1 T.f_Ldraw T.fd_Ldraw ["_law_pot_here", "_law_sides"] MyT.sp_Ldraw) (G_Ltakes : FnG P w K mg base CX0 3 T.f_Ltakes T.fd_Ltakes ["_law_amount"] (sp_Ltakes K)) (G_Lgives : FnG P w K mg base CX0 3 T.f_Lgives T.fd_Lgives [] (sp_Lgives K)) (G_Lmoves : FnG P w K mg base CX0 3 T.f_Lmoves T.fd_Lmoves ["_law_is_shared"] (sp_Lmoves K)) (G_Llifts : FnG P w K mg base CX0 1 T.f_Llifts T.fd_Llifts [] (sp_Llifts K)) : FnG P w K mg base CX0 4 T.f_Lany T.fd_Lany ["_law_pot_here"] (sp_Lany K) := by
  skip
  refine okG T.F_Lany sc_Lany (fun vs H Q E h => ?_) (fun cdv A outer s H vs Q E gd hr h => ?_)
  · obtain ⟨_, rfl, _⟩ := h
    all_goals rfl
  · obtain ⟨a, rfl, hp, q⟩ := h
    refine ⟨_, (pss_cons (ps_set (i := 1) sc_Lany.nd rfl (Or.inl rfl) (pe_disp (pps_cons pe_str (pc gd G_Lpick (hr.mono (by decide)) (by rfl) T.m_Lpick T.F_Lpick.kp T.b_Lpick .nil pass0 (pa_cons (pv 0) (pa_cons (pe_lst (pa_cons pe_str (pa_cons pe_str (pa_cons pe_str pa_nil)))) pa_nil))) (pps_cons pe_str (pe_cmpR op_eq (pc gd G_Ldraw (hr.mono (by decide)) (by rfl) T.m_Ldraw T.F_Ldraw.kp T.b_Ldraw .nil pass0 (pa_cons (pv 0) (pa_cons pe_int pa_nil))) pe_int (nomark _)) pps_nil)) rfl rfl (by simp) (by simp))) (pss_cons (ps_dput (hu_of hr) (pv 1) pe_str (pc gd G_Lpick (hr.mono (by decide)) (by rfl) T.m_Lpick T.F_Lpick.kp T.b_Lpick .nil pass0 (pa_cons (pv 0) (pa_cons (pe_lst (pa_cons pe_int (pa_cons pe_int (pa_cons pe_int (pa_cons (pe_op op_add pe_int (pc gd G_Ldraw (hr.mono (by decide)) (by rfl) T.m_Ldraw T.F_Ldraw.kp T.b_Ldraw .nil pass0 (pa_cons (pv 0) (pa_cons pe_int pa_nil)))) (pa_cons pe_int pa_nil)))))) pa_nil))) rfl) (pss_cons (ps_dput (hu_of hr) (pv 1) pe_str (pe_cmpR op_eq (pc gd G_Ldraw (hr.mono (by decide)) (by rfl) T.m_Ldraw T.F_Ldraw.kp T.b_Ldraw .nil pass0 (pa_cons (pv 0) (pa_cons pe_int pa_nil))) pe_int (nomark _)) rfl) (pss_cons (ps_dput (hu_of hr) (pv 1) pe_str (pe_callTy call_tuple_of (by rfl) T.z_tuple (by decide +kernel) (pa_cons (pe_lc (own := [("_law_sort", 2)]) (g := gName 2) rfl sc_Lany.nd (pi_list (pe_lst (pa_cons pe_str (pa_cons pe_str (pa_cons pe_str (pa_cons pe_str pa_nil)))))) (blkOk_by (N := N_Lany) (sc := defScope s_Lany) (by decide +kernel)) (fun _ _ _ _ _ => (pg_name (i := 2) sc_Lany.nd rfl (Or.inl rfl) (Or.inr rfl))) (fun _ _ _ _ _ => pts_one (pt_cmpR op_eq (pc gd G_Ldraw (hr.mono (by decide)) (by rfl) T.m_Ldraw T.F_Ldraw.kp T.b_Ldraw .nil pass0 (pa_cons (pv 0) (pa_cons pe_int pa_nil))) pe_int (nomark _))) (fun _ _ _ _ _ => (pv 2))) pa_nil)) rfl) (pss_cons (ps_dput (hu_of hr) (pv 1) pe_str (pc gd G_Lpick (hr.mono (by decide)) (by rfl) T.m_Lpick T.F_Lpick.kp T.b_Lpick .nil pass0 (pa_cons (pv 0) (pa_cons (pc gd G_Ltakes (hr.mono (by decide)) (by rfl) T.m_Ltakes T.F_Ltakes.kp T.b_Ltakes .nil pass0 (pa_cons (pe_dget (hu_of hr) (pv 1) pe_str (fun _ _ => rfl)) pa_nil)) pa_nil))) rfl) (pss_cons (ps_dput (hu_of hr) (pv 1) pe_str (pc gd G_Lpick (hr.mono (by decide)) (by rfl) T.m_Lpick T.F_Lpick.kp T.b_Lpick .nil pass0 (pa_cons (pv 0) (pa_cons (pc0 gd G_Lgives (hr.mono (by decide)) (by rfl) T.m_Lgives T.F_Lgives.kp T.b_Lgives .nil pass0) pa_nil))) rfl) (pss_cons (ps_dput (hu_of hr) (pv 1) pe_str (pc gd G_Lpick (hr.mono (by decide)) (by rfl) T.m_Lpick T.F_Lpick.kp T.b_Lpick .nil pass0 (pa_cons (pv 0) (pa_cons (pc gd G_Lmoves (hr.mono (by decide)) (by rfl) T.m_Lmoves T.F_Lmoves.kp T.b_Lmoves .nil pass0 (pa_cons (pe_dget (hu_of hr) (pv 1) pe_str (fun _ _ => rfl)) pa_nil)) pa_nil))) rfl) (pss_cons (ps_dput (hu_of hr) (pv 1) pe_str (pc gd G_Lpick (hr.mono (by decide)) (by rfl) T.m_Lpick T.F_Lpick.kp T.b_Lpick .nil pass0 (pa_cons (pv 0) (pa_cons (pc0 gd G_Llifts (hr.mono (by decide)) (by rfl) T.m_Llifts T.F_Llifts.kp T.b_Llifts .nil pass0) pa_nil))) rfl) (pss_one (ps_ret (pv 1))))))))))), ?_⟩
    refine q_dispR fun d hd => ?_
    have e0 : Ex H (upd H d (.dK [])) := Ex.new hd
    have nda : d ≠ a := hp.ne hd
    refine ev_raw ev_c fun H1 e1 => pick_list ((hp.ex e0).ex e1) rfl (el_lst (vs := failWs.map wV) (ea_cons (ev_lit (w0 := .undo) rfl) (ea_cons (ev_lit (w0 := .leave) rfl) (ea_cons (ev_lit (w0 := .wait) rfl) ea_nil))) (by show 3 ≤ 100000; omega)) (by decide) (by decide) fun H2 v x2 p2 hv => ?_
    obtain ⟨u, hu, rfl⟩ := fail_mem v hv
    refine ev_raw ev_c fun H3 e3 => draw0 (p2.ex e3) rfl fun H4 b x4 p4 => ?_
    have x04 : ExB a (upd H d (.dK [])) H4 := (((ExB.of e1).trans x2).trans (ExB.of e3)).trans x4
    let f0 : Pt → V := fun p => if p = .fails then wV u else .bl b
    refine ⟨x04 _ _ nda upd_same, kvs [.fails, .shared] f0, rfl, (by show 2 ≤ 15; omega), ?_⟩
    rw [made_kvs f0 (by decide)]
    have st : Sta K a d [.fails, .shared] ⟨[], [], [], [], u, b, [], 1, true⟩ H (upd H4 d (.dK (kvs [.fails, .shared] f0))) := ⟨((ExB.of e0).trans x04).mut hd, p4.exB ExB.set nda.symm, hd, nda, f0, upd_same, fun p hp => by
      simp only [List.mem_cons, List.not_mem_nil, or_false] at hp
      rcases hp with rfl | rfl
      · exact rfl
      · exact rfl⟩
    refine q_part (p := .batch) st rfl (by decide) (by decide) (ep_batch st.p rfl) fun H5 l5 h5 st5 => ?_
    refine q_part (p := .settles) st5 rfl (by decide) (by decide) (ep_bool st5.p rfl (.inr rfl)) fun H6 l6 h6 st6 => ?_
    refine q_part (p := .holds) st6 rfl (by decide) (by decide) (ep_holds (us := kindRows) st6.p (by decide) (fun H0 e0 R hR => (el_lst (vs := kindRows.map wV) (ea_cons (ev_lit (w0 := .take) rfl) (ea_cons (ev_lit (w0 := .give) rfl) (ea_cons (ev_lit (w0 := .move) rfl) (ea_cons (ev_lit (w0 := .lift) rfl) ea_nil)))) (by show 4 ≤ 100000; omega)) H0 (Ex.refl H0) _ fun p H1 hp1 e1 h1 => ⟨p, rfl, ⟨_, sq_of h1⟩, hR _ _ H1 walk_list e1 fun H' x => sq_of (x _ _ ((st6.p.ex e0).ne hp1) h1)⟩) (fun _ => rfl) (fun _ => rfl) (fun _ => rfl)) fun H7 l7 h7 st7 => ?_
    refine q_part (p := .take) st7 rfl (by decide) (by decide) (ep_row st7.p rfl (ers_takes (ev_pI rfl st7.d (by decide))) (takes_ne _) (takes_len _) (.inl rfl)) fun H8 l8 h8 st8 => ?_
    refine q_part (p := .give) st8 rfl (by decide) (by decide) (ep_row st8.p rfl ers_gives gives_ne gives_len (.inr (.inl rfl))) fun H9 l9 h9 st9 => ?_
    refine q_part (p := .move) st9 rfl (by decide) (by decide) (ep_row st9.p rfl (ers_moves (ev_pS rfl st9.d (by decide))) (moves_ne _) (moves_len _) (.inr (.inr (.inl rfl)))) fun H10 l10 h10 st10 => ?_
    refine q_part (p := .lift) st10 rfl (by decide) (by decide) (ep_row st10.p rfl ers_lifts (by decide) (by decide) (.inr (.inr (.inr rfl)))) fun H11 l11 h11 st11 => ?_
    have ok := Ok.mk (r := (((((((Ru.mk [] [] [] [] u b [] 1 true).upd l5 .batch).upd l6 .settles).upd l7 .holds).upd l8 .take).upd l9 .give).upd l10 .move).upd l11 .lift) (take_ok h5.1 h8) (give_ok h9) (move_ok h10) (lift_ok h11) hu h7 h5
    exact s_ret (ev_var rfl) fun Hf ef => q Hf d _ (st11.x.trans (ExB.of ef)) (st11.p.ex ef) hd (st11.d.ex ef) ok
end
end My
namespace My
open PySem PySem.Spec PyProof.Rows L2 GL Evl StX SkE
/-! ### books of rules, rules exchanged -/
def sp_Lbook (K : PySem.W.Frag) (C : Addr) : Sp := fun vs H Q _ => ∃ d ks r, vs = [.ref d] ∧ DictAt K H d ks r ∧ (∀ p, p ∈ ks) ∧ Ok r ∧ ∀ H' b, H b = none → Ex H H' → BookNew K C H H' b r → Q (.ref b) H'
/-- so that it can be read, locked or not -/
def DictR (K : PySem.W.Frag) (H : Hp) (d : Addr) (ks : List Pt) (r : Ru) : Prop := ∃ f : Pt → V, Rd H d (.dK (kvs ks f)) ∧ ∀ p ∈ ks, (r.get p).At K H (f p)
theorem DictAt.r {K : PySem.W.Frag} {H : Hp} {d : Addr} {ks : List Pt} {r : Ru} (h : DictAt K H d ks r) : DictR K H d ks r := by
  obtain ⟨f, h1, h2⟩ := h
  exact ⟨f, .inl h1, h2⟩
theorem rd_ex {H H' : Hp} {d : Addr} {u : HO} (h : Rd H d u) (e : Ex H H') : Rd H' d u := by
  rcases h with h | ⟨o, h⟩
  · exact .inl (e _ _ h)
  · exact .inr ⟨o, e _ _ h⟩
theorem DictR.ex {K : PySem.W.Frag} {H H' : Hp} {d : Addr} {ks : List Pt} {r : Ru} (h : DictR K H d ks r) (e : Ex H H') : DictR K H' d ks r := by
  obtain ⟨f, h1, h2⟩ := h
  exact ⟨f, rd_ex h1 e, fun p hp => (h2 p hp).ex e⟩
section
variable {P : Program} {w : World} {K : PySem.W.Frag} {mg : Str → Option Value} {base : Heap} {C : Addr} {H H' H0 H1 : Hp} {σ : L2.St} {te tb ta tc : TE} {tt : TT} {tA : TA} {E Er : XK} {D : Ends} {tz : TS} {a b d : Addr} {us : Rw} {xs ys : List V} {rs qs : List Rw} {ks : List Pt} {r l : Ru} {p : Pt} {v : V} {Q : VK}
theorem ev_getK {tk : TE} {p : Pt} {f : Pt → V} (h : Ev te σ H (.ref d)) (hk : Ev tk σ H (.str p.s)) (hd : H d = some (.dK (kvs ks f))) (hp : p ∈ ks) : Ev (tDGet te tk) σ H (f p) := fun H1 e1 Q q => h H1 e1 _ fun H2 e2 => hk H2 (e1.trans e2) _ fun H3 e3 =>
  ⟨d, f p, rfl, .inl ⟨kvs ks f, .inr p.s, .inl (e3 _ _ (e2 _ _ (e1 _ _ hd))), rfl, (val_at hp).symm⟩, q H3 (e2.trans e3)⟩
theorem ok_Lbook (T : Txt K mg w) (G_Binit : FnG P w K mg base CX0 7 T.f_Binit T.fd_Binit ["self", "take", "give", "move", "lift", "fails", "shared", "holds", "batch", "settles"] (sp_Binit K T.C)) : FnG P w K mg base CX0 9 T.f_Lbook T.fd_Lbook ["_law_rules"] (sp_Lbook K T.C) := by
  skip
  refine okG T.F_Lbook sc_Lbook (fun vs H Q E h => ?_) (fun cdv A outer s H vs Q E gd hr h => ?_)
  · obtain ⟨_, _, _, rfl, _⟩ := h
    all_goals rfl
  · obtain ⟨d, ks, r, rfl, ⟨f, hf, hv⟩, hk, ok, q⟩ := h
    refine ⟨_, (pss_one (ps_ret (pkK gd T.mk_Book G_Binit (hr.mono (by decide)) (by rfl) T.m_Book T.k_Binit pass0 (pk_cons (pe_dget (hu_of hr) (pv 0) pe_str (fun _ _ => rfl)) (pk_cons (pe_dget (hu_of hr) (pv 0) pe_str (fun _ _ => rfl)) (pk_cons (pe_dget (hu_of hr) (pv 0) pe_str (fun _ _ => rfl)) (pk_cons (pe_dget (hu_of hr) (pv 0) pe_str (fun _ _ => rfl)) (pk_cons (pe_dget (hu_of hr) (pv 0) pe_str (fun _ _ => rfl)) (pk_cons (pe_dget (hu_of hr) (pv 0) pe_str (fun _ _ => rfl)) (pk_cons (pe_dget (hu_of hr) (pv 0) pe_str (fun _ _ => rfl)) (pk_cons (pe_dget (hu_of hr) (pv 0) pe_str (fun _ _ => rfl)) (pk_cons (pe_dget (hu_of hr) (pv 0) pe_str (fun _ _ => rfl)) pk_nil)))))))))))), ?_⟩
    have g : ∀ p : Pt, Ev (tDGet (tVar 0) (tC (.str p.s))) [some (.ref d)] H (f p) := fun p => ev_get (ev_var rfl) hf (hk p)
    have hea : EvA (tCons (tDGet (tVar 0) (tC (.str Pt.take.s))) (tCons (tDGet (tVar 0) (tC (.str Pt.give.s))) (tCons (tDGet (tVar 0) (tC (.str Pt.move.s))) (tCons (tDGet (tVar 0) (tC (.str Pt.lift.s))) (tCons (tDGet (tVar 0) (tC (.str Pt.fails.s))) (tCons (tDGet (tVar 0) (tC (.str Pt.shared.s))) (tCons (tDGet (tVar 0) (tC (.str Pt.holds.s))) (tCons (tDGet (tVar 0) (tC (.str Pt.batch.s))) (tCons (tDGet (tVar 0) (tC (.str Pt.settles.s))) tNil))))))))) [some (.ref d)] H (bookKs.map f) := ea_cons (g .take) (ea_cons (g .give) (ea_cons (g .move) (ea_cons (g .lift) (ea_cons (g .fails) (ea_cons (g .shared) (ea_cons (g .holds) (ea_cons (g .batch) (ea_cons (g .settles) ea_nil))))))))
    exact s_retR (hea H (Ex.refl H) _ fun H2 e2 => ⟨rfl, fun x dx hx hdx nd => ⟨H2, x, dx, r, f, rfl, (Ex.new hdx).trans (Ex.new (by rw [upd_ne nd.symm]; exact hx)), hx, upd_same, fun p => (hv p (hk p)).ex e2, ok, fun H' e' hb => ⟨rfl, q H' x (fresh_back e2 hx) (e2.trans e') (hb.old e2)⟩⟩⟩)
abbrev pV (p : Pt) : V := .str p.s
theorem anyKs_mem (p : Pt) : p ∈ anyKs := by cases p <;> decide
theorem ev_lp {x : Str} {p : Pt} (e : x = p.s) : Ev (tC (.str x)) σ H (pV p) := ev_is ev_c (congrArg V.str e)
end
end My
namespace My
open PySem PySem.Spec PyProof.Rows L2 GL Evl StX SkE
/-! ### rules beside rules -/
section
variable {P : Program} {w : World} {K : PySem.W.Frag} {mg : Str → Option Value} {base : Heap} {C : Addr} {H H' H0 H1 : Hp} {σ : L2.St} {te tb ta tc : TE} {tt : TT} {tA : TA} {E Er : XK} {D : Ends} {tz : TS} {a b d : Addr} {us : Rw} {xs ys : List V} {rs qs : List Rw} {ks : List Pt} {r l : Ru} {p : Pt} {v : V} {Q : VK}
theorem DictAt.some (h : DictAt K H d ks r) (hb : H b = none) : d ≠ b := fun z => by
  obtain ⟨f, hf, _⟩ := h
  rw [z, hb] at hf
  cases hf
end
end My
namespace My
open PySem PySem.Spec PyProof.Rows L2 GL Evl StX SkE
/-! ### menus of rows, drawn rules -/
section
variable {P : Program} {w : World} {K : PySem.W.Frag} {mg : Str → Option Value} {base : Heap} {C : Addr} {H H' H0 H1 : Hp} {σ : L2.St} {te tb ta tc : TE} {tt : TT} {tA : TA} {E Er : XK} {D : Ends} {tz : TS} {a b d : Addr} {us : Rw} {xs ys : List V} {rs qs : List Rw} {ks : List Pt} {r l : Ru} {p : Pt} {v : V} {Q : VK}
theorem il_raw {R : It → Hp → Prop} (h : te σ H fun x H1 => ∃ a, x = .ref a ∧ (∃ xs, SqL K H1 a xs) ∧ R (Itl K a) H1) : iList K te σ H R := h
end
end My
namespace My
open PySem PySem.Spec PyProof.Rows L2 GL Evl StX SkE
/-! ### drawn rules -/
section
variable {P : Program} {w : World} {K : PySem.W.Frag} {mg : Str → Option Value} {base : Heap} {C : Addr} {H H' H0 H1 : Hp} {σ : L2.St} {te tb ta tc : TE} {tt : TT} {tA : TA} {E Er : XK} {D : Ends} {tz : TS} {a b d : Addr} {us : Rw} {xs ys : List V} {rs qs : List Rw} {ks : List Pt} {r l : Ru} {p : Pt} {v : V} {Q : VK}
theorem if_raw {t : TT} (h : t σ H fun c H1 => if c = true then ta σ H1 Q else tb σ H1 Q) : tIf t ta tb σ H Q := h
theorem RowsAt.take (h : RowsAt K H ys rs) (m : Nat) : RowsAt K H (ys.take m) (rs.take m) := by
  induction h generalizing m with
  | nil =>
    rw [List.take_nil, List.take_nil]
    exact .nil
  | cons h _ ih =>
    cases m with
    | zero => exact .nil
    | succ m => exact .cons h (ih m)
end
end My
namespace My
open PySem PySem.Spec PyProof.Rows L2 GL Evl StX SkE
/-! ### courses -/
/-- asked of nobody: a def in a branch that is never taken -/
def sp_never : Sp := fun _ _ _ _ => False
def cfs (k w g o : V) : List (Str × V) := putF "leaves_out" (.bl false) (putF "old" o (putF "group" g (putF "words" w (putF "kind" k []))))
def CourseAt (C : Addr) (H : Hp) (c : Addr) (k w g o : V) : Prop := ∃ dx, H c = some (.ins C dx (cfs k w g o))
section
variable {P : Program} {w : World} {K : PySem.W.Frag} {mg : Str → Option Value} {base : Heap} {C : Addr} {H H' H0 H1 : Hp} {σ : L2.St} {te tb ta tc : TE} {tt : TT} {tA : TA} {E Er : XK} {D : Ends} {tz : TS} {a b d : Addr} {us : Rw} {xs ys : List V} {rs qs : List Rw} {ks : List Pt} {r l : Ru} {p : Pt} {v : V} {Q : VK}
theorem q_fldV {f : Str} {p dx : Addr} {fs : List (Str × V)} (h : Ev te σ H v) (ho : Ev tb σ H (.ref p)) (hp : H p = some (.ins C dx fs)) (c : Cls K C) (n : NoAttr K C f) (hl : fs.length < 1000)
    (k : ∀ H1, Ex H H1 → H1 p = some (.ins C dx fs) → tz D σ (upd H1 p (.ins C dx (putF f v fs)))) : tSeq (sFld K tb te f) tz D σ H :=
  h H (Ex.refl H) _ fun H1 e1 => ho H1 e1 _ fun H2 e2 => ⟨p, C, dx, fs, rfl, e2 _ _ (e1 _ _ hp), c, n, hl, k H2 (e1.trans e2) (e2 _ _ (e1 _ _ hp))⟩
theorem s_fldV {f : Str} {p dx : Addr} {fs : List (Str × V)} (h : Ev te σ H v) (ho : Ev tb σ H (.ref p)) (hp : H p = some (.ins C dx fs)) (c : Cls K C) (n : NoAttr K C f) (hl : fs.length < 1000)
    (k : ∀ H1, Ex H H1 → H1 p = some (.ins C dx fs) → D.nx σ (upd H1 p (.ins C dx (putF f v fs)))) : sFld K tb te f D σ H :=
  h H (Ex.refl H) _ fun H1 e1 => ho H1 e1 _ fun H2 e2 => ⟨p, C, dx, fs, rfl, e2 _ _ (e1 _ _ hp), c, n, hl, k H2 (e1.trans e2) (e2 _ _ (e1 _ _ hp))⟩
/-- the promise that is never asked -/
theorem CourseAt.ex {c : Addr} {k w g o : V} (h : CourseAt C H c k w g o) (e : Ex H H') : CourseAt C H' c k w g o := by
  obtain ⟨dx, h⟩ := h
  exact ⟨dx, e _ _ h⟩
def wayWs : Rw := [.look, .add, .tri, .off]
/-- the course of a take to a group (kd), or of a give from a home -/
def CrsAt (C : Addr) (H : Hp) (c : Addr) (kd : Bool) (w0 : V) (g : Nat) : Prop := CourseAt C H c (.str (if kd then Pt.take.s else Pt.give.s)) w0 (if kd then nV g else .non) (if kd then .non else nV g)
end
end My
namespace My
open PySem PySem.Spec PyProof.Rows L2 GL Evl StX SkE
/-! ### single deeds -/
/-- a loop whose turns do anything -/
theorem outer_it {J : It} {n : Nat} {G : Hp → Prop} {Y : Nat → Hp → V → Hp → Prop} (w : Walk J n G Y) (Pv : Nat → Hp → Prop) {H0 : Hp} {Qd : Hp → Prop} {B : (Hp → Prop) → V → Hp → Prop} (h0 : Pv 0 H0) (hG : ∀ i H, i ≤ n → Pv i H → G H) (hs : ∀ i x H H', i < n → Pv i H → Y i H x H' → B (Pv (i + 1)) x H') (hd : ∀ H, Pv n H → Qd H) :
    ∃ W : Nat → Nat → Hp → Prop, (∃ m, W 0 m H0) ∧ ∀ i m H, W i m H → (J.stop i H ∧ Qd H) ∨ (J.go i H ∧ ∃ Nx : Hp → Prop, (∀ H', Nx H' → ∃ m', m' < m ∧ W (i + 1) m' H') ∧ ∀ x H', J.yld i H x H' → B Nx x H') := by
  refine ⟨fun i m H => m = n - i ∧ i ≤ n ∧ Pv i H, ⟨n, by simp, Nat.zero_le _, h0⟩, ?_⟩
  rintro i m H ⟨rfl, hi, p⟩
  have q := hG i H hi p
  by_cases hlt : i < n
  · exact .inr ⟨w.goes i H hlt q, Pv (i + 1), fun H' p' => ⟨n - (i + 1), by omega, rfl, hlt, p'⟩, fun x H' y => hs i x H H' hlt p (w.yields i H x H' hlt q y)⟩
  · have e : i = n := by omega
    subst e
    exact .inl ⟨w.stops H q, hd H p⟩
inductive PrsAt (H : Hp) : List V → List (Wd × V) → Prop where
  | nil : PrsAt H [] []
  | cons {a : Addr} {o : Obj} {x : Wd} {v : V} {ys : List V} {ds : List (Wd × V)} (h : H a = some (.frz o (.tup [wV x, v]))) (t : PrsAt H ys ds) : PrsAt H (.ref a :: ys) ((x, v) :: ds)
theorem PrsAt.ex {H H' : Hp} {ys : List V} {ds : List (Wd × V)} (h : PrsAt H ys ds) (e : Ex H H') : PrsAt H' ys ds := by
  induction h with
  | nil => exact .nil
  | cons h _ ih => exact .cons (e _ _ h) ih
theorem PrsAt.exL {H H' : Hp} {a : Addr} {xs ys : List V} {ds : List (Wd × V)} (h : PrsAt H ys ds) (e : ExB a H H') (ha : H a = some (.lst xs)) : PrsAt H' ys ds := by
  induction h with
  | nil => exact .nil
  | @cons b o x v ys ds h _ ih => exact .cons (e _ _ (fun z => by rw [z, ha] at h; cases h) h) ih
theorem PrsAt.len {H : Hp} {ys : List V} {ds : List (Wd × V)} (h : PrsAt H ys ds) : ys.length = ds.length := by
  induction h with
  | nil => rfl
  | cons _ _ ih => rw [List.length_cons, List.length_cons, ih]
theorem PrsAt.app {H : Hp} {ys zs : List V} {ds es : List (Wd × V)} (h : PrsAt H ys ds) (h2 : PrsAt H zs es) : PrsAt H (ys ++ zs) (ds ++ es) := by
  induction h with
  | nil => exact h2
  | cons h _ ih => exact .cons h ih
theorem CrsAt.ex {C : Addr} {H H' : Hp} {c : Addr} {kd : Bool} {w0 : V} {g : Nat} (h : CrsAt C H c kd w0 g) (e : Ex H H') : CrsAt C H' c kd w0 g := by
  obtain ⟨dx, h⟩ := h
  exact ⟨dx, e _ _ h⟩
section
variable {P : Program} {w : World} {K : PySem.W.Frag} {mg : Str → Option Value} {base : Heap} {C : Addr} {H H' H0 H1 : Hp} {σ : L2.St} {te tb ta tc : TE} {tt : TT} {tA : TA} {E Er : XK} {D : Ends} {tz : TS} {a b d : Addr} {us : Rw} {xs ys : List V} {rs qs : List Rw} {ks : List Pt} {r l : Ru} {p : Pt} {v : V} {Q : VK}
theorem it_raw {R : It → Hp → Prop} (h : te σ H fun x H1 => ∃ a, x = .ref a ∧ (∃ xs, SqT K H1 a xs) ∧ R (Itt K a) H1) : iTup K te σ H R := h
end
end My
namespace My
open PySem PySem.Spec PyProof.Rows L2 GL Evl StX SkE
/-! ### plans -/
def sp_ckind : Sp := fun vs H Q _ => ∃ k : Wd, vs = [wV k] ∧ k ∈ kindRows ∧ RetV .non H Q
def sp_Brow (K : PySem.W.Frag) (C : Addr) : Sp := fun vs H Q _ => ∃ b r p, vs = [.ref b, pV p] ∧ p ∈ rowPs ∧ BookAt K C H b r ∧ ∀ H' a, Ex H H' → RowX K H' a (rowPt p r) → Q (.ref a) H'
section
variable {P : Program} {w : World} {K : PySem.W.Frag} {mg : Str → Option Value} {base : Heap} {C : Addr} {H H' H0 H1 : Hp} {σ : L2.St} {te tb ta tc : TE} {tt : TT} {tA : TA} {E Er : XK} {D : Ends} {tz : TS} {a b d : Addr} {us : Rw} {xs ys : List V} {rs qs : List Rw} {ks : List Pt} {r l : Ru} {p : Pt} {v : V} {Q : VK}
theorem tmake_raw {sp : Sp} {dvs : List V} {Er : XK} (h : tA σ H fun vs H2 => ∀ x dx, H2 x = none → H2 dx = none → dx ≠ x → sp (.ref x :: (vs ++ dvs)) (upd (upd H2 dx (.own x)) x (.ins C dx [])) (fun v H3 => v = .non ∧ Q (.ref x) H3) Er) : tMake C sp dvs Er tA σ H Q := h
theorem take_words {us : Rw} (h : pTake us = true) : ∀ x ∈ us, x ∈ wayWs → decide (x = .off) = !true := fun x hx _ => by
  have hw : x ∈ ([.live, .tri, .add, .look] : Rw) := by
    unfold pTake pW at h
    simp only [Bool.and_eq_true] at h
    exact of_decide_eq_true (List.all_eq_true.mp h.1.1 x hx)
  cases x <;> first | rfl | exact absurd hw (by decide)
theorem give_words {us : Rw} (h : pGive us = true) : ∀ x ∈ us, x ∈ wayWs → decide (x = .off) = !false := fun x hx hy => by
  have hw : x ∈ ([.fin, .home, .off] : Rw) := by
    unfold pGive pW at h
    simp only [Bool.and_eq_true] at h
    exact of_decide_eq_true (List.all_eq_true.mp h.1.1 x hx)
  cases x <;> first | rfl | exact absurd hw (by decide) | exact absurd hy (by decide)
theorem ok_check_row_kind (T : Txt K mg w) (G_is_word : FnG P w K mg base CX0 1 T.f_is_word T.fd_is_word ["value", "words"] (sp_isword K)) : FnG P w K mg base CX0 2 T.f_check_row_kind T.fd_check_row_kind ["value"] sp_ckind := by
  skip
  refine okG T.F_check_row_kind sc_check_row_kind (fun vs H Q E h => ?_) (fun cdv A outer s H vs Q E gd hr h => ?_)
  · obtain ⟨_, rfl, _⟩ := h
    all_goals rfl
  · obtain ⟨k, rfl, hk, q⟩ := h
    refine ⟨_, (pss_one (ps_if (pt_not (pt_val (pc gd G_is_word (hr.mono (by decide)) (by rfl) T.m_is_word T.F_is_word.kp T.b_is_word .nil pass0 (pa_cons (pv 0) (pa_cons (pe_glob (v := .ref T.g_ROW_KINDS) (by rfl) T.m_ROW_KINDS rfl) pa_nil))))) (pss_one ps_never) pss_nil)), ?_⟩
    exact s_when (b := false) (et_not (et_B (ev_is (ev_call (ea_cons (ev_var rfl) (ea_cons ev_c ea_nil)) (show SpV (sp_isword K) [wV k, .ref T.g_ROW_KINDS] H (.bl (decide (k ∈ kindRows))) from fun _ e _ q _ => ⟨k, _, kindRows, rfl, T.s_ROW_KINDS _, q⟩)) (cbl (decide_eq_true hk))))) (fun z => nomatch z) fun _ H1 e1 => q H1 e1
theorem ok_Brow (T : Txt K mg w) (G_check_row_kind : FnG P w K mg base CX0 2 T.f_check_row_kind T.fd_check_row_kind ["value"] sp_ckind) : FnG P w K mg base CX0 3 T.f_Brow T.fd_Brow ["self", "kind"] (sp_Brow K T.C) := by
  skip
  refine okG T.F_Brow sc_Brow (fun vs H Q E h => ?_) (fun cdv A outer s H vs Q E gd hr h => ?_)
  · obtain ⟨_, _, _, rfl, _⟩ := h
    all_goals rfl
  · obtain ⟨b, r, p, rfl, hp, ⟨dx, d, pb⟩, q⟩ := h
    refine ⟨_, (pss_cons (ps_expr (pc gd G_check_row_kind (hr.mono (by decide)) (by rfl) T.m_check_row_kind T.F_check_row_kind.kp T.b_check_row_kind .nil pass0 (pa_cons (pv 1) pa_nil))) (pss_one (ps_ret (pe_dget (hu_of hr) (pe_fld (pv 0) rfl) (pv 1) (fun _ _ => rfl))))), ?_⟩
    obtain ⟨k, hk, ek⟩ : ∃ k, k ∈ kindRows ∧ pV p = wV k := by
      simp only [rowPs, List.mem_cons, List.not_mem_nil, or_false] at hp
      rcases hp with rfl | rfl | rfl | rfl
      · exact ⟨.take, by decide, rfl⟩
      · exact ⟨.give, by decide, rfl⟩
      · exact ⟨.move, by decide, rfl⟩
      · exact ⟨.lift, by decide, rfl⟩
    refine q_dropR ⟨_, rfl, k, by rw [ek]; rfl, hk, fun H1 e1 => ?_⟩
    obtain ⟨f, hf, hfv⟩ := pb.di.ex e1
    have e2 : ∃ a, f p = .ref a ∧ RowX K H1 a (rowPt p r) := by
      have h := hfv p (bookKs_mem p)
      simp only [rowPs, List.mem_cons, List.not_mem_nil, or_false] at hp
      rcases hp with rfl | rfl | rfl | rfl <;> exact h
    obtain ⟨a, ha, rx⟩ := e2
    exact s_ret (ev_is (ev_getK (ev_fld (ev_var (v := .ref b) rfl) (e1 _ _ pb.ob) T.c_Book T.n_parts (bf_parts d)) (ev_var rfl) hf (bookKs_mem p)) ha) fun H2 e2 => q H2 a (e1.trans e2) (rx.ex e2)
end
end My
namespace My
open PySem PySem.Spec PyProof.Rows L2 GL Evl StX SkE
/-! ### the law's own plans -/
end My
namespace My
open PySem PySem.Spec PyProof.Rows L2 GL Evl StX SkE
/-! ### groups that are struck, from the last one down -/
structure StTo (ps st : List Nat) (m : Nat) : Prop where
  nd : st.Nodup
  bd : ∀ g ∈ st, m < g ∧ g ≤ ps.length
  cl : ∀ c, 1 ≤ c → c ≤ ps.length → up ps c ∈ st → c ∈ st
theorem StTo.ok {ps st : List Nat} (h : StTo ps st 0) : MyT.StOk ps st := ⟨h.nd, fun g hg => ⟨(h.bd g hg).1, (h.bd g hg).2⟩, h.cl⟩
theorem StTo.len {ps st : List Nat} {m : Nat} (h : StTo ps st m) : st.length ≤ ps.length := (show MyT.StOk ps st from ⟨h.nd, fun g hg => ⟨by have := (h.bd g hg).1; omega, (h.bd g hg).2⟩, h.cl⟩).len
end My
namespace My
open PySem PySem.Spec PyProof.Rows L2 GL Evl StX SkE
/-! ### plans as data -/
def dPr (x : Wd × V) : PyData := .tuple [dW x.1, fd x.2]
def dPl (ds : List (Wd × V)) : PyData := .list (ds.map dPr)
theorem PrsAt.dp {K : PySem.W.Frag} {H : Hp} {ys : List V} {ds : List (Wd × V)} (h : PrsAt H ys ds) (hf : ∀ d ∈ ds, flatV d.2 = true) : DpAll K H ys (ds.map dPr) := by
  induction h with
  | nil => exact .nil
  | @cons a o x v ys ds h _ ih => exact .cons (.tup (.inl (.inr ⟨_, h⟩)) (.cons (.str x.s) (.cons (fd_dp (hf _ List.mem_cons_self)) .nil))) (ih fun d hd => hf d (List.mem_cons_of_mem _ hd))
theorem shrt_non : Shrt .non := by
  refine ⟨rfl, ?_, ?_, ?_, ?_⟩
  · show PyData.none.showable = true
    simp only [PyData.showable]
  · show PyData.none.hasDict = false
    simp only [PyData.hasDict]
  · show PyData.none.depth ≤ 0
    simp only [PyData.depth]
    omega
  · show PyData.none.shown.length ≤ 40
    decide +kernel
theorem sm_pr {x : Wd × V} (h : Shrt x.2) : Sm (dPr x) 1 87 := by
  have ha : ∀ d ∈ [dW x.1, fd x.2], Sm d 0 40 := fun d hd => by
    rcases List.mem_cons.mp hd with rfl | hd
    · refine ⟨?_, ?_, ?_, Nat.le_trans (w_text _) (by omega)⟩
      · show (PyData.str x.1.s).showable = true
        simp only [PyData.showable]
      · show (PyData.str x.1.s).hasDict = false
        simp only [PyData.hasDict]
      · show (PyData.str x.1.s).depth ≤ 0
        simp only [PyData.depth]
        omega
    · rw [List.mem_singleton.mp hd]
      exact h.sm
  refine ⟨?_, ?_, ?_, ?_⟩
  · show (PyData.tuple [dW x.1, fd x.2]).showable = true
    simp only [PyData.showable]
    exact showableAll_of fun d hd => (ha d hd).sh
  · show (PyData.tuple [dW x.1, fd x.2]).hasDict = false
    simp only [PyData.hasDict]
    exact hasDictAll_of fun d hd => (ha d hd).nd
  · show (PyData.tuple [dW x.1, fd x.2]).depth ≤ 1
    simp only [PyData.depth]
    have := depthAll_of (ds := [dW x.1, fd x.2]) (k := 0) fun d hd => (ha d hd).de
    omega
  · show (PyData.tuple [dW x.1, fd x.2]).shown.length ≤ 87
    simp only [PyData.shown]
    have := tuple_text_len (B := 40) (ts := PyData.shownAll [dW x.1, fd x.2]) fun t ht => by
      obtain ⟨d, hd, rfl⟩ := shownAll_mem ht
      exact (ha d hd).ln
    rw [shownAll_len] at this
    exact this
theorem sm_pl {ds : List (Wd × V)} (h : ∀ d ∈ ds, Shrt d.2) (hl : ds.length ≤ 6000) : Sm (dPl ds) 2 534002 := by
  have q := sm_list (ds := ds.map dPr) (k := 1) (B := 87) fun d hd => by
    obtain ⟨x, hx, rfl⟩ := List.mem_map.mp hd
    exact sm_pr (h x hx)
  rw [List.length_map] at q
  exact q.mono (Nat.le_refl _) (by omega)
/-- two lists of plans -/
def dTwo (ds es : List (Wd × V)) : PyData := .list [dPl ds, dPl es]
/-- at p a list of two lists of deeds -/
structure TwoAt (H : Hp) (p p1 p2 : Addr) (ds es : List (Wd × V)) : Prop where
  n1 : p ≠ p1
  n2 : p ≠ p2
  n12 : p1 ≠ p2
  pp : H p = some (.lst [.ref p1, .ref p2])
  a1 : ∃ ys, H p1 = some (.lst ys) ∧ PrsAt H ys ds
  a2 : ∃ ys, H p2 = some (.lst ys) ∧ PrsAt H ys es
theorem TwoAt.ex {H H' : Hp} {p p1 p2 : Addr} {ds es : List (Wd × V)} (h : TwoAt H p p1 p2 ds es) (e : Ex H H') : TwoAt H' p p1 p2 ds es := by
  obtain ⟨n1, n2, n12, pp, ⟨ys, a1, b1⟩, ⟨zs, a2, b2⟩⟩ := h
  exact ⟨n1, n2, n12, e _ _ pp, ⟨ys, e _ _ a1, b1.ex e⟩, ⟨zs, e _ _ a2, b2.ex e⟩⟩
theorem TwoAt.dp {K : PySem.W.Frag} {H : Hp} {p p1 p2 : Addr} {ds es : List (Wd × V)} (h : TwoAt H p p1 p2 ds es) (h1 : ∀ d ∈ ds, Shrt d.2) (h2 : ∀ d ∈ es, Shrt d.2) : Dp K H (.ref p) (dTwo ds es) := by
  obtain ⟨n1, n2, n12, pp, ⟨ys, a1, b1⟩, ⟨zs, a2, b2⟩⟩ := h
  exact .lst (sq_of pp) (.cons (.lst (sq_of a1) (b1.dp fun d hd => (h1 d hd).1)) (.cons (.lst (sq_of a2) (b2.dp fun d hd => (h2 d hd).1)) .nil))
end My
namespace My
open PySem PySem.Spec PyProof.Rows L2 GL Evl StX SkE
/-! ### dicts of rules, made of pairs; updates by draws -/
abbrev Ent := Pt × V × Ru
/-- pairs: tuples of a name and a value -/
inductive PwAt (K : PySem.W.Frag) (H : Hp) : List V → List Ent → Prop where
  | nil : PwAt K H [] []
  | cons {t : Addr} {z : Ent} {xs : List V} {ws : List Ent} (h : SqT K H t [.str z.1.s, z.2.1]) (hv : (z.2.2.get z.1).At K H z.2.1) (hr : PwAt K H xs ws) : PwAt K H (.ref t :: xs) (z :: ws)
section
variable {P : Program} {w : World} {K : PySem.W.Frag} {mg : Str → Option Value} {base : Heap} {C : Addr} {H H' H0 H1 : Hp} {σ : L2.St} {te tb ta tc tl : TE} {tt : TT} {tA : TA} {E Er : XK} {D : Ends} {tz : TS} {a b d : Addr} {us : Rw} {xs ys : List V} {rs qs : List Rw} {ks : List Pt} {r l : Ru} {p : Pt} {v : V} {Q : VK} {ws : List Ent}
theorem PwAt.exB (h : PwAt K H xs ws) (e : ExB a H H') (n : PotAt H a) : PwAt K H' xs ws := by
  have nt := n.nt
  induction h with
  | nil => exact .nil
  | @cons t z xs ws h hv hr ih =>
    refine .cons ?_ (hv.exB e nt) ih
    rcases h with (h | ⟨o, h⟩) | h
    · exact .inl (.inl (e _ _ (fun q => Bool.noConfusion (nt _ (q ▸ h))) h))
    · exact .inl (.inr ⟨o, e _ _ (fun q => Bool.noConfusion (nt _ (q ▸ h))) h⟩)
    · exact .inr h
theorem EvPt.exB {X : Ru → Prop} (h : ∀ H', ExB a H H' → PotAt H' a → EvPt K te σ H' a p X) {H' : Hp} (e : ExB a H H') (hp : PotAt H' a) : EvPt K te σ H' a p X := h H' e hp
end
end My
namespace My
open PySem PySem.Spec PyProof.Rows L2 GL Evl StX SkE
/-! ### trees beside a pot -/
section
variable {P : Program} {w : World} {K : PySem.W.Frag} {mg : Str → Option Value} {base : Heap} {C CT : Addr} {H H' H0 H1 : Hp} {σ : L2.St} {te tb ta tc tl : TE} {tt : TT} {tA : TA} {E Er : XK} {D : Ends} {tz : TS} {a b d t : Addr} {us : Rw} {xs ys : List V} {rs qs : List Rw} {ks : List Pt} {r l : Ru} {p : Pt} {v : V} {Q : VK} {ps st ps' st' : List Nat}
theorem rc_min2 {i j : Int} : RC (fun xs H Q => ∃ i j, xs = [V.int i, V.int j] ∧ Q (.int (if j < i then j else i)) H) [.int i, .int j] H (.int (if j < i then j else i)) := fun H1 _ Q q => ⟨i, j, rfl, q H1 (Ex.refl H1)⟩
theorem ok_Tapart {α : Prop} (T : Txt K mg w) (_ : α) : FnG P w K mg base CX0 1 T.f_Tapart T.fd_Tapart ["self", "group", "seen"] sp_never := okG T.F_Tapart sc_Tapart (fun _ _ _ _ h => h.elim) (fun _ _ _ _ _ _ _ _ _ _ h => h.elim)
end
end My
namespace My
open PySem PySem.Spec PyProof.Rows L2 GL Evl StX SkE
/-! ### courses of all kinds -/
inductive Kd where
  | take | give | move | lift | settle
deriving DecidableEq
def Kd.s : Kd → Str
  | .take => Pt.take.s | .give => Pt.give.s | .move => Pt.move.s | .lift => Pt.lift.s | .settle => "settle"
def oV : Option Nat → V
  | some n => nV n
  | none => .non
def cgs (k w g o l : V) : List (Str × V) := putF "leaves_out" l (putF "old" o (putF "group" g (putF "words" w (putF "kind" k []))))
def CrsG (C : Addr) (H : Hp) (c : Addr) (k : Kd) (w0 : V) (g o : Option Nat) (lv : Bool) : Prop := ∃ dx, H c = some (.ins C dx (cgs (.str k.s) w0 (oV g) (oV o) (.bl lv)))
def sp_CinitG (C : Addr) : Sp := fun vs H Q _ => ∃ H0 x dx k w g o l, vs = [.ref x, k, w, g, o, l] ∧ Ex H0 H ∧ H0 x = none ∧ H x = some (.ins C dx []) ∧ ∀ H', Ex H0 H' → (∃ dx', H' x = some (.ins C dx' (cgs k w g o l))) → Q .non H'
def wayG (ps : List Nat) (lv : Bool) (b e : Nat) : List Nat := if lv = true then MyT.own ps b e else path ps b
def begG (k : Kd) (g o : Option Nat) (x : Wd) : Option Nat × Option Nat := if x = .off ∧ k ≠ .settle then (o, g) else (g, o)
def grpG (k : Kd) (g o : Option Nat) (lv : Bool) (ps : List Nat) (x : Wd) : List V :=
  if k = .lift then (if x ∈ ([.off, .both] : Rw) then [oV g] else [.non])
  else if x ∈ wayWs then (wayG ps lv ((begG k g o x).1.getD 0) ((begG k g o x).2.getD 0)).map nV else [.non]
def FitG (k : Kd) (g o : Option Nat) (lv : Bool) (ps : List Nat) (x : Wd) : Prop := k ≠ .lift → x ∈ wayWs → (∃ b, (begG k g o x).1 = some b ∧ b ≤ ps.length) ∧ (lv = true → ∃ e, (begG k g o x).2 = some e ∧ e ≤ ps.length)
def sp_CgroupsG (K : PySem.W.Frag) (CC CT : Addr) : Sp := fun vs H Q _ => ∃ c t x k w0 g o lv st, ∃ ps : List Nat, vs = [.ref c, .ref t, wV x] ∧ CrsG CC H c k w0 g o lv ∧ MyT.TreeAt CT H t ps st ∧ Good ps ∧ ps.length ≤ 199 ∧ FitG k g o lv ps x ∧ RetL (grpG k g o lv ps x) H Q
theorem CrsG.ex {C : Addr} {H H' : Hp} {c : Addr} {k : Kd} {w0 : V} {g o : Option Nat} {lv : Bool} (h : CrsG C H c k w0 g o lv) (e : Ex H H') : CrsG C H' c k w0 g o lv := by
  obtain ⟨dx, h⟩ := h
  exact ⟨dx, e _ _ h⟩
section
variable {P : Program} {w : World} {K : PySem.W.Frag} {mg : Str → Option Value} {base : Heap} {C : Addr} {H H' H0 H1 : Hp} {σ : L2.St} {te tb ta tc : TE} {tt : TT} {tA : TA} {E Er : XK} {D : Ends} {tz : TS} {a b d : Addr} {us : Rw} {xs ys : List V} {rs qs : List Rw} {ks : List Pt} {r l : Ru} {p : Pt} {v : V} {Q : VK}
theorem ok_Cinit (T : Txt K mg w)  : FnG P w K mg base CX0 1 T.f_Cinit T.fd_Cinit ["self", "kind", "words", "group", "old", "leaves_out"] (sp_CinitG T.C_Course) := by
  skip
  refine okGD T.F_Cinit sc_Cinit (fun vs H Q E h => ?_) (fun cdv A outer s H vs Q E gd hr h => ?_)
  · obtain ⟨_, _, _, _, _, _, _, _, rfl, _⟩ := h
    all_goals rfl
  · obtain ⟨H0, x, dx, k, w0, g, o, l, rfl, e0, hx0, hx, q⟩ := h
    refine ⟨_, (pss_cons (ps_fld (pv 0) (pv 1) rfl) (pss_cons (ps_fld (pv 0) (pv 2) rfl) (pss_cons (ps_fld (pv 0) (pv 3) rfl) (pss_cons (ps_fld (pv 0) (pv 4) rfl) (pss_one (ps_fld (pv 0) (pv 5) rfl)))))), ?_⟩
    refine q_fldV (v := k) (ev_var rfl) (ev_var rfl) hx T.c_Course T.nkind (by show 0 < 1000; omega) fun H1 e1 _ => ?_
    refine q_fldV (v := w0) (ev_var rfl) (ev_var rfl) upd_same T.c_Course T.nwords (by show 1 < 1000; omega) fun H2 e2 _ => ?_
    refine q_fldV (v := g) (ev_var rfl) (ev_var rfl) upd_same T.c_Course T.ngroup (by show 2 < 1000; omega) fun H3 e3 _ => ?_
    refine q_fldV (v := o) (ev_var rfl) (ev_var rfl) upd_same T.c_Course T.nold (by show 3 < 1000; omega) fun H4 e4 _ => ?_
    refine s_fldV (v := l) (ev_var rfl) (ev_var rfl) upd_same T.c_Course T.nleaves_out (by show 4 < 1000; omega) fun H5 e5 _ => ?_
    refine q _ (Ex.mut ((Ex.mut ((Ex.mut ((Ex.mut ((Ex.mut (e0.trans e1) hx0).trans e2) hx0).trans e3) hx0).trans e4) hx0).trans e5) hx0) ⟨dx, upd_same⟩
section
variable {k w0 g o l : V}
theorem cg_leaves : (cgs k w0 g o l).lookup ("leaves_out" : Str) = some l := by
  unfold cgs
  rw [lookup_putF, if_pos rfl]
theorem cg_old : (cgs k w0 g o l).lookup ("old" : Str) = some o := by
  unfold cgs
  rw [lookup_putF, if_neg (by decide +kernel), lookup_putF, if_pos rfl]
theorem cg_group : (cgs k w0 g o l).lookup ("group" : Str) = some g := by
  unfold cgs
  rw [lookup_putF, if_neg (by decide +kernel), lookup_putF, if_neg (by decide +kernel), lookup_putF, if_pos rfl]
theorem cg_words : (cgs k w0 g o l).lookup ("words" : Str) = some w0 := by
  unfold cgs
  rw [lookup_putF, if_neg (by decide +kernel), lookup_putF, if_neg (by decide +kernel), lookup_putF, if_neg (by decide +kernel), lookup_putF, if_pos rfl]
theorem cg_kind : (cgs k w0 g o l).lookup ("kind" : Str) = some k := by
  unfold cgs
  rw [lookup_putF, if_neg (by decide +kernel), lookup_putF, if_neg (by decide +kernel), lookup_putF, if_neg (by decide +kernel), lookup_putF, if_neg (by decide +kernel), lookup_putF, if_pos rfl]
theorem cg_no {m : Str} (h : ([("leaves_out" : Str), "old", "group", "words", "kind"].all fun f => !decide (m = f)) = true) : (cgs k w0 g o l).lookup m = none := by
  simp only [List.all_cons, List.all_nil, Bool.and_true, Bool.and_eq_true, Bool.not_eq_true', decide_eq_false_iff_not] at h
  obtain ⟨h1, h2, h3, h4, h5⟩ := h
  unfold cgs
  rw [lookup_putF, if_neg h1, lookup_putF, if_neg h2, lookup_putF, if_neg h3, lookup_putF, if_neg h4, lookup_putF, if_neg h5]
  rfl
end
theorem et_inRG (h1 : Ev ta σ H (wV x)) (h2 : ∀ G, Ex H G → EvR K tb σ G us) : EvT (tTest (tOp (rIn K false) ta tb)) σ H (decide (x ∈ us)) :=
  et_test fun G3 e3 Q2 q2 => op_raw (ev_raw (h1.mono e3) fun G4 e4 => h2 G4 (e3.trans e4) G4 (Ex.refl G4) _ fun t G5 e5 ht => (rv_inW (w := x) ht.sq) G5 (Ex.refl G5) Q2 fun G6 e6 => q2 G6 ((e4.trans e5).trans e6))
theorem kd_eq (k j : Kd) : decide ((V.str k.s) = (V.str j.s)) = decide (k = j) := by
  cases k <;> cases j <;> decide +kernel
theorem wayG_len {lv : Bool} {ps : List Nat} {b e : Nat} (h : Good ps) (hl : ps.length ≤ 199) (hb : b ≤ ps.length) : (wayG ps lv b e).length ≤ 1000 := by
  have lp := path_len h b b (Nat.le_refl _) hb
  unfold wayG
  split
  · have := List.length_filter_le (fun x => !decide (x ∈ path ps e)) (path ps b)
    show ((path ps b).filter _).length ≤ 1000
    omega
  · omega
theorem grpG_len {k : Kd} {g o : Option Nat} {lv : Bool} {ps : List Nat} {x : Wd} (h : Good ps) (hl : ps.length ≤ 199) (hf : FitG k g o lv ps x) : (grpG k g o lv ps x).length ≤ 1000 := by
  unfold grpG
  split
  · split <;> (show 1 ≤ 1000; omega)
  · rename_i hk
    split
    · rename_i hx
      obtain ⟨⟨b, hb, hb2⟩, _⟩ := hf hk hx
      rw [List.length_map, hb]
      exact wayG_len h hl hb2
    · show 1 ≤ 1000
      omega
end
end My
namespace My
open PySem PySem.Spec PyProof.Rows L2 GL Evl StX SkE
/-! ### groups of a word, single deeds, plans: all kinds -/
def deedsX (gr : Wd → List V) (us : Rw) : List (Wd × V) := us.flatMap fun x => (gr x).map fun v => (x, v)
theorem deedsX_len {gr : Wd → List V} : ∀ us : Rw, (∀ x ∈ us, (gr x).length ≤ 1000) → (deedsX gr us).length ≤ us.length * 1000
  | [], _ => Nat.zero_le _
  | u :: us, h => by
    have ih := deedsX_len us fun x hx => h x (List.mem_cons_of_mem _ hx)
    have l := h u List.mem_cons_self
    show (((gr u).map _) ++ deedsX gr us).length ≤ (us.length + 1) * 1000
    rw [List.length_append, List.length_map]
    omega
theorem deedsX_take {gr : Wd → List V} {us : Rw} {u : Wd} {k : Nat} (hu : us[k]? = some u) : deedsX gr (us.take (k + 1)) = deedsX gr (us.take k) ++ (gr u).map fun v => (u, v) := by
  have tk : us.take (k + 1) = us.take k ++ [u] := by
    rw [List.take_add_one, hu]
    rfl
  unfold deedsX
  rw [tk, List.flatMap_append]
  congr 1
  show (List.map _ _ ++ []) = _
  rw [List.append_nil]
theorem deedsX_bound {gr : Wd → List V} {us : Rw} (h6 : us.length ≤ 6) (h : ∀ x ∈ us, (gr x).length ≤ 1000) (k : Nat) : (deedsX gr (us.take k)).length ≤ 6000 := by
  have l1 := deedsX_len (us.take k) fun x hx => h x (List.mem_of_mem_take hx)
  rw [List.length_take] at l1
  have l3 := Nat.mul_le_mul_right 1000 (show min k us.length ≤ 6 by omega)
  omega
def sp_CsingleG (K : PySem.W.Frag) (CC CT : Addr) : Sp := fun vs H Q _ => ∃ c t a k w0 g o lv st us, ∃ ps : List Nat, vs = [.ref c, .ref t, .ref a] ∧ CrsG CC H c k w0 g o lv ∧ MyT.TreeAt CT H t ps st ∧ Good ps ∧ ps.length ≤ 199 ∧ RowX K H a us ∧ us.length ≤ 6 ∧ (∀ x ∈ us, FitG k g o lv ps x) ∧
  ∀ H' p ys, H p = none → Ex H H' → H' p = some (.lst ys) → PrsAt H' ys (deedsX (grpG k g o lv ps) us) → Q (.ref p) H'
def sp_planG (K : PySem.W.Frag) (CC CT : Addr) : Sp := fun vs H Q _ => ∃ c t a k g o lv st us, ∃ ps : List Nat, vs = [.ref c, .ref t] ∧ CrsG CC H c k (.ref a) g o lv ∧ MyT.TreeAt CT H t ps st ∧ Good ps ∧ ps.length ≤ 199 ∧ RowX K H a us ∧ us.length ≤ 6 ∧ (∀ x ∈ us, FitG k g o lv ps x) ∧
  ∀ H' p ys, H p = none → Ex H H' → H' p = some (.lst ys) → PrsAt H' ys (deedsX (grpG k g o lv ps) us) → Q (.ref p) H'
def sp_BpartG (p : Pt) (C : Addr) : Sp := fun vs H Q _ => ∃ b dx d, ∃ f : Pt → V, vs = [.ref b] ∧ H b = some (.ins C dx (bf d)) ∧ H d = some (.dK (kvs bookKs f)) ∧ RetV (f p) H Q
def sp_mcourse (K : PySem.W.Frag) (C CC : Addr) : Sp := fun vs H Q _ => ∃ b r, ∃ g s : Nat, vs = [.ref b, nV g, nV s] ∧ BookAt K C H b r ∧ ∀ H' c a, Ex H H' → CrsG CC H' c .move (.ref a) (some g) (some s) (!r.shared) → RowX K H' a r.move → Q (.ref c) H'
/-- the deeds of a move -/
def mvDeeds (ps : List Nat) (r : Ru) (h t : Nat) : List (Wd × V) := deedsX (grpG .move (some t) (some h) (!r.shared) ps) r.move
def sp_mplan (K : PySem.W.Frag) (C CT : Addr) : Sp := fun vs H Q _ => ∃ b t r h g st, ∃ ps : List Nat, vs = [.ref b, .ref t, nV h, nV g] ∧ BookAt K C H b r ∧ MyT.TreeAt CT H t ps st ∧ Good ps ∧ ps.length ≤ 199 ∧ h ≤ ps.length ∧ g ≤ ps.length ∧ ∀ H' p ys, H p = none → Ex H H' → H' p = some (.lst ys) → PrsAt H' ys (mvDeeds ps r h g) → Q (.ref p) H'
theorem fit_move {ps : List Nat} {h g : Nat} {lv : Bool} (hh : h ≤ ps.length) (hg : g ≤ ps.length) (x : Wd) : FitG .move (some g) (some h) lv ps x := fun _ _ => by
  unfold begG
  split
  · exact ⟨⟨h, rfl, hh⟩, fun _ => ⟨g, rfl, hg⟩⟩
  · exact ⟨⟨g, rfl, hg⟩, fun _ => ⟨h, rfl, hh⟩⟩
section
variable {P : Program} {w : World} {K : PySem.W.Frag} {mg : Str → Option Value} {base : Heap} {C : Addr} {H H' H0 H1 : Hp} {σ : L2.St} {te tb ta tc : TE} {tt : TT} {tA : TA} {E Er : XK} {D : Ends} {tz : TS} {a b d : Addr} {us : Rw} {xs ys : List V} {rs qs : List Rw} {ks : List Pt} {r l : Ru} {p : Pt} {v : V} {Q : VK}
theorem ok_Cgroups (T : Txt K mg w) (G_Tapart : FnG P w K mg base CX0 5 T.f_Tapart T.fd_Tapart ["self", "group", "seen"] (MyT.sp_Tapart T.C_Tree)) (G_Tway : FnG P w K mg base CX0 4 T.f_Tway T.fd_Tway ["self", "group"] (MyT.sp_Tway T.C_Tree)) : FnG P w K mg base CX0 6 T.f_Cgroups T.fd_Cgroups ["self", "tree", "word"] (sp_CgroupsG K T.C_Course T.C_Tree) := by
  skip
  refine okG T.F_Cgroups sc_Cgroups (fun vs H Q E h => ?_) (fun cdv A outer s H vs Q E gd hr h => ?_)
  · obtain ⟨_, _, _, _, _, _, _, _, _, _, rfl, _⟩ := h
    all_goals rfl
  · obtain ⟨c, t, x, k, w0, g, o, lv, st, ps, rfl, ⟨dx, hc⟩, ht, gd1, hl, hf, q⟩ := h
    refine ⟨_, (pss_cons (ps_if (pt_cmpR op_eq (pe_fld (pv 0) rfl) pe_str (nomark _)) (pss_one (ps_ret (pe_ifExp (pt_cmpR op_in_seq (pv 2) (pe_tupX (pa_cons pe_str (pa_cons pe_str pa_nil))) (by rfl)) (pe_lst (pa_cons (pe_fld (pv 0) rfl) pa_nil)) (pe_lst (pa_cons pe_non pa_nil))))) pss_nil) (pss_cons (ps_if (pt_cmpR op_notIn_seq (pv 2) (pe_glob (v := .ref T.g_WAY_WORDS) (by rfl) T.m_WAY_WORDS rfl) (by rfl)) (pss_one (ps_ret (pe_lst (pa_cons pe_non pa_nil)))) pss_nil) (pss_cons (ps_par (i := 3) (j := 4) rfl sc_Cgroups.nd rfl rfl (by decide) rfl rfl (pa_cons (pe_fld (pv 0) rfl) (pa_cons (pe_fld (pv 0) rfl) pa_nil)) (by rfl)) (pss_cons (ps_if ((pw_and (pt_cmpR op_eq (pv 2) pe_str (nomark _)) (pw_and1 (pt_cmpR op_ne (pe_fld (pv 0) rfl) pe_str (nomark _))))).pt (pss_one (ps_par (i := 3) (j := 4) rfl sc_Cgroups.nd rfl rfl (by decide) rfl rfl (pa_cons (pe_fld (pv 0) rfl) (pa_cons (pe_fld (pv 0) rfl) pa_nil)) (by rfl))) pss_nil) (pss_one (ps_ret (pe_ifExp (pt_val (pe_fld (pv 0) rfl)) (pm gd (pv 1) T.c_Tree T.M_Tapart G_Tapart (hr.mono (by decide)) T.b_Tapart .nil pass0 (pa_cons (pv 3) (pa_cons (pv 4) pa_nil))) (pm gd (pv 1) T.c_Tree T.M_Tway G_Tway (hr.mono (by decide)) T.b_Tway .nil pass0 (pa_cons (pv 3) pa_nil))))))))), ?_⟩
    by_cases hk : k = .lift
    · subst hk
      refine q_when (b := true) (et_test (ev_is (ev_op (ev_fld (ev_var (v := .ref c) rfl) hc T.c_Course T.nkind cg_kind) ev_c (rv_eq rfl)) (cbl (by decide +kernel)))) (fun _ H1 e1 => ?_) fun z => nomatch z
      have hc1 := e1 _ _ hc
      refine s_retR (if_raw ((et_inRG (x := x) (us := [.off, .both]) (ev_var rfl) fun G e => er_2 (w1 := .off) (w2 := .both) rfl rfl) H1 (Ex.refl H1) _ fun H2 e2 => ?_))
      by_cases hb : x ∈ ([.off, .both] : Rw)
      · rw [if_pos (decide_eq_true hb)]
        refine el_lst (ea_cons (ev_fld (ev_var (v := .ref c) rfl) (e2 _ _ hc1) T.c_Course T.ngroup cg_group) ea_nil) (by show 1 ≤ 100000; omega) H2 (Ex.refl H2) _ fun p H3 hp e3 h3 => q p H3 (fresh_back (e1.trans e2) hp) ((e1.trans e2).trans e3) ?_
        rw [h3]
        unfold grpG
        rw [if_pos rfl, if_pos hb]
      · rw [if_neg (by rw [decide_eq_false hb]; exact Bool.false_ne_true)]
        refine el_lst (ea_cons ev_c ea_nil) (by show 1 ≤ 100000; omega) H2 (Ex.refl H2) _ fun p H3 hp e3 h3 => q p H3 (fresh_back (e1.trans e2) hp) ((e1.trans e2).trans e3) ?_
        rw [h3]
        unfold grpG
        rw [if_pos rfl, if_neg hb]
    · refine q_when (b := false) (et_test (ev_is (ev_op (ev_fld (ev_var (v := .ref c) rfl) hc T.c_Course T.nkind cg_kind) (ev_c (v := .str Kd.lift.s)) (rv_eq rfl)) (cbl (by rw [kd_eq]; exact decide_eq_false hk)))) (fun z => nomatch z) fun _ H1 e1 => ?_
      have hc1 := e1 _ _ hc
      refine q_when (b := !decide (x ∈ wayWs)) (et_test (ev_op (ev_var rfl) ev_c (rv_niW (us := wayWs) (T.s_WAY_WORDS _)))) (fun hb H2 e2 => ?_) fun hb H2 e2 => ?_
      · rw [Bool.not_eq_true', decide_eq_false_iff_not] at hb
        refine s_retL (el_lst (ea_cons ev_c ea_nil) (by show 1 ≤ 100000; omega)) fun p H3 hp e3 h3 => q p H3 (fresh_back (e1.trans e2) hp) ((e1.trans e2).trans e3) ?_
        rw [h3]
        unfold grpG
        rw [if_neg hk, if_neg hb]
      · rw [Bool.not_eq_false', decide_eq_true_eq] at hb
        obtain ⟨⟨b0, hb0, lb⟩, he⟩ := hf hk hb
        have hc2 := (e1.trans e2) _ _ hc
        have gE : grpG k g o lv ps x = (wayG ps lv b0 ((begG k g o x).2.getD 0)).map nV := by
          unfold grpG
          rw [if_neg hk, if_pos hb, hb0]
          rfl
        rw [gE] at q
        have retW : ∀ {G : Hp} {D : Ends}, Ex H G → D.rt = Q → tRet (tIf (tB (tFld K (tVar 0) (Str.ofString "leaves_out"))) (tMeth T.C_Tree (Str.ofString "apart") (MyT.sp_Tapart T.C_Tree) [] E0 (tVar 1) (tCons (tVar 3) (tCons (tVar 4) tNil))) (tMeth T.C_Tree (Str.ofString "way") (MyT.sp_Tway T.C_Tree) [] E0 (tVar 1) (tCons (tVar 3) tNil))) D [some (.ref c), some (.ref t), some (wV x), some (oV (begG k g o x).1), some (oV (begG k g o x).2)] G := fun {G D} eG hD => by
          refine s_retR ?_
          rw [hD, hb0]
          refine if_raw ((et_B (ev_fld (ev_var (v := .ref c) rfl) (eG _ _ hc) T.c_Course T.nleaves_out cg_leaves)) G (Ex.refl G) _ fun G2 f2 => ?_)
          obtain ⟨dt, la, ls, pt⟩ := id (ht.ex (eG.trans f2))
          cases lv with
          | true =>
            obtain ⟨e0, he0, le⟩ := he rfl
            rw [he0] at q ⊢
            rw [if_pos rfl]
            refine meth_raw (ev_var (v := .ref t) rfl) fun G3 f3 => ⟨dt, _, f3 _ _ pt.ob, MyT.tf_no la ls (by decide +kernel) (by decide +kernel), ?_⟩
            refine cons_raw (ev_var (v := nV b0) rfl) fun G4 f4 => cons1_raw (ev_raw (ev_var (v := nV e0) rfl) fun G5 f5 => ⟨t, ps, st, b0, e0, rfl, ht.ex ((eG.trans f2).trans (f3.trans (f4.trans f5))), gd1, hl, lb, le, fun p G6 hp e6 h6 => ?_⟩)
            have fx := (eG.trans f2).trans (f3.trans (f4.trans f5))
            refine q p G6 (fresh_back fx hp) (fx.trans e6) ?_
            rw [h6]
            unfold wayG
            rw [if_pos rfl]
            rfl
          | false =>
            rw [if_neg Bool.false_ne_true]
            refine meth_raw (ev_var (v := .ref t) rfl) fun G3 f3 => ⟨dt, _, f3 _ _ pt.ob, MyT.tf_no la ls (by decide +kernel) (by decide +kernel), ?_⟩
            refine cons1_raw (ev_raw (ev_var (v := nV b0) rfl) fun G4 f4 => ⟨t, ps, st, b0, rfl, ht.ex ((eG.trans f2).trans (f3.trans f4)), gd1, hl, lb, fun p G5 hp e5 h5 => ?_⟩)
            refine q p G5 (fresh_back ((eG.trans f2).trans (f3.trans f4)) hp) (((eG.trans f2).trans (f3.trans f4)).trans e5) ?_
            rw [h5]
            unfold wayG
            rw [if_neg Bool.false_ne_true]
        refine q_parR ((ea_cons (ev_fld (ev_var (v := .ref c) rfl) hc2 T.c_Course T.ngroup cg_group) (ea_cons (ev_fld (ev_var (v := .ref c) rfl) hc2 T.c_Course T.nold cg_old) ea_nil) : EvA _ _ _ [oV g, oV o]) H2 (Ex.refl H2) _ fun H3 e3 => ⟨_, _, rfl, ?_⟩)
        have hc3 := e3 _ _ hc2
        refine q_when (b := decide (x = .off ∧ k ≠ .settle)) (et_is (et_and (a := decide (x = .off)) (b := !decide (k = .settle)) (et_test (ev_is (ev_op (ev_var rfl) (ev_lit (w0 := .off) rfl) (rv_eq rfl)) (cbl (wV_eq x .off)))) fun _ => et_test (ev_is (ev_op (ev_fld (ev_var (v := .ref c) rfl) hc3 T.c_Course T.nkind cg_kind) (ev_c (v := .str Kd.settle.s)) (rv_ne rfl)) (cbl (by rw [kd_eq])))) (by by_cases h1 : x = .off <;> by_cases h2 : k = .settle <;> simp [h1, h2])) (fun hx H4 e4 => ?_) fun hx H4 e4 => ?_
        · have hx := of_decide_eq_true hx
          have hc4 := e4 _ _ hc3
          refine (ea_cons (ev_fld (ev_var (v := .ref c) rfl) hc4 T.c_Course T.nold cg_old) (ea_cons (ev_fld (ev_var (v := .ref c) rfl) hc4 T.c_Course T.ngroup cg_group) ea_nil) : EvA _ _ _ [oV o, oV g]) H4 (Ex.refl H4) _ fun H5 e5 => ⟨_, _, rfl, ?_⟩
          have w := fun (D : Ends) (hD : D.rt = Q) => retW (G := H5) (D := D) ((e1.trans e2).trans ((e3.trans e4).trans e5)) hD
          rw [show begG k g o x = (o, g) from if_pos hx] at w
          exact w _ rfl
        · have hx := of_decide_eq_false hx
          have w := fun (D : Ends) (hD : D.rt = Q) => retW (G := H4) (D := D) ((e1.trans e2).trans (e3.trans e4)) hD
          rw [show begG k g o x = (g, o) from if_neg hx] at w
          exact w _ rfl
theorem tupx_rawX (h : tA σ H fun xs H1 => xs.length ≤ sizeLine ∧ ∀ p o, H1 p = none → Bare o → Q (.ref p) (upd H1 p (.frz o (.tup xs)))) : tTupX tA σ H Q := h
theorem ok_Csingle_deeds (T : Txt K mg w) (G_Cgroups : FnG P w K mg base CX0 6 T.f_Cgroups T.fd_Cgroups ["self", "tree", "word"] (sp_CgroupsG K T.C_Course T.C_Tree)) : FnG P w K mg base CX0 7 T.f_Csingle_deeds T.fd_Csingle_deeds ["self", "tree", "words"] (sp_CsingleG K T.C_Course T.C_Tree) := by
  skip
  refine okG T.F_Csingle_deeds sc_Csingle_deeds (fun vs H Q E h => ?_) (fun cdv A outer s H vs Q E gd hr h => ?_)
  · obtain ⟨_, _, _, _, _, _, _, _, _, _, _, rfl, _⟩ := h
    all_goals rfl
  · obtain ⟨c, t, a, k, w0, g, o, lv, st, us, ps, rfl, hc, ht, gd1, hl, ra, h6, hx, q⟩ := h
    refine ⟨_, (pss_one (ps_ret (pe_lc2 (own := [("word", 3), ("group", 4)]) (vs1 := [4]) (g := gName 3) (g1 := gName 4) rfl sc_Csingle_deeds.nd (pi_tup (pv 2)) (blkOk_by (N := N_Csingle_deeds) (sc := defScope s_Csingle_deeds) (by decide +kernel)) (by decide) (fun _ _ _ _ _ => (pg_name (i := 3) sc_Csingle_deeds.nd rfl (Or.inl rfl) (Or.inr rfl))) (fun _ _ _ _ _ => pts_nil) (fun _ _ _ _ _ => (show PI _ _ _ (iList K _) from pi_list (pm gd (pv 0) T.c_Course T.M_Cgroups G_Cgroups (hr.mono (by decide)) T.b_Cgroups .nil pass0 (pa_cons (pv 1) (pa_cons (pv 3) pa_nil))))) (fun _ _ _ _ _ => (pg_name (i := 4) sc_Csingle_deeds.nd rfl (Or.inl rfl) (Or.inr rfl))) (fun _ _ _ _ _ => pts_nil) (fun _ _ _ _ _ => (pe_tupX (pa_cons (pv 3) (pa_cons (pv 4) pa_nil))))))), ?_⟩
    refine s_retR (show iTup K (tVar 2) _ H _ from it_raw (ev_raw (ev_var (v := .ref a) rfl) fun H1 e1 => ⟨a, rfl, ⟨_, (ra.ex e1).sq⟩, fun Dl hD => ?_⟩))
    have ex0 : ∀ {G : Hp}, Ex H1 G → Ex H G := fun e => e1.trans e
    have lg : ∀ u ∈ us, (grpG k g o lv ps u).length ≤ 1000 := fun u hu => grpG_len gd1 hl (hx u hu)
    refine outer_it (walk_tup (K := K) (a := a) (xs := us.map wV)) (fun i G => ∃ ys, Ex H1 G ∧ G Dl = some (.lst ys) ∧ PrsAt G ys (deedsX (grpG k g o lv ps) (us.take i))) ⟨[], Ex.new hD, upd_same, .nil⟩ (fun i G _ z => ?_) (fun i v G1 G2 hk z y => ?_) (fun G z => ?_)
    · obtain ⟨_, z1, _⟩ := z
      exact (ra.ex (ex0 z1)).sq
    · obtain ⟨rfl, hv⟩ := y
      obtain ⟨ys, z1, z2, z3⟩ := z
      obtain ⟨u, hu, rfl, mu⟩ := w_item hv
      refine ⟨rfl, yes_raw (il_raw ?_)⟩
      obtain ⟨dc, hcc⟩ := hc.ex (ex0 z1)
      refine meth_raw (ev_var (v := .ref c) rfl) fun G3 e3 => ⟨dc, _, e3 _ _ hcc, cg_no (by decide +kernel), ?_⟩
      refine (ea_cons (ev_var (v := .ref t) rfl) (ea_cons (ev_var (v := wV u) rfl) ea_nil) : EvA _ _ _ [.ref t, wV u]) G3 (Ex.refl G3) _ fun G4 e4 => ⟨c, t, u, k, w0, g, o, lv, st, ps, rfl, hc.ex (ex0 (z1.trans (e3.trans e4))), ht.ex (ex0 (z1.trans (e3.trans e4))), gd1, hl, hx u mu, fun p G5 hp e5 h5 => ⟨p, rfl, ⟨_, sq_of h5⟩, ?_⟩⟩
      have z15 : Ex H1 G5 := z1.trans ((e3.trans e4).trans e5)
      have nD : Dl ≠ p := ne_of_none ((e3.trans e4) _ _ z2) hp
      have d5 : G5 Dl = some (.lst ys) := ((e3.trans e4).trans e5) _ _ z2
      have y5 : PrsAt G5 ys (deedsX (grpG k g o lv ps) (us.take i)) := z3.ex ((e3.trans e4).trans e5)
      have lg1 := lg u mu
      have dk := deedsX_take (gr := grpG k g o lv ps) hu
      have lk : ys.length ≤ 6000 := by
        rw [y5.len]
        exact deedsX_bound h6 lg i
      refine outer_it (walk_list (K := K) (a := p) (xs := grpG k g o lv ps u)) (fun j G => ∃ zs, Ex H1 G ∧ G p = some (.lst (grpG k g o lv ps u)) ∧ G Dl = some (.lst (ys ++ zs)) ∧ PrsAt G (ys ++ zs) (deedsX (grpG k g o lv ps) (us.take i) ++ ((grpG k g o lv ps u).take j).map fun v => (u, v)) ∧ zs.length = j) ⟨[], z15, h5, by rw [List.append_nil]; exact d5, by rw [List.append_nil, List.take_zero, List.map_nil, List.append_nil]; exact y5, rfl⟩ (fun j G _ z => ?_) (fun j v G6 G7 hj z y => ?_) (fun G z => ?_)
      · obtain ⟨_, _, z, _⟩ := z
        exact sq_of z
      · obtain ⟨rfl, hv2⟩ := y
        obtain ⟨zs, f1, f2, f3, f4, f5⟩ := z
        refine ⟨rfl, yes_raw (tupx_rawX ?_)⟩
        refine (ea_cons (ev_var (v := wV u) rfl) (ea_cons (ev_var (v := v) rfl) ea_nil) : EvA _ _ _ [wV u, v]) G7 (Ex.refl G7) _ fun G8 e8 => ⟨(by show 2 ≤ sizeLine; decide), fun t2 o2 ht2 bo => ?_⟩
        have hDl8 : (upd G8 t2 (.frz o2 (.tup [wV u, v]))) Dl = some (.lst (ys ++ zs)) := (Ex.new ht2) _ _ (e8 _ _ f3)
        refine ⟨ys ++ zs, hDl8, by rw [List.length_append, sizeLine_eq]; omega, zs ++ [.ref t2], Ex.mut ((f1.trans e8).trans (Ex.new ht2)) hD, ?_, by rw [upd_same, List.append_assoc], ?_, by rw [List.length_append, f5]; rfl⟩
        · rw [upd_ne nD.symm]
          exact (Ex.new ht2) _ _ (e8 _ _ f2)
        · have tj : ((grpG k g o lv ps u).take (j + 1)).map (fun v => (u, v)) = ((grpG k g o lv ps u).take j).map (fun v => (u, v)) ++ [(u, v)] := by
            rw [List.take_add_one, hv2, List.map_append]
            rfl
          rw [tj, ← List.append_assoc, ← List.append_assoc]
          exact (((f4.ex (e8.trans (Ex.new ht2))).app (.cons upd_same .nil)).exL ExB.set hDl8)
      · obtain ⟨zs, f1, f2, f3, f4, f5⟩ := z
        rw [List.take_length] at f4
        exact ⟨ys ++ zs, f1, f3, by rw [dk]; exact f4⟩
    · obtain ⟨ys, z1, z2, z3⟩ := z
      rw [List.length_map, List.take_length] at z3
      exact q G Dl ys (fresh_back e1 hD) (ex0 z1) z2 z3
theorem ok_plan (T : Txt K mg w) (G_Csingle_deeds : FnG P w K mg base CX0 7 T.f_Csingle_deeds T.fd_Csingle_deeds ["self", "tree", "words"] (sp_CsingleG K T.C_Course T.C_Tree)) : FnG P w K mg base CX0 8 T.f_plan T.fd_plan ["course", "tree"] (sp_planG K T.C_Course T.C_Tree) := by
  skip
  refine okG T.F_plan sc_plan (fun vs H Q E h => ?_) (fun cdv A outer s H vs Q E gd hr h => ?_)
  · obtain ⟨_, _, _, _, _, _, _, _, _, _, rfl, _⟩ := h
    all_goals rfl
  · obtain ⟨c, t, a, k, g, o, lv, st, us, ps, rfl, hc, ht, gd1, hl, ra, h6, hx, q⟩ := h
    refine ⟨_, (pss_one (ps_ret (pm gd (pv 0) T.c_Course T.M_Csingle_deeds G_Csingle_deeds (hr.mono (by decide)) T.b_Csingle_deeds .nil pass0 (pa_cons (pv 1) (pa_cons (pe_fld (pv 0) rfl) pa_nil))))), ?_⟩
    obtain ⟨dx, hcc⟩ := id hc
    refine s_retR (meth_raw (ev_var (v := .ref c) rfl) fun H1 e1 => ⟨dx, _, e1 _ _ hcc, cg_no (by decide +kernel), ?_⟩)
    exact (ea_cons (ev_var (v := .ref t) rfl) (ea_cons (ev_fld (ev_var (v := .ref c) rfl) (e1 _ _ hcc) T.c_Course T.nwords cg_words) ea_nil) : EvA _ _ _ [.ref t, .ref a]) H1 (Ex.refl H1) _ fun H2 e2 => ⟨c, t, a, k, _, g, o, lv, st, us, ps, rfl, hc.ex (e1.trans e2), ht.ex (e1.trans e2), gd1, hl, ra.ex (e1.trans e2), h6, hx, fun H3 p ys hp e3 h3 r3 => q H3 p ys (fresh_back (e1.trans e2) hp) ((e1.trans e2).trans e3) h3 r3⟩
theorem ok_Bshared (T : Txt K mg w)  : FnG P w K mg base CX0 1 T.f_Bshared T.fd_Bshared ["self"] (sp_BpartG .shared T.C) := by
  skip
  refine okG T.F_Bshared sc_Bshared (fun vs H Q E h => ?_) (fun cdv A outer s H vs Q E gd hr h => ?_)
  · obtain ⟨_, _, _, _, rfl, _⟩ := h
    all_goals rfl
  · obtain ⟨b, dx, d, f, rfl, hb, hd, q⟩ := h
    refine ⟨_, (pss_one (ps_ret (pe_dget (hu_of hr) (pe_fld (pv 0) rfl) pe_str (fun _ _ => rfl)))), ?_⟩
    exact s_ret (ev_get (p := .shared) (ev_fld (ev_var (v := .ref b) rfl) hb T.c_Book T.n_parts (bf_parts d)) hd (bookKs_mem _)) q
/-- b.shared .. -/
theorem ev_bpart {p : Pt} {b : Addr} {r : Ru} {te : TE} (hb : BookAt K C H b r) (h : Ev te σ H (.ref b)) : ∃ v, (r.get p).At K H v ∧ Ev (tProp C (sp_BpartG p C) [] Er te) σ H v := by
  obtain ⟨dx, d, pb⟩ := hb
  obtain ⟨f, hf, hfv⟩ := pb.di
  exact ⟨f p, hfv p (bookKs_mem p), fun H1 e1 Q q => h H1 e1 _ fun H2 e2 => ⟨b, dx, bf d, rfl, e2 _ _ (e1 _ _ pb.ob), b, dx, d, f, rfl, e2 _ _ (e1 _ _ pb.ob), e2 _ _ (e1 _ _ hf), fun H3 e3 => q H3 (e2.trans e3)⟩⟩
theorem ev_bshared {b : Addr} {r : Ru} {te : TE} (hb : BookAt K C H b r) (h : Ev te σ H (.ref b)) : Ev (tProp C (sp_BpartG .shared C) [] Er te) σ H (.bl r.shared) := by
  obtain ⟨v, h1, h2⟩ := ev_bpart (p := .shared) (Er := Er) hb h
  have e : v = .bl r.shared := h1
  rwa [e] at h2
theorem ok_move_course (T : Txt K mg w) (G_Cinit : FnG P w K mg base CX0 1 T.f_Cinit T.fd_Cinit ["self", "kind", "words", "group", "old", "leaves_out"] (sp_CinitG T.C_Course)) (G_Brow : FnG P w K mg base CX0 3 T.f_Brow T.fd_Brow ["self", "kind"] (sp_Brow K T.C)) (G_Bshared : FnG P w K mg base CX0 1 T.f_Bshared T.fd_Bshared ["self"] (sp_BpartG .shared T.C)) : FnG P w K mg base CX0 4 T.f_move_course T.fd_move_course ["book", "group", "old"] (sp_mcourse K T.C T.C_Course) := by
  skip
  refine okGD T.F_move_course sc_move_course (fun vs H Q E h => ?_) (fun cdv A outer s H vs Q E gd hr h => ?_)
  · obtain ⟨_, _, _, _, rfl, _⟩ := h
    all_goals rfl
  · obtain ⟨b, r, g, s0, rfl, hb, q⟩ := h
    refine ⟨_, (pss_one (ps_ret (pk gd T.mk_Course G_Cinit (hr.mono (by decide)) (by rfl) T.m_Course T.b3_Cinit T.v3_Cinit pass0 (pa_cons pe_str (pa_cons (pm gd (pv 0) T.c_Book T.M_Brow G_Brow (hr.mono (by decide)) T.b_Brow .nil pass0 (pa_cons pe_str pa_nil)) (pa_cons (pv 1) (pa_cons (pv 2) (pa_cons (pe_not (pgP gd (pv 0) T.c_Book T.P_Bshared G_Bshared (hr.mono (by decide)) T.b_Bshared .nil pass0)) pa_nil)))))))), ?_⟩
    obtain ⟨dx, d, pb⟩ := id hb
    refine s_retR (tmake_raw (cons_raw (ev_c (v := .str Kd.move.s)) fun H1 e1 => cons_rw (meth_raw (ev_var (v := .ref b) rfl) fun H2 e2 => ⟨dx, bf d, (e1.trans e2) _ _ pb.ob, bf_no d (by decide +kernel), cons1_raw (ev_raw (ev_lp (p := .move) rfl) fun H3 e3 => ⟨b, r, .move, rfl, by decide, hb.ex ((e1.trans e2).trans e3), fun H4 a e4 ra => ?_⟩)⟩)))
    have x4 := (e1.trans e2).trans (e3.trans e4)
    refine cons_raw (ev_var (v := nV g) rfl) fun H5 e5 => cons_raw (ev_var (v := nV s0) rfl) fun H6 e6 => cons1_raw (ev_raw (ev_notV (ev_bshared (hb.ex (x4.trans (e5.trans e6))) (ev_var rfl))) fun H7 e7 => fun x dy hx hdy nd => ⟨H7, x, dy, .str Kd.move.s, .ref a, nV g, nV s0, .bl (!r.shared), rfl, (Ex.new hdy).trans (Ex.new (by rw [upd_ne nd.symm]; exact hx)), hx, upd_same, fun H8 e8 hc => ⟨rfl, ?_⟩⟩)
    have x7 := x4.trans ((e5.trans e6).trans e7)
    exact q H8 x a (x7.trans e8) hc ((ra.ex ((e5.trans e6).trans e7)).ex e8)
theorem ok_move_plan (T : Txt K mg w) (G_check_group : FnG P w K mg base CX0 3 T.f_check_group T.fd_check_group ["tree", "value"] (MyT.sp_check_group T.C_Tree)) (G_plan : FnG P w K mg base CX0 8 T.f_plan T.fd_plan ["course", "tree"] (sp_planG K T.C_Course T.C_Tree)) (G_move_course : FnG P w K mg base CX0 4 T.f_move_course T.fd_move_course ["book", "group", "old"] (sp_mcourse K T.C T.C_Course)) : FnG P w K mg base CX0 9 T.f_move_plan T.fd_move_plan ["book", "tree", "home", "target"] (sp_mplan K T.C T.C_Tree) := by
  skip
  refine okG T.F_move_plan sc_move_plan (fun vs H Q E h => ?_) (fun cdv A outer s H vs Q E gd hr h => ?_)
  · obtain ⟨_, _, _, _, _, _, _, rfl, _⟩ := h
    all_goals rfl
  · obtain ⟨b, t, r, h, g, st, ps, rfl, hb, ht, gd1, hl, hh, hg, q⟩ := h
    refine ⟨_, (pss_cons (ps_expr (pc gd G_check_group (hr.mono (by decide)) (by rfl) T.m_check_group T.F_check_group.kp T.b_check_group .nil pass0 (pa_cons (pv 1) (pa_cons (pv 2) pa_nil)))) (pss_cons (ps_expr (pc gd G_check_group (hr.mono (by decide)) (by rfl) T.m_check_group T.F_check_group.kp T.b_check_group .nil pass0 (pa_cons (pv 1) (pa_cons (pv 3) pa_nil)))) (pss_one (ps_ret (pc gd G_plan (hr.mono (by decide)) (by rfl) T.m_plan T.F_plan.kp T.b_plan .nil pass0 (pa_cons (pc gd G_move_course (hr.mono (by decide)) (by rfl) T.m_move_course T.F_move_course.kp T.b1_move_course T.v1_move_course pass0 (pa_cons (pv 0) (pa_cons (pv 3) (pa_cons (pv 2) pa_nil)))) (pa_cons (pv 1) pa_nil))))))), ?_⟩
    obtain ⟨dx, d, pb⟩ := id hb
    refine q_dropR ((ea_cons (ev_var (v := .ref t) rfl) (ea_cons (ev_var (v := nV h) rfl) ea_nil) : EvA _ _ _ [.ref t, nV h]) H (Ex.refl H) _ fun H1 e1 => ⟨t, ps, st, h, rfl, ht.ex e1, hl, hh, fun H2 e2 => ?_⟩)
    refine q_dropR ((ea_cons (ev_var (v := .ref t) rfl) (ea_cons (ev_var (v := nV g) rfl) ea_nil) : EvA _ _ _ [.ref t, nV g]) H2 (Ex.refl H2) _ fun H3 e3 => ⟨t, ps, st, g, rfl, ht.ex ((e1.trans e2).trans e3), hl, hg, fun H4 e4 => ?_⟩)
    have e14 := (e1.trans e2).trans (e3.trans e4)
    refine s_retR (cons_rw (te := tCall (sp_mcourse K T.C T.C_Course) [] E0 (tCons (tVar 0) (tCons (tVar 3) (tCons (tVar 2) tNil)))) ((ea_cons (ev_var (v := .ref b) rfl) (ea_cons (ev_var (v := nV g) rfl) (ea_cons (ev_var (v := nV h) rfl) ea_nil)) : EvA _ _ _ [.ref b, nV g, nV h]) H4 (Ex.refl H4) _ fun H5 e5 => ⟨b, r, g, h, rfl, hb.ex (e14.trans e5), fun H6 c a e6 hc ra => ?_⟩))
    have e16 := e14.trans (e5.trans e6)
    exact cons1_raw (ev_raw (ev_var (v := .ref t) rfl) fun H7 e7 => ⟨c, t, a, .move, some g, some h, !r.shared, st, r.move, ps, rfl, hc.ex e7, ht.ex (e16.trans e7), gd1, hl, ra.ex e7, pb.ok.m.1.ln, fun x _ => fit_move hh hg x, fun H8 p ys hp e8 h8 r8 => q H8 p ys (fresh_back (e16.trans e7) hp) ((e16.trans e7).trans e8) h8 r8⟩)
end
end My
namespace My
open PySem PySem.Spec PyProof.Rows L2 GL Evl StX SkE
/-! ### books and trees shown inside a list -/
def sp_BreprL (K : PySem.W.Frag) (C : Addr) (L : List Addr) : Sp := fun vs H Q _ => ∃ a r, vs = [.ref a] ∧ BookAt K C H a r ∧ (∀ l ∈ L, Odd K H l) ∧ RetV (.str (bText r)) H Q
section
variable {P : Program} {w : World} {K : PySem.W.Frag} {mg : Str → Option Value} {base : Heap} {C : Addr} {H H' H0 H1 : Hp} {σ : L2.St} {te tb ta tc : TE} {tt : TT} {tA : TA} {E Er : XK} {D : Ends} {tz : TS} {a b d : Addr} {us : Rw} {xs ys : List V} {rs qs : List Rw} {ks : List Pt} {r l : Ru} {p : Pt} {v : V} {Q : VK} {L : List Addr}
theorem fmtL_var {i : Nat} (ho : ∀ l ∈ L, Odd K H l) (h : Ev (tFmtV K (tVar i)) σ H v) : Ev (tFmtL K L (tVar i)) σ H v := fun H1 e Q q => by
  obtain ⟨x, hx, h⟩ := h H1 e Q q
  exact ⟨x, hx, h.imp id fun h => h.imp id fun h => h.imp id fun ⟨d, h1, h2, h3, h4, h5, h6, q⟩ => ⟨d, h1, h2, h3, h4, h5, h6, fun l hl => (ho l hl).ex e, q⟩⟩
theorem odd_lock {l : Addr} {od : Obj} {xs : List (Key × V)} (h : Odd K H l) (hd : H d = some (.dK xs)) : Odd K (upd H d (.frz od (.dK xs))) l := by
  obtain ⟨ys, a, C, dx, fs, h1, h2, h3⟩ := h
  refine ⟨ys, a, C, dx, fs, ?_, h2, ?_⟩
  · have nd : ∀ {u : HO}, H l = some u → (∀ z, u ≠ .dK z) → upd H d (.frz od (.dK xs)) l = some u := fun {u} e n => by
      rw [upd_ne (fun z => by
        rw [z, hd] at e
        exact n _ (Option.some.inj e).symm)]
      exact e
    rcases h1 with h1 | h1
    · rcases h1 with (h1 | ⟨ob, h1⟩) | h1
      · exact .inl (.inl (.inl (nd h1 fun _ q => nomatch q)))
      · exact .inl (.inl (.inr ⟨ob, nd h1 fun _ q => nomatch q⟩))
      · exact .inl (.inr h1)
    · rcases h1 with (h1 | ⟨ob, h1⟩) | h1
      · exact .inr (.inl (.inl (nd h1 fun _ q => nomatch q)))
      · exact .inr (.inl (.inr ⟨ob, nd h1 fun _ q => nomatch q⟩))
      · exact .inr (.inr h1)
  · rw [upd_ne (fun z => by rw [z, hd] at h3; cases h3)]
    exact h3
theorem ok_Brepr (T : Txt K mg w)  : ∀ L : List Addr, FnL L P w K mg base CX0 1 T.f_Brepr T.fd_Brepr ["self"] (sp_BreprL K T.C L) := by
  intro L
  refine okL T.F_Brepr sc_Brepr (fun vs H Q E h => ?_) (fun cdv A outer s H vs Q E gd hr h => ?_)
  · obtain ⟨_, _, rfl, _⟩ := h
    all_goals rfl
  · obtain ⟨a, r, rfl, ⟨dx, d, p⟩, ho, q⟩ := h
    refine ⟨_, (pss_cons (ps_set (i := 1) sc_Brepr.nd rfl (Or.inl rfl) (pe_join pe_str (pe_lock (pe_lc (own := [("name", 2), ("value", 3)]) (g := gTup K 2 (gCons (gName 2) (gCons (gName 3) gNil))) rfl sc_Brepr.nd (pi_items (pe_fld (pv 0) rfl)) (blkOk_by (N := N_Brepr) (sc := defScope s_Brepr) (by decide +kernel)) (fun _ _ _ _ _ => (pg_tup rfl (pgs_cons (pg_name (i := 2) sc_Brepr.nd rfl (Or.inl rfl) (Or.inr rfl)) (pgs_cons (pg_name (i := 3) sc_Brepr.nd rfl (Or.inl rfl) (Or.inr rfl)) pgs_nil)))) (fun _ _ _ _ _ => pts_nil) (fun _ _ _ _ _ => (pe_joined (.cons (pe_fmt (pv 2)) (.cons pe_str (.cons (show PE _ _ (tFmtL K L _) from pe_fmtL gd (roomU hr) (pv 3)) .nil))))))))) (pss_one (ps_ret (pe_joined (.cons pe_str (.cons (pe_fmt (pv 1)) (.cons pe_str .nil))))))), ?_⟩
    obtain ⟨f, hd, hf⟩ := id p.di
    have nda : d ≠ a := fun z => by rw [z, p.ob] at hd; cases hd
    refine q_asgR ⟨⟨_, rfl⟩, d, _, hd, True.intro, fun od => ?_⟩
    have hl : (upd H d (.frz od (.dK (kvs bookKs f)))) a = some (.ins T.C dx (bf d)) := by rw [upd_ne nda.symm]; exact p.ob
    have hdl : (upd H d (.frz od (.dK (kvs bookKs f)))) d = some (.frz od (.dK (kvs bookKs f))) := upd_same
    have hol : ∀ l ∈ L, Odd K (upd H d (.frz od (.dK (kvs bookKs f)))) l := fun l h => odd_lock (ho l h) hd
    have nl : ExB d H (upd H d (.frz od (.dK (kvs bookKs f)))) := ExB.set
    generalize upd H d (.frz od (.dK (kvs bookKs f))) = Hl at hl hdl hol nl
    refine tlc_of (walk_items (d := d) (o := od) (kvs := kvs bookKs f)) (fun R hR => ⟨_, rfl, a, T.C, dx, _, .ref d, rfl, hl, T.c_Book, T.n_parts, bf_parts d, d, od, kvs bookKs f, rfl, hdl, hR⟩) (fun Dl => Cw Hl (fun _ => true) (fun i => (bookKs[i]?.map fun p => V.str (itm r p)).getD .non) Dl) (fun Dl hDl => ⟨hDl, Ex.new hDl, upd_same⟩) (fun Dl i H' _ c => c.2.1 _ _ hdl) (fun Dl i v H' H2 hDl hi c y => ?_) (fun Dl H' hDl c => ?_)
    · obtain ⟨T1, x, z, rfl, nT, rfl, y1, y2⟩ := y
      dsimp only at y1 y2
      have hi' : i < bookKs.length := by rwa [List.length_map] at hi
      have hi9 : i < 9 := hi'
      obtain ⟨p', hp'⟩ : ∃ p', bookKs[i]? = some p' := ⟨_, List.getElem?_eq_getElem hi'⟩
      have hk : (kvs bookKs f)[i]? = some (.inr p'.s, f p') := by rw [List.getElem?_map, hp']; rfl
      rw [hk] at y1 y2
      cases y1
      cases y2
      have c2 : Cw Hl (fun _ => true) (fun i => (bookKs[i]?.map fun p => V.str (itm r p)).getD .non) Dl i (upd H' T1 (.tup [kV (.inr p'.s), f p'])) := ⟨c.1, c.2.1.trans (Ex.new nT), Ex.new nT _ _ c.2.2⟩
      refine ⟨T1, _, rfl, st_of upd_same, rfl, _, _, rfl, _, _, rfl, rfl, rfl, cw_turn (te := fun σ H Q => tJs [tFmt (tVar 2), tC (.str "="), tFmtL K L (tVar 3)] Str.empty σ H fun out H1 => Q (.str out) H1) c2 (by omega) et_yes fun _ => ?_⟩
      rw [hp']
      show Ev _ _ _ (.str (itm r p'))
      have x0 : Ex Hl (upd H' T1 (.tup [kV (.inr p'.s), f p'])) := c2.2.1
      intro H3 e3 Q3 q3
      have at3 : (r.get p').At K H3 (f p') := ((hf p' (bookKs_mem _)).exB nl (NoTup.dK hd)).ex e3
      have o3 : ∀ l ∈ L, Odd K H3 l := fun l h => (hol l h).ex e3
      have l0 : (Str.empty ++ p'.s).length ≤ 100 := by
        rw [Str.length_append]
        have := pt_len p'
        have h3 : Str.empty.length = 0 := by decide
        omega
      have l1 : ((Str.empty ++ p'.s) ++ "=").length ≤ 101 := by
        rw [Str.length_append]
        have h4 : (Str.ofString "=").length = 1 := by decide
        omega
      have l2 := itm_len p.ok p'
      refine ej_cons (ev_fmtS (ev_var rfl) (by have := pt_len p'; omega)) (by omega) fun H4 e4 => ej_cons ev_c (by omega) fun H5 e5 => ej_cons (fmtL_var (fun l h => (o3 l h).ex (e4.trans e5)) (ev_fmtA p.ok (ev_var rfl) ((at3.ex e4).ex e5))) (by unfold itm at l2; omega) fun H6 e6 => q3 H6 ((e4.trans e5).trans e6)
    · have x9 : Ex Hl H' := c.2.1
      have h9 : H' Dl = some (.lst ((bookKs.map (itm r)).map V.str)) := by
        rw [c.2.2]
        rfl
      have nDd : Dl ≠ d := fun z => by rw [z, hdl] at hDl; cases hDl
      have g1 : Ex H (upd H' d (.dK (kvs bookKs f))) := unlock_ex (fun b o n hb => x9 _ _ (nl b o n hb)) hd
      refine ⟨x9 _ _ hdl, _, _, bookKs.map (itm r), rfl, rfl, .inl (sq_of (by rw [upd_ne nDd]; exact h9)), ?_, ?_⟩
      · have := sum_len (items_len p.ok)
        have e0 : (Str.ofString ", ").length = 2 := by decide
        rw [List.length_map] at this ⊢
        rw [e0]
        have e1 : bookKs.length = 9 := rfl
        omega
      · have lj : (Str.join ", " (bookKs.map (itm r))).length ≤ 2000 := by
          have z := join_len (items_len p.ok)
          rw [List.length_map] at z
          have e1 : bookKs.length = 9 := rfl
          rw [e1] at z
          omega
        have e3 : Str.empty.length = 0 := by decide
        have e4 : (Str.ofString "Book(").length = 5 := by decide
        have e5 : (Str.ofString ")").length = 1 := by decide
        rw [TL.join_eq]
        unfold bText at q
        generalize Str.join ", " (bookKs.map (itm r)) = J at lj q
        refine s_retR (ej_cons ev_c (by rw [Str.length_append]; omega) fun H5 x5 => ej_cons (ev_fmtS (ev_var rfl) (by omega)) (by rw [Str.length_append, Str.length_append]; omega) fun H6 x6 => ej_cons ev_c (by rw [Str.length_append, Str.length_append, Str.length_append]; omega) fun H7 x7 => q H7 (g1.trans ((x5.trans x6).trans x7)))
end
end My
namespace My
open PySem PySem.Spec PyProof.Rows L2 GL Evl StX SkE
/-! ### plans, of any value in the place of a group -/
def isI : V → Bool
  | .int _ => true
  | _ => false
def OddV (K : PySem.W.Frag) (H : Hp) (x : V) : Prop := ∃ (t : Value) (b : Bool), (∀ H1, Ex H H1 → TyX K H1 x t) ∧ PySem.W.kitOne K t (.type "int") = some b ∧ (b = true → PySem.W.kitOne K t (.type "bool") = some true)
def Elem (K : PySem.W.Frag) (H : Hp) (x : V) : Prop := (∃ z : Int, x = .int z) ∨ (isI x = false ∧ OddV K H x)
theorem OddV.ex {K : PySem.W.Frag} {H H' : Hp} {x : V} (h : OddV K H x) (e : Ex H H') : OddV K H' x := by
  obtain ⟨t, b, h1, h2, h3⟩ := h
  exact ⟨t, b, fun H1 e1 => h1 H1 (e.trans e1), h2, h3⟩
theorem Elem.ex {K : PySem.W.Frag} {H H' : Hp} {x : V} (h : Elem K H x) (e : Ex H H') : Elem K H' x := h.imp id fun z => ⟨z.1, z.2.ex e⟩
/-- what comes of a value that tells no group -/
def Wrong (cI : Addr) (x : V) (H : Hp) (E : XK) : Prop := ∀ H' d, H d = none → Ex H H' → H' d = some (.xd [("value", x)]) → E (.ref cI) (some d) H'
theorem Wrong.ex {cI : Addr} {x : V} {H H' : Hp} {E : XK} (h : Wrong cI x H E) (e : Ex H H') : Wrong cI x H' E := fun H2 d hd e2 hx => h H2 d (fresh_back e hd) (e.trans e2) hx
/-- a plan in a new list -/
def RetP (ds : List (Wd × V)) (H : Hp) (Q : VK) : Prop := ∀ H' p ys, H p = none → Ex H H' → H' p = some (.lst ys) → PrsAt H' ys ds → Q (.ref p) H'
theorem RetP.ex {ds : List (Wd × V)} {H H' : Hp} {Q : VK} (h : RetP ds H Q) (e : Ex H H') : RetP ds H' Q := fun H2 p ys hp e2 h2 r2 => h H2 p ys (fresh_back e hp) (e.trans e2) h2 r2
def sp_courseG (K : PySem.W.Frag) (C CC : Addr) (k : Kd) (p : Pt) (go : Nat → Option Nat × Option Nat) : Sp := fun vs H Q _ => ∃ b r, ∃ g : Nat, vs = [.ref b, nV g] ∧ BookAt K C H b r ∧ ∀ H' c a, Ex H H' → CrsG CC H' c k (.ref a) (go g).1 (go g).2 false → RowX K H' a (rowPt p r) → Q (.ref c) H'
def sp_scourseG (K : PySem.W.Frag) (CC : Addr) : Sp := fun vs H Q _ => ∃ g : Nat, vs = [nV g] ∧ ∀ H' c a, Ex H H' → CrsG CC H' c .settle (.ref a) (some g) none false → RowX K H' a [.off] → Q (.ref c) H'
def asG (g : Nat) : Option Nat × Option Nat := (some g, none)
def asO (g : Nat) : Option Nat × Option Nat := (none, some g)
def goOf : Kd → Nat → Option Nat × Option Nat
  | .give => asO
  | _ => asG
def deedsK (k : Kd) (p : Pt) (ps : List Nat) (r : Ru) (g : Nat) : List (Wd × V) := deedsX (grpG k (goOf k g).1 (goOf k g).2 false ps) (rowPt p r)
theorem fit_k {ps : List Nat} {r : Ru} {g : Nat} (ok : Ok r) (hg : g ≤ ps.length) {k : Kd} {p : Pt} (hk : (k = .take ∧ p = .take) ∨ (k = .give ∧ p = .give) ∨ (k = .lift ∧ p = .lift)) : ∀ x ∈ rowPt p r, FitG k (goOf k g).1 (goOf k g).2 false ps x := fun x hx => by
  rcases hk with ⟨rfl, rfl⟩ | ⟨rfl, rfl⟩ | ⟨rfl, rfl⟩
  · intro _ hw
    have h := take_words ok.t.2.1 x hx hw
    have no : ¬ x = .off := of_decide_eq_false h
    refine ⟨⟨g, ?_, hg⟩, fun z => nomatch z⟩
    unfold begG
    rw [if_neg (fun z => no z.1)]
    rfl
  · intro _ hw
    have h := give_words ok.g.2 x hx hw
    have yes : x = .off := of_decide_eq_true h
    refine ⟨⟨g, ?_, hg⟩, fun z => nomatch z⟩
    unfold begG
    rw [if_pos ⟨yes, by decide⟩]
    rfl
  · exact fun z => absurd rfl z
theorem fit_settle {ps : List Nat} {g : Nat} (hg : g ≤ ps.length) : ∀ x ∈ ([.off] : Rw), FitG .settle (some g) none false ps x := fun x hx => fun _ _ => by
  rw [List.mem_singleton.mp hx]
  refine ⟨⟨g, ?_, hg⟩, fun z => nomatch z⟩
  unfold begG
  rw [if_neg (fun z => z.2 rfl)]
theorem row_six {r : Ru} (ok : Ok r) {p : Pt} (h : p ∈ rowPs) : (rowPt p r).length ≤ 6 := by
  simp only [rowPs, List.mem_cons, List.not_mem_nil, or_false] at h
  rcases h with rfl | rfl | rfl | rfl
  · exact ok.t.1.ln
  · exact ok.g.1.ln
  · exact ok.m.1.ln
  · exact ok.l.1.ln
end My
namespace My
open PySem PySem.Spec PyProof.Rows L2 GL Evl StX SkE
/-! ### the plans, of any value in the place of a group -/
section
variable {P : Program} {w : World} {K : PySem.W.Frag} {mg : Str → Option Value} {base : Heap} {C CC CT cI : Addr} {H H' H0 H1 : Hp} {σ : L2.St} {te tb ta tc : TE} {tt : TT} {tA : TA} {E Er : XK} {D : Ends} {tz : TS} {a b d t : Addr} {us : Rw} {xs ys : List V} {rs qs : List Rw} {ks : List Pt} {r l : Ru} {p : Pt} {v x : V} {Q : VK} {k : Kd} {ps st : List Nat}
theorem ok_take_course (T : Txt K mg w) (G_Cinit : FnG P w K mg base CX0 1 T.f_Cinit T.fd_Cinit ["self", "kind", "words", "group", "old", "leaves_out"] (sp_CinitG T.C_Course)) (G_Brow : FnG P w K mg base CX0 3 T.f_Brow T.fd_Brow ["self", "kind"] (sp_Brow K T.C)) : FnG P w K mg base CX0 4 T.f_take_course T.fd_take_course ["book", "group"] (sp_courseG K T.C T.C_Course .take .take asG) := by
  skip
  refine okG T.F_take_course sc_take_course (fun vs H Q E h => ?_) (fun cdv A outer s H vs Q E gd hr h => ?_)
  · obtain ⟨_, _, _, rfl, _⟩ := h
    all_goals rfl
  · obtain ⟨b, r, g, rfl, hb, q⟩ := h
    refine ⟨_, (pss_one (ps_ret (pk gd T.mk_Course G_Cinit (hr.mono (by decide)) (by rfl) T.m_Course T.b1_Cinit T.v1_Cinit pass0 (pa_cons pe_str (pa_cons (pm gd (pv 0) T.c_Book T.M_Brow G_Brow (hr.mono (by decide)) T.b_Brow .nil pass0 (pa_cons pe_str pa_nil)) (pa_cons (pv 1) pa_nil)))))), ?_⟩
    obtain ⟨dx, d, pb⟩ := id hb
    refine s_retR (tmake_raw (cons_raw (ev_c (v := .str Pt.take.s)) fun H1 e1 => cons_rw (meth_raw (ev_var (v := .ref b) rfl) fun H2 e2 => ⟨dx, bf d, (e1.trans e2) _ _ pb.ob, bf_no d (by decide +kernel), cons1_raw (ev_raw (ev_lp (p := .take) rfl) fun H3 e3 => ⟨b, r, .take, rfl, by decide, hb.ex ((e1.trans e2).trans e3), fun H4 a e4 ra => ?_⟩)⟩)))
    refine cons1_raw (ev_raw (ev_var (v := nV g) rfl) fun H5 e5 => fun x dy hx hdy nd => ⟨H5, x, dy, .str Pt.take.s, .ref a, nV g, .non, .bl false, rfl, (Ex.new hdy).trans (Ex.new (by rw [upd_ne nd.symm]; exact hx)), hx, upd_same, fun H6 e6 hc => ⟨rfl, ?_⟩⟩)
    have x5 := ((e1.trans e2).trans (e3.trans e4)).trans e5
    exact q H6 x a (x5.trans e6) hc ((ra.ex e5).ex e6)
theorem ok_give_course (T : Txt K mg w) (G_Cinit : FnG P w K mg base CX0 1 T.f_Cinit T.fd_Cinit ["self", "kind", "words", "group", "old", "leaves_out"] (sp_CinitG T.C_Course)) (G_Brow : FnG P w K mg base CX0 3 T.f_Brow T.fd_Brow ["self", "kind"] (sp_Brow K T.C)) : FnG P w K mg base CX0 4 T.f_give_course T.fd_give_course ["book", "old"] (sp_courseG K T.C T.C_Course .give .give asO) := by
  skip
  refine okGD T.F_give_course sc_give_course (fun vs H Q E h => ?_) (fun cdv A outer s H vs Q E gd hr h => ?_)
  · obtain ⟨_, _, _, rfl, _⟩ := h
    all_goals rfl
  · obtain ⟨b, r, g, rfl, hb, q⟩ := h
    refine ⟨_, (pss_one (ps_ret (pk gd T.mk_Course G_Cinit (hr.mono (by decide)) (by rfl) T.m_Course T.b2_Cinit T.v2_Cinit pass0 (pa_cons pe_str (pa_cons (pm gd (pv 0) T.c_Book T.M_Brow G_Brow (hr.mono (by decide)) T.b_Brow .nil pass0 (pa_cons pe_str pa_nil)) (pa_cons pe_non (pa_cons (pv 1) pa_nil))))))), ?_⟩
    obtain ⟨dx, d, pb⟩ := id hb
    refine s_retR (tmake_raw (cons_raw (ev_c (v := .str Pt.give.s)) fun H1 e1 => cons_rw (meth_raw (ev_var (v := .ref b) rfl) fun H2 e2 => ⟨dx, bf d, (e1.trans e2) _ _ pb.ob, bf_no d (by decide +kernel), cons1_raw (ev_raw (ev_lp (p := .give) rfl) fun H3 e3 => ⟨b, r, .give, rfl, by decide, hb.ex ((e1.trans e2).trans e3), fun H4 a e4 ra => ?_⟩)⟩)))
    refine cons_raw ev_c fun H7 e7 => cons1_raw (ev_raw (ev_var (v := nV g) rfl) fun H5 e5 => fun x dy hx hdy nd => ⟨H5, x, dy, .str Pt.give.s, .ref a, .non, nV g, .bl false, rfl, (Ex.new hdy).trans (Ex.new (by rw [upd_ne nd.symm]; exact hx)), hx, upd_same, fun H6 e6 hc => ⟨rfl, ?_⟩⟩)
    have x5 := ((e1.trans e2).trans (e3.trans e4)).trans (e7.trans e5)
    exact q H6 x a (x5.trans e6) hc ((ra.ex (e7.trans e5)).ex e6)
theorem ok_lift_course (T : Txt K mg w) (G_Cinit : FnG P w K mg base CX0 1 T.f_Cinit T.fd_Cinit ["self", "kind", "words", "group", "old", "leaves_out"] (sp_CinitG T.C_Course)) (G_Brow : FnG P w K mg base CX0 3 T.f_Brow T.fd_Brow ["self", "kind"] (sp_Brow K T.C)) : FnG P w K mg base CX0 4 T.f_lift_course T.fd_lift_course ["book", "group"] (sp_courseG K T.C T.C_Course .lift .lift asG) := by
  skip
  refine okG T.F_lift_course sc_lift_course (fun vs H Q E h => ?_) (fun cdv A outer s H vs Q E gd hr h => ?_)
  · obtain ⟨_, _, _, rfl, _⟩ := h
    all_goals rfl
  · obtain ⟨b, r, g, rfl, hb, q⟩ := h
    refine ⟨_, (pss_one (ps_ret (pk gd T.mk_Course G_Cinit (hr.mono (by decide)) (by rfl) T.m_Course T.b1_Cinit T.v1_Cinit pass0 (pa_cons pe_str (pa_cons (pm gd (pv 0) T.c_Book T.M_Brow G_Brow (hr.mono (by decide)) T.b_Brow .nil pass0 (pa_cons pe_str pa_nil)) (pa_cons (pv 1) pa_nil)))))), ?_⟩
    obtain ⟨dx, d, pb⟩ := id hb
    refine s_retR (tmake_raw (cons_raw (ev_c (v := .str Pt.lift.s)) fun H1 e1 => cons_rw (meth_raw (ev_var (v := .ref b) rfl) fun H2 e2 => ⟨dx, bf d, (e1.trans e2) _ _ pb.ob, bf_no d (by decide +kernel), cons1_raw (ev_raw (ev_lp (p := .lift) rfl) fun H3 e3 => ⟨b, r, .lift, rfl, by decide, hb.ex ((e1.trans e2).trans e3), fun H4 a e4 ra => ?_⟩)⟩)))
    refine cons1_raw (ev_raw (ev_var (v := nV g) rfl) fun H5 e5 => fun x dy hx hdy nd => ⟨H5, x, dy, .str Pt.lift.s, .ref a, nV g, .non, .bl false, rfl, (Ex.new hdy).trans (Ex.new (by rw [upd_ne nd.symm]; exact hx)), hx, upd_same, fun H6 e6 hc => ⟨rfl, ?_⟩⟩)
    have x5 := ((e1.trans e2).trans (e3.trans e4)).trans e5
    exact q H6 x a (x5.trans e6) hc ((ra.ex e5).ex e6)
theorem ok_settle_course (T : Txt K mg w) (G_Cinit : FnG P w K mg base CX0 1 T.f_Cinit T.fd_Cinit ["self", "kind", "words", "group", "old", "leaves_out"] (sp_CinitG T.C_Course)) : FnG P w K mg base CX0 3 T.f_settle_course T.fd_settle_course ["group"] (sp_scourseG K T.C_Course) := by
  skip
  refine okG T.F_settle_course sc_settle_course (fun vs H Q E h => ?_) (fun cdv A outer s H vs Q E gd hr h => ?_)
  · obtain ⟨_, rfl, _⟩ := h
    all_goals rfl
  · obtain ⟨g, rfl, q⟩ := h
    refine ⟨_, (pss_one (ps_ret (pk gd T.mk_Course G_Cinit (hr.mono (by decide)) (by rfl) T.m_Course T.b1_Cinit T.v1_Cinit pass0 (pa_cons pe_str (pa_cons (pe_tupX (pa_cons pe_str pa_nil)) (pa_cons (pv 0) pa_nil)))))), ?_⟩
    refine s_retR (tmake_raw (cons_raw (ev_c (v := .str Kd.settle.s)) fun H1 e1 => cons_rw ((er_1 (K := K) (w1 := .off) rfl : EvR K _ _ H1 [.off]) H1 (Ex.refl H1) _ fun a H4 e4 ra => ?_)))
    refine cons1_raw (ev_raw (ev_var (v := nV g) rfl) fun H5 e5 => fun x dy hx hdy nd => ⟨H5, x, dy, .str Kd.settle.s, .ref a, nV g, .non, .bl false, rfl, (Ex.new hdy).trans (Ex.new (by rw [upd_ne nd.symm]; exact hx)), hx, upd_same, fun H6 e6 hc => ⟨rfl, ?_⟩⟩)
    exact q H6 x a (((e1.trans e4).trans e5).trans e6) hc ((ra.ex e5).ex e6)
end
end My
namespace My
open PySem PySem.Spec PyProof.Rows L2 GL Evl StX SkE
/-! ### plans of groups, parts, other rows -/
def sp_planN (K : PySem.W.Frag) (C CT : Addr) (k : Kd) (p : Pt) : Sp := fun vs H Q _ => ∃ b t r st, ∃ ps : List Nat, ∃ g : Nat, vs = [.ref b, .ref t, nV g] ∧ BookAt K C H b r ∧ MyT.TreeAt CT H t ps st ∧ Good ps ∧ ps.length ≤ 199 ∧ g ≤ ps.length ∧ RetP (deedsK k p ps r g) H Q
def sp_lplanN (K : PySem.W.Frag) (C CT : Addr) : Sp := fun vs H Q _ => ∃ b t r st, ∃ ps : List Nat, ∃ g : Nat, vs = [.ref b, .ref t, nV g] ∧ BookAt K C H b r ∧ MyT.TreeAt CT H t ps st ∧ Good ps ∧ ps.length ≤ 199 ∧ g ≤ ps.length ∧ g ≠ 0 ∧ RetP (deedsK .lift .lift ps r g) H Q
def sp_splanN (K : PySem.W.Frag) (CT : Addr) : Sp := fun vs H Q _ => ∃ t st, ∃ ps : List Nat, ∃ g : Nat, vs = [.ref t, nV g] ∧ MyT.TreeAt CT H t ps st ∧ Good ps ∧ ps.length ≤ 199 ∧ g ≤ ps.length ∧ RetP (deedsX (grpG .settle (some g) none false ps) [.off]) H Q
def sp_Bwr (K : PySem.W.Frag) (C : Addr) : Sp := fun vs H Q _ => ∃ a b r m p, vs = [.ref a, .str (Pt.s p), .ref b] ∧ p ∈ rowPs ∧ BookAt K C H a r ∧ (Ru.get m p).At K H (.ref b) ∧ Ok (Ru.upd r m p) ∧ ∀ H' q, H q = none → Ex H H' → BookAt K C H' q (Ru.upd r m p) → Q (.ref q) H'
section
variable {P : Program} {w : World} {K : PySem.W.Frag} {mg : Str → Option Value} {base : Heap} {C CC CT cI : Addr} {H H' H0 H1 : Hp} {σ : L2.St} {te tb ta tc : TE} {tt : TT} {tA : TA} {E Er : XK} {D : Ends} {tz : TS} {a b d t : Addr} {us : Rw} {xs ys : List V} {rs qs : List Rw} {ks : List Pt} {r l : Ru} {p : Pt} {v x : V} {Q : VK} {k : Kd} {ps st : List Nat}
theorem ok_Bfails (T : Txt K mg w)  : FnG P w K mg base CX0 1 T.f_Bfails T.fd_Bfails ["self"] (sp_BpartG .fails T.C) := by
  skip
  refine okG T.F_Bfails sc_Bfails (fun vs H Q E h => ?_) (fun cdv A outer s H vs Q E gd hr h => ?_)
  · obtain ⟨_, _, _, _, rfl, _⟩ := h
    all_goals rfl
  · obtain ⟨b, dx, d, f, rfl, hb, hd, q⟩ := h
    refine ⟨_, (pss_one (ps_ret (pe_dget (hu_of hr) (pe_fld (pv 0) rfl) pe_str (fun _ _ => rfl)))), ?_⟩
    exact s_ret (ev_get (p := .fails) (ev_fld (ev_var (v := .ref b) rfl) hb T.c_Book T.n_parts (bf_parts d)) hd (bookKs_mem _)) q
theorem ok_Bholds (T : Txt K mg w)  : FnG P w K mg base CX0 1 T.f_Bholds T.fd_Bholds ["self"] (sp_BpartG .holds T.C) := by
  skip
  refine okG T.F_Bholds sc_Bholds (fun vs H Q E h => ?_) (fun cdv A outer s H vs Q E gd hr h => ?_)
  · obtain ⟨_, _, _, _, rfl, _⟩ := h
    all_goals rfl
  · obtain ⟨b, dx, d, f, rfl, hb, hd, q⟩ := h
    refine ⟨_, (pss_one (ps_ret (pe_dget (hu_of hr) (pe_fld (pv 0) rfl) pe_str (fun _ _ => rfl)))), ?_⟩
    exact s_ret (ev_get (p := .holds) (ev_fld (ev_var (v := .ref b) rfl) hb T.c_Book T.n_parts (bf_parts d)) hd (bookKs_mem _)) q
theorem ok_Bbatch (T : Txt K mg w)  : FnG P w K mg base CX0 1 T.f_Bbatch T.fd_Bbatch ["self"] (sp_BpartG .batch T.C) := by
  skip
  refine okG T.F_Bbatch sc_Bbatch (fun vs H Q E h => ?_) (fun cdv A outer s H vs Q E gd hr h => ?_)
  · obtain ⟨_, _, _, _, rfl, _⟩ := h
    all_goals rfl
  · obtain ⟨b, dx, d, f, rfl, hb, hd, q⟩ := h
    refine ⟨_, (pss_one (ps_ret (pe_dget (hu_of hr) (pe_fld (pv 0) rfl) pe_str (fun _ _ => rfl)))), ?_⟩
    exact s_ret (ev_get (p := .batch) (ev_fld (ev_var (v := .ref b) rfl) hb T.c_Book T.n_parts (bf_parts d)) hd (bookKs_mem _)) q
theorem ok_Bsettles (T : Txt K mg w)  : FnG P w K mg base CX0 1 T.f_Bsettles T.fd_Bsettles ["self"] (sp_BpartG .settles T.C) := by
  skip
  refine okG T.F_Bsettles sc_Bsettles (fun vs H Q E h => ?_) (fun cdv A outer s H vs Q E gd hr h => ?_)
  · obtain ⟨_, _, _, _, rfl, _⟩ := h
    all_goals rfl
  · obtain ⟨b, dx, d, f, rfl, hb, hd, q⟩ := h
    refine ⟨_, (pss_one (ps_ret (pe_dget (hu_of hr) (pe_fld (pv 0) rfl) pe_str (fun _ _ => rfl)))), ?_⟩
    exact s_ret (ev_get (p := .settles) (ev_fld (ev_var (v := .ref b) rfl) hb T.c_Book T.n_parts (bf_parts d)) hd (bookKs_mem _)) q
theorem ok_take_plan (T : Txt K mg w) (G_check_group : FnG P w K mg base CX0 3 T.f_check_group T.fd_check_group ["tree", "value"] (MyT.sp_check_group T.C_Tree)) (G_plan : FnG P w K mg base CX0 8 T.f_plan T.fd_plan ["course", "tree"] (sp_planG K T.C_Course T.C_Tree)) (G_take_course : FnG P w K mg base CX0 4 T.f_take_course T.fd_take_course ["book", "group"] (sp_courseG K T.C T.C_Course .take .take asG)) : FnG P w K mg base CX0 9 T.f_take_plan T.fd_take_plan ["book", "tree", "group"] (sp_planN K T.C T.C_Tree .take .take) := by
  skip
  refine okG T.F_take_plan sc_take_plan (fun vs H Q E h => ?_) (fun cdv A outer s H vs Q E gd hr h => ?_)
  · obtain ⟨_, _, _, _, _, _, rfl, _⟩ := h
    all_goals rfl
  · obtain ⟨b, t, r, st, ps, g, rfl, hb, ht, gd1, hl, hg, q⟩ := h
    refine ⟨_, (pss_cons (ps_expr (pc gd G_check_group (hr.mono (by decide)) (by rfl) T.m_check_group T.F_check_group.kp T.b_check_group .nil pass0 (pa_cons (pv 1) (pa_cons (pv 2) pa_nil)))) (pss_one (ps_ret (pc gd G_plan (hr.mono (by decide)) (by rfl) T.m_plan T.F_plan.kp T.b_plan .nil pass0 (pa_cons (pc gd G_take_course (hr.mono (by decide)) (by rfl) T.m_take_course T.F_take_course.kp T.b_take_course .nil pass0 (pa_cons (pv 0) (pa_cons (pv 2) pa_nil))) (pa_cons (pv 1) pa_nil)))))), ?_⟩
    obtain ⟨dx, d, pb⟩ := id hb
    refine q_dropR ((ea_cons (ev_var (v := .ref t) rfl) (ea_cons (ev_var (v := nV g) rfl) ea_nil) : EvA _ _ _ [.ref t, nV g]) H (Ex.refl H) _ fun H1 e1 => ⟨t, ps, st, g, rfl, ht.ex e1, hl, hg, fun H2 e2 => ?_⟩)
    have e12 := e1.trans e2
    refine s_retR (cons_rw (te := tCall (sp_courseG K T.C T.C_Course .take .take asG) [] E0 (tCons (tVar 0) (tCons (tVar 2) tNil))) ((ea_cons (ev_var (v := .ref b) rfl) (ea_cons (ev_var (v := nV g) rfl) ea_nil) : EvA _ _ _ [.ref b, nV g]) H2 (Ex.refl H2) _ fun H3 e3 => ⟨b, r, g, rfl, hb.ex (e12.trans e3), fun H4 c a e4 hc ra => ?_⟩))
    have e14 := e12.trans (e3.trans e4)
    exact cons1_raw (ev_raw (ev_var (v := .ref t) rfl) fun H5 e5 => ⟨c, t, a, .take, _, _, false, st, rowPt .take r, ps, rfl, hc.ex e5, ht.ex (e14.trans e5), gd1, hl, ra.ex e5, row_six pb.ok (by decide), fit_k pb.ok (by omega) (by decide), fun H6 p ys hp e6 h6 r6 => q H6 p ys (fresh_back (e14.trans e5) hp) ((e14.trans e5).trans e6) h6 r6⟩)
theorem ok_give_plan (T : Txt K mg w) (G_check_group : FnG P w K mg base CX0 3 T.f_check_group T.fd_check_group ["tree", "value"] (MyT.sp_check_group T.C_Tree)) (G_plan : FnG P w K mg base CX0 8 T.f_plan T.fd_plan ["course", "tree"] (sp_planG K T.C_Course T.C_Tree)) (G_give_course : FnG P w K mg base CX0 4 T.f_give_course T.fd_give_course ["book", "old"] (sp_courseG K T.C T.C_Course .give .give asO)) : FnG P w K mg base CX0 9 T.f_give_plan T.fd_give_plan ["book", "tree", "home"] (sp_planN K T.C T.C_Tree .give .give) := by
  skip
  refine okG T.F_give_plan sc_give_plan (fun vs H Q E h => ?_) (fun cdv A outer s H vs Q E gd hr h => ?_)
  · obtain ⟨_, _, _, _, _, _, rfl, _⟩ := h
    all_goals rfl
  · obtain ⟨b, t, r, st, ps, g, rfl, hb, ht, gd1, hl, hg, q⟩ := h
    refine ⟨_, (pss_cons (ps_expr (pc gd G_check_group (hr.mono (by decide)) (by rfl) T.m_check_group T.F_check_group.kp T.b_check_group .nil pass0 (pa_cons (pv 1) (pa_cons (pv 2) pa_nil)))) (pss_one (ps_ret (pc gd G_plan (hr.mono (by decide)) (by rfl) T.m_plan T.F_plan.kp T.b_plan .nil pass0 (pa_cons (pc gd G_give_course (hr.mono (by decide)) (by rfl) T.m_give_course T.F_give_course.kp T.b1_give_course T.v1_give_course pass0 (pa_cons (pv 0) (pa_cons (pv 2) pa_nil))) (pa_cons (pv 1) pa_nil)))))), ?_⟩
    obtain ⟨dx, d, pb⟩ := id hb
    refine q_dropR ((ea_cons (ev_var (v := .ref t) rfl) (ea_cons (ev_var (v := nV g) rfl) ea_nil) : EvA _ _ _ [.ref t, nV g]) H (Ex.refl H) _ fun H1 e1 => ⟨t, ps, st, g, rfl, ht.ex e1, hl, hg, fun H2 e2 => ?_⟩)
    have e12 := e1.trans e2
    refine s_retR (cons_rw (te := tCall (sp_courseG K T.C T.C_Course .give .give asO) [] E0 (tCons (tVar 0) (tCons (tVar 2) tNil))) ((ea_cons (ev_var (v := .ref b) rfl) (ea_cons (ev_var (v := nV g) rfl) ea_nil) : EvA _ _ _ [.ref b, nV g]) H2 (Ex.refl H2) _ fun H3 e3 => ⟨b, r, g, rfl, hb.ex (e12.trans e3), fun H4 c a e4 hc ra => ?_⟩))
    have e14 := e12.trans (e3.trans e4)
    exact cons1_raw (ev_raw (ev_var (v := .ref t) rfl) fun H5 e5 => ⟨c, t, a, .give, _, _, false, st, rowPt .give r, ps, rfl, hc.ex e5, ht.ex (e14.trans e5), gd1, hl, ra.ex e5, row_six pb.ok (by decide), fit_k pb.ok (by omega) (by decide), fun H6 p ys hp e6 h6 r6 => q H6 p ys (fresh_back (e14.trans e5) hp) ((e14.trans e5).trans e6) h6 r6⟩)
theorem ok_settle_plan (T : Txt K mg w) (G_check_group : FnG P w K mg base CX0 3 T.f_check_group T.fd_check_group ["tree", "value"] (MyT.sp_check_group T.C_Tree)) (G_plan : FnG P w K mg base CX0 8 T.f_plan T.fd_plan ["course", "tree"] (sp_planG K T.C_Course T.C_Tree)) (G_settle_course : FnG P w K mg base CX0 3 T.f_settle_course T.fd_settle_course ["group"] (sp_scourseG K T.C_Course)) : FnG P w K mg base CX0 9 T.f_settle_plan T.fd_settle_plan ["tree", "group"] (sp_splanN K T.C_Tree) := by
  skip
  refine okG T.F_settle_plan sc_settle_plan (fun vs H Q E h => ?_) (fun cdv A outer s H vs Q E gd hr h => ?_)
  · obtain ⟨_, _, _, _, rfl, _⟩ := h
    all_goals rfl
  · obtain ⟨t, st, ps, g, rfl, ht, gd1, hl, hg, q⟩ := h
    refine ⟨_, (pss_cons (ps_expr (pc gd G_check_group (hr.mono (by decide)) (by rfl) T.m_check_group T.F_check_group.kp T.b_check_group .nil pass0 (pa_cons (pv 0) (pa_cons (pv 1) pa_nil)))) (pss_one (ps_ret (pc gd G_plan (hr.mono (by decide)) (by rfl) T.m_plan T.F_plan.kp T.b_plan .nil pass0 (pa_cons (pc gd G_settle_course (hr.mono (by decide)) (by rfl) T.m_settle_course T.F_settle_course.kp T.b_settle_course .nil pass0 (pa_cons (pv 1) pa_nil)) (pa_cons (pv 0) pa_nil)))))), ?_⟩
    refine q_dropR ((ea_cons (ev_var (v := .ref t) rfl) (ea_cons (ev_var (v := nV g) rfl) ea_nil) : EvA _ _ _ [.ref t, nV g]) H (Ex.refl H) _ fun H1 e1 => ⟨t, ps, st, g, rfl, ht.ex e1, hl, hg, fun H2 e2 => ?_⟩)
    have e12 := e1.trans e2
    refine s_retR (cons_rw (te := tCall (sp_scourseG K T.C_Course) [] E0 (tCons (tVar 1) tNil)) (cons1_raw (ev_raw (ev_var (v := nV g) rfl) fun H3 e3 => ⟨g, rfl, fun H4 c a e4 hc ra => ?_⟩)))
    have e14 := e12.trans (e3.trans e4)
    exact cons1_raw (ev_raw (ev_var (v := .ref t) rfl) fun H5 e5 => ⟨c, t, a, .settle, some g, none, false, st, [.off], ps, rfl, hc.ex e5, ht.ex (e14.trans e5), gd1, hl, ra.ex e5, by decide, fit_settle (by omega), fun H6 p ys hp e6 h6 r6 => q H6 p ys (fresh_back (e14.trans e5) hp) ((e14.trans e5).trans e6) h6 r6⟩)
theorem ok_lift_plan (T : Txt K mg w) (G_check_group : FnG P w K mg base CX0 3 T.f_check_group T.fd_check_group ["tree", "value"] (MyT.sp_check_group T.C_Tree)) (G_plan : FnG P w K mg base CX0 8 T.f_plan T.fd_plan ["course", "tree"] (sp_planG K T.C_Course T.C_Tree)) (G_lift_course : FnG P w K mg base CX0 4 T.f_lift_course T.fd_lift_course ["book", "group"] (sp_courseG K T.C T.C_Course .lift .lift asG)) : FnG P w K mg base CX0 9 T.f_lift_plan T.fd_lift_plan ["book", "tree", "home"] (sp_lplanN K T.C T.C_Tree) := by
  skip
  refine okG T.F_lift_plan sc_lift_plan (fun vs H Q E h => ?_) (fun cdv A outer s H vs Q E gd hr h => ?_)
  · obtain ⟨_, _, _, _, _, _, rfl, _⟩ := h
    all_goals rfl
  · obtain ⟨b, t, r, st, ps, g, rfl, hb, ht, gd1, hl, hg, h0, q⟩ := h
    refine ⟨_, (pss_cons (ps_expr (pc gd G_check_group (hr.mono (by decide)) (by rfl) T.m_check_group T.F_check_group.kp T.b_check_group .nil pass0 (pa_cons (pv 1) (pa_cons (pv 2) pa_nil)))) (pss_cons (ps_if (pt_cmpR op_eq (pv 2) pe_int (nomark _)) (pss_one ps_never) pss_nil) (pss_one (ps_ret (pc gd G_plan (hr.mono (by decide)) (by rfl) T.m_plan T.F_plan.kp T.b_plan .nil pass0 (pa_cons (pc gd G_lift_course (hr.mono (by decide)) (by rfl) T.m_lift_course T.F_lift_course.kp T.b_lift_course .nil pass0 (pa_cons (pv 0) (pa_cons (pv 2) pa_nil))) (pa_cons (pv 1) pa_nil))))))), ?_⟩
    obtain ⟨dx, d, pb⟩ := id hb
    refine q_dropR ((ea_cons (ev_var (v := .ref t) rfl) (ea_cons (ev_var (v := nV g) rfl) ea_nil) : EvA _ _ _ [.ref t, nV g]) H (Ex.refl H) _ fun H1 e1 => ⟨t, ps, st, g, rfl, ht.ex e1, hl, hg, fun H2 e2 => ?_⟩)
    have e12 := e1.trans e2
    refine q_when (b := decide (g = 0)) (et_test (ev_is (ev_op (ev_var (v := nV g) rfl) ev_c (rv_eq rfl)) (congrArg V.bl (MyT.nV_eq g 0)))) (fun hb0 H3 e3 => absurd (of_decide_eq_true hb0) h0) fun hb0 H3 e3 => ?_
    have e13 := e12.trans e3
    refine s_retR (cons_rw (te := tCall (sp_courseG K T.C T.C_Course .lift .lift asG) [] E0 (tCons (tVar 0) (tCons (tVar 2) tNil))) ((ea_cons (ev_var (v := .ref b) rfl) (ea_cons (ev_var (v := nV g) rfl) ea_nil) : EvA _ _ _ [.ref b, nV g]) H3 (Ex.refl H3) _ fun H3' e3' => ⟨b, r, g, rfl, hb.ex (e13.trans e3'), fun H4 c a e4 hc ra => ?_⟩))
    have e14 := e13.trans (e3'.trans e4)
    exact cons1_raw (ev_raw (ev_var (v := .ref t) rfl) fun H5 e5 => ⟨c, t, a, .lift, _, _, false, st, rowPt .lift r, ps, rfl, hc.ex e5, ht.ex (e14.trans e5), gd1, hl, ra.ex e5, row_six pb.ok (by decide), fit_k pb.ok (by omega) (by decide), fun H6 p ys hp e6 h6 r6 => q H6 p ys (fresh_back (e14.trans e5) hp) ((e14.trans e5).trans e6) h6 r6⟩)
theorem ok_Bwith_row (T : Txt K mg w) (G_check_row_kind : FnG P w K mg base CX0 2 T.f_check_row_kind T.fd_check_row_kind ["value"] sp_ckind) (G_Binit : FnG P w K mg base CX0 7 T.f_Binit T.fd_Binit ["self", "take", "give", "move", "lift", "fails", "shared", "holds", "batch", "settles"] (sp_Binit K T.C)) : FnG P w K mg base CX0 9 T.f_Bwith_row T.fd_Bwith_row ["self", "kind", "row"] (sp_Bwr K T.C) := by
  skip
  refine okG T.F_Bwith_row sc_Bwith_row (fun vs H Q E h => ?_) (fun cdv A outer s H vs Q E gd hr h => ?_)
  · obtain ⟨_, _, _, _, _, rfl, _⟩ := h
    all_goals rfl
  · obtain ⟨a, b, r, m, p0, rfl, hp, ⟨dx, d, p⟩, hb, okm, q⟩ := h
    refine ⟨_, (pss_cons (ps_expr (pc gd G_check_row_kind (hr.mono (by decide)) (by rfl) T.m_check_row_kind T.F_check_row_kind.kp T.b_check_row_kind .nil pass0 (pa_cons (pv 1) pa_nil))) (pss_cons (ps_set (i := 3) sc_Bwith_row.nd rfl (Or.inl rfl) (pe_starD (pe_fld (pv 0) rfl) (pps_cons (pv 1) (pv 2) pps_nil) rfl rfl (by simp) (by simp))) (pss_one (ps_ret (pkD gd T.mk_Book G_Binit (hr.mono (by decide)) (by rfl) T.m_Book T.k_Binit pass0 (pv 3)))))), ?_⟩
    obtain ⟨f, hd0, hf0⟩ := id p.di
    have hx0 := p.ob
    obtain ⟨kw, hkw, ekw⟩ : ∃ kw, kw ∈ kindRows ∧ (.str p0.s : V) = wV kw := by
      simp only [rowPs, List.mem_cons, List.not_mem_nil, or_false] at hp
      rcases hp with rfl | rfl | rfl | rfl
      · exact ⟨.take, by decide, rfl⟩
      · exact ⟨.give, by decide, rfl⟩
      · exact ⟨.move, by decide, rfl⟩
      · exact ⟨.lift, by decide, rfl⟩
    refine q_dropR ⟨_, rfl, kw, by rw [← ekw]; rfl, hkw, fun Hz ez => ?_⟩
    have hd := ez _ _ hd0
    have hx := ez _ _ hx0
    have hf := fun q hq => (hf0 q hq).ex ez
    have hb' := hb.ex ez
    refine q_asgR fun pn hpn => ⟨_, rfl, a, T.C, dx, _, .ref d, rfl, Ex.new hpn _ _ hx, T.c_Book, T.n_parts, bf_parts d, upd_same, d, kvs bookKs f, rfl, .inl (Ex.new hpn _ _ hd), (ne_of_none hd hpn).symm, (by show 9 ≤ 1000; omega), fun q2 nq hq => ?_⟩
    refine ⟨.str p0.s, rfl, .ref b, rfl, by rw [upd_ne nq.symm, upd_same], upd_same, kvs [p0] (put f p0 (.ref b)), ?_, (by show 1 ≤ 15; omega), ?_⟩
    · show [(V.str p0.s, V.ref b)] = [(V.str p0.s, put f p0 (V.ref b) p0)]
      unfold put
      rw [if_pos rfl]
    rw [made_kvs _ (show [p0].Nodup from List.nodup_cons.mpr ⟨List.not_mem_nil, List.nodup_nil⟩), merge_put f (bookKs_mem _)]
    have hq0 : Hz q2 = none := by rwa [upd_ne nq] at hq
    have e1 : Ex Hz (upd (upd (upd (upd (upd Hz pn (.dK [])) pn (.dK (kvs bookKs f))) q2 (.dK [])) q2 (.dK (kvs [p0] (put f p0 (.ref b))))) pn (.dK (kvs bookKs (put f p0 (.ref b))))) := Ex.mut (Ex.mut (Ex.mut (Ex.mut (Ex.new hpn) hpn) hq0) hq0) hpn
    have h1 : (upd (upd (upd (upd (upd Hz pn (.dK [])) pn (.dK (kvs bookKs f))) q2 (.dK [])) q2 (.dK (kvs [p0] (put f p0 (.ref b))))) pn (.dK (kvs bookKs (put f p0 (.ref b))))) pn = some (.dK (kvs bookKs (put f p0 (.ref b)))) := upd_same
    generalize upd (upd (upd (upd (upd Hz pn (.dK [])) pn (.dK (kvs bookKs f))) q2 (.dK [])) q2 (.dK (kvs [p0] (put f p0 (.ref b))))) pn (.dK (kvs bookKs (put f p0 (.ref b)))) = H1 at e1 h1
    have hg : ∀ p', ((Ru.upd r m p0).get p').At K H1 (put f p0 (.ref b) p') := fun p' => by
      rw [Ru.get_upd]
      by_cases z : p' = p0
      · subst z
        unfold put
        rw [if_pos rfl, if_pos rfl]
        exact hb'.ex e1
      · unfold put
        rw [if_neg z, if_neg z]
        exact (hf p' (bookKs_mem _)).ex e1
    refine s_retR (fun pk hpk => ⟨_, rfl, upd_same, pn, bookKs.map (put f p0 (.ref b)), rfl, (ne_of_none h1 hpk).symm, .inl (by
      rw [upd_ne (ne_of_none h1 hpk), h1]
      rfl), rfl, (by show 9 ≤ 1000; omega), fun x dy hx0 hdy ndx => ?_⟩)
    have hpk1 : H1 pk = none := hpk
    have nxk : x ≠ pk := fun z => by rw [z, upd_same] at hx0; cases hx0
    have nyk : dy ≠ pk := fun z => by rw [z, upd_same] at hdy; cases hdy
    have hx1 : H1 x = none := by rwa [upd_ne nxk, upd_ne nxk] at hx0
    have hy1 : H1 dy = none := by rwa [upd_ne nyk, upd_ne nyk] at hdy
    refine ⟨H1, x, dy, Ru.upd r m p0, put f p0 (.ref b), rfl, ?_, hx1, upd_same, hg, okm, fun H2 e2 hb2 => ⟨rfl, q H2 x (fresh_back (ez.trans e1) hx1) ((ez.trans e1).trans e2) hb2.at⟩⟩
    exact Ex.mut (Ex.mut (Ex.mut (Ex.new hpk1) hpk1) hy1) hx1
end
end My
namespace My
open PySem PySem.Spec PyProof.Rows L2 GL Evl StX SkE
/-! ### other rows and holds that are refused -/
def sp_islistX (K : PySem.W.Frag) : Sp := fun vs H Q _ => ∃ x t b, vs = [x] ∧ (∀ H1, Ex H H1 → TyX K H1 x t) ∧ PySem.W.kitAny K t [.type "list", .type "tuple"] = some b ∧ RetV (.bl b) H Q
def BadGive (r : Ru) : Prop := RowOk r.take ∧ pRow .take r.take = true ∧ RowOk r.give ∧ pRow .give r.give = false
def sp_crowsX (K : PySem.W.Frag) (cR : Addr) : Sp := fun vs H Q E => ∃ d r, vs = [.ref d] ∧ DictAt K H d rowKs r ∧ ((Ok r ∧ RetV .non H Q) ∨ (BadGive r ∧ ∀ H' dd, ExB d H H' → E (.ref cR) (some dd) H'))
def sp_chX (K : PySem.W.Frag) (cH : Addr) : Sp := fun vs H Q E => ∃ z : Int, vs = [.int z] ∧ ∀ H' dd, Ex H H' → E (.ref cH) (some dd) H'
def sp_BinitX (K : PySem.W.Frag) (C cR cH : Addr) : Sp := fun vs H Q E => ∃ H0 x dx r, ∃ f : Pt → V, vs = .ref x :: bookKs.map f ∧ Ex H0 H ∧ H0 x = none ∧ H x = some (.ins C dx []) ∧
  (((∀ p ∈ rowKs, (r.get p).At K H0 (f p)) ∧ BadGive r ∧ ∀ H' dd, Ex H0 H' → E (.ref cR) (some dd) H') ∨
   ((∀ p, p ≠ .holds → (r.get p).At K H0 (f p)) ∧ Ok r ∧ (∃ z : Int, f .holds = .int z) ∧ ∀ H' dd, Ex H0 H' → E (.ref cH) (some dd) H'))
def sp_BwrX (K : PySem.W.Frag) (C cR : Addr) : Sp := fun vs H Q E => ∃ a b r, ∃ us : Rw, vs = [.ref a, .str (Pt.s .give), .ref b] ∧ BookAt K C H a r ∧ RowX K H b us ∧ RowOk us ∧ pRow .give us = false ∧ ∀ H' dd, Ex H H' → E (.ref cR) (some dd) H'
def sp_BwhX (K : PySem.W.Frag) (C cH : Addr) : Sp := fun vs H Q E => ∃ a r, ∃ z : Int, vs = [.ref a, .int z] ∧ BookAt K C H a r ∧ ∀ H' dd, Ex H H' → E (.ref cH) (some dd) H'
section
variable {P : Program} {w : World} {K : PySem.W.Frag} {mg : Str → Option Value} {base : Heap} {C CC CT cR cH : Addr} {H H' H0 H1 : Hp} {σ : L2.St} {te tb ta tc : TE} {tt : TT} {tA : TA} {E Er : XK} {D : Ends} {tz : TS} {a b d t : Addr} {us : Rw} {xs ys : List V} {rs qs : List Rw} {ks : List Pt} {r l : Ru} {p : Pt} {v x : V} {Q : VK} {k : Kd} {ps st : List Nat}
theorem ok_is_listX (T : Txt K mg w)  : FnG P w K mg base CX0 1 T.f_is_list T.fd_is_list ["value"] (sp_islistX K) := by
  skip
  refine okG T.F_is_list sc_is_list (fun vs H Q E h => ?_) (fun cdv A outer s H vs Q E gd hr h => ?_)
  · obtain ⟨_, _, _, rfl, _⟩ := h
    all_goals rfl
  · obtain ⟨x, t, b, rfl, ty, k, q⟩ := h
    refine ⟨_, (pss_one (ps_ret (pe_callB call_isiT (by rfl) T.z_isinstance boot_isinstance (pa_cons (pv 0) (pa_cons (pe_tup (pa_cons (pe_bltn (v := .ty "list") (u := .type "list") (by rfl) T.z_list (by decide +kernel) rfl) (pa_cons (pe_bltn (v := .ty "tuple") (u := .type "tuple") (by rfl) T.z_tuple (by decide +kernel) rfl) pa_nil))) pa_nil))))), ?_⟩
    refine ⟨_, rfl, (by show 2 ≤ sizeLine; decide), fun p hp => ?_⟩
    have e := Ex.new (o := .tup [.ty "list", .ty "tuple"]) hp
    exact ⟨x, p, _, _, _, b, rfl, upd_same, .cons (.ty "list") (.cons (.ty "tuple") .nil), ty _ e, k, q _ e⟩
theorem sv_listX {t : Value} {b : Bool} {x : V} (ty : ∀ H1, Ex H H1 → TyX K H1 x t) (k : PySem.W.kitAny K t [.type "list", .type "tuple"] = some b) : SpV (sp_islistX K) [x] H (.bl b) := fun _ e _ q _ => ⟨x, t, b, rfl, fun H1 e1 => ty H1 (e.trans e1), k, q⟩
theorem ok_check_holdsX (T : Txt K mg w) (G_is_listX : FnG P w K mg base CX0 1 T.f_is_list T.fd_is_list ["value"] (sp_islistX K)) (G_are_different_words : FnG P w K mg base CX0 2 T.f_are_different_words T.fd_are_different_words ["values", "words"] (sp_adw K)) : FnG P w K mg base (L2.CX P w) 6 T.f_check_holds T.fd_check_holds ["value"] (sp_chX K T.C_InvalidHolds) := by
  skip
  refine okGX T.F_check_holds sc_check_holds (fun vs H Q E h => ?_) (fun cdv A outer s H vs Q E gd hr h => ?_)
  · obtain ⟨_, rfl, _⟩ := h
    all_goals rfl
  · obtain ⟨z, rfl, q⟩ := h
    have tk : Takes (cxOf (L2.CX P w) P w K mg base N_check_holds "check_holds" (defScope s_check_holds) T.f_check_holds cdv A outer s H E) (fun cls d _ H => E cls d H) := takes_of rfl rfl rfl rfl
    refine ⟨_, (pss_one (ps_if (PT.nox ((pw_or (pt_not (pt_val (pc gd G_is_listX (hr.mono (by decide)) (by rfl) T.m_is_list T.F_is_list.kp T.b_is_list .nil pass0 (pa_cons (pv 0) pa_nil)))) (pw_or1 (pt_not (pt_val (pc gd G_are_different_words (hr.mono (by decide)) (by rfl) T.m_are_different_words T.F_are_different_words.kp T.b_are_different_words .nil pass0 (pa_cons (pv 0) (pa_cons (pe_glob (v := .ref T.g_ROW_KINDS) (by rfl) T.m_ROW_KINDS rfl) pa_nil)))))))).pt) (pss_one (ps_raise rfl tk (pmk_value PySem.F.store_ValueError PySem.F.excBase_ValueError T.X_InvalidHolds hr (by rfl) T.m_InvalidHolds (pa_cons (pv 0) pa_nil)))) pss_nil)), ?_⟩
    refine s_when (b := true) (et_or (a := true) (b := false) (et_is (et_not (a := false) (et_B (ev_call (ea_cons (ev_var rfl) ea_nil) (sv_listX (t := .type "int") (b := false) (fun H1 _ => .base (.int z)) (kitAny_cons (b := false) (kit_ty (by decide +kernel)) (fun _ => kitAny_cons (b := false) (kit_ty (by decide +kernel)) (fun _ => rfl) (fun z => nomatch z)) (fun z => nomatch z)))))) rfl) fun z => nomatch z) (fun _ H1 e1 => ?_) fun z => nomatch z
    exact (ea_cons (ev_var (v := .int z) rfl) ea_nil : EvA _ _ _ [.int z]) H1 (Ex.refl H1) _ fun H2 e2 => ⟨.int z, rfl, fun dd hd => q _ dd ((e1.trans e2).trans (Ex.new hd))⟩
theorem ok_check_rowsX (T : Txt K mg w) (G_is_row : FnG P w K mg base CX0 5 T.f_is_row T.fd_is_row ["kind", "value"] (sp_isrow K)) : FnG P w K mg base (L2.CX P w) 6 T.f_check_rows T.fd_check_rows ["rows"] (sp_crowsX K T.C_InvalidRow) := by
  skip
  refine okGX T.F_check_rows sc_check_rows (fun vs H Q E h => ?_) (fun cdv A outer s H vs Q E gd hr h => ?_)
  · obtain ⟨_, _, rfl, _⟩ := h
    all_goals rfl
  · obtain ⟨d, r, rfl, ⟨f, hd, hf⟩, q⟩ := h
    have tk : Takes (cxOf (L2.CX P w) P w K mg base N_check_rows "check_rows" (defScope s_check_rows) T.f_check_rows cdv A outer s H E) (fun cls d _ H => E cls d H) := takes_of rfl rfl rfl rfl
    refine ⟨_, (pss_one (ps_lock (ps_for (passes_of rfl) rfl (pi_items (pv 0)) (pg_tup rfl (pgs_cons (pg_name (i := 1) sc_check_rows.nd rfl (Or.inl rfl) (Or.inr rfl)) (pgs_cons (pg_name (i := 2) sc_check_rows.nd rfl (Or.inl rfl) (Or.inr rfl)) pgs_nil))) (pss_one (ps_if (PT.nox (pt_not (pt_val (pc gd G_is_row (hr.mono (by decide)) (by rfl) T.m_is_row T.F_is_row.kp T.b_is_row .nil pass0 (pa_cons (pv 1) (pa_cons (pv 2) pa_nil)))))) (pss_one (ps_raise rfl tk (pmk_kv PySem.F.store_ValueError PySem.F.excBase_ValueError T.X_InvalidRow hr (by rfl) T.m_InvalidRow (pa_cons (pv 1) (pa_cons (pv 2) pa_nil))))) pss_nil))))), ?_⟩
    rcases q with ⟨ok, q⟩ | ⟨bad, q⟩
    · refine ⟨d, _, hd, True.intro, fun od => ⟨_, rfl, d, od, kvs rowKs f, rfl, upd_same, for_it walk_items (fun i σ' H' => ∃ x y, σ' = [some (.ref d), x, y] ∧ ExB d H H' ∧ H' d = some (.frz od (.dK (kvs rowKs f)))) ⟨_, _, rfl, ExB.set, upd_same⟩ (fun i σ' H' _ p => ?_) (fun i v σ' H' H2 hi p y => ?_) (fun σ' H' p => ?_)⟩⟩
      · obtain ⟨_, _, _, _, z⟩ := p
        exact z
      · obtain ⟨_, _, rfl, x1, h1⟩ := p
        obtain ⟨T1, x, z, rfl, nT, rfl, e1, e2⟩ := y
        have hi' : i < rowKs.length := by rwa [List.length_map] at hi
        obtain ⟨p, hp⟩ : ∃ p, rowKs[i]? = some p := ⟨_, List.getElem?_eq_getElem hi'⟩
        have hk : (kvs rowKs f)[i]? = some (.inr p.s, f p) := by rw [List.getElem?_map, hp]; rfl
        dsimp only at e1 e2
        rw [hk] at e1 e2
        cases e1
        cases e2
        have mp := List.mem_of_getElem? hp
        obtain ⟨o1, o2, o3, o4, o5⟩ := rows_ok ok mp
        have at1 := hf p mp
        rw [o3] at at1
        obtain ⟨a, ea, ra⟩ := at1
        have ra2 := (ra.exB x1 (NoTup.dK hd)).ex (Ex.new (o := .tup [kV (.inr p.s), f p]) nT)
        refine ⟨T1, _, rfl, st_of upd_same, rfl, _, _, rfl, _, _, rfl, rfl, ?_⟩
        refine s_when (b := false) (et_is (et_not (et_B (ev_call (ea_cons (ev_is (ev_var rfl) o5) (ea_cons (ev_is (ev_var rfl) ea) ea_nil)) (sv_isrow o4 ra2 o1)))) (by rw [o2]; rfl)) (fun z => nomatch z) fun _ H3 e3 => ⟨_, _, rfl, ?_, ?_⟩
        · exact fun b o n hb => e3 _ _ (Ex.new nT _ _ (x1 b o n hb))
        · exact e3 _ _ (Ex.new nT _ _ h1)
      · obtain ⟨_, _, rfl, x1, h1⟩ := p
        exact ⟨h1, q _ (unlock_ex x1 hd)⟩
    · refine ⟨d, _, hd, True.intro, fun od => ⟨_, rfl, d, od, kvs rowKs f, rfl, upd_same, for_it walk_items (fun i σ' H' => ∃ x y, σ' = [some (.ref d), x, y] ∧ ExB d H H' ∧ H' d = some (.frz od (.dK (kvs rowKs f))) ∧ i ≤ 1) ⟨_, _, rfl, ExB.set, upd_same, Nat.zero_le _⟩ (fun i σ' H' _ p => ?_) (fun i v σ' H' H2 hi p y => ?_) (fun σ' H' p => ?_)⟩⟩
      · obtain ⟨_, _, _, _, z, _⟩ := p
        exact z
      · obtain ⟨_, _, rfl, x1, h1, i1⟩ := p
        obtain ⟨T1, x, z, rfl, nT, rfl, e1, e2⟩ := y
        have hi' : i < rowKs.length := by rwa [List.length_map] at hi
        obtain ⟨p, hp⟩ : ∃ p, rowKs[i]? = some p := ⟨_, List.getElem?_eq_getElem hi'⟩
        have hk : (kvs rowKs f)[i]? = some (.inr p.s, f p) := by rw [List.getElem?_map, hp]; rfl
        dsimp only at e1 e2
        rw [hk] at e1 e2
        cases e1
        cases e2
        have mp := List.mem_of_getElem? hp
        obtain ⟨b1, b2, b3, b4⟩ := bad
        by_cases i0 : i = 0
        · subst i0
          obtain rfl : p = .take := (Option.some.inj hp).symm
          obtain ⟨a, ea, ra⟩ := hf .take mp
          have ra2 := (ra.exB x1 (NoTup.dK hd)).ex (Ex.new (o := .tup [kV (.inr (Pt.s .take)), f .take]) nT)
          refine ⟨T1, _, rfl, st_of upd_same, rfl, _, _, rfl, _, _, rfl, rfl, ?_⟩
          refine s_when (b := false) (et_is (et_not (et_B (ev_call (ea_cons (ev_is (ev_var rfl) (show kV (.inr (Pt.s .take)) = wV .take from rfl)) (ea_cons (ev_is (ev_var rfl) ea) ea_nil)) (sv_isrow (k := .take) (by decide) ra2 b1)))) (by rw [b2]; rfl)) (fun z => nomatch z) fun _ H3 e3 => ⟨_, _, rfl, ?_, ?_, Nat.le_refl _⟩
          · exact fun b o n hb => e3 _ _ (Ex.new nT _ _ (x1 b o n hb))
          · exact e3 _ _ (Ex.new nT _ _ h1)
        · obtain rfl : i = 1 := by omega
          obtain rfl : p = .give := (Option.some.inj hp).symm
          obtain ⟨a, ea, ra⟩ := hf .give mp
          have ra2 := (ra.exB x1 (NoTup.dK hd)).ex (Ex.new (o := .tup [kV (.inr (Pt.s .give)), f .give]) nT)
          refine ⟨T1, _, rfl, st_of upd_same, rfl, _, _, rfl, _, _, rfl, rfl, ?_⟩
          refine s_when (b := true) (et_is (et_not (et_B (ev_call (ea_cons (ev_is (ev_var rfl) (show kV (.inr (Pt.s .give)) = wV .give from rfl)) (ea_cons (ev_is (ev_var rfl) ea) ea_nil)) (sv_isrow (k := .give) (by decide) ra2 b3)))) (by rw [b4]; rfl)) (fun _ H3 e3 => ?_) fun z => nomatch z
          exact (ea_cons (ev_var rfl) (ea_cons (ev_var rfl) ea_nil) : EvA _ _ _ [kV (.inr (Pt.s .give)), f .give]) H3 (Ex.refl H3) _ fun H4 e4 => ⟨_, _, rfl, fun dd hdd => q _ dd fun b o n hb => (Ex.new hdd) _ _ (e4 _ _ (e3 _ _ (Ex.new nT _ _ (x1 b o n hb))))⟩
      · obtain ⟨_, _, rfl, x1, h1, i1⟩ := p
        exact absurd i1 (by show ¬ (4 : Nat) ≤ 1; decide)
end
end My
namespace My
open PySem PySem.Spec PyProof.Rows L2 GL Evl StX SkE
section
variable {P : Program} {w : World} {K : PySem.W.Frag} {mg : Str → Option Value} {base : Heap} {C CC CT cR cH : Addr} {H H' H0 H1 : Hp} {σ : L2.St} {te tb ta tc : TE} {tt : TT} {tA : TA} {E Er : XK} {D : Ends} {tz : TS} {a b d t : Addr} {us : Rw} {xs ys : List V} {rs qs : List Rw} {ks : List Pt} {r l : Ru} {p : Pt} {v x : V} {Q : VK} {k : Kd} {ps st : List Nat}
theorem ok_BinitX (T : Txt K mg w) (G_check_rowsX : FnG P w K mg base (L2.CX P w) 6 T.f_check_rows T.fd_check_rows ["rows"] (sp_crowsX K T.C_InvalidRow)) (G_check_fails : FnG P w K mg base CX0 2 T.f_check_fails T.fd_check_fails ["value"] sp_cfails) (G_check_bool : FnG P w K mg base CX0 1 T.f_check_bool T.fd_check_bool ["name", "value"] sp_cbool) (G_check_holdsX : FnG P w K mg base (L2.CX P w) 6 T.f_check_holds T.fd_check_holds ["value"] (sp_chX K T.C_InvalidHolds)) (G_check_batch : FnG P w K mg base CX0 2 T.f_check_batch T.fd_check_batch ["value"] sp_cbatch) (G_fits_batch : FnG P w K mg base CX0 1 T.f_fits_batch T.fd_fits_batch ["row", "batch"] (sp_fitb K)) (G_fits_shared : FnG P w K mg base CX0 1 T.f_fits_shared T.fd_fits_shared ["row", "shared"] (sp_fits K)) : FnG P w K mg base (L2.CX P w) 7 T.f_Binit T.fd_Binit ["self", "take", "give", "move", "lift", "fails", "shared", "holds", "batch", "settles"] (sp_BinitX K T.C T.C_InvalidRow T.C_InvalidHolds) := by
  skip
  refine okGX T.F_Binit sc_Binit (fun vs H Q E h => ?_) (fun cdv A outer s H vs Q E gd hr h => ?_)
  · obtain ⟨_, _, _, _, _, rfl, _⟩ := h
    all_goals rfl
  · obtain ⟨H0, x, dx, r, f, rfl, e0, hx0, hx, q⟩ := h
    have tk : Takes (cxOf (L2.CX P w) P w K mg base N_Binit "Book.__init__" (defScope s_Binit) T.f_Binit cdv A outer s H E) (fun cls d _ H => E cls d H) := takes_of rfl rfl rfl rfl
    refine ⟨_, (pss_cons (ps_set (i := 10) sc_Binit.nd rfl (Or.inl rfl) (pe_disp (pps_cons pe_str (pv 1) (pps_cons pe_str (pv 2) (pps_cons pe_str (pv 3) (pps_cons pe_str (pv 4) pps_nil)))) rfl rfl (by simp) (by simp))) (pss_cons (ps_expr (pc gd G_check_rowsX (hr.mono (by decide)) (by rfl) T.m_check_rows T.F_check_rows.kp T.b_check_rows .nil (passes_call tk fun _ _ _ _ z => z) (pa_cons (pv 10) pa_nil))) (pss_cons (ps_expr (PE.nox (pc gd G_check_fails (hr.mono (by decide)) (by rfl) T.m_check_fails T.F_check_fails.kp T.b_check_fails .nil pass0 (pa_cons (pv 5) pa_nil)))) (pss_cons (ps_expr (PE.nox (pc gd G_check_bool (hr.mono (by decide)) (by rfl) T.m_check_bool T.F_check_bool.kp T.b_check_bool .nil pass0 (pa_cons pe_str (pa_cons (pv 6) pa_nil))))) (pss_cons (ps_expr (pc gd G_check_holdsX (hr.mono (by decide)) (by rfl) T.m_check_holds T.F_check_holds.kp T.b_check_holds .nil (passes_call tk fun _ _ _ _ z => z) (pa_cons (pv 7) pa_nil))) (pss_cons (ps_expr (PE.nox (pc gd G_check_batch (hr.mono (by decide)) (by rfl) T.m_check_batch T.F_check_batch.kp T.b_check_batch .nil pass0 (pa_cons (pv 8) pa_nil)))) (pss_cons (ps_expr (PE.nox (pc gd G_check_bool (hr.mono (by decide)) (by rfl) T.m_check_bool T.F_check_bool.kp T.b_check_bool .nil pass0 (pa_cons pe_str (pa_cons (pv 9) pa_nil))))) (pss_cons (ps_if (PT.nox (pt_not (pt_val (pc gd G_fits_batch (hr.mono (by decide)) (by rfl) T.m_fits_batch T.F_fits_batch.kp T.b_fits_batch .nil pass0 (pa_cons (pv 1) (pa_cons (pv 8) pa_nil)))))) (pss_one (ps_raise rfl tk (pmk_kv PySem.F.store_ValueError PySem.F.excBase_ValueError T.X_InvalidRow hr (by rfl) T.m_InvalidRow (pa_cons pe_str (pa_cons (pv 1) pa_nil))))) pss_nil) (pss_cons (ps_if (PT.nox (pt_not (pt_val (pc gd G_fits_shared (hr.mono (by decide)) (by rfl) T.m_fits_shared T.F_fits_shared.kp T.b_fits_shared .nil pass0 (pa_cons (pv 3) (pa_cons (pv 6) pa_nil)))))) (pss_one (ps_raise rfl tk (pmk_kv PySem.F.store_ValueError PySem.F.excBase_ValueError T.X_InvalidRow hr (by rfl) T.m_InvalidRow (pa_cons pe_str (pa_cons (pv 3) pa_nil))))) pss_nil) (pss_cons (ps_set (i := 11) sc_Binit.nd rfl (Or.inl rfl) (pe_callTy call_tuple_of (by rfl) T.z_tuple (by decide +kernel) (pa_cons (pe_lc (own := [("kind", 12)]) (g := gName 12) rfl sc_Binit.nd (pi_tup (pe_glob (v := .ref T.g_ROW_KINDS) (by rfl) T.m_ROW_KINDS rfl)) (blkOk_by (N := N_Binit) (sc := defScope s_Binit) (by decide +kernel)) (fun _ _ _ _ _ => (pg_name (i := 12) sc_Binit.nd rfl (Or.inl rfl) (Or.inr rfl))) (fun _ _ _ _ _ => pts_one (pt_cmpR (show OpR _ (compareOp .In) (rIn K false) from op_in_seq) (pv 12) (pv 7) (by rfl))) (fun _ _ _ _ _ => (pv 12))) pa_nil))) (pss_one (ps_fld (pv 0) (pe_starD (pv 10) (pps_cons pe_str (pv 5) (pps_cons pe_str (pv 6) (pps_cons pe_str (pv 11) (pps_cons pe_str (pv 8) (pps_cons pe_str (pv 9) pps_nil))))) rfl rfl (by simp) (by simp)) rfl)))))))))))), ?_⟩
    refine q_asgR fun d hd => ?_
    refine ⟨f .take, rfl, f .give, rfl, f .move, rfl, f .lift, rfl, upd_same, kvs rowKs f, rfl, (by show 4 ≤ 15; omega), ?_⟩
    rw [made_kvs f (by decide)]
    have e1 : Ex H (upd (upd H d (.dK [])) d (.dK (kvs rowKs f))) := Ex.mut (Ex.new hd) hd
    have h1 : (upd (upd H d (.dK [])) d (.dK (kvs rowKs f))) d = some (.dK (kvs rowKs f)) := upd_same
    generalize upd (upd H d (.dK [])) d (.dK (kvs rowKs f)) = H1 at e1 h1
    have x1 := e0.trans e1
    have hd0 : H0 d = none := fresh_back e0 hd
    show tSeq _ _ _ _ H1
    rcases q with ⟨hf, bad, q⟩ | ⟨hf, ok, ⟨z, hz⟩, q⟩
    · have d1 : DictAt K H1 d rowKs r := ⟨f, h1, fun p hp => (hf p hp).ex x1⟩
      exact q_dropR ((ea_cons (ev_var rfl) ea_nil : EvA _ _ _ [.ref d]) H1 (Ex.refl H1) _ fun H2 e2 => ⟨d, r, rfl, d1.ex e2, .inr ⟨bad, fun H' dd x' => q H' dd fun b o hb => x' b o (fun z => by rw [z, hd0] at hb; cases hb) (e2 _ _ (x1 _ _ hb))⟩⟩)
    · have d1 : DictAt K H1 d rowKs r := ⟨f, h1, fun p hp => (hf p (fun z => by subst z; revert hp; decide)).ex x1⟩
      have tfl : f .fails = wV r.fails := hf .fails (by decide)
      have tsh : f .shared = .bl r.shared := hf .shared (by decide)
      refine q_dropR ((ea_cons (ev_var rfl) ea_nil : EvA _ _ _ [.ref d]) H1 (Ex.refl H1) _ fun H2 e2 => ⟨d, r, rfl, d1.ex e2, .inl ⟨ok, fun H3 e3 => ?_⟩⟩)
      refine q_drop (ev_call (ea_cons (ev_is (ev_var rfl) tfl) ea_nil) (fun _ _ _ q _ => ⟨r.fails, rfl, ok.f, q⟩)) fun H4 e4 => ?_
      refine q_drop (ev_call (ea_cons ev_c (ea_cons (ev_is (ev_var rfl) tsh) ea_nil)) (fun _ _ _ q _ => ⟨_, r.shared, rfl, q⟩)) fun H5 e5 => ?_
      exact q_dropR ((ea_cons (ev_is (ev_var rfl) hz) ea_nil : EvA _ _ _ [.int z]) H5 (Ex.refl H5) _ fun H6 e6 => ⟨z, rfl, fun H' dd e' => q H' dd (x1.trans (e2.trans (e3.trans (e4.trans (e5.trans (e6.trans e'))))))⟩)
theorem ok_Bwith_rowX (T : Txt K mg w) (G_check_row_kind : FnG P w K mg base CX0 2 T.f_check_row_kind T.fd_check_row_kind ["value"] sp_ckind) (G_BinitX : FnG P w K mg base (L2.CX P w) 7 T.f_Binit T.fd_Binit ["self", "take", "give", "move", "lift", "fails", "shared", "holds", "batch", "settles"] (sp_BinitX K T.C T.C_InvalidRow T.C_InvalidHolds)) : FnG P w K mg base (L2.CX P w) 9 T.f_Bwith_row T.fd_Bwith_row ["self", "kind", "row"] (sp_BwrX K T.C T.C_InvalidRow) := by
  skip
  refine okGX T.F_Bwith_row sc_Bwith_row (fun vs H Q E h => ?_) (fun cdv A outer s H vs Q E gd hr h => ?_)
  · obtain ⟨_, _, _, _, rfl, _⟩ := h
    all_goals rfl
  · obtain ⟨a, b, r, us, rfl, ⟨dx, d, p⟩, hb, oku, bad, q⟩ := h
    have tk : Takes (cxOf (L2.CX P w) P w K mg base N_Bwith_row "Book.with_row" (defScope s_Bwith_row) T.f_Bwith_row cdv A outer s H E) (fun cls d _ H => E cls d H) := takes_of rfl rfl rfl rfl
    refine ⟨_, (pss_cons (ps_expr (PE.nox (pc gd G_check_row_kind (hr.mono (by decide)) (by rfl) T.m_check_row_kind T.F_check_row_kind.kp T.b_check_row_kind .nil pass0 (pa_cons (pv 1) pa_nil)))) (pss_cons (ps_set (i := 3) sc_Bwith_row.nd rfl (Or.inl rfl) (pe_starD (pe_fld (pv 0) rfl) (pps_cons (pv 1) (pv 2) pps_nil) rfl rfl (by simp) (by simp))) (pss_one (ps_ret (pkD gd T.mk_Book G_BinitX (hr.mono (by decide)) (by rfl) T.m_Book T.k_Binit (passes_call tk fun _ _ _ _ z => z) (pv 3)))))), ?_⟩
    obtain ⟨f, hd0, hf0⟩ := id p.di
    have hx0 := p.ob
    refine q_dropR ⟨_, rfl, .give, rfl, by decide, fun Hz ez => ?_⟩
    have hd := ez _ _ hd0
    have hx := ez _ _ hx0
    have hf := fun q hq => (hf0 q hq).ex ez
    have hb' := hb.ex ez
    refine q_asgR fun pn hpn => ⟨_, rfl, a, T.C, dx, _, .ref d, rfl, Ex.new hpn _ _ hx, T.c_Book, T.n_parts, bf_parts d, upd_same, d, kvs bookKs f, rfl, .inl (Ex.new hpn _ _ hd), (ne_of_none hd hpn).symm, (by show 9 ≤ 1000; omega), fun q2 nq hq => ?_⟩
    refine ⟨.str (Pt.s .give), rfl, .ref b, rfl, by rw [upd_ne nq.symm, upd_same], upd_same, kvs [(.give : Pt)] (put f (.give : Pt) (.ref b)), ?_, (by show 1 ≤ 15; omega), ?_⟩
    · show [(V.str (Pt.s .give), V.ref b)] = [(V.str (Pt.s .give), put f (.give : Pt) (V.ref b) (.give : Pt))]
      unfold put
      rw [if_pos rfl]
    rw [made_kvs _ (show [(.give : Pt)].Nodup from List.nodup_cons.mpr ⟨List.not_mem_nil, List.nodup_nil⟩), merge_put f (bookKs_mem _)]
    have hq0 : Hz q2 = none := by rwa [upd_ne nq] at hq
    have e1 : Ex Hz (upd (upd (upd (upd (upd Hz pn (.dK [])) pn (.dK (kvs bookKs f))) q2 (.dK [])) q2 (.dK (kvs [(.give : Pt)] (put f (.give : Pt) (.ref b))))) pn (.dK (kvs bookKs (put f (.give : Pt) (.ref b))))) := Ex.mut (Ex.mut (Ex.mut (Ex.mut (Ex.new hpn) hpn) hq0) hq0) hpn
    have h1 : (upd (upd (upd (upd (upd Hz pn (.dK [])) pn (.dK (kvs bookKs f))) q2 (.dK [])) q2 (.dK (kvs [(.give : Pt)] (put f (.give : Pt) (.ref b))))) pn (.dK (kvs bookKs (put f (.give : Pt) (.ref b))))) pn = some (.dK (kvs bookKs (put f (.give : Pt) (.ref b)))) := upd_same
    generalize upd (upd (upd (upd (upd Hz pn (.dK [])) pn (.dK (kvs bookKs f))) q2 (.dK [])) q2 (.dK (kvs [(.give : Pt)] (put f (.give : Pt) (.ref b))))) pn (.dK (kvs bookKs (put f (.give : Pt) (.ref b)))) = H1 at e1 h1
    have hg : ∀ p', (({ r with give := us } : Ru).get p').At K H1 (put f .give (.ref b) p') := fun p' => by
      by_cases z : p' = .give
      · subst z
        unfold put
        rw [if_pos rfl]
        exact ⟨b, rfl, hb'.ex e1⟩
      · unfold put
        rw [if_neg z]
        have g1 := (hf p' (bookKs_mem _)).ex e1
        have g2 : ({ r with give := us } : Ru).get p' = r.get p' := by cases p' <;> first | rfl | exact absurd rfl z
        rw [g2]
        exact g1
    refine s_retR (fun pk hpk => ⟨_, rfl, upd_same, pn, bookKs.map (put f (.give : Pt) (.ref b)), rfl, (ne_of_none h1 hpk).symm, .inl (by
      rw [upd_ne (ne_of_none h1 hpk), h1]
      rfl), rfl, (by show 9 ≤ 1000; omega), fun x dy hx0 hdy ndx => ?_⟩)
    have hpk1 : H1 pk = none := hpk
    have nxk : x ≠ pk := fun z => by rw [z, upd_same] at hx0; cases hx0
    have nyk : dy ≠ pk := fun z => by rw [z, upd_same] at hdy; cases hdy
    have hx1 : H1 x = none := by rwa [upd_ne nxk, upd_ne nxk] at hx0
    have hy1 : H1 dy = none := by rwa [upd_ne nyk, upd_ne nyk] at hdy
    refine ⟨H1, x, dy, ({ r with give := us } : Ru), put f (.give : Pt) (.ref b), rfl, ?_, hx1, upd_same, .inl ⟨fun p _ => hg p, ⟨p.ok.t.1, p.ok.t.2.1, oku, bad⟩, fun H2 dd e2 => q H2 dd ((ez.trans e1).trans e2)⟩⟩
    exact Ex.mut (Ex.mut (Ex.mut (Ex.new hpk1) hpk1) hy1) hx1
theorem ok_Bwith_holdsX (T : Txt K mg w) (G_BinitX : FnG P w K mg base (L2.CX P w) 7 T.f_Binit T.fd_Binit ["self", "take", "give", "move", "lift", "fails", "shared", "holds", "batch", "settles"] (sp_BinitX K T.C T.C_InvalidRow T.C_InvalidHolds)) : FnG P w K mg base (L2.CX P w) 9 T.f_Bwith_holds T.fd_Bwith_holds ["self", "holds"] (sp_BwhX K T.C T.C_InvalidHolds) := by
  skip
  refine okGX T.F_Bwith_holds sc_Bwith_holds (fun vs H Q E h => ?_) (fun cdv A outer s H vs Q E gd hr h => ?_)
  · obtain ⟨_, _, _, rfl, _⟩ := h
    all_goals rfl
  · obtain ⟨a, r, z0, rfl, ⟨dx, d, p⟩, q⟩ := h
    have tk : Takes (cxOf (L2.CX P w) P w K mg base N_Bwith_holds "Book.with_holds" (defScope s_Bwith_holds) T.f_Bwith_holds cdv A outer s H E) (fun cls d _ H => E cls d H) := takes_of rfl rfl rfl rfl
    refine ⟨_, (pss_cons (ps_set (i := 2) sc_Bwith_holds.nd rfl (Or.inl rfl) (pe_starD (pe_fld (pv 0) rfl) (pps_cons pe_str (pv 1) pps_nil) rfl rfl (by simp) (by simp))) (pss_one (ps_ret (pkD gd T.mk_Book G_BinitX (hr.mono (by decide)) (by rfl) T.m_Book T.k_Binit (passes_call tk fun _ _ _ _ z => z) (pv 2))))), ?_⟩
    obtain ⟨f, hd, hf⟩ := id p.di
    have hx := p.ob
    refine q_asgR fun pn hpn => ⟨_, rfl, a, T.C, dx, _, .ref d, rfl, Ex.new hpn _ _ hx, T.c_Book, T.n_parts, bf_parts d, upd_same, d, kvs bookKs f, rfl, .inl (Ex.new hpn _ _ hd), (ne_of_none hd hpn).symm, (by show 9 ≤ 1000; omega), fun q2 nq hq => ?_⟩
    refine ⟨.int z0, rfl, by rw [upd_ne nq.symm, upd_same], upd_same, kvs [.holds] (put f .holds (.int z0)), rfl, (by show 1 ≤ 15; omega), ?_⟩
    rw [made_kvs _ (by decide), merge_put f (bookKs_mem _)]
    have hq0 : H q2 = none := by rwa [upd_ne nq] at hq
    have e1 : Ex H (upd (upd (upd (upd (upd H pn (.dK [])) pn (.dK (kvs bookKs f))) q2 (.dK [])) q2 (.dK (kvs [.holds] (put f .holds (.int z0))))) pn (.dK (kvs bookKs (put f .holds (.int z0))))) := Ex.mut (Ex.mut (Ex.mut (Ex.mut (Ex.new hpn) hpn) hq0) hq0) hpn
    have h1 : (upd (upd (upd (upd (upd H pn (.dK [])) pn (.dK (kvs bookKs f))) q2 (.dK [])) q2 (.dK (kvs [.holds] (put f .holds (.int z0))))) pn (.dK (kvs bookKs (put f .holds (.int z0))))) pn = some (.dK (kvs bookKs (put f .holds (.int z0)))) := upd_same
    generalize upd (upd (upd (upd (upd H pn (.dK [])) pn (.dK (kvs bookKs f))) q2 (.dK [])) q2 (.dK (kvs [.holds] (put f .holds (.int z0))))) pn (.dK (kvs bookKs (put f .holds (.int z0)))) = H1 at e1 h1
    -- the parts of the new book
    have hg : ∀ p', p' ≠ .holds → (r.get p').At K H1 (put f .holds (.int z0) p') := fun p' z => by
      unfold put
      rw [if_neg z]
      exact (hf p' (bookKs_mem _)).ex e1
    refine s_retR (fun pk hpk => ⟨_, rfl, upd_same, pn, bookKs.map (put f .holds (.int z0)), rfl, (ne_of_none h1 hpk).symm, .inl (by
      rw [upd_ne (ne_of_none h1 hpk), h1]
      rfl), rfl, (by show 9 ≤ 1000; omega), fun x dy hx0 hdy ndx => ?_⟩)
    have ek : kvN ["take", "give", "move", "lift", "fails", "shared", "holds", "batch", "settles"] (bookKs.map (put f .holds (.int z0))) = kvs bookKs (put f .holds (.int z0)) := rfl
    have hpk1 : H1 pk = none := hpk
    have nxk : x ≠ pk := fun z => by rw [z, upd_same] at hx0; cases hx0
    have nyk : dy ≠ pk := fun z => by rw [z, upd_same] at hdy; cases hdy
    have hx1 : H1 x = none := by rwa [upd_ne nxk, upd_ne nxk] at hx0
    have hy1 : H1 dy = none := by rwa [upd_ne nyk, upd_ne nyk] at hdy
    refine ⟨H1, x, dy, r, put f .holds (.int z0), rfl, ?_, hx1, upd_same, .inr ⟨hg, p.ok, ⟨z0, by unfold put; rw [if_pos rfl]⟩, fun H2 dd e2 => q H2 dd (e1.trans e2)⟩⟩
    exact Ex.mut (Ex.mut (Ex.mut (Ex.new hpk1) hpk1) hy1) hx1
end
end My
namespace My
open PySem PySem.Spec PyProof.Rows L2 GL Evl StX SkE
/-! ### a book's text, by own words -/
def quo (u : Wd) : Str := (("'" : Str) ++ u.s) ++ "'"
def rowText (us : Rw) : Str := ((("(" : Str) ++ Str.join ", " (us.map quo)) ++ (if us.length = 1 then ("," : Str) else "")) ++ ")"
theorem quo_shown (u : Wd) : quo u = (dW u).shown := by
  have h : ∀ u : Wd, decide (quo u = reprText u.s) = true := fun u => by cases u <;> decide +kernel
  show quo u = (PyData.str u.s).shown
  simp only [PyData.shown]
  exact of_decide_eq_true (h u)
theorem rowText_eq (us : Rw) : rowText us = (dRow us).shown := by
  have e : ∀ us : Rw, us.map quo = PyData.shownAll (us.map dW) := by
    intro us
    induction us with
    | nil => rfl
    | cons u us ih =>
      rw [List.map_cons, List.map_cons]
      simp only [PyData.shownAll]
      rw [ih, quo_shown]
  show _ = (PyData.tuple (us.map dW)).shown
  simp only [PyData.shown]
  rw [← e]
  unfold rowText tupleText
  have l : (us.map quo).length = us.length := List.length_map ..
  rw [l]
  by_cases h : us.length = 1
  · have h2 : (us.length == 1) = true := by simpa using h
    rw [if_pos h, h2, if_pos rfl, Str.append_assoc]
    rfl
  · have h2 : (us.length == 1) = false := by simpa using h
    rw [if_neg h, h2, if_neg Bool.false_ne_true, Str.append_assoc]
    rfl
/-- a part's line, by own words -/
def ownItm (r : Ru) : Pt → Str
  | .take => ((Pt.s .take) ++ "=") ++ rowText r.take
  | .give => ((Pt.s .give) ++ "=") ++ rowText r.give
  | .move => ((Pt.s .move) ++ "=") ++ rowText r.move
  | .lift => ((Pt.s .lift) ++ "=") ++ rowText r.lift
  | .fails => (("fails='" : Str) ++ r.fails.s) ++ "'"
  | .shared => ("shared=" : Str) ++ (if r.shared = true then ("True" : Str) else "False")
  | .holds => ("holds=" : Str) ++ rowText r.holds
  | .batch => ("batch=" : Str) ++ (toString (r.batch : Int) : String)
  | .settles => ("settles=" : Str) ++ (if r.settles = true then ("True" : Str) else "False")
def ownText (r : Ru) : Str := (("Book(" : Str) ++ Str.join ", " (bookKs.map (ownItm r))) ++ ")"
theorem ownItm_eq (r : Ru) (p : Pt) : ownItm r p = itm r p := by
  have hb : ∀ (b : Bool) (p : Pt), (p = .shared ∨ p = .settles) → ((if p = .shared then ("shared=" : Str) else "settles=") ++ (if b = true then ("True" : Str) else "False")) = ((Str.empty ++ p.s) ++ "=") ++ (PyData.bool b).shown := by
    intro b p h
    simp only [PyData.shown]
    rcases h with rfl | rfl <;> cases b <;> decide +kernel
  cases p with
  | take => show _ ++ rowText r.take = _ ++ (dRow r.take).shown; rw [rowText_eq, Str.empty_append]
  | give => show _ ++ rowText r.give = _ ++ (dRow r.give).shown; rw [rowText_eq, Str.empty_append]
  | move => show _ ++ rowText r.move = _ ++ (dRow r.move).shown; rw [rowText_eq, Str.empty_append]
  | lift => show _ ++ rowText r.lift = _ ++ (dRow r.lift).shown; rw [rowText_eq, Str.empty_append]
  | fails =>
    have h : ∀ u : Wd, decide ((("fails='" : Str) ++ u.s) ++ "'" = ((Str.empty ++ Pt.s .fails) ++ "=") ++ reprText u.s) = true := fun u => by cases u <;> decide +kernel
    show _ = ((Str.empty ++ Pt.s .fails) ++ "=") ++ (PyData.str r.fails.s).shown
    simp only [PyData.shown]
    exact of_decide_eq_true (h r.fails)
  | shared => exact hb r.shared .shared (.inl rfl)
  | holds =>
    show ("holds=" : Str) ++ rowText r.holds = ((Str.empty ++ Pt.s .holds) ++ "=") ++ (dRow r.holds).shown
    rw [rowText_eq]
    congr 1
  | batch =>
    show _ = ((Str.empty ++ Pt.s .batch) ++ "=") ++ (PyData.int (r.batch : Int)).shown
    simp only [PyData.shown]
    congr 1
  | settles => exact hb r.settles .settles (.inr rfl)
theorem ownText_eq (r : Ru) : ownText r = bText r := by
  have e : bookKs.map (ownItm r) = bookKs.map (itm r) := List.map_congr_left fun p _ => ownItm_eq r p
  unfold ownText bText
  rw [e, Str.empty_append]
end My
namespace My
open PySem PySem.Spec PyProof.Rows L2 GL Evl StX SkE
/-! ### a book's text, by own words: walked -/
def sp_Lwords (K : PySem.W.Frag) : Sp := fun vs H Q _ => ∃ a us, vs = [.ref a] ∧ RowAt K H a us ∧ us.length ≤ 6 ∧ RetV (.str (rowText us)) H Q
def sp_Lshown (K : PySem.W.Frag) : Sp := fun vs H Q _ => ∃ d ks r, vs = [.ref d] ∧ DictAt K H d ks r ∧ (∀ p, p ∈ ks) ∧ Ok r ∧ RetV (.str (ownText r)) H Q
def plainRu : Ru := ⟨[.tri, .live], [.home, .off, .fin], [.home, .tri, .set, .off], [.both], .undo, true, kindRows, 1, true⟩
def plainKs : List Pt := [.take, .give, .move, .lift, .fails, .shared, .holds, .batch, .settles]
def sp_Lplain (K : PySem.W.Frag) : Sp := fun vs H Q _ => vs = [] ∧ ∀ H' d, H d = none → Ex H H' → DictAt K H' d plainKs plainRu → Q (.ref d) H'
theorem quo_len (u : Wd) : (quo u).length ≤ 8 := by
  rw [quo_shown]
  exact w_text u
theorem rowText_len {us : Rw} (h : us.length ≤ 6) : (rowText us).length ≤ 100 := by
  rw [rowText_eq]
  have := (sm_row h).ln
  omega
section
variable {P : Program} {w : World} {K : PySem.W.Frag} {mg : Str → Option Value} {base : Heap} {C CC CT cR cH : Addr} {H H' H0 H1 G : Hp} {σ : L2.St} {te tb ta tc : TE} {tt : TT} {tA : TA} {E Er : XK} {D : Ends} {tz : TS} {a b d t p : Addr} {us : Rw} {xs ys : List V} {rs qs : List Rw} {ks : List Pt} {r l : Ru} {v x : V} {Q : VK} {k : Kd} {ps st : List Nat} {s1 s2 : Str}
theorem rv_addS (h : s1.length + s2.length ≤ 100000) : RV (fun x y H Q => ∃ i j, x = .str i ∧ y = .str j ∧ i.length + j.length ≤ sizeLine ∧ Q (.str (i ++ j)) H) (.str s1) (.str s2) H (.str (s1 ++ s2)) := fun H1 _ Q q => ⟨s1, s2, rfl, rfl, sz_of h, q H1 (Ex.refl H1)⟩
theorem ev_join {ys : List Str} (ha : Ev ta σ H (.str s1)) (hb : Ev tb σ H (.ref p)) (hp : SqL K H p (ys.map V.str)) (hz : (ys.map (·.length)).sum + ys.length * s1.length ≤ 16777216) :
    Ev (tM1 (fun x xs H Q => ∃ a p, ∃ ys : List Str, x = .str a ∧ xs = [.ref p] ∧ (SqL K H p (ys.map V.str) ∨ SqT K H p (ys.map V.str)) ∧ (ys.map (·.length)).sum + ys.length * a.length ≤ 16777216 ∧ Q (.str (Txt.join a ys)) H) ta tb) σ H (.str (Str.join s1 ys)) := fun H1 e Q q =>
  ha H1 e _ fun H2 e2 => ⟨⟨s1, rfl⟩, hb H2 (e.trans e2) _ fun H3 e3 => ⟨s1, p, ys, rfl, rfl, .inl (ex_l ((e.trans e2).trans e3) hp), hz, by rw [TL.join_eq]; exact q H3 (e2.trans e3)⟩⟩
theorem q_app {i : Nat} (hσ : σ[i]? = some (some (.ref p))) (hp : G p = some (.lst xs)) (hl : xs.length ≤ 1000) (he : Ev te σ G v) (k : ∀ G', ExB p G G' → G' p = some (.lst (xs ++ [v])) → tz D σ G') : tSeq (tDrop (tBM K "list" rAppend (tVar i) (tCons te tNil))) tz D σ G :=
  ⟨_, hσ, .inl ⟨rfl, _, sq_of hp⟩, he G (Ex.refl G) _ fun G1 e1 => ⟨p, xs, v, rfl, rfl, e1 _ _ hp, by rw [sizeLine_eq]; omega, k _ (fun b o n hb => by rw [upd_ne n]; exact e1 _ _ hb) upd_same⟩⟩
theorem ok_Lwords_shown (T : Txt K mg w)  : FnG P w K mg base CX0 1 T.f_Lwords_shown T.fd_Lwords_shown ["_law_some"] (sp_Lwords K) := by
  skip
  refine okG T.F_Lwords_shown sc_Lwords_shown (fun vs H Q E h => ?_) (fun cdv A outer s H vs Q E gd hr h => ?_)
  · obtain ⟨_, _, rfl, _⟩ := h
    all_goals rfl
  · obtain ⟨a, us, rfl, ra, h6, q⟩ := h
    refine ⟨_, (pss_cons (ps_setLc (i := 1) (own := [("_law_word", 2)]) (g := gName 2) rfl sc_Lwords_shown.nd rfl rfl (sw_true rfl rfl rfl (by decide +kernel)) (pi_tup (pv 0)) (blkOk_by (N := N_Lwords_shown) (sc := defScope s_Lwords_shown) (by decide +kernel)) (fun _ _ _ _ _ => (pg_name (i := 2) sc_Lwords_shown.nd rfl (Or.inl rfl) (Or.inr rfl))) (fun _ _ _ _ _ => pts_nil) (fun _ _ _ _ _ => (pe_op op_add_str (pe_op op_add_str pe_str (pv 2)) pe_str))) (pss_one (ps_ret (pe_op op_add_str (pe_op op_add_str (pe_op op_add_str pe_str (pe_join pe_str (pv 1))) (pe_ifExp (pt_cmpR op_eq (pe_callB call_len_seq (by rfl) T.z_len PySem.boot_len (pa_cons (pv 0) pa_nil)) pe_int (nomark _)) pe_str pe_str)) pe_str)))), ?_⟩
    refine q_asgR ((el_lcW (us := us) (fun _ => true) (fun u => .str (quo u)) (ev_var rfl) ra.sq (by omega) (fun _ => rfl) (fun u H1 e1 hu => et_yes) (fun u H1 e1 hu _ => ev_op (ev_op ev_c (ev_var rfl) (rv_addS (by have := quo_len u; unfold quo at this; simp only [Str.length_append] at this ⊢; omega))) ev_c (rv_addS (by have := quo_len u; unfold quo at this; simp only [Str.length_append] at this ⊢; omega)))) H (Ex.refl H) _ fun p H1 hp e1 h1 => ?_)
    rw [filter_yes] at h1
    have h1' : H1 p = some (.lst ((us.map quo).map V.str)) := by
      rw [h1, List.map_map]
      rfl
    have sl := sum_len (ts := us.map quo) (B := 8) fun t ht => by
      obtain ⟨u, _, rfl⟩ := List.mem_map.mp ht
      exact quo_len u
    rw [List.length_map] at sl
    have tl := rowText_len h6
    have c2 : (Str.ofString ", ").length = 2 := by decide
    unfold rowText at tl
    rw [Str.length_append, Str.length_append, Str.length_append] at tl
    show tRet _ _ [some (.ref a), some (.ref p), none] H1
    refine s_ret (v := .str (rowText us)) (ev_op (ev_op (ev_op ev_c (ev_join (ys := us.map quo) ev_c (ev_var rfl) (sq_of h1') (by rw [List.length_map, c2]; omega)) (rv_addS (by omega))) (ev_if (v := .str (if us.length = 1 then ("," : Str) else "")) (b := decide (us.length = 1)) (et_test (ev_is (ev_op (ev_lenT (ev_var rfl) (ra.ex e1).sq) ev_c (rv_eq rfl)) (cbl (by rw [List.length_map]; exact decide_eq_decide.mpr ⟨fun z => by have := V.int.inj z; omega, fun z => by rw [z]; rfl⟩)))) (fun z => by rw [if_pos (of_decide_eq_true z)]; exact ev_c) fun z => by rw [if_neg (of_decide_eq_false z)]; exact ev_c) (rv_addS (by rw [Str.length_append]; omega))) ev_c (rv_addS (by rw [Str.length_append, Str.length_append]; omega))) fun H2 e2 => q H2 (e1.trans e2)
def rowW (r : Ru) : Wd → Rw
  | .take => r.take
  | .give => r.give
  | .move => r.move
  | _ => r.lift
theorem ev_words {te : TE} (h : EvP K te σ H (.row us)) (h6 : us.length ≤ 6) : Ev (tCall (sp_Lwords K) [] Er (tCons te tNil)) σ H (.str (rowText us)) := fun H1 e Q q => cons1_raw (te := te) (h H1 e _ fun v H2 e2 hv => by
  obtain ⟨a, rfl, rx⟩ := hv
  exact ⟨a, us, rfl, rx.at_, h6, fun H3 e3 => q H3 (e2.trans e3)⟩)
theorem ev_wordsH {te : TE} (h : EvP K te σ H (.hold us)) (h6 : us.length ≤ 6) : Ev (tCall (sp_Lwords K) [] Er (tCons te tNil)) σ H (.str (rowText us)) := fun H1 e Q q => cons1_raw (te := te) (h H1 e _ fun v H2 e2 hv => by
  obtain ⟨a, rfl, rx⟩ := hv
  exact ⟨a, us, rfl, rx, h6, fun H3 e3 => q H3 (e2.trans e3)⟩)
theorem ev_yn {te : TE} {b : Bool} (h : Ev te σ H (.bl b)) : Ev (tIf (tB te) (tC (.str "True")) (tC (.str "False"))) σ H (.str (if b = true then ("True" : Str) else "False")) := ev_if (b := b) (et_B h) (fun z => by rw [if_pos z]; exact ev_c) fun z => by rw [if_neg (by rw [z]; exact Bool.false_ne_true)]; exact ev_c
theorem wd_len (u : Wd) : u.s.length ≤ 8 := by
  have := quo_len u
  unfold quo at this
  simp only [Str.length_append] at this
  omega
theorem rows6 {r : Ru} (ok : Ok r) (u : Wd) : (rowW r u).length ≤ 6 := by
  cases u <;> first | exact ok.t.1.ln | exact ok.g.1.ln | exact ok.m.1.ln | exact ok.l.1.ln
theorem ok_Lshown (T : Txt K mg w) (G_Lwords_shown : FnG P w K mg base CX0 1 T.f_Lwords_shown T.fd_Lwords_shown ["_law_some"] (sp_Lwords K)) : FnG P w K mg base CX0 2 T.f_Lshown T.fd_Lshown ["_law_rules"] (sp_Lshown K) := by
  skip
  refine okG T.F_Lshown sc_Lshown (fun vs H Q E h => ?_) (fun cdv A outer s H vs Q E gd hr h => ?_)
  · obtain ⟨_, _, _, rfl, _⟩ := h
    all_goals rfl
  · obtain ⟨d, ks, r, rfl, hd, hk, ok, q⟩ := h
    refine ⟨_, (pss_cons (ps_setLc (i := 1) (own := [("_law_sort", 2)]) (g := gName 2) rfl sc_Lshown.nd rfl rfl (sw_true rfl rfl rfl (by decide +kernel)) (pi_list (pe_lst (pa_cons pe_str (pa_cons pe_str (pa_cons pe_str (pa_cons pe_str pa_nil)))))) (blkOk_by (N := N_Lshown) (sc := defScope s_Lshown) (by decide +kernel)) (fun _ _ _ _ _ => (pg_name (i := 2) sc_Lshown.nd rfl (Or.inl rfl) (Or.inr rfl))) (fun _ _ _ _ _ => pts_nil) (fun _ _ _ _ _ => (pe_op op_add_str (pe_op op_add_str (pv 2) pe_str) (pc gd G_Lwords_shown (hr.mono (by decide)) (by rfl) T.m_Lwords_shown T.F_Lwords_shown.kp T.b_Lwords_shown .nil pass0 (pa_cons (pe_dget (hu_of hr) (pv 0) (pv 2) (fun _ _ => rfl)) pa_nil))))) (pss_cons (ps_expr (pe_bm PySem.F.plainAttrs_list PySem.F.slot_list_append PySem.F.type_list_append mt_append (pv 1) (pa_cons (pe_op op_add_str (pe_op op_add_str pe_str (pe_dget (hu_of hr) (pv 0) pe_str (fun _ _ => rfl))) pe_str) pa_nil))) (pss_cons (ps_expr (pe_bm PySem.F.plainAttrs_list PySem.F.slot_list_append PySem.F.type_list_append mt_append (pv 1) (pa_cons (pe_op op_add_str pe_str (pe_ifExp (pt_val (pe_dget (hu_of hr) (pv 0) pe_str (fun _ _ => rfl))) pe_str pe_str)) pa_nil))) (pss_cons (ps_expr (pe_bm PySem.F.plainAttrs_list PySem.F.slot_list_append PySem.F.type_list_append mt_append (pv 1) (pa_cons (pe_op op_add_str pe_str (pc gd G_Lwords_shown (hr.mono (by decide)) (by rfl) T.m_Lwords_shown T.F_Lwords_shown.kp T.b_Lwords_shown .nil pass0 (pa_cons (pe_dget (hu_of hr) (pv 0) pe_str (fun _ _ => rfl)) pa_nil))) pa_nil))) (pss_cons (ps_expr (pe_bm PySem.F.plainAttrs_list PySem.F.slot_list_append PySem.F.type_list_append mt_append (pv 1) (pa_cons (pe_op op_add_str pe_str (pe_callTy call_str_int (by rfl) T.z_str (by decide +kernel) (pa_cons (pe_dget (hu_of hr) (pv 0) pe_str (fun _ _ => rfl)) pa_nil))) pa_nil))) (pss_cons (ps_expr (pe_bm PySem.F.plainAttrs_list PySem.F.slot_list_append PySem.F.type_list_append mt_append (pv 1) (pa_cons (pe_op op_add_str pe_str (pe_ifExp (pt_val (pe_dget (hu_of hr) (pv 0) pe_str (fun _ _ => rfl))) pe_str pe_str)) pa_nil))) (pss_one (ps_ret (pe_op op_add_str (pe_op op_add_str pe_str (pe_join pe_str (pv 1))) pe_str))))))))), ?_⟩
    have c1 : (Str.ofString "=").length = 1 := by decide
    have yn : ∀ b : Bool, (if b = true then ("True" : Str) else "False").length ≤ 10 := fun b => by cases b <;> decide +kernel
    have h6 : r.holds.length ≤ 6 := by have := holds_ln ok.h; omega
    refine q_asgR ((el_lcWN (us := kindRows) (fun _ => true) (fun u => .str ((u.s ++ "=") ++ rowText (rowW r u))) (el_lst (ea_cons (ev_lit (w0 := .take) rfl) (ea_cons (ev_lit (w0 := .give) rfl) (ea_cons (ev_lit (w0 := .move) rfl) (ea_cons (ev_lit (w0 := .lift) rfl) ea_nil)))) (by show 4 ≤ 100000; omega)) (by decide) (fun _ => rfl) (fun u H1 e1 hu => et_yes) (fun u H1 e1 hu _ => ?_)) H (Ex.refl H) _ fun p H1 hp e1 h1 => ?_)
    · obtain ⟨p0, e0, g0⟩ : ∃ p0 : Pt, wV u = .str p0.s ∧ r.get p0 = .row (rowW r u) := by
        simp only [kindRows, List.mem_cons, List.not_mem_nil, or_false] at hu
        rcases hu with rfl | rfl | rfl | rfl
        · exact ⟨.take, rfl, rfl⟩
        · exact ⟨.give, rfl, rfl⟩
        · exact ⟨.move, rfl, rfl⟩
        · exact ⟨.lift, rfl, rfl⟩
      have ep := ep_getW (K := K) (te := tVar 0) (tb := tVar 2) (σ := [some (.ref d), none, some (wV u)]) (ev_var rfl) (ev_is (ev_var rfl) e0) (hd.ex e1) (hk p0)
      rw [g0] at ep
      have l1 := wd_len u
      have l2 := rowText_len (rows6 ok u)
      exact ev_op (ev_op (ev_var rfl) ev_c (rv_addS (by omega))) (ev_words ep (rows6 ok u)) (rv_addS (by rw [Str.length_append]; omega))
    have hd1 := hd.ex e1
    have i0 : ∀ {Gx : Hp}, DictAt K Gx d ks r → ∀ (pt : Pt), ∃ v, Ev (tDGet (tVar 0) (tC (.str pt.s))) [some (.ref d), some (.ref p), none] Gx v ∧ (r.get pt).At K Gx v := fun h pt => ev_part rfl h (hk pt)
    have iP : ∀ {Gx : Hp}, DictAt K Gx d ks r → ∀ (pt : Pt), EvP K (tDGet (tVar 0) (tC (.str pt.s))) [some (.ref d), some (.ref p), none] Gx (r.get pt) := fun h pt => ep_get (ev_var rfl) h (hk pt) rfl
    show tSeq _ _ _ [some (.ref d), some (.ref p), none] H1
    obtain ⟨vf, f1, f2⟩ := i0 hd1 .fails
    obtain rfl : vf = wV r.fails := f2
    have lf := wd_len r.fails
    have n1 : (Str.ofString "fails='").length = 7 := by decide
    have n2 : (Str.ofString "'").length = 1 := by decide
    have n3 : (Str.ofString "shared=").length = 7 := by decide
    have n4 : (Str.ofString "holds=").length = 6 := by decide
    have n5 : (Str.ofString "batch=").length = 6 := by decide
    have n6 : (Str.ofString "settles=").length = 8 := by decide
    have y1 := yn r.shared
    have y2 := yn r.settles
    have rh := rowText_len h6
    have z1 : (Str.ofString "fails='").length + r.fails.s.length ≤ 100000 := by omega
    have z2 : (("fails='" : Str) ++ r.fails.s).length + (Str.ofString "'").length ≤ 100000 := by
      rw [Str.length_append]
      omega
    refine q_app (K := K) rfl h1 (by show 4 ≤ 1000; omega) (ev_op (ev_op ev_c f1 (rv_addS z1)) ev_c (rv_addS z2)) fun G2 e2 h2 => ?_
    have hd2 := hd1.exL e2 h1
    obtain ⟨vs', s1', s2'⟩ := i0 hd2 .shared
    obtain rfl : vs' = .bl r.shared := s2'
    refine q_app (K := K) rfl h2 (by show 5 ≤ 1000; omega) (ev_op ev_c (ev_yn s1') (rv_addS (by omega))) fun G3 e3 h3 => ?_
    have hd3 := hd2.exL e3 h2
    refine q_app (K := K) rfl h3 (by show 6 ≤ 1000; omega) (ev_op ev_c (ev_wordsH (iP hd3 .holds) h6) (rv_addS (by omega))) fun G4 e4 h4 => ?_
    have hd4 := hd3.exL e4 h3
    obtain ⟨vb, b1, b2⟩ := i0 hd4 .batch
    obtain rfl : vb = nV r.batch := b2
    have nl := num_len ok.b.2
    simp only [PyData.shown] at nl
    have lg : ((r.batch : Int)).natAbs.log2 < 1920 := by
      have h50 := ok.b.2
      rw [Int.natAbs_natCast]
      by_cases e : r.batch = 0
      · rw [e]
        decide
      · have := (Nat.log2_lt e (k := 17)).mpr (by omega)
        omega
    refine q_app (K := K) rfl h4 (by show 7 ≤ 1000; omega) (v := .str (("batch=" : Str) ++ (toString (r.batch : Int) : String))) (ev_op ev_c (y := .str (toString (r.batch : Int) : String)) (fun J1 j1 Q1 q1 => cb1_raw (b1 J1 j1 _ fun J2 j2 => ⟨(r.batch : Int), rfl, lg, q1 J2 j2⟩)) (rv_addS (by omega))) fun G5 e5 h5 => ?_
    have hd5 := hd4.exL e5 h4
    obtain ⟨vt, t1, t2⟩ := i0 hd5 .settles
    obtain rfl : vt = .bl r.settles := t2
    refine q_app (K := K) rfl h5 (by show 8 ≤ 1000; omega) (ev_op ev_c (ev_yn t1) (rv_addS (by omega))) fun G6 e6 h6' => ?_
    have x6 : ExB p H G6 := (ExB.of e1).trans (e2.trans (e3.trans (e4.trans (e5.trans e6))))
    have hl : G6 p = some (.lst ((bookKs.map (ownItm r)).map V.str)) := h6'
    have sl := sum_len (ts := bookKs.map (ownItm r)) (B := 110) fun t ht => by
      obtain ⟨p', _, rfl⟩ := List.mem_map.mp ht
      rw [ownItm_eq]
      exact itm_len ok p'
    have jl := join_len (ts := bookKs.map (ownItm r)) (B := 110) fun t ht => by
      obtain ⟨p', _, rfl⟩ := List.mem_map.mp ht
      rw [ownItm_eq]
      exact itm_len ok p'
    rw [List.length_map, show bookKs.length = 9 from rfl] at sl jl
    have m1 : (Str.ofString ", ").length = 2 := by decide
    have m2 : (Str.ofString "Book(").length = 5 := by decide
    have m3 : (Str.ofString ")").length = 1 := by decide
    show tRet _ _ [some (.ref d), some (.ref p), none] G6
    refine s_ret (v := .str (ownText r)) (ev_op (ev_op ev_c (ev_join (ys := bookKs.map (ownItm r)) ev_c (ev_var rfl) (sq_of hl) (by rw [List.length_map, show bookKs.length = 9 from rfl, m1]; omega)) (rv_addS (by omega))) ev_c (rv_addS (by rw [Str.length_append]; omega))) fun G7 e7 => q G7 (fun b o hb => e7 _ _ (x6 b o (fun z => by rw [z, hp] at hb; cases hb) hb))
/-- pairs of a display, none drawn -/
def EvTn (K : PySem.W.Frag) (trs : List (TE × TE)) (σ : L2.St) (H : Hp) (ls : List Pt) (r : Ru) : Prop := ∀ H1, Ex H H1 → ∀ QP : List (V × V) → Hp → Prop, (∀ H2 f, Ex H1 H2 → (∀ p ∈ ls, (r.get p).At K H2 (f p)) → QP ((kvs ls f).map fun kv => (kV kv.1, kv.2)) H2) → tPairs trs σ H1 QP
theorem etn_nil {r : Ru} : EvTn K [] σ H [] r := fun H1 e QP q => q H1 (fun _ => .non) (Ex.refl H1) (fun _ h => absurd h List.not_mem_nil)
theorem etn_cons {tn te : TE} {trs : List (TE × TE)} {ls : List Pt} {r : Ru} {p : Pt} (hn : ∀ H1, Ev tn σ H1 (.str p.s)) (he : EvP K te σ H (r.get p)) (hr : EvTn K trs σ H ls r) (np : p ∉ ls) : EvTn K ((tn, te) :: trs) σ H (p :: ls) r := fun H0 e0 QP q =>
  hn H0 H0 (Ex.refl H0) _ fun H1 e1 => he H1 (e0.trans e1) _ fun v H2 e2 hv => hr H2 (e0.trans (e1.trans e2)) _ fun H3 f e3 hf => by
    have ek : kvs ls f = kvs ls (put f p v) := List.map_congr_left fun p' hp' => by
      have : p' ≠ p := fun z => np (z ▸ hp')
      unfold put
      rw [if_neg this]
    have ep : put f p v p = v := by
      unfold put
      rw [if_pos rfl]
    have h := q H3 (put f p v) (e1.trans (e2.trans e3)) fun p' hp' => by
      unfold put
      by_cases z : p' = p
      · subst z
        rw [if_pos rfl]
        exact hv.ex e3
      · rw [if_neg z]
        exact hf p' ((List.mem_cons.mp hp').resolve_left z)
    have e : (kvs (p :: ls) (put f p v)).map (fun kv => (kV kv.1, kv.2)) = (V.str p.s, v) :: (kvs ls f).map fun kv => (kV kv.1, kv.2) := by
      show (V.str p.s, put f p v p) :: (kvs ls (put f p v)).map _ = _
      rw [← ek, ep]
    rw [e] at h
    exact h
theorem q_dispN {i : Nat} {trs : List (TE × TE)} {ls : List Pt} {r : Ru} (h : EvTn K trs σ H ls r) (nd : ls.Nodup) (hl : ls.length ≤ 15) (k : ∀ d H1, H d = none → Ex H H1 → DictAt K H1 d ls r → tz D (σ.set i (some (.ref d))) H1) : tSeq (tAsg (tDisp trs) (gName i)) tz D σ H :=
  q_dispR fun d hd => h _ (Ex.new hd) _ fun H2 f e2 hf => ⟨e2 _ _ upd_same, kvs ls f, rfl, by unfold kvs; rw [List.length_map]; exact hl, by
    rw [made_kvs f nd]
    exact k d _ hd (((Ex.new hd).trans e2).mut hd) ⟨f, upd_same, fun p hp => (hf p hp).exB ExB.set (NoTup.dK (e2 _ _ upd_same))⟩⟩
theorem q_updN {i : Nat} {trs : List (TE × TE)} {ls : List Pt} {r : Ru} (hs : σ[i]? = some (some (.ref d))) (hd : DictAt K H d ks r) (h : EvTn K trs σ H ls r) (nd : (ks ++ ls).Nodup) (hl : ks.length + ls.length ≤ 15) (k : ∀ H1, ExB d H H1 → DictAt K H1 d (ks ++ ls) r → tz D σ H1) : tSeq (tDrop (tDUpd (tVar i) (tDisp trs))) tz D σ H := by
  obtain ⟨f, hf, hfv⟩ := id hd
  refine q_dropR ⟨_, hs, d, rfl, .inl ⟨_, .inl hf⟩, fun b hb => ?_⟩
  have nbd : b ≠ d := fun e => by
    rw [e, hf] at hb
    cases hb
  have ndl : ls.Nodup := (List.nodup_append.mp nd).2.1
  refine h _ (Ex.new hb) _ fun H2 g e2 hg => ⟨e2 _ _ upd_same, kvs ls g, rfl, by unfold kvs; rw [List.length_map]; omega, ?_⟩
  rw [made_kvs g ndl]
  have hf2 : H2 d = some (.dK (kvs ks f)) := e2 _ _ ((Ex.new hb) _ _ hf)
  have hf3 : (upd H2 b (.dK (kvs ls g))) d = some (.dK (kvs ks f)) := by
    rw [upd_ne nbd.symm]
    exact hf2
  refine ⟨b, kvs ks f, kvs ls g, rfl, nbd.symm, hf3, .inl upd_same, by unfold kvs; rw [List.length_map, List.length_map]; omega, ?_⟩
  let f2 : Pt → V := fun p => if p ∈ ls then g p else f p
  have k1 : kvs ks f = kvs ks f2 := List.map_congr_left fun p hp => by
    have : p ∉ ls := fun z => (List.nodup_append.mp nd).2.2 p hp p z rfl
    show (_, f p) = (_, if p ∈ ls then g p else f p)
    rw [if_neg this]
  have k2 : kvs ls g = kvs ls f2 := List.map_congr_left fun p hp => by
    show (_, g p) = (_, if p ∈ ls then g p else f p)
    rw [if_pos hp]
  rw [k1, k2, merge_kvs f2 ls ks nd]
  have b2 : H2 b = some (.dK []) := e2 _ _ upd_same
  have ntb : NoTup H2 b := NoTup.dK b2
  have x1 : ExB d H (upd (upd H2 b (.dK (kvs ls f2))) d (.dK (kvs (ks ++ ls) f2))) := fun c o nc hc => by
    rw [upd_ne nc, upd_ne fun z => by rw [z, hb] at hc; cases hc]
    exact e2 _ _ ((Ex.new hb) _ _ hc)
  refine k _ x1 ⟨f2, upd_same, fun p hp => ?_⟩
  have ntd : NoTup (upd H2 b (.dK (kvs ls f2))) d := NoTup.dK (by rw [upd_ne nbd.symm]; exact hf2)
  by_cases z : p ∈ ls
  · have v := hg p z
    show (r.get p).At K _ (if p ∈ ls then g p else f p)
    rw [if_pos z]
    exact (v.exB ExB.set ntb).exB ExB.set ntd
  · show (r.get p).At K _ (if p ∈ ls then g p else f p)
    rw [if_neg z]
    exact ((((hfv p ((List.mem_append.mp hp).resolve_right z)).ex (Ex.new hb)).ex e2).exB ExB.set ntb).exB ExB.set ntd
theorem ep_rowT {te : TE} (h : EvR K te σ H us) : EvP K te σ H (.row us) := fun H1 e Q q => h H1 e Q fun p H2 e2 r => q _ H2 e2 ⟨p, rfl, r⟩
theorem ep_hold4 {te : TE} (h : EvR K te σ H us) : EvP K te σ H (.hold us) := fun H1 e Q q => h H1 e Q fun p H2 e2 r => q _ H2 e2 ⟨p, rfl, r.at_⟩
theorem ep_lit {te : TE} {p : Pv} {v : V} (h : Ev te σ H v) (hp : ∀ H1, p.At K H1 v) : EvP K te σ H p := fun H1 e Q q => h H1 e Q fun H2 e2 => q v H2 e2 (hp H2)
theorem ok_Lplain (T : Txt K mg w)  : FnG P w K mg base CX0 1 T.f_Lplain T.fd_Lplain [] (sp_Lplain K) := by
  skip
  refine okG T.F_Lplain sc_Lplain (fun vs H Q E h => ?_) (fun cdv A outer s H vs Q E gd hr h => ?_)
  · obtain ⟨rfl, _⟩ := h
    all_goals rfl
  · obtain ⟨rfl, q⟩ := h
    refine ⟨_, (pss_cons (ps_set (i := 0) sc_Lplain.nd rfl (Or.inl rfl) (pe_disp (pps_cons pe_str (pe_tupX (pa_cons pe_str (pa_cons pe_str pa_nil))) (pps_cons pe_str (pe_tupX (pa_cons pe_str (pa_cons pe_str (pa_cons pe_str pa_nil)))) (pps_cons pe_str (pe_tupX (pa_cons pe_str (pa_cons pe_str (pa_cons pe_str (pa_cons pe_str pa_nil))))) pps_nil))) rfl rfl (by simp) (by simp))) (pss_cons (ps_expr (pe_dupd (pv 0) (pe_disp (pps_cons pe_str (pe_tupX (pa_cons pe_str pa_nil)) (pps_cons pe_str pe_str (pps_cons pe_str pe_bl (pps_cons pe_str (pe_tupX (pa_cons pe_str (pa_cons pe_str (pa_cons pe_str (pa_cons pe_str pa_nil))))) pps_nil)))) rfl rfl (by simp) (by simp)) ⟨by rfl, by rfl, by rfl, by rfl⟩)) (pss_cons (ps_expr (pe_dupd (pv 0) (pe_disp (pps_cons pe_str pe_int (pps_cons pe_str pe_bl pps_nil)) rfl rfl (by simp) (by simp)) ⟨by rfl, by rfl, by rfl, by rfl⟩)) (pss_one (ps_ret (pv 0)))))), ?_⟩
    refine q_dispN (K := K) (ls := [.take, .give, .move]) (r := plainRu) (etn_cons (p := .take) (fun _ => ev_c) (ep_rowT (er_2 (w1 := .tri) (w2 := .live) rfl rfl)) (etn_cons (p := .give) (fun _ => ev_c) (ep_rowT (er_3 (w1 := .home) (w2 := .off) (w3 := .fin) rfl rfl rfl)) (etn_cons (p := .move) (fun _ => ev_c) (ep_rowT (er_4 (w1 := .home) (w2 := .tri) (w3 := .set) (w4 := .off) rfl rfl rfl rfl)) etn_nil (by decide)) (by decide)) (by decide)) (by decide) (by decide) fun d H1 hd e1 h1 => ?_
    refine q_updN (K := K) (ls := [.lift, .fails, .shared, .holds]) rfl h1 (etn_cons (p := .lift) (fun _ => ev_c) (ep_rowT (er_1 (w1 := .both) rfl)) (etn_cons (p := .fails) (fun _ => ev_c) (ep_lit ev_c fun _ => rfl) (etn_cons (p := .shared) (fun _ => ev_c) (ep_lit ev_c fun _ => rfl) (etn_cons (p := .holds) (fun _ => ev_c) (ep_hold4 (er_4 (w1 := .take) (w2 := .give) (w3 := .move) (w4 := .lift) rfl rfl rfl rfl)) etn_nil (by decide)) (by decide)) (by decide)) (by decide)) (by decide) (by decide) fun H2 e2 h2 => ?_
    refine q_updN (K := K) (ls := [.batch, .settles]) rfl h2 (etn_cons (p := .batch) (fun _ => ev_c) (ep_lit ev_c fun _ => rfl) (etn_cons (p := .settles) (fun _ => ev_c) (ep_lit ev_c fun _ => rfl) etn_nil (by decide)) (by decide)) (by decide) (by decide) fun H3 e3 h3 => ?_
    have ex : ∀ {G : Hp}, ExB d H1 G → Ex H G := fun {G} x b o hb => x b o (fun z => by rw [z, hd] at hb; cases hb) (e1 _ _ hb)
    exact s_ret (ev_var (v := .ref d) rfl) fun H4 e4 => q H4 d hd ((ex (e2.trans e3)).trans e4) (h3.ex e4)
end
end My
namespace My
open PySem PySem.Spec PyProof.Rows L2 GL Evl StX SkE
/-! ### what is asked of a book -/
/-- all but the tables of code objects -/
def noT (H : Hp) : Hp := fun b => match H b with
  | some (.tbl _) => none
  | o => o
theorem noT_at {H : Hp} {b : Addr} {o : HO} (h : H b = some o) (n : ∀ ps, o ≠ .tbl ps) : noT H b = some o := by
  unfold noT
  rw [h]
  cases o <;> first | rfl | exact absurd rfl (n _)
theorem noT_is {H : Hp} {b : Addr} {o : HO} (h : noT H b = some o) : H b = some o ∧ ∀ ps, o ≠ .tbl ps := by
  unfold noT at h
  split at h
  · cases h
  · rename_i q
    exact ⟨h, fun ps z => q ps (by rw [h, z])⟩
theorem noT_none {H : Hp} {b : Addr} (h : H b = none) : noT H b = none := by
  unfold noT
  rw [h]
theorem noT_ext {H H' : Hp} (e : LamX.ExtN H H') : Ex (noT H) (noT H') := fun b o h => by
  obtain ⟨h1, h2⟩ := noT_is h
  exact noT_at (e b o h1 h2) h2
theorem noT_mono {H H' : Hp} (e : Ex H H') : Ex (noT H) (noT H') := noT_ext fun b o h _ => e b o h
theorem noT_sub {H : Hp} : Ex (noT H) H := fun b o h => (noT_is h).1
theorem noT_to {H H' : Hp} (e : LamX.ExtN H H') : Ex (noT H) H' := fun b o h => by
  obtain ⟨h1, h2⟩ := noT_is h
  exact e b o h1 h2
theorem noT_both {A B : Hp} (e : Ex (noT A) B) : Ex (noT A) (noT B) := fun b o hb => noT_at (e b o hb) (noT_is hb).2
section
variable {K : PySem.W.Frag} {mg : Str → Option Value} {w : World} {T : Txt K mg w} {H H' : Hp}
theorem tabs_but {r : Addr} {xs : List V} (tb : LamX.Tabs T.tabs H) (hr : H r = some (.lst xs)) (e : ∀ b o, b ≠ r → H b = some o → H' b = some o) : LamX.Tabs T.tabs H' := fun q hq => by
  obtain ⟨qs, h1, h2, h3⟩ := tb q hq
  have nt : ∀ {b : Addr} {o : HO}, H b = some o → (∀ ys, o ≠ .lst ys) → b ≠ r := fun {b o} hb n z => by
    rw [z, hr] at hb
    exact n xs (Option.some.inj hb).symm
  refine ⟨qs, e _ _ (nt h1 fun _ z => nomatch z) h1, h2, fun pos cv hc => ?_⟩
  obtain ⟨c, e1, e2⟩ := h3 pos cv hc
  refine ⟨c, e1, e _ _ (nt e2 fun ys z => ?_) e2⟩
  unfold LamX.CodeO at z
  cases z
end
theorem takes_never {X : Cx} : Takes X (fun _ _ _ _ => False) := fun _ _ ⟨_, _, _, _, _, _, _, _, _, _, _, _, _, _, _, _, w⟩ => w.elim
theorem PrsAt.noT {H : Hp} {ys : List V} {ds : List (Wd × V)} (h : PrsAt H ys ds) : PrsAt (noT H) ys ds := by
  induction h with
  | nil => exact .nil
  | cons h _ ih => exact .cons (noT_at h fun _ z => nomatch z) ih
section
variable {K : PySem.W.Frag} {mg : Str → Option Value} {w : World} {C : Addr} {T : Txt K mg w} {H H' B : Hp} {a b d r t u l p : Addr} {ps st : List Nat} {xs : List V} {us : Rw} {rs : List Rw} {v : V} {ks : List Pt} {m : Ru} {o : HO}
theorem RowX.noT (h : RowX K H b us) : RowX K (noT H) b us := by
  cases h with
  | fx h c => exact .fx (noT_at h fun _ z => nomatch z) c
  | kst h y t => exact .kst h y t
theorem RowAt.noT (h : RowAt K H b us) : RowAt K (My.noT H) b us := by
  cases h with
  | fx h c => exact .fx (noT_at h fun _ z => nomatch z) c
  | tup h => exact .tup (noT_at h fun _ z => nomatch z)
  | kst h y => exact .kst h y
theorem pv_noT {p : Pv} (h : p.At K H v) : p.At K (My.noT H) v := by
  cases p with
  | row us =>
    obtain ⟨a, rfl, h⟩ := h
    exact ⟨a, rfl, RowX.noT h⟩
  | hold us =>
    obtain ⟨a, rfl, h⟩ := h
    exact ⟨a, rfl, RowAt.noT h⟩
  | _ => exact h
theorem dict_noT (h : DictAt K H d ks m) : DictAt K (My.noT H) d ks m := by
  obtain ⟨f, hf, hv⟩ := h
  exact ⟨f, noT_at hf (fun _ z => nomatch z), fun p hp => pv_noT (hv p hp)⟩
theorem book_noT (h : BookAt K C H b m) : BookAt K C (My.noT H) b m := by
  obtain ⟨dx, d, p⟩ := h
  exact ⟨dx, d, noT_at p.ob (fun _ z => nomatch z), dict_noT p.di, p.ok⟩
end
/-- what an error is told as -/
def Told {K : PySem.W.Frag} {mg : Str → Option Value} {w : World} (T : Txt K mg w) (Q : VK) : XK := fun cls _ H => (cls = .ref T.C_InvalidRow ∨ cls = .ref T.C_InvalidHolds) ∧ RetV (.bl true) H Q
/-- what is told of a lambda's reading -/
def Heard {K : PySem.W.Frag} {mg : Str → Option Value} {w : World} (T : Txt K mg w) : (XK → Hp → VK → Prop) → Hp → VK → Prop := fun tl H Q => tl (Told T Q) H fun _ H1 => Q (.bl false) H1
theorem heard_raw {K : PySem.W.Frag} {mg : Str → Option Value} {w : World} {T : Txt K mg w} {tl : XK → Hp → VK → Prop} {H : Hp} {Q : VK} (h : tl (Told T Q) H fun _ H1 => Q (.bl false) H1) : Heard T tl H Q := h
theorem heard_gives {X : Cx} {q : Str} {K : PySem.W.Frag} {mg : Str → Option Value} {w : World} (T : Txt K mg w) (hK : X.K = K) (hm : X.mg = mg) {k : Nat} : GivesG X N_Lis_refused "_law_is_refused" (defScope s_Lis_refused) T.f_Lis_refused (defBody s_Lis_refused) "_law_call" q (k + 1) (Heard T) := by
  subst hK hm
  intro cd f c s H Q tl gd hr act hc h
  refine ⟨_, (pss_cons (ps_try_any rfl rfl takes_never (fun W pn xe tkW po => (pss_one (show PS _ _ (fun D σ H => ∃ Ech : XK, (∀ cls d (σ1 : L2.St) H1, σ1.length = N_Lis_refused.length → Ech cls d H1 → W cls d σ1 H1) ∧ tDrop (fun σZ HZ QZ => σZ[0]? = some (some (.ref f)) ∧ HZ c = some (LamX.CodeO c q) ∧ tl Ech HZ QZ) D σ H) from ⟨fun pins s1 σ1 H1 D1 I1 ⟨Ech, hW, q1⟩ => (ps_expr (act W pn xe Ech _ _ tkW hW)).run pins s1 σ1 H1 D1 I1 q1⟩))) (.plain ⟨by rfl, by decide, .inl T.m_InvalidRow⟩ (fun a oe cls d pn hz hf => (pss_one (ps_ret pe_bl))) (.plain ⟨by rfl, by decide, .inl T.m_InvalidHolds⟩ (fun a oe cls d pn hz hf => (pss_one (ps_ret pe_bl))) .nil))) (pss_one (ps_ret pe_bl))), ?_⟩
  refine ⟨Told T Q, fun cls d σ1 H1 hl z => ?_, ?_⟩
  · obtain ⟨rfl | rfl, q⟩ := z
    · refine ⟨true, T.q_InvalidRow_InvalidRow, fun _ z hz => ?_, fun z => nomatch z⟩
      dsimp only
      exact s_ret ev_c q
    · refine ⟨false, T.q_InvalidHolds_InvalidRow, (fun z => nomatch z), fun _ => ⟨true, T.q_InvalidHolds_InvalidHolds, fun _ z hz => ?_, fun z => nomatch z⟩⟩
      dsimp only
      exact s_ret ev_c q
  · exact ⟨rfl, hc, h⟩
/-- a plan in a list -/
def PlanAt (H : Hp) (p : Addr) (ds : List (Wd × V)) : Prop := ∃ ys, H p = some (.lst ys) ∧ PrsAt H ys ds
def ItemAt (K : PySem.W.Frag) (H : Hp) (p : Addr) (r : Ru) : Prop := ∃ a b, H p = some (.lst [wV r.fails, .bl r.shared, .ref a, nV r.batch, .bl r.settles, .ref b]) ∧ RowAt K H a r.holds ∧ RowX K H b r.move
def ps0 : List Nat := [0, 1, 0]
def ask1 (r : Ru) : List (Wd × V) := deedsK .take .take ps0 r 2
def ask2 (r : Ru) : List (Wd × V) := deedsK .give .give ps0 r 2
def ask3 (r : Ru) : List (Wd × V) := mvDeeds ps0 r 2 3
def ask4 (r : Ru) : List (Wd × V) := deedsK .lift .lift ps0 r 1
def ask5 : List (Wd × V) := deedsX (grpG .settle (some 3) none false ps0) [.off]
def AskAt (K : PySem.W.Frag) (H : Hp) (p : Addr) (r : Ru) : Prop := ∃ p1 p2 p3 p4 p5 p6 z, H p = some (.lst [.ref p1, .ref p2, .ref p3, .ref p4, .ref p5, .ref p6, .ref z]) ∧ PlanAt H p1 (ask1 r) ∧ PlanAt H p2 (ask2 r) ∧ PlanAt H p3 (ask3 r) ∧ PlanAt H p4 (ask4 r) ∧ PlanAt H p5 ask5 ∧ ItemAt K H p6 r ∧ H z = some (.lst [.bl true, .bl true])
def itemD (r : Ru) : PyData := .list [dW r.fails, .bool r.shared, dRow r.holds, .int r.batch, .bool r.settles, dRow r.move]
def askD (r : Ru) : PyData := .list [dPl (ask1 r), dPl (ask2 r), dPl (ask3 r), dPl (ask4 r), dPl ask5, itemD r, .list [.bool true, .bool true]]
section
variable {K : PySem.W.Frag} {H H' : Hp} {p : Addr} {ds : List (Wd × V)} {r : Ru}
theorem PlanAt.ex (h : PlanAt H p ds) (e : Ex H H') : PlanAt H' p ds := by
  obtain ⟨ys, h1, h2⟩ := h
  exact ⟨ys, e _ _ h1, h2.ex e⟩
theorem PlanAt.exL {a : Addr} {xs : List V} (h : PlanAt H p ds) (e : ExB a H H') (ha : H a = some (.lst xs)) (n : p ≠ a) : PlanAt H' p ds := by
  obtain ⟨ys, h1, h2⟩ := h
  exact ⟨ys, e _ _ n h1, h2.exL e ha⟩
theorem PlanAt.noT (h : PlanAt H p ds) : PlanAt (My.noT H) p ds := by
  obtain ⟨ys, h1, h2⟩ := h
  exact ⟨ys, noT_at h1 (fun _ z => nomatch z), h2.noT⟩
theorem ItemAt.ex (h : ItemAt K H p r) (e : Ex H H') : ItemAt K H' p r := by
  obtain ⟨a, b, h1, h2, h3⟩ := h
  exact ⟨a, b, e _ _ h1, h2.ex e, h3.ex e⟩
theorem ItemAt.noT (h : ItemAt K H p r) : ItemAt K (My.noT H) p r := by
  obtain ⟨a, b, h1, h2, h3⟩ := h
  exact ⟨a, b, noT_at h1 (fun _ z => nomatch z), RowAt.noT h2, RowX.noT h3⟩
theorem PlanAt.dp (h : PlanAt H p ds) (hf : ∀ d ∈ ds, Shrt d.2) : Dp K H (.ref p) (dPl ds) := by
  obtain ⟨ys, h1, h2⟩ := h
  exact .lst (sq_of h1) (h2.dp fun d hd => (hf d hd).1)
def shOk : V → Bool
  | .non => true
  | .int z => decide (0 ≤ z) && decide (z ≤ 100)
  | _ => false
theorem sh_ok {v : V} (h : shOk v = true) : Shrt v := by
  cases v with
  | non => exact shrt_non
  | int z =>
    unfold shOk at h
    simp only [Bool.and_eq_true, decide_eq_true_eq] at h
    have e : V.int z = nV z.toNat := by
      show V.int z = V.int _
      congr 1
      omega
    rw [e]
    exact shrt_nat (by omega)
  | _ => cases h
def grOk (k : Kd) (g o : Option Nat) (lv : Bool) : Prop := ∀ x : Wd, ((grpG k g o lv ps0 x).all shOk && decide ((grpG k g o lv ps0 x).length ≤ 1000)) = true
theorem deeds_ok {k : Kd} {g o : Option Nat} {lv : Bool} {us : Rw} (h : grOk k g o lv) (h6 : us.length ≤ 6) : (∀ d ∈ deedsX (grpG k g o lv ps0) us, Shrt d.2) ∧ (deedsX (grpG k g o lv ps0) us).length ≤ 6000 := by
  refine ⟨fun d hd => ?_, ?_⟩
  · obtain ⟨x, hx, hd⟩ := List.mem_flatMap.mp hd
    obtain ⟨v, hv, rfl⟩ := List.mem_map.mp hd
    have := h x
    rw [Bool.and_eq_true] at this
    exact sh_ok (List.all_eq_true.mp this.1 v hv)
  · have := deedsX_len (gr := grpG k g o lv ps0) us fun x _ => by
      have := h x
      rw [Bool.and_eq_true] at this
      exact of_decide_eq_true this.2
    have := Nat.mul_le_mul_right 1000 h6
    omega
theorem gr1 : grOk .take (some 2) none false := fun x => by cases x <;> decide +kernel
theorem gr2 : grOk .give none (some 2) false := fun x => by cases x <;> decide +kernel
theorem gr3 (lv : Bool) : grOk .move (some 3) (some 2) lv := fun x => by cases lv <;> cases x <;> decide +kernel
theorem gr4 : grOk .lift (some 1) none false := fun x => by cases x <;> decide +kernel
theorem gr5 : grOk .settle (some 3) none false := fun x => by cases x <;> decide +kernel
theorem ask_ok1 {r : Ru} (ok : Ok r) : (∀ d ∈ ask1 r, Shrt d.2) ∧ (ask1 r).length ≤ 6000 := deeds_ok gr1 ok.t.1.ln
theorem ask_ok2 {r : Ru} (ok : Ok r) : (∀ d ∈ ask2 r, Shrt d.2) ∧ (ask2 r).length ≤ 6000 := deeds_ok gr2 ok.g.1.ln
theorem ask_ok3 {r : Ru} (ok : Ok r) : (∀ d ∈ ask3 r, Shrt d.2) ∧ (ask3 r).length ≤ 6000 := deeds_ok (gr3 _) ok.m.1.ln
theorem ask_ok4 {r : Ru} (ok : Ok r) : (∀ d ∈ ask4 r, Shrt d.2) ∧ (ask4 r).length ≤ 6000 := deeds_ok gr4 ok.l.1.ln
theorem ask_ok5 : (∀ d ∈ ask5, Shrt d.2) ∧ ask5.length ≤ 6000 := deeds_ok gr5 (by decide)
theorem sm_bool (b : Bool) : Sm (.bool b) 0 40 := (shrt_bl b).sm
theorem sm_item {r : Ru} (ok : Ok r) : Sm (itemD r) 2 1000 := by
  have h6 : r.holds.length ≤ 6 := by have := holds_ln ok.h; omega
  refine (sm_list (k := 1) (B := 100) fun d hd => ?_).mono (Nat.le_refl _) (by show 6 * (100 + 2) + 2 ≤ 1000; omega)
  simp only [List.mem_cons, List.not_mem_nil, or_false] at hd
  rcases hd with rfl | rfl | rfl | rfl | rfl | rfl
  · refine ⟨?_, ?_, ?_, by have := w_text r.fails; omega⟩
    · show (PyData.str r.fails.s).showable = true
      simp only [PyData.showable]
    · show (PyData.str r.fails.s).hasDict = false
      simp only [PyData.hasDict]
    · show (PyData.str r.fails.s).depth ≤ 1
      simp only [PyData.depth]
      omega
  · exact (sm_bool _).mono (by omega) (by omega)
  · exact (sm_row h6).mono (by omega) (by omega)
  · exact (shrt_nat (n := r.batch) (by have := ok.b.2; omega)).sm.mono (by omega) (by omega)
  · exact (sm_bool _).mono (by omega) (by omega)
  · exact (sm_row ok.m.1.ln).mono (by omega) (by omega)
theorem sm_ask {r : Ru} (ok : Ok r) : Sm (askD r) 3 4000000 := by
  refine (sm_list (k := 2) (B := 534002) fun d hd => ?_).mono (Nat.le_refl _) (by show 7 * (534002 + 2) + 2 ≤ 4000000; omega)
  simp only [List.mem_cons, List.not_mem_nil, or_false] at hd
  rcases hd with rfl | rfl | rfl | rfl | rfl | rfl | rfl
  · exact sm_pl (ask_ok1 ok).1 (ask_ok1 ok).2
  · exact sm_pl (ask_ok2 ok).1 (ask_ok2 ok).2
  · exact sm_pl (ask_ok3 ok).1 (ask_ok3 ok).2
  · exact sm_pl (ask_ok4 ok).1 (ask_ok4 ok).2
  · exact sm_pl ask_ok5.1 ask_ok5.2
  · exact (sm_item ok).mono (by omega) (by omega)
  · exact (sm_list (k := 0) (B := 40) fun d hd => by
      simp only [List.mem_cons, List.not_mem_nil, or_false, or_self] at hd
      rw [hd]
      exact sm_bool true).mono (by omega) (by show 2 * (40 + 2) + 2 ≤ 534002; omega)
theorem ItemAt.dp (h : ItemAt K H p r) : Dp K H (.ref p) (itemD r) := by
  obtain ⟨a, b, h1, h2, h3⟩ := h
  exact .lst (sq_of h1) (.cons (.str _) (.cons (.bl _) (.cons h2.dp (.cons (.int _) (.cons (.bl _) (.cons h3.dp .nil))))))
theorem AskAt.dp (h : AskAt K H p r) (ok : Ok r) : Dp K H (.ref p) (askD r) := by
  obtain ⟨p1, p2, p3, p4, p5, p6, z, h0, h1, h2, h3, h4, h5, h6, h7⟩ := h
  exact .lst (sq_of h0) (.cons (h1.dp (ask_ok1 ok).1) (.cons (h2.dp (ask_ok2 ok).1) (.cons (h3.dp (ask_ok3 ok).1) (.cons (h4.dp (ask_ok4 ok).1) (.cons (h5.dp ask_ok5.1) (.cons h6.dp (.cons (.lst (sq_of h7) (.cons (.bl _) (.cons (.bl _) .nil))) .nil)))))))
theorem AskAt.ex (h : AskAt K H p r) (e : Ex H H') : AskAt K H' p r := by
  obtain ⟨p1, p2, p3, p4, p5, p6, z, h0, h1, h2, h3, h4, h5, h6, h7⟩ := h
  exact ⟨p1, p2, p3, p4, p5, p6, z, e _ _ h0, h1.ex e, h2.ex e, h3.ex e, h4.ex e, h5.ex e, h6.ex e, e _ _ h7⟩
end
def sp_Lasked {K : PySem.W.Frag} {mg : Str → Option Value} {w : World} (T : Txt K mg w) : Sp := fun vs H Q _ => ∃ b r, vs = [.ref b] ∧ LamX.Tabs T.tabs H ∧ BookAt K T.C (noT H) b r ∧ ∀ H' p, Ex (noT H) H' → LamX.Tabs T.tabs H' → AskAt K H' p r → Q (.ref p) H'
section
variable {P : Program} {w : World} {K : PySem.W.Frag} {mg : Str → Option Value} {base : Heap} {T : Txt K mg w} {C CT : Addr} {H H' H0 H1 G : Hp} {σ : L2.St} {te tb ta tc : TE} {tt : TT} {tA : TA} {E Er : XK} {D : Ends} {tz : TS} {a b d t u p : Addr} {us : Rw} {xs ys : List V} {ks : List Pt} {r l : Ru} {v x : V} {Q : VK} {k : Kd} {pt : Pt} {ps st : List Nat} {g h : Nat} {ds : List (Wd × V)}
/-- evaluates to a plan, new -/
def EvPn (te : TE) (σ : L2.St) (H : Hp) (ds : List (Wd × V)) : Prop := ∀ H1, Ex H H1 → ∀ Q : VK, (∀ H2 p, H1 p = none → Ex H1 H2 → PlanAt H2 p ds → Q (.ref p) H2) → te σ H1 Q
theorem epn_plan (ha : Ev ta σ H (.ref b)) (hb : Ev tb σ H (.ref t)) (hc : Ev tc σ H (nV g)) (h1 : BookAt K C H b r) (h2 : MyT.TreeAt CT H t ps st) (gd : Good ps) (hl : ps.length ≤ 199) (hg : g ≤ ps.length) : EvPn (tCall (sp_planN K C CT k pt) [] Er (tCons ta (tCons tb (tCons tc tNil)))) σ H (deedsK k pt ps r g) := fun H1 e Q q =>
  (ea_cons ha (ea_cons hb (ea_cons hc ea_nil)) : EvA _ _ _ [.ref b, .ref t, nV g]) H1 e _ fun H2 e2 => ⟨b, t, r, st, ps, g, rfl, h1.ex (e.trans e2), h2.ex (e.trans e2), gd, hl, hg, fun H3 p ys hp e3 h3 r3 => q H3 p (fresh_back e2 hp) (e2.trans e3) ⟨ys, h3, r3⟩⟩
theorem epn_lift (ha : Ev ta σ H (.ref b)) (hb : Ev tb σ H (.ref t)) (hc : Ev tc σ H (nV g)) (h1 : BookAt K C H b r) (h2 : MyT.TreeAt CT H t ps st) (gd : Good ps) (hl : ps.length ≤ 199) (hg : g ≤ ps.length) (h0 : g ≠ 0) : EvPn (tCall (sp_lplanN K C CT) [] Er (tCons ta (tCons tb (tCons tc tNil)))) σ H (deedsK .lift .lift ps r g) := fun H1 e Q q =>
  (ea_cons ha (ea_cons hb (ea_cons hc ea_nil)) : EvA _ _ _ [.ref b, .ref t, nV g]) H1 e _ fun H2 e2 => ⟨b, t, r, st, ps, g, rfl, h1.ex (e.trans e2), h2.ex (e.trans e2), gd, hl, hg, h0, fun H3 p ys hp e3 h3 r3 => q H3 p (fresh_back e2 hp) (e2.trans e3) ⟨ys, h3, r3⟩⟩
theorem epn_settle (hb : Ev tb σ H (.ref t)) (hc : Ev tc σ H (nV g)) (h2 : MyT.TreeAt CT H t ps st) (gd : Good ps) (hl : ps.length ≤ 199) (hg : g ≤ ps.length) : EvPn (tCall (sp_splanN K CT) [] Er (tCons tb (tCons tc tNil))) σ H (deedsX (grpG .settle (some g) none false ps) [.off]) := fun H1 e Q q =>
  (ea_cons hb (ea_cons hc ea_nil) : EvA _ _ _ [.ref t, nV g]) H1 e _ fun H2 e2 => ⟨t, st, ps, g, rfl, h2.ex (e.trans e2), gd, hl, hg, fun H3 p ys hp e3 h3 r3 => q H3 p (fresh_back e2 hp) (e2.trans e3) ⟨ys, h3, r3⟩⟩
theorem epn_move (ha : Ev ta σ H (.ref b)) (hb : Ev tb σ H (.ref t)) (hc : Ev tc σ H (nV h)) {td : TE} (hd : Ev td σ H (nV g)) (h1 : BookAt K C H b r) (h2 : MyT.TreeAt CT H t ps st) (gd : Good ps) (hl : ps.length ≤ 199) (hh : h ≤ ps.length) (hg : g ≤ ps.length) : EvPn (tCall (sp_mplan K C CT) [] Er (tCons ta (tCons tb (tCons tc (tCons td tNil))))) σ H (mvDeeds ps r h g) := fun H1 e Q q =>
  (ea_cons ha (ea_cons hb (ea_cons hc (ea_cons hd ea_nil))) : EvA _ _ _ [.ref b, .ref t, nV h, nV g]) H1 e _ fun H2 e2 => ⟨b, t, r, h, g, st, ps, rfl, h1.ex (e.trans e2), h2.ex (e.trans e2), gd, hl, hh, hg, fun H3 p ys hp e3 h3 r3 => q H3 p (fresh_back e2 hp) (e2.trans e3) ⟨ys, h3, r3⟩⟩
theorem set_keep {o : HO} (h : PlanAt H p ds) {a : Addr} {xs : List V} (ha : H a = some (.lst xs)) (n : p ≠ a) : PlanAt (upd H a o) p ds := h.exL (ExB.set) ha n
theorem set_item {o : HO} (h : ItemAt K H p r) {a : Addr} {xs : List V} (ha : H a = some (.lst xs)) (n : p ≠ a) : ItemAt K (upd H a o) p r := by
  obtain ⟨ah, am, h1, h2, h3⟩ := h
  exact ⟨ah, am, by rw [upd_ne n]; exact h1, h2.exB ExB.set (NoTup.lst ha), h3.exB ExB.set (NoTup.lst ha)⟩
theorem ok_Lasked (T : Txt K mg w) (G_Tinit : FnG P w K mg base CX0 3 T.f_Tinit T.fd_Tinit ["self", "parents", "struck"] (MyT.sp_Tinit K T.C_Tree)) (G_take_plan : FnG P w K mg base CX0 9 T.f_take_plan T.fd_take_plan ["book", "tree", "group"] (sp_planN K T.C T.C_Tree .take .take)) (G_give_plan : FnG P w K mg base CX0 9 T.f_give_plan T.fd_give_plan ["book", "tree", "home"] (sp_planN K T.C T.C_Tree .give .give)) (G_move_plan : FnG P w K mg base CX0 9 T.f_move_plan T.fd_move_plan ["book", "tree", "home", "target"] (sp_mplan K T.C T.C_Tree)) (G_lift_plan : FnG P w K mg base CX0 9 T.f_lift_plan T.fd_lift_plan ["book", "tree", "home"] (sp_lplanN K T.C T.C_Tree)) (G_settle_plan : FnG P w K mg base CX0 9 T.f_settle_plan T.fd_settle_plan ["tree", "group"] (sp_splanN K T.C_Tree)) (G_Bfails : FnG P w K mg base CX0 1 T.f_Bfails T.fd_Bfails ["self"] (sp_BpartG .fails T.C)) (G_Bshared : FnG P w K mg base CX0 1 T.f_Bshared T.fd_Bshared ["self"] (sp_BpartG .shared T.C)) (G_Bholds : FnG P w K mg base CX0 1 T.f_Bholds T.fd_Bholds ["self"] (sp_BpartG .holds T.C)) (G_Bbatch : FnG P w K mg base CX0 1 T.f_Bbatch T.fd_Bbatch ["self"] (sp_BpartG .batch T.C)) (G_Bsettles : FnG P w K mg base CX0 1 T.f_Bsettles T.fd_Bsettles ["self"] (sp_BpartG .settles T.C)) (G_Brow : FnG P w K mg base CX0 3 T.f_Brow T.fd_Brow ["self", "kind"] (sp_Brow K T.C)) (G_Bwith_rowX : FnG P w K mg base (L2.CX P w) 9 T.f_Bwith_row T.fd_Bwith_row ["self", "kind", "row"] (sp_BwrX K T.C T.C_InvalidRow)) (G_Bwith_holdsX : FnG P w K mg base (L2.CX P w) 9 T.f_Bwith_holds T.fd_Bwith_holds ["self", "holds"] (sp_BwhX K T.C T.C_InvalidHolds)) (tb_Lasked : LamX.TabB base mg T.c_Lasked T.p_Lasked) : FnG P w K mg base CX0 14 T.f_Lasked T.fd_Lasked ["_law_made"] (sp_Lasked T) := by
  skip
  refine okGT T.FT_Lasked sc_Lasked (fun vs H Q E h => ?_) (fun A outer s H vs Q E gd hr h => ?_)
  · obtain ⟨_, _, rfl, _⟩ := h
    all_goals rfl
  · obtain ⟨b, r, rfl, hT, hb, q⟩ := h
    refine ⟨_, (pss_cons (ps_set (i := 1) sc_Lasked.nd rfl (Or.inl rfl) (pk gd T.mk_Tree G_Tinit (hr.mono (by decide)) (by rfl) T.m_Tree T.b1_Tinit T.v1_Tinit pass0 (pa_cons (pe_lst (pa_cons pe_int (pa_cons pe_int (pa_cons pe_int pa_nil)))) pa_nil))) (pss_cons (ps_set (i := 2) sc_Lasked.nd rfl (Or.inl rfl) (pe_lst (pa_cons (pc gd G_take_plan (hr.mono (by decide)) (by rfl) T.m_take_plan T.F_take_plan.kp T.b_take_plan .nil pass0 (pa_cons (pv 0) (pa_cons (pv 1) (pa_cons pe_int pa_nil)))) (pa_cons (pc gd G_give_plan (hr.mono (by decide)) (by rfl) T.m_give_plan T.F_give_plan.kp T.b_give_plan .nil pass0 (pa_cons (pv 0) (pa_cons (pv 1) (pa_cons pe_int pa_nil)))) (pa_cons (pc gd G_move_plan (hr.mono (by decide)) (by rfl) T.m_move_plan T.F_move_plan.kp T.b_move_plan .nil pass0 (pa_cons (pv 0) (pa_cons (pv 1) (pa_cons pe_int (pa_cons pe_int pa_nil))))) (pa_cons (pc gd G_lift_plan (hr.mono (by decide)) (by rfl) T.m_lift_plan T.F_lift_plan.kp T.b_lift_plan .nil pass0 (pa_cons (pv 0) (pa_cons (pv 1) (pa_cons pe_int pa_nil)))) pa_nil)))))) (pss_cons (ps_expr (pe_bm PySem.F.plainAttrs_list PySem.F.slot_list_append PySem.F.type_list_append mt_append (pv 2) (pa_cons (pc gd G_settle_plan (hr.mono (by decide)) (by rfl) T.m_settle_plan T.F_settle_plan.kp T.b_settle_plan .nil pass0 (pa_cons (pv 1) (pa_cons pe_int pa_nil))) pa_nil))) (pss_cons (ps_expr (pe_bm PySem.F.plainAttrs_list PySem.F.slot_list_append PySem.F.type_list_append mt_append (pv 2) (pa_cons (pe_lst (pa_cons (pgP gd (pv 0) T.c_Book T.P_Bfails G_Bfails (hr.mono (by decide)) T.b_Bfails .nil pass0) (pa_cons (pgP gd (pv 0) T.c_Book T.P_Bshared G_Bshared (hr.mono (by decide)) T.b_Bshared .nil pass0) (pa_cons (pgP gd (pv 0) T.c_Book T.P_Bholds G_Bholds (hr.mono (by decide)) T.b_Bholds .nil pass0) (pa_cons (pgP gd (pv 0) T.c_Book T.P_Bbatch G_Bbatch (hr.mono (by decide)) T.b_Bbatch .nil pass0) (pa_cons (pgP gd (pv 0) T.c_Book T.P_Bsettles G_Bsettles (hr.mono (by decide)) T.b_Bsettles .nil pass0) (pa_cons (pm gd (pv 0) T.c_Book T.M_Brow G_Brow (hr.mono (by decide)) T.b_Brow .nil pass0 (pa_cons pe_str pa_nil)) pa_nil))))))) pa_nil))) (pss_cons (ps_set (i := 3) sc_Lasked.nd rfl (Or.inl rfl) (pe_lst (pa_cons (pe_lamG (k := 11) gd (by rfl) T.m_Lis_refused T.F_Lis_refused T.b_Lis_refused sc_Lis_refused rfl (by first | exact Or.inl rfl | exact Or.inr (Or.inl rfl)) (heard_gives T rfl rfl) tb_Lasked rfl T.tab_Lasked T.one_Lasked (hr.mono (by decide)) (show LamX.LamS (defScope s_Lasked) _ from LamX.lamS_by (by decide +kernel)) rfl (fun _ _ _ _ _ => rfl) (fun A outer s H E f c gd hr => (pm gd (pv 0) T.c_Book T.M_Bwith_row G_Bwith_rowX (hr.mono (by decide)) T.b_Bwith_row .nil (passes_call (takes_of rfl rfl rfl rfl) fun _ _ _ _ z => z) (pa_cons pe_str (pa_cons (pe_tupX (pa_cons pe_str pa_nil)) pa_nil))))) pa_nil))) (pss_cons (ps_expr (pe_bm PySem.F.plainAttrs_list PySem.F.slot_list_append PySem.F.type_list_append mt_append (pv 3) (pa_cons (pe_lamG (k := 11) gd (by rfl) T.m_Lis_refused T.F_Lis_refused T.b_Lis_refused sc_Lis_refused rfl (by first | exact Or.inl rfl | exact Or.inr (Or.inl rfl)) (heard_gives T rfl rfl) tb_Lasked rfl T.tab_Lasked T.one_Lasked (hr.mono (by decide)) (show LamX.LamS (defScope s_Lasked) _ from LamX.lamS_by (by decide +kernel)) rfl (fun _ _ _ _ _ => rfl) (fun A outer s H E f c gd hr => (pm gd (pv 0) T.c_Book T.M_Bwith_holds G_Bwith_holdsX (hr.mono (by decide)) T.b_Bwith_holds .nil (passes_call (takes_of rfl rfl rfl rfl) fun _ _ _ _ z => z) (pa_cons pe_int pa_nil)))) pa_nil))) (pss_cons (ps_expr (pe_bm PySem.F.plainAttrs_list PySem.F.slot_list_append PySem.F.type_list_append mt_append (pv 2) (pa_cons (pv 3) pa_nil))) (pss_one (ps_ret (pv 2)))))))))), ?_⟩
    have d1 : ∀ H, MyT.Seq K H T.d1_Tinit [] := fun H => MyT.Seq.kst (fun H => T.e1_Tinit H) (fun H => T.y1_Tinit H)
    have gd1 : Good ps0 := show Good ((([] ++ [0]) ++ [1]) ++ [0]) from Good.snoc (Good.snoc (Good.snoc Good.nil (by decide)) (by decide)) (by decide)
    have hl : ps0.length ≤ 199 := by decide
    have hbH : BookAt K T.C H b r := hb.ex noT_sub
    obtain ⟨_, _, pb⟩ := id hb
    have ok : Ok r := pb.ok
    clear pb
    refine q_asgR (MyT.tr_1 (ps := ps0) d1 (MyT.es_l (el_lst (vs := ps0.map nV) (ea_cons (ev_is ev_c rfl) (ea_cons (ev_is ev_c rfl) (ea_cons (ev_is ev_c rfl) ea_nil))) (by show 3 ≤ 100000; omega))) gd1 hl H (Ex.refl H) _ fun t H1 e1 ht => ?_)
    show tSeq _ _ _ [some (.ref b), some (.ref t), none, none] H1
    have hb1 := hbH.ex e1
    refine q_asgR (lst_raw (cons_rw (epn_plan (g := 2) (ev_var rfl) (ev_var rfl) (ev_is ev_c rfl) hb1 ht gd1 hl (by decide) H1 (Ex.refl H1) _ fun H2 p1 _ e2 a1 => cons_rw (epn_plan (g := 2) (ev_var rfl) (ev_var rfl) (ev_is ev_c rfl) (hb1.ex e2) (ht.ex e2) gd1 hl (by decide) H2 (Ex.refl H2) _ fun H3 p2 _ e3 a2 => cons_rw (epn_move (h := 2) (g := 3) (ev_var rfl) (ev_var rfl) (ev_is ev_c rfl) (ev_is ev_c rfl) (hb1.ex (e2.trans e3)) (ht.ex (e2.trans e3)) gd1 hl (by decide) (by decide) H3 (Ex.refl H3) _ fun H4 p3 _ e4 a3 => cons1_raw (epn_lift (g := 1) (ev_var rfl) (ev_var rfl) (ev_is ev_c rfl) (hb1.ex ((e2.trans e3).trans e4)) (ht.ex ((e2.trans e3).trans e4)) gd1 hl (by decide) (by decide) H4 (Ex.refl H4) _ fun H5 p4 _ e5 a4 => ⟨sz_of (by show 4 ≤ 100000; omega), fun p hp => ?_⟩))))))
    have e6 : Ex H5 (upd H5 p (.lst [.ref p1, .ref p2, .ref p3, .ref p4])) := Ex.new hp
    have h6 : (upd H5 p (.lst [.ref p1, .ref p2, .ref p3, .ref p4])) p = some (.lst [.ref p1, .ref p2, .ref p3, .ref p4]) := upd_same
    have nP : ∀ {x : Addr} {ds : List (Wd × V)}, PlanAt H5 x ds → x ≠ p := fun h => by
      obtain ⟨ys, h1, _⟩ := h
      exact ne_of_none h1 hp
    have b1 := a1.ex (e3.trans (e4.trans e5))
    have b2 := a2.ex (e4.trans e5)
    have b3 := a3.ex e5
    have n1 := nP b1
    have n2 := nP b2
    have n3 := nP b3
    have n4 := nP a4
    have c1 := b1.ex e6
    have c2 := b2.ex e6
    have c3 := b3.ex e6
    have c4 := a4.ex e6
    have e16 : Ex H1 (upd H5 p (.lst [.ref p1, .ref p2, .ref p3, .ref p4])) := ((e2.trans e3).trans (e4.trans e5)).trans e6
    have np0 : H p = none := fresh_back (e1.trans ((e2.trans e3).trans (e4.trans e5))) hp
    generalize upd H5 p (.lst [.ref p1, .ref p2, .ref p3, .ref p4]) = H6 at h6 c1 c2 c3 c4 e16
    show tSeq _ _ _ [some (.ref b), some (.ref t), some (.ref p), none] H6
    have ht6 := ht.ex e16
    refine q_dropR ⟨_, rfl, .inl ⟨rfl, _, sq_of h6⟩, cons1_raw (epn_settle (g := 3) (ev_var rfl) (ev_is ev_c rfl) ht6 gd1 hl (by decide) H6 (Ex.refl H6) _ fun H7 p5 np5 e7 a5 => ⟨p, _, .ref p5, rfl, rfl, e7 _ _ h6, by rw [sizeLine_eq]; show 4 < _; omega, ?_⟩)⟩
    have h7 := e7 _ _ h6
    have n5 : p5 ≠ p := fun z => by rw [z, h6] at np5; cases np5
    have k1 := set_keep (o := .lst ([.ref p1, .ref p2, .ref p3, .ref p4] ++ [.ref p5])) (c1.ex e7) h7 n1
    have k2 := set_keep (o := .lst ([.ref p1, .ref p2, .ref p3, .ref p4] ++ [.ref p5])) (c2.ex e7) h7 n2
    have k3 := set_keep (o := .lst ([.ref p1, .ref p2, .ref p3, .ref p4] ++ [.ref p5])) (c3.ex e7) h7 n3
    have k4 := set_keep (o := .lst ([.ref p1, .ref p2, .ref p3, .ref p4] ++ [.ref p5])) (c4.ex e7) h7 n4
    have k5 := set_keep (o := .lst ([.ref p1, .ref p2, .ref p3, .ref p4] ++ [.ref p5])) a5 h7 n5
    have x8 : Ex H (upd H7 p (.lst ([.ref p1, .ref p2, .ref p3, .ref p4] ++ [.ref p5]))) := (e1.trans (e16.trans e7)).mut np0
    have T7 : LamX.Tabs T.tabs H7 := hT.ext (e1.trans (e16.trans e7))
    have T8 : LamX.Tabs T.tabs (upd H7 p (.lst ([.ref p1, .ref p2, .ref p3, .ref p4] ++ [.ref p5]))) := tabs_but (T := T) T7 h7 fun b' o' hb' h' => by rw [upd_ne hb']; exact h'
    have h8 : (upd H7 p (.lst ([.ref p1, .ref p2, .ref p3, .ref p4] ++ [.ref p5]))) p = some (.lst ([.ref p1, .ref p2, .ref p3, .ref p4] ++ [.ref p5])) := upd_same
    generalize upd H7 p (.lst ([.ref p1, .ref p2, .ref p3, .ref p4] ++ [.ref p5])) = H8 at k1 k2 k3 k4 k5 x8 T8 h8
    -- the parts
    have hb8 := hbH.ex x8
    obtain ⟨dx, dd, pb8⟩ := id hb8
    have part : ∀ (pt : Pt) {G : Hp} (e : Ex H8 G), ∃ v, (r.get pt).At K G v ∧ Ev (tProp T.C (sp_BpartG pt T.C) [] E0 (tVar 0)) [some (.ref b), some (.ref t), some (.ref p), none] G v := fun pt {G} e => ev_bpart (hb8.ex e) (ev_var rfl)
    obtain ⟨v1, q1, w1⟩ := part .fails (Ex.refl H8)
    obtain rfl : v1 = wV r.fails := q1
    obtain ⟨v2, q2, w2⟩ := part .shared (Ex.refl H8)
    obtain rfl : v2 = .bl r.shared := q2
    obtain ⟨v3, q3, w3⟩ := part .holds (Ex.refl H8)
    obtain ⟨ah, rfl, rah⟩ := q3
    obtain ⟨v4, q4, w4⟩ := part .batch (Ex.refl H8)
    obtain rfl : v4 = nV r.batch := q4
    obtain ⟨v5, q5, w5⟩ := part .settles (Ex.refl H8)
    obtain rfl : v5 = .bl r.settles := q5
    show tSeq _ _ _ [some (.ref b), some (.ref t), some (.ref p), none] H8
    refine q_dropR ⟨_, rfl, .inl ⟨rfl, _, sq_of h8⟩, cons1_raw (lst_raw (cons_raw w1 fun G1 g1 => cons_raw (w2.mono g1) fun G2 g2 => cons_raw (w3.mono (g1.trans g2)) fun G3 g3 => cons_raw (w4.mono ((g1.trans g2).trans g3)) fun G4 g4 => cons_raw (w5.mono (((g1.trans g2).trans g3).trans g4)) fun G5 g5 => cons1_raw (meth_raw (ev_var (v := .ref b) rfl) fun G6 g6 => ⟨dx, bf dd, (((g1.trans g2).trans g3).trans ((g4.trans g5).trans g6)) _ _ pb8.ob, bf_no dd (by decide +kernel), cons1_raw (ev_raw (ev_lp (p := .move) rfl) fun G7 g7 => ⟨b, r, .move, rfl, by decide, hb8.ex ((((g1.trans g2).trans g3).trans ((g4.trans g5).trans g6)).trans g7), fun G8 am g8 ram => ⟨sz_of (by show 6 ≤ 100000; omega), fun p6 hp6 => ?_⟩⟩)⟩)))⟩
    have x88 : Ex H8 G8 := ((((g1.trans g2).trans g3).trans ((g4.trans g5).trans g6)).trans g7).trans g8
    have hp8 := x88 _ _ h8
    have y9 : Ex G8 (upd G8 p6 (.lst [wV r.fails, .bl r.shared, .ref ah, nV r.batch, .bl r.settles, .ref am])) := Ex.new hp6
    have i9 : ItemAt K (upd G8 p6 (.lst [wV r.fails, .bl r.shared, .ref ah, nV r.batch, .bl r.settles, .ref am])) p6 r := ⟨ah, am, upd_same, rah.ex (x88.trans y9), ram.ex y9⟩
    have n6 : p6 ≠ p := (ne_of_none hp8 hp6).symm
    generalize upd G8 p6 (.lst [wV r.fails, .bl r.shared, .ref ah, nV r.batch, .bl r.settles, .ref am]) = H9 at y9 i9
    have h9 := y9 _ _ hp8
    refine ⟨p, _, .ref p6, rfl, rfl, h9, by rw [sizeLine_eq]; show 5 < _; omega, ?_⟩
    have x89 := x88.trans y9
    have m1 := set_keep (o := .lst ([.ref p1, .ref p2, .ref p3, .ref p4] ++ [.ref p5] ++ [.ref p6])) (k1.ex x89) h9 n1
    have m2 := set_keep (o := .lst ([.ref p1, .ref p2, .ref p3, .ref p4] ++ [.ref p5] ++ [.ref p6])) (k2.ex x89) h9 n2
    have m3 := set_keep (o := .lst ([.ref p1, .ref p2, .ref p3, .ref p4] ++ [.ref p5] ++ [.ref p6])) (k3.ex x89) h9 n3
    have m4 := set_keep (o := .lst ([.ref p1, .ref p2, .ref p3, .ref p4] ++ [.ref p5] ++ [.ref p6])) (k4.ex x89) h9 n4
    have m5 := set_keep (o := .lst ([.ref p1, .ref p2, .ref p3, .ref p4] ++ [.ref p5] ++ [.ref p6])) (k5.ex x89) h9 n5
    have m6 := set_item (o := .lst ([.ref p1, .ref p2, .ref p3, .ref p4] ++ [.ref p5] ++ [.ref p6])) i9 h9 n6
    have x10 : Ex H (upd H9 p (.lst ([.ref p1, .ref p2, .ref p3, .ref p4] ++ [.ref p5] ++ [.ref p6]))) := (x8.trans x89).mut np0
    have T10 : LamX.Tabs T.tabs (upd H9 p (.lst ([.ref p1, .ref p2, .ref p3, .ref p4] ++ [.ref p5] ++ [.ref p6]))) := tabs_but (T := T) (T8.ext x89) h9 fun b' o' hb' h' => by rw [upd_ne hb']; exact h'
    have h10 : (upd H9 p (.lst ([.ref p1, .ref p2, .ref p3, .ref p4] ++ [.ref p5] ++ [.ref p6]))) p = some (.lst ([.ref p1, .ref p2, .ref p3, .ref p4] ++ [.ref p5] ++ [.ref p6])) := upd_same
    generalize upd H9 p (.lst ([.ref p1, .ref p2, .ref p3, .ref p4] ++ [.ref p5] ++ [.ref p6])) = H10 at m1 m2 m3 m4 m5 m6 x10 T10 h10
    clear k1 k2 k3 k4 k5 c1 c2 c3 c4 b1 b2 b3 i9
    have t10 : noT H10 p = some (.lst ([.ref p1, .ref p2, .ref p3, .ref p4] ++ [.ref p5] ++ [.ref p6])) := noT_at h10 fun _ z => nomatch z
    have hB := hb.ex (noT_mono x10)
    -- two calls that are refused
    show tSeq _ _ _ [some (.ref b), some (.ref t), some (.ref p), none] H10
    refine q_asgR (lst_raw (cons1_raw ⟨T10, fun G nG TG => ?_⟩))
    have hbG := hB.ex (noT_to nG)
    obtain ⟨dxG, ddG, pbG⟩ := id hbG
    refine heard_raw (T := T) ?_
    show tMeth _ _ _ _ _ _ _ _ G _
    refine meth_raw (ev_var (v := .ref b) rfl) fun J1 j1 => ⟨dxG, bf ddG, j1 _ _ pbG.ob, bf_no ddG (by decide +kernel), cons_raw ev_c fun J2 j2 => cons1_raw ((er_1 (K := K) (w1 := .off) rfl : EvR K _ _ J2 [.off]) J2 (Ex.refl J2) _ fun ra0 J3 j3 ra => ⟨b, ra0, r, [.off], rfl, hbG.ex (j1.trans (j2.trans j3)), ra, ⟨by decide, by decide⟩, by decide, fun H' dd' e' => ⟨.inl rfl, fun H'' e'' => ⟨sz_of (by show 1 ≤ 100000; omega), fun pr hpr => ?_⟩⟩⟩)⟩
    have gJ : Ex G H'' := (j1.trans (j2.trans j3)).trans (e'.trans e'')
    have z11 : Ex (noT H10) (upd H'' pr (.lst [.bl true])) := ((noT_to nG).trans gJ).trans (Ex.new hpr)
    have npr : noT H10 pr = none := fresh_back ((noT_to nG).trans gJ) hpr
    have T11 : LamX.Tabs T.tabs (upd H'' pr (.lst [.bl true])) := TG.ext (gJ.trans (Ex.new hpr))
    have hr11 : (upd H'' pr (.lst [.bl true])) pr = some (.lst [.bl true]) := upd_same
    generalize upd H'' pr (.lst [.bl true]) = H11 at z11 T11 hr11
    clear gJ hbG pbG
    show tSeq _ _ _ [some (.ref b), some (.ref t), some (.ref p), some (.ref pr)] H11
    refine q_dropR ⟨_, rfl, .inl ⟨rfl, _, sq_of hr11⟩, cons1_raw ⟨T11, fun G' nG' TG' => ?_⟩⟩
    have hbG' := hB.ex ((noT_both z11).trans (noT_to nG'))
    obtain ⟨dxG', ddG', pbG'⟩ := id hbG'
    refine heard_raw (T := T) ?_
    show tMeth _ _ _ _ _ _ _ _ G' _
    refine meth_raw (ev_var (v := .ref b) rfl) fun J1 j1 => ⟨dxG', bf ddG', j1 _ _ pbG'.ob, bf_no ddG' (by decide +kernel), cons1_raw (ev_raw (v := .int 3) ev_c fun J2 j2 => ⟨b, r, 3, rfl, hbG'.ex (j1.trans j2), fun H' dd' e' => ⟨.inr rfl, fun H'' e'' => ?_⟩⟩)⟩
    have gJ : Ex (noT H11) H'' := (noT_to nG').trans ((j1.trans j2).trans (e'.trans e''))
    have hrJ : H'' pr = some (.lst [.bl true]) := gJ _ _ (noT_at hr11 fun _ z => nomatch z)
    refine ⟨pr, _, .bl true, rfl, rfl, hrJ, by rw [sizeLine_eq]; show 1 < _; omega, ?_⟩
    have z12 : Ex (noT H10) (upd H'' pr (.lst ([.bl true] ++ [.bl true]))) := ((noT_both z11).trans gJ).mut npr
    have T12 : LamX.Tabs T.tabs (upd H'' pr (.lst ([.bl true] ++ [.bl true]))) := tabs_but (T := T) (TG'.ext ((j1.trans j2).trans (e'.trans e''))) hrJ fun b' o' hb' h' => by rw [upd_ne hb']; exact h'
    have hr12 : (upd H'' pr (.lst ([.bl true] ++ [.bl true]))) pr = some (.lst ([.bl true] ++ [.bl true])) := upd_same
    generalize upd H'' pr (.lst ([.bl true] ++ [.bl true])) = H12 at z12 T12 hr12
    have hp12 := z12 _ _ t10
    have npp : p ≠ pr := ne_of_none t10 npr
    show tSeq _ _ _ [some (.ref b), some (.ref t), some (.ref p), some (.ref pr)] H12
    refine q_dropR ⟨_, rfl, .inl ⟨rfl, _, sq_of hp12⟩, cons1_raw (ev_raw (ev_var (v := .ref pr) rfl) fun J j => ⟨p, _, .ref pr, rfl, rfl, j _ _ hp12, by rw [sizeLine_eq]; show 6 < _; omega, ?_⟩)⟩
    have hpJ := j _ _ hp12
    have zJ := z12.trans j
    have x13 : Ex (noT H) (upd J p (.lst ([.ref p1, .ref p2, .ref p3, .ref p4] ++ [.ref p5] ++ [.ref p6] ++ [.ref pr]))) := ((noT_mono x10).trans zJ).mut (noT_none np0)
    have T13 : LamX.Tabs T.tabs (upd J p (.lst ([.ref p1, .ref p2, .ref p3, .ref p4] ++ [.ref p5] ++ [.ref p6] ++ [.ref pr]))) := tabs_but (T := T) (T12.ext j) hpJ fun b' o' hb' h' => by rw [upd_ne hb']; exact h'
    have A13 : AskAt K (upd J p (.lst ([.ref p1, .ref p2, .ref p3, .ref p4] ++ [.ref p5] ++ [.ref p6] ++ [.ref pr]))) p r := ⟨p1, p2, p3, p4, p5, p6, pr, upd_same, set_keep (m1.noT.ex zJ) hpJ n1, set_keep (m2.noT.ex zJ) hpJ n2, set_keep (m3.noT.ex zJ) hpJ n3, set_keep (m4.noT.ex zJ) hpJ n4, set_keep (m5.noT.ex zJ) hpJ n5, set_item (m6.noT.ex zJ) hpJ n6, by rw [upd_ne npp.symm]; exact j _ _ hr12⟩
    exact s_ret (ev_var (v := .ref p) rfl) fun G g => q G p (x13.trans g) (T13.ext g) (A13.ex g)
end
end My
namespace My
open PySem PySem.Spec PyProof.Rows L2 GL Evl StX SkE
/-! ### the law -/
def cor (a : Addr) (H : Hp) : Hp := MyT.hole a (noT H)
section
variable {K : PySem.W.Frag} {mg : Str → Option Value} {w : World} {C : Addr} {T : Txt K mg w} {H H' B : Hp} {a b d r t u l p : Addr} {ps st : List Nat} {xs : List V} {us : Rw} {rs : List Rw} {v : V} {ks : List Pt} {m : Ru} {o : HO}
theorem cor_noT : Ex (cor a H) (noT H) := MyT.hole_ex a _
theorem cor_sub : Ex (cor a H) H := cor_noT.trans noT_sub
theorem cor_ex (e : Ex H H') : Ex (cor a H) (cor a H') := MyT.hole_mono (ExB.of (noT_mono e))
theorem cor_at (h : H b = some o) (n : ∀ ps, o ≠ .tbl ps) (ne : b ≠ a) : cor a H b = some o := (MyT.hole_ne ne).trans (noT_at h n)
theorem cor_exB (e : ExB a H H') : Ex (cor a H) (cor a H') := MyT.hole_mono fun b o n h => by
  obtain ⟨h1, h2⟩ := noT_is h
  exact noT_at (e b o n h1) h2
structure Sit (T : Txt K mg w) (B : Hp) (a : Addr) (H : Hp) : Prop where
  x : Ex B (cor a H)
  pot : PotAt H a
  tb : LamX.Tabs T.tabs H
theorem Sit.ex (s : Sit T B a H) (e : Ex H H') : Sit T B a H' := ⟨s.x.trans (cor_ex e), s.pot.ex e, s.tb.ext e⟩
theorem Sit.exB (s : Sit T B a H) (e : ExB a H H') (p : PotAt H' a) : Sit T B a H' := by
  obtain ⟨x, y, hx, _⟩ := s.pot
  exact ⟨s.x.trans (cor_exB e), p, tabs_but s.tb hx e⟩
theorem Sit.now (s : Sit T B a H) : Ex B H := s.x.trans cor_sub
theorem Sit.nt (s : Sit T B a H) : Ex B (noT H) := s.x.trans cor_noT
end
def sp_LrightP {K : PySem.W.Frag} {mg : Str → Option Value} {w : World} (T : Txt K mg w) : Sp := fun vs H Q _ => ∃ a, vs = [.ref a] ∧ PotAt H a ∧ LamX.Tabs T.tabs H ∧ ∀ H', Ex (cor a H) H' → LamX.Tabs T.tabs H' → Q (.bl true) H'
def sp_lawT (K : PySem.W.Frag) (ts : List (Addr × Addr)) : Sp := fun vs H Q _ => ∃ (a : Addr) (ns : List Int), vs = [.ref a] ∧ SqL K H a (ns.map V.int) ∧ ns.length ≤ 63 ∧ (∀ p ∈ ts, H p.2 = some (.tbl #[])) ∧ ∀ H', Q (.bl true) H'
/-- a book beside its rules; e another dict -/
def PairE (K : PySem.W.Frag) (C e : Addr) (H : Hp) (t : Addr) (r : Ru) : Prop := ∃ o b dx dd d ks, H t = some (.frz o (.tup [.ref b, .ref d])) ∧ BookP K C H b dx dd r ∧ DictAt K H d ks r ∧ (∀ p : Pt, p ∈ ks) ∧ dd ≠ e ∧ d ≠ e
def PairAt (K : PySem.W.Frag) (C : Addr) (H : Hp) (t : Addr) (r : Ru) : Prop := ∃ o b d ks, H t = some (.frz o (.tup [.ref b, .ref d])) ∧ BookAt K C H b r ∧ DictAt K H d ks r ∧ (∀ p : Pt, p ∈ ks)
section
variable {K : PySem.W.Frag} {C e : Addr} {H H' : Hp} {t a : Addr} {r : Ru}
theorem PairE.at (h : PairE K C e H t r) : PairAt K C H t r := by
  obtain ⟨o, b, dx, dd, d, ks, h1, h2, h3, h4, _⟩ := h
  exact ⟨o, b, d, ks, h1, ⟨dx, dd, h2⟩, h3, h4⟩
theorem PairE.ex (h : PairE K C e H t r) (x : Ex H H') : PairE K C e H' t r := by
  obtain ⟨o, b, dx, dd, d, ks, h1, h2, h3, h4, h5, h6⟩ := h
  exact ⟨o, b, dx, dd, d, ks, x _ _ h1, h2.ex x, h3.ex x, h4, h5, h6⟩
theorem PairAt.ex (h : PairAt K C H t r) (x : Ex H H') : PairAt K C H' t r := by
  obtain ⟨o, b, d, ks, h1, h2, h3, h4⟩ := h
  exact ⟨o, b, d, ks, x _ _ h1, h2.ex x, h3.ex x, h4⟩
theorem PairAt.noT (h : PairAt K C H t r) : PairAt K C (My.noT H) t r := by
  obtain ⟨o, b, d, ks, h1, h2, h3, h4⟩ := h
  exact ⟨o, b, d, ks, noT_at h1 (fun _ z => nomatch z), book_noT h2, dict_noT h3, h4⟩
theorem PairE.exL {xs : List V} (h : PairE K C e H t r) (x : ExB a H H') (ha : H a = some (.lst xs)) : PairE K C e H' t r := by
  obtain ⟨o, b, dx, dd, d, ks, h1, h2, h3, h4, h5, h6⟩ := h
  refine ⟨o, b, dx, dd, d, ks, x _ _ (fun z => ?_) h1, h2.exB x (NoTup.lst ha) (fun z => ?_) (fun z => ?_), h3.exL x ha, h4, h5, h6⟩
  · rw [z, ha] at h1
    cases h1
  · have := h2.ob
    rw [z, ha] at this
    cases this
  · obtain ⟨f, h, _⟩ := h2.di
    rw [z, ha] at h
    cases h
theorem PairE.exD {kvs : List (Key × V)} (h : PairE K C e H t r) (x : ExB e H H') (ha : H e = some (.dK kvs)) : PairE K C e H' t r := by
  obtain ⟨o, b, dx, dd, d, ks, h1, h2, h3, h4, h5, h6⟩ := h
  refine ⟨o, b, dx, dd, d, ks, x _ _ (fun z => ?_) h1, h2.exB x (NoTup.dK ha) (fun z => ?_) h5, h3.exB x h6 (NoTup.dK ha), h4, h5, h6⟩
  · rw [z, ha] at h1
    cases h1
  · have := h2.ob
    rw [z, ha] at this
    cases this
end
/-- such pairs, in a list -/
def PairsE (K : PySem.W.Frag) (C e : Addr) (H : Hp) (p : Addr) (rs : List Ru) : Prop := ∃ ts : List Addr, H p = some (.lst (ts.map V.ref)) ∧ Paired (fun t r => PairE K C e H t r) ts rs
/-- the text of [book, (book,)] -/
def bothText (s : Str) : Str := (((("[" : Str) ++ s) ++ ", (") ++ s) ++ ",)]"
theorem both_eq (s : Str) : listText [s, tupleText [s]] = bothText s := by
  have h1 : listText [s, tupleText [s]] = ((((Str.ofString "[" ++ Str.ofString "") ++ s) ++ Str.ofString ", ") ++ tupleText [s]) ++ Str.ofString "]" := rfl
  have h2 : tupleText [s] = (Str.ofString "(" ++ s) ++ Str.ofString ",)" := rfl
  have h3 : bothText s = (((Str.ofString "[" ++ s) ++ Str.ofString ", (") ++ s) ++ Str.ofString ",)]" := rfl
  have c1 : Str.ofString "[" ++ Str.ofString "" = Str.ofString "[" := by decide
  have c2 : Str.ofString ", (" = Str.ofString ", " ++ Str.ofString "(" := by decide
  have c3 : Str.ofString ",)]" = Str.ofString ",)" ++ Str.ofString "]" := by decide
  rw [h1, h2, h3, c1, c2, c3]
  simp only [Str.append_assoc]
section
variable {P : Program} {w : World} {K : PySem.W.Frag} {mg : Str → Option Value} {base : Heap} {T : Txt K mg w} {C e : Addr} {H H' H0 H1 G B : Hp} {σ : L2.St} {te ta tb tc : TE} {tt t : TT} {tA : TA} {ta' : TA} {E Er : XK} {D : Ends} {tz : TS} {a b d u p : Addr} {us : Rw} {xs ys : List V} {ks : List Pt} {r l : Ru} {x v : V} {Q : VK}
theorem or_raw {t u : TT} {QB : Bool → Hp → Prop} (h : t σ H fun c H1 => if c = true then QB true H1 else u σ H1 QB) : tOr t u σ H QB := h
theorem lc_R1 {j : Nat} {vs : List Nat} {n : Nat} {Q : VK} (Pv : Addr → Nat → Hp → Prop) (h : EvA tA σ H [nV n]) (hn : n ≤ 40000) (h0 : ∀ H1 Dl, Ex H H1 → H1 Dl = none → Pv Dl 0 (upd H1 Dl (.lst [])))
    (hs : ∀ Dl (i : Nat) H', i < n → Pv Dl i H' → wipe ((wipe σ vs).set j (some (nV i))) vs = wipe σ vs ∧ t ((wipe σ vs).set j (some (nV i))) H' fun b H3 => if b = true then te ((wipe σ vs).set j (some (nV i))) H3 fun y H4 => ∃ acc, H4 Dl = some (.lst acc) ∧ acc.length < sizeLine ∧ Pv Dl (i + 1) (upd H4 Dl (.lst (acc ++ [y]))) else Pv Dl (i + 1) H3)
    (hd : ∀ Dl H', Pv Dl n H' → Q (.ref Dl) H') : tLc (iRng1 tA) (gName j) t te vs σ H Q := h H (Ex.refl H) _ fun H1 e1 => ⟨(n : Int), rfl, by omega, by omega, fun Dl hD =>
  lc_range (lo := 0) (n := (n : Int).toNat) (Pv Dl) (h0 H1 Dl e1 hD) (fun i H' hi p => by
    have e0 : (0 : Int) + (i : Int) = (i : Int) := Int.zero_add _
    rw [e0]
    exact hs Dl i H' (by omega) p) (fun H' p => hd Dl H' (by rwa [Int.toNat_natCast] at p))⟩
theorem cons_ev {Q : List V → Hp → Prop} (h : Ev te σ H x) (k : ∀ H1, Ex H H1 → tA σ H1 fun xs H2 => Q (x :: xs) H2) : tCons te tA σ H Q := h H (Ex.refl H) _ k
theorem nil_raw {Q : List V → Hp → Prop} (h : Q [] H) : tNil σ H Q := h
theorem call_raw0 {sp : Sp} {E : XK} {Q : VK} (h : tA σ H fun vs H1 => sp (vs ++ []) H1 Q E) : tCall sp [] E tA σ H Q := h
theorem sq_noT (h : SqL K H a xs) : SqL K (noT H) a xs := by
  rcases h with (h | ⟨ob, h⟩) | h
  · exact .inl (.inl (noT_at h fun _ z => nomatch z))
  · exact .inl (.inr ⟨ob, noT_at h fun _ z => nomatch z⟩)
  · exact .inr h
theorem bText_len {r : Ru} (ok : Ok r) : (bText r).length ≤ 2100 := by
  have z := join_len (items_len ok)
  rw [List.length_map, show bookKs.length = 9 from rfl] at z
  unfold bText
  rw [Str.length_append, Str.length_append, Str.length_append]
  have e3 : Str.empty.length = 0 := by decide
  have e4 : (Str.ofString "Book(").length = 5 := by decide
  have e5 : (Str.ofString ")").length = 1 := by decide
  omega
/-- repr([b, (b,)]) -/
theorem ev_both {Eb Et : XK} (hb : BookAt K C H b r) (h1 : Ev ta σ H (.ref b)) (h2 : ∀ H1, Ex H H1 → Ev tb σ H1 (.ref b)) :
    Ev (tCB (rReprI K fun L H v z => itInst C (fun L => sp_BreprL K C L) Eb L H v z ∨ itTup1 K (itInst C (fun L => sp_BreprL K C L) Et) L H v z) (tCons (tLst (tCons ta (tCons (tTupX (tCons tb tNil)) tNil))) tNil)) σ H (.str (bothText (bText r))) := fun H1 x Q q => by
  refine cb1_raw (lst_raw (cons_rw (h1 H1 x _ fun H2 x2 => cons1_raw (tupx_rawX (cons1_raw (h2 H2 (x.trans x2) H2 (Ex.refl H2) _ fun H3 x3 => ⟨sz_of (by show 1 ≤ 100000; omega), fun t o ht bo => ⟨sz_of (by show 2 ≤ 100000; omega), fun p hp => ?_⟩⟩))))))
  have y4 : Ex H3 (upd H3 t (.frz o (.tup [.ref b]))) := Ex.new ht
  have t4 : (upd H3 t (.frz o (.tup [.ref b]))) t = some (.frz o (.tup [.ref b])) := upd_same
  generalize upd H3 t (.frz o (.tup [.ref b])) = H4 at y4 t4 hp
  have y5 : Ex H4 (upd H4 p (.lst [.ref b, .ref t])) := Ex.new hp
  have p5 : (upd H4 p (.lst [.ref b, .ref t])) p = some (.lst [.ref b, .ref t]) := upd_same
  have ntp : t ≠ p := ne_of_none t4 hp
  generalize upd H4 p (.lst [.ref b, .ref t]) = H5 at y5 p5
  have x5 : Ex H1 H5 := x2.trans (x3.trans (y4.trans y5))
  have hb5 := hb.ex (x.trans x5)
  obtain ⟨dx, d, pb⟩ := id hb5
  have st5 : SqT K H5 t [.ref b] := .inl (.inr ⟨o, y5 _ _ t4⟩)
  have odd1 : ∀ {G : Hp}, Ex H5 G → Odd K G p := fun g => ⟨_, b, _, _, _, .inl (sq_of (g _ _ p5)), List.mem_cons_self, g _ _ pb.ob⟩
  have odd2 : ∀ {G : Hp}, Ex H5 G → Odd K G t := fun g => ⟨_, b, _, _, _, .inr (ex_t g st5), List.mem_cons_self, g _ _ pb.ob⟩
  refine ⟨p, [.ref b, .ref t], [bText r, tupleText [bText r]], rfl, sq_of p5, by simp, rfl, fun j v z h3 h4 => ?_, ?_, fun H6 x6 => ?_⟩
  · cases j with
    | zero =>
      obtain rfl := Option.some.inj h3
      obtain rfl := Option.some.inj h4
      exact .inl ⟨b, dx, _, rfl, pb.ob, fun G g => ⟨b, r, rfl, hb5.ex g, fun l hl => by rw [List.mem_singleton.mp hl]; exact odd1 g, fun G' g' => ⟨rfl, g'⟩⟩⟩
    | succ j =>
      cases j with
      | zero =>
        obtain rfl := Option.some.inj h3
        obtain rfl := Option.some.inj h4
        exact .inr ⟨t, .ref b, bText r, rfl, st5, fun h => ntp (List.mem_singleton.mp h), rfl, b, dx, _, rfl, pb.ob, fun G g => ⟨b, r, rfl, hb5.ex g, fun l hl => by
          rcases List.mem_cons.mp hl with rfl | hl
          · exact odd2 g
          · rw [List.mem_singleton.mp hl]
            exact odd1 g, fun G' g' => ⟨rfl, g'⟩⟩⟩
      | succ j => exact absurd h3 (by simp)
  · rw [both_eq]
    have := bText_len pb.ok
    unfold bothText
    simp only [Str.length_append]
    rw [sizeLine_eq, show (Str.ofString "[").length = 1 by decide, show (Str.ofString ", (").length = 3 by decide, show (Str.ofString ",)]").length = 3 by decide]
    omega
  · rw [both_eq]
    exact q H6 (x5.trans x6)
end
end My
namespace My
open PySem PySem.Spec PyProof.Rows L2 GL Evl StX SkE
section
variable {P : Program} {w : World} {K : PySem.W.Frag} {mg : Str → Option Value} {base : Heap} {T : Txt K mg w} {C e : Addr} {H H' H0 H1 G B : Hp} {σ : L2.St} {te ta tb tc : TE} {tt t : TT} {tA : TA} {ta' : TA} {E Er : XK} {D : Ends} {tz : TS} {a b d u p : Addr} {us : Rw} {xs ys : List V} {ks : List Pt} {r l : Ru} {x v : V} {Q : VK} {rs : List Ru} {kvs : List (Key × V)}
theorem cor_none (h : H p = none) : cor a H p = none := by
  cases z : cor a H p with
  | none => rfl
  | some o =>
    rw [cor_sub _ _ z] at h
    cases h
theorem tabs_put (tb : LamX.Tabs T.tabs H) (hr : H p = some (.dK kvs)) (e : ∀ b o, b ≠ p → H b = some o → H' b = some o) : LamX.Tabs T.tabs H' := fun q hq => by
  obtain ⟨qs, h1, h2, h3⟩ := tb q hq
  have nt : ∀ {b : Addr} {o : HO}, H b = some o → (∀ ys, o ≠ .dK ys) → b ≠ p := fun {b o} hb n z => by
    rw [z, hr] at hb
    exact n kvs (Option.some.inj hb).symm
  refine ⟨qs, e _ _ (nt h1 fun _ z => nomatch z) h1, h2, fun pos cv hc => ?_⟩
  obtain ⟨c, e1, e2⟩ := h3 pos cv hc
  refine ⟨c, e1, e _ _ (nt e2 fun ys z => ?_) e2⟩
  unfold LamX.CodeO at z
  cases z
theorem Sit.mutL (s : Sit T B a H) (hp : H p = some (.lst xs)) (np : B p = none) (n : p ≠ a) (e : ExB p H H') : Sit T B a H' := by
  refine ⟨fun b o hb => ?_, ?_, tabs_but (T := T) s.tb hp e⟩
  · have h1 := s.x _ _ hb
    have nb : b ≠ a := fun z => by
      rw [z, show cor a H a = none from if_pos rfl] at h1
      cases h1
    exact cor_at (e _ _ (fun z => by rw [z, np] at hb; cases hb) (cor_sub _ _ h1)) (noT_is (cor_noT _ _ h1)).2 nb
  · obtain ⟨x, y, hx, hh⟩ := s.pot
    exact ⟨x, y, e _ _ n.symm hx, hh⟩
theorem Sit.mutD (s : Sit T B a H) (hp : H p = some (.dK kvs)) (np : B p = none) (n : p ≠ a) (e : ExB p H H') : Sit T B a H' := by
  refine ⟨fun b o hb => ?_, ?_, tabs_put (T := T) s.tb hp e⟩
  · have h1 := s.x _ _ hb
    have nb : b ≠ a := fun z => by
      rw [z, show cor a H a = none from if_pos rfl] at h1
      cases h1
    exact cor_at (e _ _ (fun z => by rw [z, np] at hb; cases hb) (cor_sub _ _ h1)) (noT_is (cor_noT _ _ h1)).2 nb
  · obtain ⟨x, y, hx, hh⟩ := s.pot
    exact ⟨x, y, e _ _ n.symm hx, hh⟩
theorem methR {m : Str} {sp : Sp} {dvs : List V} (h : ta σ H fun x H1 => ∃ b dx fs, x = .ref b ∧ H1 b = some (.ins C dx fs) ∧ fs.lookup m = none ∧ tA σ H1 fun vs H2 => sp (x :: (vs ++ dvs)) H2 Q Er) : tMeth C m sp dvs Er ta tA σ H Q := h
theorem frz_t {r : Addr} {ob : Obj} {xs : List V} (h : H r = some (.frz ob (.tup xs))) : SqT K H r xs := .inl (.inr ⟨ob, h⟩)
theorem PairsE.ex (h : PairsE K C e H p rs) (x : Ex H H') : PairsE K C e H' p rs := by
  obtain ⟨ts, h1, h2⟩ := h
  exact ⟨ts, x _ _ h1, L2.Paired.mapP h2 fun t r h => h.ex x⟩
theorem PairsE.exL (h : PairsE K C e H p rs) (x : ExB a H H') (ha : H a = some (.lst xs)) (n : p ≠ a) : PairsE K C e H' p rs := by
  obtain ⟨ts, h1, h2⟩ := h
  exact ⟨ts, x _ _ n h1, L2.Paired.mapP h2 fun t r h => h.exL x ha⟩
theorem PairsE.exD (h : PairsE K C e H p rs) (x : ExB e H H') (ha : H e = some (.dK kvs)) : PairsE K C e H' p rs := by
  obtain ⟨ts, h1, h2⟩ := h
  exact ⟨ts, x _ _ (fun z => by rw [z, ha] at h1; cases h1) h1, L2.Paired.mapP h2 fun t r h => h.exD x ha⟩
theorem PairsE.lst (h : PairsE K C e H p rs) : ∃ ts : List Addr, H p = some (.lst (ts.map V.ref)) ∧ ts.length = rs.length := by
  obtain ⟨ts, h1, h2⟩ := h
  exact ⟨ts, h1, h2.length⟩
theorem paired_snoc {α β : Type} {F : α → β → Prop} : ∀ {xs : List α} {ys : List β} {x : α} {y : β}, Paired F xs ys → F x y → Paired F (xs ++ [x]) (ys ++ [y])
  | _, _, _, _, .nil, h => .cons h .nil
  | _, _, _, _, .cons h t, h2 => .cons h (paired_snoc t h2)
/-- one pair more -/
theorem PairsE.put {t : Addr} (h : PairsE K C e H p rs) (ht : PairE K C e H t r) {ts : List Addr} (hp : H p = some (.lst (ts.map V.ref))) : PairsE K C e (upd H p (.lst (ts.map V.ref ++ [.ref t]))) p (rs ++ [r]) := by
  obtain ⟨ts', h1, h2⟩ := h
  have e1 : ts' = ts := by
    rw [hp] at h1
    have := HO.lst.inj (Option.some.inj h1)
    exact (List.map_inj_right fun x y h => V.ref.inj h).mp this.symm
  subst e1
  exact ⟨ts' ++ [t], by rw [upd_same, List.map_append]; rfl, paired_snoc (L2.Paired.mapP h2 fun t r h => h.exL ExB.set hp) (ht.exL ExB.set hp)⟩
def fD (T : Txt K mg w) : Pt → V
  | .take => .ref T.kd_take
  | .give => .ref T.kd_give
  | .move => .ref T.kd_move
  | .lift => .ref T.kd_lift
  | .fails => .str "undo"
  | .shared => .bl true
  | .holds => .ref T.kd_holds
  | .batch => .int 1
  | .settles => .bl true
theorem ok_plainRu : Ok plainRu := ⟨⟨⟨by decide, by decide⟩, by decide, by decide⟩, ⟨⟨by decide, by decide⟩, by decide⟩, ⟨⟨by decide, by decide⟩, by decide, by decide⟩, ⟨⟨by decide, by decide⟩, by decide⟩, by decide, show kindRows.Sublist kindRows from List.Sublist.refl _, ⟨by decide, by decide⟩⟩
theorem at_plain (T : Txt K mg w) (p : Pt) : (plainRu.get p).At K H (fD T p) := by
  cases p with
  | take => exact ⟨T.kd_take, rfl, .kst T.ks_take T.ky_take T.kt_take⟩
  | give => exact ⟨T.kd_give, rfl, .kst T.ks_give T.ky_give T.kt_give⟩
  | move => exact ⟨T.kd_move, rfl, .kst T.ks_move T.ky_move T.kt_move⟩
  | lift => exact ⟨T.kd_lift, rfl, .kst T.ks_lift T.ky_lift T.kt_lift⟩
  | fails => rfl
  | shared => rfl
  | holds => exact ⟨T.kd_holds, rfl, .kst T.ks_holds T.ky_holds⟩
  | batch => rfl
  | settles => rfl
theorem paired_last {α β : Type} {F : α → β → Prop} : ∀ {rs : List β} {xs : List α} {y : β}, Paired F xs (rs ++ [y]) → ∃ xs' x, xs = xs' ++ [x] ∧ F x y
  | [], _, _, h => by
    cases h with
    | cons h t =>
      cases t
      exact ⟨[], _, rfl, h⟩
  | r :: rs, _, _, h => by
    cases h with
    | cons h t =>
      obtain ⟨xs', x, rfl, h2⟩ := paired_last t
      exact ⟨_ :: xs', x, rfl, h2⟩
theorem paired_get {α β : Type} {F : α → β → Prop} {i : Nat} {x : α} : ∀ {xs : List α} {ys : List β}, Paired F xs ys → xs[i]? = some x → ∃ y ∈ ys, F x y := fun {xs ys} h => by
  induction h generalizing i with
  | nil => exact fun z => absurd z (by simp)
  | cons h t ih =>
    intro z
    cases i with
    | zero =>
      obtain rfl := Option.some.inj z
      exact ⟨_, List.mem_cons_self, h⟩
    | succ i =>
      obtain ⟨y, hy, f⟩ := ih z
      exact ⟨y, List.mem_cons_of_mem _ hy, f⟩
theorem atI_last {xs : List V} {x : V} : atI (xs ++ [x]) (-1) = some x := by
  have hl : (xs ++ [x]).length = xs.length + 1 := by simp
  unfold atI
  rw [hl]
  have e : ixN (xs.length + 1) (-1) = some xs.length := by
    unfold ixN
    rw [if_neg (by omega), if_pos (by omega)]
    congr 1
    omega
  rw [e]
  simp
/-- Book() -/
theorem mk_plain {dvs : List V} (hd : dvs = [.ref T.kd_take, .ref T.kd_give, .ref T.kd_move, .ref T.kd_lift, .str "undo", .bl true, .ref T.kd_holds, .int 1, .bl true]) (k : ∀ b H1, Ex H H1 → BookNew K T.C H H1 b plainRu → Q (.ref b) H1) : tMake T.C (sp_Binit K T.C) dvs Er tNil σ H Q := by
  subst hd
  exact tmake_raw (nil_raw fun x dx hx hdx nd => ⟨H, x, dx, plainRu, fD T, rfl, (Ex.new hdx).mut hx, hx, upd_same, at_plain T, ok_plainRu, fun H2 e2 hB => ⟨rfl, k x H2 e2 hB⟩⟩)
theorem PairAt.exL {t : Addr} (h : PairAt K C H t r) (x : ExB a H H') (ha : H a = some (.lst xs)) : PairAt K C H' t r := by
  obtain ⟨o, b, d, ks, h1, h2, h3, h4⟩ := h
  exact ⟨o, b, d, ks, x _ _ (fun z => by rw [z, ha] at h1; cases h1) h1, h2.exL x ha, h3.exL x ha, h4⟩
theorem AskAt.noT (h : AskAt K H p r) : AskAt K (My.noT H) p r := by
  obtain ⟨p1, p2, p3, p4, p5, p6, z, h0, h1, h2, h3, h4, h5, h6, h7⟩ := h
  exact ⟨p1, p2, p3, p4, p5, p6, z, noT_at h0 (fun _ z => nomatch z), h1.noT, h2.noT, h3.noT, h4.noT, h5.noT, h6.noT, noT_at h7 (fun _ z => nomatch z)⟩
theorem rc_ask (h : AskAt K H p r) (ok : Ok r) : RC (rRepr K) [.ref p] H (.str (askD r).shown) := fun H1 x Q q => by
  have s := sm_ask ok
  exact ⟨_, askD r, rfl, (h.ex x).dp ok, rfl, s.sh, s.nd, Nat.le_trans s.de (by omega), by have := s.ln; rw [sizeLine_eq]; omega, q H1 (Ex.refl H1)⟩
theorem rc_book {Eb : XK} (h : BookAt K C H b r) : RC (fun xs H Q => ∃ a dx fs, xs = [V.ref a] ∧ H a = some (.ins C dx fs) ∧ (sp_BreprL K C []) [.ref a] H (fun v H' => ∃ z : Str, v = .str z ∧ Q (.str z) H') Eb) [.ref b] H (.str (bText r)) := fun H1 x Q q => by
  obtain ⟨dx, d, pb⟩ := id (h.ex x)
  exact ⟨b, dx, _, rfl, pb.ob, b, r, rfl, h.ex x, fun l hl => absurd hl List.not_mem_nil, fun H2 x2 => ⟨_, rfl, q H2 x2⟩⟩
theorem q_ifRaw {tu tw : TS} (h : tt σ H fun b H1 => if b = true then tu { D with nx := tz D } σ H1 else tw { D with nx := tz D } σ H1) : tSeq (tIfS tt tu tw) tz D σ H := h
theorem tt_shaped : SeqAt.shaped (.list [.bool true, .bool true]) = true := by decide +kernel
theorem et_last {i : Nat} (hs : σ[i]? = some (some (.ref p))) (h : AskAt K H p r) : EvT (tTest (tOp (rNeD K) (tOp (rIxL K) (tVar i) (tUn (rU fun i => .int (-i)) (tC (.int 1)))) (tLst (tCons (tC (.bl true)) (tCons (tC (.bl true)) tNil))))) σ H false := et_test fun H1 x Q q => by
  obtain ⟨p1, p2, p3, p4, p5, p6, z, h0, _, _, _, _, _, _, h7⟩ := h.ex x
  refine op_raw ((ev_op (ev_var hs) (ev_un ev_c ru_neg) (rv_ixL (sq_of h0) (atI_last (xs := [.ref p1, .ref p2, .ref p3, .ref p4, .ref p5, .ref p6]) (x := .ref z))) : Ev _ _ _ (.ref z)) H1 (Ex.refl H1) _ fun H2 x2 => ?_)
  refine (el_lst (ea_cons ev_c (ea_cons ev_c ea_nil)) (by show 2 ≤ 100000; omega) : EvL _ _ _ [.bl true, .bl true]) H2 (Ex.refl H2) _ fun l H3 hl x3 h3 => ?_
  refine ⟨.list [.bool true, .bool true], .list [.bool true, .bool true], .lst (sq_of ((x2.trans x3) _ _ h7)) (.cons (.bl _) (.cons (.bl _) .nil)), .lst (sq_of h3) (.cons (.bl _) (.cons (.bl _) .nil)), tt_shaped, tt_shaped, ?_⟩
  rw [SeqAt.eqv_refl _ (SeqAt.canLay_of_shaped tt_shaped)]
  exact q H3 (x2.trans x3)
theorem ok_Lright (T : Txt K mg w) (G_Binit : FnG P w K mg base CX0 7 T.f_Binit T.fd_Binit ["self", "take", "give", "move", "lift", "fails", "shared", "holds", "batch", "settles"] (sp_Binit K T.C)) (G_Lplain : FnG P w K mg base CX0 1 T.f_Lplain T.fd_Lplain [] (sp_Lplain K)) (G_Lany : FnG P w K mg base CX0 4 T.f_Lany T.fd_Lany ["_law_pot_here"] (sp_Lany K)) (G_Lbook : FnG P w K mg base CX0 9 T.f_Lbook T.fd_Lbook ["_law_rules"] (sp_Lbook K T.C)) (G_Bwith_row : FnG P w K mg base CX0 9 T.f_Bwith_row T.fd_Bwith_row ["self", "kind", "row"] (sp_Bwr K T.C)) (G_Bwith_holds : FnG P w K mg base CX0 9 T.f_Bwith_holds T.fd_Bwith_holds ["self", "holds"] (sp_Bwh K T.C)) (G_Lshown : FnG P w K mg base CX0 2 T.f_Lshown T.fd_Lshown ["_law_rules"] (sp_Lshown K)) (G_Lasked : FnG P w K mg base CX0 14 T.f_Lasked T.fd_Lasked ["_law_made"] (sp_Lasked T)) (G_Brepr : ∀ L : List Addr, FnL L P w K mg base CX0 1 T.f_Brepr T.fd_Brepr ["self"] (sp_BreprL K T.C L)) : FnG P w K mg base CX0 15 T.f_Lright T.fd_Lright ["_law_pot_here"] (sp_LrightP T) := by
  skip
  refine okG T.F_Lright sc_Lright (fun vs H Q E h => ?_) (fun cdv A outer s H vs Q E gd hr h => ?_)
  · obtain ⟨_, rfl, _⟩ := h
    all_goals rfl
  · obtain ⟨a, rfl, hp, hT, q⟩ := h
    refine ⟨_, (pss_cons (ps_par (i := 1) (j := 2) rfl sc_Lright.nd rfl rfl (by decide) rfl rfl (pa_cons (pe_lst (pa_cons (pe_tupX (pa_cons (pk0 gd T.mk_Book G_Binit (hr.mono (by decide)) (by rfl) T.m_Book T.b0_Binit T.v0_Binit pass0) (pa_cons (pc0 gd G_Lplain (hr.mono (by decide)) (by rfl) T.m_Lplain T.F_Lplain.kp T.b_Lplain .nil pass0) pa_nil))) pa_nil)) (pa_cons (pc0 gd G_Lplain (hr.mono (by decide)) (by rfl) T.m_Lplain T.F_Lplain.kp T.b_Lplain .nil pass0) pa_nil)) (by rfl)) (pss_cons (ps_for PassesOwn.never rfl (pi_range1 (by rfl) T.z_range (pa_cons pe_int pa_nil)) (pg_name (i := 3) sc_Lright.nd rfl (Or.inl rfl) (Or.inr rfl)) (pss_cons (ps_set (i := 4) sc_Lright.nd rfl (Or.inl rfl) (pc gd G_Lany (hr.mono (by decide)) (by rfl) T.m_Lany T.F_Lany.kp T.b_Lany .nil pass0 (pa_cons (pv 0) pa_nil))) (pss_one (ps_expr (pe_bm PySem.F.plainAttrs_list PySem.F.slot_list_append PySem.F.type_list_append mt_append (pv 1) (pa_cons (pe_tupX (pa_cons (pc gd G_Lbook (hr.mono (by decide)) (by rfl) T.m_Lbook T.F_Lbook.kp T.b_Lbook .nil pass0 (pa_cons (pv 4) pa_nil)) (pa_cons (pv 4) pa_nil))) pa_nil)))))) (pss_cons (ps_asg (pe_tupX (pa_cons (pe_dget (hu_of hr) (pe_ix ix_tup (pe_ix ix_list (pv 1) (pe_un un_neg pe_int) (fun _ _ => rfl)) pe_int (fun _ _ => rfl)) pe_str (fun _ _ => rfl)) (pa_cons (pe_dget (hu_of hr) (pe_ix ix_tup (pe_ix ix_list (pv 1) (pe_un un_neg pe_int) (fun _ _ => rfl)) pe_int (fun _ _ => rfl)) pe_str (fun _ _ => rfl)) pa_nil))) (pg_tup rfl (pgs_cons (pg_sub (pv 2) pe_str (set_dict (hu_of hr))) (pgs_cons (pg_sub (pv 2) pe_str (set_dict (hu_of hr))) pgs_nil)))) (pss_cons (ps_expr (pe_bm PySem.F.plainAttrs_list PySem.F.slot_list_append PySem.F.type_list_append mt_append (pv 1) (pa_cons (pe_tupX (pa_cons (pm gd (pm gd (pk0 gd T.mk_Book G_Binit (hr.mono (by decide)) (by rfl) T.m_Book T.b0_Binit T.v0_Binit pass0) T.c_Book T.M_Bwith_row G_Bwith_row (hr.mono (by decide)) T.b_Bwith_row .nil pass0 (pa_cons pe_str (pa_cons (pe_dget (hu_of hr) (pv 2) pe_str (fun _ _ => rfl)) pa_nil))) T.c_Book T.M_Bwith_holds G_Bwith_holds (hr.mono (by decide)) T.b_Bwith_holds .nil pass0 (pa_cons (pe_dget (hu_of hr) (pv 2) pe_str (fun _ _ => rfl)) pa_nil)) (pa_cons (pv 2) pa_nil))) pa_nil))) (pss_cons (ps_for PassesOwn.never rfl (pi_list (pv 1)) (pg_tup rfl (pgs_cons (pg_name (i := 5) sc_Lright.nd rfl (Or.inl rfl) (Or.inr rfl)) (pgs_cons (pg_name (i := 4) sc_Lright.nd rfl (Or.inl rfl) (Or.inr rfl)) pgs_nil))) (pss_cons (ps_par (i := 6) (j := 7) rfl sc_Lright.nd rfl rfl (by decide) rfl rfl (pa_cons (pc gd G_Lshown (hr.mono (by decide)) (by rfl) T.m_Lshown T.F_Lshown.kp T.b_Lshown .nil pass0 (pa_cons (pv 4) pa_nil)) (pa_cons (pc gd G_Lasked (hr.mono (by decide)) (by rfl) T.m_Lasked T.F_Lasked.kp T.b_Lasked .nil pass0 (pa_cons (pv 5) pa_nil)) pa_nil)) (by rfl)) (pss_cons (ps_if ((pw_or (pt_cmpR op_ne (pe_callB (call_reprG gd (G_Brepr []).g (hr.mono (by decide)) (roomU hr) T.b_Brepr T.M_Brepr.at_ T.M_Brepr.fn pass0) (by rfl) T.z_repr boot_repr (pa_cons (pv 5) pa_nil)) (pv 6) (nomark _)) (pw_or (pt_cmpR (op_neD (roomU hr)) (pe_ix ix_list (pv 7) (pe_un un_neg pe_int) (fun _ _ => rfl)) (pe_lst (pa_cons pe_bl (pa_cons pe_bl pa_nil))) (nomark _)) (pw_or1 (pt_cmpR op_ne (pe_callB (call_repr gd (roomU hr)) (by rfl) T.z_repr boot_repr (pa_cons (pc gd G_Lasked (hr.mono (by decide)) (by rfl) T.m_Lasked T.F_Lasked.kp T.b_Lasked .nil pass0 (pa_cons (pv 5) pa_nil)) pa_nil)) (pe_callB (call_repr gd (roomU hr)) (by rfl) T.z_repr boot_repr (pa_cons (pv 7) pa_nil)) (nomark _)))))).pt (pss_one (ps_ret pe_bl)) pss_nil) (pss_one (ps_if ((pw_or (pt_cmpR op_ne (pe_callB (call_reprG gd (G_Brepr []).g (hr.mono (by decide)) (roomU hr) T.b_Brepr T.M_Brepr.at_ T.M_Brepr.fn pass0) (by rfl) T.z_repr boot_repr (pa_cons (pv 5) pa_nil)) (pv 6) (nomark _)) (pw_or1 (pt_cmpR op_ne (pe_callB (call_reprI gd (Shows.or (shows_inst (C := T.C) (k := 4) (by decide) G_Brepr T.b_Brepr T.M_Brepr.at_ T.M_Brepr.fn pass0) (shows_tup1 (shows_inst (C := T.C) (k := 3) (by decide) G_Brepr T.b_Brepr T.M_Brepr.at_ T.M_Brepr.fn pass0))) (hr.mono (by decide))) (by rfl) T.z_repr boot_repr (pa_cons (pe_lst (pa_cons (pv 5) (pa_cons (pe_tupX (pa_cons (pv 5) pa_nil)) pa_nil))) pa_nil)) (pe_op op_add_str (pe_op op_add_str (pe_op op_add_str (pe_op op_add_str pe_str (pv 6)) pe_str) (pv 6)) pe_str) (nomark _))))).pt (pss_one (ps_ret pe_bl)) pss_nil))))) (pss_one (ps_ret pe_bl))))))), ?_⟩
    have s0 : Sit T (cor a H) a H := ⟨Ex.refl _, hp, hT⟩
    refine q_parR (cons_rw (lst_raw (cons1_raw (tupx_rawX (cons_rw (mk_plain (T := T) rfl fun bk H2 e2 hB => cons1_raw (call_raw0 (nil_raw ⟨rfl, fun H3 d hd e3 hD => ⟨sz_of (by show 2 ≤ 100000; omega), fun t ob ht bo => ⟨sz_of (by show 1 ≤ 100000; omega), fun p hpn => ?_⟩⟩⟩))))))))
    obtain ⟨dxB, ddB, hddH, pB⟩ := hB
    have y4 : Ex H3 (upd H3 t (.frz ob (.tup [.ref bk, .ref d]))) := Ex.new ht
    have t4 : (upd H3 t (.frz ob (.tup [.ref bk, .ref d]))) t = some (.frz ob (.tup [.ref bk, .ref d])) := upd_same
    generalize upd H3 t (.frz ob (.tup [.ref bk, .ref d])) = H4 at y4 t4 hpn
    have y5 : Ex H4 (upd H4 p (.lst [.ref t])) := Ex.new hpn
    have p5 : (upd H4 p (.lst [.ref t])) p = some (.lst [.ref t]) := upd_same
    have np : cor a H p = none := cor_none (fresh_back (e2.trans (e3.trans y4)) hpn)
    generalize upd H4 p (.lst [.ref t]) = H5 at y5 p5
    refine cons1_raw (call_raw0 (nil_raw ⟨rfl, fun H6 e he e6 hE => ⟨_, _, rfl, ?_⟩⟩))
    have x35 : Ex H3 H5 := y4.trans y5
    have n1 : ddB ≠ e := by
      obtain ⟨f, h, _⟩ := pB.di
      exact ne_of_none ((e3.trans x35) _ _ h) he
    have n2 : d ≠ e := by
      obtain ⟨f, h, _⟩ := hD
      exact ne_of_none (x35 _ _ h) he
    have ne : cor a H e = none := cor_none (fresh_back (e2.trans (e3.trans x35)) he)
    have s6 : Sit T (cor a H) a H6 := s0.ex ((e2.trans (e3.trans x35)).trans e6)
    have hP : PairsE K T.C e H6 p [plainRu] := ⟨[t], e6 _ _ p5, .cons ⟨ob, bk, dxB, ddB, d, plainKs, (y5.trans e6) _ _ t4, pB.ex ((e3.trans x35).trans e6), hD.ex (x35.trans e6), fun p => by cases p <;> decide, n1, n2⟩ .nil⟩
    have npa : p ≠ a := s0.pot.ex (e2.trans (e3.trans y4)) |>.ne hpn
    have nea : e ≠ a := s0.pot.ex (e2.trans (e3.trans x35)) |>.ne he
    show tSeq _ _ _ [some (.ref a), some (.ref p), some (.ref e), none, none, none, none, none] H6
    refine q_forR1 (n := 5) (ea_cons ev_c ea_nil) (by omega) (fun i σ' G => ∃ x3 x4 rs, σ' = [some (.ref a), some (.ref p), some (.ref e), x3, x4, none, none, none] ∧ Sit T (cor a H) a G ∧ PairsE K T.C e G p rs ∧ DictAt K G e plainKs plainRu ∧ rs.length = i + 1 ∧ (∀ r ∈ rs, Ok r)) (fun G g => ⟨_, _, [plainRu], rfl, s6.ex g, hP.ex g, hE.ex g, rfl, fun r hr => by rw [List.mem_singleton.mp hr]; exact ok_plainRu⟩) (fun i σ' G hi z => ?_) (fun σ' G z => ?_)
    · obtain ⟨x3, x4, rs, rfl, sit, hPr, hEd, hlen, hok⟩ := z
      obtain ⟨cx, cy, hpot, _⟩ := id sit.pot
      show tSeq _ _ _ [some (.ref a), some (.ref p), some (.ref e), some (nV i), x4, none, none, none] G
      refine q_asgR (call_raw0 (cons_ev (ev_var rfl) fun G1 g1 => nil_raw ⟨a, rfl, sit.pot.ex g1, fun G2 d2 r2 x2 p2 hd0 hd2 okr => ?_⟩))
      have sit2 := (sit.ex g1).exB x2 p2
      have hP2 := (hPr.ex g1).exL x2 (g1 _ _ hpot) npa
      have hE2 : DictAt K G2 e plainKs plainRu := (hEd.ex g1).exL x2 (g1 _ _ hpot)
      have n3 : d2 ≠ e := by
        obtain ⟨f, h, _⟩ := hEd.ex g1
        exact (ne_of_none h hd0).symm
      obtain ⟨ts, hts, lts⟩ := hP2.lst
      show tDrop _ _ [some (.ref a), some (.ref p), some (.ref e), some (nV i), some (.ref d2), none, none, none] G2
      refine ⟨_, rfl, .inl ⟨rfl, _, sq_of hts⟩, cons1_raw (tupx_rawX (cons_rw (cons1_raw (te := tVar 4) (ev_raw (ev_var rfl) fun G3 g3 => ⟨d2, anyKs, r2, rfl, hd2.ex g3, anyKs_mem, okr, fun G4 b2 hb0 g4 hBk => cons1_raw (ev_raw (ev_var (v := .ref d2) rfl) fun G5 g5 => ⟨sz_of (by show 2 ≤ 100000; omega), fun t2 ob2 ht2 _ => ?_⟩)⟩))))⟩
      obtain ⟨dxk, ddk, hddk, pk⟩ := hBk
      have y6 : Ex G5 (upd G5 t2 (.frz ob2 (.tup [.ref b2, .ref d2]))) := Ex.new ht2
      have t6 : (upd G5 t2 (.frz ob2 (.tup [.ref b2, .ref d2]))) t2 = some (.frz ob2 (.tup [.ref b2, .ref d2])) := upd_same
      generalize upd G5 t2 (.frz ob2 (.tup [.ref b2, .ref d2])) = G6 at y6 t6
      have x26 : Ex G2 G6 := ((g3.trans g4).trans g5).trans y6
      have hts6 := x26 _ _ hts
      have n4 : ddk ≠ e := by
        obtain ⟨f, h, _⟩ := hE2.ex g3
        exact (ne_of_none h hddk).symm
      have pe : PairE K T.C e G6 t2 r2 := ⟨ob2, b2, dxk, ddk, d2, anyKs, t6, pk.ex (g5.trans y6), hd2.ex x26, anyKs_mem, n4, n3⟩
      refine ⟨p, _, .ref t2, rfl, rfl, hts6, by rw [List.length_map, sizeLine_eq]; omega, ?_⟩
      exact ⟨_, _, rs ++ [r2], rfl, (sit2.ex x26).mutL hts6 np npa ExB.set, (hP2.ex x26).put pe hts6, (hE2.ex x26).exL ExB.set hts6, by rw [List.length_append, hlen]; rfl, fun r hr => by
        rcases List.mem_append.mp hr with h | h
        · exact hok r h
        · rw [List.mem_singleton.mp h]
          exact okr⟩
    · obtain ⟨x3, x4, rs, rfl, sit, hPr, hEd, hlen, hok⟩ := z
      obtain ⟨rs', r5, rfl⟩ : ∃ rs' r5, rs = rs' ++ [r5] := by
        cases rs.eq_nil_or_concat with
        | inl h => rw [h] at hlen; exact absurd hlen (by simp)
        | inr h =>
          obtain ⟨rs', r5, h⟩ := h
          exact ⟨rs', r5, by rw [h, List.concat_eq_append]⟩
      have ok5 : Ok r5 := hok r5 (List.mem_append_right _ List.mem_cons_self)
      obtain ⟨ts, hts, hPd⟩ := id hPr
      have lts : ts.length = 6 := by
        rw [hPd.length, hlen]
        rfl
      obtain ⟨ts', t5, rfl, pr5⟩ := paired_last hPd
      obtain ⟨o5, b5, dx5, dd5, d5, ks5, h1, h2, h3, h4, _, _⟩ := id pr5
      have sq5 : SqL K G p ((ts'.map V.ref) ++ [.ref t5]) := sq_of (by rw [hts, List.map_append]; rfl)
      have ix5 : Ev (tOp (rIxT K) (tOp (rIxL K) (tVar 1) (tUn (rU fun i => .int (-i)) (tC (.int 1)))) (tC (.int 1))) [some (.ref a), some (.ref p), some (.ref e), x3, x4, none, none, none] G (.ref d5) := ev_op (ev_op (ev_var rfl) (ev_un ev_c ru_neg) (rv_ixL sq5 atI_last)) ev_c (rv_ixT (xs := [.ref b5, .ref d5]) (frz_t h1) (atI_nat (j := 1) rfl))
      have epL : EvP K _ _ G (r5.get .lift) := ep_get (z := Pt.s .lift) ix5 h3 (h4 .lift) rfl
      have epH : EvP K _ _ G (r5.get .holds) := ep_get (z := Pt.s .holds) ix5 h3 (h4 .holds) rfl
      show tSeq _ _ _ [some (.ref a), some (.ref p), some (.ref e), x3, x4, none, none, none] G
      refine q_asgR (tupx_rawX (cons_rw (epL G (Ex.refl G) _ fun vl G1 g1 hl => cons1_raw (epH.mono g1 G1 (Ex.refl G1) _ fun vh G2 g2 hh => ⟨sz_of (by show 2 ≤ 100000; omega), fun tq obq htq _ => ?_⟩))))
      have y3 : Ex G2 (upd G2 tq (.frz obq (.tup [vl, vh]))) := Ex.new htq
      have q3 : (upd G2 tq (.frz obq (.tup [vl, vh]))) tq = some (.frz obq (.tup [vl, vh])) := upd_same
      generalize upd G2 tq (.frz obq (.tup [vl, vh])) = G3 at y3 q3
      have xG : Ex G G3 := (g1.trans g2).trans y3
      obtain ⟨f3, hf3, hv3⟩ := hEd.ex xG
      have d4 := DictAt.over (p := .lift) (hEd.ex xG) (by decide) (hl.ex (g2.trans y3)) hf3
      have m4 := ((sit.ex xG).mutD hf3 ne nea (ExB.set (o := .dK (putK (kvs plainKs f3) (.inr (Pt.s .lift)) vl))))
      have P4 := (hPr.ex xG).exD (ExB.set (o := .dK (putK (kvs plainKs f3) (.inr (Pt.s .lift)) vl))) hf3
      have hh4 : (r5.get .holds).At K (upd G3 e (.dK (putK (kvs plainKs f3) (.inr (Pt.s .lift)) vl))) vh := (hh.ex y3).exB ExB.set (NoTup.dK hf3)
      have l4 : (kvs plainKs f3).length < sizeLine := by rw [sizeLine_eq]; show 9 < _; omega
      refine ⟨tq, [vl, vh], rfl, frz_t q3, rfl, vl, _, rfl, _, rfl, e, _, rfl, DPut.k (k := .inr (Pt.s .lift)) hf3 l4, vh, _, rfl, _, rfl, ?_⟩
      generalize upd G3 e (.dK (putK (kvs plainKs f3) (.inr (Pt.s .lift)) vl)) = G4 at d4 m4 P4 hh4
      obtain ⟨f4, hf4, hv4⟩ := id d4
      have d5' := DictAt.over (p := .holds) d4 (by decide) hh4 hf4
      have m5 := (m4.mutD hf4 ne nea (ExB.set (o := .dK (putK (kvs plainKs f4) (.inr (Pt.s .holds)) vh))))
      have P5 := P4.exD (ExB.set (o := .dK (putK (kvs plainKs f4) (.inr (Pt.s .holds)) vh))) hf4
      have l5 : (kvs plainKs f4).length < sizeLine := by rw [sizeLine_eq]; show 9 < _; omega
      refine ⟨e, _, rfl, DPut.k (k := .inr (Pt.s .holds)) hf4 l5, rfl, ?_⟩
      generalize upd G4 e (.dK (putK (kvs plainKs f4) (.inr (Pt.s .holds)) vh)) = G5 at d5' m5 P5
      generalize hrP : Ru.upd (Ru.upd plainRu r5 .lift) r5 .holds = rP at d5'
      have okW : Ok (Ru.upd plainRu r5 .lift) := ⟨ok_plainRu.t, ok_plainRu.g, ok_plainRu.m, ok5.l, ok_plainRu.f, ok_plainRu.h, ok_plainRu.b⟩
      have okP : Ok rP := by
        rw [← hrP]
        exact ⟨ok_plainRu.t, ok_plainRu.g, ok_plainRu.m, ok5.l, ok_plainRu.f, ok5.h, ok_plainRu.b⟩
      obtain ⟨ts5, hts5, hPd5⟩ := id P5
      have lts5 : ts5.length = 6 := by
        rw [hPd5.length, hlen]
        rfl
      have eRow := fun {Gx : Hp} (hD : DictAt K Gx e plainKs rP) => ep_get (K := K) (te := tVar 2) (σ := [some (.ref a), some (.ref p), some (.ref e), x3, x4, none, none, none]) (p := .lift) (z := Pt.s .lift) (ev_var rfl) hD (by decide) rfl
      have eHold := fun {Gx : Hp} (hD : DictAt K Gx e plainKs rP) => ep_get (K := K) (te := tVar 2) (σ := [some (.ref a), some (.ref p), some (.ref e), x3, x4, none, none, none]) (p := .holds) (z := Pt.s .holds) (ev_var rfl) hD (by decide) rfl
      have gL : rP.get .lift = r5.get .lift := by rw [← hrP]; rfl
      have gH : rP.get .holds = r5.get .holds := by rw [← hrP]; rfl
      show tSeq _ _ _ [some (.ref a), some (.ref p), some (.ref e), x3, x4, none, none, none] G5
      refine q_dropR ⟨_, rfl, .inl ⟨rfl, _, sq_of hts5⟩, cons1_raw (tupx_rawX (cons_rw (methR (methR (mk_plain (T := T) rfl fun bk2 G6 g6 hB2 => ?_)))))⟩
      obtain ⟨dx6, dd6, hdd6, pk6⟩ := hB2
      refine ⟨bk2, dx6, bf dd6, rfl, pk6.ob, bf_no dd6 (by decide +kernel), cons_raw ev_c fun G7 g7 => cons1_raw (eRow (d5'.ex (g6.trans g7)) G7 (Ex.refl G7) _ fun vl' G8 g8 hl' => ?_)⟩
      rw [gL] at hl'
      obtain ⟨bl, rfl, rxl⟩ := id hl'
      refine ⟨bk2, bl, plainRu, r5, .lift, rfl, by decide, ⟨dx6, dd6, pk6.ex (g7.trans g8)⟩, hl', okW, fun G9 q9 hq9 g9 hb9 => ?_⟩
      obtain ⟨dx9, dd9, pk9⟩ := id hb9
      have x59 : Ex G5 G9 := (g6.trans g7).trans (g8.trans g9)
      refine ⟨q9, dx9, bf dd9, rfl, pk9.ob, bf_no dd9 (by decide +kernel), cons1_raw (eHold (d5'.ex x59) G9 (Ex.refl G9) _ fun vh' G10 g10 hh' => ?_)⟩
      rw [gH] at hh'
      obtain ⟨bh, rfl, rxh⟩ := id hh'
      refine ⟨q9, bh, Ru.upd plainRu r5 .lift, r5.holds, rfl, hb9.ex g10, rxh, ok5.h, fun G11 q11 hq11 g11 hb11 => cons1_raw (ev_raw (ev_var (v := .ref e) rfl) fun G12 g12 => ⟨sz_of (by show 2 ≤ 100000; omega), fun t6 ob6 ht6 _ => ?_⟩)⟩
      have hb11' : BookAt K T.C G11 q11 rP := by
        rw [← hrP]
        exact hb11
      have y13 : Ex G12 (upd G12 t6 (.frz ob6 (.tup [.ref q11, .ref e]))) := Ex.new ht6
      have q13 : (upd G12 t6 (.frz ob6 (.tup [.ref q11, .ref e]))) t6 = some (.frz ob6 (.tup [.ref q11, .ref e])) := upd_same
      generalize upd G12 t6 (.frz ob6 (.tup [.ref q11, .ref e])) = G13 at y13 q13
      have x5D : Ex G5 G13 := ((x59.trans g10).trans (g11.trans g12)).trans y13
      have hts13 := x5D _ _ hts5
      have pl : PairAt K T.C G13 t6 rP := ⟨ob6, q11, e, plainKs, q13, hb11'.ex (g12.trans y13), d5'.ex x5D, fun p => by cases p <;> decide⟩
      refine ⟨p, _, .ref t6, rfl, rfl, hts13, by rw [List.length_map, sizeLine_eq]; omega, ?_⟩
      have sitF := (m5.ex x5D).mutL hts13 np npa (ExB.set (o := .lst (ts5.map V.ref ++ [.ref t6])))
      have hLF : (upd G13 p (.lst (ts5.map V.ref ++ [.ref t6]))) p = some (.lst ((ts5 ++ [t6]).map V.ref)) := by
        rw [upd_same, List.map_append]
        rfl
      have hPA : Paired (fun t r => PairAt K T.C (upd G13 p (.lst (ts5.map V.ref ++ [.ref t6]))) t r) (ts5 ++ [t6]) ((rs' ++ [r5]) ++ [rP]) := paired_snoc (L2.Paired.mapP hPd5 fun t r h => ((h.ex x5D).exL ExB.set hts13).at) (pl.exL ExB.set hts13)
      have hokF : ∀ r ∈ (rs' ++ [r5]) ++ [rP], Ok r := fun r hr => by
        rcases List.mem_append.mp hr with h | h
        · exact hok r h
        · rw [List.mem_singleton.mp h]
          exact okP
      generalize upd G13 p (.lst (ts5.map V.ref ++ [.ref t6])) = GF at sitF hLF hPA
      have tLF : noT GF p = some (.lst ((ts5 ++ [t6]).map V.ref)) := noT_at hLF fun _ z => nomatch z
      show tSeq _ _ _ [some (.ref a), some (.ref p), some (.ref e), x3, x4, none, none, none] GF
      refine (⟨_, rfl, p, rfl, ⟨_, sq_of hLF⟩, for_it (walk_list (K := K) (a := p) (xs := (ts5 ++ [t6]).map V.ref)) (fun i σ' G => ∃ x4 x5 x6 x7, σ' = [some (.ref a), some (.ref p), some (.ref e), x3, x4, x5, x6, x7] ∧ Ex (noT GF) G ∧ LamX.Tabs T.tabs G) ⟨_, _, _, _, rfl, noT_sub, sitF.tb⟩ (fun i σ' G _ z => ?_) (fun i v σ' G G2 hi z y => ?_) (fun σ' G z => ?_)⟩)
      · obtain ⟨_, _, _, _, _, z1, _⟩ := z
        exact sq_of (z1 _ _ tLF)
      · obtain ⟨rfl, hv⟩ := y
        obtain ⟨x4, x5, x6, x7, rfl, z1, T1⟩ := z
        rw [List.getElem?_map] at hv
        obtain ⟨t, ht, rfl⟩ := Option.map_eq_some_iff.mp hv
        obtain ⟨r, hr, pa⟩ := paired_get hPA ht
        have okr := hokF r hr
        obtain ⟨ob, b, d, ks, h1, h2, h3, h4⟩ := pa.noT
        refine ⟨t, [.ref b, .ref d], rfl, frz_t (z1 _ _ h1), rfl, _, _, rfl, _, _, rfl, rfl, ?_⟩
        show tSeq _ _ _ [some (.ref a), some (.ref p), some (.ref e), x3, some (.ref d), some (.ref b), x6, x7] G2
        refine q_parR (cons_rw (call_raw0 (cons_ev (ev_var rfl) fun G3 g3 => nil_raw ⟨d, ks, r, rfl, h3.ex (z1.trans g3), h4, okr, fun G4 g4 => cons1_raw (call_raw0 (cons_ev (ev_var rfl) fun G5 g5 => nil_raw ⟨b, r, rfl, T1.ext (g3.trans (g4.trans g5)), h2.ex (noT_both (z1.trans (g3.trans (g4.trans g5)))), fun G6 p7 z6 T6 A6 => ⟨_, _, rfl, ?_⟩⟩))⟩)))
        have z16 : Ex (noT GF) G6 := (noT_both (z1.trans (g3.trans (g4.trans g5)))).trans z6
        rw [ownText_eq]
        show tSeq _ _ _ [some (.ref a), some (.ref p), some (.ref e), x3, some (.ref d), some (.ref b), some (.str (bText r)), some (.ref p7)] G6
        have same : ∀ {Gx : Hp}, Ex (noT GF) Gx → EvT (tTest (tOp rNe (tCB _ (tCons (tVar 5) tNil)) (tVar 6))) [some (.ref a), some (.ref p), some (.ref e), x3, some (.ref d), some (.ref b), some (.str (bText r)), some (.ref p7)] Gx false := fun {Gx} g => et_test (ev_is (ev_op (ev_cb (ea_cons (ev_var rfl) ea_nil) (rc_book (Eb := E0) (h2.ex g))) (ev_var rfl) (rv_ne rfl)) (cbl (by rw [decide_eq_true rfl]; rfl)))
        refine q_ifRaw (or_raw (same z16 G6 (Ex.refl G6) _ fun Ga ga => ?_))
        rw [if_neg Bool.false_ne_true]
        refine or_raw (et_last (K := K) rfl A6 Ga ga _ fun Gb gb => ?_)
        rw [if_neg Bool.false_ne_true]
        have gab := ga.trans gb
        refine MyT.test_raw (op_raw (cb1_raw (call_raw0 (cons_ev (ev_var rfl) fun Gc gc => nil_raw ⟨b, r, rfl, T6.ext (gab.trans gc), h2.ex (noT_both (z16.trans (gab.trans gc))), fun Gd p8 zd Td A8 => ?_⟩))))
        have A6d : AskAt K Gd p7 r := ((A6.ex (gab.trans gc)).noT).ex zd
        have z1d : Ex (noT GF) Gd := (noT_both (z16.trans (gab.trans gc))).trans zd
        refine rc_ask A8 okr Gd (Ex.refl Gd) _ fun Ge ge => ?_
        refine (ev_cb (ea_cons (ev_var rfl) ea_nil) (rc_ask (A6d.ex ge) okr) : Ev _ _ _ (.str (askD r).shown)) Ge (Ex.refl Ge) _ fun Gf gf => (rv_ne rfl : RV rNe (.str (askD r).shown) (.str (askD r).shown) Gf _) Gf (Ex.refl Gf) _ fun Gg gg => ⟨_, rfl, ?_⟩
        rw [decide_eq_true rfl, if_neg (by decide)]
        have zg : Ex (noT GF) Gg := z1d.trans ((ge.trans gf).trans gg)
        have Tg : LamX.Tabs T.tabs Gg := Td.ext ((ge.trans gf).trans gg)
        have bl : (bText r).length ≤ 2100 := bText_len okr
        have n1 : (Str.ofString "[").length = 1 := by decide
        have n2 : (Str.ofString ", (").length = 3 := by decide
        have n3 : (Str.ofString ",)]").length = 3 := by decide
        unfold tNext
        dsimp only
        refine s_when (b := false) (et_or (a := false) (b := false) (same zg) fun _ => et_test (ev_is (ev_op (ev_both (Eb := E0) (Et := E0) (h2.ex zg) (ev_var rfl) fun _ _ => ev_var rfl) (ev_op (ev_op (ev_op (ev_op ev_c (ev_var rfl) (rv_addS (by omega))) ev_c (rv_addS (by simp only [Str.length_append]; omega))) (ev_var rfl) (rv_addS (by simp only [Str.length_append]; omega))) ev_c (rv_addS (by simp only [Str.length_append]; omega))) (rv_ne rfl)) (cbl (by unfold bothText; rw [decide_eq_true rfl]; rfl)))) (fun z => nomatch z) fun _ Gh gh => ⟨_, _, _, _, rfl, zg.trans gh, Tg.ext gh⟩
      · obtain ⟨_, _, _, _, rfl, z1, T1⟩ := z
        dsimp only
        exact s_ret ev_c fun Gz gz => q Gz ((sitF.x.trans cor_noT).trans (z1.trans gz)) (T1.ext gz)
theorem ok_law (T : Txt K mg w) (G_Lright : FnG P w K mg base CX0 15 T.f_Lright T.fd_Lright ["_law_pot_here"] (sp_LrightP T)) (G_Lpot : FnG P w K mg base CX0 1 T.f_Lpot T.fd_Lpot ["_law_script", "_law_k"] (MyT.sp_Lpot K)) : FnG P w K mg base CX0 16 T.f_law T.fd_law ["_law_script"] (sp_lawT K [(T.c_Lasked, T.p_Lasked)]) := by
  skip
  refine okG T.F_law sc_law (fun vs H Q E h => ?_) (fun cdv A outer s H vs Q E gd hr h => ?_)
  · obtain ⟨_, _, rfl, _⟩ := h
    all_goals rfl
  · obtain ⟨a, ns, rfl, hs, hl, hts, q⟩ := h
    refine ⟨_, (pss_one (ps_ret (pe_callB (cr_all rfl) (by rfl) T.z_all boot_all (pa_cons (pe_lc (own := [("_law_k", 1)]) (g := gName 1) rfl sc_law.nd (pi_range1 (by rfl) T.z_range (pa_cons (pe_callB (call_max2 rfl) (by rfl) T.z_max boot_max (pa_cons pe_int (pa_cons (pe_callB (call_min2 rfl) (by rfl) T.z_min boot_min (pa_cons (pe_callB call_len_seq (by rfl) T.z_len PySem.boot_len (pa_cons (pv 0) pa_nil)) (pa_cons pe_int pa_nil))) pa_nil))) pa_nil)) (blkOk_by (N := N_law) (sc := defScope s_law) (by decide +kernel)) (fun _ _ _ _ _ => (pg_name (i := 1) sc_law.nd rfl (Or.inl rfl) (Or.inr rfl))) (fun _ _ _ _ _ => pts_nil) (fun _ _ _ _ _ => (pc gd G_Lright (hr.mono (by decide)) (by rfl) T.m_Lright T.F_Lright.kp T.b_Lright .nil pass0 (pa_cons (pc gd G_Lpot (hr.mono (by decide)) (by rfl) T.m_Lpot T.F_Lpot.kp T.b_Lpot .nil pass0 (pa_cons (pv 0) (pa_cons (pv 1) pa_nil))) pa_nil)))) pa_nil)))), ?_⟩
    have hT : LamX.Tabs T.tabs H := fun p hp => by
      rw [List.mem_singleton.mp hp]
      exact LamX.TabS.nil (hts (T.c_Lasked, T.p_Lasked) List.mem_cons_self)
    have hn : ∃ n : Nat, n ≤ 3 ∧ Ev (tCB (fun xs H Q => ∃ i j, xs = [V.int i, V.int j] ∧ Q (.int (if j > i then j else i)) H) (tCons (tC (.int 1)) (tCons (tCB (fun xs H Q => ∃ i j, xs = [V.int i, V.int j] ∧ Q (.int (if j < i then j else i)) H) (tCons (tCB (rLenS K) (tCons (tVar 0) tNil)) (tCons (tC (.int 3)) tNil))) tNil))) [some (.ref a), none] H (nV n) := by
      refine ⟨if ns.length < 3 then max 1 ns.length else 3, by split <;> omega, ev_is (ev_cb (ea_cons ev_c (ea_cons (ev_cb (ea_cons (ev_cb (ea_cons (ev_var rfl) ea_nil) (rc_lenL hs)) (ea_cons ev_c ea_nil)) rc_min2) ea_nil)) rc_max2) (congrArg V.int ?_)⟩
      rw [List.length_map]
      split <;> split <;> split <;> omega
    obtain ⟨n, hn2, hev⟩ := hn
    refine s_retR (cb1_raw (lc_R1 (n := n) (fun Dl i H' => Ex (noT H) H' ∧ LamX.Tabs T.tabs H' ∧ H' Dl = some (.lst (List.replicate i (V.bl true))) ∧ H Dl = none) (ea_cons hev ea_nil) (by omega) (fun H1 Dl e1 hD => ?_) (fun Dl i H' hi z => ?_) (fun Dl H' z => ?_)))
    · exact ⟨(noT_sub.trans e1).trans (Ex.new hD), (hT.ext e1).ext (Ex.new hD), upd_same, fresh_back e1 hD⟩
    · obtain ⟨x1, T1, hDl, hD0⟩ := z
      refine ⟨rfl, yes_raw (call_raw0 (cons_rw (call_raw0 (cons_ev (ev_var rfl) fun H2 e2 => cons_ev (ev_var rfl) fun H3 e3 => nil_raw ⟨a, ns, i, rfl, ex_l (x1.trans (e2.trans e3)) (sq_noT hs), hl, by omega, fun H4 p hp e4 p4 => nil_raw ⟨p, rfl, p4, T1.ext (e2.trans (e3.trans e4)), fun H5 x5 T5 => ?_⟩⟩))))⟩
      have e23 := e2.trans e3
      have keep : ∀ b o, H3 b = some o → (∀ ps, o ≠ .tbl ps) → H5 b = some o := fun b o hb n => x5 _ _ (cor_at (e4 _ _ hb) n (ne_of_none hb hp))
      have h5 : H5 Dl = some (.lst (List.replicate i (V.bl true))) := keep _ _ (e23 _ _ hDl) fun _ z => nomatch z
      have y5 : Ex (noT H) H5 := fun b o hb => keep b o (e23 _ _ (x1 _ _ hb)) (noT_is hb).2
      have hD1 : noT H Dl = none := by
        unfold noT
        rw [hD0]
      exact ⟨_, h5, (by rw [List.length_replicate, sizeLine_eq]; omega), Ex.mut y5 hD1, tabs_but T5 h5 (fun b o hb h => by rw [upd_ne hb]; exact h), by rw [upd_same, ← List.replicate_succ'], hD0⟩
    · obtain ⟨x1, T1, hDl, hD0⟩ := z
      refine ⟨Dl, List.replicate n true, rfl, sq_of (by rw [hDl, List.map_replicate]), ?_⟩
      have all1 : (List.replicate n true).all id = true := by
        rw [List.all_replicate]
        cases n <;> rfl
      rw [all1]
      exact q H'
theorem law_startT {K : PySem.W.Frag} {ts : List (Addr × Addr)} {H : Hp} {a : Addr} {ns : List Int} (h : SqL K H a (ns.map V.int)) (hl : ns.length ≤ 63) (ht : ∀ p ∈ ts, H p.2 = some (.tbl #[])) : sp_lawT K ts [.ref a] H (fun v _ => v = .bl true) fun _ _ _ => False := ⟨a, ns, rfl, h, hl, ht, fun _ => rfl⟩
end
end My
/-! the head by one observation: facts of the heap behind the top, each a Bool -/
namespace My
open PySem PySem.Spec PyProof.Rows L2 GL Evl StX SkE
section
variable {P : Program} {w : World} {K : PySem.W.Frag} {mg : Str → Option Value} {base : Heap}
theorem ok_text (T : Txt K mg w) (tb_Lasked : LamX.TabB base mg T.c_Lasked T.p_Lasked) : FnG P w K mg base CX0 16 T.f_law T.fd_law ["_law_script"] (sp_lawT K [(T.c_Lasked, T.p_Lasked)]) := by
  have G_is_word : FnG P w K mg base CX0 1 T.f_is_word T.fd_is_word ["value", "words"] (sp_isword K) := My.ok_is_word T 
  have G_are_different_words : FnG P w K mg base CX0 2 T.f_are_different_words T.fd_are_different_words ["values", "words"] (sp_adw K) := My.ok_are_different_words T G_is_word
  have G_has_words_of : FnG P w K mg base CX0 3 T.f_has_words_of T.fd_has_words_of ["value", "words"] (sp_hwo K) := My.ok_has_words_of T G_are_different_words
  have G_tests_are_ahead : FnG P w K mg base CX0 1 T.f_tests_are_ahead T.fd_tests_are_ahead ["row", "word"] (sp_taa K) := My.ok_tests_are_ahead T 
  have G_is_take_row : FnG P w K mg base CX0 4 T.f_is_take_row T.fd_is_take_row ["value"] (sp_row K pTake) := My.ok_is_take_row T G_has_words_of G_tests_are_ahead
  have G_off_has_home : FnG P w K mg base CX0 1 T.f_off_has_home T.fd_off_has_home ["row"] (sp_ohh K) := My.ok_off_has_home T 
  have G_is_give_row : FnG P w K mg base CX0 4 T.f_is_give_row T.fd_is_give_row ["value"] (sp_row K pGive) := My.ok_is_give_row T G_has_words_of G_off_has_home
  have G_is_move_row : FnG P w K mg base CX0 4 T.f_is_move_row T.fd_is_move_row ["value"] (sp_row K pMove) := My.ok_is_move_row T G_has_words_of G_off_has_home G_tests_are_ahead
  have G_is_lift_row : FnG P w K mg base CX0 4 T.f_is_lift_row T.fd_is_lift_row ["value"] (sp_row K pLift) := My.ok_is_lift_row T G_has_words_of
  have G_is_row : FnG P w K mg base CX0 5 T.f_is_row T.fd_is_row ["kind", "value"] (sp_isrow K) := My.ok_is_row T G_is_take_row G_is_give_row G_is_move_row G_is_lift_row
  have G_check_rows : FnG P w K mg base CX0 6 T.f_check_rows T.fd_check_rows ["rows"] (sp_crows K) := My.ok_check_rows T G_is_row
  have G_check_fails : FnG P w K mg base CX0 2 T.f_check_fails T.fd_check_fails ["value"] sp_cfails := My.ok_check_fails T G_is_word
  have G_check_bool : FnG P w K mg base CX0 1 T.f_check_bool T.fd_check_bool ["name", "value"] sp_cbool := My.ok_check_bool T 
  have G_is_listB : FnG P w K mg base CX0 1 T.f_is_list T.fd_is_list ["value"] (sp_islist K) := My.ok_is_list T 
  have G_check_holds : FnG P w K mg base CX0 3 T.f_check_holds T.fd_check_holds ["value"] (sp_cholds K) := My.ok_check_holds T G_is_listB G_are_different_words
  have G_is_an_integer : FnG P w K mg base CX0 1 T.f_is_an_integer T.fd_is_an_integer ["value"] MyT.sp_is_an_integer := MyT.ok_is_an_integer T 
  have G_check_batch : FnG P w K mg base CX0 2 T.f_check_batch T.fd_check_batch ["value"] sp_cbatch := My.ok_check_batch T G_is_an_integer
  have G_fits_batch : FnG P w K mg base CX0 1 T.f_fits_batch T.fd_fits_batch ["row", "batch"] (sp_fitb K) := My.ok_fits_batch T 
  have G_fits_shared : FnG P w K mg base CX0 1 T.f_fits_shared T.fd_fits_shared ["row", "shared"] (sp_fits K) := My.ok_fits_shared T 
  have G_Binit : FnG P w K mg base CX0 7 T.f_Binit T.fd_Binit ["self", "take", "give", "move", "lift", "fails", "shared", "holds", "batch", "settles"] (sp_Binit K T.C) := My.ok_Binit T G_check_rows G_check_fails G_check_bool G_check_holds G_check_batch G_fits_batch G_fits_shared
  have G_Lplain : FnG P w K mg base CX0 1 T.f_Lplain T.fd_Lplain [] (sp_Lplain K) := My.ok_Lplain T 
  have G_Ldraw : FnG P w K mg base CX0 1 T.f_Ldraw T.fd_Ldraw ["_law_pot_here", "_law_sides"] MyT.sp_Ldraw := MyT.ok_Ldraw T 
  have G_Lpick : FnG P w K mg base CX0 2 T.f_Lpick T.fd_Lpick ["_law_pot_here", "_law_some"] sp_Lpick := My.ok_Lpick T G_Ldraw
  have G_Lsequences : FnG P w K mg base CX0 1 T.f_Lsequences T.fd_Lsequences ["_law_words"] (sp_Lseqs K) := My.ok_Lsequences T 
  have G_Lis_ahead : FnG P w K mg base CX0 1 T.f_Lis_ahead T.fd_Lis_ahead ["_law_some", "_law_word", "_law_later"] (sp_Lahead K) := My.ok_Lis_ahead T 
  have G_Lis_take : FnG P w K mg base CX0 2 T.f_Lis_take T.fd_Lis_take ["_law_some", "_law_amount"] (sp_Ltk K) := My.ok_Lis_take T G_Lis_ahead
  have G_Ltakes : FnG P w K mg base CX0 3 T.f_Ltakes T.fd_Ltakes ["_law_amount"] (sp_Ltakes K) := My.ok_Ltakes T G_Lsequences G_Lis_take
  have G_Lis_give : FnG P w K mg base CX0 2 T.f_Lis_give T.fd_Lis_give ["_law_some"] (sp_Lgv K) := My.ok_Lis_give T G_Lis_ahead
  have G_Lgives : FnG P w K mg base CX0 3 T.f_Lgives T.fd_Lgives [] (sp_Lgives K) := My.ok_Lgives T G_Lsequences G_Lis_give
  have G_Lis_move : FnG P w K mg base CX0 2 T.f_Lis_move T.fd_Lis_move ["_law_some", "_law_is_shared"] (sp_Lmv K) := My.ok_Lis_move T G_Lis_ahead
  have G_Lmoves : FnG P w K mg base CX0 3 T.f_Lmoves T.fd_Lmoves ["_law_is_shared"] (sp_Lmoves K) := My.ok_Lmoves T G_Lsequences G_Lis_move
  have G_Llifts : FnG P w K mg base CX0 1 T.f_Llifts T.fd_Llifts [] (sp_Llifts K) := My.ok_Llifts T 
  have G_Lany : FnG P w K mg base CX0 4 T.f_Lany T.fd_Lany ["_law_pot_here"] (sp_Lany K) := My.ok_Lany T G_Lpick G_Ldraw G_Ltakes G_Lgives G_Lmoves G_Llifts
  have G_Lbook : FnG P w K mg base CX0 9 T.f_Lbook T.fd_Lbook ["_law_rules"] (sp_Lbook K T.C) := My.ok_Lbook T G_Binit
  have G_check_row_kind : FnG P w K mg base CX0 2 T.f_check_row_kind T.fd_check_row_kind ["value"] sp_ckind := My.ok_check_row_kind T G_is_word
  have G_Bwith_row : FnG P w K mg base CX0 9 T.f_Bwith_row T.fd_Bwith_row ["self", "kind", "row"] (sp_Bwr K T.C) := My.ok_Bwith_row T G_check_row_kind G_Binit
  have G_Bwith_holds : FnG P w K mg base CX0 9 T.f_Bwith_holds T.fd_Bwith_holds ["self", "holds"] (sp_Bwh K T.C) := My.ok_Bwith_holds T G_Binit
  have G_Lwords_shown : FnG P w K mg base CX0 1 T.f_Lwords_shown T.fd_Lwords_shown ["_law_some"] (sp_Lwords K) := My.ok_Lwords_shown T 
  have G_Lshown : FnG P w K mg base CX0 2 T.f_Lshown T.fd_Lshown ["_law_rules"] (sp_Lshown K) := My.ok_Lshown T G_Lwords_shown
  have G_is_list : FnG P w K mg base CX0 1 T.f_is_list T.fd_is_list ["value"] (MyT.sp_is_list K) := MyT.ok_is_list T 
  have G_check_parents : FnG P w K mg base CX0 2 T.f_check_parents T.fd_check_parents ["parents"] (MyT.sp_check_parents K) := MyT.ok_check_parents T G_is_list G_is_an_integer
  have G_check_struck : FnG P w K mg base CX0 2 T.f_check_struck T.fd_check_struck ["parents", "struck"] (MyT.sp_check_struck K w) := MyT.ok_check_struck T G_is_list G_is_an_integer
  have G_Tinit : FnG P w K mg base CX0 3 T.f_Tinit T.fd_Tinit ["self", "parents", "struck"] (MyT.sp_Tinit K T.C_Tree) := MyT.ok_Tinit T G_check_parents G_check_struck
  have G_Tlen : FnG P w K mg base CX0 1 T.f_Tlen T.fd_Tlen ["self"] (MyT.sp_Tlen T.C_Tree) := MyT.ok_Tlen T 
  have G_check_group : FnG P w K mg base CX0 3 T.f_check_group T.fd_check_group ["tree", "value"] (MyT.sp_check_group T.C_Tree) := MyT.ok_check_group T G_is_an_integer G_Tlen
  have G_Tway : FnG P w K mg base CX0 4 T.f_Tway T.fd_Tway ["self", "group"] (MyT.sp_Tway T.C_Tree) := MyT.ok_Tway T G_check_group
  have G_Tapart : FnG P w K mg base CX0 5 T.f_Tapart T.fd_Tapart ["self", "group", "seen"] (MyT.sp_Tapart T.C_Tree) := MyT.ok_Tapart T G_Tway
  have G_Cgroups : FnG P w K mg base CX0 6 T.f_Cgroups T.fd_Cgroups ["self", "tree", "word"] (sp_CgroupsG K T.C_Course T.C_Tree) := My.ok_Cgroups T G_Tapart G_Tway
  have G_Csingle_deeds : FnG P w K mg base CX0 7 T.f_Csingle_deeds T.fd_Csingle_deeds ["self", "tree", "words"] (sp_CsingleG K T.C_Course T.C_Tree) := My.ok_Csingle_deeds T G_Cgroups
  have G_plan : FnG P w K mg base CX0 8 T.f_plan T.fd_plan ["course", "tree"] (sp_planG K T.C_Course T.C_Tree) := My.ok_plan T G_Csingle_deeds
  have G_Cinit : FnG P w K mg base CX0 1 T.f_Cinit T.fd_Cinit ["self", "kind", "words", "group", "old", "leaves_out"] (sp_CinitG T.C_Course) := My.ok_Cinit T 
  have G_Brow : FnG P w K mg base CX0 3 T.f_Brow T.fd_Brow ["self", "kind"] (sp_Brow K T.C) := My.ok_Brow T G_check_row_kind
  have G_take_course : FnG P w K mg base CX0 4 T.f_take_course T.fd_take_course ["book", "group"] (sp_courseG K T.C T.C_Course .take .take asG) := My.ok_take_course T G_Cinit G_Brow
  have G_take_plan : FnG P w K mg base CX0 9 T.f_take_plan T.fd_take_plan ["book", "tree", "group"] (sp_planN K T.C T.C_Tree .take .take) := My.ok_take_plan T G_check_group G_plan G_take_course
  have G_give_course : FnG P w K mg base CX0 4 T.f_give_course T.fd_give_course ["book", "old"] (sp_courseG K T.C T.C_Course .give .give asO) := My.ok_give_course T G_Cinit G_Brow
  have G_give_plan : FnG P w K mg base CX0 9 T.f_give_plan T.fd_give_plan ["book", "tree", "home"] (sp_planN K T.C T.C_Tree .give .give) := My.ok_give_plan T G_check_group G_plan G_give_course
  have G_Bshared : FnG P w K mg base CX0 1 T.f_Bshared T.fd_Bshared ["self"] (sp_BpartG .shared T.C) := My.ok_Bshared T 
  have G_move_course : FnG P w K mg base CX0 4 T.f_move_course T.fd_move_course ["book", "group", "old"] (sp_mcourse K T.C T.C_Course) := My.ok_move_course T G_Cinit G_Brow G_Bshared
  have G_move_plan : FnG P w K mg base CX0 9 T.f_move_plan T.fd_move_plan ["book", "tree", "home", "target"] (sp_mplan K T.C T.C_Tree) := My.ok_move_plan T G_check_group G_plan G_move_course
  have G_lift_course : FnG P w K mg base CX0 4 T.f_lift_course T.fd_lift_course ["book", "group"] (sp_courseG K T.C T.C_Course .lift .lift asG) := My.ok_lift_course T G_Cinit G_Brow
  have G_lift_plan : FnG P w K mg base CX0 9 T.f_lift_plan T.fd_lift_plan ["book", "tree", "home"] (sp_lplanN K T.C T.C_Tree) := My.ok_lift_plan T G_check_group G_plan G_lift_course
  have G_settle_course : FnG P w K mg base CX0 3 T.f_settle_course T.fd_settle_course ["group"] (sp_scourseG K T.C_Course) := My.ok_settle_course T G_Cinit
  have G_settle_plan : FnG P w K mg base CX0 9 T.f_settle_plan T.fd_settle_plan ["tree", "group"] (sp_splanN K T.C_Tree) := My.ok_settle_plan T G_check_group G_plan G_settle_course
  have G_Bfails : FnG P w K mg base CX0 1 T.f_Bfails T.fd_Bfails ["self"] (sp_BpartG .fails T.C) := My.ok_Bfails T 
  have G_Bholds : FnG P w K mg base CX0 1 T.f_Bholds T.fd_Bholds ["self"] (sp_BpartG .holds T.C) := My.ok_Bholds T 
  have G_Bbatch : FnG P w K mg base CX0 1 T.f_Bbatch T.fd_Bbatch ["self"] (sp_BpartG .batch T.C) := My.ok_Bbatch T 
  have G_Bsettles : FnG P w K mg base CX0 1 T.f_Bsettles T.fd_Bsettles ["self"] (sp_BpartG .settles T.C) := My.ok_Bsettles T 
  have G_check_rowsX : FnG P w K mg base (L2.CX P w) 6 T.f_check_rows T.fd_check_rows ["rows"] (sp_crowsX K T.C_InvalidRow) := My.ok_check_rowsX T G_is_row
  have G_is_listX : FnG P w K mg base CX0 1 T.f_is_list T.fd_is_list ["value"] (sp_islistX K) := My.ok_is_listX T 
  have G_check_holdsX : FnG P w K mg base (L2.CX P w) 6 T.f_check_holds T.fd_check_holds ["value"] (sp_chX K T.C_InvalidHolds) := My.ok_check_holdsX T G_is_listX G_are_different_words
  have G_BinitX : FnG P w K mg base (L2.CX P w) 7 T.f_Binit T.fd_Binit ["self", "take", "give", "move", "lift", "fails", "shared", "holds", "batch", "settles"] (sp_BinitX K T.C T.C_InvalidRow T.C_InvalidHolds) := My.ok_BinitX T G_check_rowsX G_check_fails G_check_bool G_check_holdsX G_check_batch G_fits_batch G_fits_shared
  have G_Bwith_rowX : FnG P w K mg base (L2.CX P w) 9 T.f_Bwith_row T.fd_Bwith_row ["self", "kind", "row"] (sp_BwrX K T.C T.C_InvalidRow) := My.ok_Bwith_rowX T G_check_row_kind G_BinitX
  have G_Bwith_holdsX : FnG P w K mg base (L2.CX P w) 9 T.f_Bwith_holds T.fd_Bwith_holds ["self", "holds"] (sp_BwhX K T.C T.C_InvalidHolds) := My.ok_Bwith_holdsX T G_BinitX
  have G_Lasked : FnG P w K mg base CX0 14 T.f_Lasked T.fd_Lasked ["_law_made"] (sp_Lasked T) := My.ok_Lasked T G_Tinit G_take_plan G_give_plan G_move_plan G_lift_plan G_settle_plan G_Bfails G_Bshared G_Bholds G_Bbatch G_Bsettles G_Brow G_Bwith_rowX G_Bwith_holdsX tb_Lasked
  have G_Brepr : ∀ L : List Addr, FnL L P w K mg base CX0 1 T.f_Brepr T.fd_Brepr ["self"] (sp_BreprL K T.C L) := My.ok_Brepr T 
  have G_Lright : FnG P w K mg base CX0 15 T.f_Lright T.fd_Lright ["_law_pot_here"] (sp_LrightP T) := My.ok_Lright T G_Binit G_Lplain G_Lany G_Lbook G_Bwith_row G_Bwith_holds G_Lshown G_Lasked G_Brepr
  have G_Lpot : FnG P w K mg base CX0 1 T.f_Lpot T.fd_Lpot ["_law_script", "_law_k"] (MyT.sp_Lpot K) := MyT.ok_Lpot T 
  have G_law : FnG P w K mg base CX0 16 T.f_law T.fd_law ["_law_script"] (sp_lawT K [(T.c_Lasked, T.p_Lasked)]) := My.ok_law T G_Lright G_Lpot
  exact G_law
end
theorem tabIn_mk {K : PySem.W.Frag} {x : Str} {f c P : Addr} {o1 p1 : Value} {o2 p2 : Option Addr} {o3 p3 : Array (Option Value)} {fd : FuncData} {vs : Array Value} (h1 : PySem.W.nsIn K mainGlobals x = some (some (.ref f))) (h2 : K.lookup f = some ⟨o1, o2, .func fd, o3⟩) (h3 : fd.code = .ref c) (h4 : K.lookup c = some ⟨p1, p2, .fields vs, p3⟩) (h5 : vs[11]? = some (.ref P)) : PySem.W.tabIn K x = some (c, P) := by
  unfold PySem.W.tabIn
  rw [h1]
  simp only [h2, h3, h4, h5]
theorem all_mk {l : PySem.W.OpenLaw} {w : World} {K : PySem.W.Frag} {h : Heap} {mg : Str → Option Value} {fa : Addr} (X : K.In h) (G : h.Ns mainGlobals mg) (hfa : mg "law" = some (.ref fa))
    {C C_Tree C_Course f1 f2 f3 f4 f5 f6 T6 d6_0 d6_1 f7 f8 f9 f10 f11 f12 f13 f14 f15 f16 f17 f18 f19 f20 f21 f22 f23 f24 f25 f26 f27 f28 KD28 kd_take kd_give kd_move kd_lift kd_holds f29 f30 pr30 f31 pr31 f32 pr32 f33 pr33 f34 pr34 f35 f36 f37 f38 T38 f39 f40 f41 f42 T42 f43 T43 f44 f45 f46 f47 f48 f49 f50 f51 f52 f53 f54 f55 f56 f57 f58 f59 f60 f61 f62 f63 f64 f65 f66 f67 f68 f69 f70 cc70 pp70 f71 f72 cx1 ix1 cx2 ix2 T_FAILS T_ROW_KINDS T_WAY_WORDS T_LIFT_ROWS T0_LIFT_ROWS T1_LIFT_ROWS T2_LIFT_ROWS T3_LIFT_ROWS T4_LIFT_ROWS T5_LIFT_ROWS T_ROW_CHECKS : Addr} {od1 an1 od2 an2 od3 an3 od4 an4 od5 an5 od6 an6 td6 ud6_0 ud6_1 od7 an7 od8 an8 od9 an9 od10 an10 od11 an11 od12 an12 od13 an13 od14 an14 od15 an15 od16 an16 od17 an17 od18 an18 od19 an19 od20 an20 od21 an21 od22 an22 od23 an23 od24 an24 od25 an25 od26 an26 od27 an27 od28 an28 od29 an29 od30 an30 od31 an31 od32 an32 od33 an33 od34 an34 od35 an35 od36 an36 od37 an37 od38 an38 td38 od39 an39 od40 an40 od41 an41 od42 an42 td42 od43 an43 td43 od44 an44 od45 an45 od46 an46 od47 an47 od48 an48 od49 an49 od50 an50 od51 an51 od52 an52 od53 an53 od54 an54 od55 an55 od56 an56 od57 an57 od58 an58 od59 an59 od60 an60 od61 an61 od62 an62 od63 an63 od64 an64 od65 an65 od66 an66 od67 an67 od68 an68 od69 an69 od70 an70 tod70 od71 an71 od72 an72 xod1 xan1 xod2 xan2 d_T_FAILS d_T_ROW_KINDS d_T_WAY_WORDS d_T_LIFT_ROWS d_T0_LIFT_ROWS d_T1_LIFT_ROWS d_T2_LIFT_ROWS d_T3_LIFT_ROWS d_T4_LIFT_ROWS d_T5_LIFT_ROWS : Option Addr} {sl1 sl2 sl3 sl4 sl5 sl6 tl6 ul6_0 ul6_1 sl7 sl8 sl9 sl10 sl11 sl12 sl13 sl14 sl15 sl16 sl17 sl18 sl19 sl20 sl21 sl22 sl23 sl24 sl25 sl26 sl27 sl28 l_kd_take l_kd_give l_kd_move l_kd_lift l_kd_holds sl29 sl30 sl31 sl32 sl33 sl34 sl35 sl36 sl37 sl38 tl38 sl39 sl40 sl41 sl42 tl42 sl43 tl43 sl44 sl45 sl46 sl47 sl48 sl49 sl50 sl51 sl52 sl53 sl54 sl55 sl56 sl57 sl58 sl59 sl60 sl61 sl62 sl63 sl64 sl65 sl66 sl67 sl68 sl69 sl70 tsl70 sl71 sl72 xsl1 xsl2 l_T_FAILS l_T_ROW_KINDS l_T_WAY_WORDS l_T_LIFT_ROWS l_T0_LIFT_ROWS l_T1_LIFT_ROWS l_T2_LIFT_ROWS l_T3_LIFT_ROWS l_T4_LIFT_ROWS l_T5_LIFT_ROWS : Array (Option Value)} {oc1 kV1 dc1 pm1 cd1 ct1 oc2 kV2 dc2 pm2 cd2 ct2 oc3 kV3 dc3 pm3 cd3 ct3 oc4 kV4 dc4 pm4 cd4 ct4 oc5 kV5 dc5 pm5 cd5 ct5 oc6 kV6 dc6 pm6 cd6 ct6 tc6 oc7 kV7 dc7 pm7 cd7 ct7 oc8 kV8 dc8 pm8 cd8 ct8 oc9 kV9 dc9 pm9 cd9 ct9 oc10 kV10 dc10 pm10 cd10 ct10 oc11 kV11 dc11 pm11 cd11 ct11 oc12 kV12 dc12 pm12 cd12 ct12 oc13 kV13 dc13 pm13 cd13 ct13 oc14 kV14 dc14 pm14 cd14 ct14 oc15 kV15 dc15 pm15 cd15 ct15 oc16 kV16 dc16 pm16 cd16 ct16 oc17 kV17 dc17 pm17 cd17 ct17 oc18 kV18 dc18 pm18 cd18 ct18 oc19 kV19 dc19 pm19 cd19 ct19 oc20 kV20 dc20 pm20 cd20 ct20 oc21 kV21 dc21 pm21 cd21 ct21 oc22 kV22 dc22 pm22 cd22 ct22 oc23 kV23 dc23 pm23 cd23 ct23 oc24 kV24 dc24 pm24 cd24 ct24 oc25 kV25 dc25 pm25 cd25 ct25 oc26 kV26 dc26 pm26 cd26 ct26 oc27 kV27 dc27 pm27 cd27 ct27 oc28 dc28 pm28 cd28 ct28 oc29 kV29 dc29 pm29 cd29 ct29 oc30 kV30 dc30 pm30 cd30 ct30 oc31 kV31 dc31 pm31 cd31 ct31 oc32 kV32 dc32 pm32 cd32 ct32 oc33 kV33 dc33 pm33 cd33 ct33 oc34 kV34 dc34 pm34 cd34 ct34 oc35 kV35 dc35 pm35 cd35 ct35 oc36 kV36 dc36 pm36 cd36 ct36 oc37 kV37 dc37 pm37 cd37 ct37 oc38 kV38 dc38 pm38 cd38 ct38 tc38 oc39 kV39 dc39 pm39 cd39 ct39 oc40 kV40 dc40 pm40 cd40 ct40 oc41 kV41 dc41 pm41 cd41 ct41 oc42 kV42 dc42 pm42 cd42 ct42 tc42 oc43 kV43 dc43 pm43 cd43 ct43 tc43 oc44 kV44 dc44 pm44 cd44 ct44 oc45 kV45 dc45 pm45 cd45 ct45 oc46 kV46 dc46 pm46 cd46 ct46 oc47 kV47 dc47 pm47 cd47 ct47 oc48 kV48 dc48 pm48 cd48 ct48 oc49 kV49 dc49 pm49 cd49 ct49 oc50 kV50 dc50 pm50 cd50 ct50 oc51 kV51 dc51 pm51 cd51 ct51 oc52 kV52 dc52 pm52 cd52 ct52 oc53 kV53 dc53 pm53 cd53 ct53 oc54 kV54 dc54 pm54 cd54 ct54 oc55 kV55 dc55 pm55 cd55 ct55 oc56 kV56 dc56 pm56 cd56 ct56 oc57 kV57 dc57 pm57 cd57 ct57 oc58 kV58 dc58 pm58 cd58 ct58 oc59 kV59 dc59 pm59 cd59 ct59 oc60 kV60 dc60 pm60 cd60 ct60 oc61 kV61 dc61 pm61 cd61 ct61 oc62 kV62 dc62 pm62 cd62 ct62 oc63 kV63 dc63 pm63 cd63 ct63 oc64 kV64 dc64 pm64 cd64 ct64 oc65 kV65 dc65 pm65 cd65 ct65 oc66 kV66 dc66 pm66 cd66 ct66 oc67 kV67 dc67 pm67 cd67 ct67 oc68 kV68 dc68 pm68 cd68 ct68 oc69 kV69 dc69 pm69 cd69 ct69 oc70 kV70 dc70 pm70 ct70 toc70 oc71 kV71 dc71 pm71 cd71 ct71 oc72 kV72 dc72 pm72 cd72 ct72 xoc1 xdc1 xpm1 xcd1 xct1 xoc2 xdc2 xpm2 xcd2 xct2 : Value} {tn6 un6_0 un6_1 n_kd_take n_kd_give n_kd_move n_kd_lift n_kd_holds tn38 tn42 tn43 n_T_FAILS n_T_ROW_KINDS n_T_WAY_WORDS n_T_LIFT_ROWS n_T0_LIFT_ROWS n_T1_LIFT_ROWS n_T2_LIFT_ROWS n_T3_LIFT_ROWS n_T4_LIFT_ROWS n_T5_LIFT_ROWS n_ROW_CHECKS : Nat} {k0_kd_take k1_kd_take k0_kd_give k1_kd_give k2_kd_give k0_kd_move k1_kd_move k2_kd_move k3_kd_move k0_kd_lift kk28_fails k0_kd_holds k1_kd_holds k2_kd_holds k3_kd_holds kk28_batch t_MOST_BATCH t_MOST_GROUPS k0_T_FAILS k1_T_FAILS k2_T_FAILS k0_T_ROW_KINDS k1_T_ROW_KINDS k2_T_ROW_KINDS k3_T_ROW_KINDS k0_T_WAY_WORDS k1_T_WAY_WORDS k2_T_WAY_WORDS k3_T_WAY_WORDS k0_T1_LIFT_ROWS k0_T2_LIFT_ROWS k0_T3_LIFT_ROWS k1_T3_LIFT_ROWS k0_T4_LIFT_ROWS k1_T4_LIFT_ROWS k0_T5_LIFT_ROWS : Tok} {tvs70 : Array Value} {es_ROW_CHECKS : Array DictEntry} {pl30 pl31 pl32 pl33 pl34 : List Value}
    (aC : PySem.W.nsIn K mainGlobals "Book" = some (some (.ref C)))
    (pg : PySem.W.plainGet K C Str.empty = true)
    (hd : PySem.W.hasDictIn K C = true)
    (po : PySem.W.plainOver K C = true)
    (sa : PySem.W.findIn K (.ref C) "__setattr__" = some (some (.builtin "object.__setattr__")))
    (mk : PySem.W.makesIn K C = true)
    (kc : PySem.W.keepIn K (.ref C) = true)
    (n_parts : PySem.W.findIn K (.ref C) "_parts" = some none)
    (x_class : PySem.W.findIn K (.ref C) "__class__" = some (some (.builtin "object.__class__")))
    (x_get : PySem.W.specialIn K (.builtin "object.__class__") "__get__" = some (some (.builtin "getset_descriptor.__get__")))
    (x_tk : PySem.W.takesIn K (.builtin "object.__class__") = some true)
    (x_mro : PySem.W.mroIn K C (.type "object") = some true)
    (x_ne : PySem.W.findIn K (.ref C) "__ne__" = some (some (.builtin "object.__ne__")))
    (x_cls : PySem.W.isClsIn K C = true)
    (x_ty : PySem.W.typeIn K (.ref C) = some (.type "type"))
    (aC_Tree : PySem.W.nsIn K mainGlobals "Tree" = some (some (.ref C_Tree)))
    (pg_Tree : PySem.W.plainGet K C_Tree Str.empty = true)
    (hd_Tree : PySem.W.hasDictIn K C_Tree = true)
    (po_Tree : PySem.W.plainOver K C_Tree = true)
    (sa_Tree : PySem.W.findIn K (.ref C_Tree) "__setattr__" = some (some (.builtin "object.__setattr__")))
    (mk_Tree : PySem.W.makesIn K C_Tree = true)
    (kc_Tree : PySem.W.keepIn K (.ref C_Tree) = true)
    (n_above : PySem.W.findIn K (.ref C_Tree) "_above" = some none)
    (n_struck : PySem.W.findIn K (.ref C_Tree) "_struck" = some none)
    (x_class_Tree : PySem.W.findIn K (.ref C_Tree) "__class__" = some (some (.builtin "object.__class__")))
    (x_get_Tree : PySem.W.specialIn K (.builtin "object.__class__") "__get__" = some (some (.builtin "getset_descriptor.__get__")))
    (x_tk_Tree : PySem.W.takesIn K (.builtin "object.__class__") = some true)
    (x_mro_Tree : PySem.W.mroIn K C_Tree (.type "object") = some true)
    (x_ne_Tree : PySem.W.findIn K (.ref C_Tree) "__ne__" = some (some (.builtin "object.__ne__")))
    (x_cls_Tree : PySem.W.isClsIn K C_Tree = true)
    (x_ty_Tree : PySem.W.typeIn K (.ref C_Tree) = some (.type "type"))
    (aC_Course : PySem.W.nsIn K mainGlobals "Course" = some (some (.ref C_Course)))
    (pg_Course : PySem.W.plainGet K C_Course Str.empty = true)
    (hd_Course : PySem.W.hasDictIn K C_Course = true)
    (po_Course : PySem.W.plainOver K C_Course = true)
    (sa_Course : PySem.W.findIn K (.ref C_Course) "__setattr__" = some (some (.builtin "object.__setattr__")))
    (mk_Course : PySem.W.makesIn K C_Course = true)
    (kc_Course : PySem.W.keepIn K (.ref C_Course) = true)
    (nkind : PySem.W.findIn K (.ref C_Course) "kind" = some none)
    (nwords : PySem.W.findIn K (.ref C_Course) "words" = some none)
    (ngroup : PySem.W.findIn K (.ref C_Course) "group" = some none)
    (nold : PySem.W.findIn K (.ref C_Course) "old" = some none)
    (nleaves_out : PySem.W.findIn K (.ref C_Course) "leaves_out" = some none)
    (a1 : PySem.W.nsIn K mainGlobals "is_an_integer" = some (some (.ref f1)))
    (l1 : K.lookup f1 = some ⟨oc1, od1, .func (PySem.W.fnOf "is_an_integer" "is_an_integer" (defArgs s_is_an_integer) (defBody s_is_an_integer) (defScope s_is_an_integer) .none kV1 dc1 pm1 an1 cd1 ct1), sl1⟩)
    (c1 : PySem.W.codeIn K cd1 "is_an_integer" = true)
    (k1 : PySem.W.keepIn K (.ref f1) = true)
    (a2 : PySem.W.nsIn K mainGlobals "is_list" = some (some (.ref f2)))
    (l2 : K.lookup f2 = some ⟨oc2, od2, .func (PySem.W.fnOf "is_list" "is_list" (defArgs s_is_list) (defBody s_is_list) (defScope s_is_list) .none kV2 dc2 pm2 an2 cd2 ct2), sl2⟩)
    (c2 : PySem.W.codeIn K cd2 "is_list" = true)
    (k2 : PySem.W.keepIn K (.ref f2) = true)
    (a3 : PySem.W.nsIn K mainGlobals "check_group" = some (some (.ref f3)))
    (l3 : K.lookup f3 = some ⟨oc3, od3, .func (PySem.W.fnOf "check_group" "check_group" (defArgs s_check_group) (defBody s_check_group) (defScope s_check_group) .none kV3 dc3 pm3 an3 cd3 ct3), sl3⟩)
    (c3 : PySem.W.codeIn K cd3 "check_group" = true)
    (k3 : PySem.W.keepIn K (.ref f3) = true)
    (a4 : PySem.W.nsIn K mainGlobals "check_parents" = some (some (.ref f4)))
    (l4 : K.lookup f4 = some ⟨oc4, od4, .func (PySem.W.fnOf "check_parents" "check_parents" (defArgs s_check_parents) (defBody s_check_parents) (defScope s_check_parents) .none kV4 dc4 pm4 an4 cd4 ct4), sl4⟩)
    (c4 : PySem.W.codeIn K cd4 "check_parents" = true)
    (k4 : PySem.W.keepIn K (.ref f4) = true)
    (a5 : PySem.W.nsIn K mainGlobals "check_struck" = some (some (.ref f5)))
    (l5 : K.lookup f5 = some ⟨oc5, od5, .func (PySem.W.fnOf "check_struck" "check_struck" (defArgs s_check_struck) (defBody s_check_struck) (defScope s_check_struck) .none kV5 dc5 pm5 an5 cd5 ct5), sl5⟩)
    (c5 : PySem.W.codeIn K cd5 "check_struck" = true)
    (k5 : PySem.W.keepIn K (.ref f5) = true)
    (a6 : PySem.W.findIn K (.ref C_Tree) "__init__" = some (some (.ref f6)))
    (i6 : PySem.W.isFn K (.ref f6) = true)
    (l6 : K.lookup f6 = some ⟨oc6, od6, .func (PySem.W.fnOf "__init__" "Tree.__init__" (defArgs s_Tinit) (defBody s_Tinit) (defScope s_Tinit) (.ref T6) kV6 dc6 pm6 an6 cd6 ct6), sl6⟩)
    (c6 : PySem.W.codeIn K cd6 "Tree.__init__" = true)
    (k6 : PySem.W.keepIn K (.ref f6) = true)
    (t6 : K.lookup T6 = some ⟨tc6, td6, .seq #[.ref d6_0, .ref d6_1] tn6, tl6⟩)
    (u6_0 : K.lookup d6_0 = some ⟨.type "tuple", ud6_0, .seq #[] un6_0, ul6_0⟩)
    (u6_1 : K.lookup d6_1 = some ⟨.type "tuple", ud6_1, .seq #[] un6_1, ul6_1⟩)
    (a7 : PySem.W.findIn K (.ref C_Tree) "__len__" = some (some (.ref f7)))
    (i7 : PySem.W.isFn K (.ref f7) = true)
    (l7 : K.lookup f7 = some ⟨oc7, od7, .func (PySem.W.fnOf "__len__" "Tree.__len__" (defArgs s_Tlen) (defBody s_Tlen) (defScope s_Tlen) .none kV7 dc7 pm7 an7 cd7 ct7), sl7⟩)
    (c7 : PySem.W.codeIn K cd7 "Tree.__len__" = true)
    (k7 : PySem.W.keepIn K (.ref f7) = true)
    (a8 : PySem.W.findIn K (.ref C_Tree) "way" = some (some (.ref f8)))
    (i8 : PySem.W.isFn K (.ref f8) = true)
    (l8 : K.lookup f8 = some ⟨oc8, od8, .func (PySem.W.fnOf "way" "Tree.way" (defArgs s_Tway) (defBody s_Tway) (defScope s_Tway) .none kV8 dc8 pm8 an8 cd8 ct8), sl8⟩)
    (c8 : PySem.W.codeIn K cd8 "Tree.way" = true)
    (k8 : PySem.W.keepIn K (.ref f8) = true)
    (a9 : PySem.W.findIn K (.ref C_Tree) "apart" = some (some (.ref f9)))
    (i9 : PySem.W.isFn K (.ref f9) = true)
    (l9 : K.lookup f9 = some ⟨oc9, od9, .func (PySem.W.fnOf "apart" "Tree.apart" (defArgs s_Tapart) (defBody s_Tapart) (defScope s_Tapart) .none kV9 dc9 pm9 an9 cd9 ct9), sl9⟩)
    (c9 : PySem.W.codeIn K cd9 "Tree.apart" = true)
    (k9 : PySem.W.keepIn K (.ref f9) = true)
    (a10 : PySem.W.nsIn K mainGlobals "is_word" = some (some (.ref f10)))
    (l10 : K.lookup f10 = some ⟨oc10, od10, .func (PySem.W.fnOf "is_word" "is_word" (defArgs s_is_word) (defBody s_is_word) (defScope s_is_word) .none kV10 dc10 pm10 an10 cd10 ct10), sl10⟩)
    (c10 : PySem.W.codeIn K cd10 "is_word" = true)
    (k10 : PySem.W.keepIn K (.ref f10) = true)
    (a11 : PySem.W.nsIn K mainGlobals "are_different_words" = some (some (.ref f11)))
    (l11 : K.lookup f11 = some ⟨oc11, od11, .func (PySem.W.fnOf "are_different_words" "are_different_words" (defArgs s_are_different_words) (defBody s_are_different_words) (defScope s_are_different_words) .none kV11 dc11 pm11 an11 cd11 ct11), sl11⟩)
    (c11 : PySem.W.codeIn K cd11 "are_different_words" = true)
    (k11 : PySem.W.keepIn K (.ref f11) = true)
    (a12 : PySem.W.nsIn K mainGlobals "has_words_of" = some (some (.ref f12)))
    (l12 : K.lookup f12 = some ⟨oc12, od12, .func (PySem.W.fnOf "has_words_of" "has_words_of" (defArgs s_has_words_of) (defBody s_has_words_of) (defScope s_has_words_of) .none kV12 dc12 pm12 an12 cd12 ct12), sl12⟩)
    (c12 : PySem.W.codeIn K cd12 "has_words_of" = true)
    (k12 : PySem.W.keepIn K (.ref f12) = true)
    (a13 : PySem.W.nsIn K mainGlobals "tests_are_ahead" = some (some (.ref f13)))
    (l13 : K.lookup f13 = some ⟨oc13, od13, .func (PySem.W.fnOf "tests_are_ahead" "tests_are_ahead" (defArgs s_tests_are_ahead) (defBody s_tests_are_ahead) (defScope s_tests_are_ahead) .none kV13 dc13 pm13 an13 cd13 ct13), sl13⟩)
    (c13 : PySem.W.codeIn K cd13 "tests_are_ahead" = true)
    (k13 : PySem.W.keepIn K (.ref f13) = true)
    (a14 : PySem.W.nsIn K mainGlobals "off_has_home" = some (some (.ref f14)))
    (l14 : K.lookup f14 = some ⟨oc14, od14, .func (PySem.W.fnOf "off_has_home" "off_has_home" (defArgs s_off_has_home) (defBody s_off_has_home) (defScope s_off_has_home) .none kV14 dc14 pm14 an14 cd14 ct14), sl14⟩)
    (c14 : PySem.W.codeIn K cd14 "off_has_home" = true)
    (k14 : PySem.W.keepIn K (.ref f14) = true)
    (a15 : PySem.W.nsIn K mainGlobals "is_take_row" = some (some (.ref f15)))
    (l15 : K.lookup f15 = some ⟨oc15, od15, .func (PySem.W.fnOf "is_take_row" "is_take_row" (defArgs s_is_take_row) (defBody s_is_take_row) (defScope s_is_take_row) .none kV15 dc15 pm15 an15 cd15 ct15), sl15⟩)
    (c15 : PySem.W.codeIn K cd15 "is_take_row" = true)
    (k15 : PySem.W.keepIn K (.ref f15) = true)
    (a16 : PySem.W.nsIn K mainGlobals "is_give_row" = some (some (.ref f16)))
    (l16 : K.lookup f16 = some ⟨oc16, od16, .func (PySem.W.fnOf "is_give_row" "is_give_row" (defArgs s_is_give_row) (defBody s_is_give_row) (defScope s_is_give_row) .none kV16 dc16 pm16 an16 cd16 ct16), sl16⟩)
    (c16 : PySem.W.codeIn K cd16 "is_give_row" = true)
    (k16 : PySem.W.keepIn K (.ref f16) = true)
    (a17 : PySem.W.nsIn K mainGlobals "is_move_row" = some (some (.ref f17)))
    (l17 : K.lookup f17 = some ⟨oc17, od17, .func (PySem.W.fnOf "is_move_row" "is_move_row" (defArgs s_is_move_row) (defBody s_is_move_row) (defScope s_is_move_row) .none kV17 dc17 pm17 an17 cd17 ct17), sl17⟩)
    (c17 : PySem.W.codeIn K cd17 "is_move_row" = true)
    (k17 : PySem.W.keepIn K (.ref f17) = true)
    (a18 : PySem.W.nsIn K mainGlobals "is_lift_row" = some (some (.ref f18)))
    (l18 : K.lookup f18 = some ⟨oc18, od18, .func (PySem.W.fnOf "is_lift_row" "is_lift_row" (defArgs s_is_lift_row) (defBody s_is_lift_row) (defScope s_is_lift_row) .none kV18 dc18 pm18 an18 cd18 ct18), sl18⟩)
    (c18 : PySem.W.codeIn K cd18 "is_lift_row" = true)
    (k18 : PySem.W.keepIn K (.ref f18) = true)
    (a19 : PySem.W.nsIn K mainGlobals "is_row" = some (some (.ref f19)))
    (l19 : K.lookup f19 = some ⟨oc19, od19, .func (PySem.W.fnOf "is_row" "is_row" (defArgs s_is_row) (defBody s_is_row) (defScope s_is_row) .none kV19 dc19 pm19 an19 cd19 ct19), sl19⟩)
    (c19 : PySem.W.codeIn K cd19 "is_row" = true)
    (k19 : PySem.W.keepIn K (.ref f19) = true)
    (a20 : PySem.W.nsIn K mainGlobals "fits_batch" = some (some (.ref f20)))
    (l20 : K.lookup f20 = some ⟨oc20, od20, .func (PySem.W.fnOf "fits_batch" "fits_batch" (defArgs s_fits_batch) (defBody s_fits_batch) (defScope s_fits_batch) .none kV20 dc20 pm20 an20 cd20 ct20), sl20⟩)
    (c20 : PySem.W.codeIn K cd20 "fits_batch" = true)
    (k20 : PySem.W.keepIn K (.ref f20) = true)
    (a21 : PySem.W.nsIn K mainGlobals "fits_shared" = some (some (.ref f21)))
    (l21 : K.lookup f21 = some ⟨oc21, od21, .func (PySem.W.fnOf "fits_shared" "fits_shared" (defArgs s_fits_shared) (defBody s_fits_shared) (defScope s_fits_shared) .none kV21 dc21 pm21 an21 cd21 ct21), sl21⟩)
    (c21 : PySem.W.codeIn K cd21 "fits_shared" = true)
    (k21 : PySem.W.keepIn K (.ref f21) = true)
    (a22 : PySem.W.nsIn K mainGlobals "check_rows" = some (some (.ref f22)))
    (l22 : K.lookup f22 = some ⟨oc22, od22, .func (PySem.W.fnOf "check_rows" "check_rows" (defArgs s_check_rows) (defBody s_check_rows) (defScope s_check_rows) .none kV22 dc22 pm22 an22 cd22 ct22), sl22⟩)
    (c22 : PySem.W.codeIn K cd22 "check_rows" = true)
    (k22 : PySem.W.keepIn K (.ref f22) = true)
    (a23 : PySem.W.nsIn K mainGlobals "check_fails" = some (some (.ref f23)))
    (l23 : K.lookup f23 = some ⟨oc23, od23, .func (PySem.W.fnOf "check_fails" "check_fails" (defArgs s_check_fails) (defBody s_check_fails) (defScope s_check_fails) .none kV23 dc23 pm23 an23 cd23 ct23), sl23⟩)
    (c23 : PySem.W.codeIn K cd23 "check_fails" = true)
    (k23 : PySem.W.keepIn K (.ref f23) = true)
    (a24 : PySem.W.nsIn K mainGlobals "check_bool" = some (some (.ref f24)))
    (l24 : K.lookup f24 = some ⟨oc24, od24, .func (PySem.W.fnOf "check_bool" "check_bool" (defArgs s_check_bool) (defBody s_check_bool) (defScope s_check_bool) .none kV24 dc24 pm24 an24 cd24 ct24), sl24⟩)
    (c24 : PySem.W.codeIn K cd24 "check_bool" = true)
    (k24 : PySem.W.keepIn K (.ref f24) = true)
    (a25 : PySem.W.nsIn K mainGlobals "check_holds" = some (some (.ref f25)))
    (l25 : K.lookup f25 = some ⟨oc25, od25, .func (PySem.W.fnOf "check_holds" "check_holds" (defArgs s_check_holds) (defBody s_check_holds) (defScope s_check_holds) .none kV25 dc25 pm25 an25 cd25 ct25), sl25⟩)
    (c25 : PySem.W.codeIn K cd25 "check_holds" = true)
    (k25 : PySem.W.keepIn K (.ref f25) = true)
    (a26 : PySem.W.nsIn K mainGlobals "check_batch" = some (some (.ref f26)))
    (l26 : K.lookup f26 = some ⟨oc26, od26, .func (PySem.W.fnOf "check_batch" "check_batch" (defArgs s_check_batch) (defBody s_check_batch) (defScope s_check_batch) .none kV26 dc26 pm26 an26 cd26 ct26), sl26⟩)
    (c26 : PySem.W.codeIn K cd26 "check_batch" = true)
    (k26 : PySem.W.keepIn K (.ref f26) = true)
    (a27 : PySem.W.nsIn K mainGlobals "check_row_kind" = some (some (.ref f27)))
    (l27 : K.lookup f27 = some ⟨oc27, od27, .func (PySem.W.fnOf "check_row_kind" "check_row_kind" (defArgs s_check_row_kind) (defBody s_check_row_kind) (defScope s_check_row_kind) .none kV27 dc27 pm27 an27 cd27 ct27), sl27⟩)
    (c27 : PySem.W.codeIn K cd27 "check_row_kind" = true)
    (k27 : PySem.W.keepIn K (.ref f27) = true)
    (a28 : PySem.W.findIn K (.ref C) "__init__" = some (some (.ref f28)))
    (i28 : PySem.W.isFn K (.ref f28) = true)
    (l28 : K.lookup f28 = some ⟨oc28, od28, .func (PySem.W.fnOf "__init__" "Book.__init__" (defArgs s_Binit) (defBody s_Binit) (defScope s_Binit) .none (.ref KD28) dc28 pm28 an28 cd28 ct28), sl28⟩)
    (c28 : PySem.W.codeIn K cd28 "Book.__init__" = true)
    (k28 : PySem.W.keepIn K (.ref f28) = true)
    (kn28_take : PySem.W.nsIn K KD28 "take" = some (some (.ref kd_take)))
    (h_kd_take : K.lookup kd_take = some ⟨.type "tuple", none, .seq #[.str "try" k0_kd_take, .str "live" k1_kd_take] n_kd_take, l_kd_take⟩)
    (kn28_give : PySem.W.nsIn K KD28 "give" = some (some (.ref kd_give)))
    (h_kd_give : K.lookup kd_give = some ⟨.type "tuple", none, .seq #[.str "home" k0_kd_give, .str "off" k1_kd_give, .str "end" k2_kd_give] n_kd_give, l_kd_give⟩)
    (kn28_move : PySem.W.nsIn K KD28 "move" = some (some (.ref kd_move)))
    (h_kd_move : K.lookup kd_move = some ⟨.type "tuple", none, .seq #[.str "home" k0_kd_move, .str "try" k1_kd_move, .str "set" k2_kd_move, .str "off" k3_kd_move] n_kd_move, l_kd_move⟩)
    (kn28_lift : PySem.W.nsIn K KD28 "lift" = some (some (.ref kd_lift)))
    (h_kd_lift : K.lookup kd_lift = some ⟨.type "tuple", none, .seq #[.str "both" k0_kd_lift] n_kd_lift, l_kd_lift⟩)
    (kn28_fails : PySem.W.nsIn K KD28 "fails" = some (some (.str "undo" kk28_fails)))
    (kn28_shared : PySem.W.nsIn K KD28 "shared" = some (some (.bool true)))
    (kn28_holds : PySem.W.nsIn K KD28 "holds" = some (some (.ref kd_holds)))
    (h_kd_holds : K.lookup kd_holds = some ⟨.type "tuple", none, .seq #[.str "take" k0_kd_holds, .str "give" k1_kd_holds, .str "move" k2_kd_holds, .str "lift" k3_kd_holds] n_kd_holds, l_kd_holds⟩)
    (kn28_batch : PySem.W.nsIn K KD28 "batch" = some (some (.int 1 kk28_batch)))
    (kn28_settles : PySem.W.nsIn K KD28 "settles" = some (some (.bool true)))
    (a29 : PySem.W.findIn K (.ref C) "__repr__" = some (some (.ref f29)))
    (i29 : PySem.W.isFn K (.ref f29) = true)
    (l29 : K.lookup f29 = some ⟨oc29, od29, .func (PySem.W.fnOf "__repr__" "Book.__repr__" (defArgs s_Brepr) (defBody s_Brepr) (defScope s_Brepr) .none kV29 dc29 pm29 an29 cd29 ct29), sl29⟩)
    (c29 : PySem.W.codeIn K cd29 "Book.__repr__" = true)
    (k29 : PySem.W.keepIn K (.ref f29) = true)
    (a30 : PySem.W.findIn K (.ref C) "fails" = some (some (.ref pr30)))
    (pA30 : PySem.W.specialIn K (.ref pr30) "__get__" = some (some (.builtin "property.__get__")))
    (pB30 : PySem.W.takesIn K (.ref pr30) = some true)
    (pC30 : PySem.W.recIn K pr30 "property" = some (.ref f30 :: pl30))
    (l30 : K.lookup f30 = some ⟨oc30, od30, .func (PySem.W.fnOf "fails" "Book.fails" (defArgs s_Bfails) (defBody s_Bfails) (defScope s_Bfails) .none kV30 dc30 pm30 an30 cd30 ct30), sl30⟩)
    (c30 : PySem.W.codeIn K cd30 "Book.fails" = true)
    (k30 : PySem.W.keepIn K (.ref f30) = true)
    (a31 : PySem.W.findIn K (.ref C) "shared" = some (some (.ref pr31)))
    (pA31 : PySem.W.specialIn K (.ref pr31) "__get__" = some (some (.builtin "property.__get__")))
    (pB31 : PySem.W.takesIn K (.ref pr31) = some true)
    (pC31 : PySem.W.recIn K pr31 "property" = some (.ref f31 :: pl31))
    (l31 : K.lookup f31 = some ⟨oc31, od31, .func (PySem.W.fnOf "shared" "Book.shared" (defArgs s_Bshared) (defBody s_Bshared) (defScope s_Bshared) .none kV31 dc31 pm31 an31 cd31 ct31), sl31⟩)
    (c31 : PySem.W.codeIn K cd31 "Book.shared" = true)
    (k31 : PySem.W.keepIn K (.ref f31) = true)
    (a32 : PySem.W.findIn K (.ref C) "holds" = some (some (.ref pr32)))
    (pA32 : PySem.W.specialIn K (.ref pr32) "__get__" = some (some (.builtin "property.__get__")))
    (pB32 : PySem.W.takesIn K (.ref pr32) = some true)
    (pC32 : PySem.W.recIn K pr32 "property" = some (.ref f32 :: pl32))
    (l32 : K.lookup f32 = some ⟨oc32, od32, .func (PySem.W.fnOf "holds" "Book.holds" (defArgs s_Bholds) (defBody s_Bholds) (defScope s_Bholds) .none kV32 dc32 pm32 an32 cd32 ct32), sl32⟩)
    (c32 : PySem.W.codeIn K cd32 "Book.holds" = true)
    (k32 : PySem.W.keepIn K (.ref f32) = true)
    (a33 : PySem.W.findIn K (.ref C) "batch" = some (some (.ref pr33)))
    (pA33 : PySem.W.specialIn K (.ref pr33) "__get__" = some (some (.builtin "property.__get__")))
    (pB33 : PySem.W.takesIn K (.ref pr33) = some true)
    (pC33 : PySem.W.recIn K pr33 "property" = some (.ref f33 :: pl33))
    (l33 : K.lookup f33 = some ⟨oc33, od33, .func (PySem.W.fnOf "batch" "Book.batch" (defArgs s_Bbatch) (defBody s_Bbatch) (defScope s_Bbatch) .none kV33 dc33 pm33 an33 cd33 ct33), sl33⟩)
    (c33 : PySem.W.codeIn K cd33 "Book.batch" = true)
    (k33 : PySem.W.keepIn K (.ref f33) = true)
    (a34 : PySem.W.findIn K (.ref C) "settles" = some (some (.ref pr34)))
    (pA34 : PySem.W.specialIn K (.ref pr34) "__get__" = some (some (.builtin "property.__get__")))
    (pB34 : PySem.W.takesIn K (.ref pr34) = some true)
    (pC34 : PySem.W.recIn K pr34 "property" = some (.ref f34 :: pl34))
    (l34 : K.lookup f34 = some ⟨oc34, od34, .func (PySem.W.fnOf "settles" "Book.settles" (defArgs s_Bsettles) (defBody s_Bsettles) (defScope s_Bsettles) .none kV34 dc34 pm34 an34 cd34 ct34), sl34⟩)
    (c34 : PySem.W.codeIn K cd34 "Book.settles" = true)
    (k34 : PySem.W.keepIn K (.ref f34) = true)
    (a35 : PySem.W.findIn K (.ref C) "row" = some (some (.ref f35)))
    (i35 : PySem.W.isFn K (.ref f35) = true)
    (l35 : K.lookup f35 = some ⟨oc35, od35, .func (PySem.W.fnOf "row" "Book.row" (defArgs s_Brow) (defBody s_Brow) (defScope s_Brow) .none kV35 dc35 pm35 an35 cd35 ct35), sl35⟩)
    (c35 : PySem.W.codeIn K cd35 "Book.row" = true)
    (k35 : PySem.W.keepIn K (.ref f35) = true)
    (a36 : PySem.W.findIn K (.ref C) "with_row" = some (some (.ref f36)))
    (i36 : PySem.W.isFn K (.ref f36) = true)
    (l36 : K.lookup f36 = some ⟨oc36, od36, .func (PySem.W.fnOf "with_row" "Book.with_row" (defArgs s_Bwith_row) (defBody s_Bwith_row) (defScope s_Bwith_row) .none kV36 dc36 pm36 an36 cd36 ct36), sl36⟩)
    (c36 : PySem.W.codeIn K cd36 "Book.with_row" = true)
    (k36 : PySem.W.keepIn K (.ref f36) = true)
    (a37 : PySem.W.findIn K (.ref C) "with_holds" = some (some (.ref f37)))
    (i37 : PySem.W.isFn K (.ref f37) = true)
    (l37 : K.lookup f37 = some ⟨oc37, od37, .func (PySem.W.fnOf "with_holds" "Book.with_holds" (defArgs s_Bwith_holds) (defBody s_Bwith_holds) (defScope s_Bwith_holds) .none kV37 dc37 pm37 an37 cd37 ct37), sl37⟩)
    (c37 : PySem.W.codeIn K cd37 "Book.with_holds" = true)
    (k37 : PySem.W.keepIn K (.ref f37) = true)
    (a38 : PySem.W.findIn K (.ref C_Course) "__init__" = some (some (.ref f38)))
    (i38 : PySem.W.isFn K (.ref f38) = true)
    (l38 : K.lookup f38 = some ⟨oc38, od38, .func (PySem.W.fnOf "__init__" "Course.__init__" (defArgs s_Cinit) (defBody s_Cinit) (defScope s_Cinit) (.ref T38) kV38 dc38 pm38 an38 cd38 ct38), sl38⟩)
    (c38 : PySem.W.codeIn K cd38 "Course.__init__" = true)
    (k38 : PySem.W.keepIn K (.ref f38) = true)
    (t38 : K.lookup T38 = some ⟨tc38, td38, .seq #[.none, .none, .bool false] tn38, tl38⟩)
    (a39 : PySem.W.findIn K (.ref C_Course) "groups" = some (some (.ref f39)))
    (i39 : PySem.W.isFn K (.ref f39) = true)
    (l39 : K.lookup f39 = some ⟨oc39, od39, .func (PySem.W.fnOf "groups" "Course.groups" (defArgs s_Cgroups) (defBody s_Cgroups) (defScope s_Cgroups) .none kV39 dc39 pm39 an39 cd39 ct39), sl39⟩)
    (c39 : PySem.W.codeIn K cd39 "Course.groups" = true)
    (k39 : PySem.W.keepIn K (.ref f39) = true)
    (a40 : PySem.W.findIn K (.ref C_Course) "single_deeds" = some (some (.ref f40)))
    (i40 : PySem.W.isFn K (.ref f40) = true)
    (l40 : K.lookup f40 = some ⟨oc40, od40, .func (PySem.W.fnOf "single_deeds" "Course.single_deeds" (defArgs s_Csingle_deeds) (defBody s_Csingle_deeds) (defScope s_Csingle_deeds) .none kV40 dc40 pm40 an40 cd40 ct40), sl40⟩)
    (c40 : PySem.W.codeIn K cd40 "Course.single_deeds" = true)
    (k40 : PySem.W.keepIn K (.ref f40) = true)
    (a41 : PySem.W.nsIn K mainGlobals "take_course" = some (some (.ref f41)))
    (l41 : K.lookup f41 = some ⟨oc41, od41, .func (PySem.W.fnOf "take_course" "take_course" (defArgs s_take_course) (defBody s_take_course) (defScope s_take_course) .none kV41 dc41 pm41 an41 cd41 ct41), sl41⟩)
    (c41 : PySem.W.codeIn K cd41 "take_course" = true)
    (k41 : PySem.W.keepIn K (.ref f41) = true)
    (a42 : PySem.W.nsIn K mainGlobals "give_course" = some (some (.ref f42)))
    (l42 : K.lookup f42 = some ⟨oc42, od42, .func (PySem.W.fnOf "give_course" "give_course" (defArgs s_give_course) (defBody s_give_course) (defScope s_give_course) (.ref T42) kV42 dc42 pm42 an42 cd42 ct42), sl42⟩)
    (c42 : PySem.W.codeIn K cd42 "give_course" = true)
    (k42 : PySem.W.keepIn K (.ref f42) = true)
    (t42 : K.lookup T42 = some ⟨tc42, td42, .seq #[.none] tn42, tl42⟩)
    (a43 : PySem.W.nsIn K mainGlobals "move_course" = some (some (.ref f43)))
    (l43 : K.lookup f43 = some ⟨oc43, od43, .func (PySem.W.fnOf "move_course" "move_course" (defArgs s_move_course) (defBody s_move_course) (defScope s_move_course) (.ref T43) kV43 dc43 pm43 an43 cd43 ct43), sl43⟩)
    (c43 : PySem.W.codeIn K cd43 "move_course" = true)
    (k43 : PySem.W.keepIn K (.ref f43) = true)
    (t43 : K.lookup T43 = some ⟨tc43, td43, .seq #[.none] tn43, tl43⟩)
    (a44 : PySem.W.nsIn K mainGlobals "lift_course" = some (some (.ref f44)))
    (l44 : K.lookup f44 = some ⟨oc44, od44, .func (PySem.W.fnOf "lift_course" "lift_course" (defArgs s_lift_course) (defBody s_lift_course) (defScope s_lift_course) .none kV44 dc44 pm44 an44 cd44 ct44), sl44⟩)
    (c44 : PySem.W.codeIn K cd44 "lift_course" = true)
    (k44 : PySem.W.keepIn K (.ref f44) = true)
    (a45 : PySem.W.nsIn K mainGlobals "settle_course" = some (some (.ref f45)))
    (l45 : K.lookup f45 = some ⟨oc45, od45, .func (PySem.W.fnOf "settle_course" "settle_course" (defArgs s_settle_course) (defBody s_settle_course) (defScope s_settle_course) .none kV45 dc45 pm45 an45 cd45 ct45), sl45⟩)
    (c45 : PySem.W.codeIn K cd45 "settle_course" = true)
    (k45 : PySem.W.keepIn K (.ref f45) = true)
    (a46 : PySem.W.nsIn K mainGlobals "plan" = some (some (.ref f46)))
    (l46 : K.lookup f46 = some ⟨oc46, od46, .func (PySem.W.fnOf "plan" "plan" (defArgs s_plan) (defBody s_plan) (defScope s_plan) .none kV46 dc46 pm46 an46 cd46 ct46), sl46⟩)
    (c46 : PySem.W.codeIn K cd46 "plan" = true)
    (k46 : PySem.W.keepIn K (.ref f46) = true)
    (a47 : PySem.W.nsIn K mainGlobals "take_plan" = some (some (.ref f47)))
    (l47 : K.lookup f47 = some ⟨oc47, od47, .func (PySem.W.fnOf "take_plan" "take_plan" (defArgs s_take_plan) (defBody s_take_plan) (defScope s_take_plan) .none kV47 dc47 pm47 an47 cd47 ct47), sl47⟩)
    (c47 : PySem.W.codeIn K cd47 "take_plan" = true)
    (k47 : PySem.W.keepIn K (.ref f47) = true)
    (a48 : PySem.W.nsIn K mainGlobals "give_plan" = some (some (.ref f48)))
    (l48 : K.lookup f48 = some ⟨oc48, od48, .func (PySem.W.fnOf "give_plan" "give_plan" (defArgs s_give_plan) (defBody s_give_plan) (defScope s_give_plan) .none kV48 dc48 pm48 an48 cd48 ct48), sl48⟩)
    (c48 : PySem.W.codeIn K cd48 "give_plan" = true)
    (k48 : PySem.W.keepIn K (.ref f48) = true)
    (a49 : PySem.W.nsIn K mainGlobals "move_plan" = some (some (.ref f49)))
    (l49 : K.lookup f49 = some ⟨oc49, od49, .func (PySem.W.fnOf "move_plan" "move_plan" (defArgs s_move_plan) (defBody s_move_plan) (defScope s_move_plan) .none kV49 dc49 pm49 an49 cd49 ct49), sl49⟩)
    (c49 : PySem.W.codeIn K cd49 "move_plan" = true)
    (k49 : PySem.W.keepIn K (.ref f49) = true)
    (a50 : PySem.W.nsIn K mainGlobals "lift_plan" = some (some (.ref f50)))
    (l50 : K.lookup f50 = some ⟨oc50, od50, .func (PySem.W.fnOf "lift_plan" "lift_plan" (defArgs s_lift_plan) (defBody s_lift_plan) (defScope s_lift_plan) .none kV50 dc50 pm50 an50 cd50 ct50), sl50⟩)
    (c50 : PySem.W.codeIn K cd50 "lift_plan" = true)
    (k50 : PySem.W.keepIn K (.ref f50) = true)
    (a51 : PySem.W.nsIn K mainGlobals "settle_plan" = some (some (.ref f51)))
    (l51 : K.lookup f51 = some ⟨oc51, od51, .func (PySem.W.fnOf "settle_plan" "settle_plan" (defArgs s_settle_plan) (defBody s_settle_plan) (defScope s_settle_plan) .none kV51 dc51 pm51 an51 cd51 ct51), sl51⟩)
    (c51 : PySem.W.codeIn K cd51 "settle_plan" = true)
    (k51 : PySem.W.keepIn K (.ref f51) = true)
    (a52 : PySem.W.nsIn K mainGlobals "_law_pot" = some (some (.ref f52)))
    (l52 : K.lookup f52 = some ⟨oc52, od52, .func (PySem.W.fnOf "_law_pot" "_law_pot" (defArgs s_Lpot) (defBody s_Lpot) (defScope s_Lpot) .none kV52 dc52 pm52 an52 cd52 ct52), sl52⟩)
    (c52 : PySem.W.codeIn K cd52 "_law_pot" = true)
    (k52 : PySem.W.keepIn K (.ref f52) = true)
    (a53 : PySem.W.nsIn K mainGlobals "_law_draw" = some (some (.ref f53)))
    (l53 : K.lookup f53 = some ⟨oc53, od53, .func (PySem.W.fnOf "_law_draw" "_law_draw" (defArgs s_Ldraw) (defBody s_Ldraw) (defScope s_Ldraw) .none kV53 dc53 pm53 an53 cd53 ct53), sl53⟩)
    (c53 : PySem.W.codeIn K cd53 "_law_draw" = true)
    (k53 : PySem.W.keepIn K (.ref f53) = true)
    (a54 : PySem.W.nsIn K mainGlobals "_law_pick" = some (some (.ref f54)))
    (l54 : K.lookup f54 = some ⟨oc54, od54, .func (PySem.W.fnOf "_law_pick" "_law_pick" (defArgs s_Lpick) (defBody s_Lpick) (defScope s_Lpick) .none kV54 dc54 pm54 an54 cd54 ct54), sl54⟩)
    (c54 : PySem.W.codeIn K cd54 "_law_pick" = true)
    (k54 : PySem.W.keepIn K (.ref f54) = true)
    (a55 : PySem.W.nsIn K mainGlobals "_law_sequences" = some (some (.ref f55)))
    (l55 : K.lookup f55 = some ⟨oc55, od55, .func (PySem.W.fnOf "_law_sequences" "_law_sequences" (defArgs s_Lsequences) (defBody s_Lsequences) (defScope s_Lsequences) .none kV55 dc55 pm55 an55 cd55 ct55), sl55⟩)
    (c55 : PySem.W.codeIn K cd55 "_law_sequences" = true)
    (k55 : PySem.W.keepIn K (.ref f55) = true)
    (a56 : PySem.W.nsIn K mainGlobals "_law_is_ahead" = some (some (.ref f56)))
    (l56 : K.lookup f56 = some ⟨oc56, od56, .func (PySem.W.fnOf "_law_is_ahead" "_law_is_ahead" (defArgs s_Lis_ahead) (defBody s_Lis_ahead) (defScope s_Lis_ahead) .none kV56 dc56 pm56 an56 cd56 ct56), sl56⟩)
    (c56 : PySem.W.codeIn K cd56 "_law_is_ahead" = true)
    (k56 : PySem.W.keepIn K (.ref f56) = true)
    (a57 : PySem.W.nsIn K mainGlobals "_law_is_take" = some (some (.ref f57)))
    (l57 : K.lookup f57 = some ⟨oc57, od57, .func (PySem.W.fnOf "_law_is_take" "_law_is_take" (defArgs s_Lis_take) (defBody s_Lis_take) (defScope s_Lis_take) .none kV57 dc57 pm57 an57 cd57 ct57), sl57⟩)
    (c57 : PySem.W.codeIn K cd57 "_law_is_take" = true)
    (k57 : PySem.W.keepIn K (.ref f57) = true)
    (a58 : PySem.W.nsIn K mainGlobals "_law_is_give" = some (some (.ref f58)))
    (l58 : K.lookup f58 = some ⟨oc58, od58, .func (PySem.W.fnOf "_law_is_give" "_law_is_give" (defArgs s_Lis_give) (defBody s_Lis_give) (defScope s_Lis_give) .none kV58 dc58 pm58 an58 cd58 ct58), sl58⟩)
    (c58 : PySem.W.codeIn K cd58 "_law_is_give" = true)
    (k58 : PySem.W.keepIn K (.ref f58) = true)
    (a59 : PySem.W.nsIn K mainGlobals "_law_is_move" = some (some (.ref f59)))
    (l59 : K.lookup f59 = some ⟨oc59, od59, .func (PySem.W.fnOf "_law_is_move" "_law_is_move" (defArgs s_Lis_move) (defBody s_Lis_move) (defScope s_Lis_move) .none kV59 dc59 pm59 an59 cd59 ct59), sl59⟩)
    (c59 : PySem.W.codeIn K cd59 "_law_is_move" = true)
    (k59 : PySem.W.keepIn K (.ref f59) = true)
    (a60 : PySem.W.nsIn K mainGlobals "_law_takes" = some (some (.ref f60)))
    (l60 : K.lookup f60 = some ⟨oc60, od60, .func (PySem.W.fnOf "_law_takes" "_law_takes" (defArgs s_Ltakes) (defBody s_Ltakes) (defScope s_Ltakes) .none kV60 dc60 pm60 an60 cd60 ct60), sl60⟩)
    (c60 : PySem.W.codeIn K cd60 "_law_takes" = true)
    (k60 : PySem.W.keepIn K (.ref f60) = true)
    (a61 : PySem.W.nsIn K mainGlobals "_law_gives" = some (some (.ref f61)))
    (l61 : K.lookup f61 = some ⟨oc61, od61, .func (PySem.W.fnOf "_law_gives" "_law_gives" (defArgs s_Lgives) (defBody s_Lgives) (defScope s_Lgives) .none kV61 dc61 pm61 an61 cd61 ct61), sl61⟩)
    (c61 : PySem.W.codeIn K cd61 "_law_gives" = true)
    (k61 : PySem.W.keepIn K (.ref f61) = true)
    (a62 : PySem.W.nsIn K mainGlobals "_law_moves" = some (some (.ref f62)))
    (l62 : K.lookup f62 = some ⟨oc62, od62, .func (PySem.W.fnOf "_law_moves" "_law_moves" (defArgs s_Lmoves) (defBody s_Lmoves) (defScope s_Lmoves) .none kV62 dc62 pm62 an62 cd62 ct62), sl62⟩)
    (c62 : PySem.W.codeIn K cd62 "_law_moves" = true)
    (k62 : PySem.W.keepIn K (.ref f62) = true)
    (a63 : PySem.W.nsIn K mainGlobals "_law_lifts" = some (some (.ref f63)))
    (l63 : K.lookup f63 = some ⟨oc63, od63, .func (PySem.W.fnOf "_law_lifts" "_law_lifts" (defArgs s_Llifts) (defBody s_Llifts) (defScope s_Llifts) .none kV63 dc63 pm63 an63 cd63 ct63), sl63⟩)
    (c63 : PySem.W.codeIn K cd63 "_law_lifts" = true)
    (k63 : PySem.W.keepIn K (.ref f63) = true)
    (a64 : PySem.W.nsIn K mainGlobals "_law_any" = some (some (.ref f64)))
    (l64 : K.lookup f64 = some ⟨oc64, od64, .func (PySem.W.fnOf "_law_any" "_law_any" (defArgs s_Lany) (defBody s_Lany) (defScope s_Lany) .none kV64 dc64 pm64 an64 cd64 ct64), sl64⟩)
    (c64 : PySem.W.codeIn K cd64 "_law_any" = true)
    (k64 : PySem.W.keepIn K (.ref f64) = true)
    (a65 : PySem.W.nsIn K mainGlobals "_law_book" = some (some (.ref f65)))
    (l65 : K.lookup f65 = some ⟨oc65, od65, .func (PySem.W.fnOf "_law_book" "_law_book" (defArgs s_Lbook) (defBody s_Lbook) (defScope s_Lbook) .none kV65 dc65 pm65 an65 cd65 ct65), sl65⟩)
    (c65 : PySem.W.codeIn K cd65 "_law_book" = true)
    (k65 : PySem.W.keepIn K (.ref f65) = true)
    (a66 : PySem.W.nsIn K mainGlobals "_law_words_shown" = some (some (.ref f66)))
    (l66 : K.lookup f66 = some ⟨oc66, od66, .func (PySem.W.fnOf "_law_words_shown" "_law_words_shown" (defArgs s_Lwords_shown) (defBody s_Lwords_shown) (defScope s_Lwords_shown) .none kV66 dc66 pm66 an66 cd66 ct66), sl66⟩)
    (c66 : PySem.W.codeIn K cd66 "_law_words_shown" = true)
    (k66 : PySem.W.keepIn K (.ref f66) = true)
    (a67 : PySem.W.nsIn K mainGlobals "_law_shown" = some (some (.ref f67)))
    (l67 : K.lookup f67 = some ⟨oc67, od67, .func (PySem.W.fnOf "_law_shown" "_law_shown" (defArgs s_Lshown) (defBody s_Lshown) (defScope s_Lshown) .none kV67 dc67 pm67 an67 cd67 ct67), sl67⟩)
    (c67 : PySem.W.codeIn K cd67 "_law_shown" = true)
    (k67 : PySem.W.keepIn K (.ref f67) = true)
    (a68 : PySem.W.nsIn K mainGlobals "_law_plain" = some (some (.ref f68)))
    (l68 : K.lookup f68 = some ⟨oc68, od68, .func (PySem.W.fnOf "_law_plain" "_law_plain" (defArgs s_Lplain) (defBody s_Lplain) (defScope s_Lplain) .none kV68 dc68 pm68 an68 cd68 ct68), sl68⟩)
    (c68 : PySem.W.codeIn K cd68 "_law_plain" = true)
    (k68 : PySem.W.keepIn K (.ref f68) = true)
    (a69 : PySem.W.nsIn K mainGlobals "_law_is_refused" = some (some (.ref f69)))
    (l69 : K.lookup f69 = some ⟨oc69, od69, .func (PySem.W.fnOf "_law_is_refused" "_law_is_refused" (defArgs s_Lis_refused) (defBody s_Lis_refused) (defScope s_Lis_refused) .none kV69 dc69 pm69 an69 cd69 ct69), sl69⟩)
    (c69 : PySem.W.codeIn K cd69 "_law_is_refused" = true)
    (k69 : PySem.W.keepIn K (.ref f69) = true)
    (a70 : PySem.W.nsIn K mainGlobals "_law_asked" = some (some (.ref f70)))
    (l70 : K.lookup f70 = some ⟨oc70, od70, .func (PySem.W.fnOf "_law_asked" "_law_asked" (defArgs s_Lasked) (defBody s_Lasked) (defScope s_Lasked) .none kV70 dc70 pm70 an70 (.ref cc70) ct70), sl70⟩)
    (c70 : PySem.W.codeIn K (.ref cc70) "_law_asked" = true)
    (tl70 : K.lookup cc70 = some ⟨toc70, tod70, .fields tvs70, tsl70⟩)
    (tv70 : tvs70[11]? = some (.ref pp70))
    (tn70 : K.lookup pp70 = none)
    (k70 : PySem.W.keepIn K (.ref f70) = true)
    (a71 : PySem.W.nsIn K mainGlobals "_law_right" = some (some (.ref f71)))
    (l71 : K.lookup f71 = some ⟨oc71, od71, .func (PySem.W.fnOf "_law_right" "_law_right" (defArgs s_Lright) (defBody s_Lright) (defScope s_Lright) .none kV71 dc71 pm71 an71 cd71 ct71), sl71⟩)
    (c71 : PySem.W.codeIn K cd71 "_law_right" = true)
    (k71 : PySem.W.keepIn K (.ref f71) = true)
    (a72 : PySem.W.nsIn K mainGlobals "law" = some (some (.ref f72)))
    (l72 : K.lookup f72 = some ⟨oc72, od72, .func (PySem.W.fnOf "law" "law" (defArgs s_law) (defBody s_law) (defScope s_law) .none kV72 dc72 pm72 an72 cd72 ct72), sl72⟩)
    (c72 : PySem.W.codeIn K cd72 "law" = true)
    (k72 : PySem.W.keepIn K (.ref f72) = true)
    (xa1 : PySem.W.nsIn K mainGlobals "InvalidRow" = some (some (.ref cx1)))
    (xi1 : PySem.W.excInitIn K cx1 bm_ValueError "ValueError.__new__" = true)
    (xo1 : PySem.W.excOver K cx1 bm_ValueError = true)
    (xs1 : PySem.W.findIn K (.ref cx1) "__setattr__" = some (some (.builtin "object.__setattr__")))
    (xg1 : PySem.W.findIn K (.ref cx1) "__getattribute__" = some (some (.builtin "BaseException.__getattribute__")))
    (xh1 : PySem.W.findIn K (.ref cx1) "__getattr__" = some none)
    (xc1 : PySem.W.findIn K (.ref cx1) "__init__" = some (some (.ref ix1)))
    (xf1 : PySem.W.isFn K (.ref ix1) = true)
    (xk1 : PySem.W.keepIn K (.ref cx1) = true)
    (xb1 : PySem.W.subIn K (.ref cx1) (.type "BaseException") = some true)
    (xt1 : PySem.W.typeIn K (.ref cx1) = some (.type "type"))
    (xd1 : PySem.W.hasDictIn K cx1 = true)
    (xl1 : K.lookup ix1 = some ⟨xoc1, xod1, .func (PySem.W.fnOf "__init__" "InvalidRow.__init__" (defArgs s_E_InvalidRow) (defBody s_E_InvalidRow) (defScope s_E_InvalidRow) .none .none xdc1 xpm1 xan1 xcd1 xct1), xsl1⟩)
    (xe1 : PySem.W.codeIn K xcd1 "InvalidRow.__init__" = true)
    (xn1_1 : PySem.W.takerIn K cx1 "kind" = some none)
    (xm1_1 : PySem.W.findIn K (.ref cx1) "kind" = some none)
    (xn2_1 : PySem.W.takerIn K cx1 "value" = some none)
    (xm2_1 : PySem.W.findIn K (.ref cx1) "value" = some none)
    (xa2 : PySem.W.nsIn K mainGlobals "InvalidHolds" = some (some (.ref cx2)))
    (xi2 : PySem.W.excInitIn K cx2 bm_ValueError "ValueError.__new__" = true)
    (xo2 : PySem.W.excOver K cx2 bm_ValueError = true)
    (xs2 : PySem.W.findIn K (.ref cx2) "__setattr__" = some (some (.builtin "object.__setattr__")))
    (xg2 : PySem.W.findIn K (.ref cx2) "__getattribute__" = some (some (.builtin "BaseException.__getattribute__")))
    (xh2 : PySem.W.findIn K (.ref cx2) "__getattr__" = some none)
    (xc2 : PySem.W.findIn K (.ref cx2) "__init__" = some (some (.ref ix2)))
    (xf2 : PySem.W.isFn K (.ref ix2) = true)
    (xk2 : PySem.W.keepIn K (.ref cx2) = true)
    (xb2 : PySem.W.subIn K (.ref cx2) (.type "BaseException") = some true)
    (xt2 : PySem.W.typeIn K (.ref cx2) = some (.type "type"))
    (xd2 : PySem.W.hasDictIn K cx2 = true)
    (xl2 : K.lookup ix2 = some ⟨xoc2, xod2, .func (PySem.W.fnOf "__init__" "InvalidHolds.__init__" (defArgs s_E_InvalidHolds) (defBody s_E_InvalidHolds) (defScope s_E_InvalidHolds) .none .none xdc2 xpm2 xan2 xcd2 xct2), xsl2⟩)
    (xe2 : PySem.W.codeIn K xcd2 "InvalidHolds.__init__" = true)
    (xn2 : PySem.W.takerIn K cx2 "value" = some none)
    (xm2 : PySem.W.findIn K (.ref cx2) "value" = some none)
    (xy1 : PySem.W.isClsIn K cx1 = true)
    (xz1_1 : PySem.W.subIn K (.ref cx1) (.ref cx1) = some true)
    (xz2_1 : PySem.W.subIn K (.ref cx2) (.ref cx1) = some false)
    (xy2 : PySem.W.isClsIn K cx2 = true)
    (xz2_2 : PySem.W.subIn K (.ref cx2) (.ref cx2) = some true)
    (z_abs : PySem.W.nsIn K mainGlobals "abs" = some none)
    (z_all : PySem.W.nsIn K mainGlobals "all" = some none)
    (z_bool : PySem.W.nsIn K mainGlobals "bool" = some none)
    (z_divmod : PySem.W.nsIn K mainGlobals "divmod" = some none)
    (z_enumerate : PySem.W.nsIn K mainGlobals "enumerate" = some none)
    (z_int : PySem.W.nsIn K mainGlobals "int" = some none)
    (z_isinstance : PySem.W.nsIn K mainGlobals "isinstance" = some none)
    (z_len : PySem.W.nsIn K mainGlobals "len" = some none)
    (z_list : PySem.W.nsIn K mainGlobals "list" = some none)
    (z_max : PySem.W.nsIn K mainGlobals "max" = some none)
    (z_min : PySem.W.nsIn K mainGlobals "min" = some none)
    (z_range : PySem.W.nsIn K mainGlobals "range" = some none)
    (z_repr : PySem.W.nsIn K mainGlobals "repr" = some none)
    (z_set : PySem.W.nsIn K mainGlobals "set" = some none)
    (z_sorted : PySem.W.nsIn K mainGlobals "sorted" = some none)
    (z_str : PySem.W.nsIn K mainGlobals "str" = some none)
    (z_tuple : PySem.W.nsIn K mainGlobals "tuple" = some none)
    (g_MOST_BATCH : PySem.W.nsIn K mainGlobals "MOST_BATCH" = some (some (.int 50 t_MOST_BATCH)))
    (g_MOST_GROUPS : PySem.W.nsIn K mainGlobals "MOST_GROUPS" = some (some (.int 200 t_MOST_GROUPS)))
    (g_FAILS : PySem.W.nsIn K mainGlobals "FAILS" = some (some (.ref T_FAILS)))
    (h_T_FAILS : K.lookup T_FAILS = some ⟨.type "tuple", d_T_FAILS, .seq #[.str "undo" k0_T_FAILS, .str "leave" k1_T_FAILS, .str "wait" k2_T_FAILS] n_T_FAILS, l_T_FAILS⟩)
    (g_ROW_KINDS : PySem.W.nsIn K mainGlobals "ROW_KINDS" = some (some (.ref T_ROW_KINDS)))
    (h_T_ROW_KINDS : K.lookup T_ROW_KINDS = some ⟨.type "tuple", d_T_ROW_KINDS, .seq #[.str "take" k0_T_ROW_KINDS, .str "give" k1_T_ROW_KINDS, .str "move" k2_T_ROW_KINDS, .str "lift" k3_T_ROW_KINDS] n_T_ROW_KINDS, l_T_ROW_KINDS⟩)
    (g_WAY_WORDS : PySem.W.nsIn K mainGlobals "WAY_WORDS" = some (some (.ref T_WAY_WORDS)))
    (h_T_WAY_WORDS : K.lookup T_WAY_WORDS = some ⟨.type "tuple", d_T_WAY_WORDS, .seq #[.str "look" k0_T_WAY_WORDS, .str "add" k1_T_WAY_WORDS, .str "try" k2_T_WAY_WORDS, .str "off" k3_T_WAY_WORDS] n_T_WAY_WORDS, l_T_WAY_WORDS⟩)
    (g_LIFT_ROWS : PySem.W.nsIn K mainGlobals "LIFT_ROWS" = some (some (.ref T_LIFT_ROWS)))
    (h_T_LIFT_ROWS : K.lookup T_LIFT_ROWS = some ⟨.type "tuple", d_T_LIFT_ROWS, .seq #[.ref T0_LIFT_ROWS, .ref T1_LIFT_ROWS, .ref T2_LIFT_ROWS, .ref T3_LIFT_ROWS, .ref T4_LIFT_ROWS, .ref T5_LIFT_ROWS] n_T_LIFT_ROWS, l_T_LIFT_ROWS⟩)
    (h_T0_LIFT_ROWS : K.lookup T0_LIFT_ROWS = some ⟨.type "tuple", d_T0_LIFT_ROWS, .seq #[] n_T0_LIFT_ROWS, l_T0_LIFT_ROWS⟩)
    (h_T1_LIFT_ROWS : K.lookup T1_LIFT_ROWS = some ⟨.type "tuple", d_T1_LIFT_ROWS, .seq #[.str "set" k0_T1_LIFT_ROWS] n_T1_LIFT_ROWS, l_T1_LIFT_ROWS⟩)
    (h_T2_LIFT_ROWS : K.lookup T2_LIFT_ROWS = some ⟨.type "tuple", d_T2_LIFT_ROWS, .seq #[.str "off" k0_T2_LIFT_ROWS] n_T2_LIFT_ROWS, l_T2_LIFT_ROWS⟩)
    (h_T3_LIFT_ROWS : K.lookup T3_LIFT_ROWS = some ⟨.type "tuple", d_T3_LIFT_ROWS, .seq #[.str "set" k0_T3_LIFT_ROWS, .str "off" k1_T3_LIFT_ROWS] n_T3_LIFT_ROWS, l_T3_LIFT_ROWS⟩)
    (h_T4_LIFT_ROWS : K.lookup T4_LIFT_ROWS = some ⟨.type "tuple", d_T4_LIFT_ROWS, .seq #[.str "off" k0_T4_LIFT_ROWS, .str "set" k1_T4_LIFT_ROWS] n_T4_LIFT_ROWS, l_T4_LIFT_ROWS⟩)
    (h_T5_LIFT_ROWS : K.lookup T5_LIFT_ROWS = some ⟨.type "tuple", d_T5_LIFT_ROWS, .seq #[.str "both" k0_T5_LIFT_ROWS] n_T5_LIFT_ROWS, l_T5_LIFT_ROWS⟩)
    (g_ROW_CHECKS : PySem.W.nsIn K mainGlobals "ROW_CHECKS" = some (some (.ref T_ROW_CHECKS)))
    (h_ROW_CHECKS : K.lookup T_ROW_CHECKS = some ⟨.type "dict", none, .dict es_ROW_CHECKS n_ROW_CHECKS, #[]⟩)
    (y_ROW_CHECKS : PySem.W.KeysLit w.params es_ROW_CHECKS.toList)
    (x_ROW_CHECKS_take : PySem.W.nsIn K T_ROW_CHECKS "take" = some (some (.ref f15)))
    (x_ROW_CHECKS_give : PySem.W.nsIn K T_ROW_CHECKS "give" = some (some (.ref f16)))
    (x_ROW_CHECKS_move : PySem.W.nsIn K T_ROW_CHECKS "move" = some (some (.ref f17)))
    (x_ROW_CHECKS_lift : PySem.W.nsIn K T_ROW_CHECKS "lift" = some (some (.ref f18)))
    : ∃ (fd : FuncData) (ts : List (Addr × Addr)), (∀ p ∈ ts, ∃ y ∈ (["_law_asked"] : List Str), PySem.W.tabIn K y = some p) ∧ (∀ p ∈ ts, K.lookup p.2 = none) ∧ (∀ (s : Shared) (v : Value), BindsTo s fd ⟨[v], []⟩ [("_law_script", v)]) ∧ ∀ base : Heap, K.In base → base.Ns mainGlobals mg → (∀ p ∈ ts, LamX.TabB base mg p.1 p.2) → FnG l.prog w K mg base CX0 16 fa fd ["_law_script"] (sp_lawT K ts) := by
  cases hfa.symm.trans (PySem.W.mg_of X G a72)
  have F1 := fun_mk (st := s_is_an_integer) l1 c1 k1
  have B1 := F1.binds (ps := ["value"]) fun _ _ _ _ _ _ us hl => match us, hl with | [_], _ => rfl
  have F2 := fun_mk (st := s_is_list) l2 c2 k2
  have B2 := F2.binds (ps := ["value"]) fun _ _ _ _ _ _ us hl => match us, hl with | [_], _ => rfl
  have F3 := fun_mk (st := s_check_group) l3 c3 k3
  have B3 := F3.binds (ps := ["tree", "value"]) fun _ _ _ _ _ _ us hl => match us, hl with | [_, _], _ => rfl
  have F4 := fun_mk (st := s_check_parents) l4 c4 k4
  have B4 := F4.binds (ps := ["parents"]) fun _ _ _ _ _ _ us hl => match us, hl with | [_], _ => rfl
  have F5 := fun_mk (st := s_check_struck) l5 c5 k5
  have B5 := F5.binds (ps := ["parents", "struck"]) fun _ _ _ _ _ _ us hl => match us, hl with | [_, _], _ => rfl
  have D6 : L2.FunD K "__init__" "Tree.__init__" (defArgs s_Tinit) (defBody s_Tinit) (defScope s_Tinit) [.ref d6_0, .ref d6_1] [] f6 (PySem.W.fnOf "__init__" "Tree.__init__" (defArgs s_Tinit) (defBody s_Tinit) (defScope s_Tinit) (.ref T6) kV6 dc6 pm6 an6 cd6 ct6) := ⟨⟨_, _, _, _, _, _, _, _, _, _, rfl, l6, c6, .inr ⟨(fun z => nomatch z), T6, _, [.ref d6_0, .ref d6_1], _, rfl, t6, rfl, .cons rfl (.cons rfl (.nil))⟩, .inl rfl⟩, k6⟩
  obtain ⟨w6_0, v6_0, b6_0⟩ := D6.binds1 (ps := ["self", "parents", "struck"]) 1 0 (fun z => nomatch z) rfl (fun _ _ _ _ _ _ _ us its hl hi => match us, hl, its, hi with | [_], _, [_, _], _ => ⟨_, rfl, rfl⟩)
  obtain ⟨w6_1, v6_1, b6_1⟩ := D6.binds1 (ps := ["self", "parents", "struck"]) 2 1 (fun z => nomatch z) rfl (fun _ _ _ _ _ _ _ us its hl hi => match us, hl, its, hi with | [_, _], _, [_, _], _ => ⟨_, rfl, rfl⟩)
  obtain ⟨w6_2, v6_2, b6_2⟩ := D6.binds1 (ps := ["self", "parents", "struck"]) 3 2 (fun z => nomatch z) rfl (fun _ _ _ _ _ _ _ us its hl hi => match us, hl, its, hi with | [_, _, _], _, [_, _], _ => ⟨_, rfl, rfl⟩)
  have F7 := fun_mk (st := s_Tlen) l7 c7 k7
  have B7 := F7.binds (ps := ["self"]) fun _ _ _ _ _ _ us hl => match us, hl with | [_], _ => rfl
  have F8 := fun_mk (st := s_Tway) l8 c8 k8
  have B8 := F8.binds (ps := ["self", "group"]) fun _ _ _ _ _ _ us hl => match us, hl with | [_, _], _ => rfl
  have F9 := fun_mk (st := s_Tapart) l9 c9 k9
  have B9 := F9.binds (ps := ["self", "group", "seen"]) fun _ _ _ _ _ _ us hl => match us, hl with | [_, _, _], _ => rfl
  have F10 := fun_mk (st := s_is_word) l10 c10 k10
  have B10 := F10.binds (ps := ["value", "words"]) fun _ _ _ _ _ _ us hl => match us, hl with | [_, _], _ => rfl
  have F11 := fun_mk (st := s_are_different_words) l11 c11 k11
  have B11 := F11.binds (ps := ["values", "words"]) fun _ _ _ _ _ _ us hl => match us, hl with | [_, _], _ => rfl
  have F12 := fun_mk (st := s_has_words_of) l12 c12 k12
  have B12 := F12.binds (ps := ["value", "words"]) fun _ _ _ _ _ _ us hl => match us, hl with | [_, _], _ => rfl
  have F13 := fun_mk (st := s_tests_are_ahead) l13 c13 k13
  have B13 := F13.binds (ps := ["row", "word"]) fun _ _ _ _ _ _ us hl => match us, hl with | [_, _], _ => rfl
  have F14 := fun_mk (st := s_off_has_home) l14 c14 k14
  have B14 := F14.binds (ps := ["row"]) fun _ _ _ _ _ _ us hl => match us, hl with | [_], _ => rfl
  have F15 := fun_mk (st := s_is_take_row) l15 c15 k15
  have B15 := F15.binds (ps := ["value"]) fun _ _ _ _ _ _ us hl => match us, hl with | [_], _ => rfl
  have F16 := fun_mk (st := s_is_give_row) l16 c16 k16
  have B16 := F16.binds (ps := ["value"]) fun _ _ _ _ _ _ us hl => match us, hl with | [_], _ => rfl
  have F17 := fun_mk (st := s_is_move_row) l17 c17 k17
  have B17 := F17.binds (ps := ["value"]) fun _ _ _ _ _ _ us hl => match us, hl with | [_], _ => rfl
  have F18 := fun_mk (st := s_is_lift_row) l18 c18 k18
  have B18 := F18.binds (ps := ["value"]) fun _ _ _ _ _ _ us hl => match us, hl with | [_], _ => rfl
  have F19 := fun_mk (st := s_is_row) l19 c19 k19
  have B19 := F19.binds (ps := ["kind", "value"]) fun _ _ _ _ _ _ us hl => match us, hl with | [_, _], _ => rfl
  have F20 := fun_mk (st := s_fits_batch) l20 c20 k20
  have B20 := F20.binds (ps := ["row", "batch"]) fun _ _ _ _ _ _ us hl => match us, hl with | [_, _], _ => rfl
  have F21 := fun_mk (st := s_fits_shared) l21 c21 k21
  have B21 := F21.binds (ps := ["row", "shared"]) fun _ _ _ _ _ _ us hl => match us, hl with | [_, _], _ => rfl
  have F22 := fun_mk (st := s_check_rows) l22 c22 k22
  have B22 := F22.binds (ps := ["rows"]) fun _ _ _ _ _ _ us hl => match us, hl with | [_], _ => rfl
  have F23 := fun_mk (st := s_check_fails) l23 c23 k23
  have B23 := F23.binds (ps := ["value"]) fun _ _ _ _ _ _ us hl => match us, hl with | [_], _ => rfl
  have F24 := fun_mk (st := s_check_bool) l24 c24 k24
  have B24 := F24.binds (ps := ["name", "value"]) fun _ _ _ _ _ _ us hl => match us, hl with | [_, _], _ => rfl
  have F25 := fun_mk (st := s_check_holds) l25 c25 k25
  have B25 := F25.binds (ps := ["value"]) fun _ _ _ _ _ _ us hl => match us, hl with | [_], _ => rfl
  have F26 := fun_mk (st := s_check_batch) l26 c26 k26
  have B26 := F26.binds (ps := ["value"]) fun _ _ _ _ _ _ us hl => match us, hl with | [_], _ => rfl
  have F27 := fun_mk (st := s_check_row_kind) l27 c27 k27
  have B27 := F27.binds (ps := ["value"]) fun _ _ _ _ _ _ us hl => match us, hl with | [_], _ => rfl
  have F28 := fun_mk (st := s_Binit) l28 c28 k28
  have KF28 : L2.FunD K "__init__" "Book.__init__" (defArgs s_Binit) (defBody s_Binit) (defScope s_Binit) [] ([("take", .ref kd_take), ("give", .ref kd_give), ("move", .ref kd_move), ("lift", .ref kd_lift), ("fails", .str "undo"), ("shared", .bl true), ("holds", .ref kd_holds), ("batch", .int 1), ("settles", .bl true)] : List (Str × V)) f28 (PySem.W.fnOf "__init__" "Book.__init__" (defArgs s_Binit) (defBody s_Binit) (defScope s_Binit) .none (.ref KD28) dc28 pm28 an28 cd28 ct28) := ⟨⟨_, _, _, _, _, _, _, _, _, _, rfl, l28, c28, .inl ⟨rfl, rfl⟩, .inr ⟨KD28, rfl, by
    intro q hq
    simp only [List.mem_cons, List.not_mem_nil, or_false] at hq
    rcases hq with rfl | rfl | rfl | rfl | rfl | rfl | rfl | rfl | rfl
    · exact ⟨_, kn28_take, rfl⟩
    · exact ⟨_, kn28_give, rfl⟩
    · exact ⟨_, kn28_move, rfl⟩
    · exact ⟨_, kn28_lift, rfl⟩
    · exact ⟨_, kn28_fails, ⟨_, rfl⟩⟩
    · exact ⟨_, kn28_shared, rfl⟩
    · exact ⟨_, kn28_holds, rfl⟩
    · exact ⟨_, kn28_batch, ⟨_, rfl⟩⟩
    · exact ⟨_, kn28_settles, rfl⟩⟩⟩, k28⟩
  obtain ⟨w0_28, v0_28, b0_28⟩ := KF28.binds0 (ps := ["self", "take", "give", "move", "lift", "fails", "shared", "holds", "batch", "settles"]) 1 (fun z => nomatch z) rfl (fun D doc pm an cdv ct us ks l1 l2 => kwc_Binit l1 l2)
  have F29 := fun_mk (st := s_Brepr) l29 c29 k29
  have B29 := F29.binds (ps := ["self"]) fun _ _ _ _ _ _ us hl => match us, hl with | [_], _ => rfl
  have F30 := fun_mk (st := s_Bfails) l30 c30 k30
  have B30 := F30.binds (ps := ["self"]) fun _ _ _ _ _ _ us hl => match us, hl with | [_], _ => rfl
  have F31 := fun_mk (st := s_Bshared) l31 c31 k31
  have B31 := F31.binds (ps := ["self"]) fun _ _ _ _ _ _ us hl => match us, hl with | [_], _ => rfl
  have F32 := fun_mk (st := s_Bholds) l32 c32 k32
  have B32 := F32.binds (ps := ["self"]) fun _ _ _ _ _ _ us hl => match us, hl with | [_], _ => rfl
  have F33 := fun_mk (st := s_Bbatch) l33 c33 k33
  have B33 := F33.binds (ps := ["self"]) fun _ _ _ _ _ _ us hl => match us, hl with | [_], _ => rfl
  have F34 := fun_mk (st := s_Bsettles) l34 c34 k34
  have B34 := F34.binds (ps := ["self"]) fun _ _ _ _ _ _ us hl => match us, hl with | [_], _ => rfl
  have F35 := fun_mk (st := s_Brow) l35 c35 k35
  have B35 := F35.binds (ps := ["self", "kind"]) fun _ _ _ _ _ _ us hl => match us, hl with | [_, _], _ => rfl
  have F36 := fun_mk (st := s_Bwith_row) l36 c36 k36
  have B36 := F36.binds (ps := ["self", "kind", "row"]) fun _ _ _ _ _ _ us hl => match us, hl with | [_, _, _], _ => rfl
  have F37 := fun_mk (st := s_Bwith_holds) l37 c37 k37
  have B37 := F37.binds (ps := ["self", "holds"]) fun _ _ _ _ _ _ us hl => match us, hl with | [_, _], _ => rfl
  have D38 : L2.FunD K "__init__" "Course.__init__" (defArgs s_Cinit) (defBody s_Cinit) (defScope s_Cinit) [.non, .non, .bl false] [] f38 (PySem.W.fnOf "__init__" "Course.__init__" (defArgs s_Cinit) (defBody s_Cinit) (defScope s_Cinit) (.ref T38) kV38 dc38 pm38 an38 cd38 ct38) := ⟨⟨_, _, _, _, _, _, _, _, _, _, rfl, l38, c38, .inr ⟨(fun z => nomatch z), T38, _, [.none, .none, .bool false], _, rfl, t38, rfl, .cons rfl (.cons rfl (.cons rfl (.nil)))⟩, .inl rfl⟩, k38⟩
  obtain ⟨w38_0, v38_0, b38_0⟩ := D38.binds1 (ps := ["self", "kind", "words", "group", "old", "leaves_out"]) 3 0 (fun z => nomatch z) rfl (fun _ _ _ _ _ _ _ us its hl hi => match us, hl, its, hi with | [_, _, _], _, [_, _, _], _ => ⟨_, rfl, rfl⟩)
  obtain ⟨w38_1, v38_1, b38_1⟩ := D38.binds1 (ps := ["self", "kind", "words", "group", "old", "leaves_out"]) 4 1 (fun z => nomatch z) rfl (fun _ _ _ _ _ _ _ us its hl hi => match us, hl, its, hi with | [_, _, _, _], _, [_, _, _], _ => ⟨_, rfl, rfl⟩)
  obtain ⟨w38_2, v38_2, b38_2⟩ := D38.binds1 (ps := ["self", "kind", "words", "group", "old", "leaves_out"]) 5 2 (fun z => nomatch z) rfl (fun _ _ _ _ _ _ _ us its hl hi => match us, hl, its, hi with | [_, _, _, _, _], _, [_, _, _], _ => ⟨_, rfl, rfl⟩)
  obtain ⟨w38_3, v38_3, b38_3⟩ := D38.binds1 (ps := ["self", "kind", "words", "group", "old", "leaves_out"]) 6 3 (fun z => nomatch z) rfl (fun _ _ _ _ _ _ _ us its hl hi => match us, hl, its, hi with | [_, _, _, _, _, _], _, [_, _, _], _ => ⟨_, rfl, rfl⟩)
  have F39 := fun_mk (st := s_Cgroups) l39 c39 k39
  have B39 := F39.binds (ps := ["self", "tree", "word"]) fun _ _ _ _ _ _ us hl => match us, hl with | [_, _, _], _ => rfl
  have F40 := fun_mk (st := s_Csingle_deeds) l40 c40 k40
  have B40 := F40.binds (ps := ["self", "tree", "words"]) fun _ _ _ _ _ _ us hl => match us, hl with | [_, _, _], _ => rfl
  have F41 := fun_mk (st := s_take_course) l41 c41 k41
  have B41 := F41.binds (ps := ["book", "group"]) fun _ _ _ _ _ _ us hl => match us, hl with | [_, _], _ => rfl
  have D42 : L2.FunD K "give_course" "give_course" (defArgs s_give_course) (defBody s_give_course) (defScope s_give_course) [.non] [] f42 (PySem.W.fnOf "give_course" "give_course" (defArgs s_give_course) (defBody s_give_course) (defScope s_give_course) (.ref T42) kV42 dc42 pm42 an42 cd42 ct42) := ⟨⟨_, _, _, _, _, _, _, _, _, _, rfl, l42, c42, .inr ⟨(fun z => nomatch z), T42, _, [.none], _, rfl, t42, rfl, .cons rfl (.nil)⟩, .inl rfl⟩, k42⟩
  obtain ⟨w42_0, v42_0, b42_0⟩ := D42.binds1 (ps := ["book", "old"]) 1 0 (fun z => nomatch z) rfl (fun _ _ _ _ _ _ _ us its hl hi => match us, hl, its, hi with | [_], _, [_], _ => ⟨_, rfl, rfl⟩)
  obtain ⟨w42_1, v42_1, b42_1⟩ := D42.binds1 (ps := ["book", "old"]) 2 1 (fun z => nomatch z) rfl (fun _ _ _ _ _ _ _ us its hl hi => match us, hl, its, hi with | [_, _], _, [_], _ => ⟨_, rfl, rfl⟩)
  have D43 : L2.FunD K "move_course" "move_course" (defArgs s_move_course) (defBody s_move_course) (defScope s_move_course) [.non] [] f43 (PySem.W.fnOf "move_course" "move_course" (defArgs s_move_course) (defBody s_move_course) (defScope s_move_course) (.ref T43) kV43 dc43 pm43 an43 cd43 ct43) := ⟨⟨_, _, _, _, _, _, _, _, _, _, rfl, l43, c43, .inr ⟨(fun z => nomatch z), T43, _, [.none], _, rfl, t43, rfl, .cons rfl (.nil)⟩, .inl rfl⟩, k43⟩
  obtain ⟨w43_0, v43_0, b43_0⟩ := D43.binds1 (ps := ["book", "group", "old"]) 2 0 (fun z => nomatch z) rfl (fun _ _ _ _ _ _ _ us its hl hi => match us, hl, its, hi with | [_, _], _, [_], _ => ⟨_, rfl, rfl⟩)
  obtain ⟨w43_1, v43_1, b43_1⟩ := D43.binds1 (ps := ["book", "group", "old"]) 3 1 (fun z => nomatch z) rfl (fun _ _ _ _ _ _ _ us its hl hi => match us, hl, its, hi with | [_, _, _], _, [_], _ => ⟨_, rfl, rfl⟩)
  have F44 := fun_mk (st := s_lift_course) l44 c44 k44
  have B44 := F44.binds (ps := ["book", "group"]) fun _ _ _ _ _ _ us hl => match us, hl with | [_, _], _ => rfl
  have F45 := fun_mk (st := s_settle_course) l45 c45 k45
  have B45 := F45.binds (ps := ["group"]) fun _ _ _ _ _ _ us hl => match us, hl with | [_], _ => rfl
  have F46 := fun_mk (st := s_plan) l46 c46 k46
  have B46 := F46.binds (ps := ["course", "tree"]) fun _ _ _ _ _ _ us hl => match us, hl with | [_, _], _ => rfl
  have F47 := fun_mk (st := s_take_plan) l47 c47 k47
  have B47 := F47.binds (ps := ["book", "tree", "group"]) fun _ _ _ _ _ _ us hl => match us, hl with | [_, _, _], _ => rfl
  have F48 := fun_mk (st := s_give_plan) l48 c48 k48
  have B48 := F48.binds (ps := ["book", "tree", "home"]) fun _ _ _ _ _ _ us hl => match us, hl with | [_, _, _], _ => rfl
  have F49 := fun_mk (st := s_move_plan) l49 c49 k49
  have B49 := F49.binds (ps := ["book", "tree", "home", "target"]) fun _ _ _ _ _ _ us hl => match us, hl with | [_, _, _, _], _ => rfl
  have F50 := fun_mk (st := s_lift_plan) l50 c50 k50
  have B50 := F50.binds (ps := ["book", "tree", "home"]) fun _ _ _ _ _ _ us hl => match us, hl with | [_, _, _], _ => rfl
  have F51 := fun_mk (st := s_settle_plan) l51 c51 k51
  have B51 := F51.binds (ps := ["tree", "group"]) fun _ _ _ _ _ _ us hl => match us, hl with | [_, _], _ => rfl
  have F52 := fun_mk (st := s_Lpot) l52 c52 k52
  have B52 := F52.binds (ps := ["_law_script", "_law_k"]) fun _ _ _ _ _ _ us hl => match us, hl with | [_, _], _ => rfl
  have F53 := fun_mk (st := s_Ldraw) l53 c53 k53
  have B53 := F53.binds (ps := ["_law_pot_here", "_law_sides"]) fun _ _ _ _ _ _ us hl => match us, hl with | [_, _], _ => rfl
  have F54 := fun_mk (st := s_Lpick) l54 c54 k54
  have B54 := F54.binds (ps := ["_law_pot_here", "_law_some"]) fun _ _ _ _ _ _ us hl => match us, hl with | [_, _], _ => rfl
  have F55 := fun_mk (st := s_Lsequences) l55 c55 k55
  have B55 := F55.binds (ps := ["_law_words"]) fun _ _ _ _ _ _ us hl => match us, hl with | [_], _ => rfl
  have F56 := fun_mk (st := s_Lis_ahead) l56 c56 k56
  have B56 := F56.binds (ps := ["_law_some", "_law_word", "_law_later"]) fun _ _ _ _ _ _ us hl => match us, hl with | [_, _, _], _ => rfl
  have F57 := fun_mk (st := s_Lis_take) l57 c57 k57
  have B57 := F57.binds (ps := ["_law_some", "_law_amount"]) fun _ _ _ _ _ _ us hl => match us, hl with | [_, _], _ => rfl
  have F58 := fun_mk (st := s_Lis_give) l58 c58 k58
  have B58 := F58.binds (ps := ["_law_some"]) fun _ _ _ _ _ _ us hl => match us, hl with | [_], _ => rfl
  have F59 := fun_mk (st := s_Lis_move) l59 c59 k59
  have B59 := F59.binds (ps := ["_law_some", "_law_is_shared"]) fun _ _ _ _ _ _ us hl => match us, hl with | [_, _], _ => rfl
  have F60 := fun_mk (st := s_Ltakes) l60 c60 k60
  have B60 := F60.binds (ps := ["_law_amount"]) fun _ _ _ _ _ _ us hl => match us, hl with | [_], _ => rfl
  have F61 := fun_mk (st := s_Lgives) l61 c61 k61
  have B61 := F61.binds (ps := []) fun _ _ _ _ _ _ us hl => match us, hl with | [], _ => rfl
  have F62 := fun_mk (st := s_Lmoves) l62 c62 k62
  have B62 := F62.binds (ps := ["_law_is_shared"]) fun _ _ _ _ _ _ us hl => match us, hl with | [_], _ => rfl
  have F63 := fun_mk (st := s_Llifts) l63 c63 k63
  have B63 := F63.binds (ps := []) fun _ _ _ _ _ _ us hl => match us, hl with | [], _ => rfl
  have F64 := fun_mk (st := s_Lany) l64 c64 k64
  have B64 := F64.binds (ps := ["_law_pot_here"]) fun _ _ _ _ _ _ us hl => match us, hl with | [_], _ => rfl
  have F65 := fun_mk (st := s_Lbook) l65 c65 k65
  have B65 := F65.binds (ps := ["_law_rules"]) fun _ _ _ _ _ _ us hl => match us, hl with | [_], _ => rfl
  have F66 := fun_mk (st := s_Lwords_shown) l66 c66 k66
  have B66 := F66.binds (ps := ["_law_some"]) fun _ _ _ _ _ _ us hl => match us, hl with | [_], _ => rfl
  have F67 := fun_mk (st := s_Lshown) l67 c67 k67
  have B67 := F67.binds (ps := ["_law_rules"]) fun _ _ _ _ _ _ us hl => match us, hl with | [_], _ => rfl
  have F68 := fun_mk (st := s_Lplain) l68 c68 k68
  have B68 := F68.binds (ps := []) fun _ _ _ _ _ _ us hl => match us, hl with | [], _ => rfl
  have F69 := fun_mk (st := s_Lis_refused) l69 c69 k69
  have B69 := F69.binds (ps := ["_law_call"]) fun _ _ _ _ _ _ us hl => match us, hl with | [_], _ => rfl
  have tb70 := tabIn_mk (x := "_law_asked") a70 l70 rfl tl70 tv70
  have F70 := fun_mk (st := s_Lasked) l70 c70 k70
  have B70 := F70.binds (ps := ["_law_made"]) fun _ _ _ _ _ _ us hl => match us, hl with | [_], _ => rfl
  have F71 := fun_mk (st := s_Lright) l71 c71 k71
  have B71 := F71.binds (ps := ["_law_pot_here"]) fun _ _ _ _ _ _ us hl => match us, hl with | [_], _ => rfl
  have F72 := fun_mk (st := s_law) l72 c72 k72
  have B72 := F72.binds (ps := ["_law_script"]) fun _ _ _ _ _ _ us hl => match us, hl with | [_], _ => rfl
  obtain ⟨xp1_1, xp2_1, xp3_1, xq1_1, xq2_1, xq3_1, xq4_1, xs1_1, xs2_1, xs3_1, xs4_1, xr1_1, xr2_1, xr3_1⟩ := sh_InvalidRow
  rw [xr1_1, xr2_1, xr3_1] at xl1
  obtain ⟨xp1_2, xp2_2, xq1_2, xq2_2, xq3_2, xq4_2, xr1_2, xr2_2, xr3_2⟩ := sh_InvalidHolds
  rw [xr1_2, xr2_2, xr3_2] at xl2
  let T : Txt K mg w := {
    C := C,
    c_Book := ⟨pg, hd, po, sa⟩,
    m_Book := PySem.W.mg_of X G aC,
    n_parts := n_parts,
    x_class := x_class,
    x_get := x_get,
    x_tk := x_tk,
    x_mro := x_mro,
    x_ne := x_ne,
    x_cls := x_cls,
    x_ty := x_ty,
    C_Tree := C_Tree,
    c_Tree := ⟨pg_Tree, hd_Tree, po_Tree, sa_Tree⟩,
    m_Tree := PySem.W.mg_of X G aC_Tree,
    n_above := n_above,
    n_struck := n_struck,
    x_class_Tree := x_class_Tree,
    x_get_Tree := x_get_Tree,
    x_tk_Tree := x_tk_Tree,
    x_mro_Tree := x_mro_Tree,
    x_ne_Tree := x_ne_Tree,
    x_cls_Tree := x_cls_Tree,
    x_ty_Tree := x_ty_Tree,
    C_Course := C_Course,
    c_Course := ⟨pg_Course, hd_Course, po_Course, sa_Course⟩,
    m_Course := PySem.W.mg_of X G aC_Course,
    nkind := nkind,
    nwords := nwords,
    ngroup := ngroup,
    nold := nold,
    nleaves_out := nleaves_out,
    f_is_an_integer := f1,
    fd_is_an_integer := PySem.W.fnOf "is_an_integer" "is_an_integer" (defArgs s_is_an_integer) (defBody s_is_an_integer) (defScope s_is_an_integer) .none kV1 dc1 pm1 an1 cd1 ct1,
    F_is_an_integer := F1,
    b_is_an_integer := B1,
    m_is_an_integer := PySem.W.mg_of X G a1,
    f_is_list := f2,
    fd_is_list := PySem.W.fnOf "is_list" "is_list" (defArgs s_is_list) (defBody s_is_list) (defScope s_is_list) .none kV2 dc2 pm2 an2 cd2 ct2,
    F_is_list := F2,
    b_is_list := B2,
    m_is_list := PySem.W.mg_of X G a2,
    f_check_group := f3,
    fd_check_group := PySem.W.fnOf "check_group" "check_group" (defArgs s_check_group) (defBody s_check_group) (defScope s_check_group) .none kV3 dc3 pm3 an3 cd3 ct3,
    F_check_group := F3,
    b_check_group := B3,
    m_check_group := PySem.W.mg_of X G a3,
    f_check_parents := f4,
    fd_check_parents := PySem.W.fnOf "check_parents" "check_parents" (defArgs s_check_parents) (defBody s_check_parents) (defScope s_check_parents) .none kV4 dc4 pm4 an4 cd4 ct4,
    F_check_parents := F4,
    b_check_parents := B4,
    m_check_parents := PySem.W.mg_of X G a4,
    f_check_struck := f5,
    fd_check_struck := PySem.W.fnOf "check_struck" "check_struck" (defArgs s_check_struck) (defBody s_check_struck) (defScope s_check_struck) .none kV5 dc5 pm5 an5 cd5 ct5,
    F_check_struck := F5,
    b_check_struck := B5,
    m_check_struck := PySem.W.mg_of X G a5,
    f_Tinit := f6,
    fd_Tinit := PySem.W.fnOf "__init__" "Tree.__init__" (defArgs s_Tinit) (defBody s_Tinit) (defScope s_Tinit) (.ref T6) kV6 dc6 pm6 an6 cd6 ct6,
    d0_Tinit := d6_0,
    e0_Tinit := fun H => .inr ⟨_, #[], _, u6_0, rfl, rfl, by decide, .nil⟩,
    y0_Tinit := fun H => .kTuple u6_0 rfl,
    d1_Tinit := d6_1,
    e1_Tinit := fun H => .inr ⟨_, #[], _, u6_1, rfl, rfl, by decide, .nil⟩,
    y1_Tinit := fun H => .kTuple u6_1 rfl,
    F_Tinit := D6,
    w0_Tinit := w6_0,
    v0_Tinit := v6_0,
    b0_Tinit := b6_0,
    w1_Tinit := w6_1,
    v1_Tinit := v6_1,
    b1_Tinit := b6_1,
    w2_Tinit := w6_2,
    v2_Tinit := v6_2,
    b2_Tinit := b6_2,
    mk_Tree := ⟨mk_Tree, a6, i6, kc_Tree⟩,
    f_Tlen := f7,
    fd_Tlen := PySem.W.fnOf "__len__" "Tree.__len__" (defArgs s_Tlen) (defBody s_Tlen) (defScope s_Tlen) .none kV7 dc7 pm7 an7 cd7 ct7,
    F_Tlen := F7,
    b_Tlen := B7,
    M_Tlen := ⟨a7, i7, k7⟩,
    f_Tway := f8,
    fd_Tway := PySem.W.fnOf "way" "Tree.way" (defArgs s_Tway) (defBody s_Tway) (defScope s_Tway) .none kV8 dc8 pm8 an8 cd8 ct8,
    F_Tway := F8,
    b_Tway := B8,
    M_Tway := ⟨a8, i8, k8⟩,
    f_Tapart := f9,
    fd_Tapart := PySem.W.fnOf "apart" "Tree.apart" (defArgs s_Tapart) (defBody s_Tapart) (defScope s_Tapart) .none kV9 dc9 pm9 an9 cd9 ct9,
    F_Tapart := F9,
    b_Tapart := B9,
    M_Tapart := ⟨a9, i9, k9⟩,
    f_is_word := f10,
    fd_is_word := PySem.W.fnOf "is_word" "is_word" (defArgs s_is_word) (defBody s_is_word) (defScope s_is_word) .none kV10 dc10 pm10 an10 cd10 ct10,
    F_is_word := F10,
    b_is_word := B10,
    m_is_word := PySem.W.mg_of X G a10,
    f_are_different_words := f11,
    fd_are_different_words := PySem.W.fnOf "are_different_words" "are_different_words" (defArgs s_are_different_words) (defBody s_are_different_words) (defScope s_are_different_words) .none kV11 dc11 pm11 an11 cd11 ct11,
    F_are_different_words := F11,
    b_are_different_words := B11,
    m_are_different_words := PySem.W.mg_of X G a11,
    f_has_words_of := f12,
    fd_has_words_of := PySem.W.fnOf "has_words_of" "has_words_of" (defArgs s_has_words_of) (defBody s_has_words_of) (defScope s_has_words_of) .none kV12 dc12 pm12 an12 cd12 ct12,
    F_has_words_of := F12,
    b_has_words_of := B12,
    m_has_words_of := PySem.W.mg_of X G a12,
    f_tests_are_ahead := f13,
    fd_tests_are_ahead := PySem.W.fnOf "tests_are_ahead" "tests_are_ahead" (defArgs s_tests_are_ahead) (defBody s_tests_are_ahead) (defScope s_tests_are_ahead) .none kV13 dc13 pm13 an13 cd13 ct13,
    F_tests_are_ahead := F13,
    b_tests_are_ahead := B13,
    m_tests_are_ahead := PySem.W.mg_of X G a13,
    f_off_has_home := f14,
    fd_off_has_home := PySem.W.fnOf "off_has_home" "off_has_home" (defArgs s_off_has_home) (defBody s_off_has_home) (defScope s_off_has_home) .none kV14 dc14 pm14 an14 cd14 ct14,
    F_off_has_home := F14,
    b_off_has_home := B14,
    m_off_has_home := PySem.W.mg_of X G a14,
    f_is_take_row := f15,
    fd_is_take_row := PySem.W.fnOf "is_take_row" "is_take_row" (defArgs s_is_take_row) (defBody s_is_take_row) (defScope s_is_take_row) .none kV15 dc15 pm15 an15 cd15 ct15,
    F_is_take_row := F15,
    b_is_take_row := B15,
    m_is_take_row := PySem.W.mg_of X G a15,
    f_is_give_row := f16,
    fd_is_give_row := PySem.W.fnOf "is_give_row" "is_give_row" (defArgs s_is_give_row) (defBody s_is_give_row) (defScope s_is_give_row) .none kV16 dc16 pm16 an16 cd16 ct16,
    F_is_give_row := F16,
    b_is_give_row := B16,
    m_is_give_row := PySem.W.mg_of X G a16,
    f_is_move_row := f17,
    fd_is_move_row := PySem.W.fnOf "is_move_row" "is_move_row" (defArgs s_is_move_row) (defBody s_is_move_row) (defScope s_is_move_row) .none kV17 dc17 pm17 an17 cd17 ct17,
    F_is_move_row := F17,
    b_is_move_row := B17,
    m_is_move_row := PySem.W.mg_of X G a17,
    f_is_lift_row := f18,
    fd_is_lift_row := PySem.W.fnOf "is_lift_row" "is_lift_row" (defArgs s_is_lift_row) (defBody s_is_lift_row) (defScope s_is_lift_row) .none kV18 dc18 pm18 an18 cd18 ct18,
    F_is_lift_row := F18,
    b_is_lift_row := B18,
    m_is_lift_row := PySem.W.mg_of X G a18,
    f_is_row := f19,
    fd_is_row := PySem.W.fnOf "is_row" "is_row" (defArgs s_is_row) (defBody s_is_row) (defScope s_is_row) .none kV19 dc19 pm19 an19 cd19 ct19,
    F_is_row := F19,
    b_is_row := B19,
    m_is_row := PySem.W.mg_of X G a19,
    f_fits_batch := f20,
    fd_fits_batch := PySem.W.fnOf "fits_batch" "fits_batch" (defArgs s_fits_batch) (defBody s_fits_batch) (defScope s_fits_batch) .none kV20 dc20 pm20 an20 cd20 ct20,
    F_fits_batch := F20,
    b_fits_batch := B20,
    m_fits_batch := PySem.W.mg_of X G a20,
    f_fits_shared := f21,
    fd_fits_shared := PySem.W.fnOf "fits_shared" "fits_shared" (defArgs s_fits_shared) (defBody s_fits_shared) (defScope s_fits_shared) .none kV21 dc21 pm21 an21 cd21 ct21,
    F_fits_shared := F21,
    b_fits_shared := B21,
    m_fits_shared := PySem.W.mg_of X G a21,
    f_check_rows := f22,
    fd_check_rows := PySem.W.fnOf "check_rows" "check_rows" (defArgs s_check_rows) (defBody s_check_rows) (defScope s_check_rows) .none kV22 dc22 pm22 an22 cd22 ct22,
    F_check_rows := F22,
    b_check_rows := B22,
    m_check_rows := PySem.W.mg_of X G a22,
    f_check_fails := f23,
    fd_check_fails := PySem.W.fnOf "check_fails" "check_fails" (defArgs s_check_fails) (defBody s_check_fails) (defScope s_check_fails) .none kV23 dc23 pm23 an23 cd23 ct23,
    F_check_fails := F23,
    b_check_fails := B23,
    m_check_fails := PySem.W.mg_of X G a23,
    f_check_bool := f24,
    fd_check_bool := PySem.W.fnOf "check_bool" "check_bool" (defArgs s_check_bool) (defBody s_check_bool) (defScope s_check_bool) .none kV24 dc24 pm24 an24 cd24 ct24,
    F_check_bool := F24,
    b_check_bool := B24,
    m_check_bool := PySem.W.mg_of X G a24,
    f_check_holds := f25,
    fd_check_holds := PySem.W.fnOf "check_holds" "check_holds" (defArgs s_check_holds) (defBody s_check_holds) (defScope s_check_holds) .none kV25 dc25 pm25 an25 cd25 ct25,
    F_check_holds := F25,
    b_check_holds := B25,
    m_check_holds := PySem.W.mg_of X G a25,
    f_check_batch := f26,
    fd_check_batch := PySem.W.fnOf "check_batch" "check_batch" (defArgs s_check_batch) (defBody s_check_batch) (defScope s_check_batch) .none kV26 dc26 pm26 an26 cd26 ct26,
    F_check_batch := F26,
    b_check_batch := B26,
    m_check_batch := PySem.W.mg_of X G a26,
    f_check_row_kind := f27,
    fd_check_row_kind := PySem.W.fnOf "check_row_kind" "check_row_kind" (defArgs s_check_row_kind) (defBody s_check_row_kind) (defScope s_check_row_kind) .none kV27 dc27 pm27 an27 cd27 ct27,
    F_check_row_kind := F27,
    b_check_row_kind := B27,
    m_check_row_kind := PySem.W.mg_of X G a27,
    f_Binit := f28,
    fd_Binit := PySem.W.fnOf "__init__" "Book.__init__" (defArgs s_Binit) (defBody s_Binit) (defScope s_Binit) .none (.ref KD28) dc28 pm28 an28 cd28 ct28,
    F_Binit := F28,
    kd_take := kd_take,
    ks_take := fun H => .inr ⟨_, _, _, h_kd_take, rfl, rfl, (by show 2 ≤ sizeLine; decide), .cons ⟨_, rfl⟩ (.cons ⟨_, rfl⟩ (.nil))⟩,
    ky_take := fun H => .kTuple h_kd_take rfl,
    kt_take := ⟨_, h_kd_take, rfl, rfl⟩,
    kd_give := kd_give,
    ks_give := fun H => .inr ⟨_, _, _, h_kd_give, rfl, rfl, (by show 3 ≤ sizeLine; decide), .cons ⟨_, rfl⟩ (.cons ⟨_, rfl⟩ (.cons ⟨_, rfl⟩ (.nil)))⟩,
    ky_give := fun H => .kTuple h_kd_give rfl,
    kt_give := ⟨_, h_kd_give, rfl, rfl⟩,
    kd_move := kd_move,
    ks_move := fun H => .inr ⟨_, _, _, h_kd_move, rfl, rfl, (by show 4 ≤ sizeLine; decide), .cons ⟨_, rfl⟩ (.cons ⟨_, rfl⟩ (.cons ⟨_, rfl⟩ (.cons ⟨_, rfl⟩ (.nil))))⟩,
    ky_move := fun H => .kTuple h_kd_move rfl,
    kt_move := ⟨_, h_kd_move, rfl, rfl⟩,
    kd_lift := kd_lift,
    ks_lift := fun H => .inr ⟨_, _, _, h_kd_lift, rfl, rfl, (by show 1 ≤ sizeLine; decide), .cons ⟨_, rfl⟩ (.nil)⟩,
    ky_lift := fun H => .kTuple h_kd_lift rfl,
    kt_lift := ⟨_, h_kd_lift, rfl, rfl⟩,
    kd_holds := kd_holds,
    ks_holds := fun H => .inr ⟨_, _, _, h_kd_holds, rfl, rfl, (by show 4 ≤ sizeLine; decide), .cons ⟨_, rfl⟩ (.cons ⟨_, rfl⟩ (.cons ⟨_, rfl⟩ (.cons ⟨_, rfl⟩ (.nil))))⟩,
    ky_holds := fun H => .kTuple h_kd_holds rfl,
    kt_holds := ⟨_, h_kd_holds, rfl, rfl⟩,
    w0_Binit := w0_28,
    v0_Binit := v0_28,
    b0_Binit := b0_28,
    mk_Book := ⟨mk, a28, i28, kc⟩,
    k_Binit := ⟨fun s us ws _ l1 l2 => match us, l1, ws, l2 with | [_], _, [_, _, _, _, _, _, _, _, _], _ => .of_eq rfl, fun r1 r2 => r1.append r2⟩,
    f_Brepr := f29,
    fd_Brepr := PySem.W.fnOf "__repr__" "Book.__repr__" (defArgs s_Brepr) (defBody s_Brepr) (defScope s_Brepr) .none kV29 dc29 pm29 an29 cd29 ct29,
    F_Brepr := F29,
    b_Brepr := B29,
    M_Brepr := ⟨a29, i29, k29⟩,
    f_Bfails := f30,
    fd_Bfails := PySem.W.fnOf "fails" "Book.fails" (defArgs s_Bfails) (defBody s_Bfails) (defScope s_Bfails) .none kV30 dc30 pm30 an30 cd30 ct30,
    F_Bfails := F30,
    b_Bfails := B30,
    p_Bfails := pr30,
    P_Bfails := ⟨a30, pA30, pB30, _, pC30⟩,
    f_Bshared := f31,
    fd_Bshared := PySem.W.fnOf "shared" "Book.shared" (defArgs s_Bshared) (defBody s_Bshared) (defScope s_Bshared) .none kV31 dc31 pm31 an31 cd31 ct31,
    F_Bshared := F31,
    b_Bshared := B31,
    p_Bshared := pr31,
    P_Bshared := ⟨a31, pA31, pB31, _, pC31⟩,
    f_Bholds := f32,
    fd_Bholds := PySem.W.fnOf "holds" "Book.holds" (defArgs s_Bholds) (defBody s_Bholds) (defScope s_Bholds) .none kV32 dc32 pm32 an32 cd32 ct32,
    F_Bholds := F32,
    b_Bholds := B32,
    p_Bholds := pr32,
    P_Bholds := ⟨a32, pA32, pB32, _, pC32⟩,
    f_Bbatch := f33,
    fd_Bbatch := PySem.W.fnOf "batch" "Book.batch" (defArgs s_Bbatch) (defBody s_Bbatch) (defScope s_Bbatch) .none kV33 dc33 pm33 an33 cd33 ct33,
    F_Bbatch := F33,
    b_Bbatch := B33,
    p_Bbatch := pr33,
    P_Bbatch := ⟨a33, pA33, pB33, _, pC33⟩,
    f_Bsettles := f34,
    fd_Bsettles := PySem.W.fnOf "settles" "Book.settles" (defArgs s_Bsettles) (defBody s_Bsettles) (defScope s_Bsettles) .none kV34 dc34 pm34 an34 cd34 ct34,
    F_Bsettles := F34,
    b_Bsettles := B34,
    p_Bsettles := pr34,
    P_Bsettles := ⟨a34, pA34, pB34, _, pC34⟩,
    f_Brow := f35,
    fd_Brow := PySem.W.fnOf "row" "Book.row" (defArgs s_Brow) (defBody s_Brow) (defScope s_Brow) .none kV35 dc35 pm35 an35 cd35 ct35,
    F_Brow := F35,
    b_Brow := B35,
    M_Brow := ⟨a35, i35, k35⟩,
    f_Bwith_row := f36,
    fd_Bwith_row := PySem.W.fnOf "with_row" "Book.with_row" (defArgs s_Bwith_row) (defBody s_Bwith_row) (defScope s_Bwith_row) .none kV36 dc36 pm36 an36 cd36 ct36,
    F_Bwith_row := F36,
    b_Bwith_row := B36,
    M_Bwith_row := ⟨a36, i36, k36⟩,
    f_Bwith_holds := f37,
    fd_Bwith_holds := PySem.W.fnOf "with_holds" "Book.with_holds" (defArgs s_Bwith_holds) (defBody s_Bwith_holds) (defScope s_Bwith_holds) .none kV37 dc37 pm37 an37 cd37 ct37,
    F_Bwith_holds := F37,
    b_Bwith_holds := B37,
    M_Bwith_holds := ⟨a37, i37, k37⟩,
    f_Cinit := f38,
    fd_Cinit := PySem.W.fnOf "__init__" "Course.__init__" (defArgs s_Cinit) (defBody s_Cinit) (defScope s_Cinit) (.ref T38) kV38 dc38 pm38 an38 cd38 ct38,
    F_Cinit := D38,
    w0_Cinit := w38_0,
    v0_Cinit := v38_0,
    b0_Cinit := b38_0,
    w1_Cinit := w38_1,
    v1_Cinit := v38_1,
    b1_Cinit := b38_1,
    w2_Cinit := w38_2,
    v2_Cinit := v38_2,
    b2_Cinit := b38_2,
    w3_Cinit := w38_3,
    v3_Cinit := v38_3,
    b3_Cinit := b38_3,
    mk_Course := ⟨mk_Course, a38, i38, kc_Course⟩,
    f_Cgroups := f39,
    fd_Cgroups := PySem.W.fnOf "groups" "Course.groups" (defArgs s_Cgroups) (defBody s_Cgroups) (defScope s_Cgroups) .none kV39 dc39 pm39 an39 cd39 ct39,
    F_Cgroups := F39,
    b_Cgroups := B39,
    M_Cgroups := ⟨a39, i39, k39⟩,
    f_Csingle_deeds := f40,
    fd_Csingle_deeds := PySem.W.fnOf "single_deeds" "Course.single_deeds" (defArgs s_Csingle_deeds) (defBody s_Csingle_deeds) (defScope s_Csingle_deeds) .none kV40 dc40 pm40 an40 cd40 ct40,
    F_Csingle_deeds := F40,
    b_Csingle_deeds := B40,
    M_Csingle_deeds := ⟨a40, i40, k40⟩,
    f_take_course := f41,
    fd_take_course := PySem.W.fnOf "take_course" "take_course" (defArgs s_take_course) (defBody s_take_course) (defScope s_take_course) .none kV41 dc41 pm41 an41 cd41 ct41,
    F_take_course := F41,
    b_take_course := B41,
    m_take_course := PySem.W.mg_of X G a41,
    f_give_course := f42,
    fd_give_course := PySem.W.fnOf "give_course" "give_course" (defArgs s_give_course) (defBody s_give_course) (defScope s_give_course) (.ref T42) kV42 dc42 pm42 an42 cd42 ct42,
    F_give_course := D42,
    w0_give_course := w42_0,
    v0_give_course := v42_0,
    b0_give_course := b42_0,
    w1_give_course := w42_1,
    v1_give_course := v42_1,
    b1_give_course := b42_1,
    m_give_course := PySem.W.mg_of X G a42,
    f_move_course := f43,
    fd_move_course := PySem.W.fnOf "move_course" "move_course" (defArgs s_move_course) (defBody s_move_course) (defScope s_move_course) (.ref T43) kV43 dc43 pm43 an43 cd43 ct43,
    F_move_course := D43,
    w0_move_course := w43_0,
    v0_move_course := v43_0,
    b0_move_course := b43_0,
    w1_move_course := w43_1,
    v1_move_course := v43_1,
    b1_move_course := b43_1,
    m_move_course := PySem.W.mg_of X G a43,
    f_lift_course := f44,
    fd_lift_course := PySem.W.fnOf "lift_course" "lift_course" (defArgs s_lift_course) (defBody s_lift_course) (defScope s_lift_course) .none kV44 dc44 pm44 an44 cd44 ct44,
    F_lift_course := F44,
    b_lift_course := B44,
    m_lift_course := PySem.W.mg_of X G a44,
    f_settle_course := f45,
    fd_settle_course := PySem.W.fnOf "settle_course" "settle_course" (defArgs s_settle_course) (defBody s_settle_course) (defScope s_settle_course) .none kV45 dc45 pm45 an45 cd45 ct45,
    F_settle_course := F45,
    b_settle_course := B45,
    m_settle_course := PySem.W.mg_of X G a45,
    f_plan := f46,
    fd_plan := PySem.W.fnOf "plan" "plan" (defArgs s_plan) (defBody s_plan) (defScope s_plan) .none kV46 dc46 pm46 an46 cd46 ct46,
    F_plan := F46,
    b_plan := B46,
    m_plan := PySem.W.mg_of X G a46,
    f_take_plan := f47,
    fd_take_plan := PySem.W.fnOf "take_plan" "take_plan" (defArgs s_take_plan) (defBody s_take_plan) (defScope s_take_plan) .none kV47 dc47 pm47 an47 cd47 ct47,
    F_take_plan := F47,
    b_take_plan := B47,
    m_take_plan := PySem.W.mg_of X G a47,
    f_give_plan := f48,
    fd_give_plan := PySem.W.fnOf "give_plan" "give_plan" (defArgs s_give_plan) (defBody s_give_plan) (defScope s_give_plan) .none kV48 dc48 pm48 an48 cd48 ct48,
    F_give_plan := F48,
    b_give_plan := B48,
    m_give_plan := PySem.W.mg_of X G a48,
    f_move_plan := f49,
    fd_move_plan := PySem.W.fnOf "move_plan" "move_plan" (defArgs s_move_plan) (defBody s_move_plan) (defScope s_move_plan) .none kV49 dc49 pm49 an49 cd49 ct49,
    F_move_plan := F49,
    b_move_plan := B49,
    m_move_plan := PySem.W.mg_of X G a49,
    f_lift_plan := f50,
    fd_lift_plan := PySem.W.fnOf "lift_plan" "lift_plan" (defArgs s_lift_plan) (defBody s_lift_plan) (defScope s_lift_plan) .none kV50 dc50 pm50 an50 cd50 ct50,
    F_lift_plan := F50,
    b_lift_plan := B50,
    m_lift_plan := PySem.W.mg_of X G a50,
    f_settle_plan := f51,
    fd_settle_plan := PySem.W.fnOf "settle_plan" "settle_plan" (defArgs s_settle_plan) (defBody s_settle_plan) (defScope s_settle_plan) .none kV51 dc51 pm51 an51 cd51 ct51,
    F_settle_plan := F51,
    b_settle_plan := B51,
    m_settle_plan := PySem.W.mg_of X G a51,
    f_Lpot := f52,
    fd_Lpot := PySem.W.fnOf "_law_pot" "_law_pot" (defArgs s_Lpot) (defBody s_Lpot) (defScope s_Lpot) .none kV52 dc52 pm52 an52 cd52 ct52,
    F_Lpot := F52,
    b_Lpot := B52,
    m_Lpot := PySem.W.mg_of X G a52,
    f_Ldraw := f53,
    fd_Ldraw := PySem.W.fnOf "_law_draw" "_law_draw" (defArgs s_Ldraw) (defBody s_Ldraw) (defScope s_Ldraw) .none kV53 dc53 pm53 an53 cd53 ct53,
    F_Ldraw := F53,
    b_Ldraw := B53,
    m_Ldraw := PySem.W.mg_of X G a53,
    f_Lpick := f54,
    fd_Lpick := PySem.W.fnOf "_law_pick" "_law_pick" (defArgs s_Lpick) (defBody s_Lpick) (defScope s_Lpick) .none kV54 dc54 pm54 an54 cd54 ct54,
    F_Lpick := F54,
    b_Lpick := B54,
    m_Lpick := PySem.W.mg_of X G a54,
    f_Lsequences := f55,
    fd_Lsequences := PySem.W.fnOf "_law_sequences" "_law_sequences" (defArgs s_Lsequences) (defBody s_Lsequences) (defScope s_Lsequences) .none kV55 dc55 pm55 an55 cd55 ct55,
    F_Lsequences := F55,
    b_Lsequences := B55,
    m_Lsequences := PySem.W.mg_of X G a55,
    f_Lis_ahead := f56,
    fd_Lis_ahead := PySem.W.fnOf "_law_is_ahead" "_law_is_ahead" (defArgs s_Lis_ahead) (defBody s_Lis_ahead) (defScope s_Lis_ahead) .none kV56 dc56 pm56 an56 cd56 ct56,
    F_Lis_ahead := F56,
    b_Lis_ahead := B56,
    m_Lis_ahead := PySem.W.mg_of X G a56,
    f_Lis_take := f57,
    fd_Lis_take := PySem.W.fnOf "_law_is_take" "_law_is_take" (defArgs s_Lis_take) (defBody s_Lis_take) (defScope s_Lis_take) .none kV57 dc57 pm57 an57 cd57 ct57,
    F_Lis_take := F57,
    b_Lis_take := B57,
    m_Lis_take := PySem.W.mg_of X G a57,
    f_Lis_give := f58,
    fd_Lis_give := PySem.W.fnOf "_law_is_give" "_law_is_give" (defArgs s_Lis_give) (defBody s_Lis_give) (defScope s_Lis_give) .none kV58 dc58 pm58 an58 cd58 ct58,
    F_Lis_give := F58,
    b_Lis_give := B58,
    m_Lis_give := PySem.W.mg_of X G a58,
    f_Lis_move := f59,
    fd_Lis_move := PySem.W.fnOf "_law_is_move" "_law_is_move" (defArgs s_Lis_move) (defBody s_Lis_move) (defScope s_Lis_move) .none kV59 dc59 pm59 an59 cd59 ct59,
    F_Lis_move := F59,
    b_Lis_move := B59,
    m_Lis_move := PySem.W.mg_of X G a59,
    f_Ltakes := f60,
    fd_Ltakes := PySem.W.fnOf "_law_takes" "_law_takes" (defArgs s_Ltakes) (defBody s_Ltakes) (defScope s_Ltakes) .none kV60 dc60 pm60 an60 cd60 ct60,
    F_Ltakes := F60,
    b_Ltakes := B60,
    m_Ltakes := PySem.W.mg_of X G a60,
    f_Lgives := f61,
    fd_Lgives := PySem.W.fnOf "_law_gives" "_law_gives" (defArgs s_Lgives) (defBody s_Lgives) (defScope s_Lgives) .none kV61 dc61 pm61 an61 cd61 ct61,
    F_Lgives := F61,
    b_Lgives := B61,
    m_Lgives := PySem.W.mg_of X G a61,
    f_Lmoves := f62,
    fd_Lmoves := PySem.W.fnOf "_law_moves" "_law_moves" (defArgs s_Lmoves) (defBody s_Lmoves) (defScope s_Lmoves) .none kV62 dc62 pm62 an62 cd62 ct62,
    F_Lmoves := F62,
    b_Lmoves := B62,
    m_Lmoves := PySem.W.mg_of X G a62,
    f_Llifts := f63,
    fd_Llifts := PySem.W.fnOf "_law_lifts" "_law_lifts" (defArgs s_Llifts) (defBody s_Llifts) (defScope s_Llifts) .none kV63 dc63 pm63 an63 cd63 ct63,
    F_Llifts := F63,
    b_Llifts := B63,
    m_Llifts := PySem.W.mg_of X G a63,
    f_Lany := f64,
    fd_Lany := PySem.W.fnOf "_law_any" "_law_any" (defArgs s_Lany) (defBody s_Lany) (defScope s_Lany) .none kV64 dc64 pm64 an64 cd64 ct64,
    F_Lany := F64,
    b_Lany := B64,
    m_Lany := PySem.W.mg_of X G a64,
    f_Lbook := f65,
    fd_Lbook := PySem.W.fnOf "_law_book" "_law_book" (defArgs s_Lbook) (defBody s_Lbook) (defScope s_Lbook) .none kV65 dc65 pm65 an65 cd65 ct65,
    F_Lbook := F65,
    b_Lbook := B65,
    m_Lbook := PySem.W.mg_of X G a65,
    f_Lwords_shown := f66,
    fd_Lwords_shown := PySem.W.fnOf "_law_words_shown" "_law_words_shown" (defArgs s_Lwords_shown) (defBody s_Lwords_shown) (defScope s_Lwords_shown) .none kV66 dc66 pm66 an66 cd66 ct66,
    F_Lwords_shown := F66,
    b_Lwords_shown := B66,
    m_Lwords_shown := PySem.W.mg_of X G a66,
    f_Lshown := f67,
    fd_Lshown := PySem.W.fnOf "_law_shown" "_law_shown" (defArgs s_Lshown) (defBody s_Lshown) (defScope s_Lshown) .none kV67 dc67 pm67 an67 cd67 ct67,
    F_Lshown := F67,
    b_Lshown := B67,
    m_Lshown := PySem.W.mg_of X G a67,
    f_Lplain := f68,
    fd_Lplain := PySem.W.fnOf "_law_plain" "_law_plain" (defArgs s_Lplain) (defBody s_Lplain) (defScope s_Lplain) .none kV68 dc68 pm68 an68 cd68 ct68,
    F_Lplain := F68,
    b_Lplain := B68,
    m_Lplain := PySem.W.mg_of X G a68,
    f_Lis_refused := f69,
    fd_Lis_refused := PySem.W.fnOf "_law_is_refused" "_law_is_refused" (defArgs s_Lis_refused) (defBody s_Lis_refused) (defScope s_Lis_refused) .none kV69 dc69 pm69 an69 cd69 ct69,
    F_Lis_refused := F69,
    b_Lis_refused := B69,
    m_Lis_refused := PySem.W.mg_of X G a69,
    c_Lasked := cc70,
    p_Lasked := pp70,
    FT_Lasked := ⟨⟨_, _, _, _, _, _, _, _, rfl, l70, c70⟩⟩,
    f_Lasked := f70,
    fd_Lasked := PySem.W.fnOf "_law_asked" "_law_asked" (defArgs s_Lasked) (defBody s_Lasked) (defScope s_Lasked) .none kV70 dc70 pm70 an70 (.ref cc70) ct70,
    F_Lasked := F70,
    b_Lasked := B70,
    m_Lasked := PySem.W.mg_of X G a70,
    f_Lright := f71,
    fd_Lright := PySem.W.fnOf "_law_right" "_law_right" (defArgs s_Lright) (defBody s_Lright) (defScope s_Lright) .none kV71 dc71 pm71 an71 cd71 ct71,
    F_Lright := F71,
    b_Lright := B71,
    m_Lright := PySem.W.mg_of X G a71,
    f_law := fa,
    fd_law := PySem.W.fnOf "law" "law" (defArgs s_law) (defBody s_law) (defScope s_law) .none kV72 dc72 pm72 an72 cd72 ct72,
    F_law := F72,
    b_law := B72,
    m_law := PySem.W.mg_of X G a72,
    C_InvalidRow := cx1,
    I_InvalidRow := ix1,
    X_InvalidRow := ⟨⟨xi1, xo1, xs1, xg1, xh1, xc1, xf1, xk1, xb1, xt1, xd1⟩, xn1_1, xm1_1, xn2_1, xm2_1, ⟨_, _, _, _, _, _, _, _, _, _, _, _, _, _, _, _, _, _, _, _, xl1, xe1⟩⟩,
    m_InvalidRow := PySem.W.mg_of X G xa1,
    C_InvalidHolds := cx2,
    I_InvalidHolds := ix2,
    X_InvalidHolds := ⟨⟨xi2, xo2, xs2, xg2, xh2, xc2, xf2, xk2, xb2, xt2, xd2⟩, xn2, xm2, ⟨_, _, _, _, _, _, _, _, _, _, _, _, _, _, _, xl2, xe2⟩⟩,
    m_InvalidHolds := PySem.W.mg_of X G xa2,
    q_InvalidRow_InvalidRow := exm_is xb1 xy1 xt1 xz1_1,
    q_InvalidHolds_InvalidRow := exm_is xb1 xy1 xt1 xz2_1,
    q_InvalidHolds_InvalidHolds := exm_is xb2 xy2 xt2 xz2_2,
    z_abs := PySem.W.mg_none_of X G z_abs,
    z_all := PySem.W.mg_none_of X G z_all,
    z_bool := PySem.W.mg_none_of X G z_bool,
    z_divmod := PySem.W.mg_none_of X G z_divmod,
    z_enumerate := PySem.W.mg_none_of X G z_enumerate,
    z_int := PySem.W.mg_none_of X G z_int,
    z_isinstance := PySem.W.mg_none_of X G z_isinstance,
    z_len := PySem.W.mg_none_of X G z_len,
    z_list := PySem.W.mg_none_of X G z_list,
    z_max := PySem.W.mg_none_of X G z_max,
    z_min := PySem.W.mg_none_of X G z_min,
    z_range := PySem.W.mg_none_of X G z_range,
    z_repr := PySem.W.mg_none_of X G z_repr,
    z_set := PySem.W.mg_none_of X G z_set,
    z_sorted := PySem.W.mg_none_of X G z_sorted,
    z_str := PySem.W.mg_none_of X G z_str,
    z_tuple := PySem.W.mg_none_of X G z_tuple,
    t_MOST_BATCH := t_MOST_BATCH,
    m_MOST_BATCH := PySem.W.mg_of X G g_MOST_BATCH,
    t_MOST_GROUPS := t_MOST_GROUPS,
    m_MOST_GROUPS := PySem.W.mg_of X G g_MOST_GROUPS,
    g_FAILS := T_FAILS,
    m_FAILS := PySem.W.mg_of X G g_FAILS,
    s_FAILS := fun H => .inr ⟨_, _, _, h_T_FAILS, rfl, rfl, (by show 3 ≤ sizeLine; decide), .cons ⟨_, rfl⟩ (.cons ⟨_, rfl⟩ (.cons ⟨_, rfl⟩ (.nil)))⟩,
    g_ROW_KINDS := T_ROW_KINDS,
    m_ROW_KINDS := PySem.W.mg_of X G g_ROW_KINDS,
    s_ROW_KINDS := fun H => .inr ⟨_, _, _, h_T_ROW_KINDS, rfl, rfl, (by show 4 ≤ sizeLine; decide), .cons ⟨_, rfl⟩ (.cons ⟨_, rfl⟩ (.cons ⟨_, rfl⟩ (.cons ⟨_, rfl⟩ (.nil))))⟩,
    g_WAY_WORDS := T_WAY_WORDS,
    m_WAY_WORDS := PySem.W.mg_of X G g_WAY_WORDS,
    s_WAY_WORDS := fun H => .inr ⟨_, _, _, h_T_WAY_WORDS, rfl, rfl, (by show 4 ≤ sizeLine; decide), .cons ⟨_, rfl⟩ (.cons ⟨_, rfl⟩ (.cons ⟨_, rfl⟩ (.cons ⟨_, rfl⟩ (.nil))))⟩,
    g_LIFT_ROWS := T_LIFT_ROWS,
    m_LIFT_ROWS := PySem.W.mg_of X G g_LIFT_ROWS,
    g0_LIFT_ROWS := T0_LIFT_ROWS,
    s0_LIFT_ROWS := fun H => .inr ⟨_, _, _, h_T0_LIFT_ROWS, rfl, rfl, (by show 0 ≤ sizeLine; decide), .nil⟩,
    g1_LIFT_ROWS := T1_LIFT_ROWS,
    s1_LIFT_ROWS := fun H => .inr ⟨_, _, _, h_T1_LIFT_ROWS, rfl, rfl, (by show 1 ≤ sizeLine; decide), .cons ⟨_, rfl⟩ (.nil)⟩,
    g2_LIFT_ROWS := T2_LIFT_ROWS,
    s2_LIFT_ROWS := fun H => .inr ⟨_, _, _, h_T2_LIFT_ROWS, rfl, rfl, (by show 1 ≤ sizeLine; decide), .cons ⟨_, rfl⟩ (.nil)⟩,
    g3_LIFT_ROWS := T3_LIFT_ROWS,
    s3_LIFT_ROWS := fun H => .inr ⟨_, _, _, h_T3_LIFT_ROWS, rfl, rfl, (by show 2 ≤ sizeLine; decide), .cons ⟨_, rfl⟩ (.cons ⟨_, rfl⟩ (.nil))⟩,
    g4_LIFT_ROWS := T4_LIFT_ROWS,
    s4_LIFT_ROWS := fun H => .inr ⟨_, _, _, h_T4_LIFT_ROWS, rfl, rfl, (by show 2 ≤ sizeLine; decide), .cons ⟨_, rfl⟩ (.cons ⟨_, rfl⟩ (.nil))⟩,
    g5_LIFT_ROWS := T5_LIFT_ROWS,
    s5_LIFT_ROWS := fun H => .inr ⟨_, _, _, h_T5_LIFT_ROWS, rfl, rfl, (by show 1 ≤ sizeLine; decide), .cons ⟨_, rfl⟩ (.nil)⟩,
    s_LIFT_ROWS := fun H => .inr ⟨_, _, _, h_T_LIFT_ROWS, rfl, rfl, (by show 6 ≤ sizeLine; decide), .cons rfl (.cons rfl (.cons rfl (.cons rfl (.cons rfl (.cons rfl (.nil))))))⟩,
    g_ROW_CHECKS := T_ROW_CHECKS,
    m_ROW_CHECKS := PySem.W.mg_of X G g_ROW_CHECKS,
    k_ROW_CHECKS_take := ⟨_, _, _, h_ROW_CHECKS, y_ROW_CHECKS, x_ROW_CHECKS_take, rfl⟩,
    k_ROW_CHECKS_give := ⟨_, _, _, h_ROW_CHECKS, y_ROW_CHECKS, x_ROW_CHECKS_give, rfl⟩,
    k_ROW_CHECKS_move := ⟨_, _, _, h_ROW_CHECKS, y_ROW_CHECKS, x_ROW_CHECKS_move, rfl⟩,
    k_ROW_CHECKS_lift := ⟨_, _, _, h_ROW_CHECKS, y_ROW_CHECKS, x_ROW_CHECKS_lift, rfl⟩ }
  refine ⟨T.fd_law, [(cc70, pp70)], fun p hp => ?_, fun p hp => ?_, fun s v => .of_eq rfl, fun base _ _ tb => ok_text T (tb _ List.mem_cons_self)⟩
  · rw [List.mem_singleton.mp hp]
    exact ⟨_, List.mem_cons_self, tb70⟩
  · rw [List.mem_singleton.mp hp]
    exact tn70
end My
namespace Hd
open PySem PySem.Spec PyProof.Rows L2 GL My
theorem all_hk {l : PySem.W.OpenLaw} {w : World} {K : PySem.W.Frag} {h : Heap} {mg : Str → Option Value} {fa : Addr} (X : K.In h) (G : h.Ns mainGlobals mg) (hfa : mg "law" = some (.ref fa)) (c : HK.Says ats fvs tbs ex w K) : ∃ (fd : FuncData) (ts : List (Addr × Addr)), (∀ p ∈ ts, ∃ y ∈ (["_law_asked"] : List Str), PySem.W.tabIn K y = some p) ∧ (∀ p ∈ ts, K.lookup p.2 = none) ∧ (∀ (s : Shared) (v : Value), BindsTo s fd ⟨[v], []⟩ [("_law_script", v)]) ∧ ∀ base : Heap, K.In base → base.Ns mainGlobals mg → (∀ p ∈ ts, LamX.TabB base mg p.1 p.2) → FnG l.prog w K mg base CX0 16 fa fd ["_law_script"] (sp_lawT K ts) := by
  have aC : PySem.W.nsIn K mainGlobals "Book" = some (some (.ref (aa_C K))) := HK.eqB_ok (c.fact 0)
  have pg : PySem.W.plainGet K (aa_C K) Str.empty = true := c.fact 1
  have hd : PySem.W.hasDictIn K (aa_C K) = true := c.fact 2
  have po : PySem.W.plainOver K (aa_C K) = true := c.fact 3
  have sa : PySem.W.findIn K (.ref (aa_C K)) "__setattr__" = some (some (.builtin "object.__setattr__")) := HK.eqB_ok (c.fact 4)
  have mk : PySem.W.makesIn K (aa_C K) = true := c.fact 5
  have kc : PySem.W.keepIn K (.ref (aa_C K)) = true := c.fact 6
  have n_parts : PySem.W.findIn K (.ref (aa_C K)) "_parts" = some none := HK.eqB_ok (c.fact 7)
  have x_class : PySem.W.findIn K (.ref (aa_C K)) "__class__" = some (some (.builtin "object.__class__")) := HK.eqB_ok (c.fact 8)
  have x_get : PySem.W.specialIn K (.builtin "object.__class__") "__get__" = some (some (.builtin "getset_descriptor.__get__")) := HK.eqB_ok (c.fact 9)
  have x_tk : PySem.W.takesIn K (.builtin "object.__class__") = some true := HK.eqB_ok (c.fact 10)
  have x_mro : PySem.W.mroIn K (aa_C K) (.type "object") = some true := HK.eqB_ok (c.fact 11)
  have x_ne : PySem.W.findIn K (.ref (aa_C K)) "__ne__" = some (some (.builtin "object.__ne__")) := HK.eqB_ok (c.fact 12)
  have x_cls : PySem.W.isClsIn K (aa_C K) = true := c.fact 13
  have x_ty : PySem.W.typeIn K (.ref (aa_C K)) = some (.type "type") := HK.eqB_ok (c.fact 14)
  have aC_Tree : PySem.W.nsIn K mainGlobals "Tree" = some (some (.ref (aa_C_Tree K))) := HK.eqB_ok (c.fact 15)
  have pg_Tree : PySem.W.plainGet K (aa_C_Tree K) Str.empty = true := c.fact 16
  have hd_Tree : PySem.W.hasDictIn K (aa_C_Tree K) = true := c.fact 17
  have po_Tree : PySem.W.plainOver K (aa_C_Tree K) = true := c.fact 18
  have sa_Tree : PySem.W.findIn K (.ref (aa_C_Tree K)) "__setattr__" = some (some (.builtin "object.__setattr__")) := HK.eqB_ok (c.fact 19)
  have mk_Tree : PySem.W.makesIn K (aa_C_Tree K) = true := c.fact 20
  have kc_Tree : PySem.W.keepIn K (.ref (aa_C_Tree K)) = true := c.fact 21
  have n_above : PySem.W.findIn K (.ref (aa_C_Tree K)) "_above" = some none := HK.eqB_ok (c.fact 22)
  have n_struck : PySem.W.findIn K (.ref (aa_C_Tree K)) "_struck" = some none := HK.eqB_ok (c.fact 23)
  have x_class_Tree : PySem.W.findIn K (.ref (aa_C_Tree K)) "__class__" = some (some (.builtin "object.__class__")) := HK.eqB_ok (c.fact 24)
  have x_get_Tree : PySem.W.specialIn K (.builtin "object.__class__") "__get__" = some (some (.builtin "getset_descriptor.__get__")) := HK.eqB_ok (c.fact 25)
  have x_tk_Tree : PySem.W.takesIn K (.builtin "object.__class__") = some true := HK.eqB_ok (c.fact 26)
  have x_mro_Tree : PySem.W.mroIn K (aa_C_Tree K) (.type "object") = some true := HK.eqB_ok (c.fact 27)
  have x_ne_Tree : PySem.W.findIn K (.ref (aa_C_Tree K)) "__ne__" = some (some (.builtin "object.__ne__")) := HK.eqB_ok (c.fact 28)
  have x_cls_Tree : PySem.W.isClsIn K (aa_C_Tree K) = true := c.fact 29
  have x_ty_Tree : PySem.W.typeIn K (.ref (aa_C_Tree K)) = some (.type "type") := HK.eqB_ok (c.fact 30)
  have aC_Course : PySem.W.nsIn K mainGlobals "Course" = some (some (.ref (aa_C_Course K))) := HK.eqB_ok (c.fact 31)
  have pg_Course : PySem.W.plainGet K (aa_C_Course K) Str.empty = true := c.fact 32
  have hd_Course : PySem.W.hasDictIn K (aa_C_Course K) = true := c.fact 33
  have po_Course : PySem.W.plainOver K (aa_C_Course K) = true := c.fact 34
  have sa_Course : PySem.W.findIn K (.ref (aa_C_Course K)) "__setattr__" = some (some (.builtin "object.__setattr__")) := HK.eqB_ok (c.fact 35)
  have mk_Course : PySem.W.makesIn K (aa_C_Course K) = true := c.fact 36
  have kc_Course : PySem.W.keepIn K (.ref (aa_C_Course K)) = true := c.fact 37
  have nkind : PySem.W.findIn K (.ref (aa_C_Course K)) "kind" = some none := HK.eqB_ok (c.fact 38)
  have nwords : PySem.W.findIn K (.ref (aa_C_Course K)) "words" = some none := HK.eqB_ok (c.fact 39)
  have ngroup : PySem.W.findIn K (.ref (aa_C_Course K)) "group" = some none := HK.eqB_ok (c.fact 40)
  have nold : PySem.W.findIn K (.ref (aa_C_Course K)) "old" = some none := HK.eqB_ok (c.fact 41)
  have nleaves_out : PySem.W.findIn K (.ref (aa_C_Course K)) "leaves_out" = some none := HK.eqB_ok (c.fact 42)
  have a1 : PySem.W.nsIn K mainGlobals "is_an_integer" = some (some (.ref (aa_f1 K))) := HK.eqB_ok (c.fact 43)
  obtain ⟨oc1, od1, kV1, dc1, pm1, an1, cd1, ct1, sl1, l1, c1⟩ := HK.f_ok (c.fn 0) (c.fact 44)
  have k1 : PySem.W.keepIn K (.ref (aa_f1 K)) = true := c.fact 45
  have a2 : PySem.W.nsIn K mainGlobals "is_list" = some (some (.ref (aa_f2 K))) := HK.eqB_ok (c.fact 46)
  obtain ⟨oc2, od2, kV2, dc2, pm2, an2, cd2, ct2, sl2, l2, c2⟩ := HK.f_ok (c.fn 1) (c.fact 47)
  have k2 : PySem.W.keepIn K (.ref (aa_f2 K)) = true := c.fact 48
  have a3 : PySem.W.nsIn K mainGlobals "check_group" = some (some (.ref (aa_f3 K))) := HK.eqB_ok (c.fact 49)
  obtain ⟨oc3, od3, kV3, dc3, pm3, an3, cd3, ct3, sl3, l3, c3⟩ := HK.f_ok (c.fn 2) (c.fact 50)
  have k3 : PySem.W.keepIn K (.ref (aa_f3 K)) = true := c.fact 51
  have a4 : PySem.W.nsIn K mainGlobals "check_parents" = some (some (.ref (aa_f4 K))) := HK.eqB_ok (c.fact 52)
  obtain ⟨oc4, od4, kV4, dc4, pm4, an4, cd4, ct4, sl4, l4, c4⟩ := HK.f_ok (c.fn 3) (c.fact 53)
  have k4 : PySem.W.keepIn K (.ref (aa_f4 K)) = true := c.fact 54
  have a5 : PySem.W.nsIn K mainGlobals "check_struck" = some (some (.ref (aa_f5 K))) := HK.eqB_ok (c.fact 55)
  obtain ⟨oc5, od5, kV5, dc5, pm5, an5, cd5, ct5, sl5, l5, c5⟩ := HK.f_ok (c.fn 4) (c.fact 56)
  have k5 : PySem.W.keepIn K (.ref (aa_f5 K)) = true := c.fact 57
  have a6 : PySem.W.findIn K (.ref (aa_C_Tree K)) "__init__" = some (some (.ref (aa_f6 K))) := HK.eqB_ok (c.fact 58)
  have i6 : PySem.W.isFn K (.ref (aa_f6 K)) = true := c.fact 59
  obtain ⟨oc6, od6, kV6, dc6, pm6, an6, cd6, ct6, sl6, l6, c6⟩ := HK.f_ok (c.fn 5) (c.fact 60)
  have k6 : PySem.W.keepIn K (.ref (aa_f6 K)) = true := c.fact 61
  obtain ⟨tc6, td6, tn6, tl6, t6⟩ := HK.seq_any (c.fact 62)
  obtain ⟨ud6_0, un6_0, ul6_0, u6_0⟩ := HK.seq_is (c.fact 63)
  obtain ⟨ud6_1, un6_1, ul6_1, u6_1⟩ := HK.seq_is (c.fact 64)
  have a7 : PySem.W.findIn K (.ref (aa_C_Tree K)) "__len__" = some (some (.ref (aa_f7 K))) := HK.eqB_ok (c.fact 65)
  have i7 : PySem.W.isFn K (.ref (aa_f7 K)) = true := c.fact 66
  obtain ⟨oc7, od7, kV7, dc7, pm7, an7, cd7, ct7, sl7, l7, c7⟩ := HK.f_ok (c.fn 6) (c.fact 67)
  have k7 : PySem.W.keepIn K (.ref (aa_f7 K)) = true := c.fact 68
  have a8 : PySem.W.findIn K (.ref (aa_C_Tree K)) "way" = some (some (.ref (aa_f8 K))) := HK.eqB_ok (c.fact 69)
  have i8 : PySem.W.isFn K (.ref (aa_f8 K)) = true := c.fact 70
  obtain ⟨oc8, od8, kV8, dc8, pm8, an8, cd8, ct8, sl8, l8, c8⟩ := HK.f_ok (c.fn 7) (c.fact 71)
  have k8 : PySem.W.keepIn K (.ref (aa_f8 K)) = true := c.fact 72
  have a9 : PySem.W.findIn K (.ref (aa_C_Tree K)) "apart" = some (some (.ref (aa_f9 K))) := HK.eqB_ok (c.fact 73)
  have i9 : PySem.W.isFn K (.ref (aa_f9 K)) = true := c.fact 74
  obtain ⟨oc9, od9, kV9, dc9, pm9, an9, cd9, ct9, sl9, l9, c9⟩ := HK.f_ok (c.fn 8) (c.fact 75)
  have k9 : PySem.W.keepIn K (.ref (aa_f9 K)) = true := c.fact 76
  have a10 : PySem.W.nsIn K mainGlobals "is_word" = some (some (.ref (aa_f10 K))) := HK.eqB_ok (c.fact 77)
  obtain ⟨oc10, od10, kV10, dc10, pm10, an10, cd10, ct10, sl10, l10, c10⟩ := HK.f_ok (c.fn 9) (c.fact 78)
  have k10 : PySem.W.keepIn K (.ref (aa_f10 K)) = true := c.fact 79
  have a11 : PySem.W.nsIn K mainGlobals "are_different_words" = some (some (.ref (aa_f11 K))) := HK.eqB_ok (c.fact 80)
  obtain ⟨oc11, od11, kV11, dc11, pm11, an11, cd11, ct11, sl11, l11, c11⟩ := HK.f_ok (c.fn 10) (c.fact 81)
  have k11 : PySem.W.keepIn K (.ref (aa_f11 K)) = true := c.fact 82
  have a12 : PySem.W.nsIn K mainGlobals "has_words_of" = some (some (.ref (aa_f12 K))) := HK.eqB_ok (c.fact 83)
  obtain ⟨oc12, od12, kV12, dc12, pm12, an12, cd12, ct12, sl12, l12, c12⟩ := HK.f_ok (c.fn 11) (c.fact 84)
  have k12 : PySem.W.keepIn K (.ref (aa_f12 K)) = true := c.fact 85
  have a13 : PySem.W.nsIn K mainGlobals "tests_are_ahead" = some (some (.ref (aa_f13 K))) := HK.eqB_ok (c.fact 86)
  obtain ⟨oc13, od13, kV13, dc13, pm13, an13, cd13, ct13, sl13, l13, c13⟩ := HK.f_ok (c.fn 12) (c.fact 87)
  have k13 : PySem.W.keepIn K (.ref (aa_f13 K)) = true := c.fact 88
  have a14 : PySem.W.nsIn K mainGlobals "off_has_home" = some (some (.ref (aa_f14 K))) := HK.eqB_ok (c.fact 89)
  obtain ⟨oc14, od14, kV14, dc14, pm14, an14, cd14, ct14, sl14, l14, c14⟩ := HK.f_ok (c.fn 13) (c.fact 90)
  have k14 : PySem.W.keepIn K (.ref (aa_f14 K)) = true := c.fact 91
  have a15 : PySem.W.nsIn K mainGlobals "is_take_row" = some (some (.ref (aa_f15 K))) := HK.eqB_ok (c.fact 92)
  obtain ⟨oc15, od15, kV15, dc15, pm15, an15, cd15, ct15, sl15, l15, c15⟩ := HK.f_ok (c.fn 14) (c.fact 93)
  have k15 : PySem.W.keepIn K (.ref (aa_f15 K)) = true := c.fact 94
  have a16 : PySem.W.nsIn K mainGlobals "is_give_row" = some (some (.ref (aa_f16 K))) := HK.eqB_ok (c.fact 95)
  obtain ⟨oc16, od16, kV16, dc16, pm16, an16, cd16, ct16, sl16, l16, c16⟩ := HK.f_ok (c.fn 15) (c.fact 96)
  have k16 : PySem.W.keepIn K (.ref (aa_f16 K)) = true := c.fact 97
  have a17 : PySem.W.nsIn K mainGlobals "is_move_row" = some (some (.ref (aa_f17 K))) := HK.eqB_ok (c.fact 98)
  obtain ⟨oc17, od17, kV17, dc17, pm17, an17, cd17, ct17, sl17, l17, c17⟩ := HK.f_ok (c.fn 16) (c.fact 99)
  have k17 : PySem.W.keepIn K (.ref (aa_f17 K)) = true := c.fact 100
  have a18 : PySem.W.nsIn K mainGlobals "is_lift_row" = some (some (.ref (aa_f18 K))) := HK.eqB_ok (c.fact 101)
  obtain ⟨oc18, od18, kV18, dc18, pm18, an18, cd18, ct18, sl18, l18, c18⟩ := HK.f_ok (c.fn 17) (c.fact 102)
  have k18 : PySem.W.keepIn K (.ref (aa_f18 K)) = true := c.fact 103
  have a19 : PySem.W.nsIn K mainGlobals "is_row" = some (some (.ref (aa_f19 K))) := HK.eqB_ok (c.fact 104)
  obtain ⟨oc19, od19, kV19, dc19, pm19, an19, cd19, ct19, sl19, l19, c19⟩ := HK.f_ok (c.fn 18) (c.fact 105)
  have k19 : PySem.W.keepIn K (.ref (aa_f19 K)) = true := c.fact 106
  have a20 : PySem.W.nsIn K mainGlobals "fits_batch" = some (some (.ref (aa_f20 K))) := HK.eqB_ok (c.fact 107)
  obtain ⟨oc20, od20, kV20, dc20, pm20, an20, cd20, ct20, sl20, l20, c20⟩ := HK.f_ok (c.fn 19) (c.fact 108)
  have k20 : PySem.W.keepIn K (.ref (aa_f20 K)) = true := c.fact 109
  have a21 : PySem.W.nsIn K mainGlobals "fits_shared" = some (some (.ref (aa_f21 K))) := HK.eqB_ok (c.fact 110)
  obtain ⟨oc21, od21, kV21, dc21, pm21, an21, cd21, ct21, sl21, l21, c21⟩ := HK.f_ok (c.fn 20) (c.fact 111)
  have k21 : PySem.W.keepIn K (.ref (aa_f21 K)) = true := c.fact 112
  have a22 : PySem.W.nsIn K mainGlobals "check_rows" = some (some (.ref (aa_f22 K))) := HK.eqB_ok (c.fact 113)
  obtain ⟨oc22, od22, kV22, dc22, pm22, an22, cd22, ct22, sl22, l22, c22⟩ := HK.f_ok (c.fn 21) (c.fact 114)
  have k22 : PySem.W.keepIn K (.ref (aa_f22 K)) = true := c.fact 115
  have a23 : PySem.W.nsIn K mainGlobals "check_fails" = some (some (.ref (aa_f23 K))) := HK.eqB_ok (c.fact 116)
  obtain ⟨oc23, od23, kV23, dc23, pm23, an23, cd23, ct23, sl23, l23, c23⟩ := HK.f_ok (c.fn 22) (c.fact 117)
  have k23 : PySem.W.keepIn K (.ref (aa_f23 K)) = true := c.fact 118
  have a24 : PySem.W.nsIn K mainGlobals "check_bool" = some (some (.ref (aa_f24 K))) := HK.eqB_ok (c.fact 119)
  obtain ⟨oc24, od24, kV24, dc24, pm24, an24, cd24, ct24, sl24, l24, c24⟩ := HK.f_ok (c.fn 23) (c.fact 120)
  have k24 : PySem.W.keepIn K (.ref (aa_f24 K)) = true := c.fact 121
  have a25 : PySem.W.nsIn K mainGlobals "check_holds" = some (some (.ref (aa_f25 K))) := HK.eqB_ok (c.fact 122)
  obtain ⟨oc25, od25, kV25, dc25, pm25, an25, cd25, ct25, sl25, l25, c25⟩ := HK.f_ok (c.fn 24) (c.fact 123)
  have k25 : PySem.W.keepIn K (.ref (aa_f25 K)) = true := c.fact 124
  have a26 : PySem.W.nsIn K mainGlobals "check_batch" = some (some (.ref (aa_f26 K))) := HK.eqB_ok (c.fact 125)
  obtain ⟨oc26, od26, kV26, dc26, pm26, an26, cd26, ct26, sl26, l26, c26⟩ := HK.f_ok (c.fn 25) (c.fact 126)
  have k26 : PySem.W.keepIn K (.ref (aa_f26 K)) = true := c.fact 127
  have a27 : PySem.W.nsIn K mainGlobals "check_row_kind" = some (some (.ref (aa_f27 K))) := HK.eqB_ok (c.fact 128)
  obtain ⟨oc27, od27, kV27, dc27, pm27, an27, cd27, ct27, sl27, l27, c27⟩ := HK.f_ok (c.fn 26) (c.fact 129)
  have k27 : PySem.W.keepIn K (.ref (aa_f27 K)) = true := c.fact 130
  have a28 : PySem.W.findIn K (.ref (aa_C K)) "__init__" = some (some (.ref (aa_f28 K))) := HK.eqB_ok (c.fact 131)
  have i28 : PySem.W.isFn K (.ref (aa_f28 K)) = true := c.fact 132
  obtain ⟨oc28, od28, dc28, pm28, an28, cd28, ct28, sl28, l28, c28⟩ := HK.f_okK (c.fn 27) (c.fact 133)
  have k28 : PySem.W.keepIn K (.ref (aa_f28 K)) = true := c.fact 134
  have kn28_take : PySem.W.nsIn K (aa_KD28 K) "take" = some (some (.ref (aa_kd_take K))) := HK.eqB_ok (c.fact 135)
  obtain ⟨k0_kd_take, k1_kd_take, od_h_kd_take, n_kd_take, l_kd_take, h_kd_take⟩ := HK.seq_is (c.fact 136)
  obtain rfl := HK.bare_ok (c.fact 137) h_kd_take
  have kn28_give : PySem.W.nsIn K (aa_KD28 K) "give" = some (some (.ref (aa_kd_give K))) := HK.eqB_ok (c.fact 138)
  obtain ⟨k0_kd_give, k1_kd_give, k2_kd_give, od_h_kd_give, n_kd_give, l_kd_give, h_kd_give⟩ := HK.seq_is (c.fact 139)
  obtain rfl := HK.bare_ok (c.fact 140) h_kd_give
  have kn28_move : PySem.W.nsIn K (aa_KD28 K) "move" = some (some (.ref (aa_kd_move K))) := HK.eqB_ok (c.fact 141)
  obtain ⟨k0_kd_move, k1_kd_move, k2_kd_move, k3_kd_move, od_h_kd_move, n_kd_move, l_kd_move, h_kd_move⟩ := HK.seq_is (c.fact 142)
  obtain rfl := HK.bare_ok (c.fact 143) h_kd_move
  have kn28_lift : PySem.W.nsIn K (aa_KD28 K) "lift" = some (some (.ref (aa_kd_lift K))) := HK.eqB_ok (c.fact 144)
  obtain ⟨k0_kd_lift, od_h_kd_lift, n_kd_lift, l_kd_lift, h_kd_lift⟩ := HK.seq_is (c.fact 145)
  obtain rfl := HK.bare_ok (c.fact 146) h_kd_lift
  obtain ⟨kk28_fails, kn28_fails⟩ := HK.nsD_str (c.fact 147)
  have kn28_shared : PySem.W.nsIn K (aa_KD28 K) "shared" = some (some (.bool true)) := HK.eqB_ok (c.fact 148)
  have kn28_holds : PySem.W.nsIn K (aa_KD28 K) "holds" = some (some (.ref (aa_kd_holds K))) := HK.eqB_ok (c.fact 149)
  obtain ⟨k0_kd_holds, k1_kd_holds, k2_kd_holds, k3_kd_holds, od_h_kd_holds, n_kd_holds, l_kd_holds, h_kd_holds⟩ := HK.seq_is (c.fact 150)
  obtain rfl := HK.bare_ok (c.fact 151) h_kd_holds
  obtain ⟨kk28_batch, kn28_batch⟩ := HK.nsD_int (c.fact 152)
  have kn28_settles : PySem.W.nsIn K (aa_KD28 K) "settles" = some (some (.bool true)) := HK.eqB_ok (c.fact 153)
  have a29 : PySem.W.findIn K (.ref (aa_C K)) "__repr__" = some (some (.ref (aa_f29 K))) := HK.eqB_ok (c.fact 154)
  have i29 : PySem.W.isFn K (.ref (aa_f29 K)) = true := c.fact 155
  obtain ⟨oc29, od29, kV29, dc29, pm29, an29, cd29, ct29, sl29, l29, c29⟩ := HK.f_ok (c.fn 28) (c.fact 156)
  have k29 : PySem.W.keepIn K (.ref (aa_f29 K)) = true := c.fact 157
  have a30 : PySem.W.findIn K (.ref (aa_C K)) "fails" = some (some (.ref (aa_pr30 K))) := HK.eqB_ok (c.fact 158)
  have pA30 : PySem.W.specialIn K (.ref (aa_pr30 K)) "__get__" = some (some (.builtin "property.__get__")) := HK.eqB_ok (c.fact 159)
  have pB30 : PySem.W.takesIn K (.ref (aa_pr30 K)) = some true := HK.eqB_ok (c.fact 160)
  obtain ⟨pl30, pC30⟩ := HK.pf_ok (c.fact 161)
  obtain ⟨oc30, od30, kV30, dc30, pm30, an30, cd30, ct30, sl30, l30, c30⟩ := HK.f_ok (c.fn 29) (c.fact 162)
  have k30 : PySem.W.keepIn K (.ref (aa_f30 K)) = true := c.fact 163
  have a31 : PySem.W.findIn K (.ref (aa_C K)) "shared" = some (some (.ref (aa_pr31 K))) := HK.eqB_ok (c.fact 164)
  have pA31 : PySem.W.specialIn K (.ref (aa_pr31 K)) "__get__" = some (some (.builtin "property.__get__")) := HK.eqB_ok (c.fact 165)
  have pB31 : PySem.W.takesIn K (.ref (aa_pr31 K)) = some true := HK.eqB_ok (c.fact 166)
  obtain ⟨pl31, pC31⟩ := HK.pf_ok (c.fact 167)
  obtain ⟨oc31, od31, kV31, dc31, pm31, an31, cd31, ct31, sl31, l31, c31⟩ := HK.f_ok (c.fn 30) (c.fact 168)
  have k31 : PySem.W.keepIn K (.ref (aa_f31 K)) = true := c.fact 169
  have a32 : PySem.W.findIn K (.ref (aa_C K)) "holds" = some (some (.ref (aa_pr32 K))) := HK.eqB_ok (c.fact 170)
  have pA32 : PySem.W.specialIn K (.ref (aa_pr32 K)) "__get__" = some (some (.builtin "property.__get__")) := HK.eqB_ok (c.fact 171)
  have pB32 : PySem.W.takesIn K (.ref (aa_pr32 K)) = some true := HK.eqB_ok (c.fact 172)
  obtain ⟨pl32, pC32⟩ := HK.pf_ok (c.fact 173)
  obtain ⟨oc32, od32, kV32, dc32, pm32, an32, cd32, ct32, sl32, l32, c32⟩ := HK.f_ok (c.fn 31) (c.fact 174)
  have k32 : PySem.W.keepIn K (.ref (aa_f32 K)) = true := c.fact 175
  have a33 : PySem.W.findIn K (.ref (aa_C K)) "batch" = some (some (.ref (aa_pr33 K))) := HK.eqB_ok (c.fact 176)
  have pA33 : PySem.W.specialIn K (.ref (aa_pr33 K)) "__get__" = some (some (.builtin "property.__get__")) := HK.eqB_ok (c.fact 177)
  have pB33 : PySem.W.takesIn K (.ref (aa_pr33 K)) = some true := HK.eqB_ok (c.fact 178)
  obtain ⟨pl33, pC33⟩ := HK.pf_ok (c.fact 179)
  obtain ⟨oc33, od33, kV33, dc33, pm33, an33, cd33, ct33, sl33, l33, c33⟩ := HK.f_ok (c.fn 32) (c.fact 180)
  have k33 : PySem.W.keepIn K (.ref (aa_f33 K)) = true := c.fact 181
  have a34 : PySem.W.findIn K (.ref (aa_C K)) "settles" = some (some (.ref (aa_pr34 K))) := HK.eqB_ok (c.fact 182)
  have pA34 : PySem.W.specialIn K (.ref (aa_pr34 K)) "__get__" = some (some (.builtin "property.__get__")) := HK.eqB_ok (c.fact 183)
  have pB34 : PySem.W.takesIn K (.ref (aa_pr34 K)) = some true := HK.eqB_ok (c.fact 184)
  obtain ⟨pl34, pC34⟩ := HK.pf_ok (c.fact 185)
  obtain ⟨oc34, od34, kV34, dc34, pm34, an34, cd34, ct34, sl34, l34, c34⟩ := HK.f_ok (c.fn 33) (c.fact 186)
  have k34 : PySem.W.keepIn K (.ref (aa_f34 K)) = true := c.fact 187
  have a35 : PySem.W.findIn K (.ref (aa_C K)) "row" = some (some (.ref (aa_f35 K))) := HK.eqB_ok (c.fact 188)
  have i35 : PySem.W.isFn K (.ref (aa_f35 K)) = true := c.fact 189
  obtain ⟨oc35, od35, kV35, dc35, pm35, an35, cd35, ct35, sl35, l35, c35⟩ := HK.f_ok (c.fn 34) (c.fact 190)
  have k35 : PySem.W.keepIn K (.ref (aa_f35 K)) = true := c.fact 191
  have a36 : PySem.W.findIn K (.ref (aa_C K)) "with_row" = some (some (.ref (aa_f36 K))) := HK.eqB_ok (c.fact 192)
  have i36 : PySem.W.isFn K (.ref (aa_f36 K)) = true := c.fact 193
  obtain ⟨oc36, od36, kV36, dc36, pm36, an36, cd36, ct36, sl36, l36, c36⟩ := HK.f_ok (c.fn 35) (c.fact 194)
  have k36 : PySem.W.keepIn K (.ref (aa_f36 K)) = true := c.fact 195
  have a37 : PySem.W.findIn K (.ref (aa_C K)) "with_holds" = some (some (.ref (aa_f37 K))) := HK.eqB_ok (c.fact 196)
  have i37 : PySem.W.isFn K (.ref (aa_f37 K)) = true := c.fact 197
  obtain ⟨oc37, od37, kV37, dc37, pm37, an37, cd37, ct37, sl37, l37, c37⟩ := HK.f_ok (c.fn 36) (c.fact 198)
  have k37 : PySem.W.keepIn K (.ref (aa_f37 K)) = true := c.fact 199
  have a38 : PySem.W.findIn K (.ref (aa_C_Course K)) "__init__" = some (some (.ref (aa_f38 K))) := HK.eqB_ok (c.fact 200)
  have i38 : PySem.W.isFn K (.ref (aa_f38 K)) = true := c.fact 201
  obtain ⟨oc38, od38, kV38, dc38, pm38, an38, cd38, ct38, sl38, l38, c38⟩ := HK.f_ok (c.fn 37) (c.fact 202)
  have k38 : PySem.W.keepIn K (.ref (aa_f38 K)) = true := c.fact 203
  obtain ⟨tc38, td38, tn38, tl38, t38⟩ := HK.seq_any (c.fact 204)
  have a39 : PySem.W.findIn K (.ref (aa_C_Course K)) "groups" = some (some (.ref (aa_f39 K))) := HK.eqB_ok (c.fact 205)
  have i39 : PySem.W.isFn K (.ref (aa_f39 K)) = true := c.fact 206
  obtain ⟨oc39, od39, kV39, dc39, pm39, an39, cd39, ct39, sl39, l39, c39⟩ := HK.f_ok (c.fn 38) (c.fact 207)
  have k39 : PySem.W.keepIn K (.ref (aa_f39 K)) = true := c.fact 208
  have a40 : PySem.W.findIn K (.ref (aa_C_Course K)) "single_deeds" = some (some (.ref (aa_f40 K))) := HK.eqB_ok (c.fact 209)
  have i40 : PySem.W.isFn K (.ref (aa_f40 K)) = true := c.fact 210
  obtain ⟨oc40, od40, kV40, dc40, pm40, an40, cd40, ct40, sl40, l40, c40⟩ := HK.f_ok (c.fn 39) (c.fact 211)
  have k40 : PySem.W.keepIn K (.ref (aa_f40 K)) = true := c.fact 212
  have a41 : PySem.W.nsIn K mainGlobals "take_course" = some (some (.ref (aa_f41 K))) := HK.eqB_ok (c.fact 213)
  obtain ⟨oc41, od41, kV41, dc41, pm41, an41, cd41, ct41, sl41, l41, c41⟩ := HK.f_ok (c.fn 40) (c.fact 214)
  have k41 : PySem.W.keepIn K (.ref (aa_f41 K)) = true := c.fact 215
  have a42 : PySem.W.nsIn K mainGlobals "give_course" = some (some (.ref (aa_f42 K))) := HK.eqB_ok (c.fact 216)
  obtain ⟨oc42, od42, kV42, dc42, pm42, an42, cd42, ct42, sl42, l42, c42⟩ := HK.f_ok (c.fn 41) (c.fact 217)
  have k42 : PySem.W.keepIn K (.ref (aa_f42 K)) = true := c.fact 218
  obtain ⟨tc42, td42, tn42, tl42, t42⟩ := HK.seq_any (c.fact 219)
  have a43 : PySem.W.nsIn K mainGlobals "move_course" = some (some (.ref (aa_f43 K))) := HK.eqB_ok (c.fact 220)
  obtain ⟨oc43, od43, kV43, dc43, pm43, an43, cd43, ct43, sl43, l43, c43⟩ := HK.f_ok (c.fn 42) (c.fact 221)
  have k43 : PySem.W.keepIn K (.ref (aa_f43 K)) = true := c.fact 222
  obtain ⟨tc43, td43, tn43, tl43, t43⟩ := HK.seq_any (c.fact 223)
  have a44 : PySem.W.nsIn K mainGlobals "lift_course" = some (some (.ref (aa_f44 K))) := HK.eqB_ok (c.fact 224)
  obtain ⟨oc44, od44, kV44, dc44, pm44, an44, cd44, ct44, sl44, l44, c44⟩ := HK.f_ok (c.fn 43) (c.fact 225)
  have k44 : PySem.W.keepIn K (.ref (aa_f44 K)) = true := c.fact 226
  have a45 : PySem.W.nsIn K mainGlobals "settle_course" = some (some (.ref (aa_f45 K))) := HK.eqB_ok (c.fact 227)
  obtain ⟨oc45, od45, kV45, dc45, pm45, an45, cd45, ct45, sl45, l45, c45⟩ := HK.f_ok (c.fn 44) (c.fact 228)
  have k45 : PySem.W.keepIn K (.ref (aa_f45 K)) = true := c.fact 229
  have a46 : PySem.W.nsIn K mainGlobals "plan" = some (some (.ref (aa_f46 K))) := HK.eqB_ok (c.fact 230)
  obtain ⟨oc46, od46, kV46, dc46, pm46, an46, cd46, ct46, sl46, l46, c46⟩ := HK.f_ok (c.fn 45) (c.fact 231)
  have k46 : PySem.W.keepIn K (.ref (aa_f46 K)) = true := c.fact 232
  have a47 : PySem.W.nsIn K mainGlobals "take_plan" = some (some (.ref (aa_f47 K))) := HK.eqB_ok (c.fact 233)
  obtain ⟨oc47, od47, kV47, dc47, pm47, an47, cd47, ct47, sl47, l47, c47⟩ := HK.f_ok (c.fn 46) (c.fact 234)
  have k47 : PySem.W.keepIn K (.ref (aa_f47 K)) = true := c.fact 235
  have a48 : PySem.W.nsIn K mainGlobals "give_plan" = some (some (.ref (aa_f48 K))) := HK.eqB_ok (c.fact 236)
  obtain ⟨oc48, od48, kV48, dc48, pm48, an48, cd48, ct48, sl48, l48, c48⟩ := HK.f_ok (c.fn 47) (c.fact 237)
  have k48 : PySem.W.keepIn K (.ref (aa_f48 K)) = true := c.fact 238
  have a49 : PySem.W.nsIn K mainGlobals "move_plan" = some (some (.ref (aa_f49 K))) := HK.eqB_ok (c.fact 239)
  obtain ⟨oc49, od49, kV49, dc49, pm49, an49, cd49, ct49, sl49, l49, c49⟩ := HK.f_ok (c.fn 48) (c.fact 240)
  have k49 : PySem.W.keepIn K (.ref (aa_f49 K)) = true := c.fact 241
  have a50 : PySem.W.nsIn K mainGlobals "lift_plan" = some (some (.ref (aa_f50 K))) := HK.eqB_ok (c.fact 242)
  obtain ⟨oc50, od50, kV50, dc50, pm50, an50, cd50, ct50, sl50, l50, c50⟩ := HK.f_ok (c.fn 49) (c.fact 243)
  have k50 : PySem.W.keepIn K (.ref (aa_f50 K)) = true := c.fact 244
  have a51 : PySem.W.nsIn K mainGlobals "settle_plan" = some (some (.ref (aa_f51 K))) := HK.eqB_ok (c.fact 245)
  obtain ⟨oc51, od51, kV51, dc51, pm51, an51, cd51, ct51, sl51, l51, c51⟩ := HK.f_ok (c.fn 50) (c.fact 246)
  have k51 : PySem.W.keepIn K (.ref (aa_f51 K)) = true := c.fact 247
  have a52 : PySem.W.nsIn K mainGlobals "_law_pot" = some (some (.ref (aa_f52 K))) := HK.eqB_ok (c.fact 248)
  obtain ⟨oc52, od52, kV52, dc52, pm52, an52, cd52, ct52, sl52, l52, c52⟩ := HK.f_ok (c.fn 51) (c.fact 249)
  have k52 : PySem.W.keepIn K (.ref (aa_f52 K)) = true := c.fact 250
  have a53 : PySem.W.nsIn K mainGlobals "_law_draw" = some (some (.ref (aa_f53 K))) := HK.eqB_ok (c.fact 251)
  obtain ⟨oc53, od53, kV53, dc53, pm53, an53, cd53, ct53, sl53, l53, c53⟩ := HK.f_ok (c.fn 52) (c.fact 252)
  have k53 : PySem.W.keepIn K (.ref (aa_f53 K)) = true := c.fact 253
  have a54 : PySem.W.nsIn K mainGlobals "_law_pick" = some (some (.ref (aa_f54 K))) := HK.eqB_ok (c.fact 254)
  obtain ⟨oc54, od54, kV54, dc54, pm54, an54, cd54, ct54, sl54, l54, c54⟩ := HK.f_ok (c.fn 53) (c.fact 255)
  have k54 : PySem.W.keepIn K (.ref (aa_f54 K)) = true := c.fact 256
  have a55 : PySem.W.nsIn K mainGlobals "_law_sequences" = some (some (.ref (aa_f55 K))) := HK.eqB_ok (c.fact 257)
  obtain ⟨oc55, od55, kV55, dc55, pm55, an55, cd55, ct55, sl55, l55, c55⟩ := HK.f_ok (c.fn 54) (c.fact 258)
  have k55 : PySem.W.keepIn K (.ref (aa_f55 K)) = true := c.fact 259
  have a56 : PySem.W.nsIn K mainGlobals "_law_is_ahead" = some (some (.ref (aa_f56 K))) := HK.eqB_ok (c.fact 260)
  obtain ⟨oc56, od56, kV56, dc56, pm56, an56, cd56, ct56, sl56, l56, c56⟩ := HK.f_ok (c.fn 55) (c.fact 261)
  have k56 : PySem.W.keepIn K (.ref (aa_f56 K)) = true := c.fact 262
  have a57 : PySem.W.nsIn K mainGlobals "_law_is_take" = some (some (.ref (aa_f57 K))) := HK.eqB_ok (c.fact 263)
  obtain ⟨oc57, od57, kV57, dc57, pm57, an57, cd57, ct57, sl57, l57, c57⟩ := HK.f_ok (c.fn 56) (c.fact 264)
  have k57 : PySem.W.keepIn K (.ref (aa_f57 K)) = true := c.fact 265
  have a58 : PySem.W.nsIn K mainGlobals "_law_is_give" = some (some (.ref (aa_f58 K))) := HK.eqB_ok (c.fact 266)
  obtain ⟨oc58, od58, kV58, dc58, pm58, an58, cd58, ct58, sl58, l58, c58⟩ := HK.f_ok (c.fn 57) (c.fact 267)
  have k58 : PySem.W.keepIn K (.ref (aa_f58 K)) = true := c.fact 268
  have a59 : PySem.W.nsIn K mainGlobals "_law_is_move" = some (some (.ref (aa_f59 K))) := HK.eqB_ok (c.fact 269)
  obtain ⟨oc59, od59, kV59, dc59, pm59, an59, cd59, ct59, sl59, l59, c59⟩ := HK.f_ok (c.fn 58) (c.fact 270)
  have k59 : PySem.W.keepIn K (.ref (aa_f59 K)) = true := c.fact 271
  have a60 : PySem.W.nsIn K mainGlobals "_law_takes" = some (some (.ref (aa_f60 K))) := HK.eqB_ok (c.fact 272)
  obtain ⟨oc60, od60, kV60, dc60, pm60, an60, cd60, ct60, sl60, l60, c60⟩ := HK.f_ok (c.fn 59) (c.fact 273)
  have k60 : PySem.W.keepIn K (.ref (aa_f60 K)) = true := c.fact 274
  have a61 : PySem.W.nsIn K mainGlobals "_law_gives" = some (some (.ref (aa_f61 K))) := HK.eqB_ok (c.fact 275)
  obtain ⟨oc61, od61, kV61, dc61, pm61, an61, cd61, ct61, sl61, l61, c61⟩ := HK.f_ok (c.fn 60) (c.fact 276)
  have k61 : PySem.W.keepIn K (.ref (aa_f61 K)) = true := c.fact 277
  have a62 : PySem.W.nsIn K mainGlobals "_law_moves" = some (some (.ref (aa_f62 K))) := HK.eqB_ok (c.fact 278)
  obtain ⟨oc62, od62, kV62, dc62, pm62, an62, cd62, ct62, sl62, l62, c62⟩ := HK.f_ok (c.fn 61) (c.fact 279)
  have k62 : PySem.W.keepIn K (.ref (aa_f62 K)) = true := c.fact 280
  have a63 : PySem.W.nsIn K mainGlobals "_law_lifts" = some (some (.ref (aa_f63 K))) := HK.eqB_ok (c.fact 281)
  obtain ⟨oc63, od63, kV63, dc63, pm63, an63, cd63, ct63, sl63, l63, c63⟩ := HK.f_ok (c.fn 62) (c.fact 282)
  have k63 : PySem.W.keepIn K (.ref (aa_f63 K)) = true := c.fact 283
  have a64 : PySem.W.nsIn K mainGlobals "_law_any" = some (some (.ref (aa_f64 K))) := HK.eqB_ok (c.fact 284)
  obtain ⟨oc64, od64, kV64, dc64, pm64, an64, cd64, ct64, sl64, l64, c64⟩ := HK.f_ok (c.fn 63) (c.fact 285)
  have k64 : PySem.W.keepIn K (.ref (aa_f64 K)) = true := c.fact 286
  have a65 : PySem.W.nsIn K mainGlobals "_law_book" = some (some (.ref (aa_f65 K))) := HK.eqB_ok (c.fact 287)
  obtain ⟨oc65, od65, kV65, dc65, pm65, an65, cd65, ct65, sl65, l65, c65⟩ := HK.f_ok (c.fn 64) (c.fact 288)
  have k65 : PySem.W.keepIn K (.ref (aa_f65 K)) = true := c.fact 289
  have a66 : PySem.W.nsIn K mainGlobals "_law_words_shown" = some (some (.ref (aa_f66 K))) := HK.eqB_ok (c.fact 290)
  obtain ⟨oc66, od66, kV66, dc66, pm66, an66, cd66, ct66, sl66, l66, c66⟩ := HK.f_ok (c.fn 65) (c.fact 291)
  have k66 : PySem.W.keepIn K (.ref (aa_f66 K)) = true := c.fact 292
  have a67 : PySem.W.nsIn K mainGlobals "_law_shown" = some (some (.ref (aa_f67 K))) := HK.eqB_ok (c.fact 293)
  obtain ⟨oc67, od67, kV67, dc67, pm67, an67, cd67, ct67, sl67, l67, c67⟩ := HK.f_ok (c.fn 66) (c.fact 294)
  have k67 : PySem.W.keepIn K (.ref (aa_f67 K)) = true := c.fact 295
  have a68 : PySem.W.nsIn K mainGlobals "_law_plain" = some (some (.ref (aa_f68 K))) := HK.eqB_ok (c.fact 296)
  obtain ⟨oc68, od68, kV68, dc68, pm68, an68, cd68, ct68, sl68, l68, c68⟩ := HK.f_ok (c.fn 67) (c.fact 297)
  have k68 : PySem.W.keepIn K (.ref (aa_f68 K)) = true := c.fact 298
  have a69 : PySem.W.nsIn K mainGlobals "_law_is_refused" = some (some (.ref (aa_f69 K))) := HK.eqB_ok (c.fact 299)
  obtain ⟨oc69, od69, kV69, dc69, pm69, an69, cd69, ct69, sl69, l69, c69⟩ := HK.f_ok (c.fn 68) (c.fact 300)
  have k69 : PySem.W.keepIn K (.ref (aa_f69 K)) = true := c.fact 301
  have a70 : PySem.W.nsIn K mainGlobals "_law_asked" = some (some (.ref (aa_f70 K))) := HK.eqB_ok (c.fact 302)
  obtain ⟨oc70, od70, kV70, dc70, pm70, an70, ct70, sl70, l70, c70⟩ := HK.f_okT (c.fn 69) (c.fact 303)
  obtain ⟨toc70, tod70, tvs70, tsl70, tl70, tv70⟩ := HK.tb_ok (c.fact 304)
  have tn70 := HK.no_ok (c.fact 305)
  have k70 : PySem.W.keepIn K (.ref (aa_f70 K)) = true := c.fact 306
  have a71 : PySem.W.nsIn K mainGlobals "_law_right" = some (some (.ref (aa_f71 K))) := HK.eqB_ok (c.fact 307)
  obtain ⟨oc71, od71, kV71, dc71, pm71, an71, cd71, ct71, sl71, l71, c71⟩ := HK.f_ok (c.fn 70) (c.fact 308)
  have k71 : PySem.W.keepIn K (.ref (aa_f71 K)) = true := c.fact 309
  have a72 : PySem.W.nsIn K mainGlobals "law" = some (some (.ref (aa_f72 K))) := HK.eqB_ok (c.fact 310)
  obtain ⟨oc72, od72, kV72, dc72, pm72, an72, cd72, ct72, sl72, l72, c72⟩ := HK.f_ok (c.fn 71) (c.fact 311)
  have k72 : PySem.W.keepIn K (.ref (aa_f72 K)) = true := c.fact 312
  have xa1 : PySem.W.nsIn K mainGlobals "InvalidRow" = some (some (.ref (aa_cx1 K))) := HK.eqB_ok (c.fact 313)
  have xi1 : PySem.W.excInitIn K (aa_cx1 K) bm_ValueError "ValueError.__new__" = true := c.fact 314
  have xo1 : PySem.W.excOver K (aa_cx1 K) bm_ValueError = true := c.fact 315
  have xs1 : PySem.W.findIn K (.ref (aa_cx1 K)) "__setattr__" = some (some (.builtin "object.__setattr__")) := HK.eqB_ok (c.fact 316)
  have xg1 : PySem.W.findIn K (.ref (aa_cx1 K)) "__getattribute__" = some (some (.builtin "BaseException.__getattribute__")) := HK.eqB_ok (c.fact 317)
  have xh1 : PySem.W.findIn K (.ref (aa_cx1 K)) "__getattr__" = some none := HK.eqB_ok (c.fact 318)
  have xc1 : PySem.W.findIn K (.ref (aa_cx1 K)) "__init__" = some (some (.ref (aa_ix1 K))) := HK.eqB_ok (c.fact 319)
  have xf1 : PySem.W.isFn K (.ref (aa_ix1 K)) = true := c.fact 320
  have xk1 : PySem.W.keepIn K (.ref (aa_cx1 K)) = true := c.fact 321
  have xb1 : PySem.W.subIn K (.ref (aa_cx1 K)) (.type "BaseException") = some true := HK.eqB_ok (c.fact 322)
  have xt1 : PySem.W.typeIn K (.ref (aa_cx1 K)) = some (.type "type") := HK.eqB_ok (c.fact 323)
  have xd1 : PySem.W.hasDictIn K (aa_cx1 K) = true := c.fact 324
  obtain ⟨xoc1, xod1, xdc1, xpm1, xan1, xcd1, xct1, xsl1, xl1, xe1⟩ := HK.f_okN (c.fn 72) (c.fact 325)
  have xn1_1 : PySem.W.takerIn K (aa_cx1 K) "kind" = some none := HK.eqB_ok (c.fact 326)
  have xm1_1 : PySem.W.findIn K (.ref (aa_cx1 K)) "kind" = some none := HK.eqB_ok (c.fact 327)
  have xn2_1 : PySem.W.takerIn K (aa_cx1 K) "value" = some none := HK.eqB_ok (c.fact 328)
  have xm2_1 : PySem.W.findIn K (.ref (aa_cx1 K)) "value" = some none := HK.eqB_ok (c.fact 329)
  have xa2 : PySem.W.nsIn K mainGlobals "InvalidHolds" = some (some (.ref (aa_cx2 K))) := HK.eqB_ok (c.fact 330)
  have xi2 : PySem.W.excInitIn K (aa_cx2 K) bm_ValueError "ValueError.__new__" = true := c.fact 331
  have xo2 : PySem.W.excOver K (aa_cx2 K) bm_ValueError = true := c.fact 332
  have xs2 : PySem.W.findIn K (.ref (aa_cx2 K)) "__setattr__" = some (some (.builtin "object.__setattr__")) := HK.eqB_ok (c.fact 333)
  have xg2 : PySem.W.findIn K (.ref (aa_cx2 K)) "__getattribute__" = some (some (.builtin "BaseException.__getattribute__")) := HK.eqB_ok (c.fact 334)
  have xh2 : PySem.W.findIn K (.ref (aa_cx2 K)) "__getattr__" = some none := HK.eqB_ok (c.fact 335)
  have xc2 : PySem.W.findIn K (.ref (aa_cx2 K)) "__init__" = some (some (.ref (aa_ix2 K))) := HK.eqB_ok (c.fact 336)
  have xf2 : PySem.W.isFn K (.ref (aa_ix2 K)) = true := c.fact 337
  have xk2 : PySem.W.keepIn K (.ref (aa_cx2 K)) = true := c.fact 338
  have xb2 : PySem.W.subIn K (.ref (aa_cx2 K)) (.type "BaseException") = some true := HK.eqB_ok (c.fact 339)
  have xt2 : PySem.W.typeIn K (.ref (aa_cx2 K)) = some (.type "type") := HK.eqB_ok (c.fact 340)
  have xd2 : PySem.W.hasDictIn K (aa_cx2 K) = true := c.fact 341
  obtain ⟨xoc2, xod2, xdc2, xpm2, xan2, xcd2, xct2, xsl2, xl2, xe2⟩ := HK.f_okN (c.fn 73) (c.fact 342)
  have xn2 : PySem.W.takerIn K (aa_cx2 K) "value" = some none := HK.eqB_ok (c.fact 343)
  have xm2 : PySem.W.findIn K (.ref (aa_cx2 K)) "value" = some none := HK.eqB_ok (c.fact 344)
  have xy1 : PySem.W.isClsIn K (aa_cx1 K) = true := c.fact 345
  have xz1_1 : PySem.W.subIn K (.ref (aa_cx1 K)) (.ref (aa_cx1 K)) = some true := HK.eqB_ok (c.fact 346)
  have xz2_1 : PySem.W.subIn K (.ref (aa_cx2 K)) (.ref (aa_cx1 K)) = some false := HK.eqB_ok (c.fact 347)
  have xy2 : PySem.W.isClsIn K (aa_cx2 K) = true := c.fact 348
  have xz2_2 : PySem.W.subIn K (.ref (aa_cx2 K)) (.ref (aa_cx2 K)) = some true := HK.eqB_ok (c.fact 349)
  have z_abs : PySem.W.nsIn K mainGlobals "abs" = some none := HK.eqB_ok (c.fact 350)
  have z_all : PySem.W.nsIn K mainGlobals "all" = some none := HK.eqB_ok (c.fact 351)
  have z_bool : PySem.W.nsIn K mainGlobals "bool" = some none := HK.eqB_ok (c.fact 352)
  have z_divmod : PySem.W.nsIn K mainGlobals "divmod" = some none := HK.eqB_ok (c.fact 353)
  have z_enumerate : PySem.W.nsIn K mainGlobals "enumerate" = some none := HK.eqB_ok (c.fact 354)
  have z_int : PySem.W.nsIn K mainGlobals "int" = some none := HK.eqB_ok (c.fact 355)
  have z_isinstance : PySem.W.nsIn K mainGlobals "isinstance" = some none := HK.eqB_ok (c.fact 356)
  have z_len : PySem.W.nsIn K mainGlobals "len" = some none := HK.eqB_ok (c.fact 357)
  have z_list : PySem.W.nsIn K mainGlobals "list" = some none := HK.eqB_ok (c.fact 358)
  have z_max : PySem.W.nsIn K mainGlobals "max" = some none := HK.eqB_ok (c.fact 359)
  have z_min : PySem.W.nsIn K mainGlobals "min" = some none := HK.eqB_ok (c.fact 360)
  have z_range : PySem.W.nsIn K mainGlobals "range" = some none := HK.eqB_ok (c.fact 361)
  have z_repr : PySem.W.nsIn K mainGlobals "repr" = some none := HK.eqB_ok (c.fact 362)
  have z_set : PySem.W.nsIn K mainGlobals "set" = some none := HK.eqB_ok (c.fact 363)
  have z_sorted : PySem.W.nsIn K mainGlobals "sorted" = some none := HK.eqB_ok (c.fact 364)
  have z_str : PySem.W.nsIn K mainGlobals "str" = some none := HK.eqB_ok (c.fact 365)
  have z_tuple : PySem.W.nsIn K mainGlobals "tuple" = some none := HK.eqB_ok (c.fact 366)
  obtain ⟨t_MOST_BATCH, g_MOST_BATCH⟩ := HK.ns_int (c.fact 367)
  obtain ⟨t_MOST_GROUPS, g_MOST_GROUPS⟩ := HK.ns_int (c.fact 368)
  have g_FAILS : PySem.W.nsIn K mainGlobals "FAILS" = some (some (.ref (aa_T_FAILS K))) := HK.eqB_ok (c.fact 369)
  obtain ⟨k0_T_FAILS, k1_T_FAILS, k2_T_FAILS, d_T_FAILS, n_T_FAILS, l_T_FAILS, h_T_FAILS⟩ := HK.seq_is (c.fact 370)
  have g_ROW_KINDS : PySem.W.nsIn K mainGlobals "ROW_KINDS" = some (some (.ref (aa_T_ROW_KINDS K))) := HK.eqB_ok (c.fact 371)
  obtain ⟨k0_T_ROW_KINDS, k1_T_ROW_KINDS, k2_T_ROW_KINDS, k3_T_ROW_KINDS, d_T_ROW_KINDS, n_T_ROW_KINDS, l_T_ROW_KINDS, h_T_ROW_KINDS⟩ := HK.seq_is (c.fact 372)
  have g_WAY_WORDS : PySem.W.nsIn K mainGlobals "WAY_WORDS" = some (some (.ref (aa_T_WAY_WORDS K))) := HK.eqB_ok (c.fact 373)
  obtain ⟨k0_T_WAY_WORDS, k1_T_WAY_WORDS, k2_T_WAY_WORDS, k3_T_WAY_WORDS, d_T_WAY_WORDS, n_T_WAY_WORDS, l_T_WAY_WORDS, h_T_WAY_WORDS⟩ := HK.seq_is (c.fact 374)
  have g_LIFT_ROWS : PySem.W.nsIn K mainGlobals "LIFT_ROWS" = some (some (.ref (aa_T_LIFT_ROWS K))) := HK.eqB_ok (c.fact 375)
  obtain ⟨d_T_LIFT_ROWS, n_T_LIFT_ROWS, l_T_LIFT_ROWS, h_T_LIFT_ROWS⟩ := HK.seq_is (c.fact 376)
  obtain ⟨d_T0_LIFT_ROWS, n_T0_LIFT_ROWS, l_T0_LIFT_ROWS, h_T0_LIFT_ROWS⟩ := HK.seq_is (c.fact 377)
  obtain ⟨k0_T1_LIFT_ROWS, d_T1_LIFT_ROWS, n_T1_LIFT_ROWS, l_T1_LIFT_ROWS, h_T1_LIFT_ROWS⟩ := HK.seq_is (c.fact 378)
  obtain ⟨k0_T2_LIFT_ROWS, d_T2_LIFT_ROWS, n_T2_LIFT_ROWS, l_T2_LIFT_ROWS, h_T2_LIFT_ROWS⟩ := HK.seq_is (c.fact 379)
  obtain ⟨k0_T3_LIFT_ROWS, k1_T3_LIFT_ROWS, d_T3_LIFT_ROWS, n_T3_LIFT_ROWS, l_T3_LIFT_ROWS, h_T3_LIFT_ROWS⟩ := HK.seq_is (c.fact 380)
  obtain ⟨k0_T4_LIFT_ROWS, k1_T4_LIFT_ROWS, d_T4_LIFT_ROWS, n_T4_LIFT_ROWS, l_T4_LIFT_ROWS, h_T4_LIFT_ROWS⟩ := HK.seq_is (c.fact 381)
  obtain ⟨k0_T5_LIFT_ROWS, d_T5_LIFT_ROWS, n_T5_LIFT_ROWS, l_T5_LIFT_ROWS, h_T5_LIFT_ROWS⟩ := HK.seq_is (c.fact 382)
  have g_ROW_CHECKS : PySem.W.nsIn K mainGlobals "ROW_CHECKS" = some (some (.ref (aa_T_ROW_CHECKS K))) := HK.eqB_ok (c.fact 383)
  obtain ⟨es_ROW_CHECKS, n_ROW_CHECKS, h_ROW_CHECKS, y_ROW_CHECKS, _⟩ := HK.dic_ok (c.tab 0)
  have x_ROW_CHECKS_take : PySem.W.nsIn K (aa_T_ROW_CHECKS K) "take" = some (some (.ref (aa_f15 K))) := HK.eqB_ok (c.fact 384)
  have x_ROW_CHECKS_give : PySem.W.nsIn K (aa_T_ROW_CHECKS K) "give" = some (some (.ref (aa_f16 K))) := HK.eqB_ok (c.fact 385)
  have x_ROW_CHECKS_move : PySem.W.nsIn K (aa_T_ROW_CHECKS K) "move" = some (some (.ref (aa_f17 K))) := HK.eqB_ok (c.fact 386)
  have x_ROW_CHECKS_lift : PySem.W.nsIn K (aa_T_ROW_CHECKS K) "lift" = some (some (.ref (aa_f18 K))) := HK.eqB_ok (c.fact 387)
  exact all_mk X G hfa aC pg hd po sa mk kc n_parts x_class x_get x_tk x_mro x_ne x_cls x_ty aC_Tree pg_Tree hd_Tree po_Tree sa_Tree mk_Tree kc_Tree n_above n_struck x_class_Tree x_get_Tree x_tk_Tree x_mro_Tree x_ne_Tree x_cls_Tree x_ty_Tree aC_Course pg_Course hd_Course po_Course sa_Course mk_Course kc_Course nkind nwords ngroup nold nleaves_out a1 l1 c1 k1 a2 l2 c2 k2 a3 l3 c3 k3 a4 l4 c4 k4 a5 l5 c5 k5 a6 i6 l6 c6 k6 t6 u6_0 u6_1 a7 i7 l7 c7 k7 a8 i8 l8 c8 k8 a9 i9 l9 c9 k9 a10 l10 c10 k10 a11 l11 c11 k11 a12 l12 c12 k12 a13 l13 c13 k13 a14 l14 c14 k14 a15 l15 c15 k15 a16 l16 c16 k16 a17 l17 c17 k17 a18 l18 c18 k18 a19 l19 c19 k19 a20 l20 c20 k20 a21 l21 c21 k21 a22 l22 c22 k22 a23 l23 c23 k23 a24 l24 c24 k24 a25 l25 c25 k25 a26 l26 c26 k26 a27 l27 c27 k27 a28 i28 l28 c28 k28 kn28_take h_kd_take kn28_give h_kd_give kn28_move h_kd_move kn28_lift h_kd_lift kn28_fails kn28_shared kn28_holds h_kd_holds kn28_batch kn28_settles a29 i29 l29 c29 k29 a30 pA30 pB30 pC30 l30 c30 k30 a31 pA31 pB31 pC31 l31 c31 k31 a32 pA32 pB32 pC32 l32 c32 k32 a33 pA33 pB33 pC33 l33 c33 k33 a34 pA34 pB34 pC34 l34 c34 k34 a35 i35 l35 c35 k35 a36 i36 l36 c36 k36 a37 i37 l37 c37 k37 a38 i38 l38 c38 k38 t38 a39 i39 l39 c39 k39 a40 i40 l40 c40 k40 a41 l41 c41 k41 a42 l42 c42 k42 t42 a43 l43 c43 k43 t43 a44 l44 c44 k44 a45 l45 c45 k45 a46 l46 c46 k46 a47 l47 c47 k47 a48 l48 c48 k48 a49 l49 c49 k49 a50 l50 c50 k50 a51 l51 c51 k51 a52 l52 c52 k52 a53 l53 c53 k53 a54 l54 c54 k54 a55 l55 c55 k55 a56 l56 c56 k56 a57 l57 c57 k57 a58 l58 c58 k58 a59 l59 c59 k59 a60 l60 c60 k60 a61 l61 c61 k61 a62 l62 c62 k62 a63 l63 c63 k63 a64 l64 c64 k64 a65 l65 c65 k65 a66 l66 c66 k66 a67 l67 c67 k67 a68 l68 c68 k68 a69 l69 c69 k69 a70 l70 c70 tl70 tv70 tn70 k70 a71 l71 c71 k71 a72 l72 c72 k72 xa1 xi1 xo1 xs1 xg1 xh1 xc1 xf1 xk1 xb1 xt1 xd1 xl1 xe1 xn1_1 xm1_1 xn2_1 xm2_1 xa2 xi2 xo2 xs2 xg2 xh2 xc2 xf2 xk2 xb2 xt2 xd2 xl2 xe2 xn2 xm2 xy1 xz1_1 xz2_1 xy2 xz2_2 z_abs z_all z_bool z_divmod z_enumerate z_int z_isinstance z_len z_list z_max z_min z_range z_repr z_set z_sorted z_str z_tuple g_MOST_BATCH g_MOST_GROUPS g_FAILS h_T_FAILS g_ROW_KINDS h_T_ROW_KINDS g_WAY_WORDS h_T_WAY_WORDS g_LIFT_ROWS h_T_LIFT_ROWS h_T0_LIFT_ROWS h_T1_LIFT_ROWS h_T2_LIFT_ROWS h_T3_LIFT_ROWS h_T4_LIFT_ROWS h_T5_LIFT_ROWS g_ROW_CHECKS h_ROW_CHECKS y_ROW_CHECKS x_ROW_CHECKS_take x_ROW_CHECKS_give x_ROW_CHECKS_move x_ROW_CHECKS_lift
end Hd
open PySem PySem.W PySem.Calls PyProof.Rows in
set_option maxRecDepth 100000 in
set_option maxHeartbeats 0 in
theorem PySem.Challenge.cw_chargeways_k28_books_shown_holds : PySem.Challenge.rw_chargeways_k28_books_shown.Holds := by
  w_on; o_law
  refine HandSHeadRun.head_any (r := OpenLaw.row PySem.Challenge.rw_chargeways_k28_books_shown) (q := view (OpenLaw.row PySem.Challenge.rw_chargeways_k28_books_shown).prog [84, 86]) (H := Hd.hk) (ob := Hd.ob) (M := 9000) (loose := Hd.loose) (d := HandSHeadRun.topDef (OpenLaw.row PySem.Challenge.rw_chargeways_k28_books_shown).prog 86) (kwd := []) Hd.ob_eq
    (by kernel_rfl) (fun s => by kernel_rfl) Hd.run (by kernel_rfl) (by kernel_rfl) (by kernel_rfl) (by rfl) (by first | assumption | decide +kernel) (by decide +kernel) ⟨rfl, rfl, rfl, rfl, rfl, by decide +kernel⟩ ?hw ?hc
  case hw => w_witness2
  case hc =>
    refine HK.walkHT (l := PySem.Challenge.rw_chargeways_k28_books_shown) (k := 16) (x := "_law_script") (sp := My.sp_lawT) (xs := ["_law_asked"]) rfl (by kernel_rfl) ⟨rfl, by decide, by decide⟩ ?hx ?F (fun K ts H a ns hl ht hS => My.law_startT hS hl ht)
    case hx =>
      intro y hy
      simp only [List.mem_cons, List.not_mem_nil, or_false] at hy
      rcases hy with rfl <;> exact ⟨_, rfl⟩
    case F =>
      intro w mg fa h Y G hmg0
      obtain ⟨K, KX, c⟩ := Y
      have hmg : mg ("law" : PySem.Str) = some (.ref fa) := by
        have e : (HandSHeadRun.topDef (OpenLaw.row PySem.Challenge.rw_chargeways_k28_books_shown).prog 86).name = ("law" : PySem.Str) := by kernel_rfl
        rw [← e]
        exact hmg0
      obtain ⟨fd, ts, h1, h2, h3, h4⟩ := Hd.all_hk (l := PySem.Challenge.rw_chargeways_k28_books_shown) KX G hmg c
      exact ⟨K, fd, ts, KX, h1, h2, h3, h4⟩
#print axioms PySem.Challenge.cw_chargeways_k28_books_shown_holds
