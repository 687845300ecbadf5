import PyProof.Rows.All
import Wide.All
import OpenK.AllK
import Wide.FinOn
import HandS.ForMost
import HandS.Strs
import HandS.IsInst
import HandS.Evl
import HandS.MakeKw
import HandS.WideBits
import HandS.Star
import HandS.Walk
import HandS.Conv
import HandS.RaiseMore
import HandS.FStr
import HandS.Style
import HandS.More
import HandS.OwnEq
import PyProof.InstNe
import HandS.ListItems
import HandS.Defaults
import HandS.Comp
import HandS.CallLocal
import PyProof.P3Eq
import PyProof.MeetsIn
import PyProof.FString4
import PyProof.EqKinds
import PyProof.EqAt
import PyProof.DictUpdate
import PyProof.DictDisplay
import PyProof.DictCopy
import KE.KStar
import KE.KExcInit
import HandS.Zip
import HandS.TupAny
import HandS.TryMany
import HandS.Text
import HandS.Property
import HandS.MakeKwOnly
import HandS.Lambda
import HandS.Iter
import HandS.ExcOwn
import HandS.ExcIs
import HandS.ExcInit
import HandS.Exc
import HandS.EndTab
import HandS.DictEq
import HandS.Deep
import KE.GoesEnumKw
import PySem.Challenge.RW_chargeways_k80_forms_by_an_own_reading
set_option Elab.async false
set_option linter.all false
set_option maxRecDepth 100000
set_option maxHeartbeats 4000000
/-! Promises kept where no repr is under way (the guards are empty): calls, methods, makings, bodies. -/
namespace GL
open PySem PySem.Spec PyProof.Rows L2
abbrev Fre (A : Around) : Prop := A.guards = some []
theorem fre_make {A : Around} {C : Addr} {us : List Value} {kw : List (Str × Value)} (h : Fre A) : Fre (A.under (.builtin "type.__call__" ⟨.ref C :: us, kw⟩)) := by
  first | exact h | simpa [Around.under, Code.guards, pushGuards, Code.isGuard] using h
/-- as FnOk, where nothing is being shown -/
structure FnG (P : Program) (w : World) (K : PySem.W.Frag) (mg : Str → Option Value) (base : Heap) (CX : CXT) (k : Nat) (f : Addr) (fd : FuncData) (ps : List Str) (sp : Sp) : Prop where
  many : ∀ vs H Q E, sp vs H Q E → vs.length = ps.length
  goes : ∀ {A : Around} {outer : List Env} {s : Shared} {H : Hp} {args : Args} {us : List Value} {vs : List V} {Q : VK} {E : XK}, Fre A → Room k A →
    Env0 P w K mg base A outer s H → BindsTo s fd args (ps.zip us) → Vals vs us → sp vs H Q E → codeAny (model P w) A (.call (.ref f) args) (CR CX outer P w H s Q E) s
theorem FnG.weak {P : Program} {w : World} {K : PySem.W.Frag} {mg : Str → Option Value} {base : Heap} {CX : CXT} {k : Nat} {f : Addr} {fd : FuncData} {ps : List Str} {sp sp' : Sp} (F : FnG P w K mg base CX k f fd ps sp)
    (h : ∀ vs H Q E, sp' vs H Q E → sp vs H Q E) : FnG P w K mg base CX k f fd ps sp' :=
  ⟨fun vs H Q E q => F.many vs H Q E (h _ _ _ _ q), fun g r e b v q => F.goes g r e b v (h _ _ _ _ q)⟩
section
variable {X : Cx} {CX : CXT} {k : Nat} {f C : Addr} {fd : FuncData} {ps ks : List Str} {sp : Sp} {dvs : List V} {ds : List Value} {E : XK} {x m : Str} {p pos apos : Pos} {e o : Expr} {es : List Expr} {kws : List Keyword} {ta : TE} {t tk : TA}
  {g : List Value → List Value → List Value} {gV : List V → List V → List V} {pins : List (Addr × Obj)} {σ : L2.St} {H : Hp} {s : Shared} {Q : VK} {us ws : List Value} {vs zs : List V}
/-- a call's result, taken into the caller's frame -/
theorem landed {code : Code} (hx : Passes CX X E) (I : Inv X pins σ H s) (h : codeAny (model X.prog X.w) X.A code (CR CX X.stack X.prog X.w H s Q E) s) :
    codeAny (model X.prog X.w) X.A code (fun r s' => match r with
      | .ok (.ret u) => EP X pins σ Q u s'
      | .ok _ => False
      | .error e => X.xe e s') s := by
  refine codeAny_mono h ?_
  intro r s' hq
  match r, hq with
  | .error e, hq => exact hx pins σ H s e s' I hq
  | .ok (.ret u), hq => exact I.after hq
  | .ok .next, hq => exact hq
  | .ok .brk, hq => exact hq
  | .ok .cont, hq => exact hq
theorem ran {v : Value} {args : List Value} {kw : List (Str × Value)} (h : codeAny (model X.prog X.w) X.A (.call v ⟨args, kw⟩) (fun r s' => match r with
      | .ok (.ret u) => EP X pins σ Q u s'
      | .ok _ => False
      | .error e => X.xe e s') s) : wpAny (model X.prog X.w) X.A (call v args kw) (EP X pins σ Q) X.xe s := by
  refine wpAny_call (codeAny_mono h ?_)
  intro r s' hq
  match r, hq with
  | .error e, hq => exact hq
  | .ok (.ret u), hq => exact hq
theorem ranF (G : Fre X.A) (F : FnG X.prog X.w X.K X.mg X.base CX k f fd ps sp) (hr : Room k X.A) (hb : Binds X.K fd ps ds) (hd : Vals dvs ds) (hx : Passes CX X E) (I : Inv X pins σ H s) (r : Vals vs us) (h : sp (vs ++ dvs) H Q E) :
    wpAny (model X.prog X.w) X.A (call (.ref f) us) (EP X pins σ Q) X.xe s :=
  have ra := r.append hd
  ran (landed hx I (F.goes G hr I.env0 (hb s us I.kIn (ra.length.symm.trans (F.many _ _ _ _ h))) ra h))
theorem ranK (G : Fre X.A) (F : FnG X.prog X.w X.K X.mg X.base CX k f fd ps sp) (hr : Room k X.A) (hb : KBinds X.K fd ps ks g gV) (hx : Passes CX X E) (I : Inv X pins σ H s) (r : Vals vs us) (rz : Vals zs ws) (h : sp (gV vs zs) H Q E) :
    wpAny (model X.prog X.w) X.A (call (.ref f) us (ks.zip ws)) (EP X pins σ Q) X.xe s :=
  have ra := hb.rel r rz
  ran (landed hx I (F.goes G hr I.env0 (hb.to s us ws I.kIn (ra.length.symm.trans (F.many _ _ _ _ h))) ra h))
/-- f(e, ..) -/
theorem pc (G : Fre X.A) (F : FnG X.prog X.w X.K X.mg X.base CX k f fd ps sp) (hr : Room k X.A) (hg : Gl X x) (hm : X.mg x = some (.ref f)) (hk : PySem.W.keepIn X.K (.ref f) = true) (hb : Binds X.K fd ps ds) (hd : Vals dvs ds) (hx : Passes CX X E)
    (ha : PA X (e :: es) t) (ndb : (x == ("__debug__" : Str)) = false := by decide) (he : starEach (e :: es) X.env = (false, eval e X.env) :: starEach es X.env := by rfl) (hpl : (backTo pos (starEach es X.env)).any (·.1) = false := by rfl) :
    PE X (.Call (.Name x p) (e :: es) [] pos) (tCall sp dvs E t) where
  run := fun pins s σ H Q I h => wpAny_Call_Name_kw (ld_glob I hg hm
    (PySem.W.callWith_K I.ok.mod.kin hk (thn (ha.run pos pins s σ H _ I h) fun us s1 ⟨vs, H1, I1, r, q⟩ => ⟨I1.kIn, ranF G F hr hb hd hx I1 r q⟩) he hpl) ndb)
theorem pc0 (G : Fre X.A) (F : FnG X.prog X.w X.K X.mg X.base CX k f fd ps sp) (hr : Room k X.A) (hg : Gl X x) (hm : X.mg x = some (.ref f)) (hk : PySem.W.keepIn X.K (.ref f) = true) (hb : Binds X.K fd ps ds) (hd : Vals dvs ds) (hx : Passes CX X E)
    (ndb : (x == ("__debug__" : Str)) = false := by decide) : PE X (.Call (.Name x p) [] [] pos) (tCall sp dvs E tNil) where
  run := fun pins s σ H Q I h => wpAny_Call_Name_kw (ld_glob I hg hm (PySem.W.callWith_K0 I.kIn hk (ranF (us := []) G F hr hb hd hx I .nil h)) ndb)
/-- o.m(e, ..) -/
theorem pm {pl : Sem Bool} (G : Fre X.A) (he : PE X o ta) (c : Cls X.K C) (hm : Meth X.K C m f) (F : FnG X.prog X.w X.K X.mg X.base CX k f fd ps sp) (hr : Room k X.A) (hb : Binds X.K fd ps ds) (hd : Vals dvs ds) (hx : Passes CX X E) (ha : PA X (e :: es) t)
    (hse : starEach (e :: es) X.env = (false, eval e X.env) :: starEach es X.env := by rfl) (hpl : (backTo pos (starEach es X.env)).any (·.1) = false := by rfl)
    (hev : eval (.Call (.Attribute o m apos) (e :: es) [] pos) X.env = (do
      let ov ← eval o X.env
      standAt apos.atName
      let (fn, frst) ← holding [ov] (getMethod ov m pl)
      callWith pos fn frst (backTo pos (starEach (e :: es) X.env)) (backToKw pos (keywordEach [] X.env))) := by rfl) : PE X (.Call (.Attribute o m apos) (e :: es) [] pos) (tMeth C m sp dvs E ta t) := by
  constructor
  intro pins s σ H Q I h
  refine PySem.W.methodCall_KW (pl := pl) (thn (he.run pins s σ H _ I h) ?_) hev
  rintro u s1 ⟨v, H1, I1, rv, a, dx, fs, rfl, ea, l, q⟩
  cases rv
  refine getmeth_ok I1 ea c hm l (PySem.W.callWith_K (first := [.ref a]) (h₀ := X.base) I.ok.mod.kin hm.kp (thn (ha.run pos pins s1 σ H1 _ I1 q) ?_) hse hpl)
  rintro us s2 ⟨vs, H2, I2, r, q2⟩
  exact ⟨I2.kIn, ranF (us := .ref a :: us) (vs := .ref a :: vs) G F hr hb hd hx I2 (.cons rfl r) q2⟩
theorem pm0 {pl : Sem Bool} (G : Fre X.A) (he : PE X o ta) (c : Cls X.K C) (hm : Meth X.K C m f) (F : FnG X.prog X.w X.K X.mg X.base CX k f fd ps sp) (hr : Room k X.A) (hb : Binds X.K fd ps ds) (hd : Vals dvs ds) (hx : Passes CX X E)
    (hev : eval (.Call (.Attribute o m apos) [] [] pos) X.env = (do
      let ov ← eval o X.env
      standAt apos.atName
      let (fn, frst) ← holding [ov] (getMethod ov m pl)
      callWith pos fn frst (backTo pos (starEach [] X.env)) (backToKw pos (keywordEach [] X.env))) := by rfl) : PE X (.Call (.Attribute o m apos) [] [] pos) (tMeth C m sp dvs E ta tNil) := by
  constructor
  intro pins s σ H Q I h
  refine PySem.W.methodCall_KW (pl := pl) (thn (he.run pins s σ H _ I h) ?_) hev
  rintro u s1 ⟨v, H1, I1, rv, a, dx, fs, rfl, ea, l, q⟩
  cases rv
  exact getmeth_ok I1 ea c hm l (PySem.W.callWith_K0 (first := [.ref a]) I1.kIn hm.kp (ranF (us := [.ref a]) (vs := [.ref a]) G F hr hb hd hx I1 (.cons rfl .nil) q))
def tMethK (C : Addr) (m : Str) (sp : Sp) (gV : List V → List V → List V) (E : XK) (ta : TE) (tk : TA) : TE := fun σ H Q => ta σ H fun x H1 => ∃ a dx fs, x = .ref a ∧ H1 a = some (.ins C dx fs) ∧ fs.lookup m = none ∧
  tk σ H1 fun zs H2 => sp (gV [x] zs) H2 Q E
/-- o.m(k = e, ..) -/
theorem pmK {pl : Sem Bool} (G : Fre X.A) (he : PE X o ta) (c : Cls X.K C) (hm : Meth X.K C m f) (F : FnG X.prog X.w X.K X.mg X.base CX k f fd ps sp) (hr : Room k X.A) (hb : KBinds X.K fd ps ks g gV) (hx : Passes CX X E) (hkw : PK X kws tk)
    (hall : (backToKw pos (keywordEach kws X.env)).all (·.1.isSome) = true := by rfl) (hks : (backToKw pos (keywordEach kws X.env)).filterMap (·.1) = ks := by rfl)
    (hpl : (backToKw pos (keywordEach kws X.env)).any (·.1.isNone) = false := by rfl)
    (hev : eval (.Call (.Attribute o m apos) [] kws pos) X.env = (do
      let ov ← eval o X.env
      standAt apos.atName
      let (fn, frst) ← holding [ov] (getMethod ov m pl)
      callWith pos fn frst (backTo pos (starEach [] X.env)) (backToKw pos (keywordEach kws X.env))) := by rfl) :
    PE X (.Call (.Attribute o m apos) [] kws pos) (tMethK C m sp gV E ta tk) := by
  constructor
  intro pins s σ H Q I h
  refine PySem.W.methodCall_KW (pl := pl) (thn (he.run pins s σ H _ I h) ?_) hev
  rintro u s1 ⟨v, H1, I1, rv, a, dx, fs, rfl, ea, l, q⟩
  cases rv
  refine getmeth_ok I1 ea c hm l (PySem.W.callWith_KW0 (first := [.ref a]) (h₀ := X.base) I.ok.mod.kin hm.kp hall (thn (hkw.run pos pins s1 σ H1 _ I1 q) ?_) hpl)
  rintro ws s2 ⟨zs, H2, I2, rz, q2⟩
  rw [hks]
  exact ⟨I2.kIn, ranK (us := [.ref a]) (vs := [.ref a]) G F hr hb hx I2 (.cons rfl .nil) rz q2⟩
/-- C(..): the instance is made, then its __init__ -/
theorem ranM (G : Fre X.A) (M : Mk X.K C f) (F : FnG X.prog X.w X.K X.mg X.base CX k f fd ps sp) (hr : Room (k + 1) X.A) (hb : Binds X.K fd ps ds) (hd : Vals dvs ds) (hx : Passes CX X E) (I : Inv X pins σ H s) (r : Vals vs us)
    (h : ∀ y dy, H y = none → H dy = none → dy ≠ y → sp (.ref y :: (vs ++ dvs)) (upd (upd H dy (.own y)) y (.ins C dy [])) (fun v H2 => v = .non ∧ Q (.ref y) H2) E) : wpAny (model X.prog X.w) X.A (call (.ref C) us) (EP X pins σ Q) X.xe s := by
  have h0 := h (s.heap.objs.size + 1) s.heap.objs.size (I.hok.fresh (Nat.le_succ _)) (I.hok.fresh (Nat.le_refl _)) (Nat.ne_of_lt (Nat.lt_succ_self _))
  have J := Inv.made (C := C) I
  have rz : Vals (V.ref (s.heap.objs.size + 1) :: (vs ++ dvs)) (Value.ref (s.heap.objs.size + 1) :: (us ++ ds)) := .cons rfl (r.append hd)
  have hl : (Value.ref (s.heap.objs.size + 1) :: us ++ ds).length = ps.length := rz.length.symm.trans (F.many _ _ _ _ h0)
  have run := F.goes (fre_make G) (hr.make C us []) (J.env0.make C us []) (hb _ (Value.ref (s.heap.objs.size + 1) :: us) J.kIn hl) rz h0
  refine wpAny_call (make_map (f := f) I.kIn M.makes M.init (beq_iff_eq.mp M.fn) (codeAny_mono run ?_))
  intro r s' z
  match r, z with
  | .error e, z => exact hx pins σ _ _ e s' J z
  | .ok (.ret u), z =>
    obtain ⟨v, H', I3, rv, ev, q3⟩ := J.after z
    cases ev
    exact And.intro rv ⟨V.ref (s.heap.objs.size + 1), H', I3, rfl, q3⟩
  | .ok .next, z => exact z.elim
  | .ok .brk, z => exact z.elim
  | .ok .cont, z => exact z.elim
theorem pk (G : Fre X.A) (M : Mk X.K C f) (F : FnG X.prog X.w X.K X.mg X.base CX k f fd ps sp) (hr : Room (k + 1) X.A) (hg : Gl X x) (hm : X.mg x = some (.ref C)) (hb : Binds X.K fd ps ds) (hd : Vals dvs ds) (hx : Passes CX X E)
    (ha : PA X (e :: es) t) (ndb : (x == ("__debug__" : Str)) = false := by decide) (he : starEach (e :: es) X.env = (false, eval e X.env) :: starEach es X.env := by rfl) (hpl : (backTo pos (starEach es X.env)).any (·.1) = false := by rfl) :
    PE X (.Call (.Name x p) (e :: es) [] pos) (tMake C sp dvs E t) where
  run := fun pins s σ H Q I h => wpAny_Call_Name_kw (ld_glob I hg hm
    (PySem.W.callWith_K I.ok.mod.kin M.kp (thn (ha.run pos pins s σ H _ I h) fun us s1 ⟨vs, H1, I1, r, q⟩ => ⟨I1.kIn, ranM G M F hr hb hd hx I1 r q⟩) he hpl) ndb)
theorem pk0 (G : Fre X.A) (M : Mk X.K C f) (F : FnG X.prog X.w X.K X.mg X.base CX k f fd ps sp) (hr : Room (k + 1) X.A) (hg : Gl X x) (hm : X.mg x = some (.ref C)) (hb : Binds X.K fd ps ds) (hd : Vals dvs ds) (hx : Passes CX X E)
    (ndb : (x == ("__debug__" : Str)) = false := by decide) : PE X (.Call (.Name x p) [] [] pos) (tMake C sp dvs E tNil) where
  run := fun pins s σ H Q I h => wpAny_Call_Name_kw (ld_glob I hg hm (PySem.W.callWith_K0 I.kIn M.kp (ranM (us := []) G M F hr hb hd hx I .nil h)) ndb)
end
/-- a body keeps its promise -/
theorem bodied {CX : CXT} {P : Program} {w : World} {K : PySem.W.Frag} {mg : Str → Option Value} {base : Heap} {k : Nat} {f : Addr} {name qual : Str} {params : Arguments} {body : List Stmt} {scope : Scope} {dV kV doc pm cdv ct oc : Value} {an od : Option Addr}
    {sl0 : Array (Option Value)} {N ps : List Str} {sp : Sp} (lk : K.lookup f = some ⟨oc, od, .func (PySem.W.fnOf name qual params body scope dV kV doc pm an cdv ct), sl0⟩) (hcd : PySem.W.codeIn K cdv qual = true) (S : FnScope N ps scope)
    (many : ∀ vs H Q E, sp vs H Q E → vs.length = ps.length)
    (hb : ∀ (A : Around) (outer : List Env) (s : Shared) (H : Hp) (vs : List V) (Q : VK) (E : XK), Fre (A.deeper (envOfC qual scope s.heap.objs.size f cdv)) → Room k (A.deeper (envOfC qual scope s.heap.objs.size f cdv)) → sp vs H Q E →
      ∃ tr, PSs (cxOf CX P w K mg base N qual scope f cdv A outer s H E) body tr ∧ tr { nx := fun _ H' => Q .non H', rt := Q } (start N vs) H) :
    FnG P w K mg base CX (k + 1) f (PySem.W.fnOf name qual params body scope dV kV doc pm an cdv ct) ps sp := by
  refine ⟨many, ?_⟩
  intro A outer s H args us vs Q E hgd hr e0 hbd r hsp
  have KI : K.In s.heap := e0.mod.kin.keeps fun b o e => (e0.bs b o e).1
  have kinds : ∀ y ∈ ps.zip us, scope.names.lookup y.1 = some .local ∨ (scope.names.lookup y.1 = some .cell ∧ ((cellsFrom (s.heap.objs.size + 1) scope.names []).lookup y.1).isSome = true) := by
    rintro ⟨n, v⟩ hy
    exact (S.par n (List.of_mem_zip hy).1).imp id fun q => ⟨q, PySem.W.cellsFrom_some _ _ _ (.inl q)⟩
  refine codeAny_call_function hr.depth (KI _ _ lk) rfl S.co S.gen rfl (PySem.W.codeRec_of KI hcd) (hbd _ _ _ _ (wpAny_newFunctionEnv_cells S.kind kinds ?_))
  rintro env rfl s1 x
  refine ⟨(e0.mod.nolimit.keeps fun b o e => (e0.bs b o e).1).keeps x.toInCall.keep, codeAny_func ?_⟩
  obtain ⟨t, ht, hq⟩ := hb A outer s H vs Q E hgd (hr.deeper _) hsp
  have I := inv_start (CX := CX) (E := E) S hr.hd e0 (many _ _ _ _ hsp) r x
  refine wpAny_mono (ht.run [] s1 (start N vs) H _ I hq) ?_ (fun _ _ z => z)
  intro fl s' z
  match fl, z with
  | .ret u, z =>
    obtain ⟨v, σ', H', J, rv, q⟩ := z
    exact ⟨v, H', J.os, J.bare, J.base, J.hok, rv, q⟩
  | .next, z =>
    obtain ⟨σ', H', J, q⟩ := z
    exact ⟨V.non, H', J.os, J.bare, J.base, J.hok, rfl, q⟩
  | .brk, z => exact z.elim fun _ z => z.elim fun _ z => z.2.elim
  | .cont, z => exact z.elim fun _ z => z.elim fun _ z => z.2.elim
section
variable {P : Program} {w : World} {K : PySem.W.Frag} {mg : Str → Option Value} {base : Heap} {x qual : Str} {st : Stmt} {f : Addr} {fd : FuncData} {N ps : List Str} {k : Nat} {sp : Sp} {CX : CXT}
theorem okG (F : L2.Fun K x qual st f fd) (S : FnScope N ps (defScope st)) (many : ∀ vs H Q E, sp vs H Q E → vs.length = ps.length)
    (hb : ∀ (cdv : Value) (A : Around) (outer : List Env) (s : Shared) (H : Hp) (vs : List V) (Q : VK) (E : XK), Fre (A.deeper (envOfC qual (defScope st) s.heap.objs.size f cdv)) → Room k (A.deeper (envOfC qual (defScope st) s.heap.objs.size f cdv)) → sp vs H Q E →
      ∃ t, PSs (cxOf CX0 P w K mg base N qual (defScope st) f cdv A outer s H E).nox (defBody st) t ∧ t { nx := fun _ H' => Q .non H', rt := Q } (start N vs) H) : FnG P w K mg base CX0 (k + 1) f fd ps sp := by
  obtain ⟨c0, o0, kV, doc, pm, an, cdv, ct, s0, rfl, lk, hcd⟩ := F.ex
  exact bodied lk hcd S many fun A outer s H vs Q E g hr hsp => (hb cdv A outer s H vs Q E g hr hsp).imp fun t z => ⟨z.1.nox, z.2⟩
theorem okGD {dvs : List V} {kws : List (Str × V)} (F : L2.FunD K x qual (defArgs st) (defBody st) (defScope st) dvs kws f fd) (S : FnScope N ps (defScope st)) (many : ∀ vs H Q E, sp vs H Q E → vs.length = ps.length)
    (hb : ∀ (cdv : Value) (A : Around) (outer : List Env) (s : Shared) (H : Hp) (vs : List V) (Q : VK) (E : XK), Fre (A.deeper (envOfC qual (defScope st) s.heap.objs.size f cdv)) → Room k (A.deeper (envOfC qual (defScope st) s.heap.objs.size f cdv)) → sp vs H Q E →
      ∃ t, PSs (cxOf CX0 P w K mg base N qual (defScope st) f cdv A outer s H E).nox (defBody st) t ∧ t { nx := fun _ H' => Q .non H', rt := Q } (start N vs) H) : FnG P w K mg base CX0 (k + 1) f fd ps sp := by
  obtain ⟨c0, o0, dV, kV, doc, pm, an, cdv, ct, s0, rfl, lk, hcd, _, _⟩ := F.ex
  exact bodied lk hcd S many fun A outer s H vs Q E g hr hsp => (hb cdv A outer s H vs Q E g hr hsp).imp fun t z => ⟨z.1.nox, z.2⟩
end
end GL
namespace GL
open PySem PySem.Spec PyProof.Rows L2
section
variable {X : Cx} {CX : CXT} {k : Nat} {f C : Addr} {fd : FuncData} {sp : Sp} {E : XK}
/-- len(o), o of a class with an own __len__ -/
theorem call_lenG (G : Fre X.A) (F : FnG X.prog X.w X.K X.mg X.base CX k f fd ["self"] sp) (hr : Room (k + 1) X.A) (hb : Binds X.K fd ["self"] []) (hs : PySem.W.findIn X.K (.ref C) "__len__" = some (some (.ref f))) (hf : PySem.W.isFn X.K (.ref f) = true) (hx : Passes CX X E) :
    CallR X (.builtin "len") (fun xs H Q => ∃ a dx fs, xs = [.ref a] ∧ H a = some (.ins C dx fs) ∧ sp [.ref a] H (fun v H' => ∃ n : Nat, v = .int (n : Int) ∧ n < 1000000 ∧ Q (.int (n : Int)) H') E) := by
  intro pins s σ H xs us Q I r h
  obtain ⟨a, dx, fs, rfl, ha, h⟩ := h
  cases r with
  | cons r rt =>
    cases rt
    cases r
    obtain ⟨mA, O, _⟩ := ins_get I.hok ha
    obtain ⟨m, fr⟩ := I.fr
    obtain ⟨od, es, ep, hod, _⟩ := O.ns
    refine PySem.W.len_K (od := some od) fr I.ok.mod.kin ⟨O.obj, rfl, rfl, hod⟩ hs hf ?_
    refine wpAny_call (codeAny_mono (F.goes (A := X.A.in1) (outer := X.stack) (vs := [.ref a]) (us := [.ref a]) G hr.in1 I.env0.in1 (hb s [.ref a] I.kIn rfl) (.cons rfl .nil) h) ?_)
    intro r s' z
    match r, z with
    | .error e, z => exact hx pins σ H s e s' I z
    | .ok (.ret u), z =>
      obtain ⟨v, H', I3, rv, n, rfl, hn, q⟩ := I.after z
      obtain ⟨t, rfl⟩ := rv
      refine ⟨⟨by omega, by omega⟩, ⟨.int n, H', I3.tok _, ⟨_, rfl⟩, q⟩⟩
/-- repr(x) of a list or tuple of data -/
def rRepr (K : PySem.W.Frag) : List V → Hp → VK → Prop := fun xs H Q => ∃ v d, xs = [v] ∧ Dp K H v d ∧ isDisplay d = true ∧ d.showable = true ∧ d.hasDict = false ∧ d.depth ≤ 60 ∧ d.shown.length ≤ sizeLine ∧ Q (.str d.shown) H
theorem call_repr (G : Fre X.A) (hu : X.A.units + 64 < cLine) : CallR X (.builtin "repr") (rRepr X.K) := by
  intro pins s σ H xs us Q I r h
  obtain ⟨v, d, rfl, hd, h1, h2, h3, h4, h5, q⟩ := h
  cases r with
  | cons r rt =>
    cases rt
    obtain ⟨as, rd⟩ := Dp.reads I d v _ hd r
    obtain ⟨a, rfl⟩ := isRef_of_reads rd h1
    exact repr_of_reads' rd h2 (PyData.noDict_hsm h3) G (by omega) (fun _ _ e => e) (fun h' u tk hk => ⟨.str d.shown, H, I.kept hk, ⟨u, rfl⟩, q⟩) h5
end
/-! ### enumerate from any start, over lists and tuples -/
structure Src (K : PySem.W.Frag) (SQ : Hp → Addr → List V → Prop) (HI : Heap → Addr → Array Value → Prop) (IT : Heap → Addr → Addr → Nat → Prop) : Prop where
  at_ : ∀ {X : Cx} {pins : List (Addr × Obj)} {σ : L2.St} {H : Hp} {s : Shared} {a : Addr} {xs : List V}, X.K = K → L2.Inv X pins σ H s → SQ H a xs → ∃ its : List Value, Vals xs its ∧ HI s.heap a its.toArray
  inj : ∀ {X : Cx} {pins : List (Addr × Obj)} {σ : L2.St} {H : Hp} {s : Shared} {a : Addr} {xs ys : List V}, X.K = K → L2.Inv X pins σ H s → SQ H a xs → SQ H a ys → xs = ys
  obj : ∀ {h : Heap} {it a : Addr} {i : Nat}, IT h it a i → ∃ o, h.get? it = some o ∧ ∀ v, o.data ≠ .cell v
  keep : ∀ {h h' : Heap} {it a : Addr} {i : Nat}, IT h it a i → (∀ o, h.get? it = some o → h'.get? it = some o) → IT h' it a i
  ne1 : ∀ {h : Heap} {it a b : Addr} {i : Nat} {vs : Array Value}, IT h it a i → HI h b vs → b ≠ it
  ne2 : ∀ {h : Heap} {e x a : Addr} {k : Int} {old : Value} {vs : Array Value}, IsEnum h e x k old → HI h a vs → a ≠ e
  dr : ∀ {prog : Program} {w : World} {A : Around}, A.handled = none → ∀ (it l : Addr), l ≠ it → ∀ vs : Array Value, Draws prog w A it [it, l] vs.size (fun i v => vs[i]? = some v) (fun i h => IT h it l i ∧ HI h l vs)
theorem src_list (K : PySem.W.Frag) : Src K (SqL K) (fun h a vs => h.IsList a vs) (fun h it a i => h.IsListIter it a i) where
  at_ := fun e I h => by subst e; obtain ⟨its, r, p, _⟩ := I.list h; exact ⟨its, r, p.isList⟩
  inj := fun e I h h' => by subst e; exact I.list_inj h h'
  obj := fun ⟨o, ho, hc, hd⟩ => ⟨o, ho, fun v q => by rw [hd] at q; cases q⟩
  keep := fun h k => h.at k
  ne1 := fun ⟨o, ho, hc, hd⟩ ⟨o', ho', hc', n, hd'⟩ e => by subst e; rw [ho] at ho'; cases ho'; rw [hd] at hd'; cases hd'
  ne2 := fun he ⟨o', ho', hc', n, hd'⟩ e => by subst e; rw [he] at ho'; cases ho'; cases hd'
  dr := fun hh it l hne vs => Draws.list hh it l hne vs
theorem src_tup (K : PySem.W.Frag) : Src K (SqT K) (fun h a vs => h.IsTuple a vs) (fun h it a i => h.IsTupleIter it a i) where
  at_ := fun e I h => by subst e; obtain ⟨its, r, p, _⟩ := I.tuple h; exact ⟨its, r, p⟩
  inj := fun e I h h' => by subst e; exact I.tuple_inj h h'
  obj := fun ⟨o, ho, hc, hd⟩ => ⟨o, ho, fun v q => by rw [hd] at q; cases q⟩
  keep := fun h k => h.at k
  ne1 := fun ⟨o, ho, hc, hd⟩ ⟨o', ho', hc', n, hd'⟩ e => by subst e; rw [ho] at ho'; cases ho'; rw [hd] at hd'; cases hd'
  ne2 := fun he ⟨o', ho', hc', n, hd'⟩ e => by subst e; rw [he] at ho'; cases ho'; cases hd'
  dr := fun hh it l hne vs => Draws.tuple hh it l hne vs
section
variable {K : PySem.W.Frag} {SQ : Hp → Addr → List V → Prop} {HI : Heap → Addr → Array Value → Prop} {IT : Heap → Addr → Addr → Nat → Prop}
def ItE (SQ : Hp → Addr → List V → Prop) (a : Addr) (k : Int) : It where
  go := fun i H => ∃ (xs : List V) (x : V), SQ H a xs ∧ xs[i]? = some x
  yld := fun i H v H' => ∃ T x, v = .ref T ∧ H T = none ∧ H' = upd H T (.tup [.int (k + (i : Nat)), x]) ∧ ∀ xs, SQ H a xs → xs[i]? = some x
  stop := fun i H => ∃ xs : List V, SQ H a xs ∧ xs.length = i
theorem turn_enumE {P : Program} {w : World} {elts : List Expr} {kk : Nat} {tpos : Pos} (S : Src K SQ HI IT) (k : Int) (a e it : Addr) :
    Turn P w K (.Tuple elts kk tpos) (ItE SQ a k) [e, it] e (fun i h => (∃ old, IsEnum h e it (k + (i : Nat)) old) ∧ IT h it a i ∧ e ≠ it) where
  mem := List.mem_cons_self
  obj := fun i h st b hb => by
    obtain ⟨⟨old, he⟩, hit, _⟩ := st
    rcases List.mem_cons.mp hb with rfl | hb
    · exact ⟨_, he, fun v q => nomatch q⟩
    · cases List.mem_singleton.mp hb
      exact S.obj hit
  keep := fun i h h' st k => by
    obtain ⟨⟨old, he⟩, hit, hne⟩ := st
    exact ⟨⟨old, k e (by simp) _ he⟩, S.keep hit fun o q => k it (by simp) o q, hne⟩
  item := by
    intro X hP hw hK hc i pins s σ H E I hf st hg
    subst hP hw
    obtain ⟨⟨old, he⟩, hit, hne⟩ := st
    obtain ⟨xs, x, hq, hx⟩ := hg
    obtain ⟨its, rv, p⟩ := S.at_ hK I hq
    obtain ⟨u, hu, ru⟩ := rv.get hx
    have hel : e < s.heap.objs.size := Heap.lt_size he
    have hil : it < s.heap.objs.size := by
      obtain ⟨o, q, _⟩ := S.obj hit
      exact Heap.lt_size q
    have d1 := S.ne1 hit p
    have d2 := S.ne2 he p
    have hu' : its.toArray[i]? = some u := by simpa using hu
    have hlt : i < its.toArray.size := (Array.getElem?_eq_some_iff.mp hu').1
    have hin : (X.A.in1).handled = none := I.ok.hd hc
    refine wpAny_pyNext_enum_itemC (S.dr (A := X.A.in1) hin it a d1 its.toArray) he ⟨hit, p⟩ hlt hne (by
      intro z
      rcases List.mem_cons.mp z with z | z
      · exact hne z
      · exact d2 (List.mem_singleton.mp z).symm) fun y h' tk hy ho hst hT hsz hk => ?_
    have ey : y = u := Option.some.inj (hy.symm.trans hu')
    subst ey
    refine ⟨_, rfl, wpAny_letOwnedTupleGo_enum (s := { s with heap := h', toks := tk + 1 }) ho fun h2 he2 sb => ?_⟩
    have hT2 : h2.get? s.heap.objs.size = some { cls := .type "tuple", data := .seq #[.int (k + (i : Nat)) tk, y] } := (sb.2 _ (Nat.ne_of_gt hel)).trans hT
    have new : ObjOk X.prog X.w (upd H s.heap.objs.size (.tup [.int (k + (i : Nat)), x])) h2 s.heap.objs.size (.tup [.int (k + (i : Nat)), x]) :=
      ⟨show 2 ≤ sizeLine by decide, [.int (k + (i : Nat)) tk, y], .cons ⟨_, rfl⟩ (.cons ru .nil), ⟨_, hT2, rfl, _, rfl⟩⟩
    have J := I.turnedNew (ch := [e, it]) (h' := h2) (t' := tk + 1) (fun b ob hb q => (sb.2 b (fun z => hb (by simp [z]))).trans (hk b ob (fun z => hb (by simp [z])) (fun z => hb (by simp [z])) q)) hf (Nat.le_refl _) new
    refine ⟨.ref s.heap.objs.size, _, J, rfl, ⟨_, x, rfl, I.hok.fresh (Nat.le_refl _), rfl, fun ys hy => ?_⟩, ⟨⟨y, ?_⟩, S.keep hst.1 fun o q => (sb.2 it (Ne.symm hne)).trans q, hne⟩, fun b hb => ?_⟩
    · rw [S.inj hK I hy hq]
      exact hx
    · have e1 : k + ((i + 1 : Nat) : Int) = k + (i : Nat) + 1 := by omega
      rw [e1]
      exact he2
    · have hb' : b < s.heap.objs.size := by
        rcases List.mem_cons.mp hb with rfl | hb
        · exact hel
        · cases List.mem_singleton.mp hb
          exact hil
      rw [upd_ne (Nat.ne_of_lt hb')]
      exact (hf b hb).1
  done := by
    intro X hP hw hK hc i pins s σ H E I hf st hg
    subst hP hw
    obtain ⟨⟨old, he⟩, hit, hne⟩ := st
    obtain ⟨xs, hq, hx⟩ := hg
    obtain ⟨its, rv, p⟩ := S.at_ hK I hq
    obtain ⟨f0, f1, f2, f3, f4, f5⟩ := hf it (by simp)
    have hl := rv.length
    have d1 := S.ne1 hit p
    have hin : (X.A.in1).handled = none := I.ok.hd hc
    have hsz : its.toArray.size = i := by
      rw [List.size_toArray, ← hl, hx]
    subst hsz
    exact wpAny_pyNext_enum_endD (S.dr (A := X.A.in1) hin it a d1 its.toArray) he ⟨hit, p⟩ fun h' eb => ⟨rfl, I.turned (t' := s.toks) (fun b o hb q => eb b o hb q) f0 f1 f3 f4 f5⟩
  self := fun A i s Q E st h => by
    obtain ⟨⟨_, he⟩, _⟩ := st
    exact wpAny_pyIter_enum he h
theorem walk_enumE {a : Addr} {xs : List V} {k : Int} : Walk (ItE SQ a k) xs.length (fun H => SQ H a xs) (YPair (fun i => some (.int (k + (i : Nat)))) (fun i => xs[i]?)) := by
  refine ⟨fun i H hi q => ⟨xs, xs[i], q, by simp [hi]⟩, fun H q => ⟨xs, q, rfl⟩, fun i H v H' hi q y => ?_⟩
  obtain ⟨T, x, h1, h2, h3, h4⟩ := y
  exact ⟨T, .int (k + (i : Nat)), x, h1, h2, h3, rfl, h4 xs q⟩
end
set_option maxHeartbeats 1000000 in
theorem meets_enum0 {v : Value} {o : Obj} {H : Heap → Prop} (B : Begins v o H) :
    Meets (Builtin.«enumerate.__new__» ⟨[.type "enumerate", v], []⟩) (fun _ R s => H s.heap ∧
      R (.ok (.ret (.ref (s.heap.push o).objs.size))) { s with heap := (s.heap.push o).push { cls := .type "enumerate", data := .fields #[.none, .bool false, .ref s.heap.objs.size, rawInt 0, .none, .none] } }) :=
  .of_wp fun prog w A R s h => by
    obtain ⟨hp, g, d, tk, os⟩ := s
    obtain ⟨h1, h⟩ := h
    have hsub := sub_enumerate
    have q1 : ∀ {A' : Around} {E Q : Value → Shared → Prop}, Q (.ref hp.objs.size) ⟨hp.push o, g, d, tk, os⟩ → wpAny (model prog w) A' (pyIter v) Q E ⟨hp, g, d, tk, os⟩ :=
      fun q => B.iter prog w _ _ ⟨hp, g, d, tk, os⟩ _ h1 q
    wp_walk using q1
    refine wpAny_stack_any fun st => wpAny_pure ?_
    split
    · rename_i c _ _ _ _ _
      cases (c == Value.type "enumerate")
      · wp_walk using q1
        exact ⟨_, rfl, h⟩
      · wp_walk using q1
        exact ⟨_, rfl, h⟩
    · wp_walk using q1
      exact ⟨_, rfl, h⟩
section
variable {prog : Program} {w : World} {A : Around} {Er : Value → Shared → Prop} {s : Shared}
theorem enum_begins0 {v : Value} {o : Obj} {H : Heap → Prop} {Q : Value → Shared → Prop} (B : Begins v o H) (h1 : H s.heap)
    (h : ∀ h', IsEnum h' (s.heap.objs.size + 1) s.heap.objs.size 0 .none → h'.get? s.heap.objs.size = some o → (∀ b o, s.heap.get? b = some o → h'.get? b = some o) → Q (.ref (s.heap.objs.size + 1)) { s with heap := h' }) :
    wpAny (model prog w) A (call (.type "enumerate") [v]) Q Er s := by
  refine callType_new F.called_enumerate (by decide) (F.typeCall_enumerate_1 _) (F.newCall_enumerate_1 _) (fun obj => F.args_object_init_2 obj _) F.entry_enumerate_new (meets_enum0 B) ⟨h1, ?_⟩
  have hone : (s.heap.push o).objs.size = s.heap.objs.size + 1 := Heap.size_push ..
  show _ ∧ _
  rw [hone]
  have he : IsEnum ((s.heap.push o).push { cls := .type "enumerate", data := .fields #[.none, .bool false, .ref s.heap.objs.size, rawInt 0, .none, .none] }) (s.heap.objs.size + 1) s.heap.objs.size 0 .none := by
    have q := Heap.get?_push_size (s.heap.push o) (o := { cls := .type "enumerate", data := .fields #[.none, .bool false, .ref s.heap.objs.size, rawInt 0, .none, .none] }) rfl
    rw [hone] at q
    exact q
  exact ⟨⟨_, he, rfl⟩, h _ he (Heap.get?_push_of_some _ (Heap.get?_push_size _ B.free)) fun b o x => Heap.get?_push_of_some _ (Heap.get?_push_of_some _ x)⟩
end
section
variable {X : Cx} {e : Expr} {ta : TA} {te : TE} {p pos tpos kpos : Pos} {elts : List Expr} {kk : Nat}
def iEnT (K : PySem.W.Frag) (ta : TA) : TI := fun σ H R => ta σ H fun vs H1 => ∃ a xs, vs = [.ref a] ∧ SqT K H1 a xs ∧ R (ItE (SqT K) a 0) H1
/-- enumerate(t), t a tuple -/
theorem pi_enumT (hg : Gl X "enumerate") (hm : X.mg "enumerate" = none) (ha : PA X [e] ta) (hs : starEach [e] X.env = [(false, eval e X.env)] := by rfl) :
    PI X (.Tuple elts kk tpos) (.Call (.Name "enumerate" p) [e] [] pos) (iEnT X.K ta) := by
  refine ⟨fun pins s σ H R I h => Call_ (ld_blt I hg hm boot_enumerate (PyProof.Rows.callWith_type1 (thn (ha.run pos pins s σ H _ I h) ?_) hs rfl))⟩
  rintro us s1 ⟨vs, H1, I1, r1, a, xs, rfl, hq, q⟩
  cases r1 with
  | cons r rr =>
    cases rr
    cases r
    obtain ⟨its, rv, p', _⟩ := I1.tuple hq
    refine enum_begins0 (begins_tuple a its.toArray) p' fun h' he hit hk => wpAny_pyIter_enum he ?_
    have I2 := I1.kept (t' := s1.toks) hk
    have fr : ∀ b ∈ [s1.heap.objs.size + 1, s1.heap.objs.size], FpOk X pins H1 b := by
      intro b hb
      have hle : s1.heap.objs.size ≤ b := by
        rcases List.mem_cons.mp hb with rfl | hb
        · exact Nat.le_add_right _ _
        · exact Nat.le_of_eq (List.mem_singleton.mp hb).symm
      exact I1.fpOk hle (I1.hok.fresh hle)
    exact ⟨_, _, _, _, H1, rfl, I2, turn_enumE (src_tup X.K) 0 a _ _, ⟨⟨.none, he⟩, ⟨_, hit, rfl, rfl⟩, Nat.succ_ne_self _⟩, fr, q⟩
def iEnK (K : PySem.W.Frag) (ta : TA) (tk : TA) : TI := fun σ H R => ta σ H fun vs H1 => tk σ H1 fun ks H2 => ∃ a xs k, vs = [.ref a] ∧ ks = [.int k] ∧ -(2 ^ 63) ≤ k ∧ k < 2 ^ 63 ∧ SqL K H2 a xs ∧ R (ItE (SqL K) a k) H2
theorem typed_kw {M : Model} {A : Around} {Er : Value → Shared → Prop} {s : Shared} {env : Env} {T : String} {pos : Pos} {e : Expr} {kws : List Keyword} {Q : Value → Shared → Prop}
    (h : wpAny M A (spliced (backTo pos (starEach [e] env))) (fun vs s₁ => wpAny M A (evalAll ((backToKw pos (keywordEach kws env)).map (·.2)))
      (fun kvs s₂ => wpAny M A (call (.type T) vs (((backToKw pos (keywordEach kws env)).filterMap (·.1)).zip kvs)) Q Er s₂) Er s₁) Er s)
    (he : backTo pos (starEach [e] env) = [(false, eval e env)]) (hall : (backToKw pos (keywordEach kws env)).all (·.1.isSome) = true) (hkw : (backToKw pos (keywordEach kws env)).any (·.1.isNone) = false) :
    wpAny M A (callWith pos (.type T) [] (backTo pos (starEach [e] env)) (backToKw pos (keywordEach kws env))) Q Er s := by
  rw [he] at h ⊢
  unfold callWith
  refine wpAny_bind (wpAny_holding (wpAny_mono (evalArgs_kwB (Q := fun a s₁ => wpAny M A (call (.type T) ([] ++ a.pos) a.kw) Q Er s₁) hall h) (fun a s₁ h₁ => wpAny_bind (wpAny_standAt ?_)) fun _ _ x => x))
  simp only [List.any_cons, List.any_nil, hkw, Bool.or_false]
  refine wpAny_bind (wpAny_pure ?_)
  exact wpAny_bind (wpAny_mono h₁ (fun v s3 hv => wpAny_bind (wpAny_holding (wpAny_point (wpAny_pure hv)))) fun _ _ z => z)
theorem pi_enumK (hg : Gl X "enumerate") (hm : X.mg "enumerate" = none) (ha : PA X [e] ta) {v : Expr} {tk : TA} (hk : PK X [⟨some "start", v, kpos⟩] tk) (hs : starEach [e] X.env = [(false, eval e X.env)] := by rfl) :
    PI X (.Tuple elts kk tpos) (.Call (.Name "enumerate" p) [e] [⟨some "start", v, kpos⟩] pos) (iEnK X.K ta tk) := by
  refine ⟨fun pins s σ H R I h => wpAny_Call_Name_kw (ld_blt I hg hm boot_enumerate (typed_kw (thn (ha.run pos pins s σ H _ I h) ?_) (by rw [hs]; rfl) rfl rfl))⟩
  rintro us s1 ⟨vs, H1, I1, r1, h1⟩
  refine thn (hk.run pos pins s1 σ H1 _ I1 h1) ?_
  rintro ws s2 ⟨zs, H2, I2, r2, a, xs, k, rfl, rfl, hk0, hk1, hq, q⟩
  cases r1 with
  | cons r rr =>
    cases rr
    cases r
    cases r2 with
    | cons r' rr' =>
      cases rr'
      obtain ⟨t, rfl⟩ := r'
      obtain ⟨its, rv, p', _⟩ := I2.list hq
      refine enum_begins_start (begins_list a its.toArray) p'.isList hk0 hk1 fun h' he hit hz hkp => wpAny_pyIter_enum he ?_
      have J := I2.kept (t' := s2.toks) hkp
      have fr : ∀ b ∈ [s2.heap.objs.size + 1, s2.heap.objs.size], FpOk X pins H2 b := by
        intro b hb
        have hle : s2.heap.objs.size ≤ b := by
          rcases List.mem_cons.mp hb with rfl | hb
          · exact Nat.le_add_right _ _
          · exact Nat.le_of_eq (List.mem_singleton.mp hb).symm
        exact I2.fpOk hle (I2.hok.fresh hle)
      exact ⟨_, _, _, _, H2, rfl, J, turn_enumE (src_list X.K) k a _ _, ⟨⟨.none, by simpa using he⟩, ⟨_, hit, rfl, rfl⟩, Nat.succ_ne_self _⟩, fr, q⟩
end
/-! ### sorted(t), t a tuple of ints -/
section
variable {prog : Program} {w : World} {A : Around} {Er : Value → Shared → Prop} {s : Shared}
theorem collect_tup {l : Addr} {vs : List Value} {Q : List Value → Shared → Prop} (hl : s.heap.IsTuple l vs.toArray)
    (h : Q vs { s with heap := (s.heap.push (seqObj "list" #[] 0)).update s.heap.objs.size (Obj.mapSeq (· ++ vs.toArray)) }) (hsz : vs.length ≤ sizeLine) : wpAny (model prog w) A (collect (.ref l)) Q Er s := by
  obtain ⟨ob, hob, hcl, n, hdt⟩ := id hl
  unfold collect
  refine wpAny_bind (wpAny_runValue (codeAny_builtin entry_proto_collect' (?start : wpAny _ _ (do again (.builtin "list.__iadd__" ⟨[← newList [], .ref l], []⟩)) _ _ s)))
  refine wpAny_bind (wpAny_newList (wpAny_pure ⟨Code.quiet_builtin _ (by decide +kernel), codeAny_builtin entry_list_iadd' ?_⟩))
  show wpAny _ _ (Builtin.List.listExtendWith (.ref s.heap.objs.size) (.ref l) (.ref s.heap.objs.size)) _ _ { s with heap := s.heap.push (seqObj "list" #[] 0) }
  unfold Builtin.List.listExtendWith
  have hnew : (s.heap.push (seqObj "list" #[] 0)).get? l = some ob := Heap.get?_push_of_some _ hob
  refine wpAny_bind (wpAny_typeOf (T := "tuple") ⟨ob, hnew, hcl⟩ ?_)
  rw [if_pos (by rw [show (Value.type "tuple" == Value.type "tuple") = true from rfl]; simp)]
  refine wpAny_bind (listItems_at hnew hdt ?_)
  refine wpAny_bind (listItems_at (xs := #[]) (n := 0) (Heap.get?_push_size _ rfl) rfl ?_)
  rw [if_neg (by simp)]
  refine wpAny_bind (listUpdate_at (xs := #[]) (n := 0) (Heap.get?_push_size _ rfl) rfl ?_ (Nat.zero_le _) (by
    show (#[] ++ vs.toArray).size ≤ sizeLine + 1
    rw [Array.size_append, List.size_toArray]
    show 0 + vs.length ≤ _
    omega))
  refine wpAny_pure ?_
  refine wpAny_bind (wpAny_load (get?_update_seq (Heap.get?_push_size _ rfl) _) ?_)
  show wpAny _ _ (pure ((#[] : Array Value) ++ vs.toArray).toList) Q Er _
  rw [show ((#[] : Array Value) ++ vs.toArray).toList = vs from by simp]
  exact wpAny_pure h
theorem sorted_tup {l : Addr} {vs : List Value} {ns : List Int} {Q : Value → Shared → Prop} (hl : s.heap.IsTuple l vs.toArray) (hI : IntsAre vs ns) (h64 : vs.length < 64)
    (h : ∀ (out : Array Value) (ms : List Int), IntsAre out.toList ms → ms.Perm ns → ms.Pairwise (· ≤ ·) → Q (.ref (s.heap.objs.size + 1)) { s with heap := sortedAll s.heap vs out }) :
    wpAny (model prog w) A (call (.builtin "sorted") [.ref l]) Q Er s := by
  refine Calls.call_function_entry kind_sorted plain_sorted entry_sorted (args_sorted1 (.ref l)) ?_
  unfold Builtin.«sorted»
  refine wpAny_bind (m := checkCount "sorted" 1 1 _) (wpAny_pure (wpAny_bind (collect_tup hl ?_ (Nat.le_trans (Nat.le_of_lt h64) (by decide)))))
  refine wpAny_bind (wpAny_newList ?_)
  have hzz : ((s.heap.push (seqObj "list" #[] 0)).update s.heap.objs.size (Obj.mapSeq (· ++ vs.toArray))).objs.size = s.heap.objs.size + 1 := by
    rw [Heap.size_update, size_push']
  have hsrt : (((s.heap.push (seqObj "list" #[] 0)).update s.heap.objs.size (Obj.mapSeq (· ++ vs.toArray))).push (seqObj "list" vs.toArray 0)).get? (s.heap.objs.size + 1) = some (seqObj "list" vs.toArray 0) := by
    rw [← hzz]
    exact Heap.get?_push_size _ rfl
  show wpAny _ _ _ _ _ { s with heap := ((s.heap.push (seqObj "list" #[] 0)).update s.heap.objs.size (Obj.mapSeq (· ++ vs.toArray))).push (seqObj "list" vs.toArray 0) }
  rw [hzz]
  refine wpAny_bind (wpAny_holding (wpAny_call_entry slot_list_sort ⟨_, hsrt, rfl⟩ entry_list_sort (list_sort_tree hsrt hI h64 fun out ms b1 b2 b3 => ⟨_, rfl, ?_⟩) (args_list_sort _)))
  exact wpAny_pure ⟨_, rfl, h out ms b1 b2 b3⟩
end
def rSortedU (K : PySem.W.Frag) : List V → Hp → VK → Prop := fun vs H Q => ∃ (a : Addr) (ns : List Int), vs = [V.ref a] ∧ (SqL K H a (ns.map V.int) ∨ SqT K H a (ns.map V.int)) ∧ ns.length < 64 ∧
  ∀ (ms : List Int) (p : Addr), ms.Perm ns → ms.Pairwise (· ≤ ·) → H p = none → Q (.ref p) (upd H p (.lst (ms.map V.int)))
theorem call_sortedU {X : Cx} : CallR X (.builtin "sorted") (rSortedU X.K) := by
  intro pins s σ H vs us Q I r h
  obtain ⟨a, ns, rfl, hs, h64, q⟩ := h
  rcases hs with hs | hs
  · exact cr_sorted pins s σ H [V.ref a] us Q I r ⟨a, ns, rfl, hs, h64, q⟩
  · obtain ⟨its, rv, hl, _⟩ := I.tuple hs
    rw [Vals.ref1 r]
    have hi := rv.ints
    refine sorted_tup hl hi (by rw [hi.length]; exact h64) fun out ms h1 h2 h3 => ?_
    obtain ⟨epo, hat⟩ := PyProof.Rows.sortedAll_at s.heap its out
    have hlen : (ms.map V.int).length ≤ sizeLine := by
      rw [List.length_map, h2.length_eq]
      exact small64 h64
    exact ⟨.ref _, upd H (s.heap.objs.size + 1) (.lst (ms.map V.int)), I.laid (t' := s.toks) (fun _ _ => PyProof.Rows.sortedAll_old) (Nat.le_succ _) ⟨hlen, out.toList, epo, vals_of_ints h1, hat⟩, rfl, q ms _ h2 h3 (I.hok.fresh (Nat.le_succ _))⟩
end GL
namespace GL
open PySem PySem.Spec PyProof.Rows L2
section
variable {X : Cx} {CX : CXT} {k : Nat} {f C : Addr} {fd : FuncData} {sp : Sp} {E : XK}
/-- repr(o), o of a class with its own text -/
theorem call_reprG (G : Fre X.A) (F : FnG X.prog X.w X.K X.mg X.base CX k f fd ["self"] sp) (hr : Room (k + 1) X.A) (hu : X.A.units + 64 < cLine) (hb : Binds X.K fd ["self"] []) (hs : PySem.W.findIn X.K (.ref C) "__repr__" = some (some (.ref f))) (hf : PySem.W.isFn X.K (.ref f) = true) (hx : Passes CX X E) :
    CallR X (.builtin "repr") (fun xs H Q => ∃ a dx fs, xs = [.ref a] ∧ H a = some (.ins C dx fs) ∧ sp [.ref a] H (fun v H' => ∃ z : Str, v = .str z ∧ Q (.str z) H') E) := by
  intro pins s σ H xs us Q I r h
  obtain ⟨a, dx, fs, rfl, ha, h⟩ := h
  cases r with
  | cons r rt =>
    cases rt
    cases r
    obtain ⟨mA, O, _⟩ := ins_get I.hok ha
    obtain ⟨m, fr⟩ := I.fr
    obtain ⟨od, es, ep, hod, _⟩ := O.ns
    refine PySem.W.repr_K (od := some od) (show X.A.units + 1 < cLine by omega) fr I.ok.mod.kin ⟨O.obj, rfl, rfl, hod⟩ hs hf ?_
    refine wpAny_call (codeAny_mono (F.goes (A := X.A.in1) (outer := X.stack) (vs := [.ref a]) (us := [.ref a]) G hr.in1 I.env0.in1 (hb s [.ref a] I.kIn rfl) (.cons rfl .nil) h) ?_)
    intro r s' z
    match r, z with
    | .error e, z => exact hx pins σ H s e s' I z
    | .ok (.ret u), z =>
      obtain ⟨v, H', I3, rv, y, rfl, q⟩ := I.after z
      obtain ⟨t, rfl⟩ := rv
      exact ⟨.str y, H', I3, ⟨t, rfl⟩, q⟩
/-- {x!r}, x a list or a tuple of data -/
def tFmtD (K : PySem.W.Frag) (te : TE) : TE := fun σ H Q => te σ H fun v H1 => ∃ d, Dp K H1 v d ∧ isDisplay d = true ∧ d.showable = true ∧ d.hasDict = false ∧ d.depth ≤ 60 ∧ d.shown.length ≤ sizeLine ∧ Q (.str d.shown) H1
theorem pe_fmtD {e : Expr} {te : TE} {pos : Pos} (G : Fre X.A) (hu : X.A.units + 64 < cLine) (he : PE X e te) : PE X (.FormattedValue e 114 none pos) (tFmtD X.K te) := by
  refine ⟨fun pins s σ H Q I h => wpAny_FormattedValue_repr (thn (he.run pins s σ H _ I h) ?_)⟩
  rintro u s1 ⟨v, H1, I1, r1, d, hd, h1, h2, h3, h4, h5, q⟩
  obtain ⟨as, rd⟩ := Dp.reads I1 d v _ hd r1
  obtain ⟨a, rfl⟩ := isRef_of_reads rd h1
  exact pyReprObj_of_reads rd h2 (PyData.noDict_hsm h3) G (by omega) (fun _ _ e => e) (fun h' u tk hk => wpAny_formatField_str ⟨.str d.shown, H1, I1.kept hk, ⟨_, rfl⟩, q⟩ ⟨.str d.shown, H1, I1.kept hk, ⟨_, rfl⟩, q⟩ h5) h5
end
/-! ### enumerate(t, start=k), t a tuple -/
section
variable {X : Cx} {e : Expr} {ta : TA} {te : TE} {p pos tpos kpos : Pos} {elts : List Expr} {kk : Nat}
def iEnKT (K : PySem.W.Frag) (ta : TA) (tk : TA) : TI := fun σ H R => ta σ H fun vs H1 => tk σ H1 fun ks H2 => ∃ a xs k, vs = [.ref a] ∧ ks = [.int k] ∧ -(2 ^ 63) ≤ k ∧ k < 2 ^ 63 ∧ SqT K H2 a xs ∧ R (ItE (SqT K) a k) H2
theorem pi_enumKT (hg : Gl X "enumerate") (hm : X.mg "enumerate" = none) (ha : PA X [e] ta) {v : Expr} {tk : TA} (hk : PK X [⟨some "start", v, kpos⟩] tk) (hs : starEach [e] X.env = [(false, eval e X.env)] := by rfl) :
    PI X (.Tuple elts kk tpos) (.Call (.Name "enumerate" p) [e] [⟨some "start", v, kpos⟩] pos) (iEnKT X.K ta tk) := by
  refine ⟨fun pins s σ H R I h => wpAny_Call_Name_kw (ld_blt I hg hm boot_enumerate (typed_kw (thn (ha.run pos pins s σ H _ I h) ?_) (by rw [hs]; rfl) rfl rfl))⟩
  rintro us s1 ⟨vs, H1, I1, r1, h1⟩
  refine thn (hk.run pos pins s1 σ H1 _ I1 h1) ?_
  rintro ws s2 ⟨zs, H2, I2, r2, a, xs, k, rfl, rfl, hk0, hk1, hq, q⟩
  cases r1 with
  | cons r rr =>
    cases rr
    cases r
    cases r2 with
    | cons r' rr' =>
      cases rr'
      obtain ⟨t, rfl⟩ := r'
      obtain ⟨its, rv, p', _⟩ := I2.tuple hq
      refine enum_begins_start (begins_tuple a its.toArray) p' hk0 hk1 fun h' he hit hz hkp => wpAny_pyIter_enum he ?_
      have J := I2.kept (t' := s2.toks) hkp
      have fr : ∀ b ∈ [s2.heap.objs.size + 1, s2.heap.objs.size], FpOk X pins H2 b := by
        intro b hb
        have hle : s2.heap.objs.size ≤ b := by
          rcases List.mem_cons.mp hb with rfl | hb
          · exact Nat.le_add_right _ _
          · exact Nat.le_of_eq (List.mem_singleton.mp hb).symm
        exact I2.fpOk hle (I2.hok.fresh hle)
      exact ⟨_, _, _, _, H2, rfl, J, turn_enumE (src_tup X.K) k a _ _, ⟨⟨.none, by simpa using he⟩, ⟨_, hit, rfl, rfl⟩, Nat.succ_ne_self _⟩, fr, q⟩
end
end GL
namespace GL
open PySem PySem.Spec PyProof.Rows L2
/-- of three lists (those by place, the defaults, those by name), which go where -/
def sel {α : Type} (us ds ws : List α) : List (Nat × Nat) → List α
  | [] => []
  | (0, i) :: r => (us[i]?).toList ++ sel us ds ws r
  | (1, i) :: r => (ds[i]?).toList ++ sel us ds ws r
  | (_, i) :: r => (ws[i]?).toList ++ sel us ds ws r
theorem vals_at {vs : List V} {us : List Value} (h : Vals vs us) (i : Nat) : Vals (vs[i]?).toList (us[i]?).toList := by
  cases e : vs[i]? with
  | none =>
    have : us[i]? = none := List.getElem?_eq_none (by rw [← h.length]; exact List.getElem?_eq_none_iff.mp e)
    rw [this]
    exact .nil
  | some x =>
    obtain ⟨u, hu, r⟩ := h.get e
    rw [hu]
    exact .cons r .nil
theorem sel_rel {vs ds zs : List V} {us its ws : List Value} (h1 : Vals vs us) (h2 : Vals ds its) (h3 : Vals zs ws) : ∀ l : List (Nat × Nat), Vals (sel vs ds zs l) (sel us its ws l)
  | [] => .nil
  | (0, i) :: r => (vals_at h1 i).append (sel_rel h1 h2 h3 r)
  | (1, i) :: r => (vals_at h2 i).append (sel_rel h1 h2 h3 r)
  | (n + 2, i) :: r => (vals_at h3 i).append (sel_rel h1 h2 h3 r)
section
variable {X : Cx} {CX : CXT} {k : Nat} {f C : Addr} {fd : FuncData} {ps ks : List Str} {sp : Sp} {E : XK} {x : Str} {p pos : Pos} {kws : List Keyword} {tk : TA} {g : List Value → List Value → List Value} {gV : List V → List V → List V} {pins : List (Addr × Obj)} {σ : L2.St} {H : Hp} {s : Shared} {Q : VK} {ws : List Value} {zs : List V}
/-- C(k = v, ..): the instance is made, then its __init__ -/
theorem ranMK (G : Fre X.A) (M : Mk X.K C f) (F : FnG X.prog X.w X.K X.mg X.base CX k f fd ps sp) (hr : Room (k + 1) X.A) (hb : KBn X.K fd ps 1 ks g gV) (hx : Passes CX X E) (I : Inv X pins σ H s) (rz : Vals zs ws) (l2 : zs.length = ks.length)
    (h : ∀ y dy, H y = none → H dy = none → dy ≠ y → sp (gV [.ref y] zs) (upd (upd H dy (.own y)) y (.ins C dy [])) (fun v H2 => v = .non ∧ Q (.ref y) H2) E) : wpAny (model X.prog X.w) X.A (call (.ref C) [] (ks.zip ws)) (EP X pins σ Q) X.xe s := by
  have h0 := h (s.heap.objs.size + 1) s.heap.objs.size (I.hok.fresh (Nat.le_succ _)) (I.hok.fresh (Nat.le_refl _)) (Nat.ne_of_lt (Nat.lt_succ_self _))
  have J := Inv.made (C := C) I
  have r1 : Vals [V.ref (s.heap.objs.size + 1)] [Value.ref (s.heap.objs.size + 1)] := .cons rfl .nil
  have run := F.goes (fre_make G) (hr.make C [] (ks.zip ws)) (J.env0.make C [] (ks.zip ws)) (hb.to _ [Value.ref (s.heap.objs.size + 1)] ws J.kIn rfl (rz.length.symm.trans l2)) (hb.rel r1 rz) h0
  refine wpAny_call (make_map (f := f) I.kIn M.makes M.init (beq_iff_eq.mp M.fn) (codeAny_mono run ?_))
  intro r s' z
  match r, z with
  | .error e, z => exact hx pins σ _ _ e s' J z
  | .ok (.ret u), z =>
    obtain ⟨v, H', I3, rv, ev, q3⟩ := J.after z
    cases ev
    exact And.intro rv ⟨V.ref (s.heap.objs.size + 1), H', I3, rfl, q3⟩
  | .ok .next, z => exact z.elim
  | .ok .brk, z => exact z.elim
  | .ok .cont, z => exact z.elim
def tMakeK (C : Addr) (m : Nat) (sp : Sp) (gV : List V → List V → List V) (E : XK) (tk : TA) : TE := fun σ H Q => tk σ H fun zs H2 => zs.length = m ∧
  ∀ x dx, H2 x = none → H2 dx = none → dx ≠ x → sp (gV [.ref x] zs) (upd (upd H2 dx (.own x)) x (.ins C dx [])) (fun v H3 => v = .non ∧ Q (.ref x) H3) E
theorem pkK (G : Fre X.A) (M : Mk X.K C f) (F : FnG X.prog X.w X.K X.mg X.base CX k f fd ps sp) (hr : Room (k + 1) X.A) (hg : Gl X x) (hm : X.mg x = some (.ref C)) (hb : KBn X.K fd ps 1 ks g gV) (hx : Passes CX X E)
    (hkw : PK X kws tk) (ndb : (x == ("__debug__" : Str)) = false := by decide) (hall : (backToKw pos (keywordEach kws X.env)).all (·.1.isSome) = true := by rfl) (hks : (backToKw pos (keywordEach kws X.env)).filterMap (·.1) = ks := by rfl)
    (hpl : (backToKw pos (keywordEach kws X.env)).any (·.1.isNone) = false := by rfl) :
    PE X (.Call (.Name x p) [] kws pos) (tMakeK C ks.length sp gV E tk) where
  run := fun pins s σ H Q I h => wpAny_Call_Name_kw (ld_glob I hg hm
    (PySem.W.callWith_KW0 (first := []) (h₀ := X.base) I.ok.mod.kin M.kp hall (thn (hkw.run pos pins s σ H _ I h) fun ws s2 ⟨zs, H2, I2, rz, l2, q2⟩ => by
      rw [hks]
      exact ⟨I2.kIn, ranMK G M F hr hb hx I2 rz l2 q2⟩) hpl) ndb)
end
end GL
namespace GL
open PySem PySem.Spec PyProof.Rows L2
theorem looks_is {M : Model} {u : Value} {T : String} {s : Shared} (h : s.TypeIs u T) : PySem.W.Looks M s.heap (typeOf u) (.type T) := fun A Q E s' k q => by
  have h' : s'.TypeIs u T := by
    cases u <;> first | exact h | (obtain ⟨o, e, c⟩ := h; exact ⟨o, k _ _ e, c⟩)
  exact wpAny_typeOf h' q
def kinds : List String := ["NoneType", "bool", "int", "str", "list", "tuple", "dict"]
theorem sub_kind {K : PySem.W.Frag} {C : Addr} : ∀ {T : String}, T ∈ kinds → PySem.W.subIn K (.type T) (.ref C) = some false := by
  have go : ∀ T l, fastBuiltinMro T = some l → l.contains (.ref C) = false → PySem.W.subIn K (.type T) (.ref C) = some false := fun T l h1 h2 => by
    show (fastBuiltinMro T).map (·.contains (.ref C)) = some false
    rw [h1]
    exact congrArg some h2
  intro T hT
  simp only [kinds, List.mem_cons, List.not_mem_nil, or_false] at hT
  rcases hT with rfl | rfl | rfl | rfl | rfl | rfl | rfl
  · exact go _ [.type "NoneType", .type "object"] (by decide +kernel) (by simp)
  · exact go _ [.type "bool", .type "int", .type "object"] (by decide +kernel) (by simp)
  · exact go _ [.type "int", .type "object"] (by decide +kernel) (by simp)
  · exact go _ [.type "str", .type "object"] (by decide +kernel) (by simp)
  · exact go _ [.type "list", .type "object"] (by decide +kernel) (by simp)
  · exact go _ [.type "tuple", .type "object"] (by decide +kernel) (by simp)
  · exact go _ [.type "dict", .type "object"] (by decide +kernel) (by simp)
/-- the other side of ==: one of the same class, or of a kind of Python's -/
inductive Oth (K : PySem.W.Frag) (H : Hp) (C : Addr) : V → Prop where
  | ins {b dy : Addr} {gs : List (Str × V)} (h : H b = some (.ins C dy gs)) : Oth K H C (.ref b)
  | oth {y : V} {T : String} (h : TyB K H y T) (hT : T ∈ kinds) : Oth K H C y
section
variable {X : Cx} {CX : CXT} {k : Nat} {f C : Addr} {fd : FuncData} {sp : Sp} {E : XK}
theorem Oth.go {pins : List (Addr × Obj)} {σ : L2.St} {H : Hp} {s : Shared} {y : V} {u : Value} (h : Oth X.K H C y) (I : Inv X pins σ H s) (r : RelV y u) : ∃ tb, PySem.W.Looks (model X.prog X.w) s.heap (typeOf u) tb ∧ PySem.W.notFirst X.K C tb = true := by
  cases h with
  | ins h =>
    cases r
    obtain ⟨mB, J', _⟩ := ins_get I.hok h
    obtain ⟨od', J', _⟩ := J'.look
    exact ⟨_, J'.type, by simp [PySem.W.notFirst]⟩
  | oth h hT => exact ⟨_, looks_is (h.is I r), by
      unfold PySem.W.notFirst
      rw [sub_kind hT]
      simp⟩
def rEqOwn (K : PySem.W.Frag) (C : Addr) (sp : Sp) (E : XK) : R2 := fun x y H Q => ∃ a dx fs, x = .ref a ∧ H a = some (.ins C dx fs) ∧ Oth K H C y ∧ sp [.ref a, y] H (fun v H' => ∃ b, v = .bl b ∧ Q (.bl b) H') E
theorem op_eqOwn (G : Fre X.A) (F : FnG X.prog X.w X.K X.mg X.base CX k f fd ["self", "other"] sp) (hr : Room k X.A) (hu : X.A.units + 64 < cLine) (hb : Binds X.K fd ["self", "other"] []) (hs : PySem.W.findIn X.K (.ref C) "__eq__" = some (some (.ref f))) (hf : PySem.W.isFn X.K (.ref f) = true) (hx : Passes CX X E) :
    OpR X (compareOp .Eq) (rEqOwn X.K C sp E) := by
  intro pins s σ H x y v u Q I rx ry h
  obtain ⟨a, dx, fs, rfl, ha, ho, h⟩ := h
  cases rx
  obtain ⟨tb, hl, hn⟩ := ho.go I ry
  obtain ⟨mA, J, _⟩ := ins_get I.hok ha
  obtain ⟨od, J, _⟩ := J.look
  obtain ⟨m, hF⟩ := I.fr
  refine PySem.W.cmp_K (op := .Eq) (tb := tb) (show X.A.units < cLine by omega) hF I.ok.mod.kin J hl hn hs hf ?_
  refine wpAny_call (codeAny_mono (F.goes (A := X.A) (outer := X.stack) (vs := [.ref a, y]) (us := [.ref a, u]) G hr I.env0 (hb s [.ref a, u] I.kIn rfl) (.cons rfl (.cons ry .nil)) h) ?_)
  intro r s' z
  match r, z with
  | .error e, z => exact hx pins σ H s e s' I z
  | .ok (.ret w), z =>
    obtain ⟨v, H', I3, rv, b, rfl, q⟩ := I.after z
    cases (show w = Value.bool b from rv)
    exact ⟨.bl b, H', I3, rfl, q⟩
  | .ok .next, z => exact z.elim
  | .ok .brk, z => exact z.elim
  | .ok .cont, z => exact z.elim
end
/-! ### != by the own == -/
section
variable {M : Model} {prog : Program} {w : World} {A : Around} {E : Value → Shared → Prop} {s : Shared} {K : PySem.W.Frag} {x C f : Addr} {ox : Obj} {od : Option Obj} {b : Value}
theorem ifBound_objNe {args : List Value} {Q : Option Value → Shared → Prop} (X : K.In s.heap) (I : PySem.W.InstAt s.heap x ox C od) (hs : PySem.W.findIn K (.ref C) "__ne__" = some (some (.builtin "object.__ne__")))
    (h : wpAny M A (call (.builtin "object.__ne__") (.ref x :: args)) (fun v => Q (some v)) E s) : wpAny M A (callSpecialIfBound? (.ref x) "__ne__" args) Q E s := by
  simp only [callSpecialIfBound?, bindSpecialIfBound?]
  refine wpAny_holding (wpAny_bind (wpAny_bind (wpAny_bind (I.type.here ((PySem.W.looks_findIn X hs).here ?_)))))
  refine wpAny_bind (wpAny_askSetting (wpAny_ite ?_))
  have fin : wpAny M A (call (.builtin "object.__ne__") ([.ref x] ++ args) >>= fun v => pure (some v)) Q E s := wpAny_bind (wpAny_mono h (fun v s' h' => wpAny_pure h') fun _ _ h' => h')
  split
  · exact wpAny_bind (wpAny_of_eq (F.cmp_object.ne.bind _) (wpAny_pure (by exact fin)))
  · exact wpAny_tryCatch (wpAny_bind (wpAny_of_eq (F.cmp_object.ne.bind _) (wpAny_pure (by exact fin))))
theorem objNe_entry {Q : Fin → Shared → Prop} (X : K.In s.heap) (I : PySem.W.InstAt s.heap x ox C od) (hs : PySem.W.findIn K (.ref C) "__eq__" = some (some (.ref f))) (hf : PySem.W.isFn K (.ref f) = true) (hu : A.units < cLine)
    (hcall : wpAny (model prog w) A (call (.ref f) [.ref x, b]) (fun v s' => ∃ c, v = .bool c ∧ Q (.done (.ret (.bool (!c)))) s') E s) : wpAny (model prog w) A (Builtin.«object.__ne__» ⟨[.ref x, b], []⟩) Q E s := by
  unfold Builtin.«object.__ne__»
  repeat (first
    | with_reducible refine wpAny_cRoomFor hu ?_
    | (refine wpAny_bind (m := callSpecialIfBound? (.ref x) (Str.ofString "__eq__") [b])
        (PySem.W.ifBound_K X I hs hf (wpAny_mono hcall (fun r s' hr => by
          obtain ⟨c, rfl, hq⟩ := hr
          repeat (first | exact hq | exact wpAny_pure hq | exact wpAny_truthy_bool hq | (refine wpAny_bind (m := truthy (.bool _)) (wpAny_truthy_bool ?_)) | wp_step)) fun _ _ e => e)))
    | wp_step)
theorem ne_K {tb : Value} {Q : Value → Shared → Prop} (hu : A.units + 2 < cLine) (X : K.In s.heap) (I : PySem.W.InstAt s.heap x ox C od) (hm : PySem.W.mroIn K C (.type "object") = some true) (hb : PySem.W.Looks (model prog w) s.heap (typeOf b) tb) (hn : PySem.W.notFirst K C tb = true)
    (h1 : PySem.W.findIn K (.ref C) "__ne__" = some (some (.builtin "object.__ne__"))) (hs : PySem.W.findIn K (.ref C) "__eq__" = some (some (.ref f))) (hf : PySem.W.isFn K (.ref f) = true)
    (hcall : wpAny (model prog w) A.in1 (call (.ref f) [.ref x, b]) (fun v s' => ∃ c, v = .bool c ∧ Q (.bool (!c)) s') E s) : wpAny (model prog w) A (richCompare .NotEq (.ref x) b) Q E s := by
  have one : wpAny (model prog w) A (tryCompare (.ref x) "__ne__" b) (fun r s' => ∃ v, r = some v ∧ Q v s') E s := by
    unfold tryCompare
    refine wpAny_bind (ifBound_objNe X I h1 (wpAny_call (codeAny_call_builtin F.cmp_object.ne.plain F.cmpEntry_ne (PySem.W.check_slot F.cmpKind_ne F.cmpSplit_ne (I.type.andThen (PySem.W.looks_mroIn X hm)) (F.cmpArgs_ne _ _) (objNe_entry (A := A.in1) X I hs hf (show A.units + 1 < cLine by omega) (wpAny_mono hcall (fun v s' hv => ?_) fun _ _ e => e))))))
    obtain ⟨c, rfl, hq⟩ := hv
    first | exact ⟨c, rfl, wpAny_pure ⟨_, rfl, hq⟩⟩ | exact ⟨c, rfl, wpAny_pure (wpAny_pure ⟨_, rfl, hq⟩)⟩ | exact ⟨c, rfl, _, rfl, hq⟩
  unfold richCompare
  simp only [oneThing_ref]
  refine wpAny_holding (wpAny_bind (wpAny_cRoomFor (show A.units < cLine by omega) ?_))
  refine wpAny_bind (I.type.here (wpAny_bind (hb.here ?_)))
  split
  · rename_i q
    have e : PySem.W.subIn K tb (.ref C) = some false := by
      rcases Bool.or_eq_true_iff.mp hn with e | e
      · rw [beq_iff_eq.mp e] at q
        simp at q
      · exact beq_iff_eq.mp e
    refine wpAny_bind ((PySem.W.looks_subIn X e).here ?_)
    simp only [Bool.false_eq_true, if_false]
    refine wpAny_bind (wpAny_mono one (fun r s' z => ?_) fun _ _ e => e)
    obtain ⟨v, rfl, hq⟩ := z
    exact wpAny_pure hq
  · refine wpAny_bind (wpAny_pure ?_)
    simp only [Bool.false_eq_true, if_false]
    refine wpAny_bind (wpAny_mono one (fun r s' z => ?_) fun _ _ e => e)
    obtain ⟨v, rfl, hq⟩ := z
    exact wpAny_pure hq
end
section
variable {X : Cx} {CX : CXT} {k : Nat} {f C : Addr} {fd : FuncData} {sp : Sp} {E : XK}
def rNeOwn (K : PySem.W.Frag) (C : Addr) (sp : Sp) (E : XK) : R2 := fun x y H Q => ∃ a dx fs, x = .ref a ∧ H a = some (.ins C dx fs) ∧ Oth K H C y ∧ sp [.ref a, y] H (fun v H' => ∃ b, v = .bl b ∧ Q (.bl (!b)) H') E
theorem op_neOwn (G : Fre X.A) (F : FnG X.prog X.w X.K X.mg X.base CX k f fd ["self", "other"] sp) (hr : Room (k + 1) X.A) (hu : X.A.units + 64 < cLine) (hb : Binds X.K fd ["self", "other"] []) (hs : PySem.W.findIn X.K (.ref C) "__eq__" = some (some (.ref f))) (hf : PySem.W.isFn X.K (.ref f) = true)
    (h1 : PySem.W.findIn X.K (.ref C) "__ne__" = some (some (.builtin "object.__ne__"))) (hm : PySem.W.mroIn X.K C (.type "object") = some true) (hx : Passes CX X E) : OpR X (compareOp .NotEq) (rNeOwn X.K C sp E) := by
  intro pins s σ H x y v u Q I rx ry h
  obtain ⟨a, dx, fs, rfl, ha, ho, h⟩ := h
  cases rx
  obtain ⟨tb, hl, hn⟩ := ho.go I ry
  obtain ⟨mA, J, _⟩ := ins_get I.hok ha
  obtain ⟨od, J, _⟩ := J.look
  refine ne_K (tb := tb) (show X.A.units + 2 < cLine by omega) I.kIn J hm hl hn h1 hs hf ?_
  refine wpAny_call (codeAny_mono (F.goes (A := X.A.in1) (outer := X.stack) (vs := [.ref a, y]) (us := [.ref a, u]) G hr.in1 I.env0.in1 (hb s [.ref a, u] I.kIn rfl) (.cons rfl (.cons ry .nil)) h) ?_)
  intro r s' z
  match r, z with
  | .error e, z => exact hx pins σ H s e s' I z
  | .ok (.ret w), z =>
    obtain ⟨v, H', I3, rv, b, rfl, q⟩ := I.after z
    cases (show w = Value.bool b from rv)
    exact ⟨b, rfl, .bl (!b), H', I3, rfl, q⟩
  | .ok .next, z => exact z.elim
  | .ok .brk, z => exact z.elim
  | .ok .cont, z => exact z.elim
end
end GL
/-! Own errors, over any of Python's classes, with an __init__ that keeps one value or nothing: made, raised, read. -/
namespace PySem
namespace GX
open PySem.W PySem.Calls PyProof.Rows PySem.HandSPX Builtin Builtin.ObjectAttr
/-- an error's class at C, its __init__ at fI, over the class that newId makes -/
structure ErrT (K : Frag) (C fI : Addr) (bmB : List Value) (newId : String) : Prop where
  ini : excInitIn K C bmB newId = true
  ov : excOver K C bmB = true
  sa : findIn K (.ref C) "__setattr__" = some (some (.builtin "object.__setattr__"))
  ga : findIn K (.ref C) "__getattribute__" = some (some (.builtin "BaseException.__getattribute__"))
  gg : findIn K (.ref C) "__getattr__" = some none
  iC : findIn K (.ref C) "__init__" = some (some (.ref fI))
  fn : isFn K (.ref fI) = true
  kp : keepIn K (.ref C) = true
  exC : subIn K (.ref C) (.type "BaseException") = some true
  ty : typeIn K (.ref C) = some (.type "type")
  hd : hasDictIn K C = true
section
variable {prog : Program} {w : World} {A : Around} {E : Value → Shared → Prop} {R : Result → Shared → Prop} {K : Frag} {C fI x t : Addr} {bmB : List Value} {B newId initId : String}
/-- the first thing that an error keeps: its dict is made -/
theorem keeps_first {hp : Heap} {g : Array GenState} {dr : Drawn} {tt : Nat} {os : OsState} {name : Str} {tk : Tok} {v : Value} (SF : StoreFacts B bmB "object.__setattr__" "object") (X : K.In hp) (T : ErrT K C fI bmB newId) (ht : takerIn K C name = some none) (hx : hp.get? x = some (excObj C t none .none))
    (hq : ∀ h' tk' dx, (∀ b o, b ≠ x → hp.get? b = some o → h'.get? b = some o) → hp.objs.size ≤ dx → dx ≠ x → h'.get? x = some (excObj C t (some dx) .none) → h'.Ns1 dx (fun y => if y = name then some v else none) → R (.ok (.ret .none)) ⟨h', g, dr, tk', os⟩) :
    codeAny (model prog w) A (.call (.builtin "object.__setattr__") ⟨[.ref x, .str name tk, v], []⟩) R ⟨hp, g, dr, tt, os⟩ := by
  refine osa_openX (s := ⟨hp, g, dr, tt, os⟩) (od := none) SF X ⟨hx, rfl, rfl, trivial⟩ T.ov ht fun b => ?_
  obtain ⟨cd, hc, hdct⟩ := any_some T.hd
  have hlt : x < hp.objs.size := Heap.lt_size hx
  refine wpAny_bind (wpAny_pure (wpAny_bind (instanceDict_exc hx (looks_clsIn X hc) hdct ?_)))
  show wpAny _ _ (storeInDict hp.objs.size (.str name tk) name v) _ _ _
  have hnew : ((hp.push (dictOf [] 0)).update x fun o => { o with dict := some hp.objs.size }).get? hp.objs.size = some (dictOf [] 0) := (Heap.get?_update_ne _ _ _ _ (Nat.ne_of_gt hlt)).trans (Heap.get?_push_at rfl rfl)
  refine store_in_new ⟨dictOf [] 0, #[], _, hnew, rfl, fun e he => absurd he (by simp), fun _ => rfl⟩ fun h' tk' hns hsame => ?_
  have hx1 : (hp.push (dictOf [] 0)).get? x = some (excObj C t none .none) := Heap.get?_push_of_some _ hx
  refine hq h' tk' hp.objs.size (fun b o hb ho => ?_) (Nat.le_refl _) (Nat.ne_of_gt hlt) ?_ hns
  · exact (hsame.2 b (Nat.ne_of_lt (Heap.lt_size ho))).trans ((Heap.get?_update_ne _ _ _ _ hb).trans (Heap.get?_push_of_some _ ho))
  · exact (hsame.2 x (Nat.ne_of_lt hlt)).trans (Heap.get?_update_self _ hx1 rfl)
theorem ld_par {M : Model} {s : Shared} {name : Str} {scope : Scope} {L a : Addr} {cd : Value} {m : Str → Option Value} {y : Str} {pos : Pos} {v : Value} {Q : Value → Shared → Prop} (hn : s.heap.Ns L m) (hv : m y = some v) (h : Q v s)
    (hk : scope.kind = .function) (hl : (envOfC name scope L a cd).kindOf y = some .local) (hd : (y == ("__debug__" : Str)) = false) :
    wpAny M A (eval (.Name y pos) (envOfC name scope L a cd)) Q E s := wpAny_Name (wpAny_loadName_local hk hl hn hv h) hd
theorem one_fits {v : Value} : [v].length ≤ sizeLine := by
  rw [sizeLine_eq]
  exact (by decide : 1 ≤ 16777216)
/-- an error was made at e, its dict at d (or none) -/
structure Kept (h h' : Heap) (e C : Addr) (d : Option Addr) : Prop where
  keep : ∀ b o, h.get? b = some o → h'.get? b = some o
  new : h.objs.size ≤ e
  obj : ∃ oe vs, h'.get? e = some oe ∧ oe.cls = .ref C ∧ oe.dict = d ∧ oe.data = .fields vs ∧ vs[1]? = some .none
end

def inigroupA (p1 p2 : Pos) : Arguments := { posonlyargs := [], args := [{ arg := "self", annotation := none, pos := p1 }, { arg := "group", annotation := none, pos := p2 }], vararg := none, kwonlyargs := [], kw_defaults := [], kwarg := none, defaults := [] }
def inigroupB (q1 q2 q3 q4 : Pos) : List Stmt := [.Assign [.Attribute (.Name "self" q1) "group" q2] (.Name "group" q3) q4]
def inigroupS : Scope := { kind := .function, names := [(PySem.Str.ofString "self", .local), (PySem.Str.ofString "group", .local)], isGenerator := false, isCoroutine := false, more := [] }
/-- it keeps one value, as group -/
structure Errgroup (K : Frag) (C fI : Addr) (bmB : List Value) (newId : String) : Prop extends ErrT K C fI bmB newId where
  tk : takerIn K C "group" = some none
  no : findIn K (.ref C) "group" = some none
  code : ∃ (oc : Value) (od : Option Addr) (doc pm : Value) (an : Option Addr) (cdv ct : Value) (osl : Array (Option Value)) (qual : Str) (p1 p2 q1 q2 q3 q4 : Pos),
    K.lookup fI = some ⟨oc, od, .func (fnOf "__init__" qual (inigroupA p1 p2) (inigroupB q1 q2 q3 q4) inigroupS .none .none doc pm an cdv ct), osl⟩ ∧ codeIn K cdv qual = true
section
variable {prog : Program} {w : World} {A : Around} {E : Value → Shared → Prop} {R : Result → Shared → Prop} {K : Frag} {C fI x t : Addr} {bmB : List Value} {B newId initId : String}
theorem init_group {s : Shared} {v : Value} (SF : StoreFacts B bmB "object.__setattr__" "object") (T : Errgroup K C fI bmB newId) (X : K.In s.heap) (hlim : s.heap.NoLimit) (hx : s.heap.get? x = some (excObj C t none .none)) (hroom : A.depth < recursionLimit)
    (hq : ∀ h' tk dx, (∀ b o, b ≠ x → s.heap.get? b = some o → h'.get? b = some o) → s.heap.objs.size ≤ dx → dx ≠ x → h'.get? x = some (excObj C t (some dx) .none) → h'.Ns1 dx (fun y => if y = "group" then some v else none) → R (.ok (.ret .none)) { s with heap := h', toks := tk }) :
    codeAny (model prog w) A (.call (.ref fI) ⟨[.ref x, v], []⟩) R s := by
  obtain ⟨oc, od, doc, pm, an, cdv, ct, osl, qual, p1, p2, q1, q2, q3, q4, ho, hcd⟩ := T.code
  refine Att.call_fn (binds := [("self", .ref x), ("group", v)]) X hlim ho hcd hroom (.of_eq rfl) rfl (fun s₁ IC => ?_) rfl rfl rfl
  obtain ⟨h₁, tk₁, rfl⟩ := IC.toInCall.same
  have kk : ∀ b o, s.heap.get? b = some o → h₁.get? b = some o := IC.toInCall.keep
  have hn := IC.toInCall.ns
  show wpAny _ _ (execs _ _) _ _ _
  refine wpAny_execs_cons (plainObj_wpAny_Assign_Attribute ?_)
  refine ld_par (v := v) hn rfl (ld_par (v := .ref x) hn rfl ?_ rfl rfl (by decide)) rfl rfl (by decide)
  refine set_plain (X.keeps kk) (ox := excObj C t none .none) (od := none) ⟨kk _ _ hx, rfl, rfl, trivial⟩ T.sa ?_
  refine keeps_first SF (X.keeps kk) T.toErrT T.tk (kk _ _ hx) fun h₃ tk₃ dx k₃ dn dne hx₃ hn₃ => ?_
  show wpAny _ _ (execs _ _) _ _ _
  have z : s.heap.objs.size < h₁.objs.size := hn.lt
  exact wpAny_execs_nil (hq h₃ tk₃ dx (fun b o hb e => k₃ b o hb (kk b o e)) (Nat.le_of_lt (Nat.lt_of_lt_of_le z dn)) dne hx₃ hn₃)
theorem made_group {s : Shared} {v : Value} (SF : StoreFacts B bmB "object.__setattr__" "object") (FB : ExcBaseFacts B newId initId bmB) (T : Errgroup K C fI bmB newId) (X : K.In s.heap) (hlim : s.heap.NoLimit) (hroom : A.depth + 1 < recursionLimit)
    (hq : ∀ h' tk e d, Kept s.heap h' e C (some d) → s.heap.objs.size ≤ d → d ≠ e → h'.Ns1 d (fun y => if y = "group" then some v else none) → R (.ok (.ret (.ref e))) { s with heap := h', toks := tk }) :
    codeAny (model prog w) A (.call (.ref C) ⟨[v], []⟩) R s := by
  obtain ⟨nm, N, qn, bs, bm, hdct, sn, sub, ab, col, dd, k0, k1, k2, k3, k5, hC, hT⟩ := excInit_of X T.ini
  obtain ⟨hp, g, dr, tk, os⟩ := s
  have kk : ∀ b o, hp.get? b = some o → ((hp.push (kdv_tup [v])).push (excO C hp.objs.size)).get? b = some o := fun b o e => Heap.get?_push_of_some _ (Heap.get?_push_of_some _ e)
  have hget : ((hp.push (kdv_tup [v])).push (excO C hp.objs.size)).get? (hp.objs.size + 1) = some (excO C hp.objs.size) := by heap_get
  refine call_own FB hT hC (looks_findIn X T.iC) (fun self => bind_fn X self (beq_iff_eq.mp T.fn)) one_fits ?_
  refine init_group (s := ⟨(hp.push (kdv_tup [v])).push (excO C hp.objs.size), g, dr, tk, os⟩) SF T (X.keeps kk) (hlim.keeps kk) hget hroom fun h' tk' dx k' dn dne hx hns => ?_
  have old : ∀ b o, hp.get? b = some o → h'.get? b = some o := fun b o e => k' b o (Nat.ne_of_lt (Nat.lt_succ_of_lt (Heap.lt_size e))) (kk b o e)
  have z : hp.objs.size + 1 + 1 ≤ dx := by
    have q := dn
    rw [Heap.size_push, Heap.size_push] at q
    exact q
  exact ⟨rfl, hq h' tk' (hp.objs.size + 1) dx ⟨old, Nat.le_succ _, _, _, hx, rfl, rfl, rfl, rfl⟩ (Nat.le_trans (Nat.le_trans (Nat.le_succ _) (Nat.le_succ _)) z) dne hns⟩
end

def inipositionA (p1 p2 : Pos) : Arguments := { posonlyargs := [], args := [{ arg := "self", annotation := none, pos := p1 }, { arg := "position", annotation := none, pos := p2 }], vararg := none, kwonlyargs := [], kw_defaults := [], kwarg := none, defaults := [] }
def inipositionB (q1 q2 q3 q4 : Pos) : List Stmt := [.Assign [.Attribute (.Name "self" q1) "position" q2] (.Name "position" q3) q4]
def inipositionS : Scope := { kind := .function, names := [(PySem.Str.ofString "self", .local), (PySem.Str.ofString "position", .local)], isGenerator := false, isCoroutine := false, more := [] }
/-- it keeps one value, as position -/
structure Errposition (K : Frag) (C fI : Addr) (bmB : List Value) (newId : String) : Prop extends ErrT K C fI bmB newId where
  tk : takerIn K C "position" = some none
  no : findIn K (.ref C) "position" = some none
  code : ∃ (oc : Value) (od : Option Addr) (doc pm : Value) (an : Option Addr) (cdv ct : Value) (osl : Array (Option Value)) (qual : Str) (p1 p2 q1 q2 q3 q4 : Pos),
    K.lookup fI = some ⟨oc, od, .func (fnOf "__init__" qual (inipositionA p1 p2) (inipositionB q1 q2 q3 q4) inipositionS .none .none doc pm an cdv ct), osl⟩ ∧ codeIn K cdv qual = true
section
variable {prog : Program} {w : World} {A : Around} {E : Value → Shared → Prop} {R : Result → Shared → Prop} {K : Frag} {C fI x t : Addr} {bmB : List Value} {B newId initId : String}
theorem init_position {s : Shared} {v : Value} (SF : StoreFacts B bmB "object.__setattr__" "object") (T : Errposition K C fI bmB newId) (X : K.In s.heap) (hlim : s.heap.NoLimit) (hx : s.heap.get? x = some (excObj C t none .none)) (hroom : A.depth < recursionLimit)
    (hq : ∀ h' tk dx, (∀ b o, b ≠ x → s.heap.get? b = some o → h'.get? b = some o) → s.heap.objs.size ≤ dx → dx ≠ x → h'.get? x = some (excObj C t (some dx) .none) → h'.Ns1 dx (fun y => if y = "position" then some v else none) → R (.ok (.ret .none)) { s with heap := h', toks := tk }) :
    codeAny (model prog w) A (.call (.ref fI) ⟨[.ref x, v], []⟩) R s := by
  obtain ⟨oc, od, doc, pm, an, cdv, ct, osl, qual, p1, p2, q1, q2, q3, q4, ho, hcd⟩ := T.code
  refine Att.call_fn (binds := [("self", .ref x), ("position", v)]) X hlim ho hcd hroom (.of_eq rfl) rfl (fun s₁ IC => ?_) rfl rfl rfl
  obtain ⟨h₁, tk₁, rfl⟩ := IC.toInCall.same
  have kk : ∀ b o, s.heap.get? b = some o → h₁.get? b = some o := IC.toInCall.keep
  have hn := IC.toInCall.ns
  show wpAny _ _ (execs _ _) _ _ _
  refine wpAny_execs_cons (plainObj_wpAny_Assign_Attribute ?_)
  refine ld_par (v := v) hn rfl (ld_par (v := .ref x) hn rfl ?_ rfl rfl (by decide)) rfl rfl (by decide)
  refine set_plain (X.keeps kk) (ox := excObj C t none .none) (od := none) ⟨kk _ _ hx, rfl, rfl, trivial⟩ T.sa ?_
  refine keeps_first SF (X.keeps kk) T.toErrT T.tk (kk _ _ hx) fun h₃ tk₃ dx k₃ dn dne hx₃ hn₃ => ?_
  show wpAny _ _ (execs _ _) _ _ _
  have z : s.heap.objs.size < h₁.objs.size := hn.lt
  exact wpAny_execs_nil (hq h₃ tk₃ dx (fun b o hb e => k₃ b o hb (kk b o e)) (Nat.le_of_lt (Nat.lt_of_lt_of_le z dn)) dne hx₃ hn₃)
theorem made_position {s : Shared} {v : Value} (SF : StoreFacts B bmB "object.__setattr__" "object") (FB : ExcBaseFacts B newId initId bmB) (T : Errposition K C fI bmB newId) (X : K.In s.heap) (hlim : s.heap.NoLimit) (hroom : A.depth + 1 < recursionLimit)
    (hq : ∀ h' tk e d, Kept s.heap h' e C (some d) → s.heap.objs.size ≤ d → d ≠ e → h'.Ns1 d (fun y => if y = "position" then some v else none) → R (.ok (.ret (.ref e))) { s with heap := h', toks := tk }) :
    codeAny (model prog w) A (.call (.ref C) ⟨[v], []⟩) R s := by
  obtain ⟨nm, N, qn, bs, bm, hdct, sn, sub, ab, col, dd, k0, k1, k2, k3, k5, hC, hT⟩ := excInit_of X T.ini
  obtain ⟨hp, g, dr, tk, os⟩ := s
  have kk : ∀ b o, hp.get? b = some o → ((hp.push (kdv_tup [v])).push (excO C hp.objs.size)).get? b = some o := fun b o e => Heap.get?_push_of_some _ (Heap.get?_push_of_some _ e)
  have hget : ((hp.push (kdv_tup [v])).push (excO C hp.objs.size)).get? (hp.objs.size + 1) = some (excO C hp.objs.size) := by heap_get
  refine call_own FB hT hC (looks_findIn X T.iC) (fun self => bind_fn X self (beq_iff_eq.mp T.fn)) one_fits ?_
  refine init_position (s := ⟨(hp.push (kdv_tup [v])).push (excO C hp.objs.size), g, dr, tk, os⟩) SF T (X.keeps kk) (hlim.keeps kk) hget hroom fun h' tk' dx k' dn dne hx hns => ?_
  have old : ∀ b o, hp.get? b = some o → h'.get? b = some o := fun b o e => k' b o (Nat.ne_of_lt (Nat.lt_succ_of_lt (Heap.lt_size e))) (kk b o e)
  have z : hp.objs.size + 1 + 1 ≤ dx := by
    have q := dn
    rw [Heap.size_push, Heap.size_push] at q
    exact q
  exact ⟨rfl, hq h' tk' (hp.objs.size + 1) dx ⟨old, Nat.le_succ _, _, _, hx, rfl, rfl, rfl, rfl⟩ (Nat.le_trans (Nat.le_trans (Nat.le_succ _) (Nat.le_succ _)) z) dne hns⟩
end

def inivalueA (p1 p2 : Pos) : Arguments := { posonlyargs := [], args := [{ arg := "self", annotation := none, pos := p1 }, { arg := "value", annotation := none, pos := p2 }], vararg := none, kwonlyargs := [], kw_defaults := [], kwarg := none, defaults := [] }
def inivalueB (q1 q2 q3 q4 : Pos) : List Stmt := [.Assign [.Attribute (.Name "self" q1) "value" q2] (.Name "value" q3) q4]
def inivalueS : Scope := { kind := .function, names := [(PySem.Str.ofString "self", .local), (PySem.Str.ofString "value", .local)], isGenerator := false, isCoroutine := false, more := [] }
/-- it keeps one value, as value -/
structure Errvalue (K : Frag) (C fI : Addr) (bmB : List Value) (newId : String) : Prop extends ErrT K C fI bmB newId where
  tk : takerIn K C "value" = some none
  no : findIn K (.ref C) "value" = some none
  code : ∃ (oc : Value) (od : Option Addr) (doc pm : Value) (an : Option Addr) (cdv ct : Value) (osl : Array (Option Value)) (qual : Str) (p1 p2 q1 q2 q3 q4 : Pos),
    K.lookup fI = some ⟨oc, od, .func (fnOf "__init__" qual (inivalueA p1 p2) (inivalueB q1 q2 q3 q4) inivalueS .none .none doc pm an cdv ct), osl⟩ ∧ codeIn K cdv qual = true
section
variable {prog : Program} {w : World} {A : Around} {E : Value → Shared → Prop} {R : Result → Shared → Prop} {K : Frag} {C fI x t : Addr} {bmB : List Value} {B newId initId : String}
theorem init_value {s : Shared} {v : Value} (SF : StoreFacts B bmB "object.__setattr__" "object") (T : Errvalue K C fI bmB newId) (X : K.In s.heap) (hlim : s.heap.NoLimit) (hx : s.heap.get? x = some (excObj C t none .none)) (hroom : A.depth < recursionLimit)
    (hq : ∀ h' tk dx, (∀ b o, b ≠ x → s.heap.get? b = some o → h'.get? b = some o) → s.heap.objs.size ≤ dx → dx ≠ x → h'.get? x = some (excObj C t (some dx) .none) → h'.Ns1 dx (fun y => if y = "value" then some v else none) → R (.ok (.ret .none)) { s with heap := h', toks := tk }) :
    codeAny (model prog w) A (.call (.ref fI) ⟨[.ref x, v], []⟩) R s := by
  obtain ⟨oc, od, doc, pm, an, cdv, ct, osl, qual, p1, p2, q1, q2, q3, q4, ho, hcd⟩ := T.code
  refine Att.call_fn (binds := [("self", .ref x), ("value", v)]) X hlim ho hcd hroom (.of_eq rfl) rfl (fun s₁ IC => ?_) rfl rfl rfl
  obtain ⟨h₁, tk₁, rfl⟩ := IC.toInCall.same
  have kk : ∀ b o, s.heap.get? b = some o → h₁.get? b = some o := IC.toInCall.keep
  have hn := IC.toInCall.ns
  show wpAny _ _ (execs _ _) _ _ _
  refine wpAny_execs_cons (plainObj_wpAny_Assign_Attribute ?_)
  refine ld_par (v := v) hn rfl (ld_par (v := .ref x) hn rfl ?_ rfl rfl (by decide)) rfl rfl (by decide)
  refine set_plain (X.keeps kk) (ox := excObj C t none .none) (od := none) ⟨kk _ _ hx, rfl, rfl, trivial⟩ T.sa ?_
  refine keeps_first SF (X.keeps kk) T.toErrT T.tk (kk _ _ hx) fun h₃ tk₃ dx k₃ dn dne hx₃ hn₃ => ?_
  show wpAny _ _ (execs _ _) _ _ _
  have z : s.heap.objs.size < h₁.objs.size := hn.lt
  exact wpAny_execs_nil (hq h₃ tk₃ dx (fun b o hb e => k₃ b o hb (kk b o e)) (Nat.le_of_lt (Nat.lt_of_lt_of_le z dn)) dne hx₃ hn₃)
theorem made_value {s : Shared} {v : Value} (SF : StoreFacts B bmB "object.__setattr__" "object") (FB : ExcBaseFacts B newId initId bmB) (T : Errvalue K C fI bmB newId) (X : K.In s.heap) (hlim : s.heap.NoLimit) (hroom : A.depth + 1 < recursionLimit)
    (hq : ∀ h' tk e d, Kept s.heap h' e C (some d) → s.heap.objs.size ≤ d → d ≠ e → h'.Ns1 d (fun y => if y = "value" then some v else none) → R (.ok (.ret (.ref e))) { s with heap := h', toks := tk }) :
    codeAny (model prog w) A (.call (.ref C) ⟨[v], []⟩) R s := by
  obtain ⟨nm, N, qn, bs, bm, hdct, sn, sub, ab, col, dd, k0, k1, k2, k3, k5, hC, hT⟩ := excInit_of X T.ini
  obtain ⟨hp, g, dr, tk, os⟩ := s
  have kk : ∀ b o, hp.get? b = some o → ((hp.push (kdv_tup [v])).push (excO C hp.objs.size)).get? b = some o := fun b o e => Heap.get?_push_of_some _ (Heap.get?_push_of_some _ e)
  have hget : ((hp.push (kdv_tup [v])).push (excO C hp.objs.size)).get? (hp.objs.size + 1) = some (excO C hp.objs.size) := by heap_get
  refine call_own FB hT hC (looks_findIn X T.iC) (fun self => bind_fn X self (beq_iff_eq.mp T.fn)) one_fits ?_
  refine init_value (s := ⟨(hp.push (kdv_tup [v])).push (excO C hp.objs.size), g, dr, tk, os⟩) SF T (X.keeps kk) (hlim.keeps kk) hget hroom fun h' tk' dx k' dn dne hx hns => ?_
  have old : ∀ b o, hp.get? b = some o → h'.get? b = some o := fun b o e => k' b o (Nat.ne_of_lt (Nat.lt_succ_of_lt (Heap.lt_size e))) (kk b o e)
  have z : hp.objs.size + 1 + 1 ≤ dx := by
    have q := dn
    rw [Heap.size_push, Heap.size_push] at q
    exact q
  exact ⟨rfl, hq h' tk' (hp.objs.size + 1) dx ⟨old, Nat.le_succ _, _, _, hx, rfl, rfl, rfl, rfl⟩ (Nat.le_trans (Nat.le_trans (Nat.le_succ _) (Nat.le_succ _)) z) dne hns⟩
end

def ini0A (p1 : Pos) : Arguments := { posonlyargs := [], args := [{ arg := "self", annotation := none, pos := p1 }], vararg := none, kwonlyargs := [], kw_defaults := [], kwarg := none, defaults := [] }
def ini0S : Scope := { kind := .function, names := [(PySem.Str.ofString "self", .local)], isGenerator := false, isCoroutine := false, more := [] }
structure Err0 (K : Frag) (C fI : Addr) (bmB : List Value) (newId : String) : Prop extends ErrT K C fI bmB newId where
  code : ∃ (oc : Value) (od : Option Addr) (doc pm : Value) (an : Option Addr) (cdv ct : Value) (osl : Array (Option Value)) (qual : Str) (p1 q1 : Pos),
    K.lookup fI = some ⟨oc, od, .func (fnOf "__init__" qual (ini0A p1) [.Pass q1] ini0S .none .none doc pm an cdv ct), osl⟩ ∧ codeIn K cdv qual = true
section
variable {prog : Program} {w : World} {A : Around} {E : Value → Shared → Prop} {R : Result → Shared → Prop} {K : Frag} {C fI x t : Addr} {bmB : List Value} {B newId initId : String}
theorem made_0 {s : Shared} (FB : ExcBaseFacts B newId initId bmB) (T : Err0 K C fI bmB newId) (X : K.In s.heap) (hlim : s.heap.NoLimit) (hroom : A.depth + 1 < recursionLimit)
    (hq : ∀ h' tk e, Kept s.heap h' e C none → R (.ok (.ret (.ref e))) { s with heap := h', toks := tk }) : codeAny (model prog w) A (.call (.ref C) ⟨[], []⟩) R s := by
  obtain ⟨nm, N, qn, bs, bm, hdct, sn, sub, ab, col, dd, k0, k1, k2, k3, k5, hC, hT⟩ := excInit_of X T.ini
  obtain ⟨oc, od, doc, pm, an, cdv, ct, osl, qual, p1, q1, ho, hcd⟩ := T.code
  obtain ⟨hp, g, dr, tk, os⟩ := s
  have kk : ∀ b o, hp.get? b = some o → ((hp.push (kdv_tup [])).push (excO C hp.objs.size)).get? b = some o := fun b o e => Heap.get?_push_of_some _ (Heap.get?_push_of_some _ e)
  have hget : ((hp.push (kdv_tup [])).push (excO C hp.objs.size)).get? (hp.objs.size + 1) = some (excO C hp.objs.size) := by heap_get
  refine call_own FB hT hC (looks_findIn X T.iC) (fun self => bind_fn X self (beq_iff_eq.mp T.fn)) (Nat.zero_le _) ?_
  refine Att.call_fn (s := ⟨(hp.push (kdv_tup [])).push (excO C hp.objs.size), g, dr, tk, os⟩) (binds := [("self", .ref (hp.objs.size + 1))]) (X.keeps kk) (hlim.keeps kk) ho hcd hroom (.of_eq rfl) rfl (fun s₁ IC => ?_) rfl rfl rfl
  obtain ⟨h₁, tk₁, rfl⟩ := IC.toInCall.same
  have k2' : ∀ b o, ((hp.push (kdv_tup [])).push (excO C hp.objs.size)).get? b = some o → h₁.get? b = some o := IC.toInCall.keep
  show wpAny _ _ (execs _ _) _ _ _
  refine wpAny_execs_cons (wpAny_Pass ?_)
  show wpAny _ _ (execs _ _) _ _ _
  exact wpAny_execs_nil ⟨rfl, hq h₁ tk₁ (hp.objs.size + 1) ⟨fun b o e => k2' b o (kk b o e), Nat.le_succ _, _, _, k2' _ _ hget, rfl, rfl, rfl, rfl⟩⟩
end
end GX
end PySem
/-! try with several except clauses, each with a name or without. -/
namespace GL
open PySem PySem.Spec PyProof.Rows L2
/-- a clause: the class, its suite, the slot of its name -/
structure Cl where
  c : Value
  ts : Addr → Value → Option Addr → TS
  i : Option Nat
/-- the ends of a suite whose name stands in slot i: the name is gone behind it -/
def goneD (D : Ends) (i : Nat) : Ends := { nx := fun σ H => D.nx (σ.set i none) H, rt := D.rt, bk := fun σ H => D.bk (σ.set i none) H, ct := fun σ H => D.ct (σ.set i none) H }
def runCl (k : Cl) (D : Ends) (cls : Value) (d : Option Addr) (σ : L2.St) (H : Hp) : Prop := ∀ a, H a = none → match k.i with
  | none => k.ts a cls d D σ H
  | some i => k.ts a cls d (goneD D i) (σ.set i (some (.ref a))) H
/-- what the clauses wish of an error of the body -/
def wAny (K : PySem.W.Frag) (Wout : WX) (D : Ends) : List Cl → WX
  | [] => Wout
  | k :: r => fun cls d σ H => ∃ b, PySem.W.exmOne K cls k.c = some b ∧ (b = true → runCl k D cls d σ H) ∧ (b = false → wAny K Wout D r cls d σ H)
def SuiteOk (X : Cx) (sts : List Stmt) (ts : Addr → Value → Option Addr → TS) : Prop := ∀ (a : Addr) (oe : Obj) (cls : Value) (d : Option Addr) (pn : List (Addr × Obj)), Zc cls d oe → (∃ vs, oe.data = .fields vs) → PSs (X.suite a ((a, oe) :: pn)) sts (ts a cls d)
inductive Cls' (X : Cx) : List ExceptHandler → List Cl → Prop
  | nil : Cls' X [] []
  | plain {x : Str} {c : Value} {ts : Addr → Value → Option Addr → TS} {s₀ : Stmt} {sts : List Stmt} {p1 p2 : Pos} {hs : List ExceptHandler} {l : List Cl} (hc : Names X x c) (ok : SuiteOk X (s₀ :: sts) ts) (r : Cls' X hs l) :
      Cls' X (.ExceptHandler (some (.Name x p1)) none (s₀ :: sts) p2 :: hs) (⟨c, ts, none⟩ :: l)
  | named {x n : Str} {i : Nat} {c : Value} {ts : Addr → Value → Option Addr → TS} {s₀ : Stmt} {sts : List Stmt} {p1 p2 : Pos} {hs : List ExceptHandler} {l : List Cl} (hc : Names X x c) (hN : X.N.Nodup) (hi : X.N[i]? = some n) (hn : X.env.kindOf n = some .local) (ok : SuiteOk X (s₀ :: sts) ts) (r : Cls' X hs l) :
      Cls' X (.ExceptHandler (some (.Name x p1)) (some n) (s₀ :: sts) p2 :: hs) (⟨c, ts, some i⟩ :: l)
section
variable {X : Cx} {body : List Stmt} {h₁ : ExceptHandler} {hs' : List ExceptHandler} {l : List Cl} {pos : Pos} {tb : WX → TS} {Wout : WX}
/-- an error of the body on its way to the clauses -/
def caught (X : Cx) (pins : List (Addr × Obj)) (D : Ends) (hl : List ExceptHandler) (e : Value) (s1 : Shared) : Prop :=
  wpAny (model X.prog X.w) X.A (noteFrame e X.env) (fun _ s2 => wpAny (model X.prog X.w) X.A (setFlight e none) (fun _ s3 => wpAny (model X.prog X.w) X.A (handleBy e X.env hl) (SP X pins D) X.xe s3) X.xe s2) X.xe s1
theorem ps_try_any (est : X.stack = X.env :: X.outer) (efr : X.env.frame = some X.env.locals) (tk : Takes X Wout)
    (hbody : ∀ (W : WX) (pn : List (Addr × Obj)) (xe : Value → Shared → Prop), Takes (X.tr pn xe) W → PassesOwn (model X.prog X.w) X.A X.env xe → PSs (X.tr pn xe) body (tb W)) (hcl : Cls' X (h₁ :: hs') l) :
    PS X (.Try body (h₁ :: hs') [] [] pos) (fun D σ H => tb (wAny X.K Wout D l) D σ H) := by
  constructor
  intro pins s σ H D I hb0
  have okX := I.ok
  have frA : X.A.frames = some (X.env :: X.outer) := by
    rw [okX.frames, est]
  have land : Takes (X.tr (X.pn ++ pins) (caught X pins D (h₁ :: hs'))) (wAny X.K Wout D l) := by
    rintro u t1 ⟨e, Bz, sz, pz, σ1, H1, cls, d, rfl, Jt, nbz, upz, skz, hnone, eos, bare, wish⟩
    have J : Inv X pins σ1 H1 sz := Jt.ofTry okX
    have sk1 : Sky Bz (X.env :: X.outer) e (Zc cls d) X.env.locals t1.heap := by
      rw [← est]
      exact skz
    show wpAny (model X.prog X.w) X.A (noteFrame (.ref e) X.env) _ _ _
    refine Sky.land Zc.steady frA efr sk1 fun g1 fly1 u1 => ?_
    have J1 : Inv X pins σ1 H1 { t1 with heap := g1 } := J.landed nbz fly1.1 (upz.trans u1) eos bare
    obtain ⟨oz, vz, ez, zz, dz⟩ := fly1.there
    have outF : e ∉ frs (X.env :: X.outer) := fun hm => by
      obtain ⟨_, o2, e2, hno⟩ := fly1.2.2.1.mem hm
      rw [ez] at e2
      cases e2
      exact hno _ dz
    have outL : e ≠ X.env.locals := fun z => outF (List.mem_filterMap.mpr ⟨X.env, List.mem_cons_self, by rw [efr, z]⟩)
    have outS : e ∉ X.fs := fun hm => by
      obtain ⟨v, hv, q⟩ := List.mem_filterMap.mp hm
      exact outF (List.mem_filterMap.mpr ⟨v, List.mem_cons_of_mem _ hv, q⟩)
    have S1 := J1.suite ez dz hnone outL outS
    have kind : PySem.W.Looks (model X.prog X.w) g1 (typeOf (.ref e)) cls := fun A' Q' E' s3 k3 q3 => wpAny_typeOf_ref (k3 _ _ ez) (by
      rw [zz.1]
      exact q3)
    -- the class that a clause names
    have named : ∀ {x : Str} {c : Value} {p1 : Pos}, Names X x c → ∀ {Q' E' : Value → Shared → Prop}, Q' c { t1 with heap := g1 } → wpAny (model X.prog X.w) (X.A.mark (some (.ref e))) (eval (.Name x p1) X.env) Q' E' { t1 with heap := g1 } := fun {x c p1} nm {Q' E'} q3 => by
      obtain ⟨g3, d3, m3 | ⟨m3, b3, n3⟩⟩ := nm
      · exact ld_glob (X := X.suite e ((e, oz) :: (X.pn ++ pins))) S1 g3 m3 q3 d3
      · exact ld_blt (X := X.suite e ((e, oz) :: (X.pn ++ pins))) S1 g3 m3 b3 q3 n3 d3
    have walk : ∀ {hl : List ExceptHandler} {kl : List Cl}, Cls' X hl kl → wAny X.K Wout D kl cls d σ1 H1 → wpAny (model X.prog X.w) X.A (handleBy (.ref e) X.env hl) (SP X pins D) X.xe { t1 with heap := g1 } := by
      intro hl kl hk
      induction hk with
      | nil =>
        intro w0
        refine wpAny_handleBy_nil ?_
        obtain ⟨a1, a2, a3, oe, ve, Ta, oTa, tsa, b1, b2, b3, b4, b5⟩ := id fly1
        have up : wpAny (model X.prog X.w) X.A (setFlight (.ref e) X.env.frame) (fun _ s4 => wpAny (model X.prog X.w) X.A (throw (.ref e) : Sem Flow) (SP X pins D) X.xe s4) X.xe { t1 with heap := g1 } := by
          rw [efr]
          refine HandSPX.setFlight_upZ fly1 fun g4 fly4 u4 => wpAny_throw (tk _ _ ⟨e, Bz, sz, pins, σ1, H1, cls, d, rfl, J, nbz, (upz.trans u1).trans u4, .inr (.inr ?_), hnone, eos, bare, w0⟩)
          rw [est]
          exact fly4
        unfold PySem.passOn
        refine wpAny_bind (wpAny_field b1 b3 b4 ?_)
        rw [if_neg (show ¬ ((Value.ref Ta == Value.none) = true) from by simp)]
        first
          | exact wpAny_bind (wpAny_pure (wpAny_bind up))
          | exact wpAny_bind up
      | @plain x c ts s₀ sts p1 p2 hl' kl' hc ok r ih =>
        rintro ⟨b, hb, yes, no⟩
        refine wpAny_handleBy_cons (codeAny_handlers_test ?_) (by intro q; cases q)
        refine named hc ((PySem.W.exm_one (M := model X.prog X.w) J1.kIn kind hb).here ?_)
        cases b with
        | false =>
          show wpAny _ X.A (handleBy (.ref e) X.env hl') _ _ _
          exact ih (no rfl)
        | true =>
          refine codeAny_handlers_suite (HandSPX.lands_againZ fly1 fun g4 fly4 u4 => ?_)
          have J4 : Inv X pins σ1 H1 { t1 with heap := g4 } := J.landed nbz fly4.1 ((upz.trans u1).trans u4) eos bare
          obtain ⟨o4, v4, e4, z4, d4⟩ := fly4.there
          refine wpAny_mono ((ok e o4 cls d (X.pn ++ pins) z4 ⟨_, d4⟩).run [] _ _ H1 _ (J4.suite e4 d4 hnone outL outS) (yes rfl e hnone)) (fun fl t6 q => ?_) (fun _ _ z => False.elim z)
          match fl, q with
          | .next, ⟨σ6, H6, S6, q6⟩ => exact ⟨_, _, S6.unsuite okX, q6⟩
          | .brk, ⟨σ6, H6, S6, q6⟩ => exact ⟨_, _, S6.unsuite okX, q6⟩
          | .cont, ⟨σ6, H6, S6, q6⟩ => exact ⟨_, _, S6.unsuite okX, q6⟩
          | .ret u, ⟨v6, σ6, H6, S6, r6, q6⟩ => exact ⟨_, _, _, S6.unsuite okX, r6, q6⟩
      | @named x n i c ts s₀ sts p1 p2 hl' kl' hc hN hi hn ok r ih =>
        rintro ⟨b, hb, yes, no⟩
        refine wpAny_handleBy_cons (codeAny_handlers_test ?_) (by intro q; cases q)
        refine named hc ((PySem.W.exm_one (M := model X.prog X.w) J1.kIn kind hb).here ?_)
        cases b with
        | false =>
          show wpAny _ X.A (handleBy (.ref e) X.env hl') _ _ _
          exact ih (no rfl)
        | true =>
          refine codeAny_handlers_suite_as (HandSPX.lands_againZ fly1 fun g4 fly4 u4 => ?_)
          have J4 : Inv X pins σ1 H1 { t1 with heap := g4 } := J.landed nbz fly4.1 ((upz.trans u1).trans u4) eos bare
          obtain ⟨o4, v4, e4, z4, d4⟩ := fly4.there
          have S4 := J4.suite e4 d4 hnone outL outS
          refine store_ok (X := X.suite e ((e, o4) :: (X.pn ++ pins))) (v := .ref e) S4 hN hi (.inl hn) rfl (fun s5 S5 => ?_) (.inr hn)
          refine wpAny_mono ((ok e o4 cls d (X.pn ++ pins) z4 ⟨_, d4⟩).run [] s5 _ H1 _ S5 (yes rfl e hnone)) (fun fl t6 q => ?_) (fun _ _ z => False.elim z)
          have behind : ∀ {σ6 : L2.St} {H6 : Hp} {Q6 : Shared → Prop}, Inv (X.suite e ((e, o4) :: (X.pn ++ pins))) [] σ6 H6 t6 → (∀ s7, Inv X pins (σ6.set i none) H6 s7 → Q6 s7) →
              wpAny (model X.prog X.w) X.A (do bindName X.env n .none; unbindBehindTheSuite X.env n p2) (fun _ s7 => Q6 s7) X.xe t6 := fun {σ6 H6 Q6} S6 kk => gone_ok (S6.unsuite okX) hN hi hn kk
          match fl, q with
          | .next, ⟨σ6, H6, S6, q6⟩ => exact behind S6 fun s7 J7 => ⟨_, _, J7, q6⟩
          | .brk, ⟨σ6, H6, S6, q6⟩ => exact behind S6 fun s7 J7 => ⟨_, _, J7, q6⟩
          | .cont, ⟨σ6, H6, S6, q6⟩ => exact behind S6 fun s7 J7 => ⟨_, _, J7, q6⟩
          | .ret u, ⟨v6, σ6, H6, S6, r6, q6⟩ => exact behind S6 fun s7 J7 => ⟨_, _, _, J7, r6, q6⟩
    exact walk hcl wish
  refine wpAny_Try_except ?_
  refine wpAny_mono ((hbody (wAny X.K Wout D l) (X.pn ++ pins) (caught X pins D (h₁ :: hs')) land PassesOwn.looking).run [] s σ H D (I.toTry _) hb0) (fun fl t1 q => ?_) (fun _ _ z => z)
  match fl, q with
  | .next, ⟨σ1, H1, J, q1⟩ => exact wpAny_execs_nil ⟨σ1, H1, J.ofTry okX, q1⟩
  | .brk, ⟨σ1, H1, J, q1⟩ => exact ⟨σ1, H1, J.ofTry okX, q1⟩
  | .cont, ⟨σ1, H1, J, q1⟩ => exact ⟨σ1, H1, J.ofTry okX, q1⟩
  | .ret u, ⟨v1, σ1, H1, J, rv, q1⟩ => exact ⟨v1, σ1, H1, J.ofTry okX, rv, q1⟩
end
end GL
/-! own errors: made, raised, caught, read -/
namespace GL
open PySem PySem.Spec PyProof.Rows L2
theorem relO_one {v : V} {v' : Value} (r : RelV v v') (g f : Str) : RelO (List.lookup f [(g, v)]) (if f = g then some v' else none) := by
  by_cases hw : f = g
  · rw [if_pos hw, hw]
    simp only [List.lookup, beq_self_eq_true]
    exact r
  · rw [if_neg hw]
    have qw : (f == g) = false := by simpa using hw
    simp only [List.lookup, qw]
    trivial
section
variable {X : Cx} {C fI : Addr} {bmB : List Value} {B newId initId : String} {x : Str} {p pos : Pos} {k : Nat}
/-- C(e): an error whose own dict, new, holds the value -/
def tMk1 (C : Addr) (g : Str) (ta : TA) : L2.St → Hp → XK → Prop := fun σ H Q => ta σ H fun vs H1 => ∃ v, vs = [v] ∧ ∀ d, H1 d = none → Q (.ref C) (some d) (upd H1 d (.xd [(g, v)]))
/-- C(): an error that keeps nothing -/
def tMk0 (C : Addr) : L2.St → Hp → XK → Prop := fun σ H Q => Q (.ref C) none H
/-- a made error, taken out of the heap that is known -/
theorem out_of {pins : List (Addr × Obj)} {σ : L2.St} {H1 : Hp} {Q : XK} {hp h' : Heap} {g : Array GenState} {dr : Drawn} {tk tk' : Nat} {os : OsState} {e d : Addr} {f : Str} {v : V} {v' : Value} (T : GX.ErrT X.K C fI bmB newId) (I1 : Inv X pins σ H1 ⟨hp, g, dr, tk, os⟩) (M : GX.Kept hp h' e C (some d)) (hd : hp.objs.size ≤ d) (dne : d ≠ e)
    (hns : h'.Ns1 d (fun y => if y = f then some v' else none)) (rv : RelV v v') (q1 : ∀ d, H1 d = none → Q (.ref C) (some d) (upd H1 d (.xd [(f, v)]))) : MkP X pins σ Q (.ref e) ⟨h', g, dr, tk', os⟩ := by
  obtain ⟨oe, fv, hoe, hc, hdc, hdat, h1⟩ := M.obj
  obtain ⟨G', g1, g2⟩ := restrict h' fun b => decide (b ≠ e)
  have same : ∀ b, b ≠ e → G'.get? b = h'.get? b := fun b hb => g1 b (decide_eq_true hb)
  have gone : G'.get? e = none := g2 e (by simp)
  have old : ∀ b o, hp.get? b = some o → G'.get? b = some o := fun b o q => (same b (Nat.ne_of_lt (Nat.lt_of_lt_of_le (Heap.lt_size q) M.new))).trans (M.keep b o q)
  have dictOk : ObjOk X.prog X.w (upd H1 d (.xd [(f, v)])) G' d (.xd [(f, v)]) := ⟨_, hns.at (fun o q => (same d dne).trans q), fun y => relO_one rv f y⟩
  have J : Inv X pins σ (upd H1 d (.xd [(f, v)])) ⟨G', g, dr, tk', os⟩ := I1.laid (t' := tk') old hd dictOk
  refine ⟨e, oe, fv, ⟨G', g, dr, tk', os⟩, _, .ref C, some d, rfl, J, fun b o q => ?_, gone, hoe, ⟨hc, hdc⟩, hdat, h1, ?_, rfl, I1.bare, raises_own T.exC T.ty, q1 d (I1.hok.fresh hd)⟩
  · by_cases hb : b = e
    · rw [hb] at q
      cases gone.symm.trans q
    · exact (same b hb).symm.trans q
  · rw [upd_ne dne.symm]
    exact I1.hok.fresh M.new
theorem out_0 {pins : List (Addr × Obj)} {σ : L2.St} {H1 : Hp} {Q : XK} {hp h' : Heap} {g : Array GenState} {dr : Drawn} {tk tk' : Nat} {os : OsState} {e : Addr} (T : GX.ErrT X.K C fI bmB newId) (I1 : Inv X pins σ H1 ⟨hp, g, dr, tk, os⟩) (M : GX.Kept hp h' e C none) (q1 : Q (.ref C) none H1) : MkP X pins σ Q (.ref e) ⟨h', g, dr, tk', os⟩ := by
  obtain ⟨oe, fv, hoe, hc, hdc, hdat, h1⟩ := M.obj
  obtain ⟨G', g1, g2⟩ := restrict h' fun b => decide (b ≠ e)
  have same : ∀ b, b ≠ e → G'.get? b = h'.get? b := fun b hb => g1 b (decide_eq_true hb)
  have gone : G'.get? e = none := g2 e (by simp)
  have old : ∀ b o, hp.get? b = some o → G'.get? b = some o := fun b o q => (same b (Nat.ne_of_lt (Nat.lt_of_lt_of_le (Heap.lt_size q) M.new))).trans (M.keep b o q)
  refine ⟨e, oe, fv, ⟨G', g, dr, tk', os⟩, _, .ref C, none, rfl, I1.kept (t' := tk') old, fun b o q => ?_, gone, hoe, ⟨hc, hdc⟩, hdat, h1, I1.hok.fresh M.new, rfl, I1.bare, raises_own T.exC T.ty, q1⟩
  by_cases hb : b = e
  · rw [hb] at q
    cases gone.symm.trans q
  · exact (same b hb).symm.trans q
theorem pmk_0 (FB : ExcBaseFacts B newId initId bmB) (T : GX.Err0 X.K C fI bmB newId) (hr : Room k X.A) (hg : Gl X x) (hm : X.mg x = some (.ref C)) (ndb : (x == ("__debug__" : Str)) = false := by decide) : PMk X (.Call (.Name x p) [] [] pos) (tMk0 C) := by
  intro pins s σ H Q I h
  refine wpAny_Call_Name_kw (ld_glob I hg hm (PySem.W.callWith_K0 I.kIn T.kp ?_) ndb)
  have hlim := I.nolimit
  obtain ⟨hp, g, dr, tk, os⟩ := s
  exact wpAny_call (GX.made_0 FB T I.kIn hlim (by have := hr.dp; omega) fun h' tk' e M => out_0 T.toErrT I M h)
theorem pmk_group {a : Expr} {ta : TA} (SF : StoreFacts B bmB "object.__setattr__" "object") (FB : ExcBaseFacts B newId initId bmB) (T : GX.Errgroup X.K C fI bmB newId) (hr : Room k X.A) (hg : Gl X x) (hm : X.mg x = some (.ref C)) (ha : PA X [a] ta) (ndb : (x == ("__debug__" : Str)) = false := by decide)
    (he : starEach (a :: []) X.env = (false, eval a X.env) :: starEach [] X.env := by rfl) (hpl : (backTo pos (starEach [] X.env)).any (·.1) = false := by rfl) : PMk X (.Call (.Name x p) [a] [] pos) (tMk1 C "group" ta) := by
  intro pins s σ H Q I h
  refine wpAny_Call_Name_kw (ld_glob I hg hm ?_ ndb)
  refine PySem.W.callWith_K (h₀ := X.base) I.ok.mod.kin T.kp (thn (ha.run pos pins s σ H _ I h) fun us s1 hh => ?_) he hpl
  obtain ⟨vs, H1, I1, r1, v, rfl, q1⟩ := hh
  refine ⟨I1.kIn, ?_⟩
  cases r1 with
  | cons rv rn =>
    rename_i v' us'
    cases rn
    have hlim := I1.nolimit
    obtain ⟨hp, g, dr, tk, os⟩ := s1
    exact wpAny_call (GX.made_group SF FB T I1.kIn hlim (by have := hr.dp; omega) fun h' tk' e d M hd dne hns => out_of T.toErrT I1 M hd dne hns rv q1)
theorem pmk_position {a : Expr} {ta : TA} (SF : StoreFacts B bmB "object.__setattr__" "object") (FB : ExcBaseFacts B newId initId bmB) (T : GX.Errposition X.K C fI bmB newId) (hr : Room k X.A) (hg : Gl X x) (hm : X.mg x = some (.ref C)) (ha : PA X [a] ta) (ndb : (x == ("__debug__" : Str)) = false := by decide)
    (he : starEach (a :: []) X.env = (false, eval a X.env) :: starEach [] X.env := by rfl) (hpl : (backTo pos (starEach [] X.env)).any (·.1) = false := by rfl) : PMk X (.Call (.Name x p) [a] [] pos) (tMk1 C "position" ta) := by
  intro pins s σ H Q I h
  refine wpAny_Call_Name_kw (ld_glob I hg hm ?_ ndb)
  refine PySem.W.callWith_K (h₀ := X.base) I.ok.mod.kin T.kp (thn (ha.run pos pins s σ H _ I h) fun us s1 hh => ?_) he hpl
  obtain ⟨vs, H1, I1, r1, v, rfl, q1⟩ := hh
  refine ⟨I1.kIn, ?_⟩
  cases r1 with
  | cons rv rn =>
    rename_i v' us'
    cases rn
    have hlim := I1.nolimit
    obtain ⟨hp, g, dr, tk, os⟩ := s1
    exact wpAny_call (GX.made_position SF FB T I1.kIn hlim (by have := hr.dp; omega) fun h' tk' e d M hd dne hns => out_of T.toErrT I1 M hd dne hns rv q1)
theorem pmk_value {a : Expr} {ta : TA} (SF : StoreFacts B bmB "object.__setattr__" "object") (FB : ExcBaseFacts B newId initId bmB) (T : GX.Errvalue X.K C fI bmB newId) (hr : Room k X.A) (hg : Gl X x) (hm : X.mg x = some (.ref C)) (ha : PA X [a] ta) (ndb : (x == ("__debug__" : Str)) = false := by decide)
    (he : starEach (a :: []) X.env = (false, eval a X.env) :: starEach [] X.env := by rfl) (hpl : (backTo pos (starEach [] X.env)).any (·.1) = false := by rfl) : PMk X (.Call (.Name x p) [a] [] pos) (tMk1 C "value" ta) := by
  intro pins s σ H Q I h
  refine wpAny_Call_Name_kw (ld_glob I hg hm ?_ ndb)
  refine PySem.W.callWith_K (h₀ := X.base) I.ok.mod.kin T.kp (thn (ha.run pos pins s σ H _ I h) fun us s1 hh => ?_) he hpl
  obtain ⟨vs, H1, I1, r1, v, rfl, q1⟩ := hh
  refine ⟨I1.kIn, ?_⟩
  cases r1 with
  | cons rv rn =>
    rename_i v' us'
    cases rn
    have hlim := I1.nolimit
    obtain ⟨hp, g, dr, tk, os⟩ := s1
    exact wpAny_call (GX.made_value SF FB T I1.kIn hlim (by have := hr.dp; omega) fun h' tk' e d M hd dne hns => out_of T.toErrT I1 M hd dne hns rv q1)
/-- e.f, e the error that the suite holds (at a; its class cls, its dict d) -/
def tBy (C : Addr) (f : Str) (a : Addr) (cls : Value) (d : Option Addr) (te : TE) : TE := fun σ H Q => te σ H fun x H1 => x = .ref a ∧ cls = .ref C ∧ ∃ (dd : Addr) (v : V), d = some dd ∧ H1 dd = some (.xd [(f, v)]) ∧ Q v H1
theorem pe_by {a : Addr} {oe : Obj} {cls : Value} {d : Option Addr} {pn : List (Addr × Obj)} {e : Expr} {te : TE} {f : Str} (T : GX.ErrT X.K C fI bmB newId) (hno : PySem.W.findIn X.K (.ref C) f = some none) (hz : Zc cls d oe) (hf : ∃ vs, oe.data = .fields vs) (he : PE (X.suite a ((a, oe) :: pn)) e te)
    (hb : attributeBase e f X.env (eval e X.env) = eval e X.env := by rfl) : PE (X.suite a ((a, oe) :: pn)) (.Attribute e f pos) (tBy C f a cls d te) := by
  constructor
  intro pins s σ H Q I h
  refine attr_of hb (thn (he.run pins s σ H _ I h) fun u s1 hh => ?_)
  obtain ⟨x1, H1, I1, rx, rfl, rfl, dd, v, rfl, ea, q⟩ := hh
  cases (show u = Value.ref a from rx)
  obtain ⟨ha, _⟩ := I1.pin (a, oe) (List.mem_append_left _ List.mem_cons_self)
  obtain ⟨vs, hd⟩ := hf
  obtain ⟨mA, hns, hr⟩ := (show ObjOk X.prog X.w H1 s1.heap dd (.xd [(f, v)]) from I1.hok dd _ ea)
  obtain ⟨od, ho, hl⟩ := lookIn_ns hns
  have l : List.lookup f [(f, v)] = some v := by simp [List.lookup]
  obtain ⟨u, hu, ru⟩ := RelO.some_of (v := v) (o := mA f) (by rw [← l]; exact hr f)
  have J : PySem.W.InstAt s1.heap a oe C (some od) := ⟨ha, hz.1, by unfold PySem.W.notCls; rw [hd] <;> rfl, by rw [hz.2]; exact ho⟩
  exact HandSPX.exc_get I1.kIn J T.ga T.gg T.exC (PySem.W.findObj_own T.hd hno rfl (by rw [hl, hu])) (handed_of ru) ⟨v, H1, I1.tok _, ru, q⟩
end
/-! ### which clause takes which error -/
theorem exm_is {K : PySem.W.Frag} {S D : Addr} {b : Bool} (h1 : PySem.W.subIn K (.ref D) (.type "BaseException") = some true) (h2 : PySem.W.isClsIn K D = true) (h3 : PySem.W.typeIn K (.ref D) = some (.type "type")) (h4 : PySem.W.subIn K (.ref S) (.ref D) = some b) : PySem.W.exmOne K (.ref S) (.ref D) = some b := by
  have e2 : (PySem.W.clsIn K D).isSome = true := h2
  have e1 : (PySem.W.subIn K (.ref D) (.type "BaseException") == some true) = true := by rw [h1]; rfl
  have e3 : ((PySem.W.clsIn K D).isSome && PySem.W.typeIn K (.ref D) == some (.type "type")) = true := by rw [e2, h3]; rfl
  show (if (PySem.W.subIn K (.ref D) (.type "BaseException") == some true) = true then (if ((PySem.W.clsIn K D).isSome && PySem.W.typeIn K (.ref D) == some (.type "type")) = true then PySem.W.subIn K (.ref S) (.ref D) else none) else none) = some b
  rw [if_pos e1, if_pos e3]
  exact h4
/-! ### defs that may raise -/
section
variable {P : Program} {w : World} {K : PySem.W.Frag} {mg : Str → Option Value} {base : Heap} {x qual : Str} {st : Stmt} {f : Addr} {fd : FuncData} {N ps : List Str} {k : Nat} {sp : Sp} {CX : CXT}
theorem okGX (F : L2.Fun K x qual st f fd) (S : FnScope N ps (defScope st)) (many : ∀ vs H Q E, sp vs H Q E → vs.length = ps.length)
    (hb : ∀ (cdv : Value) (A : Around) (outer : List Env) (s : Shared) (H : Hp) (vs : List V) (Q : VK) (E : XK), Fre (A.deeper (envOfC qual (defScope st) s.heap.objs.size f cdv)) → Room k (A.deeper (envOfC qual (defScope st) s.heap.objs.size f cdv)) → sp vs H Q E →
      ∃ t, PSs (cxOf CX P w K mg base N qual (defScope st) f cdv A outer s H E) (defBody st) t ∧ t { nx := fun _ H' => Q .non H', rt := Q } (start N vs) H) : FnG P w K mg base CX (k + 1) f fd ps sp := by
  obtain ⟨c0, o0, kV, doc, pm, an, cdv, ct, s0, rfl, lk, hcd⟩ := F.ex
  exact bodied lk hcd S many fun A outer s H vs Q E g hr hsp => hb cdv A outer s H vs Q E g hr hsp
end
section
variable {X : Cx} {CX : CXT} {k : Nat} {f C : Addr} {fd : FuncData} {ps : List Str} {sp : Sp} {dvs : List V} {ds : List Value} {E : L2.St → XK} {m : Str} {pos apos : Pos} {e o : Expr} {es : List Expr} {ta : TE} {t : TA}
theorem landedS {code : Code} {pins : List (Addr × Obj)} {σ : L2.St} {H : Hp} {s : Shared} {Q : VK} {Eσ : XK} (hx : PassesAt CX X σ Eσ) (I : Inv X pins σ H s) (h : codeAny (model X.prog X.w) X.A code (CR CX X.stack X.prog X.w H s Q Eσ) s) :
    codeAny (model X.prog X.w) X.A code (fun r s' => match r with
      | .ok (.ret u) => EP X pins σ Q u s'
      | .ok _ => False
      | .error e => X.xe e s') s := by
  refine codeAny_mono h ?_
  intro r s' hq
  match r, hq with
  | .error e, hq => exact hx pins H s e s' I hq
  | .ok (.ret u), hq => exact I.after hq
  | .ok .next, hq => exact hq
  | .ok .brk, hq => exact hq
  | .ok .cont, hq => exact hq
def tMethS (C : Addr) (m : Str) (sp : Sp) (dvs : List V) (E : L2.St → XK) (ta : TE) (t : TA) : TE := fun σ H Q => ta σ H fun x H1 => ∃ a dx fs, x = .ref a ∧ H1 a = some (.ins C dx fs) ∧ fs.lookup m = none ∧ t σ H1 fun vs H2 => sp (x :: (vs ++ dvs)) H2 Q (E σ)
/-- o.m(e, ..) that may raise -/
theorem pmS {pl : Sem Bool} (G : Fre X.A) (he : PE X o ta) (c : Cls X.K C) (hm : Meth X.K C m f) (F : FnG X.prog X.w X.K X.mg X.base CX k f fd ps sp) (hr : Room k X.A) (hb : Binds X.K fd ps ds) (hd : Vals dvs ds) (hx : ∀ σ, PassesAt CX X σ (E σ)) (ha : PA X (e :: es) t)
    (hse : starEach (e :: es) X.env = (false, eval e X.env) :: starEach es X.env := by rfl) (hpl : (backTo pos (starEach es X.env)).any (·.1) = false := by rfl)
    (hev : eval (.Call (.Attribute o m apos) (e :: es) [] pos) X.env = (do
      let ov ← eval o X.env
      standAt apos.atName
      let (fn, frst) ← holding [ov] (getMethod ov m pl)
      callWith pos fn frst (backTo pos (starEach (e :: es) X.env)) (backToKw pos (keywordEach [] X.env))) := by rfl) : PE X (.Call (.Attribute o m apos) (e :: es) [] pos) (tMethS C m sp dvs E ta t) := by
  constructor
  intro pins s σ H Q I h
  refine PySem.W.methodCall_KW (pl := pl) (thn (he.run pins s σ H _ I h) ?_) hev
  rintro u s1 ⟨v, H1, I1, rv, a, dx, fs, rfl, ea, l, q⟩
  cases rv
  refine getmeth_ok I1 ea c hm l (PySem.W.callWith_K (first := [.ref a]) (h₀ := X.base) I.ok.mod.kin hm.kp (thn (ha.run pos pins s1 σ H1 _ I1 q) ?_) hse hpl)
  rintro us s2 ⟨vs, H2, I2, r, q2⟩
  have ra : Vals (.ref a :: (vs ++ dvs)) (.ref a :: (us ++ ds)) := .cons rfl (r.append hd)
  exact ⟨I2.kIn, ran (landedS (hx σ) I2 (F.goes G hr I2.env0 (hb s2 (.ref a :: us) I2.kIn (ra.length.symm.trans (F.many _ _ _ _ q2))) ra q2))⟩
end
end GL
/-! == and != of two lists of a text and an instance, by the instances' own == -/
namespace PySem
namespace GE
open PySem PySem.Calls PyProof.Rows
open MeetsSeq MeetsSeq2 MeetsSeq3 SeqRoads2
/-- a list of this size at l -/
def Two (s : Shared) (l : Addr) : Prop := ∃ (dd : Option Addr) (items : Array Value) (n : Nat) (sl : Array (Option Value)), s.heap.get? l = some { cls := .type "list", dict := dd, data := .seq items n, slots := sl } ∧ items.size = 2
section
variable {prog : Program} {w : World} {l b : Addr}
theorem at_end (code : Nat) (hc : code = 2 ∨ code = 3) : MeetsIn prog w (Builtin.«list.__eq__.loop» ⟨[.ref l, .ref b, rawInt ((2 : Nat) : Int), rawInt ((code : Nat) : Int)], []⟩) fun _ R s => Two s l ∧ Two s b ∧ R (.ok (.ret (.bool (code == 2)))) s := by
  intro A R s h
  obtain ⟨hp, g, d, tk, os⟩ := s
  obtain ⟨⟨dd, is, n, sl, h1, z1⟩, ⟨dd2, is2, n2, sl2, h2, z2⟩, q⟩ := h
  have e1 : is[((2 : Nat) : Int).toNat]? = none := Array.getElem?_eq_none (by rw [z1]; decide)
  have e2 : is2[((2 : Nat) : Int).toNat]? = none := Array.getElem?_eq_none (by rw [z2]; decide)
  rcases hc with rfl | rfl
  · wp_walk using wpAny_loadPart' h1, wpAny_loadPart' h2
    rw [e1, e2]
    wp_walk using wpAny_loadPart' h1, wpAny_loadPart' h2
    show R (.ok (.ret (.bool (is.size == is2.size)))) _
    rw [z1, z2]
    exact q
  · wp_walk using wpAny_loadPart' h1, wpAny_loadPart' h2
    rw [e1, e2]
    wp_walk using wpAny_loadPart' h1, wpAny_loadPart' h2
    show R (.ok (.ret (.bool (is.size != is2.size)))) _
    rw [z1, z2]
    exact q
/-- the second items are equal by what they say themselves -/
theorem at_one (code : Nat) (hc : code = 2 ∨ code = 3) : MeetsIn prog w (Builtin.«list.__eq__.loop» ⟨[.ref l, .ref b, rawInt ((1 : Nat) : Int), rawInt ((code : Nat) : Int)], []⟩) fun A R s => ∃ (dd : Option Addr) (is : Array Value) (n : Nat) (sl : Array (Option Value)) (dd2 : Option Addr) (is2 : Array Value) (n2 : Nat) (sl2 : Array (Option Value)) (x y : Value),
    s.heap.get? l = some { cls := .type "list", dict := dd, data := .seq is n, slots := sl } ∧ s.heap.get? b = some { cls := .type "list", dict := dd2, data := .seq is2 n2, slots := sl2 } ∧ is[1]? = some x ∧ is2[1]? = some y ∧
      wpAny (model prog w) A.in1 (eqBool x y) (fun k s' => k = true ∧ Two s' l ∧ Two s' b ∧ R (.ok (.ret (.bool (code == 2)))) s') (fun e s' => R (.error e) s') s := by
  intro A R s h
  obtain ⟨hp, g, d, tk, os⟩ := s
  obtain ⟨dd, is, n, sl, dd2, is2, n2, sl2, x, y, h1, h2, e1, e2, q⟩ := h
  have e1' : is[((1 : Nat) : Int).toNat]? = some x := e1
  have e2' : is2[((1 : Nat) : Int).toNat]? = some y := e2
  have step : ∀ (s' : Shared), Two s' l → Two s' b → R (.ok (.ret (.bool (code == 2)))) s' → codeAny (model prog w) A (.builtin "list.__eq__.loop" ⟨[.ref l, .ref b, rawInt ((2 : Nat) : Int), rawInt ((code : Nat) : Int)], []⟩) R s' := fun s' t1 t2 z => codeAny_builtin entry_eq_loop (by
    rw [Around.under_plainId plain_eq_loop _]
    exact at_end code hc A R s' ⟨t1, t2, z⟩)
  rcases hc with rfl | rfl
  · wp_walk using wpAny_loadPart' h1, wpAny_loadPart' h2
    rw [e1', e2']
    refine wpAny_bind (wpAny_mono q (fun k s' z => ?_) fun _ _ z => z)
    obtain ⟨rfl, t1, t2, z⟩ := z
    wp_walk
    exact ⟨plainId_quiet plain_eq_loop _, step s' t1 t2 z⟩
  · wp_walk using wpAny_loadPart' h1, wpAny_loadPart' h2
    rw [e1', e2']
    refine wpAny_bind (wpAny_mono q (fun k s' z => ?_) fun _ _ z => z)
    obtain ⟨rfl, t1, t2, z⟩ := z
    wp_walk
    exact ⟨plainId_quiet plain_eq_loop _, step s' t1 t2 z⟩
/-- from the beginning: the first items are one text -/
theorem at_nil (code : Nat) (hc : code = 2 ∨ code = 3) : MeetsIn prog w (Builtin.«list.__eq__.loop» ⟨[.ref l, .ref b, rawInt ((0 : Nat) : Int), rawInt ((code : Nat) : Int)], []⟩) fun A R s => ∃ (dd : Option Addr) (is : Array Value) (n : Nat) (sl : Array (Option Value)) (dd2 : Option Addr) (is2 : Array Value) (n2 : Nat) (sl2 : Array (Option Value)) (x0 y0 x y : Value),
    s.heap.get? l = some { cls := .type "list", dict := dd, data := .seq is n, slots := sl } ∧ s.heap.get? b = some { cls := .type "list", dict := dd2, data := .seq is2 n2, slots := sl2 } ∧ is[0]? = some x0 ∧ is2[0]? = some y0 ∧ is[1]? = some x ∧ is2[1]? = some y ∧
      SeqAt.EqAt A.in1 s x0 y0 true ∧
      wpAny (model prog w) A.in1 (eqBool x y) (fun k s' => k = true ∧ Two s' l ∧ Two s' b ∧ R (.ok (.ret (.bool (code == 2)))) s') (fun e s' => R (.error e) s') s := by
  intro A R s h
  obtain ⟨hp, g, d, tk, os⟩ := s
  obtain ⟨dd, is, n, sl, dd2, is2, n2, sl2, x0, y0, x, y, h1, h2, e1, e2, f1, f2, e0, q⟩ := h
  have e1' : is[((0 : Nat) : Int).toNat]? = some x0 := e1
  have e2' : is2[((0 : Nat) : Int).toNat]? = some y0 := e2
  have step : codeAny (model prog w) A (.builtin "list.__eq__.loop" ⟨[.ref l, .ref b, rawInt ((1 : Nat) : Int), rawInt ((code : Nat) : Int)], []⟩) R ⟨hp, g, d, tk, os⟩ := codeAny_builtin entry_eq_loop (by
    rw [Around.under_plainId plain_eq_loop _]
    exact at_one code hc A R _ ⟨dd, _, n, sl, dd2, _, n2, sl2, x, y, h1, h2, f1, f2, q⟩)
  rcases hc with rfl | rfl
  · wp_walk using wpAny_loadPart' h1, wpAny_loadPart' h2
    rw [e1', e2']
    refine wpAny_bind (e0 prog w _ _ ?_)
    wp_walk
    exact ⟨plainId_quiet plain_eq_loop _, step⟩
  · wp_walk using wpAny_loadPart' h1, wpAny_loadPart' h2
    rw [e1', e2']
    refine wpAny_bind (e0 prog w _ _ ?_)
    wp_walk
    exact ⟨plainId_quiet plain_eq_loop _, step⟩
/-- what both lists and the comparison of their items have to be, ahead of == (code 2) or != (code 3) -/
def Ahead (prog : Program) (w : World) (l b : Addr) (code : Nat) : Spec := fun A R s => ∃ (dd : Option Addr) (is : Array Value) (n : Nat) (sl : Array (Option Value)) (dd2 : Option Addr) (is2 : Array Value) (n2 : Nat) (sl2 : Array (Option Value)) (x0 y0 x y : Value),
    s.heap.get? l = some { cls := .type "list", dict := dd, data := .seq is n, slots := sl } ∧ s.heap.get? b = some { cls := .type "list", dict := dd2, data := .seq is2 n2, slots := sl2 } ∧ is[0]? = some x0 ∧ is2[0]? = some y0 ∧ is[1]? = some x ∧ is2[1]? = some y ∧
      SeqAt.EqAt A.in1 s x0 y0 true ∧ is.size = 2 ∧ is2.size = 2 ∧
      wpAny (model prog w) A.in1 (eqBool x y) (fun k s' => k = true ∧ Two s' l ∧ Two s' b ∧ R (.ok (.ret (.bool (code == 2)))) s') (fun e s' => R (.error e) s') s
theorem eq_two : MeetsIn prog w (Builtin.«list.__eq__» ⟨[.ref l, .ref b], []⟩) (Ahead prog w l b 2) := by
  intro A R s h
  obtain ⟨hp, g, d, tk, os⟩ := s
  obtain ⟨dd, is, n, sl, dd2, is2, n2, sl2, x0, y0, x, y, h1, h2, e1, e2, f1, f2, e0, z1, z2, q⟩ := h
  have sub := AutoSeq1.sub_list_list
  have same : ¬ (is.size != is2.size) = true := by simp [z1, z2]
  wp_walk using wpAny_loadPart' h1, wpAny_loadPart' h2
  exact ⟨plainId_quiet plain_eq_loop _, codeAny_builtin entry_eq_loop (by
    rw [Around.under_plainId plain_eq_loop _]
    exact at_nil 2 (.inl rfl) A R _ ⟨dd, is, n, sl, dd2, is2, n2, sl2, x0, y0, x, y, h1, h2, e1, e2, f1, f2, e0, q⟩)⟩
theorem ne_two : MeetsIn prog w (Builtin.«list.__ne__» ⟨[.ref l, .ref b], []⟩) (Ahead prog w l b 3) := by
  intro A R s h
  obtain ⟨hp, g, d, tk, os⟩ := s
  obtain ⟨dd, is, n, sl, dd2, is2, n2, sl2, x0, y0, x, y, h1, h2, e1, e2, f1, f2, e0, z1, z2, q⟩ := h
  have sub := AutoSeq1.sub_list_list
  have same : ¬ (is.size != is2.size) = true := by simp [z1, z2]
  wp_walk using wpAny_loadPart' h1, wpAny_loadPart' h2
  exact ⟨plainId_quiet plain_eq_loop _, codeAny_builtin entry_eq_loop (by
    rw [Around.under_plainId plain_eq_loop _]
    exact at_nil 3 (.inr rfl) A R _ ⟨dd, is, n, sl, dd2, is2, n2, sl2, x0, y0, x, y, h1, h2, e1, e2, f1, f2, e0, q⟩)⟩
end
end GE
end PySem
namespace GL
open PySem PySem.Spec PyProof.Rows L2
section
variable {X : Cx} {CX : CXT} {k : Nat} {f C : Addr} {fd : FuncData} {sp : Sp} {E : XK} {pins : List (Addr × Obj)} {σ : L2.St} {H : Hp} {s : Shared}
/-- the items of a list of two -/
theorem two_of (I : Inv X pins σ H s) {p : Addr} {x y : V} (h : H p = some (.lst [x, y])) : ∃ (is : Array Value) (n : Nat) (u v : Value), s.heap.get? p = some { cls := .type "list", data := .seq is n } ∧ is.size = 2 ∧ is[0]? = some u ∧ is[1]? = some v ∧ RelV x u ∧ RelV y v := by
  obtain ⟨_, us, n, r, e⟩ := I.hok p _ h
  cases r with
  | cons ra r => cases r with
    | cons rb r =>
      cases r
      exact ⟨_, n, _, _, e, rfl, rfl, rfl, ra, rb⟩
/-- ['m', a] and ['m', b], a and b equal by their own == -/
def rEqM (C : Addr) (sp : Sp) (E : XK) (r : Bool) : R2 := fun x y H Q => ∃ (p q a b : Addr) (m : Str) (dx dy : Addr) (fs gs : List (Str × V)), x = .ref p ∧ y = .ref q ∧ H p = some (.lst [.str m, .ref a]) ∧ H q = some (.lst [.str m, .ref b]) ∧ a ≠ b ∧ H a = some (.ins C dx fs) ∧ H b = some (.ins C dy gs) ∧
  sp [.ref a, .ref b] H (fun v H' => v = .bl true ∧ H' p = some (.lst [.str m, .ref a]) ∧ H' q = some (.lst [.str m, .ref b]) ∧ Q (.bl r) H') E
theorem two_is {s' : Shared} {H' : Hp} (I : Inv X pins σ H' s') {p : Addr} {x y : V} (h : H' p = some (.lst [x, y])) : GE.Two s' p := by
  obtain ⟨is, n, u, v, e, z, _⟩ := two_of I h
  exact ⟨_, is, n, _, e, z⟩
theorem own_run (G : Fre X.A) (F : FnG X.prog X.w X.K X.mg X.base CX k f fd ["self", "other"] sp) (hr : Room (k + 1) X.A) (hu : X.A.units + 64 < cLine) (hb : Binds X.K fd ["self", "other"] []) (hs : PySem.W.findIn X.K (.ref C) "__eq__" = some (some (.ref f))) (hf : PySem.W.isFn X.K (.ref f) = true) (hx : Passes CX X E)
    (I : Inv X pins σ H s) {a b dx dy : Addr} {fs gs : List (Str × V)} (ha : H a = some (.ins C dx fs)) (hb' : H b = some (.ins C dy gs)) {Q : VK} {R : Value → Shared → Prop} (h : sp [.ref a, .ref b] H Q E)
    (hR : ∀ v H' s' u, Inv X pins σ H' s' → RelV v u → Q v H' → PySem.W.CmpBack R u s') (hE : ∀ e s', X.xe e s' → X.xe e s') :
    wpAny (model X.prog X.w) X.A.in1 (richCompare .Eq (.ref a) (.ref b)) R X.xe s := by
  obtain ⟨mA, J, _⟩ := ins_get I.hok ha
  obtain ⟨od, J, _⟩ := J.look
  obtain ⟨mB, J', _⟩ := ins_get I.hok hb'
  obtain ⟨od', J', _⟩ := J'.look
  obtain ⟨m, hF⟩ := I.fr
  refine PySem.W.cmp_K (op := .Eq) (tb := .ref C) (show X.A.in1.units < cLine from ?_) hF I.ok.mod.kin J J'.type (by simp [PySem.W.notFirst]) hs hf ?_
  · show X.A.units + 1 < cLine
    omega
  · refine wpAny_call (codeAny_mono (F.goes (A := X.A.in1) (outer := X.stack) (vs := [.ref a, .ref b]) (us := [.ref a, .ref b]) G hr.in1 I.env0.in1 (hb s [.ref a, .ref b] I.kIn rfl) (.cons rfl (.cons rfl .nil)) h) ?_)
    intro r s' z
    match r, z with
    | .error e, z => exact hx pins σ H s e s' I z
    | .ok (.ret w), z =>
      obtain ⟨v, H', I3, rv, q⟩ := I.after z
      exact hR v H' s' w I3 rv q
    | .ok .next, z => exact z.elim
    | .ok .brk, z => exact z.elim
    | .ok .cont, z => exact z.elim
theorem ahead_of (G : Fre X.A) (F : FnG X.prog X.w X.K X.mg X.base CX k f fd ["self", "other"] sp) (hr : Room (k + 1) X.A) (hu : X.A.units + 64 < cLine) (hb : Binds X.K fd ["self", "other"] []) (hs : PySem.W.findIn X.K (.ref C) "__eq__" = some (some (.ref f))) (hf : PySem.W.isFn X.K (.ref f) = true) (hx : Passes CX X E)
    (I : Inv X pins σ H s) (code : Nat) {p q a b dx dy : Addr} {m : Str} {fs gs : List (Str × V)} {Q : VK} {r : Bool} (hr' : r = (code == 2)) (hp : H p = some (.lst [.str m, .ref a])) (hq : H q = some (.lst [.str m, .ref b])) (hne : a ≠ b) (ha : H a = some (.ins C dx fs)) (hb' : H b = some (.ins C dy gs))
    (h : sp [.ref a, .ref b] H (fun v H' => v = .bl true ∧ H' p = some (.lst [.str m, .ref a]) ∧ H' q = some (.lst [.str m, .ref b]) ∧ Q (.bl r) H') E) :
    GE.Ahead X.prog X.w p q code X.A (wants (fun v s' => v ≠ .notImplemented ∧ EP X pins σ Q v s') X.xe) s := by
  obtain ⟨is, n, u0, u1, e1, z1, f0, f1, r0, r1⟩ := two_of I hp
  obtain ⟨js, n', v0, v1, e2, z2, g0, g1, t0, t1⟩ := two_of I hq
  obtain ⟨tk1, rfl⟩ := r0
  obtain ⟨tk2, rfl⟩ := t0
  cases r1
  cases t1
  refine ⟨_, is, n, _, _, js, n', _, _, _, _, _, e1, e2, f0, g0, f1, g1, ?_, z1, z2, ?_⟩
  · have z := SeqAt.EqAt.str_str (A := X.A.in1) (s := s) m tk1 m tk2
    rwa [beq_self_eq_true] at z
  · unfold eqBool
    refine wpAny_holding ?_
    refine wpAny_ite_split (fun hab => absurd (by have := eq_of_beq hab; injection this) hne) (fun _ => ?_)
    refine wpAny_bind (own_run G F hr hu hb hs hf hx I ha hb' h (fun v H' s' u I3 rv q => ?_) fun _ _ z => z)
    obtain ⟨rfl, p1, p2, q3⟩ := q
    cases (show u = Value.bool true from rv)
    refine wpAny_truthy_bool ⟨rfl, two_is I3 p1, two_is I3 p2, (fun z => nomatch z), .bl r, H', I3, ?_, q3⟩
    rw [hr']
    rfl
theorem op_eqM (G : Fre X.A) (F : FnG X.prog X.w X.K X.mg X.base CX k f fd ["self", "other"] sp) (hr : Room (k + 1) X.A) (hu : X.A.units + 64 < cLine) (hb : Binds X.K fd ["self", "other"] []) (hs : PySem.W.findIn X.K (.ref C) "__eq__" = some (some (.ref f))) (hf : PySem.W.isFn X.K (.ref f) = true) (hx : Passes CX X E) : OpR X (compareOp .Eq) (rEqM C sp E true) := by
  intro pins s σ H x y v u Q I rx ry h
  have hu' : X.A.units < cLine := by omega
  obtain ⟨p, q, a, b, m, dx, dy, fs, gs, rfl, rfl, hp, hq, hne, ha, hb', h⟩ := h
  cases rx
  cases ry
  obtain ⟨is, n, _, _, e1, _⟩ := two_of I hp
  obtain ⟨js, n', _, _, e2, _⟩ := two_of I hq
  have A1 := ahead_of G F hr hu hb hs hf hx I 2 rfl hp hq hne ha hb' h
  have T1 : s.TypeIs (.ref p) "list" := ⟨_, e1, rfl⟩
  have T2 : s.TypeIs (.ref q) "list" := ⟨_, e2, rfl⟩
  have C1 := call_meetsIn (prog := X.prog) (w := X.w) (A := X.A) (E := X.xe) (Q := fun v s' => v ≠ .notImplemented ∧ EP X pins σ Q v s') PySem.F.slot_list_eq T1 PySem.F.entry_list_eq (PySem.F.args_list_eq_2 (.ref p) (.ref q)) GE.eq_two A1
  exact wpAny_richCompare_same_room (op := .Eq) T1 T2 PySem.F.slot_list_eq C1 hu'
theorem op_neM (G : Fre X.A) (F : FnG X.prog X.w X.K X.mg X.base CX k f fd ["self", "other"] sp) (hr : Room (k + 1) X.A) (hu : X.A.units + 64 < cLine) (hb : Binds X.K fd ["self", "other"] []) (hs : PySem.W.findIn X.K (.ref C) "__eq__" = some (some (.ref f))) (hf : PySem.W.isFn X.K (.ref f) = true) (hx : Passes CX X E) : OpR X (compareOp .NotEq) (rEqM C sp E false) := by
  intro pins s σ H x y v u Q I rx ry h
  have hu' : X.A.units < cLine := by omega
  obtain ⟨p, q, a, b, m, dx, dy, fs, gs, rfl, rfl, hp, hq, hne, ha, hb', h⟩ := h
  cases rx
  cases ry
  obtain ⟨is, n, _, _, e1, _⟩ := two_of I hp
  obtain ⟨js, n', _, _, e2, _⟩ := two_of I hq
  have A1 := ahead_of G F hr hu hb hs hf hx I 3 rfl hp hq hne ha hb' h
  have T1 : s.TypeIs (.ref p) "list" := ⟨_, e1, rfl⟩
  have T2 : s.TypeIs (.ref q) "list" := ⟨_, e2, rfl⟩
  have C1 := call_meetsIn (prog := X.prog) (w := X.w) (A := X.A) (E := X.xe) (Q := fun v s' => v ≠ .notImplemented ∧ EP X pins σ Q v s') PySem.F.slot_list_ne T1 PySem.F.entry_list_ne (PySem.F.args_list_ne_2 (.ref p) (.ref q)) GE.ne_two A1
  exact wpAny_richCompare_same_room (op := .NotEq) T1 T2 PySem.F.slot_list_ne C1 hu'
/-- one rule, or another -/
theorem op_or {o : Value → Value → Sem Value} {r1 r2 : R2} (h1 : OpR X o r1) (h2 : OpR X o r2) : OpR X o fun x y H Q => r1 x y H Q ∨ r2 x y H Q := fun pins s σ H x y v u Q I rx ry h => h.elim (h1 pins s σ H x y v u Q I rx ry) (h2 pins s σ H x y v u Q I rx ry)
end
end GL
/-! isinstance(e, C), e an error of ours that a suite holds, with a dict of its own or without -/
namespace PySem
namespace GX
open PySem.W PySem.Calls PyProof.Rows PySem.HandSPX Builtin Builtin.ObjectAttr
/-- what isinstance asks of the error's class -/
structure ErrC (K : Frag) (D : Addr) : Prop where
  ga : findIn K (.ref D) "__getattribute__" = some (some (.builtin "BaseException.__getattribute__"))
  gg : findIn K (.ref D) "__getattr__" = some none
  sb : subIn K (.ref D) (.type "BaseException") = some true
  hd : hasDictIn K D = true
  cl : findIn K (.ref D) "__class__" = some (some (.builtin "object.__class__"))
  cg : specialIn K (.builtin "object.__class__") "__get__" = some (some (.builtin "getset_descriptor.__get__"))
  tk : takesIn K (.builtin "object.__class__") = some true
  mo : mroIn K D (.type "object") = some true
theorem ErrC.find {K : Frag} {D : Addr} (T : ErrC K D) : ∀ od : Option Obj, findObj K D od "__class__" = some (.bind (.builtin "getset_descriptor.__get__") (.builtin "object.__class__")) := fun od => by
  obtain ⟨cd, hc, _⟩ := any_some T.hd
  have hs : (clsIn K D).isSome = true := by rw [hc]; rfl
  cases od with
  | none => exact findObj_dataN hs T.cl T.cg T.tk
  | some od => exact findObj_data hs T.cl T.cg T.tk
section
variable {prog : Program} {w : World} {A : Around} {E : Value → Shared → Prop} {s : Shared} {K : Frag} {x D : Addr} {ox : Obj} {od : Option Obj}
theorem class_of_err {Q : Option Value → Shared → Prop} (T : ErrC K D) (X : K.In s.heap) (I : InstAt s.heap x ox D od) (h : Q (some (.ref D)) { s with toks := s.toks + 1 }) : wpAny (model prog w) A (getAttr? (.ref x) "__class__") Q E s := by
  obtain ⟨hp, gn, dr, tt, so⟩ := s
  have tyL := I.type (M := model prog w); have gaL := looks_findIn (M := model prog w) X T.ga
  have ggL := looks_findIn (M := model prog w) X T.gg; have fL := looks_find (M := model prog w) X I (T.find od)
  have subL : Looks (model prog w) hp (isInstance (.ref x) (.type "BaseException")) true := tyL.andThen (looks_subIn X T.sb)
  have ne : (Value.builtin "BaseException.__getattribute__" == Value.builtin "object.__getattribute__") = false := by decide +kernel
  have c1 : (onTheHeap (Value.ref D) && Value.builtin "BaseException.__getattribute__" == Value.builtin "object.__getattribute__") = false := by rw [ne]; rfl
  unfold getAttr? getAttrBy? getAttrBy
  refine wpAny_bind (wpAny_mkText (wpAny_bind (wpAny_attempt (wpAny_holding (wpAny_bind (tyL.at (wpAny_bind (gaL.at ?_))))))))
  show wpAny _ _ (if (onTheHeap (Value.ref D) && Value.builtin "BaseException.__getattribute__" == Value.builtin "object.__getattribute__") = true then _ else _) _ _ _
  rw [c1, if_neg Bool.false_ne_true]; unfold getAttrByItsOwn hookBefore
  refine wpAny_bind ?_; rw [if_pos (show onTheHeap (Value.ref D) = true from rfl)]; refine ggL.at ?_
  refine wpAny_bind (wpAny_attempt (wpAny_holding ?_)); unfold callGetattribute
  rw [show (false && onTheHeap (Value.builtin "BaseException.__getattribute__")) = false from rfl, if_neg Bool.false_ne_true]; unfold boundAndCalled
  rw [PySem.F.excAttr_ValueError.ga.bind (.ref x)]; refine wpAny_bind (wpAny_pure ?_)
  show wpAny _ _ (call (.builtin "BaseException.__getattribute__") [.ref x, .str "__class__" tt]) _ _ _
  refine wpAny_call (codeAny_call_builtin PySem.F.excAttr_ValueError.ga.plain PySem.F.entry_bexc_ga (@check_slot (model prog w) _ _ ⟨hp, gn, dr, tt + 1, so⟩ "BaseException.__getattribute__" "BaseException" "__getattribute__" (.ref x) [.str "__class__" tt] [] _ (by decide +kernel) (by decide +kernel) subL (PySem.F.args_bexc_ga (.ref x) (.str "__class__" tt)) ?_))
  unfold Builtin.«object.__getattribute__»
  refine wpAny_bind (wpAny_of_eq (a := ((Value.ref x : Value), [Value.str "__class__" tt])) (by first | rfl | (simp only [slotArgs]; rfl)) (wpAny_bind (wpAny_pure (wpAny_bind (tyL.at (wpAny_bind (fL.at ?_)))))))
  show wpAny _ _ (holding [Value.builtin "object.__class__"] (call (.builtin "getset_descriptor.__get__") [.builtin "object.__class__", .ref x, .ref D]) >>= ret) _ _ _
  refine wpAny_bind (wpAny_holding (wpAny_call (class_get (s := ⟨hp, gn, dr, tt + 1, so⟩) (ox := ox) (od := od) X I T.mo (wpAny_pure ?_))))
  show wpAny _ _ (handedOut (.ref D)) _ _ _
  rw [handedOut_of (v := .ref D) rfl]
  first
    | exact wpAny_pure (wpAny_pure h)
    | exact wpAny_pure h
    | exact wpAny_pure (wpAny_bind (wpAny_pure (wpAny_pure h)))
theorem kit_err (T : ErrC K D) : KitX K (.ref x) (.ref D) (fun h => InstAt h x ox D od) := by
  obtain ⟨cdD, hcD, _⟩ := any_some T.hd
  have at_ : ∃ c' d' sl', K.lookup D = some ⟨c', d', .cls cdD, sl'⟩ := by
    unfold clsIn at hcD
    split at hcD
    · rename_i c' d' cd' sl' ho
      cases hcD
      exact ⟨_, _, _, ho⟩
    · cases hcD
  obtain ⟨c', d', sl', ho⟩ := at_
  refine ⟨fun _ _ _ I => I.type, fun _ _ X _ => ?_, fun h tp dd its n sl X htp => ?_, fun X I k => class_of_err T X I k⟩
  · intro A' Q' E' s' k q
    unfold isType loadHead
    exact wpAny_bind (wpAny_loadPart (k _ _ (X _ _ ho)) (wpAny_pure q))
  · refine Bool.eq_false_iff.mpr fun q => ?_
    have e : D = tp := Value.ref.inj (beq_iff_eq.mp q)
    subst e
    have z := (X _ _ ho).symm.trans htp
    cases z
end
end GX
end PySem
namespace GL
open PySem PySem.Spec PyProof.Rows L2
/-- isinstance(e, c), e the error at a that the suite holds: its class cls, its dict d -/
def rIsX (K : PySem.W.Frag) (cls : Value) (d : Option Addr) (a : Addr) : List V → Hp → VK → Prop := fun xs H Q => ∃ (D C : Addr) (b : Bool), cls = .ref D ∧ GX.ErrC K D ∧ xs = [.ref a, .ref C] ∧ PySem.W.kitOne K (.ref D) (.ref C) = some b ∧ (d = none ∨ ∃ dd fs, d = some dd ∧ H dd = some (.xd fs)) ∧ Q (.bl b) H
theorem call_isX {X : Cx} {a : Addr} {cls : Value} {d : Option Addr} {oe : Obj} {pn : List (Addr × Obj)} (hz : Zc cls d oe) (hf : ∃ vs, oe.data = .fields vs) : CallR (X.suite a ((a, oe) :: pn)) (.builtin "isinstance") (rIsX X.K cls d a) := by
  intro pins s σ H xs us Q I r h
  obtain ⟨D, C, b, rfl, T, rfl, e, hd, q⟩ := h
  cases r with
  | cons rx rr => cases rr with
    | cons rt rr =>
      cases rr
      cases rx
      cases rt
      obtain ⟨hget, _⟩ := I.pin (a, oe) (List.mem_append_left _ List.mem_cons_self)
      obtain ⟨vs, hv⟩ := hf
      have J : ∃ od, PySem.W.InstAt s.heap a oe D od := by
        rcases hd with e0 | ⟨dd, fs, e0, hdd⟩
        · refine ⟨none, hget, hz.1, by unfold PySem.W.notCls; rw [hv], ?_⟩
          rw [hz.2, e0]
          trivial
        · obtain ⟨mA, hns, _⟩ := (show ObjOk X.prog X.w H s.heap dd (.xd fs) from I.hok dd _ hdd)
          obtain ⟨od, ho, _⟩ := lookIn_ns hns
          refine ⟨some od, hget, hz.1, by unfold PySem.W.notCls; rw [hv], ?_⟩
          rw [hz.2, e0]
          exact ho
      obtain ⟨od, J⟩ := J
      exact PySem.W.kia_one (GX.kit_err T) I.kIn J e (fun z => nomatch z) fun tk => ⟨.bl b, H, I.kept (t' := tk) fun _ _ z => z, rfl, q⟩
end GL
/-! a lambda handed to a def, where nothing is being shown; defs whose code object has a table -/
namespace GL
open PySem PySem.Spec PyProof.Rows L2
theorem call_repr_non {X : Cx} : CallR X (.builtin "repr") (fun xs H Q => xs = [.non] ∧ Q (.str "None") H) := by
  intro pins s σ H xs us Q I r h
  obtain ⟨rfl, q⟩ := h
  cases r with
  | cons rx rr =>
    cases rr
    cases rx
    exact PySem.P.repr_of_none ⟨.str _, H, I.tok _, ⟨_, rfl⟩, q⟩
/-- the def st stands at f, its code object at c -/
structure FunT (K : PySem.W.Frag) (x qual : Str) (st : Stmt) (f : Addr) (fd : FuncData) (c : Addr) : Prop where
  ex : ∃ (oc : Value) (od : Option Addr) (kV doc pm : Value) (an : Option Addr) (ct : Value) (osl : Array (Option Value)),
    fd = PySem.W.fnOf x qual (defArgs st) (defBody st) (defScope st) .none kV doc pm an (.ref c) ct ∧ K.lookup f = some ⟨oc, od, .func fd, osl⟩ ∧ PySem.W.codeIn K (.ref c) qual = true
section
variable {P : Program} {w : World} {K : PySem.W.Frag} {mg : Str → Option Value} {base : Heap} {x qual : Str} {st : Stmt} {f c : Addr} {fd : FuncData} {N ps : List Str} {k : Nat} {sp : Sp} {CX : CXT}
theorem okGT (F : FunT K x qual st f fd c) (S : FnScope N ps (defScope st)) (many : ∀ vs H Q E, sp vs H Q E → vs.length = ps.length)
    (hb : ∀ (A : Around) (outer : List Env) (s : Shared) (H : Hp) (vs : List V) (Q : VK) (E : XK), Fre (A.deeper (envOfC qual (defScope st) s.heap.objs.size f (.ref c))) → Room k (A.deeper (envOfC qual (defScope st) s.heap.objs.size f (.ref c))) → sp vs H Q E →
      ∃ t, PSs (cxOf CX0 P w K mg base N qual (defScope st) f (.ref c) A outer s H E).nox (defBody st) t ∧ t { nx := fun _ H' => Q .non H', rt := Q } (start N vs) H) : FnG P w K mg base CX0 (k + 1) f fd ps sp := by
  obtain ⟨c0, o0, kV, doc, pm, an, ct, s0, rfl, lk, hcd⟩ := F.ex
  exact bodied lk hcd S many fun A outer s H vs Q E g hr hsp => (hb A outer s H vs Q E g hr hsp).imp fun t z => ⟨z.1.nox, z.2⟩
end
/-- what the def at g makes of a lambda's reading, that it calls under the name a -/
def GivesG (X : Cx) (Ng : List Str) (x : Str) (sg : Scope) (g : Addr) (bg : List Stmt) (a : Str) (q : Str) (k : Nat) (TT : (XK → Hp → VK → Prop) → Hp → VK → Prop) : Prop :=
  ∀ (cd : Value) (f c' : Addr) (s : Shared) (H : Hp) (Q : VK) (tl : XK → Hp → VK → Prop),
    Fre (X.A.deeper (envOfC x sg s.heap.objs.size g cd)) → Room (k + 1) (X.A.deeper (envOfC x sg s.heap.objs.size g cd)) →
    (∀ (W : WX) (pn : List (Addr × Obj)) (xe : Value → Shared → Prop) (E : XK) (p1 p2 : Pos), Takes ((cxOf CX0 X.prog X.w X.K X.mg X.base Ng x sg g cd X.A X.stack s H E0).nox.tr pn xe) W → (∀ cls d (σ' : L2.St) H', σ'.length = Ng.length → E cls d H' → W cls d σ' H') →
      PE ((cxOf CX0 X.prog X.w X.K X.mg X.base Ng x sg g cd X.A X.stack s H E0).nox.tr pn xe) (.Call (.Name a p1) [] [] p2) (fun σZ HZ Q => σZ[0]? = some (some (.ref f)) ∧ HZ c' = some (LamX.CodeO c' q) ∧ tl E HZ Q)) →
    H c' = some (LamX.CodeO c' q) → TT tl H Q →
    ∃ t, PSs (cxOf CX0 X.prog X.w X.K X.mg X.base Ng x sg g cd X.A X.stack s H E0).nox bg t ∧ t { nx := fun _ H' => Q .non H', rt := Q } (L2.start Ng [.ref f]) H
section
variable {X : Cx} {pins : List (Addr × Obj)} {σ : L2.St} {H : Hp} {s : Shared}
theorem fre_deeper {A : Around} {e : Env} (h : Fre A) : Fre (A.deeper e) := by
  first | exact h | simpa [Around.deeper] using h
/-- the lambda that stands at f, made at s, is called in a def that runs from s on -/
theorem act_G {Ng : List Str} {qg : Str} {sg : Scope} {g f c' : Addr} {cdg pm ctv : Value} {params : Arguments} {body : Expr} {scope : Scope} {k i : Nat} {a : Str} {pn : List (Addr × Obj)} {xe : Value → Shared → Prop} {W : WX} {E : XK} {tb : TE} {p1 p2 : Pos}
    (I : Inv X pins σ H s) (L : LamX.LamS X.env.scope scope) (hf : s.heap.get? f = some (PySem.W.kla_obj "<lambda>" (X.env.qual ++ "<lambda>") params body scope (cloFrom X.env.cells scope.names []) pm c' ctv)) (hfn : H f = none) (hfr : f ∉ frs X.stack)
    (hbind : bindArgs (PySem.W.kla_fn "<lambda>" (X.env.qual ++ "<lambda>") params body scope (cloFrom X.env.cells scope.names []) pm (.ref c') ctv) ⟨[], []⟩ = pure [])
    (G : Fre (X.A.deeper (envOfC qg sg s.heap.objs.size g cdg))) (hr : Room (k + 1) (X.A.deeper (envOfC qg sg s.heap.objs.size g cdg))) (tk : Takes ((cxOf CX0 X.prog X.w X.K X.mg X.base Ng qg sg g cdg X.A X.stack s H E0).nox.tr pn xe) W) (hW : ∀ cls d (σ' : L2.St) H', σ'.length = Ng.length → E cls d H' → W cls d σ' H')
    (hbody : ∀ (A : Around) (outer : List Env) (s : Shared) (H : Hp), Fre (A.deeper (LamX.lamEnv X scope s.heap.objs.size f c')) → Room k (A.deeper (LamX.lamEnv X scope s.heap.objs.size f c')) → PE (LamX.lamCx X A outer s H E scope f c') body tb)
    (hN : Ng[i]? = some a) (hv : Vis sg a) (hd : (a == ("__debug__" : Str)) = false := by decide) (hcd : (a == ("__classdict__" : Str)) = false := by decide) :
    PE ((cxOf CX0 X.prog X.w X.K X.mg X.base Ng qg sg g cdg X.A X.stack s H E0).nox.tr pn xe) (.Call (.Name a p1) [] [] p2) (fun σZ HZ Q => σZ[i]? = some (some (.ref f)) ∧ HZ c' = some (LamX.CodeO c' (X.env.qual ++ "<lambda>")) ∧ tb σ HZ Q) := by
  constructor
  intro pinsZ sZ σZ HZ Q IZ ⟨hs, hc, ht⟩
  have look := (pe_var (X := (cxOf CX0 X.prog X.w X.K X.mg X.base Ng qg sg g cdg X.A X.stack s H E0).nox.tr pn xe) (pos := p1) (i := i) hN hv hd hcd).run pinsZ sZ σZ HZ (fun v H1 => v = .ref f ∧ H1 = HZ) IZ ⟨.ref f, hs, rfl, rfl⟩
  refine wpAny_Call_Name_kw (thn look ?_)
  rintro u s1 ⟨v, H1, I1, r1, q1, q2⟩
  rw [q2] at I1
  rw [q1] at r1
  cases (show u = Value.ref f from r1)
  have there : s1.heap.get? f = some (PySem.W.kla_obj "<lambda>" (X.env.qual ++ "<lambda>") params body scope (cloFrom X.env.cells scope.names []) pm c' ctv) := I1.base.keep f _ hf hfn hfr List.not_mem_nil
  have un : Un (frs X.stack) [] H HZ s.heap s1.heap := I1.base
  refine PySem.W.callWith_F0 ⟨_, _, _, _, there⟩ ?_
  obtain ⟨⟨oc, us, tc, g1, g2, g3⟩, _, _⟩ := I1.hok c' _ hc
  have run : codeAny (model X.prog X.w) (X.A.deeper (envOfC qg sg s.heap.objs.size g cdg)) (.call (.ref f) ⟨[], []⟩) (CR (L2.CX X.prog X.w) (envOfC qg sg s.heap.objs.size g cdg :: X.stack) X.prog X.w HZ s1 Q E) s1 := by
    refine PySem.W.kla_callFunE hr.depth there rfl L.co L.gen rfl ⟨c', oc, us, tc, rfl, g1, g2, g3⟩ ?_
    rw [hbind]
    refine wpAny_pure (wpAny_newFunctionEnv (fun y hy => (L.own y hy).2) (fun y hy => absurd hy List.not_mem_nil) (fun h1 hns hsb => ⟨I1.nolimit.fresh _ hsb, ?_⟩) L.kind)
    show codeAny _ _ (.expr body (LamX.lamEnv X scope s1.heap.objs.size f c')) _ _
    have stay : ∀ b o, s1.heap.get? b = some o → h1.get? b = some o := fun b o e => hsb.extBut b o (Nat.ne_of_lt (Heap.lt_size e)) (Heap.get?_push_of_some _ e)
    have J := LamX.lam_start2 (tk := s1.toks + ([] : List (Str × Value)).length) (A := X.A.deeper (envOfC qg sg s.heap.objs.size g cdg)) (outer := envOfC qg sg s.heap.objs.size g cdg :: X.stack) (E := E) (f := f) (c' := c') I L I1.env0 hr.hd un hns stay
    refine PySem.W.kla_codeExpr (wpAny_mono ((hbody _ _ s1 HZ (fre_deeper G) (hr.deeper _)).run [] _ _ HZ Q J ht) ?_ fun _ _ z => z)
    rintro y s2 ⟨y', H', J', ry, q⟩
    exact ⟨y', H', J'.os, J'.bare, J'.base, J'.hok, ry, q⟩
  refine wpAny_call (codeAny_mono run ?_)
  intro r s2 q
  match r, q with
  | .error e, q => exact tk e s2 (XE.of_call I1 (fun cls d H' h => hW cls d σZ H' I1.len h) q)
  | .ok (.ret y), q => exact I1.after q
  | .ok .next, q => exact q
  | .ok .brk, q => exact q
  | .ok .cont, q => exact q
end
section
variable {X : Cx}
def tLamG (T : List (Addr × Str)) (TT : (XK → Hp → VK → Prop) → Hp → VK → Prop) (t : XK → TE) : TE := fun σ H Q => LamX.Tabs T H ∧ ∀ H1, LamX.ExtN H H1 → LamX.Tabs T H1 → TT (fun E H' Q' => t E σ H' Q') H1 Q
/-- x(lambda: body) -/
theorem pe_lamG {T : List (Addr × Str)} {TT : (XK → Hp → VK → Prop) → Hp → VK → Prop} {x a : Str} {g c P : Addr} {k : Nat} {st : Stmt} {fd : FuncData} {Ng : List Str} {params : Arguments} {body : Expr} {scope : Scope} {t : XK → TE} {p lpos pos : Pos}
    (G : Fre X.A) (hg : Gl X x) (hm : X.mg x = some (.ref g)) (FG : L2.Fun X.K x x st g fd) (hb : L2.Binds X.K fd [a] []) (Sg : FnScope Ng [a] (defScope st)) (hNg : Ng[0]? = some a) (hva : Vis (defScope st) a)
    (hG : GivesG X Ng x (defScope st) g (defBody st) a (X.env.qual ++ "<lambda>") k TT)
    (TB : LamX.TabB X.base X.mg c P) (hcode : X.env.code = .ref c) (hmT : (P, X.env.qual ++ "<lambda>") ∈ T) (hu : ∀ p ∈ T, p.1 = P → p.2 = X.env.qual ++ "<lambda>") (hr : Room (k + 2) X.A) (L : LamX.LamS X.env.scope scope) (hdef : defaultsOf params X.env = ([], []))
    (hbind : ∀ (q : Str) (cl : List (Str × Addr)) (pm cv ctv : Value), bindArgs (PySem.W.kla_fn "<lambda>" q params body scope cl pm cv ctv) ⟨[], []⟩ = pure [])
    (hbody : ∀ (A : Around) (outer : List Env) (s : Shared) (H : Hp) (E : XK) (f c' : Addr), Fre (A.deeper (LamX.lamEnv X scope s.heap.objs.size f c')) → Room k (A.deeper (LamX.lamEnv X scope s.heap.objs.size f c')) → PE (LamX.lamCx X A outer s H E scope f c') body (t E))
    (hdb : (x == ("__debug__" : Str)) = false := by decide) (hd : (a == ("__debug__" : Str)) = false := by decide) (hcd : (a == ("__classdict__" : Str)) = false := by decide) :
    PE X (.Call (.Name x p) [.Lambda params body scope lpos] [] pos) (tLamG T TT t) := by
  constructor
  intro pins s σ H Q I ⟨hT, h⟩
  obtain ⟨oc, od, kV, doc, pm, an, cdv, ct, osl, rfl, lk, hcg⟩ := FG.ex
  refine wpAny_Call_Name_kw (ld_glob I hg hm (PySem.W.callWith_K (h₀ := X.base) I.ok.mod.kin FG.kp ?_ (by rfl) (by rfl)) hdb)
  show wpAny _ _ (spliced ((false, eval (.Lambda params body scope lpos) X.env) :: backTo pos (starEach [] X.env))) _ _ s
  refine Calls.spliced_cons (LamX.lam_make2 I TB hcode hmT hu hT hdef (L.has I.ok) fun f c' pm' ctv H1 s' I1 eN T1 hf hfn hfr hco => Calls.spliced_nil ⟨I1.kIn, ?_⟩)
  have rc : codeAny (model X.prog X.w) X.A (.call (.ref g) ⟨[.ref f], []⟩) (CR CX0 X.stack X.prog X.w H1 s' Q E0) s' := by
    refine LamX.run_ofS (N := Ng) (ps := [a]) (us := [.ref f]) (vs := [.ref f]) lk hcg Sg hr I1.env0 (hb s' [.ref f] I1.kIn rfl) (.cons rfl .nil) rfl fun hr' => ?_
    have gz : Fre (X.A.deeper (envOfC x (defScope st) s'.heap.objs.size g cdv)) := fre_deeper G
    obtain ⟨tz, h1, h2⟩ := hG cdv f c' s' H1 Q (fun E H' Q' => t E σ H' Q') gz hr' (fun W pn xe E p1 p2 tk hW => act_G (i := 0) I1 L hf hfn hfr (hbind _ _ _ _ _) gz hr' tk hW (fun A outer s H g2 hr2 => hbody A outer s H E f c' g2 hr2) hNg hva hd hcd) hco (h H1 eN T1)
    exact ⟨tz, h1.nox, h2⟩
  refine wpAny_call (codeAny_mono rc ?_)
  intro r s2 q
  match r, q with
  | .error e, q => exact (show False from q).elim
  | .ok (.ret y), q => exact I1.after q
  | .ok .next, q => exact q
  | .ok .brk, q => exact q
  | .ok .cont, q => exact q
end
end GL
/-! properties of own classes, calls of a local that holds a def, where nothing is being shown -/
namespace GL
open PySem PySem.Spec PyProof.Rows L2
section
variable {X : Cx} {CX : CXT} {k i : Nat} {C p g f : Addr} {m x : Str} {fd : FuncData} {ps : List Str} {sp : Sp} {ds : List Value} {dvs : List V} {E : XK} {e : Expr} {es : List Expr} {pos q : Pos} {ta : TE} {t : TA}
/-- o.m, m a property -/
theorem pgP (G : Fre X.A) (he : PE X e ta) (c : Cls X.K C) (hp : PropOf X.K C m p g) (F : FnG X.prog X.w X.K X.mg X.base CX k g fd ps sp) (hr : Room (k + 1) X.A) (hb : Binds X.K fd ps ds) (hd : Vals dvs ds) (hx : Passes CX X.nox E)
    (hab : attributeBase e m X.env (eval e X.env) = eval e X.env := by rfl) : PE X (.Attribute e m pos) (tProp C sp dvs E ta) := by
  constructor
  intro pins s σ H Q I h
  refine attr_of hab (thn (he.run pins s σ H _ I h) ?_)
  rintro u s1 ⟨y, H1, I1, ry, a, dx, fs, rfl, ea, q1⟩
  cases (show u = Value.ref a from ry)
  obtain ⟨mA, O, _⟩ := ins_get I1.hok ea
  obtain ⟨od, J, _⟩ := O.look
  obtain ⟨rest, hrec⟩ := hp.rec_
  obtain ⟨cd, hc, _⟩ := PySem.W.any_some c.hd
  have hcs : (PySem.W.clsIn X.K C).isSome = true := by
    rw [hc]
    rfl
  have I2 := I1.tok (s1.toks + 1)
  have ra : Vals (.ref a :: dvs) (.ref a :: ds) := .cons rfl hd
  have hl : ([Value.ref a] ++ ds).length = ps.length := by
    rw [← F.many _ _ _ _ q1]
    exact ra.length.symm
  have run := F.goes (A := X.A.in1) (outer := X.stack) (s := { s1 with toks := s1.toks + 1 }) (H := H1) (args := ⟨[.ref a], []⟩) (us := .ref a :: ds) (vs := .ref a :: dvs) (Q := Q) (E := E) G hr.in1 I2.env0.in1 (hb _ [.ref a] I2.kIn hl) ra q1
  refine PySem.W.get_bind I1.kIn J (PySem.W.plainGet_of (c.get m)).1 (PySem.W.findObj_data hcs hp.at_ hp.get hp.tak) (PySem.W.plainGet_of (c.get m)).2 (wpAny_call (PySem.W.prop_get (s := { s1 with toks := s1.toks + 1 }) I1.kIn hrec (codeAny_mono run ?_)))
  intro r s2 z
  match r, z with
  | .error er, z => exact (hx pins σ H1 { s1 with toks := s1.toks + 1 } er s2 (I2.wish _) z).elim
  | .ok (.ret v), z =>
    obtain ⟨w, H2, I3, rv, q3⟩ := I2.after z
    show wpAny _ _ (handedOut v) _ _ _
    rw [PySem.W.handedOut_of (handed_of rv)]
    exact wpAny_pure ⟨w, H2, I3, rv, q3⟩
  | .ok .next, z => exact z.elim
  | .ok .brk, z => exact z.elim
  | .ok .cont, z => exact z.elim
/-- y(e, ..), y a local that holds one of several defs -/
structure HeldG (P : Program) (w : World) (K : PySem.W.Frag) (mg : Str → Option Value) (base : Heap) (k : Nat) (f : Addr) (sp : Sp) : Prop where
  ex : ∃ (fd : FuncData) (ps : List Str), FnG P w K mg base CX0 k f fd ps sp ∧ PySem.W.keepIn K (.ref f) = true ∧ Binds K fd ps []
def tHeld (i : Nat) (S : Addr → Sp → Prop) (t : TA) : TE := fun σ H Q => ∃ f sp, σ[i]? = some (some (.ref f)) ∧ S f sp ∧ t σ H fun vs H1 => sp vs H1 Q E0
theorem pcH {S : Addr → Sp → Prop} (G : Fre X.A) (A : ∀ f sp, S f sp → HeldG X.prog X.w X.K X.mg X.base k f sp) (hr : Room k X.A) (hN : X.N[i]? = some x) (hv : Vis X.env.scope x) (ha : PA X (e :: es) t)
    (hdb : (x == ("__debug__" : Str)) = false := by decide) (hcd : (x == ("__classdict__" : Str)) = false := by decide)
    (he : starEach (e :: es) X.env = (false, eval e X.env) :: starEach es X.env := by rfl) (hpl : (backTo pos (starEach es X.env)).any (·.1) = false := by rfl) : PE X (.Call (.Name x q) (e :: es) [] pos) (tHeld i S t) := by
  constructor
  intro pins s σ H Q I h
  obtain ⟨f, sp, hs, hS, ht⟩ := h
  obtain ⟨fd, ps, F, hk, hb⟩ := (A f sp hS).ex
  refine wpAny_Call_Name_kw (thn ((pe_var (pos := q) hN hv hdb hcd).run pins s σ H (fun v H1 => v = .ref f ∧ H1 = H) I ⟨.ref f, hs, rfl, rfl⟩) ?_)
  rintro u s1 ⟨v, H1, I1, r1, rfl, rfl⟩
  cases (show u = Value.ref f from r1)
  refine PySem.W.callWith_K (h₀ := X.base) I.ok.mod.kin hk (thn (ha.run pos pins s1 σ _ _ I1 ht) ?_) he hpl
  rintro us s2 ⟨vs, H2, I2, r, q2⟩
  refine ⟨I2.kIn, wpAny_call (codeAny_mono (F.goes G hr I2.env0 (by
    have z := hb s2 us I2.kIn (by rw [List.append_nil, ← r.length]; exact F.many _ _ _ _ q2)
    rw [List.append_nil] at z
    exact z) r q2) ?_)⟩
  intro r s3 z
  match r, z with
  | .error er, z => exact z.elim
  | .ok (.ret y), z => exact I2.after z
  | .ok .next, z => exact z.elim
  | .ok .brk, z => exact z.elim
  | .ok .cont, z => exact z.elim
end
end GL
/-! a dict laid into another one: {**d, ..} -/
namespace PySem
namespace DM
open PySem
section
variable {prog : Program} {w : World} {K : Type} [DecidableEq K] {knd : KeyKind prog w K} {A : Around} {E : Value → Shared → Prop} {s : Shared}
/-- one pair, its hash at hand -/
theorem put_one {d : Addr} {kvs : List (K × Value)} {k : K} {key v : Value} {Q : Unit → Shared → Prop} (hkey : knd.is k key = true) (hm : s.heap.DictOf knd d kvs)
    (hQ : ∀ h', h'.DictOf knd d (stored kvs k v) → Heap.SameBut d s.heap h' → Q () { s with heap := h' }) (hsz : kvs.length ≤ sizeLine) : wpAny (model prog w) A (dictPut d (knd.hash k) key v) Q E s := by
  refine (?_ : wpAny (model prog w) A (do
    match ← dictFind d key (knd.hash k) with
    | some i => updateDict d (·.modify i fun e => { e with val := v })
    | none => updateDictKeys d (·.push ⟨knd.hash k, key, v⟩)) Q E s)
  obtain ⟨o, es, ep, ho, hc, hd, hk, hp, hn⟩ := hm
  have len : es.size = kvs.length := by
    have := hp.length
    simpa using this
  refine wpAny_bind (wpAny_dictFind_of hkey ho hd hk ?_)
  have same : (es.findIdx? fun e => knd.is k e.key) = kvs.findIdx? fun kv => decide (kv.1 = k) := by
    have := hp.findIdx k
    obtain ⟨l⟩ := es
    simpa using this
  cases at_ : es.findIdx? fun e => knd.is k e.key with
  | some i =>
    rw [at_] at same
    have there := any_of_findIdx_some same.symm
    refine wpAny_updateDict ho hd (hQ _ ⟨_, _, ep, Heap.get?_update_self _ ho (Obj.isFreed_of_dict (Obj.data_mapDict hd _)), hc.mapDict _, Obj.data_mapDict hd _, hk.modify _ _, ?_, ?_⟩ (Heap.SameBut.update ..))
    · rw [stored, if_pos there]
      have hl : (es.toList.findIdx? fun e => knd.is k e.key) = some i := by
        obtain ⟨l⟩ := es
        simpa using at_
      have := hp.modify hn hl v
      obtain ⟨l⟩ := es
      simpa using this
    · rw [stored, if_pos there, keys_map_store]
      exact hn
  | none =>
    rw [at_] at same
    have off := not_mem_of_findIdx_none same.symm
    have nope : ¬ (kvs.any fun kv => decide (kv.1 = k)) = true := fun z => by
      obtain ⟨kv, h1, h2⟩ := List.any_eq_true.mp z
      exact off (List.mem_map.mpr ⟨kv, h1, of_decide_eq_true h2⟩)
    refine wpAny_updateDictKeys (hz := by omega) ho hd (hQ _ ⟨_, _, ep + 1, Heap.get?_update_self _ ho (Obj.isFreed_of_dict (Obj.data_mapDictKeys hd _)), hc.mapDictKeys _, Obj.data_mapDictKeys hd _, hk.push hkey _, ?_, ?_⟩ (Heap.SameBut.update ..))
    · rw [stored, if_neg nope]
      have := hp.append hkey (knd.hash k) v
      obtain ⟨l⟩ := es
      simpa using this
    · rw [stored, if_neg nope, List.map_append, List.nodup_append]
      refine ⟨hn, by simp, fun a ha b hb e => ?_⟩
      rw [List.map_singleton, List.mem_singleton] at hb
      have hb : b = k := hb
      exact off (by rw [← hb, ← e]; exact ha)
theorem pairs_at {es : List DictEntry} {kvs : List (K × Value)} (h : Pairs knd es kvs) : ∀ (i : Nat) (hi : i < es.length), ∃ kv, kvs[i]? = some kv ∧ knd.is kv.1 es[i].key = true ∧ es[i].val = kv.2 := by
  induction h with
  | nil => exact fun i hi => absurd hi (Nat.not_lt_zero i)
  | @cons e kv es kvs h1 h2 _ ih =>
    intro i hi
    cases i with
    | zero => exact ⟨kv, rfl, h1, h2⟩
    | succ i =>
      obtain ⟨kv', a, b, c⟩ := ih i (by simpa using hi)
      exact ⟨kv', by simpa using a, by simpa using b, by simpa using c⟩
/-- the pairs, one by one -/
def tail (p a : Addr) : Sem Unit := do
  let es ← dictEntries a
  let epoch ← dictEpoch a
  forIn (List.range es.size) PUnit.unit fun i _ => do
    let es ← dictEntries a
    match es[i]? with
    | some e => do
      holding [e.key, e.val] (dictPut p e.hash e.key e.val)
      let n ← dictEpoch a
      if (n != epoch) = true then do
        let _ ← (unsupported "dict.changed-during-merge" : Sem Unit)
        pure (ForInStep.yield PUnit.unit)
      else pure (ForInStep.yield PUnit.unit)
    | _ => do
      let _ ← (unsupported "dict.changed-during-merge" : Sem Unit)
      pure (ForInStep.yield PUnit.unit)
  pure ()
theorem tail_ok {p a : Addr} {kvs more : List (K × Value)} {Q : Unit → Shared → Prop} (hm : s.heap.DictOf knd p kvs) (ha : s.heap.DictOf knd a more) (ne : p ≠ a) (hz : kvs.length + more.length ≤ sizeLine)
    (hQ : ∀ h', h'.DictOf knd p (merged kvs more) → Heap.SameBut p s.heap h' → Q () { s with heap := h' }) : wpAny (model prog w) A (tail p a) Q E s := by
  obtain ⟨oa, ea, epa, hoa, hca, hda, hka, hpa, hna⟩ := id ha
  have len : ea.size = more.length := by
    have := hpa.length
    simpa using this
  unfold tail
  refine wpAny_bind (wpAny_dictEntries hoa hda (wpAny_bind (wpAny_dictEpoch hoa hda (wpAny_bind ?_))))
  refine wpAny_forIn_list _ (fun rest _ s' => ∃ i, rest = List.range' i (ea.size - i) ∧ i ≤ ea.size ∧ s'.gens = s.gens ∧ s'.drawn = s.drawn ∧ s'.toks = s.toks ∧ s'.os = s.os ∧ s'.heap.DictOf knd p (merged kvs (more.take i)) ∧ Heap.SameBut p s.heap s'.heap) _ ?_ ?_ _ _ ?_
  · rintro x rest _ s' ⟨i, hr, hi, g1, g2, g3, g4, hd', same⟩
    have lt : i < ea.size := by
      by_cases q : i < ea.size
      · exact q
      · rw [Nat.sub_eq_zero_of_le (by omega)] at hr
        cases hr
    obtain ⟨n, hn⟩ : ∃ n, ea.size - i = n + 1 := ⟨ea.size - i - 1, by omega⟩
    rw [hn, List.range'_succ] at hr
    cases hr
    have hoa' : s'.heap.get? a = some oa := (same.2 a ne.symm).trans hoa
    refine wpAny_bind (wpAny_dictEntries hoa' hda ?_)
    rw [Array.getElem?_eq_getElem lt]
    obtain ⟨k, hkey, hhash⟩ := hka ea[x] (Array.getElem_mem lt)
    obtain ⟨kv, hkv, his, hval⟩ := pairs_at hpa x (by simpa using lt)
    have e1 : ea.toList[x] = ea[x] := by simp
    rw [e1] at his hval
    have ek : kv.1 = k := knd.inj _ _ _ his hkey
    have lenm := merged_length_le kvs (more.take x)
    have lt2 : (more.take x).length ≤ x := List.length_take_le ..
    show wpAny _ _ (holding [ea[x].key, ea[x].val] (dictPut p ea[x].hash ea[x].key ea[x].val) >>= _) _ _ _
    rw [hhash]
    refine wpAny_bind (wpAny_holding (put_one hkey hd' (fun h' hd2 same2 => ?_) (by omega)))
    have sm : Heap.SameBut p s.heap h' := ⟨same2.1.trans same.1, fun b hb => (same2.2 b hb).trans (same.2 b hb)⟩
    have hoa2 : h'.get? a = some oa := (sm.2 a ne.symm).trans hoa
    refine wpAny_bind (wpAny_dictEpoch hoa2 hda ?_)
    rw [if_neg (by simp)]
    refine wpAny_pure ⟨x + 1, ?_, by omega, g1, g2, g3, g4, ?_, sm⟩
    · rw [show ea.size - (x + 1) = n by omega]
    · rw [merged_take_succ _ _ _ _ hkv, ek, ← hval]
      exact hd2
  · rintro _ s' ⟨i, hr, hi, g1, g2, g3, g4, hd', same⟩
    have e : i = ea.size := by
      by_cases q : i < ea.size
      · obtain ⟨n, hn⟩ : ∃ n, ea.size - i = n + 1 := ⟨ea.size - i - 1, by omega⟩
        rw [hn, List.range'_succ] at hr
        cases hr
      · omega
    rw [e, len, List.take_length] at hd'
    refine wpAny_pure ?_
    have z := hQ _ hd' same
    obtain ⟨h1, h2, h3, h4, h5⟩ := s'
    cases g1
    cases g2
    cases g3
    cases g4
    exact z
  · refine ⟨0, by rw [List.range_eq_range', Nat.sub_zero], Nat.zero_le _, rfl, rfl, rfl, rfl, ?_, ⟨rfl, fun _ _ => rfl⟩⟩
    simpa [merged] using hm
theorem merge_into {p a : Addr} {kvs more : List (K × Value)} {Q : Unit → Shared → Prop} (hm : s.heap.DictOf knd p kvs) (ha : s.heap.DictOf knd a more) (na : (a == sysModules) = false) (ne : p ≠ a) (hz : kvs.length + more.length ≤ sizeLine)
    (hQ : ∀ h', h'.DictOf knd p (merged kvs more) → Heap.SameBut p s.heap h' → Q () { s with heap := h' }) : wpAny (model prog w) A (mergeMapping p (.ref a) false) Q E s := by
  obtain ⟨oa, ea, epa, hoa, hca, hda, hka, hpa, hna⟩ := id ha
  obtain ⟨op, ep, epp, hop, hcp, hdp, hkp, hpp, hnp⟩ := id hm
  have ty : s.TypeIs (.ref a) "dict" := ⟨oa, hoa, hca.1⟩
  unfold mergeMapping
  refine wpAny_bind (wpAny_isInstance ty isSubtype_dict_dict ?_)
  rw [if_pos rfl]
  refine wpAny_bind (wpAny_specialOf ty PySem.F.slot_dict_iter.lookup (wpAny_bind (wpAny_pure ?_)))
  have t : (some (Value.builtin "dict.__iter__") == some (Value.builtin "dict.__iter__")) = true := by decide +kernel
  rw [t]
  have nn : ¬ (a == sysModules) = true := by
    rw [na]
    exact Bool.false_ne_true
  show wpAny _ _ (if (a == sysModules) = true then _ else _) _ _ _
  rw [if_neg nn]
  refine wpAny_bind (wpAny_dictEntries hop hdp ?_)
  have rest := tail_ok (A := A) (E := E) (Q := Q) hm ha ne hz hQ
  by_cases hemp : ep.isEmpty = true
  · rw [if_pos hemp]
    have loop : (forIn ea PUnit.unit fun (e : DictEntry) (_ : PUnit) => (match e.key with
          | Value.ref a => do
            let q ← specialOf e.key (Str.ofString "__eq__")
            if (q != some (Value.builtin "object.__eq__")) = true then
                if (Array.filter (fun x => x.hash == e.hash) ea).size > 1 then do
                  let _ ← (unsupported "dict.merge-into-an-empty-dict:keys-of-equal-hash" : Sem PUnit)
                  pure (ForInStep.yield PUnit.unit)
                else pure (ForInStep.yield PUnit.unit)
              else pure (ForInStep.yield PUnit.unit)
          | _ => pure (ForInStep.yield PUnit.unit) : Sem (ForInStep PUnit))) = pure PUnit.unit := by
      rw [← Array.forIn_toList]
      refine forIn_yield_id _ fun e he c => ?_
      obtain ⟨k, hkey, _⟩ := hka e (Array.mem_toList_iff.mp he)
      have cv := knd.byValue k _ hkey
      cases q : e.key with
      | ref b =>
        rw [q] at cv
        exact absurd cv Bool.false_ne_true
      | _ => rfl
    exact wpAny_bind (wpAny_dictEntries hoa hda (wpAny_bind (wpAny_of_eq loop rest)))
  · rw [if_neg hemp]
    exact rest
end
end DM
end PySem
namespace PySem
namespace DM
open PySem
section
variable {prog : Program} {w : World} {K : Type} [DecidableEq K] {knd : KeyKind prog w K} {A : Around} {E : Value → Shared → Prop} {s : Shared}
theorem gather (main : Option Addr) (f : (Option (Sem Value) × Sem Value) → (Option Addr × List (Sem Value × Sem Value)) → Sem (ForInStep (Option Addr × List (Sem Value × Sem Value))))
    (hf : ∀ (p : Sem Value × Sem Value) (run : List (Sem Value × Sem Value)), run.length + 1 < 17 → f (some p.1, p.2) (main, run) = pure (.yield (main, run ++ [p]))) :
    ∀ (items run : List (Sem Value × Sem Value)), run.length + items.length < 17 → forIn (items.map fun p => (some p.1, p.2)) (main, run) f = pure (main, run ++ items) := by
  intro items
  induction items with
  | nil =>
    intro run _
    rw [List.append_nil]
    rfl
  | cons p rest ih =>
    intro run h
    rw [List.length_cons] at h
    rw [List.map_cons, List.forIn_cons, hf p run (by omega), pure_bind]
    have z := ih (run ++ [p]) (by rw [List.length_append, List.length_singleton]; omega)
    rw [List.append_assoc] at z
    exact z
/-- {**m, k: v, ..} -/
theorem star_display {v0 : Sem Value} {pairs : List (Sem Value × Sem Value)} {Q : Value → Shared → Prop} (h0 : pairs ≠ []) (hlen : pairs.length ≤ 15)
    (h : wpAny (model prog w) A v0 (fun m s1 => ∃ (a : Addr) (more : List (K × Value)), m = .ref a ∧ s1.heap.DictOf knd a more ∧ s1.heap.DictOf knd s.heap.objs.size [] ∧ (a == sysModules) = false ∧ s.heap.objs.size ≠ a ∧ more.length ≤ sizeLine ∧
      ∀ h1, h1.DictOf knd s.heap.objs.size more → Heap.SameBut s.heap.objs.size s1.heap h1 →
        wpAny (model prog w) A (evalPairs pairs) (fun vs s2 => ∃ kvs m2, Carries knd vs kvs ∧ s2.heap.DictOf knd h1.objs.size [] ∧ s2.heap.DictOf knd s.heap.objs.size m2 ∧ h1.objs.size ≠ s.heap.objs.size ∧ m2.length + kvs.length ≤ sizeLine ∧ (h1.objs.size == sysModules) = false ∧
          ∀ hm h2, hm.DictOf knd h1.objs.size (merged [] kvs) → Heap.SameBut h1.objs.size s2.heap hm → h2.DictOf knd s.heap.objs.size (merged m2 (merged [] kvs)) → Heap.SameBut s.heap.objs.size hm h2 → Q (.ref s.heap.objs.size) { s2 with heap := h2, toks := s2.toks + vs.length }) E
          { s1 with heap := h1.push { cls := .type "dict", data := .dict #[] } }) E { s with heap := s.heap.push { cls := .type "dict", data := .dict #[] } }) :
    wpAny (model prog w) A (dictDisplay ((none, v0) :: pairs.map fun p => (some p.1, p.2))) Q E s := by
  unfold dictDisplay
  dsimp only
  rw [List.forIn_cons]
  simp only [List.isEmpty_nil, if_true, pure_bind, bind_assoc]
  refine wpAny_bind (wpAny_alloc ?_)
  refine wpAny_bind (wpAny_holding (wpAny_mono h (fun m s1 hh => ?_) fun _ _ z => z))
  obtain ⟨a, more, rfl, ha, hp, na, ne, hz, k⟩ := hh
  have nd : (more.map (·.1)).Nodup := by
    obtain ⟨_, _, _, _, _, _, _, _, nd⟩ := ha
    exact nd
  refine wpAny_bind (wpAny_onRaise (wpAny_tryCatch (wpAny_onRaise (wpAny_holding (merge_into hp ha na ne (by rw [List.length_nil]; omega) fun h1 hd1 sm1 => ?_)))))
  rw [merged_nil_of_nodup more nd] at hd1
  have go := k h1 hd1 sm1
  rw [gather (some s.heap.objs.size) _ (fun p run hr => by
    have hne : ((run ++ [(p.1, p.2)]).length == 17) = false := by simp; omega
    simp only [hne, Bool.false_eq_true, if_false]) pairs [] (by rw [List.length_nil]; omega)]
  simp only [pure_bind, List.nil_append]
  have ie : ¬ pairs.isEmpty = true := by
    rw [List.isEmpty_iff]
    exact h0
  rw [if_neg ie]
  simp only [bind_assoc]
  refine wpAny_bind (wpAny_holding (wpAny_subDict (knd := knd) hlen (wpAny_mono go (fun vs s2 hh => ?_) fun _ _ z => z)))
  obtain ⟨kvs, m2, hc, hs, hm, nn, hz2, nsm, kk⟩ := hh
  refine ⟨kvs, hc, hs, fun h2 hs2 sm2 => ?_⟩
  have hm2 : h2.DictOf knd s.heap.objs.size m2 := hm.sameBut sm2 nn.symm
  refine wpAny_bind (wpAny_onRaise (wpAny_holding (merge_into (s := { s2 with heap := h2, toks := s2.toks + vs.length }) hm2 hs2 nsm nn.symm (by
    have := merged_length_le ([] : List (K × Value)) kvs
    rw [List.length_nil] at this
    omega) fun h3 hd3 sm3 => ?_)))
  simp only [pure_bind]
  exact wpAny_pure (kk h2 h3 hs2 sm2 hd3 sm3)
end
end DM
end PySem
namespace GL
open PySem PySem.Spec PyProof.Rows L2
/-- {**d, k: v, ..}: p the new dict, q the one of the further pairs -/
def tStarD (te : TE) (trs : List (TE × TE)) : TE := fun σ H Q => ∀ p, H p = none → te σ (upd H p (.dK [])) fun x H1 => H1 p = some (.dK []) ∧ ∃ (a : Addr) (more : List (Key × V)), x = .ref a ∧ Rd H1 a (.dK more) ∧ p ≠ a ∧ more.length ≤ 1000 ∧
  ∀ q, q ≠ p → H1 q = none → tPairs trs σ (upd (upd H1 p (.dK more)) q (.dK [])) fun ps H2 => H2 p = some (.dK more) ∧ H2 q = some (.dK []) ∧ ∃ kvs : List (Key × V), ps = kvs.map (fun kv => (kV kv.1, kv.2)) ∧ kvs.length ≤ 15 ∧
    Q (.ref p) (upd (upd H2 q (.dK (mergeK [] kvs))) p (.dK (mergeK more (mergeK [] kvs))))
theorem pe_starD {X : Cx} {pos : Pos} {d : Expr} {te : TE} {keys : List (Option Expr)} {values : List Expr} {trs : List (TE × TE)} (he : PE X d te) (h : PPs X pos keys values trs) (hall : keys.all (·.isSome) = true) (hl : keys.length = values.length) (h0 : keys ≠ [])
    (h15 : keys.length ≤ 15) : PE X (.Dict (none :: keys) (d :: values) pos) (tStarD te trs) := by
  constructor
  intro pins s σ H Q I q
  have hn := I.hok.fresh (Nat.le_refl s.heap.objs.size)
  have I1 := I.laid (a := s.heap.objs.size) (o := .dK []) (h' := s.heap.push { cls := .type "dict", data := .dict #[] }) (t' := s.toks) (fun _ _ q => Heap.get?_push_of_some _ q) (Nat.le_refl _) (dk_empty s.heap I.big)
  rw [arm_eval_Dict]
  show wpAny _ _ (standAt pos >>= fun _ => dictDisplay ((none, do let x ← eval d X.env; standAt pos; pure x) :: (evalEachOpt keys X.env).zip ((evalEach values X.env).map fun v => do let x ← v; standAt pos; pure x))) _ _ _
  rw [zip_pairTrees keys values X.env pos hall hl]
  have pl := pairTrees_length keys values X.env pos hall hl
  refine wpAny_bind (wpAny_standAt (DM.star_display (knd := mixKind X.prog X.w) (fun z => ?_) (by rw [pl]; exact h15) (wpAny_bind (thn (he.run pins _ σ _ _ I1 (q _ hn)) fun u s1 hh => wpAny_bind (wpAny_standAt (wpAny_pure ?_))))))
  · rw [z] at pl
    exact h0 (List.length_eq_zero_iff.mp pl.symm)
  obtain ⟨x, H1, I2, rx, hp, a, more, rfl, ra, ne, hz, k⟩ := hh
  cases (show u = Value.ref a from rx)
  obtain ⟨zp, sp0, vp, rp, dp⟩ := dk_of I2.hok hp
  cases rp
  obtain ⟨za, sa, va, rva, da⟩ := dk_rd I2.hok ra
  have lv : va.length = more.length := rva.length.symm
  refine ⟨a, va, rfl, da, dp, sa, ne, by rw [lv]; exact za, fun h1 hd1 sm1 => ?_⟩
  have ex1 : ∃ o, h1.get? s.heap.objs.size = some o := by
    obtain ⟨o, _, _, ho, _⟩ := hd1
    exact ⟨o, ho⟩
  have I3 := d_write (t' := s1.toks) I2 (by rw [hp]; exact True.intro) sm1 ex1 (dk_new za sp0 rva hd1)
  have nq := I3.hok.fresh (Nat.le_refl h1.objs.size)
  have nqp : h1.objs.size ≠ s.heap.objs.size := fun e => by
    rw [e, upd_same] at nq
    cases nq
  have nq1 : H1 h1.objs.size = none := by rw [upd_ne nqp] at nq; exact nq
  have I4 := I3.laid (a := h1.objs.size) (o := .dK []) (h' := h1.push { cls := .type "dict", data := .dict #[] }) (t' := s1.toks) (fun _ _ q => Heap.get?_push_of_some _ q) (Nat.le_refl _) (dk_empty h1 I3.big)
  refine thn (h.run pins _ σ _ _ I4 (k h1.objs.size nqp nq1)) fun ws s2 hh2 => ?_
  obtain ⟨ps, H2, I5, rel, e1, e2, kvs, eps, lk, q2⟩ := hh2
  subst eps
  obtain ⟨rs, c, rk⟩ := carries_of (P := X.prog) (w := X.w) rel
  obtain ⟨z1, sq, vs0, r0, dd⟩ := dk_of I5.hok e2
  cases r0
  obtain ⟨z2, _, m2, r2, dd2⟩ := dk_of I5.hok e1
  have l2 : m2.length = more.length := r2.length.symm
  have lr : rs.length = kvs.length := rk.length.symm
  refine ⟨rs, m2, c, dd, dd2, nqp, by rw [l2, lr, sizeLine_eq]; omega, sq, fun hm h2 a1 a2 a3 a4 => ?_⟩
  have lm := length_mergeK kvs []
  have lm2 := length_mergeK (mergeK [] kvs) more
  rw [List.length_nil] at lm
  have I6 := d_write (t' := s2.toks) I5 (by rw [e2]; exact True.intro) a2 (by
    obtain ⟨o, _, _, ho, _⟩ := a1
    exact ⟨o, ho⟩) (dk_new (by rw [sizeLine_eq]; omega) sq (rk.merge .nil) a1)
  have I7 := d_write (t' := s2.toks + ws.length) I6 (by rw [upd_ne nqp.symm, e1]; exact True.intro) a4 (by
    obtain ⟨o, _, _, ho, _⟩ := a3
    exact ⟨o, ho⟩) (dk_new (by rw [sizeLine_eq]; omega) sp0 (KV.merge (rk.merge .nil) r2) a3)
  exact ⟨.ref s.heap.objs.size, _, I7, rfl, q2⟩
end GL
/-! C(**d): what a call's mapping is read as -/
namespace PySem
namespace DM
open PySem
section
variable {prog : Program} {w : World} {K : Type} [DecidableEq K] {knd : KeyKind prog w K} {A : Around} {E : Value → Shared → Prop} {s : Shared}
theorem find_none {d : Addr} {kvs : List (K × Value)} {k : K} {key : Value} {Q : Option Nat → Shared → Prop} (hkey : knd.is k key = true) (hm : s.heap.DictOf knd d kvs) (off : k ∉ kvs.map (·.1)) (hQ : Q none s) : wpAny (model prog w) A (dictFind d key (knd.hash k)) Q E s := by
  obtain ⟨o, es, ep, ho, hc, hd, hk, hp, hn⟩ := hm
  refine wpAny_dictFind_of hkey ho hd hk ?_
  have same : (es.findIdx? fun e => knd.is k e.key) = kvs.findIdx? fun kv => decide (kv.1 = k) := by
    have := hp.findIdx k
    obtain ⟨l⟩ := es
    simpa using this
  rw [same, List.findIdx?_eq_none_iff.mpr fun kv hkv => decide_eq_false fun e => off (List.mem_map.mpr ⟨kv, hkv, e⟩)]
  exact hQ
def tailU (p a : Addr) : Sem Unit := do
  let es ← dictEntries a
  let epoch ← dictEpoch a
  forIn (List.range es.size) PUnit.unit fun i _ => do
    let es ← dictEntries a
    match es[i]? with
    | some e => do
      holding [e.key, e.val] (do
        let q ← dictFind p e.key e.hash
        if q.isSome = true then do
          rule "dict.merge.duplicate-key"
          let x ← newExc (Value.type "KeyError") [e.key]
          let _ ← (raiseNew x : Sem Unit)
          dictPut p e.hash e.key e.val
        else dictPut p e.hash e.key e.val)
      let n ← dictEpoch a
      if (n != epoch) = true then do
        let _ ← (unsupported "dict.changed-during-merge" : Sem Unit)
        pure (ForInStep.yield PUnit.unit)
      else pure (ForInStep.yield PUnit.unit)
    | _ => do
      let _ ← (unsupported "dict.changed-during-merge" : Sem Unit)
      pure (ForInStep.yield PUnit.unit)
  pure ()
theorem tailU_ok {p a : Addr} {more : List (K × Value)} {Q : Unit → Shared → Prop} (hm : s.heap.DictOf knd p []) (ha : s.heap.DictOf knd a more) (ne : p ≠ a) (hz : more.length ≤ sizeLine)
    (hQ : ∀ h', h'.DictOf knd p more → Heap.SameBut p s.heap h' → Q () { s with heap := h' }) : wpAny (model prog w) A (tailU p a) Q E s := by
  obtain ⟨oa, ea, epa, hoa, hca, hda, hka, hpa, hna⟩ := id ha
  have len : ea.size = more.length := by
    have := hpa.length
    simpa using this
  unfold tailU
  refine wpAny_bind (wpAny_dictEntries hoa hda (wpAny_bind (wpAny_dictEpoch hoa hda (wpAny_bind ?_))))
  refine wpAny_forIn_list _ (fun rest _ s' => ∃ i, rest = List.range' i (ea.size - i) ∧ i ≤ ea.size ∧ s'.gens = s.gens ∧ s'.drawn = s.drawn ∧ s'.toks = s.toks ∧ s'.os = s.os ∧ s'.heap.DictOf knd p (more.take i) ∧ Heap.SameBut p s.heap s'.heap) _ ?_ ?_ _ _ ?_
  · rintro x rest _ s' ⟨i, hr, hi, g1, g2, g3, g4, hd', same⟩
    have lt : i < ea.size := by
      by_cases q : i < ea.size
      · exact q
      · rw [Nat.sub_eq_zero_of_le (by omega)] at hr
        cases hr
    obtain ⟨n, hn⟩ : ∃ n, ea.size - i = n + 1 := ⟨ea.size - i - 1, by omega⟩
    rw [hn, List.range'_succ] at hr
    cases hr
    have hoa' : s'.heap.get? a = some oa := (same.2 a ne.symm).trans hoa
    refine wpAny_bind (wpAny_dictEntries hoa' hda ?_)
    rw [Array.getElem?_eq_getElem lt]
    obtain ⟨k, hkey, hhash⟩ := hka ea[x] (Array.getElem_mem lt)
    obtain ⟨kv, hkv, his, hval⟩ := pairs_at hpa x (by simpa using lt)
    have e1 : ea.toList[x] = ea[x] := by simp
    rw [e1] at his hval
    have ek : kv.1 = k := knd.inj _ _ _ his hkey
    have lt2 : (more.take x).length ≤ x := List.length_take_le ..
    have off : k ∉ (more.take x).map (·.1) := fun m => by
      obtain ⟨y, hy, ey⟩ := List.mem_map.mp m
      obtain ⟨j, hj, ej⟩ := List.getElem_of_mem hy
      rw [List.length_take] at hj
      rw [List.getElem_take] at ej
      have lx : x < more.length := by omega
      have ex : more[x] = kv := by
        rw [List.getElem?_eq_getElem lx] at hkv
        exact Option.some.inj hkv
      have := List.pairwise_iff_getElem.mp hna j x (by rw [List.length_map]; omega) (by rw [List.length_map]; exact lx) (by omega)
      rw [List.getElem_map, List.getElem_map, ej, ex] at this
      exact this (ey.trans ek.symm)
    show wpAny _ _ (holding [ea[x].key, ea[x].val] (dictFind p ea[x].key ea[x].hash >>= _) >>= _) _ _ _
    rw [hhash]
    refine wpAny_bind (wpAny_holding (wpAny_bind (find_none hkey hd' off ?_)))
    rw [if_neg (by simp)]
    refine put_one hkey hd' (fun h' hd2 same2 => ?_) (by omega)
    have sm : Heap.SameBut p s.heap h' := ⟨same2.1.trans same.1, fun b hb => (same2.2 b hb).trans (same.2 b hb)⟩
    have hoa2 : h'.get? a = some oa := (sm.2 a ne.symm).trans hoa
    refine wpAny_bind (wpAny_dictEpoch hoa2 hda ?_)
    rw [if_neg (by simp)]
    refine wpAny_pure ⟨x + 1, ?_, by omega, g1, g2, g3, g4, ?_, sm⟩
    · rw [show ea.size - (x + 1) = n by omega]
    · have nope : ¬ ((more.take x).any fun y => decide (y.1 = k)) = true := fun z => by
        obtain ⟨y, h1, h2⟩ := List.any_eq_true.mp z
        exact off (List.mem_map.mpr ⟨y, h1, of_decide_eq_true h2⟩)
      rw [stored, if_neg nope] at hd2
      rw [List.take_add_one, hkv]
      have ekv : (k, ea[x].val) = kv := by
        rw [hval, ← ek]
      rw [ekv] at hd2
      exact hd2
  · rintro _ s' ⟨i, hr, hi, g1, g2, g3, g4, hd', same⟩
    have e : i = ea.size := by
      by_cases q : i < ea.size
      · obtain ⟨n, hn⟩ : ∃ n, ea.size - i = n + 1 := ⟨ea.size - i - 1, by omega⟩
        rw [hn, List.range'_succ] at hr
        cases hr
      · omega
    rw [e, len, List.take_length] at hd'
    refine wpAny_pure ?_
    have z := hQ _ hd' same
    obtain ⟨h1, h2, h3, h4, h5⟩ := s'
    cases g1
    cases g2
    cases g3
    cases g4
    exact z
  · refine ⟨0, by rw [List.range_eq_range', Nat.sub_zero], Nat.zero_le _, rfl, rfl, rfl, rfl, ?_, ⟨rfl, fun _ _ => rfl⟩⟩
    simpa using hm
theorem merge_new {p a : Addr} {more : List (K × Value)} {Q : Unit → Shared → Prop} (hm : s.heap.DictOf knd p []) (ha : s.heap.DictOf knd a more) (na : (a == sysModules) = false) (ne : p ≠ a) (hz : more.length ≤ sizeLine)
    (hQ : ∀ h', h'.DictOf knd p more → Heap.SameBut p s.heap h' → Q () { s with heap := h' }) : wpAny (model prog w) A (mergeMapping p (.ref a) true) Q E s := by
  obtain ⟨oa, ea, epa, hoa, hca, hda, hka, hpa, hna⟩ := id ha
  obtain ⟨op, ep, epp, hop, hcp, hdp, hkp, hpp, hnp⟩ := id hm
  have ty : s.TypeIs (.ref a) "dict" := ⟨oa, hoa, hca.1⟩
  unfold mergeMapping
  refine wpAny_bind (wpAny_isInstance ty isSubtype_dict_dict ?_)
  rw [if_pos rfl]
  refine wpAny_bind (wpAny_specialOf ty PySem.F.slot_dict_iter.lookup (wpAny_bind (wpAny_pure ?_)))
  have t : (some (Value.builtin "dict.__iter__") == some (Value.builtin "dict.__iter__")) = true := by decide +kernel
  rw [t]
  have nn : ¬ (a == sysModules) = true := by
    rw [na]
    exact Bool.false_ne_true
  show wpAny _ _ (if (a == sysModules) = true then _ else _) _ _ _
  rw [if_neg nn]
  refine wpAny_bind (wpAny_dictEntries hop hdp ?_)
  have rest := tailU_ok (A := A) (E := E) (Q := Q) hm ha ne hz hQ
  by_cases hemp : ep.isEmpty = true
  · rw [if_pos hemp]
    have loop : (forIn ea PUnit.unit fun (e : DictEntry) (_ : PUnit) => (match e.key with
          | Value.ref a => do
            let q ← specialOf e.key (Str.ofString "__eq__")
            if (q != some (Value.builtin "object.__eq__")) = true then
                if (Array.filter (fun x => x.hash == e.hash) ea).size > 1 then do
                  let _ ← (unsupported "dict.merge-into-an-empty-dict:keys-of-equal-hash" : Sem PUnit)
                  pure (ForInStep.yield PUnit.unit)
                else pure (ForInStep.yield PUnit.unit)
              else pure (ForInStep.yield PUnit.unit)
          | _ => pure (ForInStep.yield PUnit.unit) : Sem (ForInStep PUnit))) = pure PUnit.unit := by
      rw [← Array.forIn_toList]
      refine forIn_yield_id _ fun e he c => ?_
      obtain ⟨k, hkey, _⟩ := hka e (Array.mem_toList_iff.mp he)
      have cv := knd.byValue k _ hkey
      cases q : e.key with
      | ref b =>
        rw [q] at cv
        exact absurd cv Bool.false_ne_true
      | _ => rfl
    exact wpAny_bind (wpAny_dictEntries hoa hda (wpAny_bind (wpAny_of_eq loop rest)))
  · rw [if_neg hemp]
    exact rest
end
end DM
end PySem
/-! C(**d) -/
namespace PySem
namespace DM
open PySem PySem.Spec PyProof.Rows L2
section
variable {prog : Program} {w : World} {A : Around} {E : Value → Shared → Prop} {s : Shared}
theorem loop_kw {F : DictEntry → List (Str × Value) → Sem (ForInStep (List (Str × Value)))} (hF : ∀ (e : DictEntry) (x : Str) (t : Tok) (kw : List (Str × Value)), e.key = .str x t → F e kw = pure (.yield (kw ++ [(x, e.val)]))) :
    ∀ (es : List DictEntry) (more done : List (Str × Value)), Pairs (mixKind prog w) es (more.map fun p => ((.inr p.1 : Key), p.2)) → forIn es done F = pure (done ++ more) := by
  intro es
  induction es with
  | nil =>
    intro more done h
    generalize hx : (more.map fun p => ((.inr p.1 : Key), p.2)) = xs at h
    cases h
    rw [List.map_eq_nil_iff.mp hx, List.append_nil, List.forIn_nil]
  | cons e es ih =>
    intro more done h
    cases more with
    | nil => cases h
    | cons p more =>
      rw [List.map_cons] at h
      cases h with
      | cons h1 h2 ht =>
        rcases keyIs_shape (show keyIs (.inr p.1) e.key = true from h1) with ⟨i, t, e1, e2⟩ | ⟨x, t, e1, e2⟩
        · cases e1
        · have ex : p.1 = x := Sum.inr.inj e1
          rw [List.forIn_cons, hF e x t done e2, pure_bind]
          have z := ih more (done ++ [p]) ht
          rw [List.append_assoc] at z
          have ep : (x, e.val) = p := by
            rw [h2, ← ex]
          rw [ep]
          exact z
theorem keywords_in {f : Value} {d : Addr} {more : List (Str × Value)} {Q : List (Str × Value) → Shared → Prop} (hm : s.heap.DictOf (mixKind prog w) d (more.map fun p => (.inr p.1, p.2))) (hQ : Q more s) : wpAny (model prog w) A (keywordsIn f d) Q E s := by
  obtain ⟨o, es, ep, ho, hc, hd, hk, hp, hn⟩ := hm
  unfold keywordsIn
  dsimp only
  refine wpAny_bind (wpAny_dictEntries ho hd (wpAny_bind ?_))
  rw [← Array.forIn_toList]
  refine wpAny_of_eq (loop_kw (prog := prog) (w := w) (fun e x t kw h => ?_) es.toList more [] hp) (wpAny_pure hQ)
  simp only [h]
/-- what (**x) is read as -/
theorem args_star {f : Value} {x : Sem Value} {Q : Args → Shared → Prop}
    (h : wpAny (model prog w) A x (fun m s1 => ∃ (a : Addr) (more : List (Str × Value)), m = .ref a ∧ s1.heap.DictOf (mixKind prog w) a (more.map fun p => (.inr p.1, p.2)) ∧ s1.heap.DictOf (mixKind prog w) s.heap.objs.size [] ∧ (a == sysModules) = false ∧ s.heap.objs.size ≠ a ∧ more.length ≤ sizeLine ∧
      ∀ h1, h1.DictOf (mixKind prog w) s.heap.objs.size (more.map fun p => (.inr p.1, p.2)) → Heap.SameBut s.heap.objs.size s1.heap h1 → Q ⟨[], more⟩ { s1 with heap := h1 }) E { s with heap := s.heap.push { cls := .type "dict", data := .dict #[] } }) :
    wpAny (model prog w) A (evalArgs f true [] [(none, x)]) Q E s := by
  unfold evalArgs
  refine wpAny_bind (show wpAny _ _ (pure []) _ _ _ from wpAny_pure (wpAny_bind (wpAny_pure ?_)))
  show wpAny _ _ (holding ([] ++ []) _) _ _ _
  refine wpAny_holding ?_
  rw [if_neg (by simp)]
  refine wpAny_bind ?_
  unfold mergedKeywords
  refine wpAny_bind (wpAny_alloc (wpAny_bind (wpAny_holding ?_)))
  show wpAny _ _ (forIn [(none, x)] [] _ >>= _) _ _ _
  refine wpAny_bind ?_
  rw [List.forIn_cons]
  refine wpAny_bind (wpAny_bind (show wpAny _ _ (pure PUnit.unit) _ _ _ from wpAny_pure (wpAny_bind (wpAny_mono h (fun m s1 hh => ?_) fun _ _ z => z))))
  obtain ⟨a, more, rfl, ha, hp, na, ne, hz, k⟩ := hh
  refine wpAny_bind (wpAny_onRaise ?_)
  refine wpAny_holding (wpAny_tryCatch (wpAny_onRaise (merge_new hp ha na ne (by rw [List.length_map]; exact hz) fun h1 hd1 sm1 => ?_)))
  refine wpAny_pure ?_
  show wpAny _ _ (forIn [] _ _) _ _ _
  rw [List.forIn_nil]
  refine wpAny_pure ?_
  show wpAny _ _ (pure PUnit.unit) _ _ _
  refine wpAny_pure (wpAny_pure ?_)
  refine wpAny_bind (show wpAny _ _ (pure []) _ _ _ from wpAny_pure ?_)
  exact wpAny_bind (wpAny_holding (keywords_in hd1 (wpAny_pure (k h1 hd1 sm1))))
end
end DM
end PySem
namespace PySem
namespace DM
open PySem PySem.W
theorem callWith_dict {M : Model} {A : Around} {E : Value → Shared → Prop} {s : Shared} {f : Value} {first : List Value} {pos : Pos} {Q : Value → Shared → Prop} {P : Heap → Prop} {kws : List (Option Str × Sem Value)} (hst : kws.any (·.1.isNone) = true)
    (hk : ∀ h, P h → ∃ k, (k = Keeper.frame ∨ k = Keeper.machine ∨ k = Keeper.boundFrame) ∧ Looks M h (keeperOf f) k)
    (h : wpAny M A (evalArgs f true [] kws) (fun a s1 => P s1.heap ∧ wpAny M A (call f (first ++ a.pos) a.kw) Q E s1) E s) : wpAny M A (callWith pos f first [] kws) Q E s := by
  unfold callWith
  refine wpAny_bind (wpAny_holding (wpAny_mono h ?_ fun _ _ z => z))
  rintro a s1 ⟨hP, run⟩
  refine wpAny_bind (wpAny_standAt ?_)
  obtain ⟨k, which, L⟩ := hk _ hP
  have st : (([] : List (Bool × Sem Value)).any (·.1) || kws.any (·.1.isNone)) = true := by
    rw [hst, Bool.or_true]
  simp only [st]
  refine wpAny_bind (L.here ?_)
  have last : ∀ {t : Sem Value}, wpAny M A t Q E s1 → wpAny M A (t >>= fun r => holding [r] point >>= fun _ => pure r) Q E s1 := fun ht =>
    wpAny_bind (wpAny_mono ht (fun r s2 hr => wpAny_bind (wpAny_holding (wpAny_point (wpAny_pure hr)))) fun _ _ z => z)
  have mark (mk : Value) : wpAny M A (callMarked mk f (first ++ a.pos) a.kw) Q E s1 := by
    unfold callMarked
    exact Calls.wpAny_keep run
  rcases which with rfl | rfl | rfl
  · dsimp only
    exact last (mark _)
  · dsimp only
    exact last (wpAny_operating run)
  · dsimp only
    exact last (wpAny_operating run)
end DM
end PySem
namespace GL
open PySem PySem.Spec PyProof.Rows L2
/-- a told dict whose keys are these texts -/
def kvN (names : List Str) (zs : List V) : List (Key × V) := (names.zip zs).map fun p => (.inr p.1, p.2)
theorem kvN_vals : ∀ {names : List Str} {zs : List V} {vs : List (Key × Value)}, zs.length = names.length → KV (kvN names zs) vs → ∃ ws : List Value, Vals zs ws ∧ vs = (names.zip ws).map fun p => (.inr p.1, p.2)
  | [], [], vs, _, h => by
    cases h
    exact ⟨[], .nil, rfl⟩
  | [], _ :: _, _, e, _ => by cases e
  | _ :: _, [], _, e, _ => by cases e
  | n :: ns, z :: zs, vs, e, h => by
    cases h with
    | @cons _ b _ bs hb ht =>
      obtain ⟨ws, r, q⟩ := kvN_vals (names := ns) (zs := zs) (by simpa using e) ht
      obtain ⟨b1, b2⟩ := b
      have e1 : (Sum.inr n : Key) = b1 := hb.1
      refine ⟨b2 :: ws, .cons hb.2 r, ?_⟩
      rw [q, ← e1]
      rfl
/-- C(**e): p the dict that the call makes of it -/
def tMakeD (C : Addr) (names : List Str) (sp : Sp) (gV : List V → List V → List V) (E : XK) (te : TE) : TE := fun σ H Q => ∀ p, H p = none → te σ (upd H p (.dK [])) fun x H1 => H1 p = some (.dK []) ∧ ∃ (a : Addr) (zs : List V), x = .ref a ∧ p ≠ a ∧ Rd H1 a (.dK (kvN names zs)) ∧ zs.length = names.length ∧ names.length ≤ 1000 ∧
  ∀ x dx, upd H1 p (.dK (kvN names zs)) x = none → upd H1 p (.dK (kvN names zs)) dx = none → dx ≠ x → sp (gV [.ref x] zs) (upd (upd (upd H1 p (.dK (kvN names zs))) dx (.own x)) x (.ins C dx [])) (fun v H3 => v = .non ∧ Q (.ref x) H3) E
theorem pkD {X : Cx} {CX : CXT} {k : Nat} {f C : Addr} {fd : FuncData} {ps names : List Str} {sp : Sp} {E : XK} {x : Str} {p pos kp : Pos} {e : Expr} {te : TE} {g : List Value → List Value → List Value} {gV : List V → List V → List V}
    (G : Fre X.A) (M : Mk X.K C f) (F : FnG X.prog X.w X.K X.mg X.base CX k f fd ps sp) (hr : Room (k + 1) X.A) (hg : Gl X x) (hm : X.mg x = some (.ref C)) (hb : KBn X.K fd ps 1 names g gV) (hx : Passes CX X E) (he : PE X e te) (ndb : (x == ("__debug__" : Str)) = false := by decide)
    (hkw : backToKw pos (keywordEach [⟨none, e, kp⟩] X.env) = [(none, do let v ← eval e X.env; standAt pos; pure v)] := by rfl) :
    PE X (.Call (.Name x p) [] [⟨none, e, kp⟩] pos) (tMakeD C names sp gV E te) := by
  constructor
  intro pins s σ H Q I h
  refine wpAny_Call_Name_kw (ld_glob I hg hm ?_ ndb)
  rw [hkw]
  show wpAny _ _ (callWith pos (.ref C) [] [] _) _ _ _
  have hn := I.hok.fresh (Nat.le_refl s.heap.objs.size)
  have I1 := I.laid (a := s.heap.objs.size) (o := .dK []) (h' := s.heap.push { cls := .type "dict", data := .dict #[] }) (t' := s.toks) (fun _ _ q => Heap.get?_push_of_some _ q) (Nat.le_refl _) (dk_empty s.heap I.big)
  refine DM.callWith_dict (P := X.K.In) rfl (PySem.W.keeps_K M.kp) (DM.args_star (wpAny_bind (thn (he.run pins _ σ _ _ I1 (h _ hn)) fun u s1 hh => wpAny_bind (wpAny_standAt (wpAny_pure ?_)))))
  obtain ⟨y, H1, I2, ry, hp, a, zs, rfl, ne, ra, lz, ln, k1⟩ := hh
  cases (show u = Value.ref a from ry)
  obtain ⟨zp, sp0, vp, rp, dp⟩ := dk_of I2.hok hp
  cases rp
  obtain ⟨za, sa, va, rva, da⟩ := dk_rd I2.hok ra
  obtain ⟨ws, rz, ev⟩ := kvN_vals lz rva
  rw [ev] at da
  have lw : (names.zip ws).length ≤ 1000 := by
    have := List.length_zip (l₁ := names) (l₂ := ws)
    omega
  refine ⟨a, names.zip ws, rfl, da, dp, sa, ne, by rw [sizeLine_eq]; omega, fun h1 hd1 sm1 => ?_⟩
  have ex1 : ∃ o, h1.get? s.heap.objs.size = some o := by
    obtain ⟨o, _, _, ho, _⟩ := hd1
    exact ⟨o, ho⟩
  have I3 := d_write (t' := s1.toks) I2 (by rw [hp]; exact True.intro) sm1 ex1 (dk_new za sp0 rva (by rw [ev]; exact hd1))
  exact ⟨I3.kIn, ranMK G M F hr hb hx I3 rz lz k1⟩
end GL
/-! == and != of two dicts with the same keys, whose values are data -/
namespace GL
open PySem PySem.Spec PyProof.Rows L2
def rEqDict (K : PySem.W.Frag) : R2 := fun x y H Q => ∃ (a b : Addr) (ks ls : List (Key × V)) (ds es : List PyData), x = .ref a ∧ y = .ref b ∧ Rd H a (.dK ks) ∧ Rd H b (.dK ls) ∧ ks.map (·.1) = ls.map (·.1) ∧ DpAll K H (ks.map (·.2)) ds ∧ DpAll K H (ls.map (·.2)) es ∧
  (∀ d ∈ ds, SeqAt.shaped d = true) ∧ (∀ e ∈ es, SeqAt.shaped e = true) ∧ Q (.bl (PyData.eqvAll ds es)) H
theorem value_at {K : Type} [DecidableEq K] : ∀ {vs : List (K × Value)}, (vs.map (·.1)).Nodup → ∀ p ∈ vs, valueAt vs p.1 = some p.2 := by
  intro vs nd p hp
  unfold valueAt
  have h : vs.find? (fun kv => decide (kv.1 = p.1)) = some p := by
    induction vs with
    | nil => cases hp
    | cons q vs ih =>
      rw [List.map_cons, List.nodup_cons] at nd
      rcases List.mem_cons.mp hp with rfl | hp
      · rw [List.find?_cons, decide_eq_true rfl]
      · have ne : ¬ q.1 = p.1 := fun e => nd.1 (by rw [e]; exact List.mem_map.mpr ⟨p, hp, rfl⟩)
        rw [List.find?_cons, decide_eq_false ne]
        exact ih nd.2 hp
  rw [h]
  rfl
section
variable {X : Cx} {pins : List (Addr × Obj)} {σ : L2.St} {H : Hp} {s : Shared}
theorem all_hits (I : Inv X pins σ H s) (hu : X.A.units + 66 < cLine) {full : List (Key × Value)} : ∀ (ks ls : List (Key × V)) (va vb : List (Key × Value)) (ds es : List PyData), KV ks va → KV ls vb → ks.map (·.1) = ls.map (·.1) → DpAll X.K H (ks.map (·.2)) ds → DpAll X.K H (ls.map (·.2)) es →
    (∀ d ∈ ds, SeqAt.shaped d = true) → (∀ e ∈ es, SeqAt.shaped e = true) → (∀ p ∈ vb, valueAt full p.1 = some p.2) → PySem.W.KeqHitsP X.prog X.w X.A.in1 s full va (PyData.eqvAll ds es)
  | [], [], _, _, _, _, ra, rb, _, da, db, _, _, _ => by
    cases ra
    cases da
    cases db
    exact .nil
  | [], _ :: _, _, _, _, _, _, _, e, _, _, _, _, _ => by cases e
  | _ :: _, [], _, _, _, _, _, _, e, _, _, _, _, _ => by cases e
  | k :: ks, l :: ls, va, vb, ds, es, ra, rb, e, da, db, sd, se, at_ => by
    cases ra with
    | @cons _ p _ va ha ra =>
      cases rb with
      | @cons _ q _ vb hb rb =>
        rw [List.map_cons] at da db
        cases da with
        | @cons _ _ d ds d1 da =>
          cases db with
          | @cons _ _ g es d2 db =>
            obtain ⟨a1, a2⟩ := ha
            obtain ⟨b1, b2⟩ := hb
            have kl : k.1 = l.1 := (List.cons.inj e).1
            have rest := all_hits I hu ks ls va vb ds es ra rb (List.cons.inj e).2 da db (fun d hd => sd d (List.mem_cons_of_mem _ hd)) (fun d hd => se d (List.mem_cons_of_mem _ hd)) (fun p hp => at_ p (List.mem_cons_of_mem _ hp))
            obtain ⟨as, r1⟩ := Dp.reads I d k.2 p.2 d1 a2
            obtain ⟨bs, r2⟩ := Dp.reads I g l.2 q.2 d2 b2
            have s1 := sd d List.mem_cons_self
            have s2 := se g List.mem_cons_self
            have look : valueAt full p.1 = some q.2 := by
              rw [show p.1 = q.1 from a1.symm.trans (kl.trans b1)]
              exact at_ q List.mem_cons_self
            have one : SeqAt.EqP X.prog X.w X.A.in1 s p.2 q.2 (PyData.eqv d g) := fun E Q hq => PySem.SeqAt.eqAt_reads d g X.A.in1 s p.2 q.2 as bs r1 r2 (SeqAt.canLay_of_shaped s1) (SeqAt.canLay_of_shaped s2) (SeqAt.room_of_shaped (A := X.A.in1) s1 (by show X.A.units + 1 + 64 < cLine; omega)) X.prog X.w E Q hq
            have z := PySem.W.KeqHitsP.hit (k := p.1) (v := p.2) look one rest
            simp only [PyData.eqvAll]
            exact z
theorem op_eqDict (hu : X.A.units + 66 < cLine) : OpR X (compareOp .Eq) (rEqDict X.K) := by
  intro pins s σ H x y v u Q I rx ry h
  obtain ⟨a, b, ks, ls, ds, es, rfl, rfl, ea, eb, ke, da, db, sd, se, q⟩ := h
  cases (show v = Value.ref a from rx)
  cases (show u = Value.ref b from ry)
  obtain ⟨_, ya, va, ra, oa⟩ := dk_rd I.hok ea
  obtain ⟨_, yb, vb, rb, ob⟩ := dk_rd I.hok eb
  have nd : (vb.map (·.1)).Nodup := by
    obtain ⟨_, _, _, _, _, _, _, _, nd⟩ := ob
    exact nd
  have len : va.length = vb.length := by
    rw [← ra.length, ← rb.length, ← List.length_map (f := fun p : Key × V => p.1) (as := ks), ke, List.length_map]
  refine PySem.W.rcP_dicts (knd := mixKind X.prog X.w) ya yb oa ob (by omega) (fun _ => all_hits I hu ks ls va vb ds es ra rb ke da db sd se (value_at nd)) _ _ ?_
  rw [len, beq_self_eq_true, Bool.true_and]
  exact ⟨.bl _, H, I, rfl, q⟩
end
end GL
/-! {x!r}, x a text, a number, a truth value, a list or a tuple of data -/
namespace GL
open PySem PySem.Spec PyProof.Rows L2
section
variable {X : Cx} {e : Expr} {te t1 t2 : TE} {pos : Pos}
theorem pe_any (h1 : PE X e t1) (h2 : PE X e t2) : PE X e (fun σ H Q => t1 σ H Q ∨ t2 σ H Q) := ⟨fun pins s σ H Q I h => h.elim (h1.run pins s σ H Q I) (h2.run pins s σ H Q I)⟩
def tFmtV (K : PySem.W.Frag) (te : TE) : TE := fun σ H Q => te σ H fun x H1 =>
  (∃ y : Str, x = .str y ∧ (reprText y).length ≤ sizeLine ∧ Q (.str (reprText y)) H1) ∨ (∃ i : Int, x = .int i ∧ i.natAbs.log2 < 1920 ∧ Q (.str (toString i)) H1) ∨ (∃ b : Bool, x = .bl b ∧ Q (.str (if b then "True" else "False")) H1) ∨
  (∃ d, Dp K H1 x d ∧ isDisplay d = true ∧ d.showable = true ∧ d.hasDict = false ∧ d.depth ≤ 60 ∧ d.shown.length ≤ sizeLine ∧ Q (.str d.shown) H1)
theorem pe_fmtV (G : Fre X.A) (hu : X.A.units + 64 < cLine) (he : PE X e te) : PE X (.FormattedValue e 114 none pos) (tFmtV X.K te) := by
  constructor
  intro pins s σ H Q I h
  refine wpAny_FormattedValue_repr (thn (he.run pins s σ H _ I h) ?_)
  rintro u s1 ⟨x, H1, I1, r1, ⟨y, rfl, hz, q⟩ | ⟨i, rfl, hz, q⟩ | ⟨b, rfl, q⟩ | ⟨d, hd, h1, h2, h3, h4, h5, q⟩⟩
  · obtain ⟨t, rfl⟩ := r1
    have done : ∀ (tk : Tok) (n : Nat), EP X pins σ Q (.str (reprText y) tk) { s1 with toks := n } := fun tk n => ⟨.str (reprText y), H1, I1.tok _, ⟨_, rfl⟩, q⟩
    exact pyReprObj_str (wpAny_formatField_str (done _ _) (done _ _) hz) hz
  · obtain ⟨t, rfl⟩ := r1
    have done : ∀ (tk : Tok) (n : Nat), EP X pins σ Q (.str (toString i) tk) { s1 with toks := n } := fun tk n => ⟨.str (toString i), H1, I1.tok _, ⟨_, rfl⟩, q⟩
    exact pyReprObj_int hz (wpAny_formatField_str (done _ _) (done _ _) (int_text_fits hz))
  · cases (show u = Value.bool b from r1)
    have done : ∀ (tk : Tok) (n : Nat), EP X pins σ Q (.str (if b then "True" else "False") tk) { s1 with toks := n } := fun tk n => ⟨.str (if b then "True" else "False"), H1, I1.tok _, ⟨_, rfl⟩, q⟩
    exact pyReprObj_bool (wpAny_formatField_str (done _ _) (done _ _) (by rw [sizeLine_eq]; cases b <;> decide))
  · obtain ⟨as, rd⟩ := Dp.reads I1 d x _ hd r1
    obtain ⟨a, rfl⟩ := isRef_of_reads rd h1
    exact pyReprObj_of_reads rd h2 (PyData.noDict_hsm h3) G (by omega) (fun _ _ e => e) (fun h' u tk hk => wpAny_formatField_str ⟨.str d.shown, H1, I1.kept hk, ⟨_, rfl⟩, q⟩ ⟨.str d.shown, H1, I1.kept hk, ⟨_, rfl⟩, q⟩ h5) h5
end
end GL
/-! ### len(set(t)), t a tuple of texts, each once -/
namespace GB
open PySem PySem.Spec PyProof.Rows L2
theorem take_no {xs : List Str} (nd : xs.Nodup) {i : Nat} (hi : i < xs.length) : (xs.take i).any (· == xs.getD i Str.empty) = false := by
  rw [List.any_eq_false]
  intro y hy q
  obtain ⟨j, hj, ej⟩ := List.getElem_of_mem hy
  rw [List.length_take] at hj
  rw [List.getElem_take] at ej
  have e2 : xs.getD i Str.empty = xs[i] := by rw [List.getD_eq_getElem?_getD, List.getElem?_eq_getElem hi, Option.getD_some]
  have e3 : xs[j]'(by omega) = xs[i] := by rw [ej, eq_of_beq q, e2]
  exact (List.pairwise_iff_getElem.mp nd j i (by omega) hi (by omega)) e3
theorem take_next {xs : List Str} {i : Nat} (hi : i < xs.length) (k : Str) : ((xs.take i).any (· == k) || decide (k = xs.getD i Str.empty)) = (xs.take (i + 1)).any (· == k) := by
  have e2 : xs.getD i Str.empty = xs[i] := by rw [List.getD_eq_getElem?_getD, List.getElem?_eq_getElem hi, Option.getD_some]
  rw [List.take_add_one, List.getElem?_eq_getElem hi, List.any_append, e2]
  show _ = ((xs.take i).any (· == k) || [xs[i]].any (· == k))
  congr 1
  by_cases e : k = xs[i]
  · rw [decide_eq_true e, e]
    simp
  · rw [decide_eq_false e]
    have : (xs[i] == k) = false := beq_eq_false_iff_ne.mpr fun z => e z.symm
    simp [this]
section
variable {prog : Program} {w : World} {A : Around} {R : Result → Shared → Prop} {it : Addr} {fps wrs : List Addr} {GG : Array GenState → Array GenState → Prop} {m : Nat} {PP : Nat → Value → Prop} {Sta : Nat → Shared → Prop}
/-- the set as it stands behind i of the texts -/
abbrev Upto (prog : Program) (w : World) (h : Heap) (T : Addr) (xs : List Str) (i : Nat) : Prop := h.SetOf (PySem.strKind prog w) T (fun k => (xs.take i).any (· == k)) i
theorem upto_keep {h h' : Heap} {T : Addr} {xs : List Str} {i : Nat} (u : Upto prog w h T xs i) (k : ∀ o, h.get? T = some o → h'.get? T = some o) : Upto prog w h' T xs i :=
  let ⟨o, es, ep, t, ho, r⟩ := u
  ⟨o, es, ep, t, k o ho, r⟩
theorem each (W : WalksS prog w A.in1 it fps wrs GG m PP Sta) (T : Addr) (hT : T ∉ fps) (xs : List Str) (hm : xs.length = m) (nd : xs.Nodup) (hb : m + 1 < scanBound)
    (val : ∀ i v, PP i v → ∃ t, v = .str (xs.getD i Str.empty) t) (j : Nat) : ∀ (i : Nat) (s : Shared), m - i = j → i ≤ m → Sta i s → Upto prog w s.heap T xs i →
      (∀ s', Moved (T :: wrs) GG s s' → Upto prog w s'.heap T xs m → R (.ok (.ret .none)) s') → codeAny (model prog w) A (.builtin "set.update.loop" ⟨[.ref T, .ref it], []⟩) R s := by
  have nT : T ∉ wrs := fun q => hT (W.sub _ q)
  have more : ∀ b ∈ wrs, b ∈ T :: wrs := fun b q => List.mem_cons_of_mem _ q
  induction j with
  | zero =>
    intro i s hj hi hs hu hR
    obtain rfl : i = m := by omega
    refine codeAny_builtin PyProof.Rows.F.entry_set_update_loop (by
      rw [Around.under_plainId PyProof.Rows.F.plain_set_update_loop _]
      exact (show wpAny _ A.in1 (pyNext (.ref it) >>= _) _ _ s from wpAny_bind (W.done s _ _ hs fun s' mv => (show wpAny _ A.in1 (ret Value.none) _ _ s' from wpAny_pure (hR s' (mv.mono more) (upto_keep hu (mv.heap T · nT)))))))
  | succ j ih =>
    intro i s hj hi hs hu hR
    have lt : i < m := by omega
    have lx : i < xs.length := by omega
    refine codeAny_builtin PyProof.Rows.F.entry_set_update_loop ?_
    rw [Around.under_plainId PyProof.Rows.F.plain_set_update_loop _]
    refine (show wpAny _ A.in1 (pyNext (.ref it) >>= _) _ _ s from wpAny_bind (W.item i s _ _ lt hs fun v s1 hv hs1 mv => ?_))
    obtain ⟨t, rfl⟩ := val i v hv
    refine (show wpAny _ A.in1 (holding [Value.str (xs.getD i Str.empty) t] (setAdd T (.str (xs.getD i Str.empty) t)) >>= _) _ _ s1 from wpAny_bind (wpAny_holding ?_))
    unfold setAdd
    refine wpAny_holding (wpAny_bind ((PySem.strKind prog w).pyHash (strKind_is _ _ (xs.getD i Str.empty) _) ?_))
    refine wpAny_setAddHashed_of (knd := PySem.strKind prog w) (s := { s1 with toks := s1.toks + 1 }) (strKind_is _ _ _ _) rfl (upto_keep hu (mv.heap T · nT)) (by omega) fun h2 same u2 => ?_
    have u3 : Upto prog w h2 T xs (i + 1) := SetOf_congr u2 (take_next lx) (by
      rw [take_no nd lx]
      rfl)
    refine wpAny_pure ⟨plainId_quiet PyProof.Rows.F.plain_set_update_loop _, ih (i + 1) _ (by omega) lt (W.frame _ s1 _ _ hs1 (Nat.le_succ _) fun b q o e => (same.2 b (fun z => hT (z ▸ q))).trans e) u3 fun s3 mv3 u4 => hR s3 (Moved.trans W.gtrans ((mv.mono more).then_heap (Nat.le_succ _) fun b o q e => (same.2 b (fun z => q (z ▸ List.mem_cons_self))).trans e) mv3) u4⟩
end
section
variable {prog : Program} {w : World} {A : Around} {E : Value → Shared → Prop} {s : Shared}
abbrev emptyS (led : Bool) : Obj := { cls := .type "set", dict := none, data := .set #[] 0 (.fresh 0 0 led) }
theorem set_texts {l : Addr} {its : Array Value} {xs : List Str} {Q : Value → Shared → Prop} (calm : A.handled = none) (hl : s.heap.IsTuple l its) (hx : StrsAre its.toList xs) (nd : xs.Nodup) (few : xs.length + 1 < scanBound)
    (h : ∀ (h' : Heap) (tk : Nat), Upto prog w h' s.heap.objs.size xs its.size → (∀ b o, b < s.heap.objs.size → s.heap.get? b = some o → h'.get? b = some o) → Q (.ref s.heap.objs.size) { s with heap := h', toks := tk }) :
    wpAny (model prog w) A (call (.type "set") [.ref l]) Q E s := by
  obtain ⟨cc, tl, hmro⟩ := PySem.F.called_set.mro
  have a1 := PySem.F.called_set.made; have a2 := PySem.F.called_set.sub; have a3 := PySem.F.called_set.notType; have a4 := PySem.F.called_set.canCreate; have a5 := PySem.F.typeCall_set_1 (.ref l)
  refine wpAny_call (codeAny_of_tree (show wpAny _ _ (callAny (.type "set") _) _ _ _ from wpAny_pure ⟨Code.quiet_builtin _ (by decide +kernel), codeAny_builtin PySem.F.entry_type_call ?_⟩))
  rw [Around.under_plain (weight_type_call_type "set" [.ref l] []) rfl]
  repeat (any_goals (first | assumption | wp_step))
  refine codeAny_mono (code_set_new_1 (.ref l) (E := E) (Q₁ := fun ob t1 => ∃ led : Bool, ob = .ref s.heap.objs.size ∧ t1 = { s with heap := s.heap.push (emptyS led) }) fun led => ⟨led, rfl, rfl⟩) fun r t1 hr => ?_
  match r, hr with
  | .error e, hr => exact hr
  | .ok .next, hr => exact hr.elim
  | .ok .brk, hr => exact hr.elim
  | .ok .cont, hr => exact hr.elim
  | .ok (.ret ob), hr =>
    obtain ⟨led, rfl, rfl⟩ := hr
    have g0 : (s.heap.push (emptyS led)).get? s.heap.objs.size = some (emptyS led) := Heap.get?_push_size _ rfl
    have ty : Shared.TypeIs { s with heap := s.heap.push (emptyS led) } (.ref s.heap.objs.size) "set" := ⟨_, g0, rfl⟩
    have b1 := PySem.F.called_set.init.lookup; have b2 := PySem.F.called_set.init.bind (.ref s.heap.objs.size)
    repeat (any_goals (first | assumption | wp_step))
    refine codeAny_mono (codeAny_call_builtin (R := wants (fun r t2 => r = .none ∧ ∃ h' tk, t2 = { s with heap := h', toks := tk } ∧ Upto prog w h' s.heap.objs.size xs its.size ∧ (∀ b o, b < s.heap.objs.size → s.heap.get? b = some o → h'.get? b = some o)) E) PySem.F.called_set.init.plain PySem.F.entry_set_init (check_set_init_1 ty ?_)) fun r2 t2 hr2 => ?_
    · obtain ⟨⟨oc, od, odat, osl⟩, ho, hc, nn, hd⟩ := hl
      dsimp only at hc hd
      subst hc hd
      have ho2 : (s.heap.push (emptyS led)).get? l = some { cls := .type "tuple", dict := od, data := .seq its nn, slots := osl } := Heap.get?_push_of_some _ ho
      have c1 := PySem.F.sub_tuple_set; have c2 := PySem.F.sub_tuple_frozenset; have c3 : (Value.type "tuple" == Value.type "dict") = false := by decide
      have tu : (s.heap.push (emptyS led)).IsTuple l its := ⟨_, ho2, rfl, nn, rfl⟩
      unfold Builtin.«set.__init__» noKeywords Builtin.Frozenset.updateFrom
      generalize hI : pyIter = PI
      wp_walk
      subst hI
      refine wpAny_pyIter_tuple tu (wpAny_bind (wpAny_runValue ?_))
      have ls : l < s.heap.objs.size := Heap.lt_size ho
      have sz : (s.heap.push (emptyS led)).objs.size = s.heap.objs.size + 1 := Heap.size_push _ _
      have len : xs.length = its.size := (StrsAre.len_eq hx).symm.trans Array.length_toList
      have calm3 : A.in1.in1.in1.handled = none := by simp [calm]
      refine each ((Walks.tuple calm3 _ l (by rw [sz]; exact Nat.ne_of_lt (Nat.lt_succ_of_lt ls)) its).toS) s.heap.objs.size (by
        rw [sz]
        simp only [List.mem_cons, List.not_mem_nil, or_false, not_or]
        exact ⟨Nat.ne_of_lt (Nat.lt_succ_self _), Nat.ne_of_gt ls⟩) xs len nd (by rw [← len]; exact few) (fun i v hv => SS.strs_at hx i v (by rw [Array.getElem?_toList]; exact hv)) (its.size - 0) 0 _ (by omega) (Nat.zero_le _) ⟨⟨_, Heap.get?_push_size _ rfl, rfl, rfl⟩, tu.push _⟩ ?_ ?_
      · exact SetOf_congr ((setObjOf_fresh (knd := PySem.strKind prog w) led).setOf (Heap.get?_push_of_some _ g0) (by unfold scanBound; omega)) (fun _ => rfl) rfl
      · rintro ⟨h2, g2, d2, tk2, os2⟩ mv u
        have e1 : g2 = s.gens := mv.gens
        have e2 : d2 = s.drawn := mv.drawn
        have e3 : os2 = s.os := mv.os
        subst e1 e2 e3
        refine (show wpAny _ _ _ _ _ _ from wpAny_pure (show wpAny _ _ (ret Value.none) _ _ _ from wpAny_pure ⟨rfl, h2, tk2, rfl, u, fun b o lt e => mv.heap b o ?_ (Heap.get?_push_of_some _ (Heap.get?_push_of_some _ e))⟩))
        rw [sz]
        simp only [List.mem_cons, List.not_mem_nil, or_false, not_or]
        exact ⟨Nat.ne_of_lt lt, Nat.ne_of_lt (Nat.lt_succ_of_lt lt)⟩
    · match r2, hr2 with
      | .error e, hr2 => exact hr2
      | .ok .next, hr2 => exact hr2.elim
      | .ok .brk, hr2 => exact hr2.elim
      | .ok .cont, hr2 => exact hr2.elim
      | .ok (.ret r), hr2 =>
        obtain ⟨rfl, h2, tk2, rfl, u, kp⟩ := hr2
        repeat (any_goals (first | assumption | wp_step))
        exact h _ _ u kp
end
end GB
namespace GL
open PySem PySem.Spec PyProof.Rows L2
def tLenSetT (K : PySem.W.Frag) (ta : TE) : TE := fun σ H Q => ta σ H fun x H1 => ∃ (l : Addr) (xs : List Str), x = .ref l ∧ SqT K H1 l (xs.map V.str) ∧ xs.Nodup ∧ xs.length ≤ 1000 ∧ Q (.int (xs.length : Nat)) H1
theorem pe_lenSetT {X : Cx} {a : Expr} {ta : TE} {p p2 q pos : Pos} (hg : Gl X "len") (hm : X.mg "len" = none) (hg2 : Gl X "set") (hm2 : X.mg "set" = none) (ha : PE X a ta) (hc : X.calm = true := by rfl)
    (na : starEach [a] X.env = (false, eval a X.env) :: starEach [] X.env := by rfl) : PE X (.Call (.Name "len" p) [.Call (.Name "set" p2) [a] [] q] [] pos) (tLenSetT X.K ta) := by
  constructor
  intro pins s σ H Q I h
  refine Call_ (ld_blt I hg hm boot_len (callWith_builtin1 (args_cons (Call_ (ld_blt I hg2 hm2 boot_set (callWith_type1 (args_cons (thn (ha.run pins s σ H _ I h) fun v s1 hh => args_nil ?_) na) na rfl))) rfl) rfl rfl))
  obtain ⟨x, H1, I1, r1, l, xs, rfl, hq, nd, few, q1⟩ := hh
  cases r1
  obtain ⟨its, r, pl, hz⟩ := I1.tuple hq
  have len : its.toArray.size = xs.length := by rw [List.size_toArray, ← r.length, List.length_map]
  refine GB.set_texts (I1.ok.hd hc) pl (by simpa using strsAre_of r) nd (by unfold scanBound; omega) fun h' tk u kp => args_nil ?_
  rw [len] at u
  obtain ⟨o, es, ep, t, ho, hex, hd, _, _, _, hf, hn⟩ := u
  have I2 : Inv X pins σ H1 { s1 with heap := h', toks := tk } := I1.kept fun b o e => kp b o (Heap.lt_size e) e
  exact call_len_set ho hex hd hf (by rw [hn] <;> omega) ⟨.int xs.length, H1, I2.tok _, ⟨_, by rw [hn]⟩, q1⟩
/-! ### t in ts, data of any depth, ts a tuple -/
def rInDT (K : PySem.W.Frag) : R2 := fun x y H Q => ∃ d ds, Dp K H x d ∧ Dp K H y (.tuple ds) ∧ SeqAt.shaped d = true ∧ SeqAt.shaped (.tuple ds) = true ∧ Q (.bl (ds.any fun z => PyData.eqv z d)) H
theorem op_inDT {X : Cx} (hu : X.A.units + 65 < cLine) : OpR X (compareOp .In) (rInDT X.K) := by
  intro pins s σ H x y v u Q I rx ry h
  obtain ⟨d, ds, hd, he, sd, se, q⟩ := h
  obtain ⟨as, r1⟩ := Dp.reads I d x v hd rx
  obtain ⟨bs, r2⟩ := Dp.reads I (.tuple ds) y u he ry
  exact SeqAt.in_tuple_reads r2 r1 (SeqAt.canLay_of_shaped se) (SeqAt.canLay_of_shaped sd) (room_in_shaped sd hu) ⟨.bl _, H, I, rfl, q⟩
end GL
/-! x == o: x of a kind of Python's, o of an own class: o is asked -/
namespace PySem
namespace GR
open PySem PySem.Calls PyProof.Rows
open MeetsSeq MeetsSeq2 MeetsSeq3 SeqRoads2
section
variable {prog : Program} {w : World} {l b : Addr}
/-- b is of no kind T -/
def NotA (prog : Program) (w : World) (b : Addr) (T : String) (s : Shared) : Prop := PySem.W.Looks (model prog w) s.heap (isInstance (.ref b) (.type T)) false
theorem no_list : MeetsIn prog w (Builtin.«list.__eq__» ⟨[.ref l, .ref b], []⟩) fun A R s => NotA prog w b "list" s ∧ R (.ok (.ret .notImplemented)) s := by
  intro A R s h
  obtain ⟨lk, q⟩ := h
  have go : ∀ (Q : Bool → Shared → Prop) (E : Value → Shared → Prop), Q false s → wpAny (model prog w) A.in1 (isInstance (.ref b) (.type "list")) Q E s := fun Q E z => lk.here z
  obtain ⟨hp, g, d, tk, os⟩ := s
  wp_walk using go
  exact q
theorem no_tuple : MeetsIn prog w (Builtin.«tuple.__eq__» ⟨[.ref l, .ref b], []⟩) fun A R s => NotA prog w b "tuple" s ∧ R (.ok (.ret .notImplemented)) s := by
  intro A R s h
  obtain ⟨lk, q⟩ := h
  have go : ∀ (Q : Bool → Shared → Prop) (E : Value → Shared → Prop), Q false s → wpAny (model prog w) A.in1 (isInstance (.ref b) (.type "tuple")) Q E s := fun Q E z => lk.here z
  obtain ⟨hp, g, d, tk, os⟩ := s
  wp_walk using go
  exact q
theorem no_dict : MeetsIn prog w (Builtin.«dict.__eq__» ⟨[.ref l, .ref b], []⟩) fun A R s => NotA prog w b "dict" s ∧ R (.ok (.ret .notImplemented)) s := by
  intro A R s h
  obtain ⟨lk, q⟩ := h
  have go : ∀ (Q : Bool → Shared → Prop) (E : Value → Shared → Prop), Q false s → wpAny (model prog w) A.in1 (isInstance (.ref b) (.type "dict")) Q E s := fun Q E z => lk.here z
  obtain ⟨hp, g, d, tk, os⟩ := s
  wp_walk using go
  exact q
theorem no_none : MeetsIn prog w (Builtin.«NoneType.__eq__» ⟨[.none, .ref b], []⟩) fun A R s => R (.ok (.ret .notImplemented)) s := by
  intro A R s h
  obtain ⟨hp, g, d, tk, os⟩ := s
  wp_walk
  exact h
theorem no_str {y : Str} {t : Tok} {o : Obj} (hd : ∀ v, o.data ≠ .prim v) : MeetsIn prog w (Builtin.«str.__eq__» ⟨[.str y t, .ref b], []⟩) fun A R s => s.heap.get? b = some o ∧ R (.ok (.ret .notImplemented)) s := by
  intro A R s h
  obtain ⟨ho, q⟩ := h
  obtain ⟨hp, g, d, tk, os⟩ := s
  obtain ⟨oc, od, dat, sl⟩ := o
  cases dat <;> first | (exact absurd rfl (hd _)) | (wp_walk using wpAny_loadPart' ho; exact q)
theorem no_bool {y : Bool} {o : Obj} (hd : ∀ v, o.data ≠ .prim v) : MeetsIn prog w (Builtin.«int.__eq__» ⟨[.bool y, .ref b], []⟩) fun A R s => s.heap.get? b = some o ∧ R (.ok (.ret .notImplemented)) s := by
  intro A R s h
  obtain ⟨ho, q⟩ := h
  obtain ⟨hp, g, d, tk, os⟩ := s
  obtain ⟨oc, od, dat, sl⟩ := o
  cases dat <;> first | (exact absurd rfl (hd _)) | (wp_walk using wpAny_loadPart' ho; exact q)
end
end GR
end PySem
namespace GL
open PySem PySem.Spec PyProof.Rows L2
/-- no kind of Python's that is asked for -/
structure Own (K : PySem.W.Frag) (C : Addr) : Prop where
  ls : PySem.W.subIn K (.ref C) (.type "list") = some false
  tp : PySem.W.subIn K (.ref C) (.type "tuple") = some false
  dc : PySem.W.subIn K (.ref C) (.type "dict") = some false
  st : PySem.W.subIn K (.ref C) (.type "str") = some false
  bo : PySem.W.subIn K (.ref C) (.type "bool") = some false
  no : PySem.W.subIn K (.ref C) (.type "NoneType") = some false
inductive Lft (K : PySem.W.Frag) (H : Hp) : V → Prop where
  | non : Lft K H .non
  | bl (b : Bool) : Lft K H (.bl b)
  | str (x : Str) : Lft K H (.str x)
  | lst {a : Addr} {xs : List V} (h : SqL K H a xs) : Lft K H (.ref a)
  | tup {a : Addr} {xs : List V} (h : SqT K H a xs) : Lft K H (.ref a)
  | dK {a : Addr} {kvs : List (Key × V)} (h : H a = some (.dK kvs)) : Lft K H (.ref a)
section
variable {X : Cx} {CX : CXT} {k : Nat} {f C : Addr} {fd : FuncData} {sp : Sp} {E : XK} {pins : List (Addr × Obj)} {σ : L2.St} {H : Hp} {s : Shared}
/-- what the first one says -/
theorem Lft.says {x : V} {u : Value} {b dx : Addr} {od : Option Obj} (h : Lft X.K H x) (I : Inv X pins σ H s) (r : RelV x u) (o : Own X.K C) (J : PySem.W.InstAt s.heap b (PySem.W.instObj C dx) C od) :
    ∃ T id, s.TypeIs u T ∧ (Value.type T != Value.ref C) = true ∧ PySem.W.subIn X.K (.ref C) (.type T) = some false ∧ Slot T (cmpInfo .Eq).2.1 id ∧ ∀ (A : Around) (Er : Value → Shared → Prop) (Q : Value → Shared → Prop), Q .notImplemented s → wpAny (model X.prog X.w) A (call (.builtin id) [u, .ref b]) Q Er s := by
  have isnt : ∀ {T : String}, PySem.W.subIn X.K (.ref C) (.type T) = some false → GR.NotA X.prog X.w b T s := fun e => J.type.andThen (PySem.W.looks_subIn I.kIn e)
  cases h with
  | non =>
    cases (show u = Value.none from r)
    exact ⟨"NoneType", _, rfl, rfl, o.no, PySem.F.slot_NoneType_eq, fun A Er Q q => call_meetsIn PySem.F.slot_NoneType_eq rfl PySem.F.entry_NoneType_eq (PySem.F.args_NoneType_eq_2 _ _) GR.no_none q⟩
  | bl y =>
    cases (show u = Value.bool y from r)
    exact ⟨"bool", _, rfl, rfl, o.bo, PySem.F.slot_bool_eq, fun A Er Q q => call_meetsIn PySem.F.slot_bool_eq rfl PySem.F.entry_int_eq (PySem.F.args_int_eq_2 _ _) (GR.no_bool (o := PySem.W.instObj C dx) (fun v z => by cases z)) ⟨J.at_, q⟩⟩
  | str y =>
    obtain ⟨t, rfl⟩ := (show ∃ t, u = Value.str y t from r)
    exact ⟨"str", _, rfl, rfl, o.st, PySem.F.slot_str_eq, fun A Er Q q => call_meetsIn PySem.F.slot_str_eq rfl PySem.F.entry_str_eq (PySem.F.args_str_eq_2 _ _) (GR.no_str (o := PySem.W.instObj C dx) (fun v z => by cases z)) ⟨J.at_, q⟩⟩
  | lst h =>
    have ty := TyB.is I r (.lst h)
    cases r
    exact ⟨"list", _, ty, rfl, o.ls, PySem.F.slot_list_eq, fun A Er Q q => call_meetsIn PySem.F.slot_list_eq ty PySem.F.entry_list_eq (PySem.F.args_list_eq_2 _ _) GR.no_list ⟨isnt o.ls, q⟩⟩
  | tup h =>
    have ty := TyB.is I r (.tup h)
    cases r
    exact ⟨"tuple", _, ty, rfl, o.tp, PySem.F.slot_tuple_eq, fun A Er Q q => call_meetsIn PySem.F.slot_tuple_eq ty PySem.F.entry_tuple_eq (PySem.F.args_tuple_eq_2 _ _) GR.no_tuple ⟨isnt o.tp, q⟩⟩
  | dK h =>
    have ty := TyB.is I r (.dK h)
    cases r
    exact ⟨"dict", _, ty, rfl, o.dc, PySem.F.slot_dict_eq, fun A Er Q q => call_meetsIn PySem.F.slot_dict_eq ty PySem.F.entry_dict_eq (PySem.F.args_dict_eq_2 _ _) GR.no_dict ⟨isnt o.dc, q⟩⟩
def rEqRev (K : PySem.W.Frag) (C : Addr) (sp : Sp) (E : XK) : R2 := fun x y H Q => ∃ b dy gs, y = .ref b ∧ H b = some (.ins C dy gs) ∧ Lft K H x ∧ sp [.ref b, x] H (fun v H' => ∃ r, v = .bl r ∧ Q (.bl r) H') E
theorem op_eqRev (G : Fre X.A) (F : FnG X.prog X.w X.K X.mg X.base CX k f fd ["self", "other"] sp) (hr : Room k X.A) (hu : X.A.units + 64 < cLine) (hb : Binds X.K fd ["self", "other"] []) (hs : PySem.W.findIn X.K (.ref C) "__eq__" = some (some (.ref f))) (hf : PySem.W.isFn X.K (.ref f) = true) (o : Own X.K C) (hx : Passes CX X E) :
    OpR X (compareOp .Eq) (rEqRev X.K C sp E) := by
  intro pins s σ H x y v u Q I rx ry h
  obtain ⟨b, dy, gs, rfl, hb', hl, h⟩ := h
  cases ry
  obtain ⟨mB, J, _⟩ := ins_get I.hok hb'
  obtain ⟨od, J, _⟩ := J.look
  obtain ⟨T, id, ty, ne, su, sl, says⟩ := hl.says I rx o J
  have hu0 : X.A.units < cLine := by omega
  have asked : wpAny (model X.prog X.w) X.A (tryCompare (.ref b) (cmpInfo .Eq).2.2 v) (fun r s' => ∃ z, r = some z ∧ EP X pins σ Q z s') X.xe s := by
    unfold tryCompare
    refine wpAny_bind (PySem.W.ifBound_K I.kIn J hs hf (wpAny_call (codeAny_mono (F.goes (A := X.A) (outer := X.stack) (vs := [.ref b, x]) (us := [.ref b, v]) G hr I.env0 (hb s [.ref b, v] I.kIn rfl) (.cons rfl (.cons rx .nil)) h) ?_)))
    intro r s' z
    match r, z with
    | .error e, z => exact hx pins σ H s e s' I z
    | .ok (.ret w), z =>
      obtain ⟨_, H', I3, rv, c, rfl, q⟩ := I.after z
      cases (show w = Value.bool c from rv)
      exact wpAny_pure ⟨_, rfl, .bl c, H', I3, rfl, q⟩
    | .ok .next, z => exact z.elim
    | .ok .brk, z => exact z.elim
    | .ok .cont, z => exact z.elim
  show wpAny _ _ (richCompare .Eq v (.ref b)) _ _ _
  simp only [richCompare, cmpInfo, ty.oneThing_none]
  refine wpAny_holding (wpAny_bind (wpAny_cRoomFor hu0 (wpAny_bind (wpAny_typeOf ty (wpAny_bind (J.type.here ?_))))))
  simp only [ne, if_true]
  refine wpAny_bind ((PySem.W.looks_subIn I.kIn su).here ?_)
  simp only [Bool.false_eq_true, if_false, Bool.not_false, if_true]
  refine wpAny_bind (m := tryCompare v _ (.ref b)) (wpAny_tryCompare_declines ty sl (says X.A X.xe _ ⟨rfl, ?_⟩))
  refine wpAny_bind (m := tryCompare (.ref b) _ v) (wpAny_mono asked (fun r s' z => ?_) fun _ _ e => e)
  obtain ⟨z, rfl, q⟩ := z
  exact wpAny_pure q
end
end GL
namespace GL
open PySem PySem.Spec PyProof.Rows L2
theorem roomV {k : Nat} {A : Around} (h : Room k A) : A.units + 66 < cLine := by
  have := h.un
  omega
theorem roomW {k : Nat} {A : Around} (h : Room k A) : A.units + 65 < cLine := by
  have := h.un
  omega
/-- d.update(e) -/
def tDUpd (to te : TE) : TE := fun σ H Q => to σ H fun x H1 => ∃ a, x = .ref a ∧ IsD H1 a ∧ te σ H1 fun y H2 => ∃ (b : Addr) (ks ls : List (Key × V)), y = .ref b ∧ a ≠ b ∧ H2 a = some (.dK ks) ∧ Rd H2 b (.dK ls) ∧ ks.length + ls.length ≤ 1000 ∧ Q .non (upd H2 a (.dK (mergeK ks ls)))
theorem pe_dupd {X : Cx} {o e : Expr} {to te : TE} {apos cpos : Pos} (ho : PE X o to) (he : PE X e te) (m : M1 X o "update" apos e cpos) : PE X (.Call (.Attribute o "update" apos) [e] [] cpos) (tDUpd to te) := by
  constructor
  intro pins s σ H Q I h
  refine wpAny_Call_method m.base m.few m.line PySem.F.plainAttrs_dict PySem.F.slot_dict_update PySem.F.type_dict_update (thn (ho.run pins s σ H _ I h) ?_)
  rintro u s1 ⟨x, H1, I1, rx, a, rfl, d, q1⟩
  cases (show u = Value.ref a from rx)
  obtain ⟨t1, t2, na⟩ := isD_at I1 d
  refine ⟨t1, t2, ?_⟩
  rw [m.trees]
  refine Calls.callWith_builtin rfl (Calls.evalArgs_plain (Calls.spliced_cons (thn (he.run pins s1 σ H1 _ I1 q1) fun iv s2 ⟨y, H2, I2, ry, b, ks, ls, ey, ne, ea, eb, hz, q2⟩ => Calls.spliced_nil ?_)))
  subst ey
  cases (show iv = Value.ref b from ry)
  obtain ⟨z1, l1, vs, r1, d1⟩ := dk_of I2.hok ea
  obtain ⟨z2, l2, ws, r2, d2⟩ := dk_rd I2.hok eb
  have lm := length_mergeK ls ks
  refine call_meetsIn PySem.F.slot_dict_update d1.typeIs PySem.F.entry_dict_update (PySem.F.args_dict_update_2 _ _) (meets_dict_update (mixKind X.prog X.w) a b ne l2) ⟨vs, ws, d1, d2, by rw [← r1.length, ← r2.length, sizeLine_eq]; omega, fun h' dd _ hs => ?_⟩
  have he' : ∃ q, h'.get? a = some q := let ⟨q, _, _, hq, _⟩ := dd; ⟨q, hq⟩
  exact ⟨.non, _, d_write (t' := s2.toks) I2 (by rw [ea]; exact True.intro) hs he' (dk_new (by rw [sizeLine_eq]; omega) l1 (r2.merge r1) dd), rfl, q2⟩
/-! ### != of two dicts -/
theorem dict_differ {prog : Program} {w : World} {K : Type} [DecidableEq K] {knd : KeyKind prog w K} {A : Around} {E : Value → Shared → Prop} {s : Shared} {a b : Addr} {ka kb : List (K × Value)} {r : Bool} {Q : Value → Shared → Prop} (na : (a == sysModules) = false) (nb : (b == sysModules) = false)
    (da : s.heap.DictOf knd a ka) (db : s.heap.DictOf knd b kb) (hu : A.units < cLine) (hits : ka.length = kb.length → PySem.W.KeqHitsP prog w A.in1 s kb ka r) (h : Q (.bool (!(ka.length == kb.length && r))) s) : wpAny (model prog w) A (richCompare .NotEq (.ref a) (.ref b)) Q E s := by
  refine wpAny_richCompare_same_room (op := .NotEq) da.typeIs db.typeIs PySem.F.slot_dict_ne (wpAny_call_entry PySem.F.slot_dict_ne da.typeIs PySem.F.entry_dict_ne ?_ (PySem.F.args_dict_ne_2 _ _)) hu
  refine (show wpAny _ _ (Builtin.Dict.dictSlotArgs "__ne__" ⟨[.ref a, .ref b], []⟩ >>= _) _ _ s from wpAny_bind ?_)
  unfold Builtin.Dict.dictSlotArgs
  refine wpAny_bind (wpAny_notOrdered_dict da.typeIs (show wpAny _ _ (pure (Value.ref a, Value.ref b)) _ _ s from wpAny_pure (wpAny_bind (wpAny_isInstance (T := "dict") db.typeIs PySem.F.sub_dict_dict ?_))))
  simp only [Bool.not_true, Bool.false_eq_true, if_false]
  refine wpAny_bind (wpAny_pure (wpAny_bind (wpAny_pure (wpAny_bind (PySem.W.samePairsP na nb da db hits (wpAny_pure ⟨_, rfl, (fun z => nomatch z), ?_⟩))))))
  simpa using h
def rNeDict (K : PySem.W.Frag) : R2 := fun x y H Q => ∃ (a b : Addr) (ks ls : List (Key × V)) (ds es : List PyData), x = .ref a ∧ y = .ref b ∧ Rd H a (.dK ks) ∧ Rd H b (.dK ls) ∧ ks.map (·.1) = ls.map (·.1) ∧ DpAll K H (ks.map (·.2)) ds ∧ DpAll K H (ls.map (·.2)) es ∧
  (∀ d ∈ ds, SeqAt.shaped d = true) ∧ (∀ e ∈ es, SeqAt.shaped e = true) ∧ Q (.bl (!PyData.eqvAll ds es)) H
theorem op_neDict {X : Cx} (hu : X.A.units + 66 < cLine) : OpR X (compareOp .NotEq) (rNeDict X.K) := by
  intro pins s σ H x y v u Q I rx ry h
  obtain ⟨a, b, ks, ls, ds, es, rfl, rfl, ea, eb, ke, da, db, sd, se, q⟩ := h
  cases (show v = Value.ref a from rx)
  cases (show u = Value.ref b from ry)
  obtain ⟨_, ya, va, ra, oa⟩ := dk_rd I.hok ea
  obtain ⟨_, yb, vb, rb, ob⟩ := dk_rd I.hok eb
  have nd : (vb.map (·.1)).Nodup := by
    obtain ⟨_, _, _, _, _, _, _, _, nd⟩ := ob
    exact nd
  have len : va.length = vb.length := by
    rw [← ra.length, ← rb.length, ← List.length_map (f := fun p : Key × V => p.1) (as := ks), ke, List.length_map]
  refine dict_differ (knd := mixKind X.prog X.w) ya yb oa ob (by omega) (fun _ => all_hits I hu ks ls va vb ds es ra rb ke da db sd se (value_at nd)) ?_
  rw [len, beq_self_eq_true, Bool.true_and]
  exact ⟨.bl _, H, I, rfl, q⟩
end GL
/-! ### tuples that are told with their object: no dict of their own -/
namespace GL
open PySem PySem.Spec PyProof.Rows L2
/-- a tuple's object as it is made -/
def Bare (o : Obj) : Prop := o.dict = none ∧ o.cls = .type "tuple"
/-- a display -/
def tTupX (t : TA) : TE := fun σ H Q => t σ H fun xs H1 => xs.length ≤ sizeLine ∧ ∀ p o, H1 p = none → Bare o → Q (.ref p) (upd H1 p (.frz o (.tup xs)))
section
variable {X : Cx} {es : List Expr} {t : TA} {pos : Pos} {pins : List (Addr × Obj)} {σ : L2.St} {H : Hp} {s : Shared}
theorem bare_laid {xs : List V} {us : List Value} (I : Inv X pins σ H s) (r : Vals xs us) (z : xs.length ≤ sizeLine) : Inv X pins σ (upd H s.heap.objs.size (.frz { cls := .type "tuple", data := .seq us.toArray } (.tup xs))) { s with heap := s.heap.push { cls := .type "tuple", data := .seq us.toArray } } :=
  I.laid (t' := s.toks) (fun b u e => Heap.get?_push_of_some _ e) (Nat.le_refl _) ⟨Heap.get?_push_size _ rfl, z, us, r, ⟨_, Heap.get?_push_size _ rfl, rfl, _, rfl⟩⟩
theorem pe_tupX {x1} (h : PA X es t) : PE X (.Tuple es x1 pos) (tTupX t) := by
  constructor
  intro pins s σ H Q I hq
  refine wpAny_Tuple_spliced (thn (h.run pos pins s σ H _ I hq) fun us s1 ⟨xs, H1, I1, r, z, q⟩ => ⟨by rw [← r.length]; exact z, ?_⟩)
  exact ⟨.ref s1.heap.objs.size, _, bare_laid I1 r z, rfl, q _ _ (I1.hok.fresh (Nat.le_refl _)) ⟨rfl, rfl⟩⟩
/-- t + u -/
def rCatX (K : PySem.W.Frag) : R2 := fun x y H Q => ∃ a b xs ys, x = .ref a ∧ y = .ref b ∧ SqT K H a xs ∧ SqT K H b ys ∧ xs.length + ys.length ≤ sizeLine ∧ ys ≠ [] ∧
  (xs = [] → Q (.ref b) H) ∧ (xs ≠ [] → ∀ p o, H p = none → Bare o → Q (.ref p) (upd H p (.frz o (.tup (xs ++ ys)))))
theorem op_catX : OpR X (binaryOp .Add) (rCatX X.K) := by
  intro pins s σ H x y v u Q I rx ry h
  obtain ⟨a, b, xs, ys, rfl, rfl, ha, hb, hz, ne, q0, q1⟩ := h
  cases rx
  cases ry
  obtain ⟨its, r1, p1, _⟩ := I.tuple ha
  obtain ⟨its2, r2, p2, _⟩ := I.tuple hb
  by_cases hx : xs = []
  · subst hx
    cases r1
    exact cat_tup0 p1 p2 ⟨.ref b, H, I, rfl, q0 rfl⟩
  · refine HT.cat_tup p1 p2 (fun z => hx (r1.nil_iff.mp z)) (fun z => absurd (r2.nil_iff.mp z) ne) (fun z => ?_) (by rw [← r1.length, ← r2.length]; exact hz)
    exact ⟨.ref s.heap.objs.size, _, bare_laid I (r1.append r2) (by rw [List.length_append]; exact hz), rfl, q1 hx _ _ (I.hok.fresh (Nat.le_refl _)) ⟨rfl, rfl⟩⟩
/-- at a a tuple without a dict of its own -/
def Tpl (K : PySem.W.Frag) (H : Hp) (a : Addr) : Prop := (∃ o u, H a = some (.frz o u) ∧ Bare o) ∨ ∃ o, K.lookup a = some o ∧ Bare o
/-- t.m(e, ..), t such a tuple -/
def tBMX (K : PySem.W.Frag) (r : V → List V → Hp → VK → Prop) (to : TE) (t : TA) : TE := fun σ H Q => to σ H fun x H1 => (∃ a, x = .ref a ∧ Tpl K H1 a) ∧ t σ H1 fun xs H2 => r x xs H2 Q
theorem pe_bmX {o e : Expr} {to : TE} {name : Str} {apos cpos : Pos} {id : String} {r : V → List V → Hp → VK → Prop} (slot : Slot "tuple" name id) (hty : typeOf (.builtin id) = pure (.type "method_descriptor")) (hm : MtR X id r) (ho : PE X o to) (ha : PA X (e :: es) t)
    (hbase : attributeBase o name X.env (eval o X.env) = eval o X.env := by rfl)
    (few : ((backTo cpos (starEach (e :: es) X.env)).all (fun x => !x.1) && (backToKw cpos (keywordEach [] X.env)).all (fun x => x.1.isSome) && decide ((e :: es).length + ([] : List Keyword).length + (if ([] : List Keyword).isEmpty then 0 else 1) < 30)) = true := by rfl)
    (hline : (apos.endLine == cpos.line) = true := by rfl) (hs : starEach (e :: es) X.env = (false, eval e X.env) :: starEach es X.env := by rfl) (hplain : (backTo cpos (starEach es X.env)).any (·.1) = false := by rfl) :
    PE X (.Call (.Attribute o name apos) (e :: es) [] cpos) (tBMX X.K r to t) := by
  constructor
  intro pins s σ H Q I h
  refine wpAny_Call_method_late hbase few hline rfl (thn (ho.run pins s σ H _ I h) fun v s1 ⟨x, H1, I1, r1, ⟨a, ea, tp⟩, q1⟩ => ?_)
  subst ea
  cases (show v = Value.ref a from r1)
  have ob : ∃ ob, s1.heap.get? a = some ob ∧ Bare ob := by
    rcases tp with ⟨o, u, e, b⟩ | ⟨o, e, b⟩
    · exact ⟨o, (I1.hok a _ e).1, b⟩
    · exact ⟨o, I1.kIn a o e, b⟩
  obtain ⟨ob, e1, b1, b2⟩ := ob
  refine ⟨"tuple", id, PySem.F.plainAttrs_tuple, slot, hty, ⟨ob, e1, b2⟩, fun c ec => ?_, ?_⟩
  · cases ec
    exact ⟨ob, e1, b1⟩
  have hA := ha.run cpos pins s1 σ H1 _ I1 q1
  rw [hs] at hA ⊢
  refine Calls.callWith_builtin (by show (false || (backTo cpos (starEach es X.env)).any (·.1)) = false; rw [hplain] <;> rfl) (Calls.evalArgs_plain ?_)
  exact thn hA fun us s2 ⟨vs, H2, I2, r2, q2⟩ => hm pins s2 σ H2 (.ref a) vs (.ref a) us Q I2 rfl r2 q2
end
end GL
namespace My
open PySem PySem.Spec PyProof.Rows L2 GL
/-! ### words, rows, rules: no Python here -/
inductive Wd where
  | look | add | tri | live | home | off | fin | set | both | take | give | move | lift | settle | undo | leave | wait
deriving DecidableEq
def Wd.s : Wd → Str
  | .look => "look" | .add => "add" | .tri => "try" | .live => "live" | .home => "home" | .off => "off" | .fin => "end" | .set => "set" | .both => "both"
  | .take => "take" | .give => "give" | .move => "move" | .lift => "lift" | .settle => "settle" | .undo => "undo" | .leave => "leave" | .wait => "wait"
def Wd.n : Wd → Nat
  | .look => 0 | .add => 1 | .tri => 2 | .live => 3 | .home => 4 | .off => 5 | .fin => 6 | .set => 7 | .both => 8
  | .take => 9 | .give => 10 | .move => 11 | .lift => 12 | .settle => 13 | .undo => 14 | .leave => 15 | .wait => 16
def allW : List Wd := [.look, .add, .tri, .live, .home, .off, .fin, .set, .both, .take, .give, .move, .lift, .settle, .undo, .leave, .wait]
theorem allW_mem (w : Wd) : w ∈ allW := by cases w <;> decide
theorem Wd.inj {a b : Wd} (h : a.s = b.s) : a = b := by
  have go : (allW.all fun a => allW.all fun b => decide (a.s = b.s → a = b)) = true := by decide +kernel
  have h1 := List.all_eq_true.mp (List.all_eq_true.mp go a (allW_mem a)) b (allW_mem b)
  exact of_decide_eq_true h1 h
theorem Wd.s_iff {a b : Wd} : a.s = b.s ↔ a = b := ⟨Wd.inj, fun e => e ▸ rfl⟩
theorem Wd.len (w : Wd) : w.s.length ≤ 6 := by cases w <;> decide +kernel
abbrev wV (w : Wd) : V := .str w.s
theorem wV_eq (a b : Wd) : decide (wV a = wV b) = decide (a = b) := by
  by_cases e : a = b
  · rw [e, decide_eq_true rfl, decide_eq_true rfl]
  · rw [decide_eq_false e, decide_eq_false fun q => e (Wd.inj (V.str.inj q))]
theorem inV_w (a : Wd) : ∀ l : List Wd, inV (wV a) (l.map wV) = decide (a ∈ l)
  | [] => rfl
  | b :: l => by
    have ih := inV_w a l
    show ((b.s == a.s) || inV (wV a) (l.map wV)) = decide (a ∈ b :: l)
    rw [ih]
    by_cases e : a = b
    · subst e
      simp
    · have z : (b.s == a.s) = false := beq_eq_false_iff_ne.mpr fun q => e (Wd.inj q).symm
      rw [z, Bool.false_or]
      by_cases m : a ∈ l
      · rw [decide_eq_true m, decide_eq_true (List.mem_cons_of_mem _ m)]
      · rw [decide_eq_false m, decide_eq_false fun q => (List.mem_cons.mp q).elim e m]
theorem flat_w (l : List Wd) : (l.map wV).all flatV = true := by
  rw [List.all_eq_true]
  intro x hx
  obtain ⟨n, _, rfl⟩ := List.mem_map.mp hx
  rfl
theorem wV_strs (l : List Wd) : l.map wV = (l.map Wd.s).map V.str := by
  rw [List.map_map]
  rfl
theorem nodup_s {l : List Wd} (h : l.Nodup) : (l.map Wd.s).Nodup := by
  induction l with
  | nil => exact List.nodup_nil
  | cons a l ih =>
    rw [List.nodup_cons] at h
    rw [List.map_cons, List.nodup_cons]
    refine ⟨fun q => ?_, ih h.2⟩
    obtain ⟨b, hb, e⟩ := List.mem_map.mp q
    exact h.1 (Wd.inj e ▸ hb)
theorem at_w {l : List Wd} {i : Nat} {w : Wd} (h : l[i]? = some w) : (l.map wV)[i]? = some (wV w) := by
  rw [List.getElem?_map, h]
  rfl
/-! rows as the program looks at them -/
abbrev Rw := List Wd
def pTA (us : Rw) (w : Wd) : Bool := if w ∈ us then !decide (Wd.look ∈ us.drop (us.idxOf w)) && !decide (Wd.tri ∈ us.drop (us.idxOf w)) else true
def pOH (us : Rw) : Bool := !decide (Wd.off ∈ us) || decide (Wd.home ∈ us.take (us.idxOf .off))
def pW (us ws : Rw) : Bool := us.all fun w => decide (w ∈ ws)
def pTake (us : Rw) : Bool := pW us [.live, .tri, .add, .look] && decide (Wd.live ∈ us) && if Wd.tri ∈ us then decide (us = [.tri, .live]) else decide (Wd.add ∈ us) && pTA us .live
def pGive (us : Rw) : Bool := pW us [.fin, .home, .off] && decide (Wd.fin ∈ us) && pOH us
def pMove (us : Rw) : Bool := pW us [.set, .home, .add, .look, .tri, .off] && (decide (us = []) || (!(!decide (Wd.set ∈ us) || decide (Wd.tri ∈ us) && (decide (Wd.add ∈ us) || decide (Wd.look ∈ us))) && (pOH us && pTA us .set && pTA us .off)))
def liftRows : List Rw := [[], [.set], [.off], [.set, .off], [.off, .set], [.both]]
def pLift (us : Rw) : Bool := pW us [.set, .off, .both] && decide (us ∈ liftRows)
def pRow : Wd → Rw → Bool
  | .take => pTake
  | .give => pGive
  | .move => pMove
  | _ => pLift
def pBatch (us : Rw) (n : Nat) : Bool := decide (n = 1) || decide (us.getLast? = some .live)
def pShared (us : Rw) (b : Bool) : Bool := b || decide (us = []) || decide (us.head? = some .home)
/-! rows as the law has them -/
def lAhead (us : Rw) (a b : Wd) : Bool := !decide (a ∈ us) || !decide (b ∈ us) || decide (us.idxOf a < us.idxOf b)
def lTake (us : Rw) (n : Nat) : Bool := !(!decide (Wd.live ∈ us) || (decide (Wd.tri ∈ us) == decide (Wd.add ∈ us)) || decide (Wd.tri ∈ us) && decide (Wd.look ∈ us)) && (!(decide (n > 1) && !decide (us.getLast? = some .live)) && (lAhead us .look .live && lAhead us .tri .live))
def lGive (us : Rw) : Bool := decide (Wd.fin ∈ us) && (!decide (Wd.off ∈ us) || decide (Wd.home ∈ us) && lAhead us .home .off)
def lMoveA (us : Rw) : Bool := (lAhead us .look .set && lAhead us .look .off) && (lAhead us .tri .set && lAhead us .tri .off)
def lMove (us : Rw) (b : Bool) : Bool := decide (us = []) || (!(!decide (Wd.set ∈ us) || decide (Wd.tri ∈ us) && (decide (Wd.add ∈ us) || decide (Wd.look ∈ us))) && (!(decide (Wd.off ∈ us) && (!decide (Wd.home ∈ us) || !lAhead us .home .off)) && (!(!b && !decide (us.head? = some .home)) && lMoveA us)))
def ext (ws : Rw) (us : Rw) : List Rw := (ws.filter fun w => !decide (w ∈ us)).map fun w => us ++ [w]
def grow (ws : Rw) : Nat → List Rw
  | 0 => [[]]
  | n + 1 => (grow ws n).flatMap (ext ws)
def found (ws : Rw) : Nat → List Rw
  | 0 => [[]]
  | n + 1 => found ws n ++ grow ws (n + 1)
def seqs (ws : Rw) : List Rw := found ws ws.length
def takeWs : Rw := [.look, .add, .tri, .live]
def giveWs : Rw := [.home, .off, .fin]
def moveWs : Rw := [.home, .look, .add, .tri, .set, .off]
def takes (n : Nat) : List Rw := (seqs takeWs).filter fun us => lTake us n
def gives : List Rw := (seqs giveWs).filter lGive
def moves (b : Bool) : List Rw := (seqs moveWs).filter fun us => lMove us b
theorem seqs_nd (ws : Rw) (hw : ws ∈ [takeWs, giveWs, moveWs]) : ∀ us ∈ seqs ws, us.Nodup ∧ us.length ≤ 6 := by
  have go : ([takeWs, giveWs, moveWs].all fun ws => (seqs ws).all fun us => decide us.Nodup && decide (us.length ≤ 6)) = true := by decide +kernel
  intro us hu
  have h := List.all_eq_true.mp (List.all_eq_true.mp go ws hw) us hu
  rw [Bool.and_eq_true] at h
  exact ⟨of_decide_eq_true h.1, of_decide_eq_true h.2⟩
theorem lTake_n {us : Rw} {n : Nat} (hn : 1 < n) : lTake us n = lTake us 2 := by
  unfold lTake
  rw [decide_eq_true (show n > 1 from hn)]
  rfl
theorem lTake_1 {us : Rw} {n : Nat} (hn : ¬ 1 < n) : lTake us n = lTake us 1 := by
  unfold lTake
  rw [decide_eq_false (show ¬ n > 1 from hn)]
  rfl
structure RowOk (us : Rw) : Prop where
  nd : us.Nodup
  ln : us.length ≤ 6
theorem take_ok {us : Rw} {n : Nat} (h1n : 1 ≤ n) (h : us ∈ takes n) : RowOk us ∧ pTake us = true ∧ pBatch us n = true := by
  obtain ⟨h1, h2⟩ := List.mem_filter.mp h
  have nd := seqs_nd takeWs (by decide) us h1
  have go : ((seqs takeWs).all fun us => (!lTake us 2 || (pTake us && decide (us.getLast? = some .live))) && (!lTake us 1 || pTake us)) = true := by decide +kernel
  have g := List.all_eq_true.mp go us h1
  rw [Bool.and_eq_true] at g
  refine ⟨⟨nd.1, nd.2⟩, ?_⟩
  by_cases hn : 1 < n
  · rw [lTake_n hn] at h2
    rw [h2, Bool.not_true, Bool.false_or, Bool.and_eq_true] at g
    refine ⟨g.1.1, ?_⟩
    unfold pBatch
    rw [g.1.2, Bool.or_true]
  · rw [lTake_1 hn] at h2
    rw [h2, Bool.not_true, Bool.false_or] at g
    refine ⟨g.2, ?_⟩
    unfold pBatch
    rw [decide_eq_true (show n = 1 by omega), Bool.true_or]
theorem give_ok {us : Rw} (h : us ∈ gives) : RowOk us ∧ pGive us = true := by
  obtain ⟨h1, h2⟩ := List.mem_filter.mp h
  have nd := seqs_nd giveWs (by decide) us h1
  have go : ((seqs giveWs).all fun us => !lGive us || pGive us) = true := by decide +kernel
  have g := List.all_eq_true.mp go us h1
  rw [h2, Bool.not_true, Bool.false_or] at g
  exact ⟨⟨nd.1, nd.2⟩, g⟩
theorem move_ok {us : Rw} {b : Bool} (h : us ∈ moves b) : RowOk us ∧ pMove us = true ∧ pShared us b = true := by
  obtain ⟨h1, h2⟩ := List.mem_filter.mp h
  have nd := seqs_nd moveWs (by decide) us h1
  have go : ([true, false].all fun b => (seqs moveWs).all fun us => !lMove us b || (pMove us && pShared us b)) = true := by decide +kernel
  have g := List.all_eq_true.mp (List.all_eq_true.mp go b (by cases b <;> decide)) us h1
  rw [h2, Bool.not_true, Bool.false_or, Bool.and_eq_true] at g
  exact ⟨⟨nd.1, nd.2⟩, g.1, g.2⟩
theorem lift_ok {us : Rw} (h : us ∈ liftRows) : RowOk us ∧ pLift us = true := by
  have go : (liftRows.all fun us => decide us.Nodup && decide (us.length ≤ 6) && pLift us) = true := by decide +kernel
  have g := List.all_eq_true.mp go us h
  rw [Bool.and_eq_true, Bool.and_eq_true] at g
  exact ⟨⟨of_decide_eq_true g.1.1, of_decide_eq_true g.1.2⟩, g.2⟩
theorem takes_ne (n : Nat) : takes n ≠ [] := by
  have go : ((seqs takeWs).filter fun us => lTake us 2) ≠ [] ∧ ((seqs takeWs).filter fun us => lTake us 1) ≠ [] := by decide +kernel
  unfold takes
  by_cases h : 1 < n
  · rw [show (fun us => lTake us n) = fun us => lTake us 2 from funext fun us => lTake_n h]
    exact go.1
  · rw [show (fun us => lTake us n) = fun us => lTake us 1 from funext fun us => lTake_1 h]
    exact go.2
theorem gives_ne : gives ≠ [] := by decide +kernel
theorem moves_ne (b : Bool) : moves b ≠ [] := by
  have go : ∀ b, moves b ≠ [] := by decide +kernel
  exact go b
/-! rules of a book -/
inductive Pt where
  | take | give | move | lift | fails | shared | holds | batch | settles
deriving DecidableEq
def Pt.s : Pt → Str
  | .take => "take" | .give => "give" | .move => "move" | .lift => "lift" | .fails => "fails" | .shared => "shared" | .holds => "holds" | .batch => "batch" | .settles => "settles"
def allP : List Pt := [.take, .give, .move, .lift, .fails, .shared, .holds, .batch, .settles]
theorem allP_mem (p : Pt) : p ∈ allP := by cases p <;> decide
theorem Pt.inj {a b : Pt} (h : a.s = b.s) : a = b := by
  have go : (allP.all fun a => allP.all fun b => decide (a.s = b.s → a = b)) = true := by decide +kernel
  exact of_decide_eq_true (List.all_eq_true.mp (List.all_eq_true.mp go a (allP_mem a)) b (allP_mem b)) h
inductive Pv where
  | row (us : Rw) | hold (us : Rw) | wd (w : Wd) | bl (b : Bool) | int (n : Nat)
deriving DecidableEq
structure Ru where
  take : Rw
  give : Rw
  move : Rw
  lift : Rw
  fails : Wd
  shared : Bool
  holds : Rw
  batch : Nat
  settles : Bool
deriving DecidableEq
def Ru.get (r : Ru) : Pt → Pv
  | .take => .row r.take | .give => .row r.give | .move => .row r.move | .lift => .row r.lift | .fails => .wd r.fails | .shared => .bl r.shared | .holds => .hold r.holds | .batch => .int r.batch | .settles => .bl r.settles
/-- r with the part p of l -/
def Ru.upd (r l : Ru) : Pt → Ru
  | .take => { r with take := l.take } | .give => { r with give := l.give } | .move => { r with move := l.move } | .lift => { r with lift := l.lift } | .fails => { r with fails := l.fails }
  | .shared => { r with shared := l.shared } | .holds => { r with holds := l.holds } | .batch => { r with batch := l.batch } | .settles => { r with settles := l.settles }
theorem Ru.get_upd (r l : Ru) (p q : Pt) : (r.upd l p).get q = if q = p then l.get q else r.get q := by cases p <;> cases q <;> rfl
theorem Ru.ext_get {r l : Ru} (h : ∀ p, r.get p = l.get p) : r = l := by
  cases r
  cases l
  have h1 := Pv.row.inj (h .take); have h2 := Pv.row.inj (h .give); have h3 := Pv.row.inj (h .move); have h4 := Pv.row.inj (h .lift); have h5 := Pv.wd.inj (h .fails)
  have h6 := Pv.bl.inj (h .shared); have h7 := Pv.hold.inj (h .holds); have h8 := Pv.int.inj (h .batch); have h9 := Pv.bl.inj (h .settles)
  dsimp only at h1 h2 h3 h4 h5 h6 h7 h8 h9
  subst h1 h2 h3 h4 h5 h6 h7 h8 h9
  rfl
def kindRows : Rw := [.take, .give, .move, .lift]
def failWs : Rw := [.undo, .leave, .wait]
/-- rules that a book can have; holds stand in their sequence -/
structure Ok (r : Ru) : Prop where
  t : RowOk r.take ∧ pTake r.take = true ∧ pBatch r.take r.batch = true
  g : RowOk r.give ∧ pGive r.give = true
  m : RowOk r.move ∧ pMove r.move = true ∧ pShared r.move r.shared = true
  l : RowOk r.lift ∧ pLift r.lift = true
  f : r.fails ∈ failWs
  h : r.holds.Sublist kindRows
  b : 1 ≤ r.batch ∧ r.batch ≤ 50
theorem kinds_nd : kindRows.Nodup := by decide
theorem holds_nd {hs : Rw} (h : hs.Sublist kindRows) : hs.Nodup := h.nodup kinds_nd
theorem holds_ln {hs : Rw} (h : hs.Sublist kindRows) : hs.length ≤ 4 := h.length_le
theorem holds_sorted {hs : Rw} (h : hs.Sublist kindRows) : kindRows.filter (fun k => decide (k ∈ hs)) = hs := by
  have go : ∀ {ks hs : Rw}, hs.Sublist ks → ks.Nodup → ks.filter (fun k => decide (k ∈ hs)) = hs := by
    intro ks
    induction ks with
    | nil =>
      intro hs h _
      cases h
      rfl
    | cons k ks ih =>
      intro hs h nd
      rw [List.nodup_cons] at nd
      cases h with
      | cons _ h =>
        rw [List.filter_cons_of_neg (by simpa using fun q => nd.1 (h.subset q))]
        exact ih h nd.2
      | @cons_cons l1 _ _ h =>
        rw [List.filter_cons_of_pos (by simp)]
        congr 1
        rw [← ih h nd.2]
        refine List.filter_congr fun x hx => ?_
        have nx : x ≠ k := fun e => nd.1 (e ▸ hx)
        rw [ih h nd.2]
        simp [nx]
  exact go h kinds_nd
def pStrict (r l : Ru) : Bool := decide (({ r with holds := l.holds } : Ru) = l) && l.holds.all fun k => decide (k ∈ r.holds)
theorem Ok.holds_of {r l : Ru} (h : Ok r) (hs : l.holds.Sublist kindRows) : Ok { r with holds := l.holds } := ⟨h.t, h.g, h.m, h.l, h.f, hs, h.b⟩
end My
namespace My
open PySem PySem.Spec PyProof.Rows L2 GL Evl StX SkE
section
variable {K : PySem.W.Frag} {σ : L2.St} {H : Hp} {te : TE} {x y v : V} {r : R2}
theorem rc_isi {u t : Value} {b : Bool} {c : V} (k : ClsV c u) (ty : ∀ H1, TyX K H1 x t) (h : PySem.W.kitOne K t u = some b) : RC (rIsi K) [x, c] H (.bl b) := fun H1 e Q q => ⟨x, c, t, u, b, rfl, k, ty H1, h, q H1 (Ex.refl H1)⟩
theorem et_is' {b : Bool} (h : Ev te σ H (.bl b)) : Ev te σ H (.bl b) := h
theorem rv_bl {a b : Bool} (h : RV r x y H (.bl a)) (e : a = b) : RV r x y H (.bl b) := by
  rw [← e]
  exact h
end
abbrev nV (n : Nat) : V := .int (n : Int)
theorem nV_eq (a b : Nat) : decide (nV a = nV b) = decide (a = b) := by
  by_cases e : a = b
  · subst e
    rw [decide_eq_true rfl, decide_eq_true rfl]
  · have z : ¬ nV a = nV b := fun q => e (by have := V.int.inj q; omega)
    rw [decide_eq_false z, decide_eq_false e]
section
variable {K : PySem.W.Frag} {σ : L2.St} {H H' : Hp} {ta tb te : TE} {t u : TT} {x y z v : V} {C : Addr}
theorem ev_fld {p dx : Addr} {fs : List (Str × V)} {f : Str} (ha : Ev ta σ H (.ref p)) (h : H p = some (.ins C dx fs)) (c : Cls K C) (n : NoAttr K C f) (l : fs.lookup f = some v) : Ev (tFld K ta f) σ H v :=
  fun H1 e Q q => ha H1 e _ fun H2 e2 => ⟨p, C, dx, fs, v, rfl, e2 _ _ (e _ _ h), c, n, l, q H2 e2⟩
theorem ev_meth {m : Str} {sp : Sp} {dvs vs : List V} {Er : XK} {tb : TA} {p dx : Addr} {fs : List (Str × V)} (ha : Ev ta σ H (.ref p)) (h : H p = some (.ins C dx fs)) (l : fs.lookup m = none) (hb : EvA tb σ H vs) (hs : SpV sp (.ref p :: (vs ++ dvs)) H z) : Ev (tMeth C m sp dvs Er ta tb) σ H z :=
  fun H1 e Q q => ha H1 e _ fun H2 e2 => ⟨p, dx, fs, rfl, e2 _ _ (e _ _ h), l, hb H2 (e.trans e2) _ fun H3 e3 => hs H3 ((e.trans e2).trans e3) Q (fun H4 e4 => q H4 ((e2.trans e3).trans e4)) Er⟩
theorem ev_methK {m : Str} {sp : Sp} {gV : List V → List V → List V} {zs : List V} {Er : XK} {tb : TA} {p dx : Addr} {fs : List (Str × V)} (ha : Ev ta σ H (.ref p)) (h : H p = some (.ins C dx fs)) (l : fs.lookup m = none) (hb : EvA tb σ H zs) (hs : SpV sp (gV [.ref p] zs) H z) : Ev (tMethK C m sp gV Er ta tb) σ H z :=
  fun H1 e Q q => ha H1 e _ fun H2 e2 => ⟨p, dx, fs, rfl, e2 _ _ (e _ _ h), l, hb H2 (e.trans e2) _ fun H3 e3 => hs H3 ((e.trans e2).trans e3) Q (fun H4 e4 => q H4 ((e2.trans e3).trans e4)) Er⟩
theorem ev_chain {r r' : R2} {tc : TE} {w : V} {b c : Bool} (ha : Ev ta σ H x) (hb : Ev tb σ H y) (hr : RV r x y H (.bl b)) (hc : b = true → Ev tc σ H w) (hr' : b = true → RV r' y w H (.bl c)) : Ev (tChain r r' ta tb tc) σ H (.bl (b && c)) := fun H1 e Q q =>
  ha H1 e _ fun H2 e2 => hb H2 (e.trans e2) _ fun H3 e3 => hr H3 ((e.trans e2).trans e3) _ fun H4 e4 => ⟨b, rfl, by
    have f4 := (e2.trans e3).trans e4
    cases b with
    | false => exact q H4 f4
    | true => exact hc rfl H4 (e.trans f4) _ fun H5 e5 => hr' rfl H5 ((e.trans f4).trans e5) Q fun H6 e6 => q H6 ((f4.trans e5).trans e6)⟩
end
def ExB (a : Addr) (H H' : Hp) : Prop := ∀ b o, b ≠ a → H b = some o → H' b = some o
theorem ExB.of {a : Addr} {H H' : Hp} (e : Ex H H') : ExB a H H' := fun b o _ h => e b o h
theorem ExB.refl (a : Addr) (H : Hp) : ExB a H H := fun _ _ _ h => h
theorem ExB.trans {a : Addr} {H H1 H2 : Hp} (x : ExB a H H1) (y : ExB a H1 H2) : ExB a H H2 := fun b o n h => y b o n (x b o n h)
theorem ExB.set {a : Addr} {H : Hp} {o : HO} : ExB a H (upd H a o) := fun b u n h => by
  rw [upd_ne n]
  exact h
theorem ExB.mut {a b : Addr} {H H' : Hp} {o : HO} (e : ExB a H H') (h : H b = none) : ExB a H (upd H' b o) := fun c u n hc => by
  rw [upd_ne (ne_of_none hc h)]
  exact e c u n hc
theorem ExB.free {a : Addr} {H H' : Hp} {p : Addr} {o : HO} (e : ExB a H H') (ha : H' a = some o) (h : H' p = none) : H p = none := by
  cases q : H p with
  | none => rfl
  | some u =>
    have n : p ≠ a := fun z => by rw [z, ha] at h; cases h
    rw [e p u n q] at h
    cases h
theorem ExB.all {a : Addr} {H0 H H' : Hp} (e0 : Ex H0 H) (h : H0 a = none) (e : ExB a H H') : Ex H0 H' := fun b o hb => e b o (ne_of_none hb h) (e0 b o hb)
def PotAt (H : Hp) (a : Addr) : Prop := ∃ x y : Int, H a = some (.lst [.int x, .int y]) ∧ 0 ≤ x ∧ 0 ≤ y ∧ y < 2147483600
theorem PotAt.ex {H H' : Hp} {a : Addr} (h : PotAt H a) (e : Ex H H') : PotAt H' a := by
  obtain ⟨x, y, h1, h2⟩ := h
  exact ⟨x, y, e _ _ h1, h2⟩
theorem PotAt.exB {H H' : Hp} {a b : Addr} (h : PotAt H a) (e : ExB b H H') (n : a ≠ b) : PotAt H' a := by
  obtain ⟨x, y, h1, h2⟩ := h
  exact ⟨x, y, e _ _ n h1, h2⟩
def sp_Lpot (K : PySem.W.Frag) : Sp := fun vs H Q _ => ∃ (a : Addr) (ns : List Int) (k : Nat), vs = [.ref a, .int (k : Int)] ∧ SqL K H a (ns.map V.int) ∧ ns.length ≤ 63 ∧ k < 3 ∧ ∀ H' p, H p = none → Ex H H' → PotAt H' p → Q (.ref p) H'
def sp_Ldraw : Sp := fun vs H Q _ => ∃ a, ∃ n : Nat, vs = [.ref a, nV n] ∧ PotAt H a ∧ 1 ≤ n ∧ n ≤ 1000 ∧ ∀ H' (d : Nat), ExB a H H' → PotAt H' a → d < n → Q (nV d) H'
theorem ev_raw {te : TE} {σ : L2.St} {H : Hp} {v : V} {Q : VK} (h : Ev te σ H v) (k : ∀ H1, Ex H H1 → Q v H1) : te σ H Q := h H (Ex.refl H) Q k
theorem cb_raw {r : List V → Hp → VK → Prop} {ta : TA} {σ : L2.St} {H : Hp} {vs : List V} {Q : VK} (h : EvA ta σ H vs) (k : ∀ H1, Ex H H1 → r vs H1 Q) : tCB r ta σ H Q := h H (Ex.refl H) _ k
theorem q_asgR {te : TE} {g : TG} {tz : TS} {D : Ends} {σ : L2.St} {H : Hp} (h : te σ H fun x H1 => g x σ H1 (tz D)) : tSeq (tAsg te g) tz D σ H := h
theorem s_asgR {te : TE} {g : TG} {D : Ends} {σ : L2.St} {H : Hp} (h : te σ H fun x H1 => g x σ H1 D.nx) : tAsg te g D σ H := h
theorem s_retR {te : TE} {D : Ends} {σ : L2.St} {H : Hp} (h : te σ H D.rt) : tRet te D σ H := h
theorem no_pylong {x : Int} {n : Nat} (h : n ≤ 1000) : Builtin.divisionGoesByPylong x (n : Int) = false := by
  have hl : n.log2 < 10 := by
    by_cases e : n = 0
    · subst e
      decide
    · exact (Nat.log2_lt e).mpr (by omega)
  have hd : ¬ ((if ((n : Int) == 0) = true then 0 else (n : Int).natAbs.log2 / 30 + 1) > 300) := by
    rw [Int.natAbs_natCast]
    split <;> omega
  show (decide ((if ((n : Int) == 0) = true then 0 else (n : Int).natAbs.log2 / 30 + 1) > 300) && _) = false
  rw [decide_eq_false hd, Bool.false_and]
section
variable {K : PySem.W.Frag} {H : Hp}
theorem rc_lenL {a : Addr} {xs : List V} (h : SqL K H a xs) : RC (rLenS K) [.ref a] H (.int (xs.length : Int)) := fun H1 e Q q => ⟨a, xs, rfl, .inl (ex_l e h), q H1 (Ex.refl H1)⟩
theorem rc_max2 {i j : Int} : RC rMax2 [.int i, .int j] H (.int (if j > i then j else i)) := fun H1 _ Q q => ⟨i, j, rfl, q H1 (Ex.refl H1)⟩
theorem rc_int {i : Int} : RC (fun xs H Q => (∃ i, xs = [V.int i] ∧ Q (.int i) H) ∨ ∃ k, xs = [V.bl k] ∧ Q (.int (if k then 1 else 0)) H) [.int i] H (.int i) := fun H1 _ Q q => .inl ⟨i, rfl, q H1 (Ex.refl H1)⟩
theorem rc_abs {i : Int} : RC (fun xs H Q => ∃ i, xs = [V.int i] ∧ Q (.int (if i < 0 then -i else i)) H) [.int i] H (.int (if i < 0 then -i else i)) := fun H1 _ Q q => ⟨i, rfl, q H1 (Ex.refl H1)⟩
end
section
variable {P : Program} {w : World} {K : PySem.W.Frag} {mg : Str → Option Value} {base : Heap} {C : Addr} {H : Hp}
theorem dr {t : TA} {σ : L2.St} {Er : XK} {Q : VK} {a : Addr} {n : Nat} (h : EvA t σ H [.ref a, nV n]) (p : PotAt H a) (h1 : 1 ≤ n) (h2 : n ≤ 1000) (k : ∀ H' (d : Nat), ExB a H H' → PotAt H' a → d < n → Q (nV d) H') : tCall sp_Ldraw [] Er t σ H Q :=
  h H (Ex.refl H) _ fun H1 e1 => ⟨a, n, rfl, p.ex e1, h1, h2, fun H' d x p' hd => k H' d ((ExB.of e1).trans x) p' hd⟩
theorem app_raw {to te : TE} {σ : L2.St} {Q : VK} {l : Addr} (h : Ev to σ H (.ref l)) {xs : List V} (hl : H l = some (.lst xs)) (k : ∀ H1, Ex H H1 → te σ H1 fun v H2 => rAppend (.ref l) [v] H2 Q) : tBM K "list" rAppend to (tCons te tNil) σ H Q :=
  h H (Ex.refl H) _ fun H1 e1 => ⟨Or.inl ⟨rfl, xs, sq_of (e1 l _ hl)⟩, k H1 e1⟩
theorem yes_raw {σ : L2.St} {A B : Hp → Prop} (h : A H) : tYes σ H fun b H3 => if b = true then A H3 else B H3 := by
  show if true = true then A H else B H
  exact iteT h
theorem el_raw {te : TE} {σ : L2.St} {Q : VK} {xs : List V} (h : EvL te σ H xs) (k : ∀ p H1, H p = none → Ex H H1 → H1 p = some (.lst xs) → Q (.ref p) H1) : te σ H Q := h H (Ex.refl H) Q k
theorem op_raw {r : R2} {ta tb : TE} {σ : L2.St} {Q : VK} (h : ta σ H fun x H1 => tb σ H1 fun y H2 => r x y H2 Q) : tOp r ta tb σ H Q := h
theorem test_raw {te : TE} {σ : L2.St} {Q : Bool → Hp → Prop} (h : te σ H fun x H' => ∃ k, x = .bl k ∧ Q k H') : tTest te σ H Q := h
end
theorem roomU {k : Nat} {A : Around} (h : Room k A) : A.units + 64 < cLine := by
  have := h.un
  omega
theorem given_all (n : Nat) (v : Nat → V) : given n (fun _ => true) v = (List.range n).map v := by
  unfold given
  rw [List.filter_eq_self.mpr (fun _ _ => rfl)]
theorem given_congr {n : Nat} {f : Nat → Bool} {v v' : Nat → V} (h : ∀ i, i < n → v i = v' i) : given n f v = given n f v' := by
  unfold given
  exact List.map_congr_left fun i hi => h i (List.mem_range.mp (List.mem_filter.mp hi).1)
section
variable {K : PySem.W.Frag} {σ : L2.St} {H : Hp} {te tb : TE} {ta : TA} {t tu : TT} {D : Ends} {tz : TS} {xs ys : List V} {b : Bool}
theorem et_yes : EvT tYes σ H true := fun H1 _ _ q => q H1 (Ex.refl H1)
theorem el_is (h : EvL te σ H xs) (e : xs = ys) : EvL te σ H ys := by
  rw [← e]
  exact h
theorem rc_any {p : Addr} {bs : List Bool} (h : H p = some (.lst (bs.map V.bl))) : RC (rAny K) [.ref p] H (.bl (bs.any id)) := fun H1 e Q q => ⟨p, bs, rfl, sq_of (e _ _ h), q H1 (Ex.refl H1)⟩
theorem ev_anyB {bs : List Bool} (h : EvL te σ H (bs.map V.bl)) : Ev (tCB (rAny K) (tCons te tNil)) σ H (.bl (bs.any id)) := fun H1 e Q q => h H1 e _ fun p H2 hp e2 h2 => rc_any h2 H2 (Ex.refl H2) Q fun H3 e3 => q H3 (e2.trans e3)
theorem nx_raw (h : D.nx σ H) : tNext D σ H := h
theorem and_raw {Q : Bool → Hp → Prop} (h : EvT t σ H b) (h1 : b = true → ∀ H1, Ex H H1 → tu σ H1 Q) (h2 : b = false → ∀ H1, Ex H H1 → Q false H1) : tAnd t tu σ H Q := h H (Ex.refl H) _ fun H1 e => by
  cases b with
  | true => exact h1 rfl H1 e
  | false => exact h2 rfl H1 e
theorem rc_all {p : Addr} {bs : List Bool} (h : H p = some (.lst (bs.map V.bl))) : RC (rAll K) [.ref p] H (.bl (bs.all id)) := fun H1 e Q q => ⟨p, bs, rfl, sq_of (e _ _ h), q H1 (Ex.refl H1)⟩
theorem ev_allB {bs : List Bool} (h : EvL te σ H (bs.map V.bl)) : Ev (tCB (rAll K) (tCons te tNil)) σ H (.bl (bs.all id)) := fun H1 e Q q => h H1 e _ fun p H2 hp e2 h2 => rc_all h2 H2 (Ex.refl H2) Q fun H3 e3 => q H3 (e2.trans e3)
theorem q_ext {l : Addr} {ta : TE} (hl : H l = some (.lst xs)) (ha : Ev ta σ H (.ref l)) (h : EvL te σ H ys) (hz : xs.length + ys.length ≤ 100000) (k : ∀ H1, Ex H H1 → tz D σ (upd H1 l (.lst (xs ++ ys)))) : tSeq (tDrop (tBM K "list" rExtend ta (tCons te tNil))) tz D σ H :=
  ha H (Ex.refl H) _ fun H1 e1 => ⟨Or.inl ⟨rfl, xs, sq_of (e1 _ _ hl)⟩, h H1 e1 _ fun b H2 hb e2 h2 => ⟨l, b, xs, ys, rfl, rfl, (e1.trans e2) _ _ hl, h2, sz_of hz, k H2 (e1.trans e2)⟩⟩
end
end My
namespace My
open PySem PySem.Spec PyProof.Rows L2 GL Evl StX SkE
/-! ### rows and rules in the heap -/
def isTup : HO → Bool
  | .tup _ => true
  | .frz _ (.tup _) => true
  | _ => false
/-- no tuple stands at b -/
def NoTup (H : Hp) (b : Addr) : Prop := ∀ u, H b = some u → isTup u = false
inductive RowAt (K : PySem.W.Frag) (H : Hp) (a : Addr) (us : Rw) : Prop where
  | tup (h : H a = some (.tup (us.map wV)))
  | fx {o : Obj} (h : H a = some (.frz o (.tup (us.map wV)))) (b : Bare o)
  | kst (h : ∀ H, SqT K H a (us.map wV)) (y : ∀ H, TyX K H (.ref a) (.type "tuple"))
section
variable {K : PySem.W.Frag} {H H' : Hp} {a b : Addr} {us ws : Rw}
theorem NoTup.lst {xs : List V} (h : H b = some (.lst xs)) : NoTup H b := fun u e => by
  rw [h] at e
  cases e
  rfl
theorem NoTup.dK {xs : List (Key × V)} (h : H b = some (.dK xs)) : NoTup H b := fun u e => by
  rw [h] at e
  cases e
  rfl
theorem NoTup.ins {C dx : Addr} {xs : List (Str × V)} (h : H b = some (.ins C dx xs)) : NoTup H b := fun u e => by
  rw [h] at e
  cases e
  rfl
theorem NoTup.none (h : H b = .none) : NoTup H b := fun u e => by
  rw [h] at e
  cases e
theorem RowAt.sq (h : RowAt K H a us) : SqT K H a (us.map wV) := by
  cases h with
  | tup h => exact st_of h
  | fx h _ => exact .inl (.inr ⟨_, h⟩)
  | kst h _ => exact h H
theorem RowAt.ty (h : RowAt K H a us) : TyX K H (.ref a) (.type "tuple") := by
  cases h with
  | tup h => exact .base (.tup h)
  | fx h _ => exact .fTuple h
  | kst _ y => exact y H
theorem RowAt.ex (h : RowAt K H a us) (e : Ex H H') : RowAt K H' a us := by
  cases h with
  | tup h => exact .tup (e _ _ h)
  | fx h b => exact .fx (e _ _ h) b
  | kst h y => exact .kst h y
/-- a place where no tuple stands may change -/
theorem RowAt.exB (h : RowAt K H a us) (e : ExB b H H') (n : NoTup H b) : RowAt K H' a us := by
  cases h with
  | tup h => exact .tup (e _ _ (fun q => Bool.noConfusion (n _ (q ▸ h))) h)
  | fx h c => exact .fx (e _ _ (fun q => Bool.noConfusion (n _ (q ▸ h))) h) c
  | kst h y => exact .kst h y
/-- a row: a tuple without a dict -/
inductive RowX (K : PySem.W.Frag) (H : Hp) (a : Addr) (us : Rw) : Prop where
  | fx {o : Obj} (h : H a = some (.frz o (.tup (us.map wV)))) (b : Bare o)
  | kst (h : ∀ H, SqT K H a (us.map wV)) (y : ∀ H, TyX K H (.ref a) (.type "tuple")) (t : ∃ o, K.lookup a = some o ∧ Bare o)
theorem RowX.at_ (h : RowX K H a us) : RowAt K H a us := by
  cases h with
  | fx h b => exact .fx h b
  | kst h y t => exact .kst h y
theorem RowX.tp (h : RowX K H a us) : Tpl K H a := by
  cases h with
  | fx h b => exact .inl ⟨_, _, h, b⟩
  | kst h y t => exact .inr t
theorem RowX.sq (h : RowX K H a us) : SqT K H a (us.map wV) := h.at_.sq
theorem RowX.ex (h : RowX K H a us) (e : Ex H H') : RowX K H' a us := by
  cases h with
  | fx h b => exact .fx (e _ _ h) b
  | kst h y t => exact .kst h y t
theorem RowX.exB (h : RowX K H a us) (e : ExB b H H') (n : NoTup H b) : RowX K H' a us := by
  cases h with
  | fx h c => exact .fx (e _ _ (fun q => Bool.noConfusion (n _ (q ▸ h))) h) c
  | kst h y t => exact .kst h y t
def dW (w : Wd) : PyData := .str w.s
def dRow (us : Rw) : PyData := .tuple (us.map dW)
theorem dp_ws (H : Hp) : ∀ us : Rw, DpAll K H (us.map wV) (us.map dW)
  | [] => .nil
  | u :: us => .cons (.str _) (dp_ws H us)
theorem RowAt.dp (h : RowAt K H a us) : Dp K H (.ref a) (dRow us) := .tup h.sq (dp_ws H us)
theorem RowX.dp (h : RowX K H a us) : Dp K H (.ref a) (dRow us) := h.at_.dp
theorem eqv_ws : ∀ us ws : Rw, PyData.eqvAll (us.map dW) (ws.map dW) = decide (us = ws)
  | [], [] => rfl
  | [], _ :: _ => rfl
  | _ :: _, [] => rfl
  | u :: us, w :: ws => by
    have ih := eqv_ws us ws
    show (PyData.eqv (dW u) (dW w) && PyData.eqvAll (us.map dW) (ws.map dW)) = decide (u :: us = w :: ws)
    rw [ih]
    have e1 : PyData.eqv (dW u) (dW w) = decide (u = w) := by
      show (u.s == w.s) = decide (u = w)
      by_cases e : u = w
      · rw [e, decide_eq_true rfl, beq_self_eq_true]
      · rw [decide_eq_false e]
        exact beq_eq_false_iff_ne.mpr fun q => e (Wd.inj q)
    rw [e1]
    by_cases e : u = w <;> by_cases e' : us = ws <;> simp [e, e']
theorem eqv_row (us ws : Rw) : PyData.eqv (dRow us) (dRow ws) = decide (us = ws) := by
  show PyData.eqvAll (us.map dW) (ws.map dW) = decide (us = ws)
  exact eqv_ws us ws
theorem shaped_of {d : PyData} (h1 : d.canLay0 = true) (h2 : d.depth ≤ 64) : SeqAt.shaped d = true := by
  show (d.canLay0 && decide (d.depth ≤ 64)) = true
  rw [h1, decide_eq_true h2]
  rfl
theorem w_ok (w : Wd) : PyData.strOk w.s = true := by cases w <;> decide +kernel
theorem lay_ws : ∀ us : Rw, PyData.canLayAll0 (us.map dW) = true
  | [] => rfl
  | u :: us => by
    show ((PyData.str u.s).canLay0 && PyData.canLayAll0 (us.map dW)) = true
    rw [lay_ws us]
    simp only [PyData.canLay0, w_ok, Bool.and_self]
theorem depth_ws : ∀ us : Rw, PyData.depthAll (us.map dW) ≤ 0
  | [] => Nat.le_refl _
  | u :: us => by
    show max (dW u).depth (PyData.depthAll (us.map dW)) ≤ 0
    exact Nat.max_le.mpr ⟨Nat.le_refl _, depth_ws us⟩
theorem row_lay (us : Rw) : (dRow us).canLay0 = true := lay_ws us
theorem row_depth (us : Rw) : (dRow us).depth ≤ 1 := by
  have := depth_ws us
  show (PyData.tuple (us.map dW)).depth ≤ 1
  simp only [PyData.depth]
  omega
theorem row_shaped (us : Rw) : SeqAt.shaped (dRow us) = true := shaped_of (row_lay us) (Nat.le_trans (row_depth us) (by decide))
theorem rows_lay : ∀ rs : List Rw, PyData.canLayAll0 (rs.map dRow) = true
  | [] => rfl
  | u :: us => by
    show ((dRow u).canLay0 && PyData.canLayAll0 (us.map dRow)) = true
    rw [rows_lay us, row_lay]
    rfl
theorem rows_depth : ∀ rs : List Rw, PyData.depthAll (rs.map dRow) ≤ 1
  | [] => Nat.zero_le _
  | u :: us => by
    show max (dRow u).depth (PyData.depthAll (us.map dRow)) ≤ 1
    exact Nat.max_le.mpr ⟨row_depth u, rows_depth us⟩
theorem rowsL_shaped (rs : List Rw) : SeqAt.shaped (.list (rs.map dRow)) = true := shaped_of (rows_lay rs) (by
  have := rows_depth rs
  simp only [PyData.depth]
  omega)
theorem rowsT_shaped (rs : List Rw) : SeqAt.shaped (.tuple (rs.map dRow)) = true := shaped_of (rows_lay rs) (by
  have := rows_depth rs
  simp only [PyData.depth]
  omega)
theorem any_row (us : Rw) (rs : List Rw) : ((rs.map dRow).any fun z => PyData.eqv z (dRow us)) = decide (us ∈ rs) := by
  rw [List.any_map]
  induction rs with
  | nil => rfl
  | cons r rs ih =>
    rw [List.any_cons, ih]
    show (PyData.eqv (dRow r) (dRow us) || decide (us ∈ rs)) = decide (us ∈ r :: rs)
    rw [eqv_row]
    by_cases e : r = us
    · subst e
      simp
    · have e' : ¬ us = r := fun q => e q.symm
      simp [e, e']
end
/-! lists of rows -/
inductive RowsAt (K : PySem.W.Frag) (H : Hp) : List V → List Rw → Prop where
  | nil : RowsAt K H [] []
  | cons {a : Addr} {us : Rw} {vs : List V} {rs : List Rw} (h : RowX K H a us) (t : RowsAt K H vs rs) : RowsAt K H (.ref a :: vs) (us :: rs)
section
variable {K : PySem.W.Frag} {H H' : Hp} {vs ws : List V} {rs qs : List Rw}
theorem RowsAt.ex (h : RowsAt K H vs rs) (e : Ex H H') : RowsAt K H' vs rs := by
  induction h with
  | nil => exact .nil
  | cons h _ ih => exact .cons (h.ex e) ih
theorem RowsAt.len (h : RowsAt K H vs rs) : vs.length = rs.length := by
  induction h with
  | nil => rfl
  | cons _ _ ih => rw [List.length_cons, List.length_cons, ih]
theorem RowsAt.app (h : RowsAt K H vs rs) (h2 : RowsAt K H ws qs) : RowsAt K H (vs ++ ws) (rs ++ qs) := by
  induction h with
  | nil => exact h2
  | cons h _ ih => exact .cons h ih
theorem RowsAt.at (h : RowsAt K H vs rs) {i : Nat} {v : V} (hv : vs[i]? = some v) : ∃ a us, v = .ref a ∧ rs[i]? = some us ∧ RowX K H a us := by
  induction h generalizing i with
  | nil => simp at hv
  | @cons a us vs rs h _ ih =>
    cases i with
    | zero =>
      rw [List.getElem?_cons_zero] at hv
      exact ⟨a, us, (Option.some.inj hv).symm, rfl, h⟩
    | succ i =>
      rw [List.getElem?_cons_succ] at hv
      obtain ⟨b, ws, e, e2, hb⟩ := ih hv
      exact ⟨b, ws, e, by rw [List.getElem?_cons_succ]; exact e2, hb⟩
theorem RowsAt.mem (h : RowsAt K H vs rs) {v : V} (hv : v ∈ vs) : ∃ a us, v = .ref a ∧ us ∈ rs ∧ RowX K H a us := by
  obtain ⟨i, hi⟩ := List.getElem?_of_mem hv
  obtain ⟨a, us, e, e2, h2⟩ := h.at hi
  exact ⟨a, us, e, List.mem_of_getElem? e2, h2⟩
theorem RowsAt.dp (h : RowsAt K H vs rs) : DpAll K H vs (rs.map dRow) := by
  induction h with
  | nil => exact .nil
  | cons h _ ih => exact .cons h.dp ih
end
/-! parts -/
def Pv.At (K : PySem.W.Frag) (H : Hp) : Pv → V → Prop
  | .row us, v => ∃ a, v = .ref a ∧ RowX K H a us
  | .hold us, v => ∃ a, v = .ref a ∧ RowAt K H a us
  | .wd w, v => v = wV w
  | .bl b, v => v = .bl b
  | .int n, v => v = nV n
def Pv.d : Pv → PyData
  | .row us => dRow us
  | .hold us => dRow us
  | .wd w => dW w
  | .bl b => .bool b
  | .int n => .int n
section
variable {K : PySem.W.Frag} {H H' : Hp} {p q : Pv} {v : V} {b : Addr}
theorem Pv.At.ex (h : p.At K H v) (e : Ex H H') : p.At K H' v := by
  cases p with
  | row us =>
    obtain ⟨a, rfl, h⟩ := h
    exact ⟨a, rfl, h.ex e⟩
  | hold us =>
    obtain ⟨a, rfl, h⟩ := h
    exact ⟨a, rfl, h.ex e⟩
  | _ => exact h
theorem Pv.At.exB (h : p.At K H v) (e : ExB b H H') (n : NoTup H b) : p.At K H' v := by
  cases p with
  | row us =>
    obtain ⟨a, rfl, h⟩ := h
    exact ⟨a, rfl, h.exB e n⟩
  | hold us =>
    obtain ⟨a, rfl, h⟩ := h
    exact ⟨a, rfl, h.exB e n⟩
  | _ => exact h
theorem Pv.At.dp (h : p.At K H v) : Dp K H v p.d := by
  cases p with
  | row us =>
    obtain ⟨a, rfl, h⟩ := h
    exact h.dp
  | hold us =>
    obtain ⟨a, rfl, h⟩ := h
    exact h.dp
  | wd w =>
    cases h
    exact .str _
  | bl b =>
    cases h
    exact .bl b
  | int n =>
    cases h
    exact .int _
theorem Pv.shaped (p : Pv) : SeqAt.shaped p.d = true := by
  cases p with
  | row us => exact row_shaped us
  | hold us => exact row_shaped us
  | wd w => exact shaped_of (d := .str w.s) (by simp only [PyData.canLay0, w_ok]) (by simp only [PyData.depth]; omega)
  | bl b => exact shaped_of (d := .bool b) (by simp only [PyData.canLay0]) (by simp only [PyData.depth]; omega)
  | int n => exact shaped_of (d := .int n) (by simp only [PyData.canLay0]) (by simp only [PyData.depth]; omega)
end
/-- two parts of one kind -/
theorem eqv_get (r l : Ru) (p : Pt) : PyData.eqv (r.get p).d (l.get p).d = decide (r.get p = l.get p) := by
  have hw : ∀ u w : Wd, PyData.eqv (dW u) (dW w) = decide (Pv.wd u = Pv.wd w) := fun u w => by
    have z := eqv_ws [u] [w]
    have z2 : PyData.eqvAll ([u].map dW) ([w].map dW) = PyData.eqv (dW u) (dW w) := by
      show (PyData.eqv (dW u) (dW w) && true) = _
      rw [Bool.and_true]
    rw [← z2, z]
    exact decide_eq_decide.mpr ⟨fun e => by cases e; rfl, fun e => by cases e; rfl⟩
  have hr : ∀ u w : Rw, PyData.eqv (dRow u) (dRow w) = decide (Pv.row u = Pv.row w) := fun u w => by
    rw [eqv_row]
    exact decide_eq_decide.mpr ⟨fun e => e ▸ rfl, fun e => Pv.row.inj e⟩
  have hh : ∀ u w : Rw, PyData.eqv (dRow u) (dRow w) = decide (Pv.hold u = Pv.hold w) := fun u w => by
    rw [eqv_row]
    exact decide_eq_decide.mpr ⟨fun e => e ▸ rfl, fun e => Pv.hold.inj e⟩
  have hb : ∀ a b : Bool, PyData.eqv (.bool a) (.bool b) = decide (Pv.bl a = Pv.bl b) := fun a b => by cases a <;> cases b <;> rfl
  have hn : ∀ a b : Nat, PyData.eqv (.int a) (.int b) = decide (Pv.int a = Pv.int b) := fun a b => by
    show ((a : Int) == (b : Int)) = _
    by_cases e : a = b
    · subst e
      rw [beq_self_eq_true, decide_eq_true rfl]
    · rw [beq_eq_false_iff_ne.mpr (by omega), decide_eq_false fun q => e (Pv.int.inj q)]
  cases p <;> first | exact hr _ _ | exact hh _ _ | exact hw _ _ | exact hb _ _ | exact hn _ _
/-! dicts of rules -/
abbrev kvs (ks : List Pt) (f : Pt → V) : List (Key × V) := ks.map fun p => (.inr p.s, f p)
theorem pkey {p q : Pt} : ((Sum.inr p.s : Key) = Sum.inr q.s) ↔ p = q := ⟨fun e => Pt.inj (Sum.inr.inj e), fun e => e ▸ rfl⟩
theorem val_at {f : Pt → V} {p : Pt} : ∀ {ks : List Pt}, p ∈ ks → valV (kvs ks f) (.inr p.s) = some (f p)
  | q :: ks, h => by
    by_cases e : q = p
    · subst e
      exact valV_pos rfl
    · have hp : p ∈ ks := (List.mem_cons.mp h).resolve_left fun z => e z.symm
      have ih := val_at (f := f) hp
      unfold valV at ih ⊢
      rw [show kvs (q :: ks) f = (.inr q.s, f q) :: kvs ks f from rfl, List.find?_cons, decide_eq_false (fun z => e (pkey.mp z))]
      exact ih
def put (f : Pt → V) (p : Pt) (v : V) : Pt → V := fun q => if q = p then v else f q
theorem any_kvs (ks : List Pt) (f : Pt → V) (p : Pt) : ((kvs ks f).any fun kv => decide (kv.1 = Sum.inr p.s)) = decide (p ∈ ks) := by
  rw [List.any_map]
  induction ks with
  | nil => rfl
  | cons q ks ih =>
    rw [List.any_cons, ih]
    show (decide ((Sum.inr q.s : Key) = Sum.inr p.s) || decide (p ∈ ks)) = _
    by_cases e : q = p
    · subst e
      simp
    · have e' : ¬ p = q := fun z => e z.symm
      rw [decide_eq_false (fun z => e (pkey.mp z))]
      simp [e']
theorem put_old {ks : List Pt} {f : Pt → V} {p : Pt} {v : V} (h : p ∈ ks) : putK (kvs ks f) (.inr p.s) v = kvs ks (put f p v) := by
  unfold putK
  rw [any_kvs, decide_eq_true h, if_pos rfl, List.map_map]
  refine List.map_congr_left fun q _ => ?_
  show (if (Sum.inr q.s : Key) = Sum.inr p.s then (Sum.inr q.s, v) else (Sum.inr q.s, f q)) = (Sum.inr q.s, put f p v q)
  unfold put
  by_cases e : q = p
  · rw [if_pos (pkey.mpr e), if_pos e]
  · rw [if_neg (fun z => e (pkey.mp z)), if_neg e]
theorem put_new {ks : List Pt} {f : Pt → V} {p : Pt} {v : V} (h : p ∉ ks) : putK (kvs ks f) (.inr p.s) v = kvs (ks ++ [p]) (put f p v) := by
  unfold putK
  rw [any_kvs, decide_eq_false h, if_neg (by decide)]
  unfold kvs
  rw [List.map_append]
  congr 1
  · refine List.map_congr_left fun q hq => ?_
    unfold put
    rw [if_neg (fun e : q = p => h (e ▸ hq))]
  · show [(Sum.inr p.s, v)] = [(Sum.inr p.s, put f p v p)]
    unfold put
    rw [if_pos rfl]
/-- at d a dict with these keys, whose values are r's parts -/
def DictAt (K : PySem.W.Frag) (H : Hp) (d : Addr) (ks : List Pt) (r : Ru) : Prop := ∃ f : Pt → V, H d = some (.dK (kvs ks f)) ∧ ∀ p ∈ ks, (r.get p).At K H (f p)
section
variable {K : PySem.W.Frag} {H H' : Hp} {d b : Addr} {ks : List Pt} {r : Ru}
theorem DictAt.ex (h : DictAt K H d ks r) (e : Ex H H') : DictAt K H' d ks r := by
  obtain ⟨f, h1, h2⟩ := h
  exact ⟨f, e _ _ h1, fun p hp => (h2 p hp).ex e⟩
theorem DictAt.exB (h : DictAt K H d ks r) (e : ExB b H H') (nd : d ≠ b) (n : NoTup H b) : DictAt K H' d ks r := by
  obtain ⟨f, h1, h2⟩ := h
  exact ⟨f, e _ _ nd h1, fun p hp => (h2 p hp).exB e n⟩
end
end My
namespace My
open PySem PySem.Spec PyProof.Rows L2 GL Evl StX SkE
def fd : V → PyData
  | .int i => .int i
  | .str x => .str x
  | .bl b => .bool b
  | _ => .none
theorem fd_dp {K : PySem.W.Frag} {H : Hp} : ∀ {x : V}, flatV x = true → Dp K H x (fd x)
  | .non, _ => .non
  | .bl b, _ => .bl b
  | .int i, _ => .int i
  | .str x, _ => .str x
  | .byt _, h => by cases h
  | .flt _, h => by cases h
  | .ref _, h => by cases h
  | .ty _, h => by cases h
theorem fd_all {K : PySem.W.Frag} {H : Hp} : ∀ {xs : List V}, xs.all flatV = true → DpAll K H xs (xs.map fd)
  | [], _ => .nil
  | x :: xs, h => by
    rw [List.all_cons, Bool.and_eq_true] at h
    exact .cons (fd_dp h.1) (fd_all h.2)
def Shrt (x : V) : Prop := flatV x = true ∧ (fd x).showable = true ∧ (fd x).hasDict = false ∧ (fd x).depth ≤ 0 ∧ (fd x).shown.length ≤ 40
theorem shrt_nat {n : Nat} (h : n ≤ 100000) : Shrt (nV n) := by
  refine ⟨rfl, ?_, ?_, ?_, ?_⟩
  · show (PyData.int (n : Int)).showable = true
    simp only [PyData.showable]
    refine decide_eq_true ?_
    rw [Int.natAbs_natCast]
    by_cases e : n = 0
    · subst e
      decide
    · exact (Nat.log2_lt e).mpr (Nat.lt_of_le_of_lt h (by
        have : 2 ^ 17 ≤ 2 ^ 1920 := Nat.pow_le_pow_right (by decide) (by decide)
        omega))
  · show (PyData.int (n : Int)).hasDict = false
    simp only [PyData.hasDict]
  · show (PyData.int (n : Int)).depth ≤ 0
    simp only [PyData.depth]
    omega
  · have := PyData.shown_int_le2 (i := (n : Int)) (by omega) (by omega)
    show (PyData.int (n : Int)).shown.length ≤ 40
    omega
theorem shrt_bl (b : Bool) : Shrt (.bl b) := by
  refine ⟨rfl, ?_, ?_, ?_, ?_⟩
  · show (PyData.bool b).showable = true
    simp only [PyData.showable]
  · show (PyData.bool b).hasDict = false
    simp only [PyData.hasDict]
  · show (PyData.bool b).depth ≤ 0
    simp only [PyData.depth]
    omega
  · show (PyData.bool b).shown.length ≤ 40
    cases b <;> decide +kernel
theorem text_len (B : Nat) : ∀ (ts : List Str) (k : Nat) (acc : Str), (∀ t ∈ ts, t.length ≤ B) → (textFrom k acc ts).length ≤ acc.length + ts.length * (B + 2)
  | [], k, acc, _ => by
    show acc.length ≤ acc.length + 0 * (B + 2)
    omega
  | t :: r, k, acc, h => by
    have ih := text_len B r (k + 1) (acc ++ (if k > 0 then ", " else "" : String) ++ t) fun y hy => h y (List.mem_cons_of_mem _ hy)
    have ht := h t List.mem_cons_self
    have e2 : (Str.ofString (if k > 0 then ", " else "")).length ≤ 2 := by
      split <;> decide
    rw [Str.length_append, Str.length_append] at ih
    show (textFrom (k + 1) (acc ++ (if k > 0 then ", " else "" : String) ++ t) r).length ≤ acc.length + (r.length + 1) * (B + 2)
    rw [Nat.add_mul, Nat.one_mul]
    omega
theorem list_text_len {B : Nat} {ts : List Str} (h : ∀ t ∈ ts, t.length ≤ B) : (listText ts).length ≤ ts.length * (B + 2) + 2 := by
  have q := text_len B ts 0 "[" h
  have e1 : (Str.ofString "[").length = 1 := by decide
  have e2 : (Str.ofString "]").length = 1 := by decide
  unfold listText
  rw [Str.length_append, e2]
  omega
theorem shownAll_mem : ∀ {ds : List PyData} {t : Str}, t ∈ PyData.shownAll ds → ∃ d ∈ ds, t = d.shown
  | [], t, h => by
    simp only [PyData.shownAll] at h
    cases h
  | d :: ds, t, h => by
    simp only [PyData.shownAll] at h
    rcases List.mem_cons.mp h with z | z
    · exact ⟨d, List.mem_cons_self, z⟩
    · obtain ⟨e, he, q⟩ := shownAll_mem z
      exact ⟨e, List.mem_cons_of_mem _ he, q⟩
theorem shownAll_len : ∀ ds : List PyData, (PyData.shownAll ds).length = ds.length
  | [] => by simp only [PyData.shownAll, List.length_nil]
  | d :: ds => by
    simp only [PyData.shownAll, List.length_cons]
    rw [shownAll_len ds]
theorem showableAll_of : ∀ {ds : List PyData}, (∀ d ∈ ds, d.showable = true) → PyData.showableAll ds = true
  | [], _ => by simp only [PyData.showableAll]
  | d :: ds, h => by
    simp only [PyData.showableAll, Bool.and_eq_true]
    exact ⟨h d List.mem_cons_self, showableAll_of fun e he => h e (List.mem_cons_of_mem _ he)⟩
theorem hasDictAll_of : ∀ {ds : List PyData}, (∀ d ∈ ds, d.hasDict = false) → PyData.hasDictAll ds = false
  | [], _ => by simp only [PyData.hasDictAll]
  | d :: ds, h => by
    simp only [PyData.hasDictAll, Bool.or_eq_false_iff]
    exact ⟨h d List.mem_cons_self, hasDictAll_of fun e he => h e (List.mem_cons_of_mem _ he)⟩
theorem depthAll_of : ∀ {ds : List PyData} {k : Nat}, (∀ d ∈ ds, d.depth ≤ k) → PyData.depthAll ds ≤ k
  | [], _, _ => by
    simp only [PyData.depthAll]
    omega
  | d :: ds, k, h => by
    simp only [PyData.depthAll]
    have h1 := h d List.mem_cons_self
    have h2 := depthAll_of (ds := ds) (k := k) fun e he => h e (List.mem_cons_of_mem _ he)
    omega
def shw (xs : List V) : Str := (PyData.list (xs.map fd)).shown
section
variable {K : PySem.W.Frag} {σ : L2.St} {H : Hp} {te : TE} {xs : List V}
theorem rc_repr {p : Addr} (h : SqL K H p xs) (hx : ∀ x ∈ xs, Shrt x) (hl : xs.length ≤ 1000) : RC (rRepr K) [.ref p] H (.str (shw xs)) := fun H1 e Q q => by
  have hm : ∀ d ∈ xs.map fd, ∃ x ∈ xs, d = fd x := fun d hd => by
    obtain ⟨x, h1, h2⟩ := List.mem_map.mp hd
    exact ⟨x, h1, h2.symm⟩
  refine ⟨.ref p, .list (xs.map fd), rfl, .lst (ex_l e h) (fd_all (List.all_eq_true.mpr fun x hx' => (hx x hx').1)), rfl, ?_, ?_, ?_, ?_, q H1 (Ex.refl H1)⟩
  · simp only [PyData.showable]
    exact showableAll_of fun d hd => by
      obtain ⟨x, h1, rfl⟩ := hm d hd
      exact (hx x h1).2.1
  · simp only [PyData.hasDict]
    exact hasDictAll_of fun d hd => by
      obtain ⟨x, h1, rfl⟩ := hm d hd
      exact (hx x h1).2.2.1
  · simp only [PyData.depth]
    have := depthAll_of (ds := xs.map fd) (k := 0) fun d hd => by
      obtain ⟨x, h1, rfl⟩ := hm d hd
      exact (hx x h1).2.2.2.1
    omega
  · simp only [PyData.shown]
    have := list_text_len (B := 40) (ts := PyData.shownAll (xs.map fd)) fun t ht => by
      obtain ⟨d, hd, rfl⟩ := shownAll_mem ht
      obtain ⟨x, h1, rfl⟩ := hm d hd
      exact (hx x h1).2.2.2.2
    rw [shownAll_len, List.length_map] at this
    exact sz_of (by omega)
theorem ev_repr (h : EvL te σ H xs) (hx : ∀ x ∈ xs, Shrt x) (hl : xs.length ≤ 1000) : Ev (tCB (rRepr K) (tCons te tNil)) σ H (.str (shw xs)) := fun H1 e Q q =>
  h H1 e _ fun p H2 hp e2 h2 => rc_repr (sq_of h2) hx hl H2 (Ex.refl H2) Q fun H3 e3 => q H3 (e2.trans e3)
theorem ev_reprV {p : Addr} (h : Ev te σ H (.ref p)) (hs : SqL K H p xs) (hx : ∀ x ∈ xs, Shrt x) (hl : xs.length ≤ 1000) : Ev (tCB (rRepr K) (tCons te tNil)) σ H (.str (shw xs)) := ev_cb (ea_cons h ea_nil) (rc_repr hs hx hl)
theorem et_same {ta tb : TE} {s : Str} (ha : Ev ta σ H (.str s)) (hb : Ev tb σ H (.str s)) : EvT (tTest (tOp rNe ta tb)) σ H false := et_test (ev_is (ev_op ha hb (rv_ne rfl)) (by rw [decide_eq_true rfl]; rfl))
end
structure Sm (d : PyData) (k B : Nat) : Prop where
  sh : d.showable = true
  nd : d.hasDict = false
  de : d.depth ≤ k
  ln : d.shown.length ≤ B
theorem Shrt.sm {x : V} (h : Shrt x) : Sm (fd x) 0 40 := ⟨h.2.1, h.2.2.1, h.2.2.2.1, h.2.2.2.2⟩
theorem Sm.mono {d : PyData} {k B k' B' : Nat} (h : Sm d k B) (hk : k ≤ k') (hB : B ≤ B') : Sm d k' B' := ⟨h.sh, h.nd, Nat.le_trans h.de hk, Nat.le_trans h.ln hB⟩
theorem sm_list {ds : List PyData} {k B : Nat} (h : ∀ d ∈ ds, Sm d k B) : Sm (.list ds) (k + 1) (ds.length * (B + 2) + 2) := by
  refine ⟨?_, ?_, ?_, ?_⟩
  · simp only [PyData.showable]
    exact showableAll_of fun d hd => (h d hd).sh
  · simp only [PyData.hasDict]
    exact hasDictAll_of fun d hd => (h d hd).nd
  · simp only [PyData.depth]
    have := depthAll_of (ds := ds) (k := k) fun d hd => (h d hd).de
    omega
  · simp only [PyData.shown]
    have := list_text_len (B := B) (ts := PyData.shownAll ds) fun t ht => by
      obtain ⟨d, hd, rfl⟩ := shownAll_mem ht
      exact (h d hd).ln
    rw [shownAll_len] at this
    exact this
theorem sm_flat {xs : List V} {n : Nat} (hx : ∀ x ∈ xs, Shrt x) (hl : xs.length ≤ n) : Sm (.list (xs.map fd)) 1 (n * 42 + 2) := by
  have q := sm_list (ds := xs.map fd) (k := 0) (B := 40) fun d hd => by
    obtain ⟨x, h1, rfl⟩ := List.mem_map.mp hd
    exact (hx x h1).sm
  rw [List.length_map] at q
  exact q.mono (Nat.le_refl _) (by omega)
theorem shrt_flat {xs : List V} (hx : ∀ x ∈ xs, Shrt x) : xs.all flatV = true := List.all_eq_true.mpr fun x h => (hx x h).1
/-! texts of tuples, of parts -/
theorem join_len {B : Nat} : ∀ {ts : List Str}, (∀ t ∈ ts, t.length ≤ B) → (Str.join ", " ts).length ≤ ts.length * (B + 2)
  | [], _ => by
    rw [List.length_nil, Nat.zero_mul]
    decide
  | t :: ts, h => by
    have e := join_length_add (t :: ts) (by simp)
    have p : ∀ {us : List Str}, (∀ u ∈ us, u.length ≤ B) → piled us ≤ us.length * (B + 2) := by
      intro us
      induction us with
      | nil => intro _; simp [piled]
      | cons u us ih =>
        intro hu
        have h1 := hu u List.mem_cons_self
        have h2 := ih fun x hx => hu x (List.mem_cons_of_mem _ hx)
        rw [List.length_cons, Nat.add_mul, Nat.one_mul, piled_cons]
        omega
    have := p h
    omega
theorem tuple_text_len {B : Nat} {ts : List Str} (h : ∀ t ∈ ts, t.length ≤ B) : (tupleText ts).length ≤ ts.length * (B + 2) + 3 := by
  have q := join_len h
  unfold tupleText
  rw [Str.length_append, Str.length_append]
  have e1 : (Str.ofString "(").length = 1 := by decide
  have e2 : (Str.ofString (if ts.length == 1 then ",)" else ")" : String)).length ≤ 2 := by split <;> decide
  omega
theorem w_text (w : Wd) : (dW w).shown.length ≤ 8 := by
  show (PyData.str w.s).shown.length ≤ 8
  simp only [PyData.shown]
  cases w <;> decide +kernel
theorem sm_row {us : Rw} {n : Nat} (hl : us.length ≤ n) : Sm (dRow us) 1 (n * 10 + 3) := by
  refine ⟨?_, ?_, row_depth us, ?_⟩
  · show (PyData.tuple (us.map dW)).showable = true
    simp only [PyData.showable]
    refine showableAll_of fun d hd => ?_
    obtain ⟨u, _, rfl⟩ := List.mem_map.mp hd
    show (PyData.str u.s).showable = true
    simp only [PyData.showable]
  · show (PyData.tuple (us.map dW)).hasDict = false
    simp only [PyData.hasDict]
    refine hasDictAll_of fun d hd => ?_
    obtain ⟨u, _, rfl⟩ := List.mem_map.mp hd
    show (PyData.str u.s).hasDict = false
    simp only [PyData.hasDict]
  · show (PyData.tuple (us.map dW)).shown.length ≤ _
    simp only [PyData.shown]
    have := tuple_text_len (B := 8) (ts := PyData.shownAll (us.map dW)) fun t ht => by
      obtain ⟨d, hd, rfl⟩ := shownAll_mem ht
      obtain ⟨u, _, rfl⟩ := List.mem_map.mp hd
      exact w_text u
    rw [shownAll_len, List.length_map] at this
    have z : us.length * 10 ≤ n * 10 := Nat.mul_le_mul_right _ hl
    omega
end My
/-! ### tuple(list), told with its object -/
namespace GL
open PySem PySem.Spec PyProof.Rows L2
section
variable {X : Cx}
def rTupX (K : PySem.W.Frag) : List V → Hp → VK → Prop := fun xs H Q => ∃ p ys, xs = [.ref p] ∧ SqL K H p ys ∧ ∀ l o, H l = none → Bare o → Q (.ref l) (upd H l (.frz o (.tup ys)))
theorem call_tupleX : CallR X (.type "tuple") (rTupX X.K) := by
  intro pins s σ H xs us Q I r h
  obtain ⟨p, ys, rfl, hq, q⟩ := h
  obtain ⟨u, rfl, rx⟩ := vals1 r
  cases rx
  obtain ⟨its, r', pl, hz⟩ := I.list hq
  have hlen := r'.length
  refine call_tuple_list pl.isList (fun h' kp => ?_) (by simp only [List.size_toArray] <;> omega)
  have I1 : Inv X pins σ H { s with heap := h' } := I.kept (t' := s.toks) kp
  exact ⟨.ref h'.objs.size, _, bare_laid I1 r' hz, rfl, q _ _ (I1.hok.fresh (Nat.le_refl _)) ⟨rfl, rfl⟩⟩
end
end GL
namespace My
open PySem PySem.Spec PyProof.Rows L2 GL Evl StX SkE
/-! ### the laws' menus of rows -/
def menuTxt : Pt → Str
  | .take => "try live,look add live,add look live,add live,live add,look live add"
  | .give => "home off end,home end off,end home off,home end,end home,end"
  | .move => (((Str.ofString "home try set off,home look add set off,home off add set,home set add off,") ++ Str.ofString "home add look set off,home set,home try off set,home look set off add,") ++ Str.ofString "home add set,home look set,home set add,try home set off,set home off,") ++ Str.ofString "add home off set,set,look set,set add,try set home"
  | .lift => "both,set off,off set,set,off,"
  | _ => ""
def menuRows : Pt → List Rw
  | .take => [[.tri, .live], [.look, .add, .live], [.add, .look, .live], [.add, .live], [.live, .add], [.look, .live, .add]]
  | .give => [[.home, .off, .fin], [.home, .fin, .off], [.fin, .home, .off], [.home, .fin], [.fin, .home], [.fin]]
  | .move => [[.home, .tri, .set, .off], [.home, .look, .add, .set, .off], [.home, .off, .add, .set], [.home, .set, .add, .off], [.home, .add, .look, .set, .off], [.home, .set], [.home, .tri, .off, .set], [.home, .look, .set, .off, .add], [.home, .add, .set], [.home, .look, .set], [.home, .set, .add], [.tri, .home, .set, .off], [.set, .home, .off], [.add, .home, .off, .set], [.set], [.look, .set], [.set, .add], [.tri, .set, .home]]
  | .lift => [[.both], [.set, .off], [.off, .set], [.set], [.off], []]
  | _ => []
def rowPs : List Pt := [.take, .give, .move, .lift]
def cutRow (s : Str) : List Str := if s = Str.ofString "" then [] else Txt.split s (Str.ofString " ")
def menuStrs (p : Pt) : List Str := Txt.split (menuTxt p) (Str.ofString ",")
theorem menu_fact {p : Pt} (hp : p ∈ rowPs) : (menuStrs p).map cutRow = (menuRows p).map (fun us => us.map Wd.s) := by
  have go : (rowPs.all fun p => decide ((menuStrs p).map cutRow = (menuRows p).map (fun us => us.map Wd.s))) = true := by decide +kernel
  exact of_decide_eq_true (List.all_eq_true.mp go p hp)
theorem menu_len {p : Pt} (hp : p ∈ rowPs) : (menuTxt p).length ≤ 1000 ∧ (menuStrs p).length ≤ 20 ∧ ∀ s ∈ menuStrs p, s.length ≤ 100 := by
  have go : (rowPs.all fun p => decide ((menuTxt p).length ≤ 1000) && decide ((menuStrs p).length ≤ 20) && (menuStrs p).all fun s => decide (s.length ≤ 100)) = true := by decide +kernel
  have h := List.all_eq_true.mp go p hp
  simp only [Bool.and_eq_true] at h
  exact ⟨of_decide_eq_true h.1.1, of_decide_eq_true h.1.2, fun s hs => of_decide_eq_true (List.all_eq_true.mp h.2 s hs)⟩
theorem menu_row {p : Pt} (hp : p ∈ rowPs) {i : Nat} {s : Str} (hs : (menuStrs p)[i]? = some s) : ∃ us, (menuRows p)[i]? = some us ∧ cutRow s = us.map Wd.s := by
  have h := congrArg (fun l => l[i]?) (menu_fact hp)
  rw [List.getElem?_map, List.getElem?_map, hs] at h
  obtain ⟨us, h1, h2⟩ := Option.map_eq_some_iff.mp h.symm
  exact ⟨us, h1, h2.symm⟩
def goodRow (p : Pt) (us : Rw) : Bool := decide us.Nodup && decide (us.length ≤ 6) && (match p with | .take => pTake us && pBatch us 1 | .give => pGive us | .move => pMove us && pShared us true | .lift => pLift us | _ => false)
theorem menu_good {p : Pt} (hp : p ∈ rowPs) {us : Rw} (h : us ∈ menuRows p) : goodRow p us = true := by
  have go : (rowPs.all fun p => (menuRows p).all fun us => goodRow p us) = true := by decide +kernel
  exact List.all_eq_true.mp (List.all_eq_true.mp go p hp) us h
theorem menu_live {us : Rw} (h : us ∈ (menuRows .take).take 4) (n : Nat) : pBatch us n = true := by
  have go : (((menuRows .take).take 4).all fun us => decide (us.getLast? = some .live)) = true := by decide +kernel
  have h := of_decide_eq_true (List.all_eq_true.mp go us h)
  unfold pBatch
  rw [h]
  simp
theorem menu_home {us : Rw} (h : us ∈ (menuRows .move).take 11) (b : Bool) : pShared us b = true := by
  have go : (((menuRows .move).take 11).all fun us => pShared us false && pShared us true) = true := by decide +kernel
  have h := List.all_eq_true.mp go us h
  rw [Bool.and_eq_true] at h
  cases b
  · exact h.1
  · exact h.2
end My
/-! ### f(k = v, ..), by names alone -/
namespace GL
open PySem PySem.Spec PyProof.Rows L2
section
variable {X : Cx} {CX : CXT} {k : Nat} {f : Addr} {fd : FuncData} {ps ks : List Str} {sp : Sp} {E : XK} {x : Str} {p pos : Pos} {kws : List Keyword} {tk : TA} {g : List Value → List Value → List Value} {gV : List V → List V → List V} {pins : List (Addr × Obj)} {σ : L2.St} {H : Hp} {s : Shared} {Q : VK} {ws : List Value} {zs : List V}
theorem ranKn (G : Fre X.A) (F : FnG X.prog X.w X.K X.mg X.base CX k f fd ps sp) (hr : Room k X.A) (hb : KBn X.K fd ps 0 ks g gV) (hx : Passes CX X E) (I : Inv X pins σ H s) (rz : Vals zs ws) (l2 : zs.length = ks.length) (h : sp (gV [] zs) H Q E) :
    wpAny (model X.prog X.w) X.A (call (.ref f) [] (ks.zip ws)) (EP X pins σ Q) X.xe s :=
  ran (landed hx I (F.goes G hr I.env0 (hb.to s [] ws I.kIn rfl (rz.length.symm.trans l2)) (hb.rel .nil rz) h))
def tCallK (m : Nat) (sp : Sp) (gV : List V → List V → List V) (E : XK) (tk : TA) : TE := fun σ H Q => tk σ H fun zs H2 => zs.length = m ∧ sp (gV [] zs) H2 Q E
theorem pcK (G : Fre X.A) (F : FnG X.prog X.w X.K X.mg X.base CX k f fd ps sp) (hr : Room k X.A) (hg : Gl X x) (hm : X.mg x = some (.ref f)) (hk : PySem.W.keepIn X.K (.ref f) = true) (hb : KBn X.K fd ps 0 ks g gV) (hx : Passes CX X E)
    (hkw : PK X kws tk) (ndb : (x == ("__debug__" : Str)) = false := by decide) (hall : (backToKw pos (keywordEach kws X.env)).all (·.1.isSome) = true := by rfl) (hks : (backToKw pos (keywordEach kws X.env)).filterMap (·.1) = ks := by rfl)
    (hpl : (backToKw pos (keywordEach kws X.env)).any (·.1.isNone) = false := by rfl) :
    PE X (.Call (.Name x p) [] kws pos) (tCallK ks.length sp gV E tk) where
  run := fun pins s σ H Q I h => wpAny_Call_Name_kw (ld_glob I hg hm
    (PySem.W.callWith_KW0 (first := []) (h₀ := X.base) I.ok.mod.kin hk hall (thn (hkw.run pos pins s σ H _ I h) fun ws s2 ⟨zs, H2, I2, rz, l2, q2⟩ => by
      rw [hks]
      exact ⟨I2.kIn, ranKn G F hr hb hx I2 rz l2 q2⟩) hpl) ndb)
end
end GL
namespace GL
open PySem PySem.Spec PyProof.Rows L2
section
variable {P : Program} {w : World} {K : PySem.W.Frag} {mg mb : Str → Option Value} {k : Nat} {fa a : Addr} {fd : FuncData} {x : Str} {sp : Sp} {s₁ : Shared} {vs : List Value} {ns : List Int}
/-- the law's call, from an abstract heap H that tracks at most the script at a -/
theorem law_core {H : Hp} (KX : K.In s₁.heap) (hns : s₁.heap.Ns mainGlobals mg) (hb : s₁.heap.Ns builtinsNs mb) (hbb : ∀ x : Str, x ≠ "__name__" → mb x = bootBuiltins x) (hlim : s₁.heap.NoLimit) (hg : s₁.gens = #[])
    (ha : s₁.heap.get? a = some { cls := .type "list", data := .seq vs.toArray }) (hr : Room k callerA)
    (F : ∀ base : Heap, K.In base → base.Ns mainGlobals mg → FnG P w K mg base CX0 k fa fd [x] sp) (hbind : ∀ (s : Shared) (u : Value), BindsTo s fd ⟨[u], []⟩ [(x, u)])
    (hO : Only H) (hok : HOk P w H s₁.heap) (hA : ∀ b, H b ≠ none → b = a) (hK : H a ≠ none → K.lookup a = none) (hsp : sp [.ref a] H (fun v _ => v = .bl true) fun _ _ _ => False) :
    codeAny (model P w) callerA (.call (.ref fa) ⟨[.ref a], []⟩) (fun r s' => r = .ok (.ret (.bool true)) ∧ OldK s₁.heap s'.heap ∧ s'.os = s₁.os ∧ AllBare s'.gens) s₁ := by
  have free : ∀ {b : Addr} {o : Obj} {es : Array DictEntry} {ep : Nat}, s₁.heap.get? b = some o → o.data = .dict es ep → H b = none := by
    intro b o es ep e d
    by_cases q : H b = none
    · exact q
    · cases hA b q
      rw [ha] at e
      cases e
      cases (show Data.seq vs.toArray _ = Data.dict es ep from d)
  have hid : ∀ {b : Addr} {m : Str → Option Value}, s₁.heap.Ns b m → (hidT s₁.heap H).Ns b m := fun ⟨o, es, ep, e, d, r⟩ => ⟨o, es, ep, hidT_get e (free e d), d, r⟩
  have inK : K.In (hidT s₁.heap H) := by
    intro b o e
    refine hidT_get (KX b o e) ?_
    by_cases q : H b = none
    · exact q
    · cases hA b q
      rw [hK q] at e
      cases e
  have lim : (hidT s₁.heap H).NoLimit := by
    obtain ⟨mc, h1, h2⟩ := hlim
    exact ⟨mc, hid h1, h2⟩
  have e0 : Env0 P w K mg (hidT s₁.heap H) callerA [] s₁ H := by
    refine ⟨rfl, ⟨inK, hid hns, ⟨mb, hid hb, hbb⟩, lim⟩, fun b o e => of_hidT e, Nat.le_of_eq (hidT_size _ _), trivial, fun b z => ?_, hok, .of_eq hg⟩
    cases (show b ∈ ([] : List Addr) from z)
  have run := (F _ inK (hid hns)).goes (A := callerA) (outer := []) (vs := [.ref a]) (us := [.ref a]) rfl hr e0 (hbind s₁ (.ref a)) (.cons rfl .nil) hsp
  refine codeAny_mono run ?_
  intro r s' z
  match r, z with
  | .error e, z => exact z.elim
  | .ok .next, z => exact z.elim
  | .ok .brk, z => exact z.elim
  | .ok .cont, z => exact z.elim
  | .ok (.ret u), z =>
    obtain ⟨v, H', os, bare, un, hok', r', q⟩ := z
    cases (show v = .bl true from q)
    obtain rfl : u = Value.bool true := r'
    refine ⟨rfl, OldK.of_keep fun b o e => ?_, os, bare⟩
    rcases hO b with q | ⟨ob, xs, q⟩
    · exact un.keep b o e q (List.not_mem_nil) (List.not_mem_nil)
    · obtain ⟨e1, _⟩ := hok b _ q
      obtain ⟨e2, _⟩ := hok' b _ (un.frzs b ob _ q)
      rw [e] at e1
      cases e1
      exact e2
/-- a heap that tracks one object -/
def one (a : Addr) (o : HO) : Hp := fun b => if b = a then some o else none
theorem one_off {a b : Addr} {o : HO} (h : b ≠ a) : one a o b = none := if_neg h
theorem law_at (KX : K.In s₁.heap) (hns : s₁.heap.Ns mainGlobals mg) (hb : s₁.heap.Ns builtinsNs mb) (hbb : ∀ x : Str, x ≠ "__name__" → mb x = bootBuiltins x) (hlim : s₁.heap.NoLimit) (hg : s₁.gens = #[])
    (ha : s₁.heap.get? a = some { cls := .type "list", data := .seq vs.toArray }) (hi : IntsAre vs ns) (hl : ns.length ≤ sizeLine) (hr : Room k callerA)
    (F : ∀ base : Heap, K.In base → base.Ns mainGlobals mg → FnG P w K mg base CX0 k fa fd [x] sp) (hbind : ∀ (s : Shared) (u : Value), BindsTo s fd ⟨[u], []⟩ [(x, u)])
    (hsp : ∀ H : Hp, Only H → SqL K H a (ns.map V.int) → sp [.ref a] H (fun v _ => v = .bl true) fun _ _ _ => False) :
    codeAny (model P w) callerA (.call (.ref fa) ⟨[.ref a], []⟩) (fun r s' => r = .ok (.ret (.bool true)) ∧ OldK s₁.heap s'.heap ∧ s'.os = s₁.os ∧ AllBare s'.gens) s₁ := by
  have rv := vals_ints hi
  have lenV := hi.length
  cases hk : K.lookup a with
  | some o =>
    have e := KX a o hk
    rw [ha] at e
    cases e
    have O : Only fun _ => none := fun _ => .inl rfl
    exact law_core KX hns hb hbb hlim hg ha hr F hbind O (fun b u z => nomatch z) (fun b z => absurd rfl z) (fun z => absurd rfl z) (hsp _ O (.inr ⟨_, vs.toArray, _, hk, rfl, rfl, rfl, by rw [List.size_toArray, lenV]; exact hl, by simpa using rv⟩))
  | none =>
    have at_ : one a (.frz { cls := .type "list", data := .seq vs.toArray } (.lst (ns.map V.int))) a = some (.frz { cls := .type "list", data := .seq vs.toArray } (.lst (ns.map V.int))) := if_pos rfl
    have O : Only (one a (.frz { cls := .type "list", data := .seq vs.toArray } (.lst (ns.map V.int)))) := by
      intro b
      by_cases h : b = a
      · subst h
        exact .inr ⟨_, _, at_⟩
      · exact .inl (one_off h)
    refine law_core KX hns hb hbb hlim hg ha hr F hbind O (fun b u z => ?_) (fun b z => ?_) (fun _ => hk) (hsp _ O (.inl (.inr ⟨_, at_⟩)))
    · by_cases h : b = a
      · subst h
        cases at_.symm.trans z
        exact ⟨ha, by rw [List.length_map]; exact hl, vs, _, rv, ha⟩
      · cases (one_off h).symm.trans z
    · by_cases h : b = a
      · exact h
      · exact absurd (one_off h) z
end
/-- the goal that the head leaves, from the law's promise -/
theorem walkG {l : PySem.W.OpenLaw} {k : Nat} {q : Program} {loose : List Str} {XP : (Str → Option Value) → Heap → Prop} {YP : World → Heap → Prop} {d : DefRec} {K : Params → PySem.W.Frag} {sp : PySem.W.Frag → Sp} {x : Str}
    (hn : l.most = some 63) (hdf : d.params.defaults = []) (hr : Room k callerA) (hY : ∀ (w : World) (h : Heap), YP w h → (K w.params).In h)
    (F : ∀ (w : World) (mg : Str → Option Value) (fa : Addr) (h : Heap), (K w.params).In h → h.Ns mainGlobals mg → mg d.name = some (.ref fa) →
      ∃ fd : FuncData, (∀ (s : Shared) (u : Value), BindsTo s fd ⟨[u], []⟩ [(x, u)]) ∧ ∀ base : Heap, (K w.params).In base → base.Ns mainGlobals mg → FnG l.prog w (K w.params) mg base CX0 k fa fd [x] (sp (K w.params)))
    (hsp : ∀ (K : PySem.W.Frag) (H : Hp) (a : Addr) (ns : List Int), ns.length ≤ 63 → SqL K H a (ns.map V.int) → sp K [.ref a] H (fun v _ => v = .bl true) fun _ _ _ => False) :
    PySem.W.WalkO q loose XP YP l.row.toRowW d [] (fun f vs => PySem.call f vs) := by
  refine Att.attach_call hn hdf fun w s₀ s₁ mg mb fa o pm cd doc a vs ns G Y ho hd hcd hmg hobj hints hlen hg => ?_
  have KX := hY w _ Y
  obtain ⟨fd, hb, hF⟩ := F w mg fa _ KX G.T.g hmg
  exact law_at KX G.T.g G.T.b G.T.builtins G.T.nolimit hg hobj hints (Nat.le_trans hlen (by decide)) hr hF hb fun H _ hS => hsp _ H a ns hlen hS
end GL
namespace My
open PySem PySem.Spec PyProof.Rows L2 GL
def topS (i : Nat) : Stmt := PySem.Challenge.pw_chargeways_k80_forms_by_an_own_reading.main.body.getD i (.Pass ⟨0, 0, 0, 0⟩)
abbrev s_is_an_integer : Stmt := topS 2
abbrev N_is_an_integer : List Str := ["value"]
theorem sc_is_an_integer : FnScope N_is_an_integer ["value"] (defScope s_is_an_integer) := ⟨rfl, rfl, rfl, by decide +kernel, rfl, by decide +kernel, by decide +kernel⟩
abbrev s_is_list : Stmt := topS 3
abbrev N_is_list : List Str := ["value"]
theorem sc_is_list : FnScope N_is_list ["value"] (defScope s_is_list) := ⟨rfl, rfl, rfl, by decide +kernel, rfl, by decide +kernel, by decide +kernel⟩
abbrev s_is_word : Stmt := topS 4
abbrev N_is_word : List Str := ["value", "words"]
theorem sc_is_word : FnScope N_is_word ["value", "words"] (defScope s_is_word) := ⟨rfl, rfl, rfl, by decide +kernel, rfl, by decide +kernel, by decide +kernel⟩
abbrev s_are_different_words : Stmt := topS 5
abbrev N_are_different_words : List Str := ["values", "words", "value"]
theorem sc_are_different_words : FnScope N_are_different_words ["values", "words"] (defScope s_are_different_words) := ⟨rfl, rfl, rfl, by decide +kernel, rfl, by decide +kernel, by decide +kernel⟩
abbrev s_has_words_of : Stmt := topS 9
abbrev N_has_words_of : List Str := ["value", "words"]
theorem sc_has_words_of : FnScope N_has_words_of ["value", "words"] (defScope s_has_words_of) := ⟨rfl, rfl, rfl, by decide +kernel, rfl, by decide +kernel, by decide +kernel⟩
abbrev s_tests_are_ahead : Stmt := topS 10
abbrev N_tests_are_ahead : List Str := ["row", "word", "behind"]
theorem sc_tests_are_ahead : FnScope N_tests_are_ahead ["row", "word"] (defScope s_tests_are_ahead) := ⟨rfl, rfl, rfl, by decide +kernel, rfl, by decide +kernel, by decide +kernel⟩
abbrev s_look_is_behind : Stmt := topS 11
abbrev N_look_is_behind : List Str := ["row"]
theorem sc_look_is_behind : FnScope N_look_is_behind ["row"] (defScope s_look_is_behind) := ⟨rfl, rfl, rfl, by decide +kernel, rfl, by decide +kernel, by decide +kernel⟩
abbrev s_off_has_home : Stmt := topS 12
abbrev N_off_has_home : List Str := ["row"]
theorem sc_off_has_home : FnScope N_off_has_home ["row"] (defScope s_off_has_home) := ⟨rfl, rfl, rfl, by decide +kernel, rfl, by decide +kernel, by decide +kernel⟩
abbrev s_is_take_row : Stmt := topS 13
abbrev N_is_take_row : List Str := ["value"]
theorem sc_is_take_row : FnScope N_is_take_row ["value"] (defScope s_is_take_row) := ⟨rfl, rfl, rfl, by decide +kernel, rfl, by decide +kernel, by decide +kernel⟩
abbrev s_is_give_row : Stmt := topS 14
abbrev N_is_give_row : List Str := ["value"]
theorem sc_is_give_row : FnScope N_is_give_row ["value"] (defScope s_is_give_row) := ⟨rfl, rfl, rfl, by decide +kernel, rfl, by decide +kernel, by decide +kernel⟩
abbrev s_is_move_row : Stmt := topS 15
abbrev N_is_move_row : List Str := ["value"]
theorem sc_is_move_row : FnScope N_is_move_row ["value"] (defScope s_is_move_row) := ⟨rfl, rfl, rfl, by decide +kernel, rfl, by decide +kernel, by decide +kernel⟩
abbrev s_is_lift_row : Stmt := topS 16
abbrev N_is_lift_row : List Str := ["value"]
theorem sc_is_lift_row : FnScope N_is_lift_row ["value"] (defScope s_is_lift_row) := ⟨rfl, rfl, rfl, by decide +kernel, rfl, by decide +kernel, by decide +kernel⟩
abbrev s_is_row : Stmt := topS 18
abbrev N_is_row : List Str := ["kind", "value", "check"]
theorem sc_is_row : FnScope N_is_row ["kind", "value"] (defScope s_is_row) := ⟨rfl, rfl, rfl, by decide +kernel, rfl, by decide +kernel, by decide +kernel⟩
abbrev s_fits_batch : Stmt := topS 19
abbrev N_fits_batch : List Str := ["row", "batch"]
theorem sc_fits_batch : FnScope N_fits_batch ["row", "batch"] (defScope s_fits_batch) := ⟨rfl, rfl, rfl, by decide +kernel, rfl, by decide +kernel, by decide +kernel⟩
abbrev s_fits_shared : Stmt := topS 20
abbrev N_fits_shared : List Str := ["row", "shared"]
theorem sc_fits_shared : FnScope N_fits_shared ["row", "shared"] (defScope s_fits_shared) := ⟨rfl, rfl, rfl, by decide +kernel, rfl, by decide +kernel, by decide +kernel⟩
abbrev s_check_hands : Stmt := topS 29
abbrev N_check_hands : List Str := ["value"]
theorem sc_check_hands : FnScope N_check_hands ["value"] (defScope s_check_hands) := ⟨rfl, rfl, rfl, by decide +kernel, rfl, by decide +kernel, by decide +kernel⟩
abbrev s_kinds_that_add : Stmt := topS 30
abbrev N_kinds_that_add : List Str := ["book", "kind"]
theorem sc_kinds_that_add : FnScope N_kinds_that_add ["book"] (defScope s_kinds_that_add) := ⟨rfl, rfl, rfl, by decide +kernel, rfl, by decide +kernel, by decide +kernel⟩
abbrev s_is_endless : Stmt := topS 31
abbrev N_is_endless : List Str := ["book", "kind", "row"]
theorem sc_is_endless : FnScope N_is_endless ["book", "kind"] (defScope s_is_endless) := ⟨rfl, rfl, rfl, by decide +kernel, rfl, by decide +kernel, by decide +kernel⟩
abbrev s_kind_that_looks : Stmt := topS 32
abbrev N_kind_that_looks : List Str := ["book", "behind", "kind"]
theorem sc_kind_that_looks : FnScope N_kind_that_looks ["book", "behind"] (defScope s_kind_that_looks) := ⟨rfl, rfl, rfl, by decide +kernel, rfl, by decide +kernel, by decide +kernel⟩
abbrev s_number_of : Stmt := topS 33
abbrev N_number_of : List Str := ["book", "kind"]
theorem sc_number_of : FnScope N_number_of ["book", "kind"] (defScope s_number_of) := ⟨rfl, rfl, rfl, by decide +kernel, rfl, by decide +kernel, by decide +kernel⟩
abbrev s_form : Stmt := topS 34
abbrev N_form : List Str := ["book", "kind"]
theorem sc_form : FnScope N_form ["book"] (defScope s_form) := ⟨rfl, rfl, rfl, by decide +kernel, rfl, by decide +kernel, by decide +kernel⟩
abbrev s_most_above : Stmt := topS 35
abbrev N_most_above : List Str := ["book", "hands", "found", "ahead", "behind"]
theorem sc_most_above : FnScope N_most_above ["book", "hands"] (defScope s_most_above) := ⟨rfl, rfl, rfl, by decide +kernel, rfl, by decide +kernel, by decide +kernel⟩
abbrev s_check_rows : Stmt := topS 39
abbrev N_check_rows : List Str := ["rows", "kind", "row"]
theorem sc_check_rows : FnScope N_check_rows ["rows"] (defScope s_check_rows) := ⟨rfl, rfl, rfl, by decide +kernel, rfl, by decide +kernel, by decide +kernel⟩
abbrev s_check_fails : Stmt := topS 40
abbrev N_check_fails : List Str := ["value"]
theorem sc_check_fails : FnScope N_check_fails ["value"] (defScope s_check_fails) := ⟨rfl, rfl, rfl, by decide +kernel, rfl, by decide +kernel, by decide +kernel⟩
abbrev s_check_bool : Stmt := topS 41
abbrev N_check_bool : List Str := ["name", "value"]
theorem sc_check_bool : FnScope N_check_bool ["name", "value"] (defScope s_check_bool) := ⟨rfl, rfl, rfl, by decide +kernel, rfl, by decide +kernel, by decide +kernel⟩
abbrev s_check_holds : Stmt := topS 42
abbrev N_check_holds : List Str := ["value"]
theorem sc_check_holds : FnScope N_check_holds ["value"] (defScope s_check_holds) := ⟨rfl, rfl, rfl, by decide +kernel, rfl, by decide +kernel, by decide +kernel⟩
abbrev s_check_batch : Stmt := topS 43
abbrev N_check_batch : List Str := ["value"]
theorem sc_check_batch : FnScope N_check_batch ["value"] (defScope s_check_batch) := ⟨rfl, rfl, rfl, by decide +kernel, rfl, by decide +kernel, by decide +kernel⟩
abbrev s_check_row_kind : Stmt := topS 44
abbrev N_check_row_kind : List Str := ["value"]
theorem sc_check_row_kind : FnScope N_check_row_kind ["value"] (defScope s_check_row_kind) := ⟨rfl, rfl, rfl, by decide +kernel, rfl, by decide +kernel, by decide +kernel⟩
abbrev s_Binit : Stmt := inClass (topS 45) 1
abbrev N_Binit : List Str := ["self", "take", "give", "move", "lift", "fails", "shared", "holds", "batch", "settles", "rows", "sorted_holds", "kind"]
theorem sc_Binit : FnScope N_Binit ["self", "take", "give", "move", "lift", "fails", "shared", "holds", "batch", "settles"] (defScope s_Binit) := ⟨rfl, rfl, rfl, by decide +kernel, rfl, by decide +kernel, by decide +kernel⟩
abbrev s_Bfails : Stmt := inClass (topS 45) 4
abbrev N_Bfails : List Str := ["self"]
theorem sc_Bfails : FnScope N_Bfails ["self"] (defScope s_Bfails) := ⟨rfl, rfl, rfl, by decide +kernel, rfl, by decide +kernel, by decide +kernel⟩
abbrev s_Bbatch : Stmt := inClass (topS 45) 7
abbrev N_Bbatch : List Str := ["self"]
theorem sc_Bbatch : FnScope N_Bbatch ["self"] (defScope s_Bbatch) := ⟨rfl, rfl, rfl, by decide +kernel, rfl, by decide +kernel, by decide +kernel⟩
abbrev s_Brow : Stmt := inClass (topS 45) 9
abbrev N_Brow : List Str := ["self", "kind"]
theorem sc_Brow : FnScope N_Brow ["self", "kind"] (defScope s_Brow) := ⟨rfl, rfl, rfl, by decide +kernel, rfl, by decide +kernel, by decide +kernel⟩
abbrev s_Bwith_holds : Stmt := inClass (topS 45) 11
abbrev N_Bwith_holds : List Str := ["self", "holds", "parts"]
theorem sc_Bwith_holds : FnScope N_Bwith_holds ["self", "holds"] (defScope s_Bwith_holds) := ⟨rfl, rfl, rfl, by decide +kernel, rfl, by decide +kernel, by decide +kernel⟩
abbrev s_Lpot : Stmt := topS 47
abbrev N_Lpot : List Str := ["_law_script", "_law_k", "_law_cell"]
theorem sc_Lpot : FnScope N_Lpot ["_law_script", "_law_k"] (defScope s_Lpot) := ⟨rfl, rfl, rfl, by decide +kernel, rfl, by decide +kernel, by decide +kernel⟩
abbrev s_Ldraw : Stmt := topS 48
abbrev N_Ldraw : List Str := ["_law_pot_here", "_law_sides", "_law_digit"]
theorem sc_Ldraw : FnScope N_Ldraw ["_law_pot_here", "_law_sides"] (defScope s_Ldraw) := ⟨rfl, rfl, rfl, by decide +kernel, rfl, by decide +kernel, by decide +kernel⟩
abbrev s_Lpick : Stmt := topS 49
abbrev N_Lpick : List Str := ["_law_pot_here", "_law_some"]
theorem sc_Lpick : FnScope N_Lpick ["_law_pot_here", "_law_some"] (defScope s_Lpick) := ⟨rfl, rfl, rfl, by decide +kernel, rfl, by decide +kernel, by decide +kernel⟩
abbrev s_Lsequences : Stmt := topS 50
abbrev N_Lsequences : List Str := ["_law_words", "_law_found", "_law_longer", "_law_turn", "_law_later", "_law_some", "_law_word"]
theorem sc_Lsequences : FnScope N_Lsequences ["_law_words"] (defScope s_Lsequences) := ⟨rfl, rfl, rfl, by decide +kernel, rfl, by decide +kernel, by decide +kernel⟩
abbrev s_Lis_ahead : Stmt := topS 51
abbrev N_Lis_ahead : List Str := ["_law_some", "_law_word", "_law_later"]
theorem sc_Lis_ahead : FnScope N_Lis_ahead ["_law_some", "_law_word", "_law_later"] (defScope s_Lis_ahead) := ⟨rfl, rfl, rfl, by decide +kernel, rfl, by decide +kernel, by decide +kernel⟩
abbrev s_Lis_take : Stmt := topS 52
abbrev N_Lis_take : List Str := ["_law_some", "_law_amount"]
theorem sc_Lis_take : FnScope N_Lis_take ["_law_some", "_law_amount"] (defScope s_Lis_take) := ⟨rfl, rfl, rfl, by decide +kernel, rfl, by decide +kernel, by decide +kernel⟩
abbrev s_Lis_move : Stmt := topS 53
abbrev N_Lis_move : List Str := ["_law_some", "_law_is_shared", "_law_word"]
theorem sc_Lis_move : FnScope N_Lis_move ["_law_some", "_law_is_shared"] (defScope s_Lis_move) := ⟨rfl, rfl, rfl, by decide +kernel, rfl, by decide +kernel, by decide +kernel⟩
abbrev s_Ltakes : Stmt := topS 54
abbrev N_Ltakes : List Str := ["_law_amount", "_law_some"]
theorem sc_Ltakes : FnScope N_Ltakes ["_law_amount"] (defScope s_Ltakes) := ⟨rfl, rfl, rfl, by decide +kernel, rfl, by decide +kernel, by decide +kernel⟩
abbrev s_Lmoves : Stmt := topS 55
abbrev N_Lmoves : List Str := ["_law_is_shared", "_law_words", "_law_some"]
theorem sc_Lmoves : FnScope N_Lmoves ["_law_is_shared"] (defScope s_Lmoves) := ⟨rfl, rfl, rfl, by decide +kernel, rfl, by decide +kernel, by decide +kernel⟩
abbrev s_Lmenu : Stmt := topS 56
abbrev N_Lmenu : List Str := ["_law_sort", "_law_some", "_law_near"]
theorem sc_Lmenu : FnScope N_Lmenu ["_law_sort"] (defScope s_Lmenu) := ⟨rfl, rfl, rfl, by decide +kernel, rfl, by decide +kernel, by decide +kernel⟩
abbrev s_Lrules : Stmt := topS 57
abbrev N_Lrules : List Str := ["_law_pot_here", "_law_way", "_law_most", "_law_found", "_law_sort"]
theorem sc_Lrules : FnScope N_Lrules ["_law_pot_here", "_law_way", "_law_most"] (defScope s_Lrules) := ⟨rfl, rfl, rfl, by decide +kernel, rfl, by decide +kernel, by decide +kernel⟩
abbrev s_Lbook : Stmt := topS 58
abbrev N_Lbook : List Str := ["_law_rules_here"]
theorem sc_Lbook : FnScope N_Lbook ["_law_rules_here"] (defScope s_Lbook) := ⟨rfl, rfl, rfl, by decide +kernel, rfl, by decide +kernel, by decide +kernel⟩
abbrev s_Lform : Stmt := topS 59
abbrev N_Lform : List Str := ["_law_rules_here", "_law_late", "_law_early", "_law_sort", "_law_amount", "_law_some"]
theorem sc_Lform : FnScope N_Lform ["_law_rules_here"] (defScope s_Lform) := ⟨rfl, rfl, rfl, by decide +kernel, rfl, by decide +kernel, by decide +kernel⟩
abbrev s_Lform_right : Stmt := topS 60
abbrev N_Lform_right : List Str := ["_law_rules_here", "_law_tome", "_law_wanted_form", "_law_many", "_law_wanted"]
theorem sc_Lform_right : FnScope N_Lform_right ["_law_rules_here", "_law_tome"] (defScope s_Lform_right) := ⟨rfl, rfl, rfl, by decide +kernel, rfl, by decide +kernel, by decide +kernel⟩
abbrev s_Lright : Stmt := topS 61
abbrev N_Lright : List Str := ["_law_pot_here", "_law_rules_here", "_law_turn", "_law_word"]
theorem sc_Lright : FnScope N_Lright ["_law_pot_here"] (defScope s_Lright) := ⟨rfl, rfl, rfl, by decide +kernel, rfl, by decide +kernel, by decide +kernel⟩
abbrev s_law : Stmt := topS 62
abbrev N_law : List Str := ["_law_script", "_law_k"]
theorem sc_law : FnScope N_law ["_law_script"] (defScope s_law) := ⟨rfl, rfl, rfl, by decide +kernel, rfl, by decide +kernel, by decide +kernel⟩
def kbA {α : Type} (us ws : List α) : List α := us ++ ws
def kb1 {α : Type} : List α → List α → List α
  | [a], [b] => [a, b]
  | _, _ => []
def kb2 {α : Type} : List α → List α → List α
  | [a], [b, c] => [a, c, b]
  | _, _ => []
theorem kb1_rel {vs zs : List V} {us ws : List Value} (h : Vals vs us) (h2 : Vals zs ws) : Vals (kb1 vs zs) (kb1 us ws) := by
  cases h with
  | nil => cases h2 <;> exact .nil
  | cons r t => cases t with
    | nil => cases h2 with
      | nil => exact .nil
      | cons r2 t2 => cases t2 with
        | nil => exact .cons r (.cons r2 .nil)
        | cons => exact .nil
    | cons => cases h2 <;> exact .nil
theorem kb2_rel {vs zs : List V} {us ws : List Value} (h : Vals vs us) (h2 : Vals zs ws) : Vals (kb2 vs zs) (kb2 us ws) := by
  cases h with
  | nil => cases h2 <;> exact .nil
  | cons r t => cases t with
    | nil => cases h2 with
      | nil => exact .nil
      | cons r2 t2 => cases t2 with
        | nil => exact .nil
        | cons r3 t3 => cases t3 with
          | nil => exact .cons r (.cons r3 (.cons r2 .nil))
          | cons => exact .nil
    | cons => cases h2 <;> exact .nil
structure Txt (K : PySem.W.Frag) (mg : Str → Option Value) (w : World) where
  C : Addr
  c_Book : Cls K C
  m_Book : mg "Book" = some (.ref C)
  n_parts : NoAttr K C "_parts"
  x_class : PySem.W.findIn K (.ref C) "__class__" = some (some (.builtin "object.__class__"))
  x_get : PySem.W.specialIn K (.builtin "object.__class__") "__get__" = some (some (.builtin "getset_descriptor.__get__"))
  x_tk : PySem.W.takesIn K (.builtin "object.__class__") = some true
  x_mro : PySem.W.mroIn K C (.type "object") = some true
  x_ne : PySem.W.findIn K (.ref C) "__ne__" = some (some (.builtin "object.__ne__"))
  x_cls : PySem.W.isClsIn K C = true
  x_ty : PySem.W.typeIn K (.ref C) = some (.type "type")
  f_is_an_integer : Addr
  fd_is_an_integer : FuncData
  F_is_an_integer : L2.Fun K "is_an_integer" "is_an_integer" s_is_an_integer f_is_an_integer fd_is_an_integer
  b_is_an_integer : Binds K fd_is_an_integer ["value"] []
  m_is_an_integer : mg "is_an_integer" = some (.ref f_is_an_integer)
  f_is_list : Addr
  fd_is_list : FuncData
  F_is_list : L2.Fun K "is_list" "is_list" s_is_list f_is_list fd_is_list
  b_is_list : Binds K fd_is_list ["value"] []
  m_is_list : mg "is_list" = some (.ref f_is_list)
  f_is_word : Addr
  fd_is_word : FuncData
  F_is_word : L2.Fun K "is_word" "is_word" s_is_word f_is_word fd_is_word
  b_is_word : Binds K fd_is_word ["value", "words"] []
  m_is_word : mg "is_word" = some (.ref f_is_word)
  f_are_different_words : Addr
  fd_are_different_words : FuncData
  F_are_different_words : L2.Fun K "are_different_words" "are_different_words" s_are_different_words f_are_different_words fd_are_different_words
  b_are_different_words : Binds K fd_are_different_words ["values", "words"] []
  m_are_different_words : mg "are_different_words" = some (.ref f_are_different_words)
  f_has_words_of : Addr
  fd_has_words_of : FuncData
  F_has_words_of : L2.Fun K "has_words_of" "has_words_of" s_has_words_of f_has_words_of fd_has_words_of
  b_has_words_of : Binds K fd_has_words_of ["value", "words"] []
  m_has_words_of : mg "has_words_of" = some (.ref f_has_words_of)
  f_tests_are_ahead : Addr
  fd_tests_are_ahead : FuncData
  F_tests_are_ahead : L2.Fun K "tests_are_ahead" "tests_are_ahead" s_tests_are_ahead f_tests_are_ahead fd_tests_are_ahead
  b_tests_are_ahead : Binds K fd_tests_are_ahead ["row", "word"] []
  m_tests_are_ahead : mg "tests_are_ahead" = some (.ref f_tests_are_ahead)
  f_look_is_behind : Addr
  fd_look_is_behind : FuncData
  F_look_is_behind : L2.Fun K "look_is_behind" "look_is_behind" s_look_is_behind f_look_is_behind fd_look_is_behind
  b_look_is_behind : Binds K fd_look_is_behind ["row"] []
  m_look_is_behind : mg "look_is_behind" = some (.ref f_look_is_behind)
  f_off_has_home : Addr
  fd_off_has_home : FuncData
  F_off_has_home : L2.Fun K "off_has_home" "off_has_home" s_off_has_home f_off_has_home fd_off_has_home
  b_off_has_home : Binds K fd_off_has_home ["row"] []
  m_off_has_home : mg "off_has_home" = some (.ref f_off_has_home)
  f_is_take_row : Addr
  fd_is_take_row : FuncData
  F_is_take_row : L2.Fun K "is_take_row" "is_take_row" s_is_take_row f_is_take_row fd_is_take_row
  b_is_take_row : Binds K fd_is_take_row ["value"] []
  m_is_take_row : mg "is_take_row" = some (.ref f_is_take_row)
  f_is_give_row : Addr
  fd_is_give_row : FuncData
  F_is_give_row : L2.Fun K "is_give_row" "is_give_row" s_is_give_row f_is_give_row fd_is_give_row
  b_is_give_row : Binds K fd_is_give_row ["value"] []
  m_is_give_row : mg "is_give_row" = some (.ref f_is_give_row)
  f_is_move_row : Addr
  fd_is_move_row : FuncData
  F_is_move_row : L2.Fun K "is_move_row" "is_move_row" s_is_move_row f_is_move_row fd_is_move_row
  b_is_move_row : Binds K fd_is_move_row ["value"] []
  m_is_move_row : mg "is_move_row" = some (.ref f_is_move_row)
  f_is_lift_row : Addr
  fd_is_lift_row : FuncData
  F_is_lift_row : L2.Fun K "is_lift_row" "is_lift_row" s_is_lift_row f_is_lift_row fd_is_lift_row
  b_is_lift_row : Binds K fd_is_lift_row ["value"] []
  m_is_lift_row : mg "is_lift_row" = some (.ref f_is_lift_row)
  f_is_row : Addr
  fd_is_row : FuncData
  F_is_row : L2.Fun K "is_row" "is_row" s_is_row f_is_row fd_is_row
  b_is_row : Binds K fd_is_row ["kind", "value"] []
  m_is_row : mg "is_row" = some (.ref f_is_row)
  f_fits_batch : Addr
  fd_fits_batch : FuncData
  F_fits_batch : L2.Fun K "fits_batch" "fits_batch" s_fits_batch f_fits_batch fd_fits_batch
  b_fits_batch : Binds K fd_fits_batch ["row", "batch"] []
  m_fits_batch : mg "fits_batch" = some (.ref f_fits_batch)
  f_fits_shared : Addr
  fd_fits_shared : FuncData
  F_fits_shared : L2.Fun K "fits_shared" "fits_shared" s_fits_shared f_fits_shared fd_fits_shared
  b_fits_shared : Binds K fd_fits_shared ["row", "shared"] []
  m_fits_shared : mg "fits_shared" = some (.ref f_fits_shared)
  f_check_hands : Addr
  fd_check_hands : FuncData
  F_check_hands : L2.Fun K "check_hands" "check_hands" s_check_hands f_check_hands fd_check_hands
  b_check_hands : Binds K fd_check_hands ["value"] []
  m_check_hands : mg "check_hands" = some (.ref f_check_hands)
  f_kinds_that_add : Addr
  fd_kinds_that_add : FuncData
  F_kinds_that_add : L2.Fun K "kinds_that_add" "kinds_that_add" s_kinds_that_add f_kinds_that_add fd_kinds_that_add
  b_kinds_that_add : Binds K fd_kinds_that_add ["book"] []
  m_kinds_that_add : mg "kinds_that_add" = some (.ref f_kinds_that_add)
  f_is_endless : Addr
  fd_is_endless : FuncData
  F_is_endless : L2.Fun K "is_endless" "is_endless" s_is_endless f_is_endless fd_is_endless
  b_is_endless : Binds K fd_is_endless ["book", "kind"] []
  m_is_endless : mg "is_endless" = some (.ref f_is_endless)
  f_kind_that_looks : Addr
  fd_kind_that_looks : FuncData
  F_kind_that_looks : L2.Fun K "kind_that_looks" "kind_that_looks" s_kind_that_looks f_kind_that_looks fd_kind_that_looks
  b_kind_that_looks : Binds K fd_kind_that_looks ["book", "behind"] []
  m_kind_that_looks : mg "kind_that_looks" = some (.ref f_kind_that_looks)
  f_number_of : Addr
  fd_number_of : FuncData
  F_number_of : L2.Fun K "number_of" "number_of" s_number_of f_number_of fd_number_of
  b_number_of : Binds K fd_number_of ["book", "kind"] []
  m_number_of : mg "number_of" = some (.ref f_number_of)
  f_form : Addr
  fd_form : FuncData
  F_form : L2.Fun K "form" "form" s_form f_form fd_form
  b_form : Binds K fd_form ["book"] []
  m_form : mg "form" = some (.ref f_form)
  k_form_book : KBn K fd_form ["book"] 0 ["book"] (fun us ws => sel us [] ws [(2, 0)]) (fun vs zs => sel vs [] zs [(2, 0)])
  f_most_above : Addr
  fd_most_above : FuncData
  F_most_above : L2.Fun K "most_above" "most_above" s_most_above f_most_above fd_most_above
  b_most_above : Binds K fd_most_above ["book", "hands"] []
  m_most_above : mg "most_above" = some (.ref f_most_above)
  k_most_above_hands_book : KBn K fd_most_above ["book", "hands"] 0 ["hands", "book"] (fun us ws => sel us [] ws [(2, 1), (2, 0)]) (fun vs zs => sel vs [] zs [(2, 1), (2, 0)])
  f_check_rows : Addr
  fd_check_rows : FuncData
  F_check_rows : L2.Fun K "check_rows" "check_rows" s_check_rows f_check_rows fd_check_rows
  b_check_rows : Binds K fd_check_rows ["rows"] []
  m_check_rows : mg "check_rows" = some (.ref f_check_rows)
  f_check_fails : Addr
  fd_check_fails : FuncData
  F_check_fails : L2.Fun K "check_fails" "check_fails" s_check_fails f_check_fails fd_check_fails
  b_check_fails : Binds K fd_check_fails ["value"] []
  m_check_fails : mg "check_fails" = some (.ref f_check_fails)
  f_check_bool : Addr
  fd_check_bool : FuncData
  F_check_bool : L2.Fun K "check_bool" "check_bool" s_check_bool f_check_bool fd_check_bool
  b_check_bool : Binds K fd_check_bool ["name", "value"] []
  m_check_bool : mg "check_bool" = some (.ref f_check_bool)
  f_check_holds : Addr
  fd_check_holds : FuncData
  F_check_holds : L2.Fun K "check_holds" "check_holds" s_check_holds f_check_holds fd_check_holds
  b_check_holds : Binds K fd_check_holds ["value"] []
  m_check_holds : mg "check_holds" = some (.ref f_check_holds)
  f_check_batch : Addr
  fd_check_batch : FuncData
  F_check_batch : L2.Fun K "check_batch" "check_batch" s_check_batch f_check_batch fd_check_batch
  b_check_batch : Binds K fd_check_batch ["value"] []
  m_check_batch : mg "check_batch" = some (.ref f_check_batch)
  f_check_row_kind : Addr
  fd_check_row_kind : FuncData
  F_check_row_kind : L2.Fun K "check_row_kind" "check_row_kind" s_check_row_kind f_check_row_kind fd_check_row_kind
  b_check_row_kind : Binds K fd_check_row_kind ["value"] []
  m_check_row_kind : mg "check_row_kind" = some (.ref f_check_row_kind)
  f_Binit : Addr
  fd_Binit : FuncData
  F_Binit : L2.Fun K "__init__" "Book.__init__" s_Binit f_Binit fd_Binit
  mk_Book : Mk K C f_Binit
  k_Binit : KBn K fd_Binit ["self", "take", "give", "move", "lift", "fails", "shared", "holds", "batch", "settles"] 1 ["take", "give", "move", "lift", "fails", "shared", "holds", "batch", "settles"] kbA kbA
  f_Bfails : Addr
  fd_Bfails : FuncData
  F_Bfails : L2.Fun K "fails" "Book.fails" s_Bfails f_Bfails fd_Bfails
  b_Bfails : Binds K fd_Bfails ["self"] []
  p_Bfails : Addr
  P_Bfails : PropOf K C "fails" p_Bfails f_Bfails
  f_Bbatch : Addr
  fd_Bbatch : FuncData
  F_Bbatch : L2.Fun K "batch" "Book.batch" s_Bbatch f_Bbatch fd_Bbatch
  b_Bbatch : Binds K fd_Bbatch ["self"] []
  p_Bbatch : Addr
  P_Bbatch : PropOf K C "batch" p_Bbatch f_Bbatch
  f_Brow : Addr
  fd_Brow : FuncData
  F_Brow : L2.Fun K "row" "Book.row" s_Brow f_Brow fd_Brow
  b_Brow : Binds K fd_Brow ["self", "kind"] []
  M_Brow : Meth K C "row" f_Brow
  f_Bwith_holds : Addr
  fd_Bwith_holds : FuncData
  F_Bwith_holds : L2.Fun K "with_holds" "Book.with_holds" s_Bwith_holds f_Bwith_holds fd_Bwith_holds
  b_Bwith_holds : Binds K fd_Bwith_holds ["self", "holds"] []
  M_Bwith_holds : Meth K C "with_holds" f_Bwith_holds
  f_Lpot : Addr
  fd_Lpot : FuncData
  F_Lpot : L2.Fun K "_law_pot" "_law_pot" s_Lpot f_Lpot fd_Lpot
  b_Lpot : Binds K fd_Lpot ["_law_script", "_law_k"] []
  m_Lpot : mg "_law_pot" = some (.ref f_Lpot)
  f_Ldraw : Addr
  fd_Ldraw : FuncData
  F_Ldraw : L2.Fun K "_law_draw" "_law_draw" s_Ldraw f_Ldraw fd_Ldraw
  b_Ldraw : Binds K fd_Ldraw ["_law_pot_here", "_law_sides"] []
  m_Ldraw : mg "_law_draw" = some (.ref f_Ldraw)
  f_Lpick : Addr
  fd_Lpick : FuncData
  F_Lpick : L2.Fun K "_law_pick" "_law_pick" s_Lpick f_Lpick fd_Lpick
  b_Lpick : Binds K fd_Lpick ["_law_pot_here", "_law_some"] []
  m_Lpick : mg "_law_pick" = some (.ref f_Lpick)
  f_Lsequences : Addr
  fd_Lsequences : FuncData
  F_Lsequences : L2.Fun K "_law_sequences" "_law_sequences" s_Lsequences f_Lsequences fd_Lsequences
  b_Lsequences : Binds K fd_Lsequences ["_law_words"] []
  m_Lsequences : mg "_law_sequences" = some (.ref f_Lsequences)
  f_Lis_ahead : Addr
  fd_Lis_ahead : FuncData
  F_Lis_ahead : L2.Fun K "_law_is_ahead" "_law_is_ahead" s_Lis_ahead f_Lis_ahead fd_Lis_ahead
  b_Lis_ahead : Binds K fd_Lis_ahead ["_law_some", "_law_word", "_law_later"] []
  m_Lis_ahead : mg "_law_is_ahead" = some (.ref f_Lis_ahead)
  f_Lis_take : Addr
  fd_Lis_take : FuncData
  F_Lis_take : L2.Fun K "_law_is_take" "_law_is_take" s_Lis_take f_Lis_take fd_Lis_take
  b_Lis_take : Binds K fd_Lis_take ["_law_some", "_law_amount"] []
  m_Lis_take : mg "_law_is_take" = some (.ref f_Lis_take)
  f_Lis_move : Addr
  fd_Lis_move : FuncData
  F_Lis_move : L2.Fun K "_law_is_move" "_law_is_move" s_Lis_move f_Lis_move fd_Lis_move
  b_Lis_move : Binds K fd_Lis_move ["_law_some", "_law_is_shared"] []
  m_Lis_move : mg "_law_is_move" = some (.ref f_Lis_move)
  f_Ltakes : Addr
  fd_Ltakes : FuncData
  F_Ltakes : L2.Fun K "_law_takes" "_law_takes" s_Ltakes f_Ltakes fd_Ltakes
  b_Ltakes : Binds K fd_Ltakes ["_law_amount"] []
  m_Ltakes : mg "_law_takes" = some (.ref f_Ltakes)
  f_Lmoves : Addr
  fd_Lmoves : FuncData
  F_Lmoves : L2.Fun K "_law_moves" "_law_moves" s_Lmoves f_Lmoves fd_Lmoves
  b_Lmoves : Binds K fd_Lmoves ["_law_is_shared"] []
  m_Lmoves : mg "_law_moves" = some (.ref f_Lmoves)
  f_Lmenu : Addr
  fd_Lmenu : FuncData
  F_Lmenu : L2.Fun K "_law_menu" "_law_menu" s_Lmenu f_Lmenu fd_Lmenu
  b_Lmenu : Binds K fd_Lmenu ["_law_sort"] []
  m_Lmenu : mg "_law_menu" = some (.ref f_Lmenu)
  f_Lrules : Addr
  fd_Lrules : FuncData
  F_Lrules : L2.Fun K "_law_rules" "_law_rules" s_Lrules f_Lrules fd_Lrules
  b_Lrules : Binds K fd_Lrules ["_law_pot_here", "_law_way", "_law_most"] []
  m_Lrules : mg "_law_rules" = some (.ref f_Lrules)
  f_Lbook : Addr
  fd_Lbook : FuncData
  F_Lbook : L2.Fun K "_law_book" "_law_book" s_Lbook f_Lbook fd_Lbook
  b_Lbook : Binds K fd_Lbook ["_law_rules_here"] []
  m_Lbook : mg "_law_book" = some (.ref f_Lbook)
  f_Lform : Addr
  fd_Lform : FuncData
  F_Lform : L2.Fun K "_law_form" "_law_form" s_Lform f_Lform fd_Lform
  b_Lform : Binds K fd_Lform ["_law_rules_here"] []
  m_Lform : mg "_law_form" = some (.ref f_Lform)
  f_Lform_right : Addr
  fd_Lform_right : FuncData
  F_Lform_right : L2.Fun K "_law_form_right" "_law_form_right" s_Lform_right f_Lform_right fd_Lform_right
  b_Lform_right : Binds K fd_Lform_right ["_law_rules_here", "_law_tome"] []
  m_Lform_right : mg "_law_form_right" = some (.ref f_Lform_right)
  f_Lright : Addr
  fd_Lright : FuncData
  F_Lright : L2.Fun K "_law_right" "_law_right" s_Lright f_Lright fd_Lright
  b_Lright : Binds K fd_Lright ["_law_pot_here"] []
  m_Lright : mg "_law_right" = some (.ref f_Lright)
  f_law : Addr
  fd_law : FuncData
  F_law : L2.Fun K "law" "law" s_law f_law fd_law
  b_law : Binds K fd_law ["_law_script"] []
  m_law : mg "law" = some (.ref f_law)
  z_abs : mg "abs" = none
  z_all : mg "all" = none
  z_any : mg "any" = none
  z_bool : mg "bool" = none
  z_divmod : mg "divmod" = none
  z_int : mg "int" = none
  z_isinstance : mg "isinstance" = none
  z_len : mg "len" = none
  z_list : mg "list" = none
  z_max : mg "max" = none
  z_min : mg "min" = none
  z_range : mg "range" = none
  z_repr : mg "repr" = none
  z_set : mg "set" = none
  z_str : mg "str" = none
  z_tuple : mg "tuple" = none
  t_MOST_BATCH : Tok
  m_MOST_BATCH : mg "MOST_BATCH" = some (.int 50 t_MOST_BATCH)
  g_FAILS : Addr
  m_FAILS : mg "FAILS" = some (.ref g_FAILS)
  s_FAILS : ∀ H, SqT K H g_FAILS [.str "undo", .str "leave", .str "wait"]
  g_ROW_KINDS : Addr
  m_ROW_KINDS : mg "ROW_KINDS" = some (.ref g_ROW_KINDS)
  s_ROW_KINDS : ∀ H, SqT K H g_ROW_KINDS [.str "take", .str "give", .str "move", .str "lift"]
  g_LIFT_ROWS : Addr
  m_LIFT_ROWS : mg "LIFT_ROWS" = some (.ref g_LIFT_ROWS)
  g0_LIFT_ROWS : Addr
  s0_LIFT_ROWS : ∀ H, SqT K H g0_LIFT_ROWS []
  g1_LIFT_ROWS : Addr
  s1_LIFT_ROWS : ∀ H, SqT K H g1_LIFT_ROWS [.str "set"]
  g2_LIFT_ROWS : Addr
  s2_LIFT_ROWS : ∀ H, SqT K H g2_LIFT_ROWS [.str "off"]
  g3_LIFT_ROWS : Addr
  s3_LIFT_ROWS : ∀ H, SqT K H g3_LIFT_ROWS [.str "set", .str "off"]
  g4_LIFT_ROWS : Addr
  s4_LIFT_ROWS : ∀ H, SqT K H g4_LIFT_ROWS [.str "off", .str "set"]
  g5_LIFT_ROWS : Addr
  s5_LIFT_ROWS : ∀ H, SqT K H g5_LIFT_ROWS [.str "both"]
  s_LIFT_ROWS : ∀ H, SqT K H g_LIFT_ROWS [.ref g0_LIFT_ROWS, .ref g1_LIFT_ROWS, .ref g2_LIFT_ROWS, .ref g3_LIFT_ROWS, .ref g4_LIFT_ROWS, .ref g5_LIFT_ROWS]
  g_ROW_CHECKS : Addr
  m_ROW_CHECKS : mg "ROW_CHECKS" = some (.ref g_ROW_CHECKS)
  k_ROW_CHECKS_take : KDct K w g_ROW_CHECKS "take" (.ref f_is_take_row)
  k_ROW_CHECKS_give : KDct K w g_ROW_CHECKS "give" (.ref f_is_give_row)
  k_ROW_CHECKS_move : KDct K w g_ROW_CHECKS "move" (.ref f_is_move_row)
  k_ROW_CHECKS_lift : KDct K w g_ROW_CHECKS "lift" (.ref f_is_lift_row)
end My
/-! parents, ways, zones -/
namespace My
/-- the parents of the groups 1, 2, .. : each one ahead of its child -/
def Good (ps : List Nat) : Prop := ∀ i, i < ps.length → ps.getD i 0 ≤ i
def up (ps : List Nat) (g : Nat) : Nat := ps.getD (g - 1) 0
def pathF (ps : List Nat) : Nat → Nat → List Nat
  | 0, g => [g]
  | f + 1, g => if g = 0 then [0] else g :: pathF ps f (up ps g)
def path (ps : List Nat) (g : Nat) : List Nat := pathF ps g g
theorem up_lt {ps : List Nat} (h : Good ps) {g : Nat} (h0 : 0 < g) (h1 : g ≤ ps.length) : up ps g < g := by
  have q := h (g - 1) (by omega)
  unfold up
  omega
theorem pathF_eq {ps : List Nat} (h : Good ps) : ∀ (f f' g : Nat), g ≤ f → g ≤ f' → g ≤ ps.length → pathF ps f g = pathF ps f' g
  | 0, 0, g, _, _, _ => rfl
  | 0, f' + 1, g, h1, _, _ => by
    have e : g = 0 := by omega
    subst e
    rfl
  | f + 1, 0, g, _, h2, _ => by
    have e : g = 0 := by omega
    subst e
    rfl
  | f + 1, f' + 1, g, h1, h2, h3 => by
    unfold pathF
    by_cases e : g = 0
    · rw [if_pos e, if_pos e]
    · have u := up_lt h (by omega) h3
      rw [if_neg e, if_neg e, pathF_eq h f f' (up ps g) (by omega) (by omega) (by omega)]
theorem path_zero (ps : List Nat) : path ps 0 = [0] := rfl
theorem path_step {ps : List Nat} (h : Good ps) {g : Nat} (h0 : 0 < g) (h1 : g ≤ ps.length) : path ps g = g :: path ps (up ps g) := by
  have u := up_lt h h0 h1
  obtain ⟨f, rfl⟩ : ∃ f, g = f + 1 := ⟨g - 1, by omega⟩
  show (if f + 1 = 0 then [0] else (f + 1) :: pathF ps f (up ps (f + 1))) = _
  rw [if_neg (by omega), pathF_eq h f (up ps (f + 1)) (up ps (f + 1)) (by omega) (Nat.le_refl _) (by omega)]
  rfl
theorem path_mem {ps : List Nat} (h : Good ps) : ∀ (n g : Nat), g ≤ n → g ≤ ps.length → ∀ x ∈ path ps g, x ≤ g := by
  intro n
  induction n with
  | zero =>
    intro g h1 _ x hx
    have e : g = 0 := by omega
    subst e
    have q : x = 0 := List.mem_singleton.mp hx
    omega
  | succ n ih =>
    intro g h1 h2 x hx
    by_cases e : g = 0
    · subst e
      have q : x = 0 := List.mem_singleton.mp hx
      omega
    · have u := up_lt h (by omega) h2
      rw [path_step h (by omega) h2] at hx
      rcases List.mem_cons.mp hx with r | r
      · omega
      · have := ih (up ps g) (by omega) (by omega) x r
        omega
theorem path_le {ps : List Nat} (h : Good ps) {g : Nat} (h2 : g ≤ ps.length) {x : Nat} (hx : x ∈ path ps g) : x ≤ g := path_mem h g g (Nat.le_refl _) h2 x hx
theorem path_self {ps : List Nat} (h : Good ps) {g : Nat} (h2 : g ≤ ps.length) : g ∈ path ps g := by
  by_cases e : g = 0
  · subst e
    exact List.mem_singleton.mpr rfl
  · rw [path_step h (by omega) h2]
    exact List.mem_cons_self
theorem path_nodup {ps : List Nat} (h : Good ps) : ∀ (n g : Nat), g ≤ n → g ≤ ps.length → (path ps g).Nodup := by
  intro n
  induction n with
  | zero =>
    intro g h1 _
    have e : g = 0 := by omega
    subst e
    exact List.nodup_cons.mpr ⟨List.not_mem_nil, List.nodup_nil⟩
  | succ n ih =>
    intro g h1 h2
    by_cases e : g = 0
    · subst e
      exact List.nodup_cons.mpr ⟨List.not_mem_nil, List.nodup_nil⟩
    · have u := up_lt h (by omega) h2
      rw [path_step h (by omega) h2]
      refine List.nodup_cons.mpr ⟨fun z => ?_, ih _ (by omega) (by omega)⟩
      have := path_le h (by omega) z
      omega
theorem path_len {ps : List Nat} (h : Good ps) : ∀ (n g : Nat), g ≤ n → g ≤ ps.length → (path ps g).length ≤ g + 1 := by
  intro n
  induction n with
  | zero =>
    intro g h1 _
    have e : g = 0 := by omega
    subst e
    exact Nat.le_refl _
  | succ n ih =>
    intro g h1 h2
    by_cases e : g = 0
    · subst e
      exact Nat.le_refl _
    · have u := up_lt h (by omega) h2
      have q := ih (up ps g) (by omega) (by omega)
      rw [path_step h (by omega) h2, List.length_cons]
      omega
theorem path_len_le {ps : List Nat} (h : Good ps) {g : Nat} (h2 : g ≤ ps.length) : (path ps g).length ≤ g + 1 := path_len h g g (Nat.le_refl _) h2
theorem path_pos {ps : List Nat} (h : Good ps) {g : Nat} (h2 : g ≤ ps.length) : 1 ≤ (path ps g).length := List.length_pos_of_mem (path_self h h2)
/-- 2 here, 1 below, 3 out -/
def zone (ps : List Nat) (g s : Nat) : Nat := if g = s then 2 else if s ∈ path ps g then 1 else 3
theorem zone_mem {ps : List Nat} (h : Good ps) {g s : Nat} (h2 : g ≤ ps.length) : (s ∈ path ps g) ↔ zone ps g s < 3 := by
  unfold zone
  by_cases e : g = s
  · subst e
    rw [if_pos rfl]
    exact ⟨fun _ => by decide, fun _ => path_self h h2⟩
  · rw [if_neg e]
    by_cases m : s ∈ path ps g
    · rw [if_pos m]
      exact ⟨fun _ => by decide, fun _ => m⟩
    · rw [if_neg m]
      exact ⟨fun z => absurd z m, fun z => absurd z (by decide)⟩
theorem zone_cases (ps : List Nat) (g s : Nat) : zone ps g s = 1 ∨ zone ps g s = 2 ∨ zone ps g s = 3 := by
  unfold zone
  split
  · exact .inr (.inl rfl)
  · split
    · exact .inl rfl
    · exact .inr (.inr rfl)
theorem zone_one {ps : List Nat} {g s : Nat} : zone ps g s = 1 ↔ (s ∈ path ps g ∧ g ≠ s) := by
  unfold zone
  by_cases e : g = s
  · rw [if_pos e]
    exact ⟨fun z => absurd z (by decide), fun z => absurd e z.2⟩
  · rw [if_neg e]
    by_cases m : s ∈ path ps g
    · rw [if_pos m]
      exact ⟨fun _ => ⟨m, e⟩, fun _ => rfl⟩
    · rw [if_neg m]
      exact ⟨fun z => absurd z (by decide), fun z => absurd z.1 m⟩
theorem Good.snoc {ps : List Nat} (h : Good ps) {g : Nat} (hg : g ≤ ps.length) : Good (ps ++ [g]) := by
  intro i hi
  rw [List.length_append, List.length_singleton] at hi
  rw [List.getD_eq_getElem?_getD]
  by_cases e : i < ps.length
  · rw [List.getElem?_append_left e, ← List.getD_eq_getElem?_getD]
    exact h i e
  · have e2 : i = ps.length := by omega
    subst e2
    rw [List.getElem?_append_right (Nat.le_refl _), Nat.sub_self]
    exact hg
theorem Good.nil : Good [] := fun i h => absurd h (Nat.not_lt_zero i)
theorem Good.range (n : Nat) : Good (List.range n) := by
  intro i hi
  rw [List.length_range] at hi
  rw [List.getD_eq_getElem?_getD, List.getElem?_range hi]
  exact Nat.le_refl _
/-- how many of the groups below n lie on the way of g, g apart: the way but its first -/
theorem count_below {ps : List Nat} (h : Good ps) {g : Nat} (h2 : g ≤ ps.length) : ((List.range (ps.length + 1)).filter fun s => decide (zone ps g s = 1)).length = (path ps g).length - 1 := by
  have nd1 : ((List.range (ps.length + 1)).filter fun s => decide (zone ps g s = 1)).Nodup := List.Sublist.nodup List.filter_sublist List.nodup_range
  have nd2 : ((path ps g).erase g).Nodup := (path_nodup h g g (Nat.le_refl _) h2).erase g
  have pm : ((List.range (ps.length + 1)).filter fun s => decide (zone ps g s = 1)).Perm ((path ps g).erase g) := by
    rw [List.perm_ext_iff_of_nodup nd1 nd2]
    intro x
    rw [List.mem_filter, List.mem_range, decide_eq_true_iff, zone_one, (path_nodup h g g (Nat.le_refl _) h2).mem_erase_iff]
    constructor
    · rintro ⟨_, a, b⟩
      exact ⟨fun z => b z.symm, a⟩
    · rintro ⟨a, b⟩
      have := path_le h h2 b
      exact ⟨by omega, b, fun z => a z.symm⟩
  rw [pm.length_eq, List.length_erase_of_mem (path_self h h2)]
end My
namespace My
open PySem PySem.Spec PyProof.Rows L2 GL Evl StX SkE
/-! ### comprehensions over words -/
theorem given_take {α : Type} (l : List α) (p : α → Bool) (g : α → V) : ∀ n, n ≤ l.length → given n (fun i => (l[i]?.map p).getD false) (fun i => (l[i]?.map g).getD .non) = ((l.take n).filter p).map g
  | 0, _ => rfl
  | n + 1, h => by
    have ih := given_take l p g n (by omega)
    have e2 : l[n]? = some l[n] := List.getElem?_eq_getElem (by omega)
    rw [List.take_add_one, e2, List.filter_append, List.map_append, ← ih]
    by_cases hp : p l[n] = true
    · rw [given_yes (by rw [e2]; exact hp)]
      congr 1
      · rw [e2]
        show _ = List.map g (List.filter p [l[n]])
        rw [List.filter_cons_of_pos hp]
        rfl
    · have hp' : p l[n] = false := by simpa using hp
      rw [given_no (by rw [e2]; exact hp')]
      show _ = _ ++ List.map g (List.filter p [l[n]])
      rw [List.filter_cons_of_neg hp]
      simp
theorem given_of {α : Type} (l : List α) (p : α → Bool) (g : α → V) : given l.length (fun i => (l[i]?.map p).getD false) (fun i => (l[i]?.map g).getD .non) = (l.filter p).map g := by
  rw [given_take l p g l.length (Nat.le_refl _), List.take_length]
section
variable {K : PySem.W.Frag} {σ : L2.St} {H H' : Hp} {te tl tb ta : TE} {t : TT} {a : Addr} {us ws : Rw} {j : Nat} {vs : List Nat} {xs : List V} {v : V} {D : Ends} {tz : TS}
theorem el_lcT (f : Nat → Bool) (g : Nat → V) (h : Ev tl σ H (.ref a)) (hx : SqT K H a xs) (hz : xs.length ≤ 40000) (hw : ∀ x, wipe ((wipe σ vs).set j (some x)) vs = wipe σ vs)
    (ht : ∀ (i : Nat) (x : V) H1, Ex H H1 → xs[i]? = some x → EvT t ((wipe σ vs).set j (some x)) H1 (f i)) (he : ∀ (i : Nat) (x : V) H1, Ex H H1 → xs[i]? = some x → f i = true → Ev te ((wipe σ vs).set j (some x)) H1 (g i)) :
    EvL (tLc (iTup K tl) (gName j) t te vs) σ H (given xs.length f g) := fun H0 e Q q => h H0 e _ fun H1 e1 => ⟨a, rfl, ⟨xs, ex_t (e.trans e1) hx⟩, fun Dl hD =>
  lc_it (walk_tup (K := K) (a := a) (xs := xs)) (Cw H1 f g Dl) ⟨hD, Ex.new hD, upd_same⟩ (fun i H' _ p => ex_t ((e.trans e1).trans p.2.1) hx) (fun i x H' H2 hi p y => by
    obtain ⟨rfl, hx'⟩ := y
    exact ⟨hw x, cw_turn p (by omega) (ht i x H1 (e.trans e1) hx') (fun hf => he i x H1 (e.trans e1) hx' hf)⟩)
    (fun H' p => q Dl H' (fresh_back e1 p.1) (e1.trans p.2.1) p.2.2)⟩
theorem w_item {us : Rw} {i : Nat} {x : V} (h : (us.map wV)[i]? = some x) : ∃ u, us[i]? = some u ∧ x = wV u ∧ u ∈ us := by
  rw [List.getElem?_map] at h
  obtain ⟨u, hu, rfl⟩ := Option.map_eq_some_iff.mp h
  exact ⟨u, hu, rfl, List.mem_of_getElem? hu⟩
/-- over a tuple of words -/
theorem el_lcW (p : Wd → Bool) (g : Wd → V) (h : Ev tl σ H (.ref a)) (hx : SqT K H a (us.map wV)) (hz : us.length ≤ 1000) (hw : ∀ x, wipe ((wipe σ vs).set j (some x)) vs = wipe σ vs)
    (ht : ∀ u H1, Ex H H1 → u ∈ us → EvT t ((wipe σ vs).set j (some (wV u))) H1 (p u)) (he : ∀ u H1, Ex H H1 → u ∈ us → p u = true → Ev te ((wipe σ vs).set j (some (wV u))) H1 (g u)) :
    EvL (tLc (iTup K tl) (gName j) t te vs) σ H ((us.filter p).map g) := by
  refine el_is (el_lcT (fun i => (us[i]?.map p).getD false) (fun i => (us[i]?.map g).getD .non) h hx (by rw [List.length_map]; omega) hw (fun i x H1 e1 hi => ?_) (fun i x H1 e1 hi hp => ?_)) (by rw [List.length_map]; exact given_of us p g)
  · obtain ⟨u, hu, rfl, m⟩ := w_item hi
    rw [hu]
    exact ht u H1 e1 m
  · obtain ⟨u, hu, rfl, m⟩ := w_item hi
    rw [hu] at hp ⊢
    exact he u H1 e1 m hp
/-- over a new list of words -/
theorem el_lcWN (p : Wd → Bool) (g : Wd → V) (h : EvL tl σ H (us.map wV)) (hz : us.length ≤ 1000) (hw : ∀ x, wipe ((wipe σ vs).set j (some x)) vs = wipe σ vs)
    (ht : ∀ u H1, Ex H H1 → u ∈ us → EvT t ((wipe σ vs).set j (some (wV u))) H1 (p u)) (he : ∀ u H1, Ex H H1 → u ∈ us → p u = true → Ev te ((wipe σ vs).set j (some (wV u))) H1 (g u)) :
    EvL (tLc (iList K tl) (gName j) t te vs) σ H ((us.filter p).map g) := by
  refine el_is (el_lcNL (fun i => (us[i]?.map p).getD false) (fun i => (us[i]?.map g).getD .non) h (by rw [List.length_map]; omega) hw (fun i x H1 e1 hi => ?_) (fun i x H1 e1 hi hp => ?_)) (by rw [List.length_map]; exact given_of us p g)
  · obtain ⟨u, hu, rfl, m⟩ := w_item hi
    rw [hu]
    exact ht u H1 e1 m
  · obtain ⟨u, hu, rfl, m⟩ := w_item hi
    rw [hu] at hp ⊢
    exact he u H1 e1 m hp
/-- over a list of words that stands -/
theorem el_lcWL (p : Wd → Bool) (g : Wd → V) (h : Ev tl σ H (.ref a)) (hx : SqL K H a (us.map wV)) (hz : us.length ≤ 1000) (hw : ∀ x, wipe ((wipe σ vs).set j (some x)) vs = wipe σ vs)
    (ht : ∀ u H1, Ex H H1 → u ∈ us → EvT t ((wipe σ vs).set j (some (wV u))) H1 (p u)) (he : ∀ u H1, Ex H H1 → u ∈ us → p u = true → Ev te ((wipe σ vs).set j (some (wV u))) H1 (g u)) :
    EvL (tLc (iList K tl) (gName j) t te vs) σ H ((us.filter p).map g) := by
  refine el_is (el_lcL (fun i => (us[i]?.map p).getD false) (fun i => (us[i]?.map g).getD .non) h hx (by rw [List.length_map]; omega) hw (fun i x H1 e1 hi => ?_) (fun i x H1 e1 hi hp => ?_)) (by rw [List.length_map]; exact given_of us p g)
  · obtain ⟨u, hu, rfl, m⟩ := w_item hi
    rw [hu]
    exact ht u H1 e1 m
  · obtain ⟨u, hu, rfl, m⟩ := w_item hi
    rw [hu] at hp ⊢
    exact he u H1 e1 m hp
theorem filter_yes {α : Type} (l : List α) : l.filter (fun _ => true) = l := List.filter_eq_self.mpr fun _ _ => rfl
/-! words in rows -/
theorem rv_inW {w : Wd} (h : SqT K H a (us.map wV)) : RV (rIn K false) (wV w) (.ref a) H (.bl (decide (w ∈ us))) := by
  have z := rv_isT (x := wV w) h rfl (flat_w us)
  rwa [inV_w] at z
theorem rv_niW {w : Wd} (h : SqT K H a (us.map wV)) : RV (rIn K true) (wV w) (.ref a) H (.bl (!decide (w ∈ us))) := by
  have z := rv_niT (x := wV w) h rfl (flat_w us)
  rwa [inV_w] at z
theorem ev_inW {w : Wd} (h1 : Ev ta σ H (wV w)) (h2 : Ev tb σ H (.ref a)) (h : RowAt K H a us) : Ev (tOp (rIn K false) ta tb) σ H (.bl (decide (w ∈ us))) := ev_op h1 h2 (rv_inW h.sq)
theorem ev_niW {w : Wd} (h1 : Ev ta σ H (wV w)) (h2 : Ev tb σ H (.ref a)) (h : RowAt K H a us) : Ev (tOp (rIn K true) ta tb) σ H (.bl (!decide (w ∈ us))) := ev_op h1 h2 (rv_niW h.sq)
/-- evaluates to a tuple of these words -/
def EvR (K : PySem.W.Frag) (te : TE) (σ : L2.St) (H : Hp) (us : Rw) : Prop := ∀ H1, Ex H H1 → ∀ Q : VK, (∀ p H2, Ex H1 H2 → RowX K H2 p us → Q (.ref p) H2) → te σ H1 Q
theorem EvR.mono (e : Ex H H') (h : EvR K te σ H us) : EvR K te σ H' us := fun H1 a Q q => h H1 (e.trans a) Q q
theorem er_tup {tA : TA} (h : EvA tA σ H (us.map wV)) (hl : us.length ≤ 1000) : EvR K (tTupX tA) σ H us := fun H1 e Q q => h H1 e _ fun H2 e2 => ⟨by rw [List.length_map, sizeLine_eq]; omega, fun p o hp b => q p _ (e2.trans (Ex.new hp)) (.fx upd_same b)⟩
theorem er_var {i : Nat} (h : σ[i]? = some (some (.ref a))) (hr : RowX K H a us) : EvR K (tVar i) σ H us := fun H1 e Q q => ⟨_, h, q a H1 (Ex.refl H1) (hr.ex e)⟩
/-- row == (words) -/
theorem ev_eqW (h : Ev ta σ H (.ref a)) (hr : RowX K H a us) (hu : EvR K tb σ H ws) : Ev (tOp (rEqD K) ta tb) σ H (.bl (decide (us = ws))) := fun H1 e Q q =>
  h H1 e _ fun H2 e2 => hu H2 (e.trans e2) _ fun p H3 e3 hp => ⟨dRow us, dRow ws, (hr.ex ((e.trans e2).trans e3)).dp, hp.dp, row_shaped _, row_shaped _, by
    rw [eqv_row]
    exact q H3 (e2.trans e3)⟩
/-- f(x, (words)) -/
theorem ev_callR {sp : Sp} {Er : XK} {x z : V} (h : Ev ta σ H x) (hu : EvR K tb σ H ws) (hs : ∀ p H1, Ex H H1 → RowX K H1 p ws → SpV sp [x, .ref p] H1 z) : Ev (tCall sp [] Er (tCons ta (tCons tb tNil))) σ H z := fun H1 e Q q =>
  h H1 e _ fun H2 e2 => hu H2 (e.trans e2) _ fun p H3 e3 hp => hs p H3 ((e.trans e2).trans e3) hp H3 (Ex.refl H3) Q (fun H4 e4 => q H4 ((e2.trans e3).trans e4)) Er
/-- row.index(word) -/
theorem idx_first {w : Wd} : ∀ {us : Rw}, w ∈ us → us[us.idxOf w]? = some w ∧ ∀ m, m < us.idxOf w → us[m]? ≠ some w
  | u :: us, h => by
    rw [List.idxOf_cons]
    by_cases e : u = w
    · subst e
      simp
    · have hw : w ∈ us := (List.mem_cons.mp h).resolve_left fun z => e z.symm
      obtain ⟨h1, h2⟩ := idx_first hw
      have ne : (u == w) = false := beq_eq_false_iff_ne.mpr e
      rw [ne]
      refine ⟨by simpa using h1, fun m hm => ?_⟩
      cases m with
      | zero => simpa using e
      | succ m =>
        rw [List.getElem?_cons_succ]
        exact h2 m (by simpa using hm)
theorem ev_idx {w : Wd} (h1 : Ev ta σ H (.ref a)) (h2 : Ev tb σ H (wV w)) (hr : RowX K H a us) (hw : w ∈ us) :
    Ev (tBMX K (fun x xs H Q => ∃ p, ∃ ys : List Str, ∃ z j, x = .ref p ∧ xs = [.str z] ∧ SqT K H p (ys.map V.str) ∧ ys[j]? = some z ∧ (∀ m, m < j → ys[m]? ≠ some z) ∧ Q (.int (j : Nat)) H) ta (tCons tb tNil)) σ H (nV (us.idxOf w)) := fun H1 e Q q =>
  h1 H1 e _ fun H2 e2 => ⟨⟨a, rfl, (hr.ex (e.trans e2)).tp⟩, h2 H2 (e.trans e2) _ fun H3 e3 => by
    obtain ⟨i1, i2⟩ := idx_first hw
    refine ⟨a, us.map Wd.s, w.s, us.idxOf w, rfl, rfl, by rw [← wV_strs]; exact (hr.ex ((e.trans e2).trans e3)).sq, by rw [List.getElem?_map, i1]; rfl, fun m hm q2 => ?_, q H3 (e2.trans e3)⟩
    rw [List.getElem?_map] at q2
    obtain ⟨u, hu, eu⟩ := Option.map_eq_some_iff.mp q2
    exact i2 m hm (by rw [hu, Wd.inj eu])⟩
/-- row[i:], row[:i], looked into -/
theorem ev_inCut {lo hi : Option Int} {tl th : TO} {w : Wd} (h1 : Ev ta σ H (wV w)) (h2 : Ev te σ H (.ref a)) (hl : EvO tl σ H lo) (hh : EvO th σ H hi) (hr : RowX K H a us) (cs : Rw) (hc : cutV (us.map wV) lo hi = cs.map wV) (hall : HT.sIx us.length 0 lo = 0 → HT.sIx us.length us.length hi = us.length → cs = us) :
    Ev (tOp (rIn K false) ta (tSl (rSlA K) te tl th)) σ H (.bl (decide (w ∈ cs))) := fun H1 e Q q =>
  h1 H1 e _ fun H2 e2 => h2 H2 (e.trans e2) _ fun H3 e3 => hl H3 ((e.trans e2).trans e3) _ fun H4 e4 => hh H4 (((e.trans e2).trans e3).trans e4) _ fun H5 e5 => by
    have x5 := (((e.trans e2).trans e3).trans e4).trans e5
    refine ⟨a, us.map wV, rfl, (hr.ex x5).sq, fun z => ?_, fun z p hp => ?_⟩
    · rw [List.length_map] at z
      have ec := hall z.1 z.2
      subst ec
      exact rv_inW (hr.ex x5).sq H5 (Ex.refl H5) Q fun H6 e6 => q H6 ((((e2.trans e3).trans e4).trans e5).trans e6)
    · rw [hc]
      exact rv_inW (us := cs) (st_of upd_same) _ (Ex.refl _) Q fun H6 e6 => q H6 (((((e2.trans e3).trans e4).trans e5).trans (Ex.new hp)).trans e6)
end
end My
namespace My
open PySem PySem.Spec PyProof.Rows L2 GL Evl StX SkE
/-! ### promises: words and rows -/
def sp_isint : Sp := fun vs H Q _ => ∃ i : Int, vs = [.int i] ∧ RetV (.bl true) H Q
def sp_islist (K : PySem.W.Frag) : Sp := fun vs H Q _ => ∃ a us, vs = [.ref a] ∧ RowAt K H a us ∧ RetV (.bl true) H Q
def sp_isword (K : PySem.W.Frag) : Sp := fun vs H Q _ => ∃ w b, ∃ ws : Rw, vs = [wV w, .ref b] ∧ SqT K H b (ws.map wV) ∧ RetV (.bl (decide (w ∈ ws))) H Q
def sp_adw (K : PySem.W.Frag) : Sp := fun vs H Q _ => ∃ a b, ∃ us ws : Rw, vs = [.ref a, .ref b] ∧ RowAt K H a us ∧ SqT K H b (ws.map wV) ∧ us.Nodup ∧ us.length ≤ 900 ∧ RetV (.bl (pW us ws)) H Q
def sp_hwo (K : PySem.W.Frag) : Sp := fun vs H Q _ => ∃ a b, ∃ us ws : Rw, vs = [.ref a, .ref b] ∧ RowAt K H a us ∧ SqT K H b (ws.map wV) ∧ us.Nodup ∧ us.length ≤ 900 ∧ RetV (.bl (pW us ws)) H Q
def sp_taa (K : PySem.W.Frag) : Sp := fun vs H Q _ => ∃ a us w, vs = [.ref a, wV w] ∧ RowX K H a us ∧ RetV (.bl (pTA us w)) H Q
def sp_ohh (K : PySem.W.Frag) : Sp := fun vs H Q _ => ∃ a us, vs = [.ref a] ∧ RowX K H a us ∧ RetV (.bl (pOH us)) H Q
def sp_row (K : PySem.W.Frag) (f : Rw → Bool) : Sp := fun vs H Q _ => ∃ a us, vs = [.ref a] ∧ RowX K H a us ∧ RowOk us ∧ RetV (.bl (f us)) H Q
def sp_isrow (K : PySem.W.Frag) : Sp := fun vs H Q _ => ∃ k a us, vs = [wV k, .ref a] ∧ k ∈ kindRows ∧ RowX K H a us ∧ RowOk us ∧ RetV (.bl (pRow k us)) H Q
def sp_fitb (K : PySem.W.Frag) : Sp := fun vs H Q _ => ∃ a us, ∃ n : Nat, vs = [.ref a, nV n] ∧ RowX K H a us ∧ us ≠ [] ∧ RetV (.bl (pBatch us n)) H Q
def sp_fits (K : PySem.W.Frag) : Sp := fun vs H Q _ => ∃ a us b, vs = [.ref a, .bl b] ∧ RowX K H a us ∧ RetV (.bl (pShared us b)) H Q
section
variable {P : Program} {w : World} {K : PySem.W.Frag} {mg : Str → Option Value} {base : Heap} {H H' : Hp} {σ : L2.St} {te ta tb : TE} {D : Ends} {tz : TS} {a b : Addr} {us ws : Rw} {x c : V} {tl th : TO} {lo hi : Option Int}
theorem rc_isiE {u t : Value} {b : Bool} (k : ClsV c u) (ty : ∀ H1, Ex H H1 → TyX K H1 x t) (h : PySem.W.kitOne K t u = some b) : RC (rIsi K) [x, c] H (.bl b) := fun H1 e Q q => ⟨x, c, t, u, b, rfl, k, ty H1 e, h, q H1 (Ex.refl H1)⟩
theorem sv_isword {w : Wd} (h : SqT K H b (ws.map wV)) : SpV (sp_isword K) [wV w, .ref b] H (.bl (decide (w ∈ ws))) := fun _ e _ q _ => ⟨w, b, ws, rfl, ex_t e h, q⟩
theorem sv_adw (h : RowAt K H a us) (h2 : SqT K H b (ws.map wV)) (nd : us.Nodup) (hl : us.length ≤ 900) : SpV (sp_adw K) [.ref a, .ref b] H (.bl (pW us ws)) := fun _ e _ q _ => ⟨a, b, us, ws, rfl, h.ex e, ex_t e h2, nd, hl, q⟩
theorem sv_hwo (h : RowAt K H a us) (h2 : SqT K H b (ws.map wV)) (nd : us.Nodup) (hl : us.length ≤ 900) : SpV (sp_hwo K) [.ref a, .ref b] H (.bl (pW us ws)) := fun _ e _ q _ => ⟨a, b, us, ws, rfl, h.ex e, ex_t e h2, nd, hl, q⟩
theorem sv_taa {w : Wd} (h : RowX K H a us) : SpV (sp_taa K) [.ref a, wV w] H (.bl (pTA us w)) := fun _ e _ q _ => ⟨a, us, w, rfl, h.ex e, q⟩
theorem sv_ohh (h : RowX K H a us) : SpV (sp_ohh K) [.ref a] H (.bl (pOH us)) := fun _ e _ q _ => ⟨a, us, rfl, h.ex e, q⟩
theorem sv_row {f : Rw → Bool} (h : RowX K H a us) (ok : RowOk us) : SpV (sp_row K f) [.ref a] H (.bl (f us)) := fun _ e _ q _ => ⟨a, us, rfl, h.ex e, ok, q⟩
theorem sv_isrow {k : Wd} (hk : k ∈ kindRows) (h : RowX K H a us) (ok : RowOk us) : SpV (sp_isrow K) [wV k, .ref a] H (.bl (pRow k us)) := fun _ e _ q _ => ⟨k, a, us, rfl, hk, h.ex e, ok, q⟩
theorem cut_from {i : Nat} (hi : i ≤ us.length) : cutV (us.map wV) (some (i : Int)) none = (us.drop i).map wV := by
  unfold cutV
  rw [HT.sIx_nat, HT.sIx_none, List.length_map, Nat.min_eq_left hi, ← List.map_drop, List.take_of_length_le (by rw [List.length_map, List.length_drop]; omega)]
theorem cut_to {i : Nat} (hi : i ≤ us.length) : cutV (us.map wV) none (some (i : Int)) = (us.take i).map wV := by
  unfold cutV
  rw [HT.sIx_nat, HT.sIx_none, List.length_map, Nat.min_eq_left hi, Nat.sub_zero, List.drop_zero, List.map_take]
theorem idx_le (w : Wd) (us : Rw) : us.idxOf w ≤ us.length := List.idxOf_le_length
theorem all_from {i : Nat} (hi : i ≤ us.length) : HT.sIx us.length 0 (some (i : Int)) = 0 → HT.sIx us.length us.length none = us.length → us.drop i = us := fun h _ => by
  rw [HT.sIx_nat, Nat.min_eq_left hi] at h
  rw [h, List.drop_zero]
theorem all_to {i : Nat} (hi : i ≤ us.length) : HT.sIx us.length 0 none = 0 → HT.sIx us.length us.length (some (i : Int)) = us.length → us.take i = us := fun _ h => by
  rw [HT.sIx_nat, Nat.min_eq_left hi] at h
  rw [h, List.take_length]
theorem q_asgCut {i : Nat} (h2 : Ev te σ H (.ref a)) (hl : EvO tl σ H lo) (hh : EvO th σ H hi) (hr : RowX K H a us) (cs : Rw) (hc : cutV (us.map wV) lo hi = cs.map wV) (hall : HT.sIx us.length 0 lo = 0 → HT.sIx us.length us.length hi = us.length → cs = us)
    (k : ∀ p H1, Ex H H1 → RowAt K H1 p cs → tz D (σ.set i (some (.ref p))) H1) : tSeq (tAsg (tSl (rSlA K) te tl th) (gName i)) tz D σ H :=
  h2 H (Ex.refl H) _ fun H3 e3 => hl H3 e3 _ fun H4 e4 => hh H4 (e3.trans e4) _ fun H5 e5 => by
    have x5 := (e3.trans e4).trans e5
    refine ⟨a, us.map wV, rfl, (hr.ex x5).sq, fun z => ?_, fun z p hp => ?_⟩
    · rw [List.length_map] at z
      have ec := hall z.1 z.2
      subst ec
      exact k a H5 x5 (hr.ex x5).at_
    · rw [hc]
      exact k p _ (x5.trans (Ex.new hp)) (.tup upd_same)
theorem ev_lenSet {xs : List Str} (h : Ev te σ H (.ref a)) (hs : SqT K H a (xs.map V.str)) (nd : xs.Nodup) (hl : xs.length ≤ 1000) : Ev (tLenSetT K te) σ H (nV xs.length) := fun H1 e Q q => h H1 e _ fun H2 e2 => ⟨a, xs, rfl, ex_t (e.trans e2) hs, nd, hl, q H2 e2⟩
theorem ev_lenT {xs : List V} (h : Ev te σ H (.ref a)) (hs : SqT K H a xs) : Ev (tCB (rLenS K) (tCons te tNil)) σ H (nV xs.length) := fun H1 e Q q => h H1 e _ fun H2 e2 => ⟨a, xs, rfl, .inr (ex_t (e.trans e2) hs), q H2 e2⟩
theorem ok_is_an_integer (T : Txt K mg w)  : FnG P w K mg base CX0 1 T.f_is_an_integer T.fd_is_an_integer ["value"] sp_isint := by
  refine okG T.F_is_an_integer sc_is_an_integer (fun vs H Q E h => ?_) (fun cdv A outer s H vs Q E gd hr h => ?_)
  · obtain ⟨_, rfl, _⟩ := h
    all_goals rfl
  · obtain ⟨i, rfl, q⟩ := h
    refine ⟨_, (pss_one (ps_ret (pe_and (pe_callB call_isi (by rfl) T.z_isinstance boot_isinstance (pa_cons (pv 0) (pa_cons (pe_bltn (v := .ty "int") (u := .type "int") (by rfl) T.z_int (by decide +kernel) rfl) pa_nil))) (pe_one (pe_not (pe_callB call_isi (by rfl) T.z_isinstance boot_isinstance (pa_cons (pv 0) (pa_cons (pe_bltn (v := .ty "bool") (u := .type "bool") (by rfl) T.z_bool (by decide +kernel) rfl) pa_nil)))))))), ?_⟩
    refine s_ret (v := .bl true) (ev_andV (a := true) (b := true) (ev_cb (ea_cons (ev_var rfl) (ea_cons ev_c ea_nil)) (rc_isi (.ty "int") (fun _ => .base (.int i)) (kit_ty (by decide +kernel)))) fun _ => ?_) q
    exact ev_notV (a := false) (ev_cb (ea_cons (ev_var rfl) (ea_cons ev_c ea_nil)) (rc_isi (.ty "bool") (fun _ => .base (.int i)) (kit_ty (by decide +kernel))))
theorem ok_is_list (T : Txt K mg w)  : FnG P w K mg base CX0 1 T.f_is_list T.fd_is_list ["value"] (sp_islist K) := by
  refine okG T.F_is_list sc_is_list (fun vs H Q E h => ?_) (fun cdv A outer s H vs Q E gd hr h => ?_)
  · obtain ⟨_, _, rfl, _⟩ := h
    all_goals rfl
  · obtain ⟨a, us, rfl, ra, q⟩ := h
    refine ⟨_, (pss_one (ps_ret (pe_callB call_isiT (by rfl) T.z_isinstance boot_isinstance (pa_cons (pv 0) (pa_cons (pe_tup (pa_cons (pe_bltn (v := .ty "list") (u := .type "list") (by rfl) T.z_list (by decide +kernel) rfl) (pa_cons (pe_bltn (v := .ty "tuple") (u := .type "tuple") (by rfl) T.z_tuple (by decide +kernel) rfl) pa_nil))) pa_nil))))), ?_⟩
    refine ⟨_, rfl, (by show 2 ≤ sizeLine; decide), fun p hp => ?_⟩
    have e := Ex.new (o := .tup [.ty "list", .ty "tuple"]) hp
    exact ⟨.ref a, p, _, _, _, true, rfl, upd_same, .cons (.ty "list") (.cons (.ty "tuple") .nil), (ra.ex e).ty, kitAny_cons (b := false) (kit_ty (by decide +kernel)) (fun _ => kitAny_cons (b := true) (kit_ty (by decide +kernel)) (fun z => nomatch z) (fun _ => rfl)) (fun z => nomatch z), q _ e⟩
theorem ok_is_word (T : Txt K mg w)  : FnG P w K mg base CX0 1 T.f_is_word T.fd_is_word ["value", "words"] (sp_isword K) := by
  refine okG T.F_is_word sc_is_word (fun vs H Q E h => ?_) (fun cdv A outer s H vs Q E gd hr h => ?_)
  · obtain ⟨_, _, _, rfl, _⟩ := h
    all_goals rfl
  · obtain ⟨w0, b, ws, rfl, hb, q⟩ := h
    refine ⟨_, (pss_one (ps_ret (pe_and (pe_callB call_isi (by rfl) T.z_isinstance boot_isinstance (pa_cons (pv 0) (pa_cons (pe_bltn (v := .ty "str") (u := .type "str") (by rfl) T.z_str (by decide +kernel) rfl) pa_nil))) (pe_one (pe_cmpR op_in_seq (pv 0) (pv 1) (by rfl)))))), ?_⟩
    refine s_ret (ev_is (ev_andV (a := true) (ev_cb (ea_cons (ev_var rfl) (ea_cons ev_c ea_nil)) (rc_isi (.ty "str") (fun _ => .base (.str _)) (kit_ty (by decide +kernel)))) fun _ => ev_op (ev_var rfl) (ev_var rfl) (rv_inW hb)) (by rw [Bool.true_and])) q
theorem ok_are_different_words (T : Txt K mg w) (G_is_word : FnG P w K mg base CX0 1 T.f_is_word T.fd_is_word ["value", "words"] (sp_isword K)) : FnG P w K mg base CX0 2 T.f_are_different_words T.fd_are_different_words ["values", "words"] (sp_adw K) := by
  refine okG T.F_are_different_words sc_are_different_words (fun vs H Q E h => ?_) (fun cdv A outer s H vs Q E gd hr h => ?_)
  · obtain ⟨_, _, _, _, rfl, _⟩ := h
    all_goals rfl
  · obtain ⟨a, b, us, ws, rfl, ra, hb, nd, hl, q⟩ := h
    refine ⟨_, (pss_one (ps_ret (pe_and (pe_callB (cr_all rfl) (by rfl) T.z_all boot_all (pa_cons (pe_lc (own := [("value", 2)]) (g := gName 2) rfl sc_are_different_words.nd (pi_tup (pv 0)) (blkOk_by (N := N_are_different_words) (sc := defScope s_are_different_words) (by decide +kernel)) (fun _ _ _ _ _ => (pg_name (i := 2) sc_are_different_words.nd rfl (Or.inl rfl) (Or.inr rfl))) (fun _ _ _ _ _ => pts_nil) (fun _ _ _ _ _ => (pc gd G_is_word (hr.mono (by decide)) (by rfl) T.m_is_word T.F_is_word.kp T.b_is_word .nil pass0 (pa_cons (pv 2) (pa_cons (pv 1) pa_nil))))) pa_nil)) (pe_one (pe_cmpR op_eq (pe_lenSetT (by rfl) T.z_len (by rfl) T.z_set (pv 0)) (pe_callB call_len_seq (by rfl) T.z_len PySem.boot_len (pa_cons (pv 0) pa_nil)) (nomark _)))))), ?_⟩
    refine s_ret (ev_is (ev_andV (a := pW us ws) (b := true) (ev_is (ev_allB (bs := us.map fun u => decide (u ∈ ws)) (el_is (el_lcW (us := us) (fun _ => true) (fun u => .bl (decide (u ∈ ws))) (ev_var rfl) ra.sq (by omega) (fun _ => rfl) (fun u H1 e1 hu => et_yes) (fun u H1 e1 hu _ => ev_call (ea_cons (ev_var rfl) (ea_cons (ev_var rfl) ea_nil)) (sv_isword (ex_t e1 hb)))) (by rw [filter_yes, List.map_map]; rfl))) (by rw [List.all_map]; rfl)) fun _ => ?_) (by rw [Bool.and_true])) q
    have z := ev_op (r := rEq) (ev_lenSet (K := K) (H := H) (te := tVar 0) (σ := start N_are_different_words [.ref a, .ref b]) (a := a) (xs := us.map Wd.s) (ev_var rfl) (by rw [← wV_strs]; exact ra.sq) (nodup_s nd) (by rw [List.length_map]; omega)) (ev_lenT (K := K) (te := tVar 0) (xs := us.map wV) (ev_var rfl) ra.sq) (rv_eq rfl)
    rw [List.length_map, List.length_map, decide_eq_true rfl] at z
    exact z
theorem ok_has_words_of (T : Txt K mg w) (G_are_different_words : FnG P w K mg base CX0 2 T.f_are_different_words T.fd_are_different_words ["values", "words"] (sp_adw K)) : FnG P w K mg base CX0 3 T.f_has_words_of T.fd_has_words_of ["value", "words"] (sp_hwo K) := by
  refine okG T.F_has_words_of sc_has_words_of (fun vs H Q E h => ?_) (fun cdv A outer s H vs Q E gd hr h => ?_)
  · obtain ⟨_, _, _, _, rfl, _⟩ := h
    all_goals rfl
  · obtain ⟨a, b, us, ws, rfl, ra, hb, nd, hl, q⟩ := h
    refine ⟨_, (pss_one (ps_ret (pe_and (pe_callB call_isi (by rfl) T.z_isinstance boot_isinstance (pa_cons (pv 0) (pa_cons (pe_bltn (v := .ty "tuple") (u := .type "tuple") (by rfl) T.z_tuple (by decide +kernel) rfl) pa_nil))) (pe_one (pc gd G_are_different_words (hr.mono (by decide)) (by rfl) T.m_are_different_words T.F_are_different_words.kp T.b_are_different_words .nil pass0 (pa_cons (pv 0) (pa_cons (pv 1) pa_nil))))))), ?_⟩
    exact s_ret (ev_is (ev_andV (a := true) (ev_cb (ea_cons (ev_var rfl) (ea_cons ev_c ea_nil)) (rc_isiE (.ty "tuple") (fun H1 e => (ra.ex e).ty) (kit_ty (by decide +kernel)))) fun _ => ev_call (ea_cons (ev_var rfl) (ea_cons (ev_var rfl) ea_nil)) (sv_adw ra hb nd hl)) (by rw [Bool.true_and])) q
theorem ok_tests_are_ahead (T : Txt K mg w)  : FnG P w K mg base CX0 1 T.f_tests_are_ahead T.fd_tests_are_ahead ["row", "word"] (sp_taa K) := by
  refine okG T.F_tests_are_ahead sc_tests_are_ahead (fun vs H Q E h => ?_) (fun cdv A outer s H vs Q E gd hr h => ?_)
  · obtain ⟨_, _, _, rfl, _⟩ := h
    all_goals rfl
  · obtain ⟨a, us, w0, rfl, ra, q⟩ := h
    refine ⟨_, (pss_cons (ps_if (pt_cmpR op_notIn_seq (pv 1) (pv 0) (by rfl)) (pss_one (ps_ret pe_bl)) pss_nil) (pss_cons (ps_set (i := 2) sc_tests_are_ahead.nd rfl (Or.inl rfl) (pe_slice sl_tupA (pv 0) (po_some (pe_bmX PySem.F.slot_tuple_index PySem.F.type_tuple_index mt_tup_index (pv 0) (pa_cons (pv 1) pa_nil))) po_none)) (pss_one (ps_ret (pe_and (pe_cmpR op_notIn_seq pe_str (pv 2) (by rfl)) (pe_one (pe_cmpR op_notIn_seq pe_str (pv 2) (by rfl)))))))), ?_⟩
    refine q_when (et_test (ev_op (ev_var rfl) (ev_var rfl) (rv_niW ra.sq))) (fun hb H1 e1 => s_ret (ev_is ev_c ?_) fun H2 e2 => q H2 (e1.trans e2)) fun hb H1 e1 => ?_
    · have hw : ¬ w0 ∈ us := by simpa using hb
      unfold pTA
      rw [if_neg hw]
    · have hw : w0 ∈ us := by simpa using hb
      refine q_asgCut (us := us) (lo := some (us.idxOf w0 : Nat)) (hi := none) (ev_var rfl) (eo_some (ev_idx (us := us) (ev_var rfl) (ev_var rfl) (ra.ex e1) hw)) eo_none (ra.ex e1) _ (cut_from (idx_le _ _)) (all_from (idx_le _ _)) fun p H2 e2 hp => ?_
      refine s_ret (ev_is (ev_andV (ev_op (ev_is ev_c (show V.str "look" = wV .look from rfl)) (ev_var rfl) (rv_niW hp.sq)) fun _ => ev_op (ev_is ev_c (show V.str "try" = wV .tri from rfl)) (ev_var rfl) (rv_niW hp.sq)) ?_) fun H3 e3 => q H3 ((e1.trans e2).trans e3)
      unfold pTA
      rw [if_pos hw]
theorem ok_off_has_home (T : Txt K mg w)  : FnG P w K mg base CX0 1 T.f_off_has_home T.fd_off_has_home ["row"] (sp_ohh K) := by
  refine okG T.F_off_has_home sc_off_has_home (fun vs H Q E h => ?_) (fun cdv A outer s H vs Q E gd hr h => ?_)
  · obtain ⟨_, _, rfl, _⟩ := h
    all_goals rfl
  · obtain ⟨a, us, rfl, ra, q⟩ := h
    refine ⟨_, (pss_one (ps_ret (pe_or (pe_cmpR op_notIn_seq pe_str (pv 0) (by rfl)) (pe_one (pe_cmpR op_in_seq pe_str (pe_slice sl_tupA (pv 0) po_none (po_some (pe_bmX PySem.F.slot_tuple_index PySem.F.type_tuple_index mt_tup_index (pv 0) (pa_cons pe_str pa_nil)))) (by rfl)))))), ?_⟩
    refine s_ret (ev_orV (a := !decide (Wd.off ∈ us)) (ev_op (ev_is ev_c (show V.str "off" = wV .off from rfl)) (ev_var rfl) (rv_niW ra.sq)) fun hb => ?_) q
    have hw : Wd.off ∈ us := by simpa using hb
    exact ev_inCut (us := us) (lo := none) (hi := some (us.idxOf Wd.off : Nat)) (ev_is ev_c (show V.str "home" = wV .home from rfl)) (ev_var rfl) eo_none (eo_some (ev_idx (us := us) (ev_var rfl) (ev_is ev_c (show V.str "off" = wV .off from rfl)) ra hw)) ra _ (cut_to (idx_le _ _)) (all_to (idx_le _ _))
end
end My
namespace My
open PySem PySem.Spec PyProof.Rows L2 GL Evl StX SkE
/-! ### promises: what is checked -/
def rowKs : List Pt := [.take, .give, .move, .lift]
def ptW : Pt → Wd
  | .take => .take | .give => .give | .move => .move | _ => .lift
def sp_cfails : Sp := fun vs H Q _ => ∃ w : Wd, vs = [wV w] ∧ w ∈ failWs ∧ RetV .non H Q
def sp_cbool : Sp := fun vs H Q _ => ∃ (x : Str) (b : Bool), vs = [.str x, .bl b] ∧ RetV .non H Q
def sp_cholds (K : PySem.W.Frag) : Sp := fun vs H Q _ => ∃ a, ∃ us : Rw, vs = [.ref a] ∧ RowAt K H a us ∧ us.Sublist kindRows ∧ RetV .non H Q
def sp_cbatch : Sp := fun vs H Q _ => ∃ n : Nat, vs = [nV n] ∧ 1 ≤ n ∧ n ≤ 50 ∧ RetV .non H Q
/-- the rows of r, each one of its kind -/
def rowOf (r : Ru) : Pt → Rw
  | .take => r.take | .give => r.give | .move => r.move | _ => r.lift
def sp_crows (K : PySem.W.Frag) : Sp := fun vs H Q _ => ∃ d r, vs = [.ref d] ∧ DictAt K H d rowKs r ∧ Ok r ∧ RetV .non H Q
theorem pW_kinds {us : Rw} (h : us.Sublist kindRows) : pW us kindRows = true := List.all_eq_true.mpr fun u hu => decide_eq_true (h.subset hu)
theorem rows_ok {r : Ru} (h : Ok r) {p : Pt} (hp : p ∈ rowKs) : RowOk (rowOf r p) ∧ pRow (ptW p) (rowOf r p) = true ∧ r.get p = .row (rowOf r p) ∧ ptW p ∈ kindRows ∧ V.str p.s = wV (ptW p) := by
  simp only [rowKs, List.mem_cons, List.not_mem_nil, or_false] at hp
  rcases hp with rfl | rfl | rfl | rfl
  · exact ⟨h.t.1, h.t.2.1, rfl, by decide, rfl⟩
  · exact ⟨h.g.1, h.g.2, rfl, by decide, rfl⟩
  · exact ⟨h.m.1, h.m.2.1, rfl, by decide, rfl⟩
  · exact ⟨h.l.1, h.l.2, rfl, by decide, rfl⟩
theorem at_last {us : Rw} (h : us ≠ []) : ∃ x, us.getLast? = some x ∧ atI (us.map wV) (-1) = some (wV x) := by
  have hl : 0 < us.length := List.length_pos_iff.mpr h
  refine ⟨us.getLast h, List.getLast?_eq_some_getLast h, ?_⟩
  unfold atI
  rw [List.length_map]
  have e : ixN us.length (-1) = some (us.length - 1) := by
    unfold ixN
    rw [if_neg (by omega), if_pos (by omega)]
    congr 1
    omega
  rw [e]
  show (us.map wV)[us.length - 1]? = _
  rw [at_w (w := us.getLast h)]
  rw [List.getLast_eq_getElem]
  exact List.getElem?_eq_getElem (by omega)
section
variable {P : Program} {w : World} {K : PySem.W.Frag} {mg : Str → Option Value} {base : Heap} {H H' : Hp} {σ : L2.St} {te ta tb : TE} {tA : TA} {D : Ends} {tz : TS} {a b : Addr} {us ws : Rw} {x c : V}
theorem cbl {a b : Bool} (h : a = b) : V.bl a = V.bl b := congrArg V.bl h
theorem er_is {ws' : Rw} (h : EvR K te σ H ws) (e : ws = ws') : EvR K te σ H ws' := by
  rw [← e]
  exact h
theorem ev_hwo {Er : XK} (h1 : Ev ta σ H (.ref a)) (ra : RowX K H a us) (h2 : EvR K tb σ H ws) (ok : RowOk us) : Ev (tCall (sp_hwo K) [] Er (tCons ta (tCons tb tNil))) σ H (.bl (pW us ws)) :=
  ev_callR h1 h2 fun p H1 e1 hp => sv_hwo (ra.ex e1).at_ hp.sq ok.nd (by have := ok.ln; omega)
theorem ev_lit {z : Str} {w0 : Wd} (e : z = w0.s) : Ev (tC (.str z)) σ H (wV w0) := by
  rw [e]
  exact ev_c
theorem er_4 {z1 z2 z3 z4 : Str} {w1 w2 w3 w4 : Wd} (e1 : z1 = w1.s) (e2 : z2 = w2.s) (e3 : z3 = w3.s) (e4 : z4 = w4.s) : EvR K (tTupX (tCons (tC (.str z1)) (tCons (tC (.str z2)) (tCons (tC (.str z3)) (tCons (tC (.str z4)) tNil))))) σ H [w1, w2, w3, w4] := er_tup (ea_cons (ev_lit e1) (ea_cons (ev_lit e2) (ea_cons (ev_lit e3) (ea_cons (ev_lit e4) ea_nil)))) (by show 4 ≤ 1000; omega)
theorem er_3 {z1 z2 z3 : Str} {w1 w2 w3 : Wd} (e1 : z1 = w1.s) (e2 : z2 = w2.s) (e3 : z3 = w3.s) : EvR K (tTupX (tCons (tC (.str z1)) (tCons (tC (.str z2)) (tCons (tC (.str z3)) tNil)))) σ H [w1, w2, w3] := er_tup (ea_cons (ev_lit e1) (ea_cons (ev_lit e2) (ea_cons (ev_lit e3) ea_nil))) (by show 3 ≤ 1000; omega)
theorem er_2 {z1 z2 : Str} {w1 w2 : Wd} (e1 : z1 = w1.s) (e2 : z2 = w2.s) : EvR K (tTupX (tCons (tC (.str z1)) (tCons (tC (.str z2)) tNil))) σ H [w1, w2] := er_tup (ea_cons (ev_lit e1) (ea_cons (ev_lit e2) ea_nil)) (by show 2 ≤ 1000; omega)
theorem er_1 {z1 : Str} {w1 : Wd} (e1 : z1 = w1.s) : EvR K (tTupX (tCons (tC (.str z1)) tNil)) σ H [w1] := er_tup (ea_cons (ev_lit e1) ea_nil) (by show 1 ≤ 1000; omega)
theorem er_0 : EvR K (tTupX tNil) σ H [] := er_tup (us := []) ea_nil (Nat.zero_le _)
theorem ev_inL {z : Str} {w0 : Wd} (e : z = w0.s) (h2 : Ev tb σ H (.ref a)) (ra : RowX K H a us) : Ev (tOp (rIn K false) (tC (.str z)) tb) σ H (.bl (decide (w0 ∈ us))) := ev_op (ev_lit e) h2 (rv_inW ra.sq)
theorem ev_niL {z : Str} {w0 : Wd} (e : z = w0.s) (h2 : Ev tb σ H (.ref a)) (ra : RowX K H a us) : Ev (tOp (rIn K true) (tC (.str z)) tb) σ H (.bl (!decide (w0 ∈ us))) := ev_op (ev_lit e) h2 (rv_niW ra.sq)
theorem ok_is_take_row (T : Txt K mg w) (G_has_words_of : FnG P w K mg base CX0 3 T.f_has_words_of T.fd_has_words_of ["value", "words"] (sp_hwo K)) (G_tests_are_ahead : FnG P w K mg base CX0 1 T.f_tests_are_ahead T.fd_tests_are_ahead ["row", "word"] (sp_taa K)) : FnG P w K mg base CX0 4 T.f_is_take_row T.fd_is_take_row ["value"] (sp_row K pTake) := by
  refine okG T.F_is_take_row sc_is_take_row (fun vs H Q E h => ?_) (fun cdv A outer s H vs Q E gd hr h => ?_)
  · obtain ⟨_, _, rfl, _⟩ := h
    all_goals rfl
  · obtain ⟨a, us, rfl, ra, ok, q⟩ := h
    refine ⟨_, (pss_cons (ps_if ((pw_or (pt_not (pt_val (pc gd G_has_words_of (hr.mono (by decide)) (by rfl) T.m_has_words_of T.F_has_words_of.kp T.b_has_words_of .nil pass0 (pa_cons (pv 0) (pa_cons (pe_tupX (pa_cons pe_str (pa_cons pe_str (pa_cons pe_str (pa_cons pe_str pa_nil))))) pa_nil))))) (pw_or1 (pt_cmpR op_notIn_seq pe_str (pv 0) (by rfl))))).pt (pss_one (ps_ret pe_bl)) pss_nil) (pss_cons (ps_if (pt_cmpR op_in_seq pe_str (pv 0) (by rfl)) (pss_one (ps_ret (pe_cmpR (op_eqD (roomU hr)) (pv 0) (pe_tupX (pa_cons pe_str (pa_cons pe_str pa_nil))) (nomark _)))) pss_nil) (pss_one (ps_ret (pe_and (pe_cmpR op_in_seq pe_str (pv 0) (by rfl)) (pe_one (pc gd G_tests_are_ahead (hr.mono (by decide)) (by rfl) T.m_tests_are_ahead T.F_tests_are_ahead.kp T.b_tests_are_ahead .nil pass0 (pa_cons (pv 0) (pa_cons pe_str pa_nil))))))))), ?_⟩
    refine q_when (b := !pW us [.live, .tri, .add, .look] || !decide (Wd.live ∈ us)) (et_or (et_not (et_B (ev_hwo (ev_var rfl) ra (er_4 rfl rfl rfl rfl) ok))) fun _ => et_test (ev_niL rfl (ev_var rfl) ra)) (fun hb H1 e1 => s_ret (ev_is ev_c (cbl (b := pTake us) ?_)) fun H2 e2 => q H2 (e1.trans e2)) fun hb H1 e1 => ?_
    · unfold pTake
      rcases Bool.or_eq_true_iff.mp hb with h | h
      · rw [Bool.not_eq_true'] at h
        rw [h, Bool.false_and, Bool.false_and]
      · rw [Bool.not_eq_true'] at h
        rw [h, Bool.and_false, Bool.false_and]
    rw [Bool.or_eq_false_iff, Bool.not_eq_false', Bool.not_eq_false'] at hb
    refine q_when (et_test (ev_inL (w0 := .tri) rfl (ev_var rfl) (ra.ex e1))) (fun hc H2 e2 => ?_) fun hc H2 e2 => ?_
    · refine s_ret (ev_is (ev_eqW (us := us) (ev_var rfl) ((ra.ex e1).ex e2) (er_2 (w1 := .tri) (w2 := .live) rfl rfl)) (congrArg V.bl ?_)) fun H3 e3 => q H3 ((e1.trans e2).trans e3)
      unfold pTake
      rw [hb.1, hb.2, if_pos (of_decide_eq_true hc)]
      rfl
    · refine s_ret (ev_is (ev_andV (ev_inL (w0 := .add) rfl (ev_var rfl) ((ra.ex e1).ex e2)) fun _ => ev_call (ea_cons (ev_var rfl) (ea_cons (ev_lit (w0 := .live) rfl) ea_nil)) (sv_taa (w := .live) ((ra.ex e1).ex e2))) (congrArg V.bl ?_)) fun H3 e3 => q H3 ((e1.trans e2).trans e3)
      unfold pTake
      rw [hb.1, hb.2, if_neg (of_decide_eq_false hc)]
      rfl
theorem ok_is_give_row (T : Txt K mg w) (G_has_words_of : FnG P w K mg base CX0 3 T.f_has_words_of T.fd_has_words_of ["value", "words"] (sp_hwo K)) (G_off_has_home : FnG P w K mg base CX0 1 T.f_off_has_home T.fd_off_has_home ["row"] (sp_ohh K)) : FnG P w K mg base CX0 4 T.f_is_give_row T.fd_is_give_row ["value"] (sp_row K pGive) := by
  refine okG T.F_is_give_row sc_is_give_row (fun vs H Q E h => ?_) (fun cdv A outer s H vs Q E gd hr h => ?_)
  · obtain ⟨_, _, rfl, _⟩ := h
    all_goals rfl
  · obtain ⟨a, us, rfl, ra, ok, q⟩ := h
    refine ⟨_, (pss_one (ps_ret (pe_and (pc gd G_has_words_of (hr.mono (by decide)) (by rfl) T.m_has_words_of T.F_has_words_of.kp T.b_has_words_of .nil pass0 (pa_cons (pv 0) (pa_cons (pe_tupX (pa_cons pe_str (pa_cons pe_str (pa_cons pe_str pa_nil)))) pa_nil))) (pe_and (pe_cmpR op_in_seq pe_str (pv 0) (by rfl)) (pe_one (pc gd G_off_has_home (hr.mono (by decide)) (by rfl) T.m_off_has_home T.F_off_has_home.kp T.b_off_has_home .nil pass0 (pa_cons (pv 0) pa_nil))))))), ?_⟩
    exact s_ret (ev_is (ev_andV (ev_hwo (ev_var rfl) ra (er_3 rfl rfl rfl) ok) fun _ => ev_andV (ev_inL rfl (ev_var rfl) ra) fun _ => ev_call (ea_cons (ev_var rfl) ea_nil) (sv_ohh ra)) (congrArg V.bl (by unfold pGive; rw [Bool.and_assoc]))) q
theorem ok_is_move_row (T : Txt K mg w) (G_has_words_of : FnG P w K mg base CX0 3 T.f_has_words_of T.fd_has_words_of ["value", "words"] (sp_hwo K)) (G_off_has_home : FnG P w K mg base CX0 1 T.f_off_has_home T.fd_off_has_home ["row"] (sp_ohh K)) (G_tests_are_ahead : FnG P w K mg base CX0 1 T.f_tests_are_ahead T.fd_tests_are_ahead ["row", "word"] (sp_taa K)) : FnG P w K mg base CX0 4 T.f_is_move_row T.fd_is_move_row ["value"] (sp_row K pMove) := by
  refine okG T.F_is_move_row sc_is_move_row (fun vs H Q E h => ?_) (fun cdv A outer s H vs Q E gd hr h => ?_)
  · obtain ⟨_, _, rfl, _⟩ := h
    all_goals rfl
  · obtain ⟨a, us, rfl, ra, ok, q⟩ := h
    refine ⟨_, (pss_cons (ps_if (pt_not (pt_val (pc gd G_has_words_of (hr.mono (by decide)) (by rfl) T.m_has_words_of T.F_has_words_of.kp T.b_has_words_of .nil pass0 (pa_cons (pv 0) (pa_cons (pe_tupX (pa_cons pe_str (pa_cons pe_str (pa_cons pe_str (pa_cons pe_str (pa_cons pe_str (pa_cons pe_str pa_nil))))))) pa_nil))))) (pss_one (ps_ret pe_bl)) pss_nil) (pss_cons (ps_if (pt_cmpR (op_eqD (roomU hr)) (pv 0) (pe_tupX pa_nil) (nomark _)) (pss_one (ps_ret pe_bl)) pss_nil) (pss_cons (ps_if ((pw_or (pt_cmpR op_notIn_seq pe_str (pv 0) (by rfl)) (pw_or1 ((pw_and (pt_cmpR op_in_seq pe_str (pv 0) (by rfl)) (pw_and1 ((pw_or (pt_cmpR op_in_seq pe_str (pv 0) (by rfl)) (pw_or1 (pt_cmpR op_in_seq pe_str (pv 0) (by rfl))))).pt))).pt))).pt (pss_one (ps_ret pe_bl)) pss_nil) (pss_one (ps_ret (pe_and (pc gd G_off_has_home (hr.mono (by decide)) (by rfl) T.m_off_has_home T.F_off_has_home.kp T.b_off_has_home .nil pass0 (pa_cons (pv 0) pa_nil)) (pe_and (pc gd G_tests_are_ahead (hr.mono (by decide)) (by rfl) T.m_tests_are_ahead T.F_tests_are_ahead.kp T.b_tests_are_ahead .nil pass0 (pa_cons (pv 0) (pa_cons pe_str pa_nil))) (pe_one (pc gd G_tests_are_ahead (hr.mono (by decide)) (by rfl) T.m_tests_are_ahead T.F_tests_are_ahead.kp T.b_tests_are_ahead .nil pass0 (pa_cons (pv 0) (pa_cons pe_str pa_nil))))))))))), ?_⟩
    refine q_when (b := !pW us [.set, .home, .add, .look, .tri, .off]) (et_not (et_B (ev_hwo (ev_var rfl) ra (er_tup (us := [.set, .home, .add, .look, .tri, .off]) (ea_cons (ev_lit rfl) (ea_cons (ev_lit rfl) (ea_cons (ev_lit rfl) (ea_cons (ev_lit rfl) (ea_cons (ev_lit rfl) (ea_cons (ev_lit rfl) ea_nil)))))) (by show 6 ≤ 1000; omega)) ok))) (fun hb H1 e1 => s_ret (ev_is ev_c (cbl (b := pMove us) ?_)) fun H2 e2 => q H2 (e1.trans e2)) fun hb H1 e1 => ?_
    · rw [Bool.not_eq_true'] at hb
      unfold pMove
      rw [hb, Bool.false_and]
    rw [Bool.not_eq_false'] at hb
    refine q_when (et_test (ev_eqW (us := us) (ev_var rfl) (ra.ex e1) er_0)) (fun hc H2 e2 => s_ret (ev_is ev_c (cbl (b := pMove us) ?_)) fun H3 e3 => q H3 ((e1.trans e2).trans e3)) fun hc H2 e2 => ?_
    · unfold pMove
      rw [hb, hc, Bool.true_or, Bool.and_true]
    have r2 := (ra.ex e1).ex e2
    refine q_when (b := !decide (Wd.set ∈ us) || decide (Wd.tri ∈ us) && (decide (Wd.add ∈ us) || decide (Wd.look ∈ us))) (et_or (et_test (ev_niL rfl (ev_var rfl) r2)) fun _ => et_and (et_test (ev_inL rfl (ev_var rfl) r2)) fun _ => et_or (et_test (ev_inL rfl (ev_var rfl) r2)) fun _ => et_test (ev_inL rfl (ev_var rfl) r2)) (fun hd H3 e3 => s_ret (ev_is ev_c (cbl (b := pMove us) ?_)) fun H4 e4 => q H4 (((e1.trans e2).trans e3).trans e4)) fun hd H3 e3 => ?_
    · unfold pMove
      rw [hb, hc, hd]
      rfl
    refine s_ret (ev_is (ev_andV (ev_call (ea_cons (ev_var rfl) ea_nil) (sv_ohh (r2.ex e3))) fun _ => ev_andV (ev_call (ea_cons (ev_var rfl) (ea_cons (ev_lit rfl) ea_nil)) (sv_taa (w := .set) (r2.ex e3))) fun _ => ev_call (ea_cons (ev_var rfl) (ea_cons (ev_lit rfl) ea_nil)) (sv_taa (w := .off) (r2.ex e3))) (congrArg V.bl ?_)) fun H4 e4 => q H4 (((e1.trans e2).trans e3).trans e4)
    unfold pMove
    rw [hb, hc, hd, Bool.and_assoc]
    rfl
/-- a tuple of rows -/
theorem rows_at {T : Txt K mg w} : DpAll K H [.ref T.g0_LIFT_ROWS, .ref T.g1_LIFT_ROWS, .ref T.g2_LIFT_ROWS, .ref T.g3_LIFT_ROWS, .ref T.g4_LIFT_ROWS, .ref T.g5_LIFT_ROWS] (liftRows.map dRow) :=
  .cons (.tup (T.s0_LIFT_ROWS H) (dp_ws H [])) (.cons (.tup (T.s1_LIFT_ROWS H) (dp_ws H [.set])) (.cons (.tup (T.s2_LIFT_ROWS H) (dp_ws H [.off])) (.cons (.tup (T.s3_LIFT_ROWS H) (dp_ws H [.set, .off])) (.cons (.tup (T.s4_LIFT_ROWS H) (dp_ws H [.off, .set])) (.cons (.tup (T.s5_LIFT_ROWS H) (dp_ws H [.both])) .nil)))))
theorem ok_is_lift_row (T : Txt K mg w) (G_has_words_of : FnG P w K mg base CX0 3 T.f_has_words_of T.fd_has_words_of ["value", "words"] (sp_hwo K)) : FnG P w K mg base CX0 4 T.f_is_lift_row T.fd_is_lift_row ["value"] (sp_row K pLift) := by
  refine okG T.F_is_lift_row sc_is_lift_row (fun vs H Q E h => ?_) (fun cdv A outer s H vs Q E gd hr h => ?_)
  · obtain ⟨_, _, rfl, _⟩ := h
    all_goals rfl
  · obtain ⟨a, us, rfl, ra, ok, q⟩ := h
    refine ⟨_, (pss_one (ps_ret (pe_and (pc gd G_has_words_of (hr.mono (by decide)) (by rfl) T.m_has_words_of T.F_has_words_of.kp T.b_has_words_of .nil pass0 (pa_cons (pv 0) (pa_cons (pe_tupX (pa_cons pe_str (pa_cons pe_str (pa_cons pe_str pa_nil)))) pa_nil))) (pe_one (pe_cmpR (op_inDT (roomW hr)) (pv 0) (pe_glob (v := .ref T.g_LIFT_ROWS) (by rfl) T.m_LIFT_ROWS rfl) (by rfl)))))), ?_⟩
    refine s_ret (ev_andV (ev_hwo (ev_var rfl) ra (er_3 rfl rfl rfl) ok) fun _ => ev_op (ev_var rfl) ev_c fun H1 e1 Q q => ⟨dRow us, liftRows.map dRow, (ra.ex e1).dp, .tup (T.s_LIFT_ROWS H1) rows_at, row_shaped us, rowsT_shaped _, ?_⟩) q
    rw [any_row]
    exact q H1 (Ex.refl H1)
def RowChk (T : Txt K mg w) (f : Addr) (sp : Sp) : Prop := (f = T.f_is_take_row ∧ sp = sp_row K pTake) ∨ (f = T.f_is_give_row ∧ sp = sp_row K pGive) ∨ (f = T.f_is_move_row ∧ sp = sp_row K pMove) ∨ (f = T.f_is_lift_row ∧ sp = sp_row K pLift)
theorem rowChecks (T : Txt K mg w) (G1 : FnG P w K mg base CX0 4 T.f_is_take_row T.fd_is_take_row ["value"] (sp_row K pTake)) (G2 : FnG P w K mg base CX0 4 T.f_is_give_row T.fd_is_give_row ["value"] (sp_row K pGive)) (G3 : FnG P w K mg base CX0 4 T.f_is_move_row T.fd_is_move_row ["value"] (sp_row K pMove)) (G4 : FnG P w K mg base CX0 4 T.f_is_lift_row T.fd_is_lift_row ["value"] (sp_row K pLift)) :
    ∀ f sp, RowChk T f sp → HeldG P w K mg base 4 f sp := by
  intro f sp h
  rcases h with ⟨rfl, rfl⟩ | ⟨rfl, rfl⟩ | ⟨rfl, rfl⟩ | ⟨rfl, rfl⟩
  · exact ⟨_, _, G1, T.F_is_take_row.kp, T.b_is_take_row⟩
  · exact ⟨_, _, G2, T.F_is_give_row.kp, T.b_is_give_row⟩
  · exact ⟨_, _, G3, T.F_is_move_row.kp, T.b_is_move_row⟩
  · exact ⟨_, _, G4, T.F_is_lift_row.kp, T.b_is_lift_row⟩
theorem row_fn (T : Txt K mg w) {k : Wd} (hk : k ∈ kindRows) : ∃ f, KDct K w T.g_ROW_CHECKS k.s (.ref f) ∧ RowChk T f (sp_row K (pRow k)) := by
  simp only [kindRows, List.mem_cons, List.not_mem_nil, or_false] at hk
  rcases hk with rfl | rfl | rfl | rfl
  · exact ⟨_, T.k_ROW_CHECKS_take, .inl ⟨rfl, rfl⟩⟩
  · exact ⟨_, T.k_ROW_CHECKS_give, .inr (.inl ⟨rfl, rfl⟩)⟩
  · exact ⟨_, T.k_ROW_CHECKS_move, .inr (.inr (.inl ⟨rfl, rfl⟩))⟩
  · exact ⟨_, T.k_ROW_CHECKS_lift, .inr (.inr (.inr ⟨rfl, rfl⟩))⟩
theorem ok_is_row (T : Txt K mg w) (G_is_take_row : FnG P w K mg base CX0 4 T.f_is_take_row T.fd_is_take_row ["value"] (sp_row K pTake)) (G_is_give_row : FnG P w K mg base CX0 4 T.f_is_give_row T.fd_is_give_row ["value"] (sp_row K pGive)) (G_is_move_row : FnG P w K mg base CX0 4 T.f_is_move_row T.fd_is_move_row ["value"] (sp_row K pMove)) (G_is_lift_row : FnG P w K mg base CX0 4 T.f_is_lift_row T.fd_is_lift_row ["value"] (sp_row K pLift)) : FnG P w K mg base CX0 5 T.f_is_row T.fd_is_row ["kind", "value"] (sp_isrow K) := by
  refine okG T.F_is_row sc_is_row (fun vs H Q E h => ?_) (fun cdv A outer s H vs Q E gd hr h => ?_)
  · obtain ⟨_, _, _, rfl, _⟩ := h
    all_goals rfl
  · obtain ⟨k, a, us, rfl, hk, ra, ok, q⟩ := h
    refine ⟨_, (pss_cons (ps_set (i := 2) sc_is_row.nd rfl (Or.inl rfl) (pe_ix ix_kdict (pe_glob (v := .ref T.g_ROW_CHECKS) (by rfl) T.m_ROW_CHECKS rfl) (pv 0) (fun _ _ => rfl))) (pss_one (ps_ret (pcH (i := 2) gd (rowChecks T G_is_take_row G_is_give_row G_is_move_row G_is_lift_row) (hr.mono (by decide)) rfl (Or.inl rfl) (pa_cons (pv 1) pa_nil))))), ?_⟩
    obtain ⟨f, kd, rc⟩ := row_fn T hk
    refine q_asg (v := .ref f) (ev_op ev_c (ev_var rfl) fun H1 _ Q q => ⟨_, _, _, rfl, rfl, kd, q H1 (Ex.refl H1)⟩) fun H1 e1 => ?_
    exact s_retR ⟨f, _, rfl, rc, ea_cons (ev_var rfl) ea_nil H1 (Ex.refl H1) _ fun H2 e2 => sv_row (f := pRow k) (ra.ex (e1.trans e2)) ok H2 (Ex.refl H2) _ (fun H3 e3 => q H3 ((e1.trans e2).trans e3)) _⟩
theorem ok_fits_batch (T : Txt K mg w)  : FnG P w K mg base CX0 1 T.f_fits_batch T.fd_fits_batch ["row", "batch"] (sp_fitb K) := by
  refine okG T.F_fits_batch sc_fits_batch (fun vs H Q E h => ?_) (fun cdv A outer s H vs Q E gd hr h => ?_)
  · obtain ⟨_, _, _, rfl, _⟩ := h
    all_goals rfl
  · obtain ⟨a, us, n, rfl, ra, ne, q⟩ := h
    refine ⟨_, (pss_one (ps_ret (pe_or (pe_cmpR op_eq (pv 1) pe_int (nomark _)) (pe_one (pe_cmpR op_eq (pe_ix ix_tup (pv 0) (pe_un un_neg pe_int) (fun _ _ => rfl)) pe_str (nomark _)))))), ?_⟩
    obtain ⟨x, hx, hat⟩ := at_last ne
    refine s_ret (ev_is (ev_orV (a := decide (n = 1)) (ev_is (ev_op (ev_var rfl) ev_c (rv_eq rfl)) (congrArg V.bl (nV_eq n 1))) fun _ => ev_is (ev_op (ev_op (ev_var rfl) (ev_un ev_c ru_neg) (rv_ixT ra.sq hat)) (ev_lit rfl) (rv_eq rfl)) (congrArg V.bl (wV_eq x .live))) (congrArg V.bl ?_)) q
    unfold pBatch
    rw [hx]
    congr 1
    exact decide_eq_decide.mpr ⟨fun e => by rw [e], fun e => Option.some.inj e⟩
theorem ok_fits_shared (T : Txt K mg w)  : FnG P w K mg base CX0 1 T.f_fits_shared T.fd_fits_shared ["row", "shared"] (sp_fits K) := by
  refine okG T.F_fits_shared sc_fits_shared (fun vs H Q E h => ?_) (fun cdv A outer s H vs Q E gd hr h => ?_)
  · obtain ⟨_, _, _, rfl, _⟩ := h
    all_goals rfl
  · obtain ⟨a, us, b, rfl, ra, q⟩ := h
    refine ⟨_, (pss_one (ps_ret (pe_or (pv 1) (pe_or (pe_cmpR (op_eqD (roomU hr)) (pv 0) (pe_tupX pa_nil) (nomark _)) (pe_one (pe_cmpR op_eq (pe_ix ix_tup (pv 0) pe_int (fun _ _ => rfl)) pe_str (nomark _))))))), ?_⟩
    refine s_ret (ev_is (ev_orV (ev_var rfl) fun _ => ev_orV (a := decide (us = [])) (b := decide (us.head? = some .home)) (ev_eqW (us := us) (ev_var rfl) ra er_0) fun hne => ?_) (cbl (b := pShared us b) (by unfold pShared; rw [Bool.or_assoc]))) q
    cases us with
    | nil => cases hne
    | cons x us =>
      refine ev_is (ev_op (ev_op (ev_var rfl) ev_c (rv_ixT ra.sq (atI_nat (j := 0) rfl))) (ev_lit rfl) (rv_eq rfl)) (congrArg V.bl ((wV_eq x .home).trans ?_))
      exact decide_eq_decide.mpr ⟨fun e => by rw [e]; rfl, fun e => Option.some.inj e⟩
theorem ok_check_fails (T : Txt K mg w) (G_is_word : FnG P w K mg base CX0 1 T.f_is_word T.fd_is_word ["value", "words"] (sp_isword K)) : FnG P w K mg base CX0 2 T.f_check_fails T.fd_check_fails ["value"] sp_cfails := by
  refine okG T.F_check_fails sc_check_fails (fun vs H Q E h => ?_) (fun cdv A outer s H vs Q E gd hr h => ?_)
  · obtain ⟨_, rfl, _⟩ := h
    all_goals rfl
  · obtain ⟨w0, rfl, hw, q⟩ := h
    refine ⟨_, (pss_one (ps_if (pt_not (pt_val (pc gd G_is_word (hr.mono (by decide)) (by rfl) T.m_is_word T.F_is_word.kp T.b_is_word .nil pass0 (pa_cons (pv 0) (pa_cons (pe_glob (v := .ref T.g_FAILS) (by rfl) T.m_FAILS rfl) pa_nil))))) (pss_one ps_never) pss_nil)), ?_⟩
    refine s_when (b := false) (et_is (et_not (et_B (ev_call (ea_cons (ev_var rfl) (ea_cons ev_c ea_nil)) (sv_isword (ws := failWs) (T.s_FAILS H))))) (by rw [decide_eq_true hw]; rfl)) (fun z => nomatch z) fun _ H1 e1 => q H1 e1
theorem ok_check_bool (T : Txt K mg w)  : FnG P w K mg base CX0 1 T.f_check_bool T.fd_check_bool ["name", "value"] sp_cbool := by
  refine okG T.F_check_bool sc_check_bool (fun vs H Q E h => ?_) (fun cdv A outer s H vs Q E gd hr h => ?_)
  · obtain ⟨_, _, rfl, _⟩ := h
    all_goals rfl
  · obtain ⟨x, b, rfl, q⟩ := h
    refine ⟨_, (pss_one (ps_if (pt_not (pt_val (pe_callB call_isi (by rfl) T.z_isinstance boot_isinstance (pa_cons (pv 1) (pa_cons (pe_bltn (v := .ty "bool") (u := .type "bool") (by rfl) T.z_bool (by decide +kernel) rfl) pa_nil))))) (pss_one ps_never) pss_nil)), ?_⟩
    exact s_when (b := false) (et_not (a := true) (et_B (ev_cb (ea_cons (ev_var rfl) (ea_cons ev_c ea_nil)) (rc_isi (.ty "bool") (fun _ => .base (.bl b)) (kit_ty (by decide +kernel)))))) (fun z => nomatch z) fun _ H1 e1 => q H1 e1
theorem ok_check_holds (T : Txt K mg w) (G_is_list : FnG P w K mg base CX0 1 T.f_is_list T.fd_is_list ["value"] (sp_islist K)) (G_are_different_words : FnG P w K mg base CX0 2 T.f_are_different_words T.fd_are_different_words ["values", "words"] (sp_adw K)) : FnG P w K mg base CX0 3 T.f_check_holds T.fd_check_holds ["value"] (sp_cholds K) := by
  refine okG T.F_check_holds sc_check_holds (fun vs H Q E h => ?_) (fun cdv A outer s H vs Q E gd hr h => ?_)
  · obtain ⟨_, _, rfl, _⟩ := h
    all_goals rfl
  · obtain ⟨a, us, rfl, ra, hs, q⟩ := h
    refine ⟨_, (pss_one (ps_if ((pw_or (pt_not (pt_val (pc gd G_is_list (hr.mono (by decide)) (by rfl) T.m_is_list T.F_is_list.kp T.b_is_list .nil pass0 (pa_cons (pv 0) pa_nil)))) (pw_or1 (pt_not (pt_val (pc gd G_are_different_words (hr.mono (by decide)) (by rfl) T.m_are_different_words T.F_are_different_words.kp T.b_are_different_words .nil pass0 (pa_cons (pv 0) (pa_cons (pe_glob (v := .ref T.g_ROW_KINDS) (by rfl) T.m_ROW_KINDS rfl) pa_nil)))))))).pt (pss_one ps_never) pss_nil)), ?_⟩
    refine s_when (b := false) (et_or (a := false) (b := false) (et_not (a := true) (et_B (ev_call (ea_cons (ev_var rfl) ea_nil) fun H1 e1 Q q E => ⟨a, us, rfl, ra.ex e1, q⟩))) fun _ => et_not (a := true) (et_B (ev_is (ev_call (ea_cons (ev_var rfl) (ea_cons ev_c ea_nil)) (sv_adw ra (T.s_ROW_KINDS H) (ws := kindRows) (holds_nd hs) (by have := holds_ln hs; omega))) (congrArg V.bl (pW_kinds hs))))) (fun z => nomatch z) fun _ H1 e1 => q H1 e1
theorem ok_check_batch (T : Txt K mg w) (G_is_an_integer : FnG P w K mg base CX0 1 T.f_is_an_integer T.fd_is_an_integer ["value"] sp_isint) : FnG P w K mg base CX0 2 T.f_check_batch T.fd_check_batch ["value"] sp_cbatch := by
  refine okG T.F_check_batch sc_check_batch (fun vs H Q E h => ?_) (fun cdv A outer s H vs Q E gd hr h => ?_)
  · obtain ⟨_, rfl, _⟩ := h
    all_goals rfl
  · obtain ⟨n, rfl, h1, h2, q⟩ := h
    refine ⟨_, (pss_one (ps_if ((pw_or (pt_not (pt_val (pc gd G_is_an_integer (hr.mono (by decide)) (by rfl) T.m_is_an_integer T.F_is_an_integer.kp T.b_is_an_integer .nil pass0 (pa_cons (pv 0) pa_nil)))) (pw_or1 (pt_not (pt_chain op_le op_le pe_int (pv 0) (pe_glob (v := .int 50) (by rfl) T.m_MOST_BATCH ⟨_, rfl⟩)))))).pt (pss_one ps_never) pss_nil)), ?_⟩
    refine s_when (b := false) (et_or (a := false) (b := false) (et_not (a := true) (et_B (ev_call (ea_cons (ev_var rfl) ea_nil) fun H1 e1 Q q E => ⟨n, rfl, q⟩))) fun _ => et_not (a := true) (et_test (ev_chain (b := true) (c := true) ev_c (ev_var rfl) (rv_bl rv_I0 (decide_eq_true (by omega))) (fun _ => ev_c) fun _ => rv_bl rv_I0 (decide_eq_true (by omega))))) (fun z => nomatch z) fun _ H1 e1 => q H1 e1
end
end My
namespace My
open PySem PySem.Spec PyProof.Rows L2 GL Evl StX SkE
/-! ### dicts of parts, made and merged -/
theorem merge_kvs (f : Pt → V) : ∀ (ls ks : List Pt), (ks ++ ls).Nodup → mergeK (kvs ks f) (kvs ls f) = kvs (ks ++ ls) f
  | [], ks, _ => by rw [List.append_nil]; rfl
  | p :: ls, ks, nd => by
    have np : p ∉ ks := fun h => (List.nodup_append.mp nd).2.2 p h p List.mem_cons_self rfl
    have e : putK (kvs ks f) (.inr p.s) (f p) = kvs (ks ++ [p]) f := by
      rw [put_new np]
      have : put f p (f p) = f := funext fun q => by
        unfold put
        split
        · rename_i h
          rw [h]
        · rfl
      rw [this]
    have ih := merge_kvs f ls (ks ++ [p]) (by rw [List.append_assoc]; exact nd)
    rw [List.append_assoc] at ih
    show mergeK (putK (kvs ks f) (.inr p.s) (f p)) (kvs ls f) = _
    rw [e]
    exact ih
theorem made_kvs (f : Pt → V) {ks : List Pt} (nd : ks.Nodup) : mergeK [] (kvs ks f) = kvs ks f := merge_kvs f ks [] nd
/-- what is laid over: each key stands already, or is put at the end -/
theorem merge_put (f : Pt → V) {ks : List Pt} {p : Pt} {v : V} (h : p ∈ ks) : mergeK (kvs ks f) (kvs [p] (put f p v)) = kvs ks (put f p v) := by
  show putK (kvs ks f) (.inr p.s) (put f p v p) = _
  rw [show put f p v p = v by unfold put; rw [if_pos rfl]]
  exact put_old h
def bookKs : List Pt := [.take, .give, .move, .lift, .fails, .shared, .holds, .batch, .settles]
theorem bookKs_nd : bookKs.Nodup := by decide
theorem bookKs_mem (p : Pt) : p ∈ bookKs := by cases p <;> decide
def bf (d : Addr) : List (Str × V) := putF "_parts" (.ref d) []
theorem bf_parts (d : Addr) : (bf d).lookup ("_parts" : Str) = some (.ref d) := by
  unfold bf
  rw [lookup_putF, if_pos rfl]
theorem bf_no (d : Addr) {m : Str} (h : ¬ m = "_parts") : (bf d).lookup m = none := by
  unfold bf
  rw [lookup_putF, if_neg h]
  rfl
/-- at b a book of these rules -/
structure BookP (K : PySem.W.Frag) (C : Addr) (H : Hp) (b dx d : Addr) (r : Ru) : Prop where
  ob : H b = some (.ins C dx (bf d))
  di : DictAt K H d bookKs r
  ok : Ok r
def BookAt (K : PySem.W.Frag) (C : Addr) (H : Hp) (b : Addr) (r : Ru) : Prop := ∃ dx d, BookP K C H b dx d r
section
variable {K : PySem.W.Frag} {C : Addr} {H H' : Hp} {a b dx d : Addr} {r : Ru}
theorem BookP.ex (h : BookP K C H b dx d r) (e : Ex H H') : BookP K C H' b dx d r := ⟨e _ _ h.ob, h.di.ex e, h.ok⟩
theorem BookAt.ex (h : BookAt K C H b r) (e : Ex H H') : BookAt K C H' b r := by
  obtain ⟨dx, d, p⟩ := h
  exact ⟨dx, d, p.ex e⟩
theorem BookP.exB (h : BookP K C H b dx d r) (e : ExB a H H') (n : NoTup H a) (nb : b ≠ a) (nd : d ≠ a) : BookP K C H' b dx d r := ⟨e _ _ nb h.ob, h.di.exB e nd n, h.ok⟩
/-- a list changes -/
theorem BookAt.exL (h : BookAt K C H b r) (e : ExB a H H') {xs : List V} (ha : H a = some (.lst xs)) : BookAt K C H' b r := by
  obtain ⟨dx, d, p⟩ := h
  refine ⟨dx, d, p.exB e (NoTup.lst ha) (fun z => ?_) (fun z => ?_)⟩
  · have := p.ob
    rw [z, ha] at this
    cases this
  · obtain ⟨f, h1, _⟩ := p.di
    rw [z, ha] at h1
    cases h1
theorem DictAt.exL {ks : List Pt} (h : DictAt K H d ks r) (e : ExB a H H') {xs : List V} (ha : H a = some (.lst xs)) : DictAt K H' d ks r := by
  refine h.exB e (fun z => ?_) (NoTup.lst ha)
  obtain ⟨f, h1, _⟩ := h
  rw [z, ha] at h1
  cases h1
/-- behind a lock -/
theorem unlock_ex {u : HO} (e : ExB d H H') (h : H d = some u) : Ex H (upd H' d u) := fun b o q => by
  by_cases z : b = d
  · rw [z, upd_same, ← h, ← z]
    exact q
  · rw [upd_ne z]
    exact e b o z q
end
/-- a book whose dict is new -/
def BookNew (K : PySem.W.Frag) (C : Addr) (H0 H : Hp) (b : Addr) (r : Ru) : Prop := ∃ dx d, H0 d = none ∧ BookP K C H b dx d r
theorem BookNew.at {K : PySem.W.Frag} {C : Addr} {H0 H : Hp} {b : Addr} {r : Ru} (h : BookNew K C H0 H b r) : BookAt K C H b r := by
  obtain ⟨dx, d, _, p⟩ := h
  exact ⟨dx, d, p⟩
theorem BookNew.old {K : PySem.W.Frag} {C : Addr} {G H0 H : Hp} {b : Addr} {r : Ru} (h : BookNew K C H0 H b r) (e : Ex G H0) : BookNew K C G H b r := by
  obtain ⟨dx, d, n, p⟩ := h
  exact ⟨dx, d, fresh_back e n, p⟩
def sp_Binit (K : PySem.W.Frag) (C : Addr) : Sp := fun vs H Q _ => ∃ H0 x dx r, ∃ f : Pt → V, vs = .ref x :: bookKs.map f ∧ Ex H0 H ∧ H0 x = none ∧ H x = some (.ins C dx []) ∧ (∀ p, (r.get p).At K H0 (f p)) ∧ Ok r ∧ ∀ H', Ex H0 H' → BookNew K C H0 H' x r → Q .non H'
def sp_Beq (K : PySem.W.Frag) (C : Addr) : Sp := fun vs H Q _ => (∃ a b r l, vs = [.ref a, .ref b] ∧ BookAt K C H a r ∧ BookAt K C H b l ∧ RetV (.bl (decide (r = l))) H Q) ∨
  (∃ a y T, vs = [.ref a, y] ∧ (∀ H1, Ex H H1 → TyX K H1 y (.type T)) ∧ T ∈ kinds ∧ RetV (.bl false) H Q)
def sp_Bholds (K : PySem.W.Frag) (C : Addr) : Sp := fun vs H Q _ => ∃ a dx d, ∃ f : Pt → V, vs = [.ref a] ∧ H a = some (.ins C dx (bf d)) ∧ H d = some (.dK (kvs bookKs f)) ∧ RetV (f .holds) H Q
def sp_Bwh (K : PySem.W.Frag) (C : Addr) : Sp := fun vs H Q _ => ∃ a b r, ∃ us : Rw, vs = [.ref a, .ref b] ∧ BookAt K C H a r ∧ RowAt K H b us ∧ us.Sublist kindRows ∧ ∀ H' p, H p = none → Ex H H' → BookAt K C H' p { r with holds := us } → Q (.ref p) H'
def sp_Bstrict (K : PySem.W.Frag) (C : Addr) : Sp := fun vs H Q _ => ∃ a b r l, vs = [.ref a, .ref b] ∧ BookAt K C H a r ∧ BookAt K C H b l ∧ RetV (.bl (pStrict r l)) H Q
section
variable {P : Program} {w : World} {K : PySem.W.Frag} {mg : Str → Option Value} {base : Heap} {C : Addr} {H H' : Hp} {σ : L2.St} {te tb : TE} {E : XK} {D : Ends} {tz : TS} {a b d : Addr} {r l : Ru} {us : Rw} {ks : List Pt} {x : V}
theorem ok_check_rows (T : Txt K mg w) (G_is_row : FnG P w K mg base CX0 5 T.f_is_row T.fd_is_row ["kind", "value"] (sp_isrow K)) : FnG P w K mg base CX0 6 T.f_check_rows T.fd_check_rows ["rows"] (sp_crows K) := by
  refine okG T.F_check_rows sc_check_rows (fun vs H Q E h => ?_) (fun cdv A outer s H vs Q E gd hr h => ?_)
  · obtain ⟨_, _, rfl, _⟩ := h
    all_goals rfl
  · obtain ⟨d, r, rfl, ⟨f, hd, hf⟩, ok, q⟩ := h
    refine ⟨_, (pss_one (ps_lock (ps_for PassesOwn.never rfl (pi_items (pv 0)) (pg_tup rfl (pgs_cons (pg_name (i := 1) sc_check_rows.nd rfl (Or.inl rfl) (Or.inr rfl)) (pgs_cons (pg_name (i := 2) sc_check_rows.nd rfl (Or.inl rfl) (Or.inr rfl)) pgs_nil))) (pss_one (ps_if (pt_not (pt_val (pc gd G_is_row (hr.mono (by decide)) (by rfl) T.m_is_row T.F_is_row.kp T.b_is_row .nil pass0 (pa_cons (pv 1) (pa_cons (pv 2) pa_nil))))) (pss_one ps_never) pss_nil))))), ?_⟩
    refine ⟨d, _, hd, True.intro, fun od => ⟨_, rfl, d, od, kvs rowKs f, rfl, upd_same, for_it walk_items (fun i σ' H' => ∃ x y, σ' = [some (.ref d), x, y] ∧ ExB d H H' ∧ H' d = some (.frz od (.dK (kvs rowKs f)))) ⟨_, _, rfl, ExB.set, upd_same⟩ (fun i σ' H' _ p => ?_) (fun i v σ' H' H2 hi p y => ?_) (fun σ' H' p => ?_)⟩⟩
    · obtain ⟨_, _, _, _, z⟩ := p
      exact z
    · obtain ⟨_, _, rfl, x1, h1⟩ := p
      obtain ⟨T1, x, z, rfl, nT, rfl, e1, e2⟩ := y
      have hi' : i < rowKs.length := by rwa [List.length_map] at hi
      obtain ⟨p, hp⟩ : ∃ p, rowKs[i]? = some p := ⟨_, List.getElem?_eq_getElem hi'⟩
      have hk : (kvs rowKs f)[i]? = some (.inr p.s, f p) := by rw [List.getElem?_map, hp]; rfl
      dsimp only at e1 e2
      rw [hk] at e1 e2
      cases e1
      cases e2
      have mp := List.mem_of_getElem? hp
      obtain ⟨o1, o2, o3, o4, o5⟩ := rows_ok ok mp
      have at1 := hf p mp
      rw [o3] at at1
      obtain ⟨a, ea, ra⟩ := at1
      have ra2 := (ra.exB x1 (NoTup.dK hd)).ex (Ex.new (o := .tup [kV (.inr p.s), f p]) nT)
      refine ⟨T1, _, rfl, st_of upd_same, rfl, _, _, rfl, _, _, rfl, rfl, ?_⟩
      refine s_when (b := false) (et_is (et_not (et_B (ev_call (ea_cons (ev_is (ev_var rfl) o5) (ea_cons (ev_is (ev_var rfl) ea) ea_nil)) (sv_isrow o4 ra2 o1)))) (by rw [o2]; rfl)) (fun z => nomatch z) fun _ H3 e3 => ⟨_, _, rfl, ?_, ?_⟩
      · exact fun b o n hb => e3 _ _ (Ex.new nT _ _ (x1 b o n hb))
      · exact e3 _ _ (Ex.new nT _ _ h1)
    · obtain ⟨_, _, rfl, x1, h1⟩ := p
      exact ⟨h1, q _ (unlock_ex x1 hd)⟩
theorem ru_ks (r : Ru) : ∀ p ∈ rowKs, p = .take ∨ p = .give ∨ p = .move ∨ p = .lift := fun p hp => by simpa [rowKs] using hp
/-- a part evaluates -/
def EvP (K : PySem.W.Frag) (te : TE) (σ : L2.St) (H : Hp) (p : Pv) : Prop := ∀ H1, Ex H H1 → ∀ Q : VK, (∀ v H2, Ex H1 H2 → p.At K H2 v → Q v H2) → te σ H1 Q
theorem ep_var {i : Nat} {p : Pv} {v : V} (h : σ[i]? = some (some v)) (hp : p.At K H v) : EvP K (tVar i) σ H p := fun H1 e Q q => ⟨v, h, q v H1 (Ex.refl H1) (hp.ex e)⟩
theorem EvP.mono {p : Pv} (e : Ex H H') (h : EvP K te σ H p) : EvP K te σ H' p := fun H1 a Q q => h H1 (e.trans a) Q q
/-- d["part"] -/
theorem ep_get {p : Pt} {z : Str} (h : Ev te σ H (.ref d)) (hd : DictAt K H d ks r) (hp : p ∈ ks) (e : z = p.s) : EvP K (tDGet te (tC (.str z))) σ H (r.get p) := fun H1 e1 Q q => h H1 e1 _ fun H2 e2 => by
  obtain ⟨f, h1, h2⟩ := hd.ex (e1.trans e2)
  exact ⟨d, f p, rfl, .inl ⟨kvs ks f, .inr p.s, .inl h1, by rw [e]; rfl, (val_at hp).symm⟩, q _ H2 e2 (h2 p hp)⟩
theorem ep_getW {p : Pt} (h : Ev te σ H (.ref d)) (h2 : Ev tb σ H (.str p.s)) (hd : DictAt K H d ks r) (hp : p ∈ ks) : EvP K (tDGet te tb) σ H (r.get p) := fun H1 e1 Q q => h H1 e1 _ fun H2 e2 => h2 H2 (e1.trans e2) _ fun H3 e3 => by
  obtain ⟨f, z1, z2⟩ := hd.ex ((e1.trans e2).trans e3)
  exact ⟨d, f p, rfl, .inl ⟨kvs ks f, .inr p.s, .inl z1, rfl, (val_at hp).symm⟩, q _ H3 (e2.trans e3) (z2 p hp)⟩
theorem cb_L {r : List V → Hp → VK → Prop} {Q : VK} {xs : List V} (h : EvL te σ H xs) (k : ∀ p H1, H p = none → Ex H H1 → H1 p = some (.lst xs) → r [.ref p] H1 Q) : tCB r (tCons te tNil) σ H Q := h H (Ex.refl H) _ fun p H1 hp e h1 => k p H1 hp e h1
theorem sv_crows (h : DictAt K H d rowKs r) (ok : Ok r) : SpV (sp_crows K) [.ref d] H .non := fun _ e _ q _ => ⟨d, r, rfl, h.ex e, ok, q⟩
theorem ok_Binit (T : Txt K mg w) (G_check_rows : FnG P w K mg base CX0 6 T.f_check_rows T.fd_check_rows ["rows"] (sp_crows K)) (G_check_fails : FnG P w K mg base CX0 2 T.f_check_fails T.fd_check_fails ["value"] sp_cfails) (G_check_bool : FnG P w K mg base CX0 1 T.f_check_bool T.fd_check_bool ["name", "value"] sp_cbool) (G_check_holds : FnG P w K mg base CX0 3 T.f_check_holds T.fd_check_holds ["value"] (sp_cholds K)) (G_check_batch : FnG P w K mg base CX0 2 T.f_check_batch T.fd_check_batch ["value"] sp_cbatch) (G_fits_batch : FnG P w K mg base CX0 1 T.f_fits_batch T.fd_fits_batch ["row", "batch"] (sp_fitb K)) (G_fits_shared : FnG P w K mg base CX0 1 T.f_fits_shared T.fd_fits_shared ["row", "shared"] (sp_fits K)) : FnG P w K mg base CX0 7 T.f_Binit T.fd_Binit ["self", "take", "give", "move", "lift", "fails", "shared", "holds", "batch", "settles"] (sp_Binit K T.C) := by
  refine okG T.F_Binit sc_Binit (fun vs H Q E h => ?_) (fun cdv A outer s H vs Q E gd hr h => ?_)
  · obtain ⟨_, _, _, _, _, rfl, _⟩ := h
    all_goals rfl
  · obtain ⟨H0, x, dx, r, f, rfl, e0, hx0, hx, hf, ok, q⟩ := h
    refine ⟨_, (pss_cons (ps_set (i := 10) sc_Binit.nd rfl (Or.inl rfl) (pe_disp (pps_cons pe_str (pv 1) (pps_cons pe_str (pv 2) (pps_cons pe_str (pv 3) (pps_cons pe_str (pv 4) pps_nil)))) rfl rfl (by simp) (by simp))) (pss_cons (ps_expr (pc gd G_check_rows (hr.mono (by decide)) (by rfl) T.m_check_rows T.F_check_rows.kp T.b_check_rows .nil pass0 (pa_cons (pv 10) pa_nil))) (pss_cons (ps_expr (pc gd G_check_fails (hr.mono (by decide)) (by rfl) T.m_check_fails T.F_check_fails.kp T.b_check_fails .nil pass0 (pa_cons (pv 5) pa_nil))) (pss_cons (ps_expr (pc gd G_check_bool (hr.mono (by decide)) (by rfl) T.m_check_bool T.F_check_bool.kp T.b_check_bool .nil pass0 (pa_cons pe_str (pa_cons (pv 6) pa_nil)))) (pss_cons (ps_expr (pc gd G_check_holds (hr.mono (by decide)) (by rfl) T.m_check_holds T.F_check_holds.kp T.b_check_holds .nil pass0 (pa_cons (pv 7) pa_nil))) (pss_cons (ps_expr (pc gd G_check_batch (hr.mono (by decide)) (by rfl) T.m_check_batch T.F_check_batch.kp T.b_check_batch .nil pass0 (pa_cons (pv 8) pa_nil))) (pss_cons (ps_expr (pc gd G_check_bool (hr.mono (by decide)) (by rfl) T.m_check_bool T.F_check_bool.kp T.b_check_bool .nil pass0 (pa_cons pe_str (pa_cons (pv 9) pa_nil)))) (pss_cons (ps_if (pt_not (pt_val (pc gd G_fits_batch (hr.mono (by decide)) (by rfl) T.m_fits_batch T.F_fits_batch.kp T.b_fits_batch .nil pass0 (pa_cons (pv 1) (pa_cons (pv 8) pa_nil))))) (pss_one ps_never) pss_nil) (pss_cons (ps_if (pt_not (pt_val (pc gd G_fits_shared (hr.mono (by decide)) (by rfl) T.m_fits_shared T.F_fits_shared.kp T.b_fits_shared .nil pass0 (pa_cons (pv 3) (pa_cons (pv 6) pa_nil))))) (pss_one ps_never) pss_nil) (pss_cons (ps_set (i := 11) sc_Binit.nd rfl (Or.inl rfl) (pe_callTy call_tuple_of (by rfl) T.z_tuple (by decide +kernel) (pa_cons (pe_lc (own := [("kind", 12)]) (g := gName 12) rfl sc_Binit.nd (pi_tup (pe_glob (v := .ref T.g_ROW_KINDS) (by rfl) T.m_ROW_KINDS rfl)) (blkOk_by (N := N_Binit) (sc := defScope s_Binit) (by decide +kernel)) (fun _ _ _ _ _ => (pg_name (i := 12) sc_Binit.nd rfl (Or.inl rfl) (Or.inr rfl))) (fun _ _ _ _ _ => pts_one (pt_cmpR (show OpR _ (compareOp .In) (rIn K false) from op_in_seq) (pv 12) (pv 7) (by rfl))) (fun _ _ _ _ _ => (pv 12))) pa_nil))) (pss_one (ps_fld (pv 0) (pe_starD (pv 10) (pps_cons pe_str (pv 5) (pps_cons pe_str (pv 6) (pps_cons pe_str (pv 11) (pps_cons pe_str (pv 8) (pps_cons pe_str (pv 9) pps_nil))))) rfl rfl (by simp) (by simp)) rfl)))))))))))), ?_⟩
    obtain ⟨at_, ta, xt⟩ := hf .take
    obtain ⟨am, tm, xm⟩ := hf .move
    obtain ⟨ah, th, xh⟩ := hf .holds
    have tfl : f .fails = wV r.fails := hf .fails
    have tsh : f .shared = .bl r.shared := hf .shared
    have tba : f .batch = nV r.batch := hf .batch
    have tse : f .settles = .bl r.settles := hf .settles
    -- rows
    refine q_asgR fun d hd => ?_
    refine ⟨f .take, rfl, f .give, rfl, f .move, rfl, f .lift, rfl, upd_same, kvs rowKs f, rfl, (by show 4 ≤ 15; omega), ?_⟩
    rw [made_kvs f (by decide)]
    have e1 : Ex H (upd (upd H d (.dK [])) d (.dK (kvs rowKs f))) := Ex.mut (Ex.new hd) hd
    have h1 : (upd (upd H d (.dK [])) d (.dK (kvs rowKs f))) d = some (.dK (kvs rowKs f)) := upd_same
    generalize upd (upd H d (.dK [])) d (.dK (kvs rowKs f)) = H1 at e1 h1
    have x1 := e0.trans e1
    have d1 : DictAt K H1 d rowKs r := ⟨f, h1, fun p _ => (hf p).ex x1⟩
    show tSeq _ _ _ _ H1
    refine q_drop (ev_call (ea_cons (ev_var rfl) ea_nil) (sv_crows d1 ok)) fun H2 e2 => ?_
    refine q_drop (ev_call (ea_cons (ev_is (ev_var rfl) tfl) ea_nil) (fun _ _ _ q _ => ⟨r.fails, rfl, ok.f, q⟩)) fun H3 e3 => ?_
    refine q_drop (ev_call (ea_cons ev_c (ea_cons (ev_is (ev_var rfl) tsh) ea_nil)) (fun _ _ _ q _ => ⟨_, r.shared, rfl, q⟩)) fun H4 e4 => ?_
    have x4 := x1.trans (e2.trans (e3.trans e4))
    refine q_drop (ev_call (ea_cons (ev_is (ev_var rfl) th) ea_nil) (fun _ e _ q _ => ⟨ah, r.holds, rfl, xh.ex (x4.trans e), ok.h, q⟩)) fun H5 e5 => ?_
    refine q_drop (ev_call (ea_cons (ev_is (ev_var rfl) tba) ea_nil) (fun _ e _ q _ => ⟨r.batch, rfl, ok.b.1, ok.b.2, q⟩)) fun H6 e6 => ?_
    refine q_drop (ev_call (ea_cons ev_c (ea_cons (ev_is (ev_var rfl) tse) ea_nil)) (fun _ _ _ q _ => ⟨_, r.settles, rfl, q⟩)) fun H7 e7 => ?_
    have x7 := x4.trans (e5.trans (e6.trans e7))
    have ne : r.take ≠ [] := fun z => by
      have := ok.t.2.1
      rw [z] at this
      cases this
    refine q_when (b := false) (et_is (et_not (et_B (ev_call (ea_cons (ev_is (ev_var rfl) ta) (ea_cons (ev_is (ev_var rfl) tba) ea_nil)) (z := .bl (pBatch r.take r.batch)) (fun _ e _ q _ => ⟨at_, r.take, r.batch, rfl, xt.ex (x7.trans e), ne, q⟩)))) (by rw [ok.t.2.2]; rfl)) (fun z => nomatch z) fun _ H8 e8 => ?_
    refine q_when (b := false) (et_is (et_not (et_B (ev_call (ea_cons (ev_is (ev_var rfl) tm) (ea_cons (ev_is (ev_var rfl) tsh) ea_nil)) (z := .bl (pShared r.move r.shared)) (fun _ e _ q _ => ⟨am, r.move, r.shared, rfl, xm.ex ((x7.trans e8).trans e), q⟩)))) (by rw [ok.m.2.2]; rfl)) (fun z => nomatch z) fun _ H9 e9 => ?_
    have x9 := (x7.trans e8).trans e9
    -- sorted_holds
    refine q_asgR (cb_L (el_lcW (us := kindRows) (fun k => decide (k ∈ r.holds)) wV ev_c (T.s_ROW_KINDS H9) (by show 4 ≤ 1000; omega) (fun _ => rfl) (fun u H10 e10 hu => et_test (ev_op (ev_var rfl) (ev_is (ev_var rfl) th) (rv_inW (xh.ex (x9.trans e10)).sq))) (fun u H10 e10 hu _ => ev_var rfl)) fun sl H10 hsl e10 h10 => ⟨sl, _, rfl, .inl ⟨sq_of h10, fun t ht => ?_⟩⟩)
    rw [holds_sorted ok.h]
    have e11 := e10.trans (Ex.new (o := .tup (r.holds.map wV)) ht)
    have h11 : (upd H10 t (.tup (r.holds.map wV))) t = some (.tup (r.holds.map wV)) := upd_same
    generalize upd H10 t (.tup (r.holds.map wV)) = H11 at e11 h11
    have x11 := x9.trans e11
    have y11 : Ex H1 H11 := (e2.trans (e3.trans (e4.trans (e5.trans (e6.trans (e7.trans (e8.trans e9))))))).trans e11
    -- self._parts
    show sFld _ _ _ _ _ _ H11
    refine fun pn hpn => ⟨_, rfl, upd_same, d, kvs rowKs f, rfl, .inl (Ex.new hpn _ _ (y11 _ _ h1)), (ne_of_none (y11 _ _ h1) hpn).symm, (by show 4 ≤ 1000; omega), fun q2 nq hq => ?_⟩
    have nxp : x ≠ pn := fun z => by
      have := Ex.trans y11 (Ex.refl _) x _ (e1 _ _ hx)
      rw [z, hpn] at this
      cases this
    have hx11 : H11 x = some (.ins T.C dx []) := y11 _ _ (e1 _ _ hx)
    have nxq : x ≠ q2 := fun z => by
      have : (upd H11 pn (.dK [])) x = some (.ins T.C dx []) := by rw [upd_ne nxp]; exact hx11
      rw [z, hq] at this
      cases this
    have hq11 : H11 q2 = none := by rwa [upd_ne nq] at hq
    have e5k : kvs rowKs f = kvs rowKs (put f .holds (.ref t)) := List.map_congr_left fun p hp => by
      have : p ≠ .holds := fun z => by subst z; revert hp; decide
      unfold put
      rw [if_neg this]
    have mk : mergeK (kvs rowKs f) (mergeK [] (kvs [.fails, .shared, .holds, .batch, .settles] (put f .holds (.ref t)))) = kvs bookKs (put f .holds (.ref t)) := by
      rw [made_kvs _ (by decide), e5k]
      exact merge_kvs _ _ _ (by decide)
    refine ⟨f .fails, rfl, f .shared, rfl, .ref t, rfl, f .batch, rfl, f .settles, rfl, by rw [upd_ne nq.symm, upd_same], upd_same, kvs [.fails, .shared, .holds, .batch, .settles] (put f .holds (.ref t)), rfl, (by show 5 ≤ 15; omega), _, rfl, x, T.C, dx, [], rfl, by rw [upd_ne nxp, upd_ne nxq, upd_ne nxq, upd_ne nxp, upd_ne nxp]; exact hx11, T.c_Book, T.n_parts, (by show 0 < 1000; omega), ?_⟩
    rw [mk]
    have hp0 : H0 pn = none := fresh_back x11 hpn
    have hq0 : H0 q2 = none := fresh_back x11 hq11
    have z8 : ∀ {G : Hp}, Ex G H11 → G pn = none → G q2 = none → Ex G (upd (upd (upd (upd (upd H11 pn (.dK [])) pn (.dK (kvs rowKs f))) q2 (.dK [])) q2 (.dK (mergeK [] (kvs [.fails, .shared, .holds, .batch, .settles] (put f .holds (.ref t)))))) pn (.dK (kvs bookKs (put f .holds (.ref t))))) := fun g g1 g2 => Ex.mut (Ex.mut (Ex.mut (Ex.mut (Ex.mut g g1) g1) g2) g2) g1
    refine q _ (Ex.mut (z8 x11 hp0 hq0) hx0) ⟨dx, pn, hp0, ⟨upd_same, ⟨put f .holds (.ref t), by rw [upd_ne nxp.symm, upd_same], fun p _ => ?_⟩, ok⟩⟩
    by_cases hh : p = .holds
    · subst hh
      unfold put
      rw [if_pos rfl]
      exact ⟨t, rfl, (RowAt.tup (K := K) h11).exB ((ExB.of (z8 (Ex.refl _) hpn hq11)).trans ExB.set) (NoTup.ins hx11)⟩
    · unfold put
      rw [if_neg hh]
      exact (hf p).ex (Ex.mut (z8 x11 hp0 hq0) hx0)
end
end My
namespace My
open PySem PySem.Spec PyProof.Rows L2 GL Evl StX SkE
/-! ### a book as it is shown, compared -/
def itm (r : Ru) (p : Pt) : Str := ((Str.empty ++ p.s) ++ "=") ++ (r.get p).d.shown
def bText (r : Ru) : Str := ((Str.empty ++ "Book(") ++ Str.join ", " (bookKs.map (itm r))) ++ ")"
def sp_Brepr (K : PySem.W.Frag) (C : Addr) : Sp := fun vs H Q _ => ∃ a r, vs = [.ref a] ∧ BookAt K C H a r ∧ RetV (.str (bText r)) H Q
theorem num_len {n : Nat} (h : n ≤ 50) : (PyData.int (n : Int)).shown.length ≤ 10 := by
  have go : ((List.range 51).all fun n => decide ((toString (n : Int) : Str).length ≤ 10)) = true := by decide +kernel
  have z := List.all_eq_true.mp go n (List.mem_range.mpr (by omega))
  simp only [PyData.shown]
  exact of_decide_eq_true z
theorem sh_len {r : Ru} (ok : Ok r) (p : Pt) : (r.get p).d.shown.length ≤ 100 := by
  have row : ∀ {us : Rw}, us.length ≤ 6 → (dRow us).shown.length ≤ 100 := fun h => by have := (sm_row h).ln; omega
  have bl : ∀ b : Bool, (PyData.bool b).shown.length ≤ 100 := fun b => by
    simp only [PyData.shown]
    cases b <;> decide
  have wd : ∀ w : Wd, (dW w).shown.length ≤ 100 := fun w => by have := w_text w; omega
  cases p
  · exact row ok.t.1.ln
  · exact row ok.g.1.ln
  · exact row ok.m.1.ln
  · exact row ok.l.1.ln
  · exact wd _
  · exact bl _
  · exact row (by have := holds_ln ok.h; omega)
  · have := num_len ok.b.2
    show (PyData.int (r.batch : Int)).shown.length ≤ 100
    omega
  · exact bl _
theorem pt_len (p : Pt) : p.s.length ≤ 7 := by cases p <;> decide +kernel
theorem itm_len {r : Ru} (ok : Ok r) (p : Pt) : (itm r p).length ≤ 110 := by
  unfold itm
  rw [Str.length_append, Str.length_append, Str.length_append]
  have h1 := sh_len ok p
  have h2 := pt_len p
  have h3 : Str.empty.length = 0 := by decide
  have h4 : (Str.ofString "=").length = 1 := by decide
  omega
theorem sum_len {ts : List Str} {B : Nat} (h : ∀ t ∈ ts, t.length ≤ B) : (ts.map (·.length)).sum ≤ ts.length * B := by
  induction ts with
  | nil => simp
  | cons t ts ih =>
    have h1 := h t List.mem_cons_self
    have h2 := ih fun x hx => h x (List.mem_cons_of_mem _ hx)
    rw [List.map_cons, List.sum_cons, List.length_cons, Nat.add_mul, Nat.one_mul]
    omega
theorem items_len {r : Ru} (ok : Ok r) : ∀ t ∈ bookKs.map (itm r), t.length ≤ 110 := fun t ht => by
  obtain ⟨p, _, rfl⟩ := List.mem_map.mp ht
  exact itm_len ok p
theorem ru_eqv (r l : Ru) : PyData.eqvAll (bookKs.map fun p => (r.get p).d) (bookKs.map fun p => (l.get p).d) = decide (r = l) := by
  have go : ∀ ks : List Pt, PyData.eqvAll (ks.map fun p => (r.get p).d) (ks.map fun p => (l.get p).d) = ks.all fun p => decide (r.get p = l.get p) := by
    intro ks
    induction ks with
    | nil => rfl
    | cons p ks ih =>
      show (PyData.eqv (r.get p).d (l.get p).d && PyData.eqvAll (ks.map fun p => (r.get p).d) (ks.map fun p => (l.get p).d)) = _
      rw [ih, eqv_get]
      rfl
  rw [go]
  by_cases e : r = l
  · subst e
    rw [decide_eq_true rfl, List.all_eq_true]
    exact fun _ _ => decide_eq_true rfl
  · rw [decide_eq_false e, Bool.eq_false_iff]
    exact fun z => e (Ru.ext_get fun p => of_decide_eq_true (List.all_eq_true.mp z p (bookKs_mem p)))
theorem dp_kvs {K : PySem.W.Frag} {H : Hp} {f : Pt → V} {r : Ru} : ∀ {ks : List Pt}, (∀ p ∈ ks, (r.get p).At K H (f p)) → DpAll K H ((kvs ks f).map (·.2)) (ks.map fun p => (r.get p).d)
  | [], _ => .nil
  | p :: ks, h => .cons (h p List.mem_cons_self).dp (dp_kvs fun q hq => h q (List.mem_cons_of_mem _ hq))
theorem kvs_keys (ks : List Pt) (f g : Pt → V) : (kvs ks f).map (·.1) = (kvs ks g).map (·.1) := by
  unfold kvs
  rw [List.map_map, List.map_map]
  rfl
theorem ks_shaped {r : Ru} {ks : List Pt} : ∀ d ∈ ks.map (fun p => (r.get p).d), SeqAt.shaped d = true := fun d hd => by
  obtain ⟨p, _, rfl⟩ := List.mem_map.mp hd
  exact Pv.shaped _
section
variable {P : Program} {w : World} {K : PySem.W.Frag} {mg : Str → Option Value} {base : Heap} {C : Addr} {H H' : Hp} {σ : L2.St} {te tb ta : TE} {E : XK} {D : Ends} {tz : TS} {a b d : Addr} {r l : Ru} {us : Rw} {ks : List Pt} {x y : V}
/-- == of two dicts of parts -/
theorem rv_eqDict (h1 : DictAt K H a ks r) (h2 : DictAt K H b ks l) : RV (rEqDict K) (.ref a) (.ref b) H (.bl (PyData.eqvAll (ks.map fun p => (r.get p).d) (ks.map fun p => (l.get p).d))) := fun H1 e Q q => by
  obtain ⟨f, z1, z2⟩ := h1.ex e
  obtain ⟨g, y1, y2⟩ := h2.ex e
  exact ⟨a, b, kvs ks f, kvs ks g, _, _, rfl, rfl, .inl z1, .inl y1, kvs_keys ks f g, dp_kvs z2, dp_kvs y2, ks_shaped, ks_shaped, q H1 (Ex.refl H1)⟩
theorem rv_neDict (h1 : DictAt K H a ks r) (h2 : DictAt K H b ks l) : RV (rNeDict K) (.ref a) (.ref b) H (.bl (!PyData.eqvAll (ks.map fun p => (r.get p).d) (ks.map fun p => (l.get p).d))) := fun H1 e Q q => by
  obtain ⟨f, z1, z2⟩ := h1.ex e
  obtain ⟨g, y1, y2⟩ := h2.ex e
  exact ⟨a, b, kvs ks f, kvs ks g, _, _, rfl, rfl, .inl z1, .inl y1, kvs_keys ks f g, dp_kvs z2, dp_kvs y2, ks_shaped, ks_shaped, q H1 (Ex.refl H1)⟩
theorem BookAt.insTy {T : Txt K mg w} (h : BookAt K T.C H b r) : ∀ H1, Ex H H1 → TyX K H1 (.ref b) (.ref T.C) := fun H1 e => by
  obtain ⟨dx, d, p⟩ := h.ex e
  exact .base (.ins p.ob T.c_Book T.x_class T.x_get T.x_tk T.x_mro)
theorem kit_kind (T : Txt K mg w) {k : String} (h : k ∈ kinds) : PySem.W.kitOne K (.type k) (.ref T.C) = some false := by
  unfold PySem.W.kitOne
  rw [if_neg (by simp)]
  unfold PySem.W.kitCls
  have h1 : (PySem.W.clsIn K T.C).isSome = true := T.x_cls
  show (if ((PySem.W.clsIn K T.C).isSome && PySem.W.typeIn K (.ref T.C) == some (.type "type")) = true then PySem.W.subIn K (.type k) (.ref T.C) else none) = some false
  rw [h1, T.x_ty, sub_kind h]
  simp
theorem ev_get {p : Pt} {f : Pt → V} (h : Ev te σ H (.ref d)) (hd : H d = some (.dK (kvs ks f))) (hp : p ∈ ks) : Ev (tDGet te (tC (.str p.s))) σ H (f p) := fun H1 e1 Q q => h H1 e1 _ fun H2 e2 =>
  ⟨d, f p, rfl, .inl ⟨kvs ks f, .inr p.s, .inl (e2 _ _ (e1 _ _ hd)), rfl, (val_at hp).symm⟩, q H2 e2⟩
theorem meth_raw {m : Str} {sp : Sp} {dvs : List V} {Er : XK} {tA : TA} {Q : VK} (h : Ev ta σ H (.ref b)) (k : ∀ H1, Ex H H1 → ∃ dx fs, H1 b = some (.ins C dx fs) ∧ fs.lookup m = none ∧ tA σ H1 fun vs H2 => sp (.ref b :: (vs ++ dvs)) H2 Q Er) : tMeth C m sp dvs Er ta tA σ H Q := h H (Ex.refl H) _ fun H1 e1 => by
  obtain ⟨dx, fs, h1, h2, h3⟩ := k H1 e1
  exact ⟨b, dx, fs, rfl, h1, h2, h3⟩
theorem cons_raw {tA : TA} {x : V} {Q : List V → Hp → Prop} (h : Ev ta σ H x) (k : ∀ H1, Ex H H1 → tA σ H1 fun vs H2 => Q (x :: vs) H2) : tCons ta tA σ H Q := h H (Ex.refl H) _ k


theorem ok_Bwith_holds (T : Txt K mg w) (G_Binit : FnG P w K mg base CX0 7 T.f_Binit T.fd_Binit ["self", "take", "give", "move", "lift", "fails", "shared", "holds", "batch", "settles"] (sp_Binit K T.C)) : FnG P w K mg base CX0 9 T.f_Bwith_holds T.fd_Bwith_holds ["self", "holds"] (sp_Bwh K T.C) := by
  refine okG T.F_Bwith_holds sc_Bwith_holds (fun vs H Q E h => ?_) (fun cdv A outer s H vs Q E gd hr h => ?_)
  · obtain ⟨_, _, _, _, rfl, _⟩ := h
    all_goals rfl
  · obtain ⟨a, b, r, us, rfl, ⟨dx, d, p⟩, hb, hs, q⟩ := h
    refine ⟨_, (pss_cons (ps_set (i := 2) sc_Bwith_holds.nd rfl (Or.inl rfl) (pe_starD (pe_fld (pv 0) rfl) (pps_cons pe_str (pv 1) pps_nil) rfl rfl (by simp) (by simp))) (pss_one (ps_ret (pkD gd T.mk_Book G_Binit (hr.mono (by decide)) (by rfl) T.m_Book T.k_Binit pass0 (pv 2))))), ?_⟩
    obtain ⟨f, hd, hf⟩ := id p.di
    have hx := p.ob
    refine q_asgR fun pn hpn => ⟨_, rfl, a, T.C, dx, _, .ref d, rfl, Ex.new hpn _ _ hx, T.c_Book, T.n_parts, bf_parts d, upd_same, d, kvs bookKs f, rfl, .inl (Ex.new hpn _ _ hd), (ne_of_none hd hpn).symm, (by show 9 ≤ 1000; omega), fun q2 nq hq => ?_⟩
    refine ⟨.ref b, rfl, by rw [upd_ne nq.symm, upd_same], upd_same, kvs [.holds] (put f .holds (.ref b)), rfl, (by show 1 ≤ 15; omega), ?_⟩
    rw [made_kvs _ (by decide), merge_put f (bookKs_mem _)]
    have hq0 : H q2 = none := by rwa [upd_ne nq] at hq
    have e1 : Ex H (upd (upd (upd (upd (upd H pn (.dK [])) pn (.dK (kvs bookKs f))) q2 (.dK [])) q2 (.dK (kvs [.holds] (put f .holds (.ref b))))) pn (.dK (kvs bookKs (put f .holds (.ref b))))) := Ex.mut (Ex.mut (Ex.mut (Ex.mut (Ex.new hpn) hpn) hq0) hq0) hpn
    have h1 : (upd (upd (upd (upd (upd H pn (.dK [])) pn (.dK (kvs bookKs f))) q2 (.dK [])) q2 (.dK (kvs [.holds] (put f .holds (.ref b))))) pn (.dK (kvs bookKs (put f .holds (.ref b))))) pn = some (.dK (kvs bookKs (put f .holds (.ref b)))) := upd_same
    generalize upd (upd (upd (upd (upd H pn (.dK [])) pn (.dK (kvs bookKs f))) q2 (.dK [])) q2 (.dK (kvs [.holds] (put f .holds (.ref b))))) pn (.dK (kvs bookKs (put f .holds (.ref b)))) = H1 at e1 h1
    -- the parts of the new book
    have hg : ∀ p', (({ r with holds := us } : Ru).get p').At K H1 (put f .holds (.ref b) p') := fun p' => by
      by_cases z : p' = .holds
      · subst z
        unfold put
        rw [if_pos rfl]
        exact ⟨b, rfl, hb.ex e1⟩
      · unfold put
        rw [if_neg z]
        have g1 := (hf p' (bookKs_mem _)).ex e1
        have g2 : ({ r with holds := us } : Ru).get p' = r.get p' := by cases p' <;> first | rfl | exact absurd rfl z
        rw [g2]
        exact g1
    refine s_retR (fun pk hpk => ⟨_, rfl, upd_same, pn, bookKs.map (put f .holds (.ref b)), rfl, (ne_of_none h1 hpk).symm, .inl (by
      rw [upd_ne (ne_of_none h1 hpk), h1]
      rfl), rfl, (by show 9 ≤ 1000; omega), fun x dy hx0 hdy ndx => ?_⟩)
    have ek : kvN ["take", "give", "move", "lift", "fails", "shared", "holds", "batch", "settles"] (bookKs.map (put f .holds (.ref b))) = kvs bookKs (put f .holds (.ref b)) := rfl
    have hpk1 : H1 pk = none := hpk
    have nxk : x ≠ pk := fun z => by rw [z, upd_same] at hx0; cases hx0
    have nyk : dy ≠ pk := fun z => by rw [z, upd_same] at hdy; cases hdy
    have hx1 : H1 x = none := by rwa [upd_ne nxk, upd_ne nxk] at hx0
    have hy1 : H1 dy = none := by rwa [upd_ne nyk, upd_ne nyk] at hdy
    refine ⟨H1, x, dy, { r with holds := us }, put f .holds (.ref b), rfl, ?_, hx1, upd_same, hg, p.ok.holds_of (l := { r with holds := us }) hs, fun H2 e2 hb2 => ⟨rfl, q H2 x (fresh_back e1 hx1) (e1.trans e2) hb2.at⟩⟩
    exact Ex.mut (Ex.mut (Ex.mut (Ex.new hpk1) hpk1) hy1) hx1
/-- b.holds -/
theorem ev_holds {T : Txt K mg w} {dx : Addr} {f : Pt → V} (h : Ev te σ H (.ref b)) (ob : H b = some (.ins T.C dx (bf d))) (hd : H d = some (.dK (kvs bookKs f))) : Ev (tProp T.C (sp_Bholds K T.C) [] E0 te) σ H (f .holds) := fun H1 e1 Q q => h H1 e1 _ fun H2 e2 =>
  ⟨b, dx, bf d, rfl, e2 _ _ (e1 _ _ ob), b, dx, d, f, rfl, e2 _ _ (e1 _ _ ob), e2 _ _ (e1 _ _ hd), fun H3 e3 => q H3 (e2.trans e3)⟩
/-- evaluates to a book -/
def EvB (K : PySem.W.Frag) (C : Addr) (te : TE) (σ : L2.St) (H : Hp) (r : Ru) : Prop := ∀ H1, Ex H H1 → ∀ Q : VK, (∀ p H2, Ex H1 H2 → BookAt K C H2 p r → Q (.ref p) H2) → te σ H1 Q
theorem eb_var {i : Nat} (h : σ[i]? = some (some (.ref b))) (hb : BookAt K C H b r) : EvB K C (tVar i) σ H r := fun H1 e1 Q q => ⟨_, h, q b H1 (Ex.refl H1) (hb.ex e1)⟩
theorem ev_eqB {Er : XK} (h : EvB K C ta σ H r) (h2 : Ev tb σ H (.ref b)) (hb : BookAt K C H b l) : Ev (tOp (rEqOwn K C (sp_Beq K C) Er) ta tb) σ H (.bl (decide (r = l))) := fun H1 e1 Q q => h H1 e1 _ fun p H2 e2 hp => h2 H2 (e1.trans e2) _ fun H3 e3 => by
  have x3 := (e1.trans e2).trans e3
  obtain ⟨dx, d, z⟩ := id (hp.ex e3)
  obtain ⟨dy, d', z'⟩ := id (hb.ex x3)
  exact ⟨p, dx, _, rfl, z.ob, .ins z'.ob, .inl ⟨p, b, r, l, rfl, hp.ex e3, hb.ex x3, fun H4 e4 => ⟨_, rfl, q H4 ((e2.trans e3).trans e4)⟩⟩⟩
theorem ev_neB {Er : XK} (h : EvB K C ta σ H r) (h2 : Ev tb σ H (.ref b)) (hb : BookAt K C H b l) : Ev (tOp (rNeOwn K C (sp_Beq K C) Er) ta tb) σ H (.bl (!decide (r = l))) := fun H1 e1 Q q => h H1 e1 _ fun p H2 e2 hp => h2 H2 (e1.trans e2) _ fun H3 e3 => by
  have x3 := (e1.trans e2).trans e3
  obtain ⟨dx, d, z⟩ := id (hp.ex e3)
  obtain ⟨dy, d', z'⟩ := id (hb.ex x3)
  exact ⟨p, dx, _, rfl, z.ob, .ins z'.ob, .inl ⟨p, b, r, l, rfl, hp.ex e3, hb.ex x3, fun H4 e4 => ⟨_, rfl, q H4 ((e2.trans e3).trans e4)⟩⟩⟩

theorem tlc_of {wi : TI} {g : TG} {tt : TT} {vs : List Nat} {Q : VK} {J : It} {n : Nat} {G : Hp → Prop} {Y : Nat → Hp → V → Hp → Prop} (w : Walk J n G Y) (hw : ∀ R : It → Hp → Prop, R J H → wi σ H R) (Pv : Addr → Nat → Hp → Prop) (h0 : ∀ Dl, H Dl = none → Pv Dl 0 (upd H Dl (.lst [])))
    (hG : ∀ Dl i H', i ≤ n → Pv Dl i H' → G H') (hs : ∀ Dl i x H1 H2, H Dl = none → i < n → Pv Dl i H1 → Y i H1 x H2 → g x (wipe σ vs) H2 fun σ2 H2 => wipe σ2 vs = wipe σ vs ∧ tt σ2 H2 fun b H3 => if b = true then te σ2 H3 fun y H4 => ∃ acc, H4 Dl = some (.lst acc) ∧ acc.length < sizeLine ∧ Pv Dl (i + 1) (upd H4 Dl (.lst (acc ++ [y]))) else Pv Dl (i + 1) H3)
    (hd : ∀ Dl H', H Dl = none → Pv Dl n H' → Q (.ref Dl) H') : tLc wi g tt te vs σ H Q := hw _ fun Dl hDl => lc_it w (Pv Dl) (h0 Dl hDl) (hG Dl) (fun i x H1 H2 hi p y => hs Dl i x H1 H2 hDl hi p y) (Qd := fun H' => Q (.ref Dl) H') (fun H' p => hd Dl H' hDl p)
theorem ej_cons {t : TE} {ts : List TE} {acc y : Str} {Q : Str → Hp → Prop} (h : Ev t σ H (.str y)) (hl : (acc ++ y).length ≤ 100000) (k : ∀ H1, Ex H H1 → tJs ts (acc ++ y) σ H1 Q) : tJs (t :: ts) acc σ H Q := h H (Ex.refl H) _ fun H1 e => ⟨y, rfl, sz_of hl, k H1 e⟩
theorem ev_fmtS {y : Str} (h : Ev te σ H (.str y)) (hl : y.length ≤ 100000) : Ev (tFmt te) σ H (.str y) := fun H1 e Q q => h H1 e _ fun H2 e2 => .inl ⟨y, rfl, sz_of hl, q H2 e2⟩
theorem fmt_any {v : V} {r : Ru} {p : Pt} {Q : VK} (ok : Ok r) (h : (r.get p).At K H v) (q : Q (.str (r.get p).d.shown) H) :
    (∃ y : Str, v = .str y ∧ (reprText y).length ≤ sizeLine ∧ Q (.str (reprText y)) H) ∨ (∃ i : Int, v = .int i ∧ i.natAbs.log2 < 1920 ∧ Q (.str (toString i)) H) ∨ (∃ b : Bool, v = .bl b ∧ Q (.str (if b then "True" else "False")) H) ∨
    (∃ d, Dp K H v d ∧ isDisplay d = true ∧ d.showable = true ∧ d.hasDict = false ∧ d.depth ≤ 60 ∧ d.shown.length ≤ sizeLine ∧ Q (.str d.shown) H) := by
  have len := sh_len ok p
  have row : ∀ {us : Rw}, us.length ≤ 6 → (r.get p).d = dRow us → ∃ d, Dp K H v d ∧ isDisplay d = true ∧ d.showable = true ∧ d.hasDict = false ∧ d.depth ≤ 60 ∧ d.shown.length ≤ sizeLine ∧ Q (.str d.shown) H := fun hl e => by
    have s := sm_row hl
    have dp := h.dp
    rw [e] at dp q len
    exact ⟨_, dp, rfl, s.sh, s.nd, by have := s.de; omega, sz_of (by omega), q⟩
  cases p
  · exact .inr (.inr (.inr (row ok.t.1.ln rfl)))
  · exact .inr (.inr (.inr (row ok.g.1.ln rfl)))
  · exact .inr (.inr (.inr (row ok.m.1.ln rfl)))
  · exact .inr (.inr (.inr (row ok.l.1.ln rfl)))
  · cases h
    have e : (dW r.fails).shown = reprText r.fails.s := by
      show (PyData.str r.fails.s).shown = _
      simp only [PyData.shown]
    have e2 : (r.get .fails).d = dW r.fails := rfl
    rw [e2, e] at q len
    exact .inl ⟨_, rfl, sz_of (by omega), q⟩
  · cases h
    have e : (PyData.bool r.shared).shown = (if r.shared then ("True" : Str) else "False") := by simp only [PyData.shown]
    have e2 : (r.get .shared).d = .bool r.shared := rfl
    rw [e2, e] at q
    exact .inr (.inr (.inl ⟨_, rfl, by cases hb : r.shared <;> rw [hb] at q <;> exact q⟩))
  · exact .inr (.inr (.inr (row (by have := holds_ln ok.h; omega) rfl)))
  · cases h
    have e : (PyData.int (r.batch : Int)).shown = toString (r.batch : Int) := by simp only [PyData.shown]
    have e2 : (r.get .batch).d = .int r.batch := rfl
    rw [e2, e] at q
    have hb := ok.b.2
    refine .inr (.inl ⟨_, rfl, ?_, q⟩)
    have : ((r.batch : Int)).natAbs = r.batch := Int.natAbs_natCast _
    rw [this]
    by_cases z : r.batch = 0
    · rw [z]
      decide
    · exact Nat.lt_of_lt_of_le ((Nat.log2_lt z).mpr (show r.batch < 2 ^ 6 by omega)) (by decide)
  · cases h
    have e : (PyData.bool r.settles).shown = (if r.settles then ("True" : Str) else "False") := by simp only [PyData.shown]
    have e2 : (r.get .settles).d = .bool r.settles := rfl
    rw [e2, e] at q
    exact .inr (.inr (.inl ⟨_, rfl, by cases hb : r.settles <;> rw [hb] at q <;> exact q⟩))
theorem ev_fmtA {v : V} {r : Ru} {p : Pt} (ok : Ok r) (h : Ev te σ H v) (hv : (r.get p).At K H v) : Ev (tFmtV K te) σ H (.str (r.get p).d.shown) := fun H1 e Q q => h H1 e _ fun H2 e2 => fmt_any ok (hv.ex (e.trans e2)) (q H2 e2)

end
end My
namespace My
open PySem PySem.Spec PyProof.Rows L2 GL Evl StX SkE
/-! ### the law's draws, its rows -/
def sp_Lpick : Sp := fun vs H Q _ => ∃ a l, ∃ xs : List V, vs = [.ref a, .ref l] ∧ PotAt H a ∧ l ≠ a ∧ H l = some (.lst xs) ∧ 1 ≤ xs.length ∧ xs.length ≤ 1000 ∧ ∀ H' v, ExB a H H' → PotAt H' a → v ∈ xs → Q v H'
def sp_Lseqs (K : PySem.W.Frag) : Sp := fun vs H Q _ => ∃ a ws, vs = [.ref a] ∧ SqL K H a (ws.map wV) ∧ ws ∈ [takeWs, giveWs, moveWs] ∧ ∀ H' p xs, H p = none → Ex H H' → H' p = some (.lst xs) → RowsAt K H' xs (seqs ws) → Q (.ref p) H'
def sp_Lahead (K : PySem.W.Frag) : Sp := fun vs H Q _ => ∃ a us x y, vs = [.ref a, wV x, wV y] ∧ RowX K H a us ∧ RetV (.bl (lAhead us x y)) H Q
def sp_Ltk (K : PySem.W.Frag) : Sp := fun vs H Q _ => ∃ a us, ∃ n : Nat, vs = [.ref a, nV n] ∧ RowX K H a us ∧ RetV (.bl (lTake us n)) H Q
def sp_Lgv (K : PySem.W.Frag) : Sp := fun vs H Q _ => ∃ a us, vs = [.ref a] ∧ RowX K H a us ∧ RetV (.bl (lGive us)) H Q
def sp_Lmv (K : PySem.W.Frag) : Sp := fun vs H Q _ => ∃ a us b, vs = [.ref a, .bl b] ∧ RowX K H a us ∧ RetV (.bl (lMove us b)) H Q
def sp_Lrows (K : PySem.W.Frag) (xs : List V) (rs : List Rw) : Sp := fun vs H Q _ => vs = xs ∧ ∀ H' p ys, H p = none → Ex H H' → H' p = some (.lst ys) → RowsAt K H' ys rs → Q (.ref p) H'
def sp_Ltakes (K : PySem.W.Frag) : Sp := fun vs H Q _ => ∃ n : Nat, vs = [nV n] ∧ ∀ H' p ys, H p = none → Ex H H' → H' p = some (.lst ys) → RowsAt K H' ys (takes n) → Q (.ref p) H'
def sp_Lgives (K : PySem.W.Frag) : Sp := fun vs H Q _ => vs = [] ∧ ∀ H' p ys, H p = none → Ex H H' → H' p = some (.lst ys) → RowsAt K H' ys gives → Q (.ref p) H'
def sp_Lmoves (K : PySem.W.Frag) : Sp := fun vs H Q _ => ∃ b : Bool, vs = [.bl b] ∧ ∀ H' p ys, H p = none → Ex H H' → H' p = some (.lst ys) → RowsAt K H' ys (moves b) → Q (.ref p) H'
def sp_Llifts (K : PySem.W.Frag) : Sp := fun vs H Q _ => vs = [] ∧ ∀ H' p ys, H p = none → Ex H H' → H' p = some (.lst ys) → RowsAt K H' ys liftRows → Q (.ref p) H'
theorem seq_len {ws : Rw} (hw : ws ∈ [takeWs, giveWs, moveWs]) {i : Nat} (hi : i ≤ ws.length) : (found ws i).length ≤ 2000 ∧ (grow ws i).length ≤ 2000 := by
  have go : ([takeWs, giveWs, moveWs].all fun ws => (List.range (ws.length + 1)).all fun i => decide ((found ws i).length ≤ 2000) && decide ((grow ws i).length ≤ 2000)) = true := by decide +kernel
  have h := List.all_eq_true.mp (List.all_eq_true.mp go ws hw) i (List.mem_range.mpr (by omega))
  rw [Bool.and_eq_true] at h
  exact ⟨of_decide_eq_true h.1, of_decide_eq_true h.2⟩
theorem ws_len {ws : Rw} (hw : ws ∈ [takeWs, giveWs, moveWs]) : ws.length ≤ 6 := by
  have go : ([takeWs, giveWs, moveWs].all fun ws => decide (ws.length ≤ 6)) = true := by decide
  exact of_decide_eq_true (List.all_eq_true.mp go ws hw)
theorem grow_len {ws : Rw} : ∀ {i : Nat} {us : Rw}, us ∈ grow ws i → us.length = i
  | 0, us, h => by
    rw [List.mem_singleton.mp h]
    rfl
  | i + 1, us, h => by
    obtain ⟨vs, hv, hu⟩ := List.mem_flatMap.mp h
    obtain ⟨w0, _, rfl⟩ := List.mem_map.mp hu
    rw [List.length_append, grow_len hv]
    rfl
theorem flat_take {f : Rw → List Rw} (ls : List Rw) (j : Nat) : ((ls.take j).flatMap f).length ≤ (ls.flatMap f).length := by
  conv => rhs; rw [← List.take_append_drop j ls]
  rw [List.flatMap_append, List.length_append]
  omega
theorem ext_take (ws us : Rw) {k : Nat} {w : Wd} (h : ws[k]? = some w) : ((ws.take (k + 1)).filter fun w => !decide (w ∈ us)).map (fun w => us ++ [w]) = ((ws.take k).filter fun w => !decide (w ∈ us)).map (fun w => us ++ [w]) ++ (if w ∈ us then [] else [us ++ [w]]) := by
  rw [List.take_add_one, h, List.filter_append, List.map_append]
  congr 1
  show List.map _ (List.filter _ [w]) = _
  by_cases e : w ∈ us
  · rw [if_pos e, List.filter_cons_of_neg (by simpa using e)]
    rfl
  · rw [if_neg e, List.filter_cons_of_pos (by simpa using e)]
    rfl
section
variable {P : Program} {w : World} {K : PySem.W.Frag} {mg : Str → Option Value} {base : Heap} {C : Addr} {H H' : Hp} {σ : L2.St} {te tb ta : TE} {tA : TA} {E : XK} {D : Ends} {tz : TS} {a b d : Addr} {us : Rw} {xs ys : List V} {rs qs : List Rw}
theorem RowsAt.exB (h : RowsAt K H xs rs) (e : ExB b H H') (n : NoTup H b) : RowsAt K H' xs rs := by
  induction h with
  | nil => exact .nil
  | cons h _ ih => exact .cons (h.exB e n) ih
theorem ok_Ldraw (T : Txt K mg w)  : FnG P w K mg base CX0 1 T.f_Ldraw T.fd_Ldraw ["_law_pot_here", "_law_sides"] sp_Ldraw := by
  refine okG T.F_Ldraw sc_Ldraw (fun vs H Q E h => ?_) (fun cdv A outer s H vs Q E gd hr h => ?_)
  · obtain ⟨_, _, rfl, _⟩ := h
    all_goals rfl
  · obtain ⟨a, n, rfl, ⟨x, y, hx, hx0, hy0, hy1⟩, hn, hn2, q⟩ := h
    refine ⟨_, (pss_cons (ps_if (pt_cmpR op_gt (pe_ix ix_list (pv 0) pe_int (fun _ _ => rfl)) pe_int (nomark _)) (pss_cons (ps_asg (pe_callB call_divmodW (by rfl) T.z_divmod boot_divmod (pa_cons (pe_ix ix_list (pv 0) pe_int (fun _ _ => rfl)) (pa_cons (pv 1) pa_nil))) (pg_tup rfl (pgs_cons (pg_sub (pv 0) pe_int set_list) (pgs_cons (pg_name (i := 2) sc_Ldraw.nd rfl (Or.inl rfl) (Or.inr rfl)) pgs_nil)))) (pss_one (ps_ret (pv 2)))) pss_nil) (pss_cons (ps_asg (pe_op op_mod (pe_callTy call_int1 (by rfl) T.z_int (by decide +kernel) (pa_cons (pe_op op_add (pe_op op_mul (pe_ix ix_list (pv 0) pe_int (fun _ _ => rfl)) pe_int) pe_int) pa_nil)) pe_int) (pg_sub (pv 0) pe_int set_list)) (pss_one (ps_ret (pe_op op_mod (pe_callTy call_int1 (by rfl) T.z_int (by decide +kernel) (pa_cons (pe_op op_fdiv (pe_op op_mod (pe_callTy call_int1 (by rfl) T.z_int (by decide +kernel) (pa_cons (pe_op op_mul (pe_ix ix_list (pv 0) pe_int (fun _ _ => rfl)) (pe_ix ix_list (pv 0) pe_int (fun _ _ => rfl))) pa_nil)) pe_int) pe_int) pa_nil)) (pv 1)))))), ?_⟩
    have at0 : ∀ H1, H1 a = some (.lst [.int x, .int y]) → Ev (tOp (rIxL K) (tVar 0) (tC (.int 0))) [some (.ref a), some (nV n), none] H1 (.int x) := fun H1 h => ev_op (ev_var rfl) ev_c (rv_ixL (sq_of h) (atI_nat (j := 0) rfl))
    refine q_when (et_test (ev_op (at0 _ hx) ev_c rv_I0)) (fun hb H1 e1 => ?_) fun hb H1 e1 => ?_
    · refine q_asgR (cb_raw (ea_cons (at0 _ (e1 _ _ hx)) (ea_cons (ev_var rfl) ea_nil)) fun H2 e2 => ⟨x, n, rfl, ⟨by omega, no_pylong hn2⟩, fun p hp => ?_⟩)
      have hx2 := e2 _ _ (e1 _ _ hx)
      have nap : a ≠ p := ne_of_none hx2 hp
      have hx3 : (upd H2 p (.tup [.int (x / n), .int (x % n)])) a = some (.lst [.int x, .int y]) := by
        rw [upd_ne nap]
        exact hx2
      refine ⟨p, _, rfl, st_of upd_same, rfl, _, _, rfl, _, rfl, a, _, 0, 0, rfl, rfl, hx3, rfl, _, _, rfl, rfl, ?_⟩
      have hlo := Int.emod_nonneg x (show (n : Int) ≠ 0 by omega)
      have hhi := Int.emod_lt_of_pos x (show (0 : Int) < n by omega)
      have hq := Int.ediv_nonneg hx0 (show (0 : Int) ≤ n by omega)
      refine s_ret (v := nV (x % n).toNat) (ev_is (ev_var rfl) (by show V.int _ = V.int _; congr 1; omega)) fun H4 e4 => q H4 _ ?_ ?_ (by omega)
      · exact (((ExB.of (e1.trans e2)).trans (ExB.of (Ex.new hp))).trans ExB.set).trans (ExB.of e4)
      · exact ⟨_, _, e4 _ _ upd_same, hq, hy0, hy1⟩
    · have at1 : ∀ H1 z, H1 a = some (.lst [.int x, .int z]) → Ev (tOp (rIxL K) (tVar 0) (tC (.int 1))) [some (.ref a), some (nV n), none] H1 (.int z) := fun H1 z h => ev_op (ev_var rfl) ev_c (rv_ixL (sq_of h) (atI_nat (j := 1) rfl))
      have h1 := e1 _ _ hx
      refine q_asgR (ev_raw (ev_op (ev_cb (ea_cons (ev_op (ev_op (at1 H1 y h1) ev_c (rv_I (.inl ⟨by omega, by omega⟩))) ev_c rv_I0) ea_nil) rc_int) ev_c (rv_I (by show (0 : Int) < 2147483549; omega))) fun H2 e2 => ?_)
      refine ⟨_, rfl, a, _, 1, 1, rfl, rfl, e2 _ _ h1, rfl, ?_⟩
      have b0 := Int.emod_nonneg (y * 40009 + 17011) (show (2147483549 : Int) ≠ 0 by omega)
      have b1 := Int.emod_lt_of_pos (y * 40009 + 17011) (show (0 : Int) < 2147483549 by omega)
      generalize (y * 40009 + 17011) % 2147483549 = z at b0 b1
      have h3 : (upd H2 a (.lst [.int x, .int z])) a = some (.lst [.int x, .int z]) := upd_same
      have x3 : ExB a H (upd H2 a (.lst [.int x, .int z])) := (ExB.of (e1.trans e2)).trans ExB.set
      show tRet _ _ _ _
      refine s_ret (v := nV ((z * z % 2147483587 / 11) % n).toNat) (ev_is (ev_op (ev_cb (ea_cons (ev_op (ev_op (ev_cb (ea_cons (ev_op (at1 _ z h3) (at1 _ z h3) (rv_I (.inl ⟨by omega, by omega⟩))) ea_nil) rc_int) ev_c (rv_I (by show (0 : Int) < 2147483587; omega))) ev_c (rv_I ⟨by decide, by decide⟩)) ea_nil) rc_int) (ev_var rfl) (rv_I (by show (0 : Int) < n; omega))) ?_) fun H4 e4 => q H4 _ (x3.trans (ExB.of e4)) ⟨x, z, e4 _ _ h3, hx0, b0, by omega⟩ ?_
      · have := Int.emod_nonneg (z * z % 2147483587 / 11) (show (n : Int) ≠ 0 by omega)
        show V.int _ = V.int _
        congr 1
        omega
      · have := Int.emod_lt_of_pos (z * z % 2147483587 / 11) (show (0 : Int) < n by omega)
        have := Int.emod_nonneg (z * z % 2147483587 / 11) (show (n : Int) ≠ 0 by omega)
        omega
theorem ok_Lpot (T : Txt K mg w)  : FnG P w K mg base CX0 1 T.f_Lpot T.fd_Lpot ["_law_script", "_law_k"] (sp_Lpot K) := by
  refine okG T.F_Lpot sc_Lpot (fun vs H Q E h => ?_) (fun cdv A outer s H vs Q E gd hr h => ?_)
  · obtain ⟨_, _, _, rfl, _⟩ := h
    all_goals rfl
  · obtain ⟨a, ns, k, rfl, hs, hl, hk, q⟩ := h
    refine ⟨_, (pss_cons (ps_set (i := 2) sc_Lpot.nd rfl (Or.inl rfl) (pe_op op_add (pe_op op_mul pe_int (pv 1)) pe_int)) (Evl.pss_cut (ps_if (pt_cmpR op_lt (pv 1) (pe_callB call_len_seq (by rfl) T.z_len PySem.boot_len (pa_cons (pv 0) pa_nil)) (nomark _)) (pss_one (ps_set (i := 2) sc_Lpot.nd rfl (Or.inl rfl) (pe_callB call_abs (by rfl) T.z_abs boot_abs (pa_cons (pe_ix ix_list (pv 0) (pv 1) (fun _ _ => rfl)) pa_nil)))) pss_nil) (pss_one (ps_ret (pe_lst (pa_cons (pe_callB (call_max2 rfl) (by rfl) T.z_max boot_max (pa_cons pe_int (pa_cons (pe_op op_sub (pv 2) (pe_op op_pow pe_int pe_int)) pa_nil))) (pa_cons (pe_op op_add (pe_op op_mod (pe_op op_mul (pe_callTy call_int1 (by rfl) T.z_int (by decide +kernel) (pa_cons (pe_op op_add (pe_op op_mod (pe_callTy call_int1 (by rfl) T.z_int (by decide +kernel) (pa_cons (pv 2) pa_nil)) pe_int) pe_int) pa_nil)) (pe_op op_pow (pe_op op_add (pe_op op_mul pe_int (pv 1)) pe_int) pe_int)) pe_int) pe_int) pa_nil))))))), ?_⟩
    refine q_asg (ev_op (ev_op ev_c (ev_var rfl) (rv_I (.inl ⟨by omega, by omega⟩))) ev_c rv_I0) fun H1 e1 => ?_
    refine q_cut (M := fun σ' H' => Ex H H' ∧ ∃ c : Int, 0 ≤ c ∧ σ' = [some (.ref a), some (.int (k : Int)), some (.int c)]) ?_ fun σ' H' z => ?_
    · refine s_when (et_test (ev_op (ev_var rfl) (ev_cb (ea_cons (ev_var rfl) ea_nil) (rc_lenL (ex_l e1 hs))) rv_I0)) (fun hb H2 e2 => ?_) fun hb H2 e2 => ⟨e1.trans e2, _, ?_, rfl⟩
      · have hlt : k < ns.length := by
          have := of_decide_eq_true hb
          rw [List.length_map] at this
          omega
        refine s_asg (ev_cb (ea_cons (ev_op (ev_var rfl) (ev_var rfl) (rv_ixL (ex_l (e1.trans e2) hs) (atI_nat (v := .int ns[k]) (by rw [List.getElem?_map, List.getElem?_eq_getElem hlt]; rfl)))) ea_nil) rc_abs) fun H3 e3 => ⟨e1.trans (e2.trans e3), _, ?_, rfl⟩
        split <;> omega
      · omega
    · obtain ⟨x2, c, hc, rfl⟩ := z
      have m0 := Int.emod_nonneg c (show (2147483543 : Int) ≠ 0 by omega)
      have m1 := Int.emod_lt_of_pos c (show (0 : Int) < 2147483543 by omega)
      refine s_retL (xs := [.int (if c - 10 ^ (18 : Int).toNat > 0 then c - 10 ^ (18 : Int).toNat else 0), .int ((c % 2147483543 + 7) * (2 * (k : Int) + 3) ^ (3 : Int).toNat % 2147483489 + 1)])
        (el_lst (ea_cons (ev_cb (ea_cons ev_c (ea_cons (ev_op (ev_var rfl) (ev_op ev_c ev_c (rv_I ⟨by decide, by decide, by decide⟩)) rv_I0) ea_nil)) rc_max2) (ea_cons (ev_op (ev_op (ev_op (ev_cb (ea_cons (ev_op (ev_op (ev_cb (ea_cons (ev_var rfl) ea_nil) rc_int) ev_c (rv_I (by show (0 : Int) < 2147483543; omega))) ev_c rv_I0) ea_nil) rc_int)
          (ev_op (ev_op (ev_op ev_c (ev_var rfl) (rv_I (.inl ⟨by omega, by omega⟩))) ev_c rv_I0) ev_c (rv_I ⟨by decide, by decide, by omega⟩)) (rv_I (.inl ⟨by omega, by omega⟩))) ev_c (rv_I (by show (0 : Int) < 2147483489; omega))) ev_c rv_I0) ea_nil)) (by show 2 ≤ 100000; omega)) fun p H3 hp e3 h3 => q H3 p (fresh_back x2 hp) (x2.trans e3) ⟨_, _, h3, ?_, ?_, ?_⟩
      · split <;> omega
      · have := Int.emod_nonneg ((c % 2147483543 + 7) * (2 * (k : Int) + 3) ^ (3 : Int).toNat) (show (2147483489 : Int) ≠ 0 by omega)
        omega
      · have := Int.emod_lt_of_pos ((c % 2147483543 + 7) * (2 * (k : Int) + 3) ^ (3 : Int).toNat) (show (0 : Int) < 2147483489 by omega)
        omega
theorem ok_Lpick (T : Txt K mg w) (G_Ldraw : FnG P w K mg base CX0 1 T.f_Ldraw T.fd_Ldraw ["_law_pot_here", "_law_sides"] sp_Ldraw) : FnG P w K mg base CX0 2 T.f_Lpick T.fd_Lpick ["_law_pot_here", "_law_some"] sp_Lpick := by
  refine okG T.F_Lpick sc_Lpick (fun vs H Q E h => ?_) (fun cdv A outer s H vs Q E gd hr h => ?_)
  · obtain ⟨_, _, _, rfl, _⟩ := h
    all_goals rfl
  · obtain ⟨a, l, xs, rfl, hp, nla, hl, h1, h2, q⟩ := h
    refine ⟨_, (pss_one (ps_ret (pe_ix ix_list (pv 1) (pc gd G_Ldraw (hr.mono (by decide)) (by rfl) T.m_Ldraw T.F_Ldraw.kp T.b_Ldraw .nil pass0 (pa_cons (pv 0) (pa_cons (pe_callB call_len_seq (by rfl) T.z_len PySem.boot_len (pa_cons (pv 1) pa_nil)) pa_nil))) (fun _ _ => rfl)))), ?_⟩
    refine s_retR (op_raw (ev_raw (ev_var (v := .ref l) rfl) fun H1 e1 => ?_))
    refine dr (n := xs.length) (ea_cons (ev_var rfl) (ea_cons (ev_len (ev_var rfl) (sq_of (e1 _ _ hl))) ea_nil)) (hp.ex e1) h1 h2 fun H2 d x2 p2 hd => ?_
    exact ⟨l, xs, (d : Int), xs[d], rfl, rfl, sq_of (x2 _ _ nla (e1 _ _ hl)), atI_nat (List.getElem?_eq_getElem hd), q H2 _ ((ExB.of e1).trans x2) p2 (List.getElem_mem hd)⟩
theorem ev_aheadI {i j : Nat} (h1 : Ev ta σ H (nV i)) (h2 : Ev tb σ H (nV j)) : Ev (tOp (rI0 fun i j => .bl (decide (i < j))) ta tb) σ H (.bl (decide (i < j))) := ev_is (ev_op h1 h2 rv_I0) (congrArg V.bl (decide_eq_decide.mpr (by omega)))
theorem ok_Lis_ahead (T : Txt K mg w)  : FnG P w K mg base CX0 1 T.f_Lis_ahead T.fd_Lis_ahead ["_law_some", "_law_word", "_law_later"] (sp_Lahead K) := by
  refine okG T.F_Lis_ahead sc_Lis_ahead (fun vs H Q E h => ?_) (fun cdv A outer s H vs Q E gd hr h => ?_)
  · obtain ⟨_, _, _, _, rfl, _⟩ := h
    all_goals rfl
  · obtain ⟨a, us, x, y, rfl, ra, q⟩ := h
    refine ⟨_, (pss_one (ps_ret (pe_or (pe_cmpR op_notIn_seq (pv 1) (pv 0) (by rfl)) (pe_or (pe_cmpR op_notIn_seq (pv 2) (pv 0) (by rfl)) (pe_one (pe_cmpR op_lt (pe_bmX PySem.F.slot_tuple_index PySem.F.type_tuple_index mt_tup_index (pv 0) (pa_cons (pv 1) pa_nil)) (pe_bmX PySem.F.slot_tuple_index PySem.F.type_tuple_index mt_tup_index (pv 0) (pa_cons (pv 2) pa_nil)) (nomark _))))))), ?_⟩
    refine s_ret (ev_is (ev_orV (ev_op (ev_var rfl) (ev_var rfl) (rv_niW ra.sq)) fun h1 => ev_orV (ev_op (ev_var rfl) (ev_var rfl) (rv_niW ra.sq)) fun h2 => ev_aheadI (ev_idx (us := us) (ev_var rfl) (ev_var rfl) ra (by simpa using h1)) (ev_idx (us := us) (ev_var rfl) (ev_var rfl) ra (by simpa using h2))) (cbl (b := lAhead us x y) (by unfold lAhead; rw [Bool.or_assoc]))) q
theorem sv_ahead {x y : Wd} (h : RowX K H a us) : SpV (sp_Lahead K) [.ref a, wV x, wV y] H (.bl (lAhead us x y)) := fun _ e _ q _ => ⟨a, us, x, y, rfl, h.ex e, q⟩
theorem ev_aheadC {Er : XK} {z1 z2 : Str} {x y : Wd} (e1 : z1 = x.s) (e2 : z2 = y.s) (h : Ev ta σ H (.ref a)) (ra : RowX K H a us) : Ev (tCall (sp_Lahead K) [] Er (tCons ta (tCons (tC (.str z1)) (tCons (tC (.str z2)) tNil)))) σ H (.bl (lAhead us x y)) := ev_call (ea_cons h (ea_cons (ev_lit e1) (ea_cons (ev_lit e2) ea_nil))) (sv_ahead ra)
theorem bl_eq (a b : Bool) : decide (V.bl a = V.bl b) = (a == b) := by cases a <;> cases b <;> rfl
theorem ok_Lis_take (T : Txt K mg w) (G_Lis_ahead : FnG P w K mg base CX0 1 T.f_Lis_ahead T.fd_Lis_ahead ["_law_some", "_law_word", "_law_later"] (sp_Lahead K)) : FnG P w K mg base CX0 2 T.f_Lis_take T.fd_Lis_take ["_law_some", "_law_amount"] (sp_Ltk K) := by
  refine okG T.F_Lis_take sc_Lis_take (fun vs H Q E h => ?_) (fun cdv A outer s H vs Q E gd hr h => ?_)
  · obtain ⟨_, _, _, rfl, _⟩ := h
    all_goals rfl
  · obtain ⟨a, us, n, rfl, ra, q⟩ := h
    refine ⟨_, (pss_cons (ps_if ((pw_or (pt_cmpR op_notIn_seq pe_str (pv 0) (by rfl)) (pw_or (pt_cmpR op_eq (pe_cmpR op_in_seq pe_str (pv 0) (by rfl)) (pe_cmpR op_in_seq pe_str (pv 0) (by rfl)) (nomark _)) (pw_or1 ((pw_and (pt_cmpR op_in_seq pe_str (pv 0) (by rfl)) (pw_and1 (pt_cmpR op_in_seq pe_str (pv 0) (by rfl))))).pt)))).pt (pss_one (ps_ret pe_bl)) pss_nil) (pss_cons (ps_if ((pw_and (pt_cmpR op_gt (pv 1) pe_int (nomark _)) (pw_and1 (pt_cmpR op_ne (pe_ix ix_tup (pv 0) (pe_un un_neg pe_int) (fun _ _ => rfl)) pe_str (nomark _))))).pt (pss_one (ps_ret pe_bl)) pss_nil) (pss_one (ps_ret (pe_and (pc gd G_Lis_ahead (hr.mono (by decide)) (by rfl) T.m_Lis_ahead T.F_Lis_ahead.kp T.b_Lis_ahead .nil pass0 (pa_cons (pv 0) (pa_cons pe_str (pa_cons pe_str pa_nil)))) (pe_one (pc gd G_Lis_ahead (hr.mono (by decide)) (by rfl) T.m_Lis_ahead T.F_Lis_ahead.kp T.b_Lis_ahead .nil pass0 (pa_cons (pv 0) (pa_cons pe_str (pa_cons pe_str pa_nil)))))))))), ?_⟩
    refine q_when (b := !decide (Wd.live ∈ us) || (decide (Wd.tri ∈ us) == decide (Wd.add ∈ us)) || decide (Wd.tri ∈ us) && decide (Wd.look ∈ us)) (et_is (et_or (et_test (ev_niL rfl (ev_var rfl) ra)) fun _ => et_or (et_test (ev_is (ev_op (ev_inL (w0 := .tri) rfl (ev_var rfl) ra) (ev_inL (w0 := .add) rfl (ev_var rfl) ra) (rv_eq rfl)) (cbl (bl_eq _ _)))) fun _ => et_and (et_test (ev_inL rfl (ev_var rfl) ra)) fun _ => et_test (ev_inL rfl (ev_var rfl) ra)) (by rw [Bool.or_assoc])) (fun hb H1 e1 => s_ret (ev_is ev_c (cbl (b := lTake us n) ?_)) fun H2 e2 => q H2 (e1.trans e2)) fun hb H1 e1 => ?_
    · unfold lTake
      rw [hb]
      rfl
    have r1 := ra.ex e1
    have ne : us ≠ [] := fun z => by subst z; cases hb
    obtain ⟨x, hx, hat⟩ := at_last ne
    refine q_when (b := decide (n > 1) && !decide (us.getLast? = some .live)) (et_and (et_test (ev_is (ev_op (ev_var rfl) ev_c rv_I0) (congrArg V.bl (decide_eq_decide.mpr (by omega))))) fun _ => et_test (ev_is (ev_op (ev_op (ev_var rfl) (ev_un ev_c ru_neg) (rv_ixT r1.sq hat)) (ev_lit (w0 := .live) rfl) (rv_ne rfl)) (cbl ?_))) (fun hc H2 e2 => s_ret (ev_is ev_c (cbl (b := lTake us n) ?_)) fun H3 e3 => q H3 ((e1.trans e2).trans e3)) fun hc H2 e2 => ?_
    · rw [wV_eq x .live, hx]
      congr 1
      exact decide_eq_decide.mpr ⟨fun e => by rw [e], fun e => Option.some.inj e⟩
    · unfold lTake
      rw [hb, hc]
      rfl
    refine s_ret (ev_is (ev_andV (ev_aheadC (x := .look) (y := .live) rfl rfl (ev_var rfl) (r1.ex e2)) fun _ => ev_aheadC (x := .tri) (y := .live) rfl rfl (ev_var rfl) (r1.ex e2)) (cbl (b := lTake us n) ?_)) fun H3 e3 => q H3 ((e1.trans e2).trans e3)
    unfold lTake
    rw [hb, hc]
    rfl

theorem ok_Lis_move (T : Txt K mg w) (G_Lis_ahead : FnG P w K mg base CX0 1 T.f_Lis_ahead T.fd_Lis_ahead ["_law_some", "_law_word", "_law_later"] (sp_Lahead K)) : FnG P w K mg base CX0 2 T.f_Lis_move T.fd_Lis_move ["_law_some", "_law_is_shared"] (sp_Lmv K) := by
  refine okG T.F_Lis_move sc_Lis_move (fun vs H Q E h => ?_) (fun cdv A outer s H vs Q E gd hr h => ?_)
  · obtain ⟨_, _, _, rfl, _⟩ := h
    all_goals rfl
  · obtain ⟨a, us, b, rfl, ra, q⟩ := h
    refine ⟨_, (pss_cons (ps_if (pt_cmpR (op_eqD (roomU hr)) (pv 0) (pe_tupX pa_nil) (nomark _)) (pss_one (ps_ret pe_bl)) pss_nil) (pss_cons (ps_if ((pw_or (pt_cmpR op_notIn_seq pe_str (pv 0) (by rfl)) (pw_or1 ((pw_and (pt_cmpR op_in_seq pe_str (pv 0) (by rfl)) (pw_and1 ((pw_or (pt_cmpR op_in_seq pe_str (pv 0) (by rfl)) (pw_or1 (pt_cmpR op_in_seq pe_str (pv 0) (by rfl))))).pt))).pt))).pt (pss_one (ps_ret pe_bl)) pss_nil) (pss_cons (ps_if ((pw_and (pt_cmpR op_in_seq pe_str (pv 0) (by rfl)) (pw_and1 ((pw_or (pt_cmpR op_notIn_seq pe_str (pv 0) (by rfl)) (pw_or1 (pt_not (pt_val (pc gd G_Lis_ahead (hr.mono (by decide)) (by rfl) T.m_Lis_ahead T.F_Lis_ahead.kp T.b_Lis_ahead .nil pass0 (pa_cons (pv 0) (pa_cons pe_str (pa_cons pe_str pa_nil))))))))).pt))).pt (pss_one (ps_ret pe_bl)) pss_nil) (pss_cons (ps_if ((pw_and (pt_not (pt_val (pv 1))) (pw_and1 (pt_cmpR op_ne (pe_ix ix_tup (pv 0) pe_int (fun _ _ => rfl)) pe_str (nomark _))))).pt (pss_one (ps_ret pe_bl)) pss_nil) (pss_cons (ps_for PassesOwn.never rfl (pi_list (pe_lst (pa_cons pe_str (pa_cons pe_str pa_nil)))) (pg_name (i := 2) sc_Lis_move.nd rfl (Or.inl rfl) (Or.inr rfl)) (pss_one (ps_if ((pw_or (pt_not (pt_val (pc gd G_Lis_ahead (hr.mono (by decide)) (by rfl) T.m_Lis_ahead T.F_Lis_ahead.kp T.b_Lis_ahead .nil pass0 (pa_cons (pv 0) (pa_cons (pv 2) (pa_cons pe_str pa_nil)))))) (pw_or1 (pt_not (pt_val (pc gd G_Lis_ahead (hr.mono (by decide)) (by rfl) T.m_Lis_ahead T.F_Lis_ahead.kp T.b_Lis_ahead .nil pass0 (pa_cons (pv 0) (pa_cons (pv 2) (pa_cons pe_str pa_nil))))))))).pt (pss_one (ps_ret pe_bl)) pss_nil))) (pss_one (ps_ret pe_bl))))))), ?_⟩
    refine q_when (et_test (ev_eqW (us := us) (ev_var rfl) ra er_0)) (fun hb H1 e1 => s_ret (ev_is ev_c (cbl (b := lMove us b) ?_)) fun H2 e2 => q H2 (e1.trans e2)) fun hb H1 e1 => ?_
    · unfold lMove
      rw [hb]
      rfl
    have r1 := ra.ex e1
    refine q_when (b := !decide (Wd.set ∈ us) || decide (Wd.tri ∈ us) && (decide (Wd.add ∈ us) || decide (Wd.look ∈ us))) (et_or (et_test (ev_niL rfl (ev_var rfl) r1)) fun _ => et_and (et_test (ev_inL rfl (ev_var rfl) r1)) fun _ => et_or (et_test (ev_inL rfl (ev_var rfl) r1)) fun _ => et_test (ev_inL rfl (ev_var rfl) r1)) (fun hc H2 e2 => s_ret (ev_is ev_c (cbl (b := lMove us b) ?_)) fun H3 e3 => q H3 ((e1.trans e2).trans e3)) fun hc H2 e2 => ?_
    · unfold lMove
      rw [hb, hc]
      rfl
    have r2 := r1.ex e2
    refine q_when (b := decide (Wd.off ∈ us) && (!decide (Wd.home ∈ us) || !lAhead us .home .off)) (et_and (et_test (ev_inL rfl (ev_var rfl) r2)) fun _ => et_or (et_test (ev_niL rfl (ev_var rfl) r2)) fun _ => et_not (et_B (ev_aheadC rfl rfl (ev_var rfl) r2))) (fun hd H3 e3 => s_ret (ev_is ev_c (cbl (b := lMove us b) ?_)) fun H4 e4 => q H4 (((e1.trans e2).trans e3).trans e4)) fun hd H3 e3 => ?_
    · unfold lMove
      rw [hb, hc, hd]
      rfl
    have r3 := r2.ex e3
    obtain ⟨u0, us', eu⟩ : ∃ u0 us', us = u0 :: us' := by
      cases us with
      | nil => cases hb
      | cons u0 us' => exact ⟨u0, us', rfl⟩
    have hh : us.head? = some u0 := by rw [eu]; rfl
    refine q_when (b := !b && !decide (us.head? = some .home)) (et_and (et_not (et_B (ev_var rfl))) fun _ => et_test (ev_is (ev_op (ev_op (ev_var rfl) ev_c (rv_ixT (v := wV u0) r3.sq (by rw [eu]; exact atI_nat (j := 0) rfl))) (ev_lit (w0 := .home) rfl) (rv_ne rfl)) (cbl (by
      rw [wV_eq, hh]
      congr 1
      exact decide_eq_decide.mpr ⟨fun e => by rw [e], fun e => Option.some.inj e⟩)))) (fun he H4 e4 => s_ret (ev_is ev_c (cbl (b := lMove us b) ?_)) fun H5 e5 => q H5 ((((e1.trans e2).trans e3).trans e4).trans e5)) fun he H4 e4 => ?_
    · unfold lMove
      rw [hb, hc, hd, he]
      rfl
    have x4 := ((e1.trans e2).trans e3).trans e4
    have fin : lMove us b = lMoveA us := by
      unfold lMove
      rw [hb, hc, hd, he]
      rfl
    refine q_forNLn (xs := [wV .look, wV .tri]) (el_lst (ea_cons (ev_lit rfl) (ea_cons (ev_lit rfl) ea_nil)) (by show 2 ≤ 100000; omega)) (fun p i σ' H' => ∃ x, σ' = [some (.ref a), some (.bl b), x] ∧ Ex H H' ∧ H' p = some (.lst [wV .look, wV .tri]) ∧ ∀ u ∈ ([.look, .tri] : Rw).take i, (lAhead us u .set && lAhead us u .off) = true) (fun p H5 _ e5 h5 => ⟨_, rfl, x4.trans e5, h5, fun u hu => by cases hu⟩) (fun p i σ' H' _ z => ?_) (fun p i x σ' H' hx z => ?_) (fun p σ' H' z => ?_)
    · obtain ⟨_, _, _, h, _⟩ := z
      exact sq_of h
    · obtain ⟨_, rfl, x5, h5, hall⟩ := z
      obtain ⟨u, hu, rfl, mu⟩ := w_item (us := [.look, .tri]) hx
      have r5 := ra.ex x5
      have step : (!lAhead us u .set || !lAhead us u .off) = !(lAhead us u .set && lAhead us u .off) := by rw [Bool.not_and]
      refine s_when (b := !lAhead us u .set || !lAhead us u .off) (et_or (et_not (et_B (ev_call (ea_cons (ev_var rfl) (ea_cons (ev_var rfl) (ea_cons (ev_lit rfl) ea_nil))) (sv_ahead (x := u) (y := .set) r5)))) fun _ => et_not (et_B (ev_call (ea_cons (ev_var rfl) (ea_cons (ev_var rfl) (ea_cons (ev_lit rfl) ea_nil))) (sv_ahead (x := u) (y := .off) r5)))) (fun hb6 H6 e6 => s_ret (ev_is ev_c (cbl (b := lMove us b) ?_)) fun H7 e7 => q H7 ((x5.trans e6).trans e7)) fun hb6 H6 e6 => ⟨_, rfl, x5.trans e6, e6 _ _ h5, fun v hv => ?_⟩
      · rw [fin]
        rw [step, Bool.not_eq_true'] at hb6
        unfold lMoveA
        simp only [List.mem_cons, List.not_mem_nil, or_false] at mu
        rcases mu with rfl | rfl
        · rw [hb6, Bool.false_and]
        · rw [hb6, Bool.and_false]
      · rw [step, Bool.not_eq_false'] at hb6
        rw [List.take_add_one, hu] at hv
        rcases List.mem_append.mp hv with h | h
        · exact hall v h
        · rw [List.mem_singleton.mp h]
          exact hb6
    · obtain ⟨_, rfl, x5, h5, hall⟩ := z
      refine s_ret (ev_is ev_c (cbl (b := lMove us b) ?_)) fun H6 e6 => q H6 (x5.trans e6)
      rw [fin]
      unfold lMoveA
      rw [hall .look (by decide), hall .tri (by decide)]
      rfl
/-! lists of rows are made -/
def EvRs (K : PySem.W.Frag) (te : TE) (σ : L2.St) (H : Hp) (rs : List Rw) : Prop := ∀ H1, Ex H H1 → ∀ Q : VK, (∀ p ys H2, H1 p = none → Ex H1 H2 → H2 p = some (.lst ys) → RowsAt K H2 ys rs → Q (.ref p) H2) → te σ H1 Q
def EvRA (K : PySem.W.Frag) (tA : TA) (σ : L2.St) (H : Hp) (rs : List Rw) : Prop := ∀ H1, Ex H H1 → ∀ Q : List V → Hp → Prop, (∀ ys H2, Ex H1 H2 → RowsAt K H2 ys rs → Q ys H2) → tA σ H1 Q
theorem era_nil : EvRA K tNil σ H [] := fun H1 _ Q q => q [] H1 (Ex.refl H1) .nil
theorem era_cons (h : EvR K te σ H us) (hr : EvRA K tA σ H rs) : EvRA K (tCons te tA) σ H (us :: rs) := fun H1 e Q q => h H1 e _ fun p H2 e2 hp => hr H2 (e.trans e2) _ fun ys H3 e3 hy => q _ H3 (e2.trans e3) (.cons (hp.ex e3) hy)
theorem ers_lst (h : EvRA K tA σ H rs) (hl : rs.length ≤ 1000) : EvRs K (tLst tA) σ H rs := fun H1 e Q q => h H1 e _ fun ys H2 e2 hy => ⟨by rw [hy.len, sizeLine_eq]; omega, fun p hp => q p ys _ (fresh_back e2 hp) (e2.trans (Ex.new hp)) upd_same (hy.ex (Ex.new hp))⟩
theorem q_parR {i j : Nat} (h : tA σ H fun vs H1 => ∃ v w, vs = [v, w] ∧ tz D ((σ.set i (some v)).set j (some w)) H1) : tSeq (tPar i j tA) tz D σ H := h
theorem dropR (h : te σ H fun _ H1 => D.nx σ H1) : tDrop te D σ H := h
theorem q_dropR (h : te σ H fun _ H1 => tz D σ H1) : tSeq (tDrop te) tz D σ H := h
theorem er_cat {w0 : Wd} (h1 : Ev ta σ H (.ref a)) (ra : RowX K H a us) (h2 : Ev tb σ H (wV w0)) (hl : us.length ≤ 1000) : EvR K (tOp (rCatX K) ta (tTupX (tCons tb tNil))) σ H (us ++ [w0]) := fun H1 e Q q => h1 H1 e _ fun H2 e2 => h2 H2 (e.trans e2) _ fun H3 e3 => ⟨by show 1 ≤ sizeLine; decide, fun p o hp ho => by
  have x3 := (e.trans e2).trans e3
  have r3 := (ra.ex x3).ex (Ex.new (o := .frz o (.tup [wV w0])) hp)
  have y3 : Ex H1 (upd H3 p (.frz o (.tup [wV w0]))) := (e2.trans e3).trans (Ex.new hp)
  refine ⟨a, p, us.map wV, [wV w0], rfl, rfl, r3.sq, .inl (.inr ⟨o, upd_same⟩), by rw [List.length_map, sizeLine_eq]; show us.length + 1 ≤ _; omega, (fun z => nomatch z), fun z => ?_, fun z p2 o2 hp2 ho2 => ?_⟩
  · have z' : us = [] := List.map_eq_nil_iff.mp z
    subst z'
    exact q p _ y3 (.fx upd_same ho)
  · refine q p2 _ (y3.trans (Ex.new hp2)) (.fx ?_ ho2)
    rw [upd_same, List.map_append]
    rfl⟩
/-- [s + (w,) for w in words if w not in s] -/
theorem ers_ext {ws : Rw} {vs : List Nat} {i0 : Nat} (h : σ[i0]? = some (some (.ref b))) (hb : SqL K H b (ws.map wV)) (hl : ws.length ≤ 6) (hz : us.length ≤ 900) (h5 : ∀ x, (((wipe σ vs).set 6 (some x))[5]? = some (some (.ref a)))) (h6 : ∀ x, (((wipe σ vs).set 6 (some x))[6]? = some (some x))) (hw : ∀ x, wipe ((wipe σ vs).set 6 (some x)) vs = wipe σ vs) (ra : RowX K H a us) :
    EvRs K (tLc (iList K (tVar i0)) (gName 6) (tTest (tOp (rIn K true) (tVar 6) (tVar 5))) (tOp (rCatX K) (tVar 5) (tTupX (tCons (tVar 6) tNil))) vs) σ H (ext ws us) := fun H0 e0 Q q => by
  refine tlc_of (walk_list (K := K) (a := b) (xs := ws.map wV)) (fun R hR => ⟨_, h, b, rfl, ⟨_, ex_l e0 hb⟩, hR⟩)
    (fun Dl k G => ∃ yc, Ex H0 G ∧ G Dl = some (.lst yc) ∧ RowsAt K G yc (((ws.take k).filter fun w => !decide (w ∈ us)).map fun w => us ++ [w]) ∧ H0 Dl = none) (fun Dl hD => ⟨[], Ex.new hD, upd_same, .nil, hD⟩) (fun Dl k G _ z => ?_) (fun Dl k v G1 G2 hD hk z y => ?_) (fun Dl G hD z => ?_)
  · obtain ⟨_, z1, _⟩ := z
    exact ex_l (e0.trans z1) hb
  · obtain ⟨rfl, hv⟩ := y
    obtain ⟨yc, z1, z2, z3, z4⟩ := z
    obtain ⟨w0, hw0, rfl, mw⟩ := w_item hv
    have kl : k < ws.length := by rwa [List.length_map] at hk
    refine ⟨hw _, ?_⟩
    have r1 := ra.ex (e0.trans z1)
    refine et_test (ev_op (ev_var (h6 _)) (ev_var (h5 _)) (rv_niW (w := w0) r1.sq)) G2 (Ex.refl _) _ fun G3 e3 => ?_
    by_cases hu : w0 ∈ us
    · rw [decide_eq_true hu]
      refine ⟨yc, z1.trans e3, e3 _ _ z2, ?_, z4⟩
      rw [ext_take ws us hw0, if_pos hu, List.append_nil]
      exact z3.ex e3
    · rw [decide_eq_false hu]
      refine er_cat (ev_var (h5 _)) (r1.ex e3) (ev_var (h6 _)) (by omega) G3 (Ex.refl _) _ fun p G4 e4 hp => ⟨yc, e4 _ _ (e3 _ _ z2), ?_, yc ++ [.ref p], ((z1.trans e3).trans e4).mut hD, upd_same, ?_, z4⟩
      · have l1 := z3.len
        have l2 := List.length_filter_le (fun w => !decide (w ∈ us)) (ws.take k)
        rw [List.length_map] at l1
        rw [List.length_take] at l2
        rw [sizeLine_eq]
        omega
      · rw [ext_take ws us hw0, if_neg hu]
        have x := (z3.ex (e3.trans e4)).app (.cons hp .nil)
        exact x.exB ExB.set (NoTup.lst (e4 _ _ (e3 _ _ z2)))
  · obtain ⟨yc, z1, z2, z3, z4⟩ := z
    rw [List.take_of_length_le (by rw [List.length_map]; omega)] at z3
    exact q Dl yc G hD z1 z2 z3
theorem ok_Lsequences (T : Txt K mg w)  : FnG P w K mg base CX0 1 T.f_Lsequences T.fd_Lsequences ["_law_words"] (sp_Lseqs K) := by
  refine okG T.F_Lsequences sc_Lsequences (fun vs H Q E h => ?_) (fun cdv A outer s H vs Q E gd hr h => ?_)
  · obtain ⟨_, _, rfl, _⟩ := h
    all_goals rfl
  · obtain ⟨a, ws, rfl, ha, hws, q⟩ := h
    refine ⟨_, (pss_cons (ps_par (i := 1) (j := 2) rfl sc_Lsequences.nd rfl rfl (by decide) rfl rfl (pa_cons (pe_lst (pa_cons (pe_tupX pa_nil) pa_nil)) (pa_cons (pe_lst (pa_cons (pe_tupX pa_nil) pa_nil)) pa_nil)) (by rfl)) (pss_cons (ps_for PassesOwn.never rfl (pi_range1 (by rfl) T.z_range (pa_cons (pe_callB call_len_seq (by rfl) T.z_len PySem.boot_len (pa_cons (pv 0) pa_nil)) pa_nil)) (pg_name (i := 3) sc_Lsequences.nd rfl (Or.inl rfl) (Or.inr rfl)) (pss_cons (ps_set (i := 4) sc_Lsequences.nd rfl (Or.inl rfl) (pe_lst pa_nil)) (pss_cons (ps_for PassesOwn.never rfl (pi_list (pv 2)) (pg_name (i := 5) sc_Lsequences.nd rfl (Or.inr rfl) (Or.inl rfl)) (pss_one (ps_expr (pe_bm PySem.F.plainAttrs_list PySem.F.slot_list_extend PySem.F.type_list_extend mt_extend (pv 4) (pa_cons (pe_lc (own := [("_law_word", 6)]) (g := gName 6) rfl sc_Lsequences.nd (pi_list (pv 0)) (blkOk_by (N := N_Lsequences) (sc := defScope s_Lsequences) (by decide +kernel)) (fun _ _ _ _ _ => (pg_name (i := 6) sc_Lsequences.nd rfl (Or.inl rfl) (Or.inr rfl))) (fun _ _ _ _ _ => pts_one (pt_cmpR (show OpR _ (compareOp .NotIn) (rIn K true) from op_notIn_seq) (pv 6) (pv 5) (by rfl))) (fun _ _ _ _ _ => (pe_op (show OpR _ (binaryOp .Add) (rCatX K) from op_catX) (pv 5) (pe_tupX (pa_cons (pv 6) pa_nil))))) pa_nil))))) (pss_cons (ps_set (i := 2) sc_Lsequences.nd rfl (Or.inl rfl) (pv 4)) (pss_one (ps_expr (pe_bm PySem.F.plainAttrs_list PySem.F.slot_list_extend PySem.F.type_list_extend mt_extend (pv 1) (pa_cons (pv 2) pa_nil)))))))) (pss_one (ps_ret (pv 1))))), ?_⟩
    have wl := ws_len hws
    refine q_parR (ers_lst (K := K) (era_cons er_0 era_nil) (by show 1 ≤ 1000; omega) H (Ex.refl H) _ fun fo yf H1 hfo e1 h1 r1 => ers_lst (K := K) (era_cons er_0 era_nil) (by show 1 ≤ 1000; omega) H1 (Ex.refl H1) _ fun lo yl H2 hlo e2 h2 r2 => ⟨.ref fo, .ref lo, rfl, ?_⟩)
    have x2 := e1.trans e2
    refine q_forR1 (n := ((ws.length : Nat) : Int)) (ea_cons (ev_is (ev_len (ev_var rfl) (ex_l x2 ha)) (by rw [List.length_map])) ea_nil) (by omega)
      (fun i σ' H' => ∃ lo yf yl x3 x4 x5 x6, σ' = [some (.ref a), some (.ref fo), some (.ref lo), x3, x4, x5, x6] ∧ Ex H H' ∧ H' fo = some (.lst yf) ∧ RowsAt K H' yf (found ws i) ∧ H' lo = some (.lst yl) ∧ RowsAt K H' yl (grow ws i) ∧ lo ≠ fo)
      (fun H3 e3 => ⟨lo, yf, yl, _, _, _, _, rfl, x2.trans e3, e3 _ _ (e2 _ _ h1), r1.ex (e2.trans e3), e3 _ _ h2, r2.ex e3, (ne_of_none h1 hlo).symm⟩) (fun i σ' H' hi z => ?_) (fun σ' H' z => ?_)
    · obtain ⟨lo, yf, yl, x3, x4, x5, x6, rfl, x, hf, rf, hl, rl, nlf⟩ := z
      have hi' : i < ws.length := by omega
      have hfo0 : H fo = none := hfo
      refine q_asgL (xs := []) (el_lst ea_nil (Nat.zero_le _)) fun la H3 hla e3 h3 => ?_
      have nlaf : la ≠ fo := (ne_of_none hf hla).symm
      refine q_forLn (a := lo) (xs := yl) (ev_var rfl) (sq_of (e3 _ _ hl)) (fun j σ'' H'' => ∃ x5 x6 ya, σ'' = [some (.ref a), some (.ref fo), some (.ref lo), some (.int (i : Int)), some (.ref la), x5, x6] ∧ Ex H' H'' ∧ H'' la = some (.lst ya) ∧ RowsAt K H'' ya (((grow ws i).take j).flatMap (ext ws)))
        (fun H4 e4 => ⟨_, _, [], rfl, e3.trans e4, e4 _ _ h3, .nil⟩) (fun j σ'' H'' _ z => ?_) (fun j v σ'' H'' hv z => ?_) (fun σ'' H'' z => ?_)
      · obtain ⟨_, _, _, _, z1, _⟩ := z
        exact sq_of (z1 _ _ hl)
      · obtain ⟨y5, y6, ya, rfl, z1, z2, z3⟩ := z
        obtain ⟨ar, us, rfl, hus, rus⟩ := (rl.ex z1).at hv
        have jl := (List.getElem?_eq_some_iff.mp hus).1
        have uok : us.length ≤ 900 := by
          have := grow_len (List.mem_of_getElem? hus)
          omega
        refine dropR ⟨_, rfl, .inl ⟨rfl, _, sq_of z2⟩, ers_ext (i0 := 0) rfl (ex_l (x.trans z1) ha) wl uok (fun _ => rfl) (fun _ => rfl) (fun _ => rfl) rus H'' (Ex.refl _) _ fun p ys H5 hp e5 h5 r5 => ⟨la, p, ya, ys, rfl, rfl, e5 _ _ z2, h5, ?_, ?_⟩⟩
        · have l1 := z3.len
          have l2 := r5.len
          have l3 := (seq_len hws (show i + 1 ≤ ws.length by omega)).2
          have l4 := flat_take (f := ext ws) (grow ws i) (j + 1)
          rw [List.take_add_one, hus, List.flatMap_append, List.length_append] at l4
          have l5 : (ext ws us).length = (([us] : List Rw).flatMap (ext ws)).length := by simp
          have l6 : (grow ws (i + 1)).length = ((grow ws i).flatMap (ext ws)).length := rfl
          show ya.length + ys.length ≤ sizeLine
          have l7 : (Option.toList (some us)) = [us] := rfl
          rw [l7] at l4
          rw [sizeLine_eq]
          omega
        · refine ⟨_, _, ya ++ ys, rfl, (z1.trans e5).mut hla, upd_same, ?_⟩
          rw [List.take_add_one, hus, List.flatMap_append]
          have l7 : (Option.toList (some us)) = [us] := rfl
          rw [l7, show ([us] : List Rw).flatMap (ext ws) = ext ws us by simp]
          exact ((z3.ex e5).app r5).exB ExB.set (NoTup.lst (e5 _ _ z2))
      · obtain ⟨y5, y6, ya, rfl, z1, z2, z3⟩ := z
        rw [rl.len, List.take_length] at z3
        refine q_asg (v := .ref la) (ev_var rfl) fun H4 e4 => ?_
        have f4 := e4 _ _ (z1 _ _ hf)
        refine dropR ⟨_, rfl, .inl ⟨rfl, _, sq_of f4⟩, _, rfl, fo, la, yf, ya, rfl, rfl, f4, e4 _ _ z2, ?_, ?_⟩
        · have l1 := rf.len
          have l2 := z3.len
          have l3 := (seq_len hws (show i ≤ ws.length by omega)).1
          have l4 := (seq_len hws (show i + 1 ≤ ws.length by omega)).2
          have l6 : (grow ws (i + 1)).length = ((grow ws i).flatMap (ext ws)).length := rfl
          rw [sizeLine_eq]
          omega
        · refine ⟨la, yf ++ ya, ya, _, _, _, _, rfl, ((x.trans z1).trans e4).mut hfo0, upd_same, ?_, ?_, ?_, nlaf⟩
          · exact ((rf.ex (z1.trans e4)).app (z3.ex e4)).exB ExB.set (NoTup.lst f4)
          · rw [upd_ne nlaf]
            exact e4 _ _ z2
          · exact (z3.ex e4).exB ExB.set (NoTup.lst f4)
    · obtain ⟨lo, yf, yl, x3, x4, x5, x6, rfl, x, hf, rf, hl, rl, nlf⟩ := z
      rw [Int.toNat_natCast] at rf
      exact s_ret (ev_var rfl) fun H3 e3 => q H3 fo yf hfo (x.trans e3) (e3 _ _ hf) (rf.ex e3)
end
end My
namespace My
open PySem PySem.Spec PyProof.Rows L2 GL Evl StX SkE
/-! ### rows by the law, any rules -/
section
variable {P : Program} {w : World} {K : PySem.W.Frag} {mg : Str → Option Value} {base : Heap} {C : Addr} {H H' : Hp} {σ : L2.St} {te tb ta tc : TE} {tt : TT} {tA : TA} {E : XK} {D : Ends} {tz : TS} {a b d : Addr} {us : Rw} {xs ys : List V} {rs qs : List Rw}
theorem ers_flt {vs : List Nat} {j : Nat} {f : Rw → Bool} (h : EvRs K tc σ H rs) (hl : rs.length ≤ 4000) (hj : ∀ x, ((wipe σ vs).set j (some x))[j]? = some (some x)) (hw : ∀ x, wipe ((wipe σ vs).set j (some x)) vs = wipe σ vs)
    (ht : ∀ a us G, RowX K G a us → EvT tt ((wipe σ vs).set j (some (.ref a))) G (f us)) : EvRs K (tLc (iList K tc) (gName j) tt (tVar j) vs) σ H (rs.filter f) := fun H0 e0 Q q => h H0 e0 _ fun p ys H1 hp e1 h1 r1 => ⟨p, rfl, ⟨_, sq_of h1⟩, fun Dl hD =>
  lc_it (walk_list (K := K) (a := p) (xs := ys)) (fun k G => ∃ yc, Ex H1 G ∧ G Dl = some (.lst yc) ∧ RowsAt K G yc ((rs.take k).filter f)) ⟨[], Ex.new hD, upd_same, .nil⟩ (fun k G _ z => by
    obtain ⟨_, z1, _⟩ := z
    exact ex_l z1 (sq_of h1)) (fun k v G1 G2 hk z y => by
    obtain ⟨rfl, hv⟩ := y
    obtain ⟨yc, z1, z2, z3⟩ := z
    obtain ⟨a, us, rfl, hu, ra⟩ := (r1.ex z1).at hv
    have kl : k < rs.length := (List.getElem?_eq_some_iff.mp hu).1
    refine ⟨hw _, ?_⟩
    refine ht a us _ ra _ (Ex.refl _) _ fun G3 e3 => ?_
    have tk : (rs.take (k + 1)).filter f = (rs.take k).filter f ++ (if f us then [us] else []) := by
      rw [List.take_add_one, hu, List.filter_append]
      congr 1
      show List.filter f [us] = _
      by_cases e : f us
      · rw [if_pos e, List.filter_cons_of_pos e]
        rfl
      · rw [if_neg e, List.filter_cons_of_neg e]
        rfl
    cases hf : f us with
    | false =>
      refine ⟨yc, z1.trans e3, e3 _ _ z2, ?_⟩
      rw [tk, hf]
      show RowsAt K G3 yc (_ ++ [])
      rw [List.append_nil]
      exact z3.ex e3
    | true =>
      refine ⟨_, hj _, yc, e3 _ _ z2, ?_, yc ++ [.ref a], (z1.trans e3).mut hD, upd_same, ?_⟩
      · have l1 := z3.len
        have l2 := List.length_filter_le f (rs.take k)
        rw [List.length_take] at l2
        rw [sizeLine_eq]
        omega
      · rw [tk, hf]
        have x := (z3.ex e3).app (.cons (ra.ex e3) .nil)
        exact x.exB ExB.set (NoTup.lst (e3 _ _ z2)))
    (fun G z => by
    obtain ⟨yc, z1, z2, z3⟩ := z
    rw [r1.len, List.take_length] at z3
    exact q Dl yc G (fresh_back e1 hD) (e1.trans z1) z2 z3)⟩
theorem ers_seqs {Er : XK} {ws : Rw} (h : EvL te σ H (ws.map wV)) (hw : ws ∈ [takeWs, giveWs, moveWs]) : EvRs K (tCall (sp_Lseqs K) [] Er (tCons te tNil)) σ H (seqs ws) := fun H0 e0 Q q => h H0 e0 _ fun p H1 hp e1 h1 => ⟨p, ws, rfl, sq_of h1, hw, fun H2 r xs hr e2 h2 r2 => q r xs H2 (fresh_back e1 hr) (e1.trans e2) h2 r2⟩
theorem seqs_len {ws : Rw} (hw : ws ∈ [takeWs, giveWs, moveWs]) : (seqs ws).length ≤ 4000 := Nat.le_trans (seq_len hw (Nat.le_refl _)).1 (by omega)
theorem s_rows {Q : VK} (h : EvRs K te σ H rs) (q : ∀ H' p ys, H p = none → Ex H H' → H' p = some (.lst ys) → RowsAt K H' ys rs → Q (.ref p) H') (hQ : D.rt = Q) : tRet te D σ H := by
  subst hQ
  exact h H (Ex.refl H) _ fun p ys H1 hp e1 h1 r1 => q H1 p ys hp e1 h1 r1
theorem ok_Ltakes (T : Txt K mg w) (G_Lsequences : FnG P w K mg base CX0 1 T.f_Lsequences T.fd_Lsequences ["_law_words"] (sp_Lseqs K)) (G_Lis_take : FnG P w K mg base CX0 2 T.f_Lis_take T.fd_Lis_take ["_law_some", "_law_amount"] (sp_Ltk K)) : FnG P w K mg base CX0 3 T.f_Ltakes T.fd_Ltakes ["_law_amount"] (sp_Ltakes K) := by
  refine okG T.F_Ltakes sc_Ltakes (fun vs H Q E h => ?_) (fun cdv A outer s H vs Q E gd hr h => ?_)
  · obtain ⟨_, rfl, _⟩ := h
    all_goals rfl
  · obtain ⟨n, rfl, q⟩ := h
    refine ⟨_, (pss_one (ps_ret (pe_lc (own := [("_law_some", 1)]) (g := gName 1) rfl sc_Ltakes.nd (pi_list (pc gd G_Lsequences (hr.mono (by decide)) (by rfl) T.m_Lsequences T.F_Lsequences.kp T.b_Lsequences .nil pass0 (pa_cons (pe_lst (pa_cons pe_str (pa_cons pe_str (pa_cons pe_str (pa_cons pe_str pa_nil))))) pa_nil))) (blkOk_by (N := N_Ltakes) (sc := defScope s_Ltakes) (by decide +kernel)) (fun _ _ _ _ _ => (pg_name (i := 1) sc_Ltakes.nd rfl (Or.inl rfl) (Or.inr rfl))) (fun _ _ _ _ _ => pts_one (pt_val (pc gd G_Lis_take (hr.mono (by decide)) (by rfl) T.m_Lis_take T.F_Lis_take.kp T.b_Lis_take .nil pass0 (pa_cons (pv 1) (pa_cons (pv 0) pa_nil))))) (fun _ _ _ _ _ => (pv 1))))), ?_⟩
    refine s_rows (ers_flt (f := fun us => lTake us n) (ers_seqs (ws := takeWs) (el_lst (ea_cons (ev_lit rfl) (ea_cons (ev_lit rfl) (ea_cons (ev_lit rfl) (ea_cons (ev_lit rfl) ea_nil)))) (by show 4 ≤ 100000; omega)) (by decide)) (seqs_len (by decide)) (fun _ => rfl) (fun _ => rfl) fun a us G ra => et_B (ev_call (ea_cons (ev_var rfl) (ea_cons (ev_var rfl) ea_nil)) fun _ e _ q _ => ⟨a, us, n, rfl, ra.ex e, q⟩)) q rfl

theorem q_asgL0 {g : TG} {te : TE} {xs : List V} (h : EvL te σ H xs) (k : ∀ p H1, H p = none → Ex H H1 → H1 p = some (.lst xs) → g (.ref p) σ H1 (tz D)) : tSeq (tAsg te g) tz D σ H := h H (Ex.refl H) _ k
theorem ok_Lmoves (T : Txt K mg w) (G_Lsequences : FnG P w K mg base CX0 1 T.f_Lsequences T.fd_Lsequences ["_law_words"] (sp_Lseqs K)) (G_Lis_move : FnG P w K mg base CX0 2 T.f_Lis_move T.fd_Lis_move ["_law_some", "_law_is_shared"] (sp_Lmv K)) : FnG P w K mg base CX0 3 T.f_Lmoves T.fd_Lmoves ["_law_is_shared"] (sp_Lmoves K) := by
  refine okG T.F_Lmoves sc_Lmoves (fun vs H Q E h => ?_) (fun cdv A outer s H vs Q E gd hr h => ?_)
  · obtain ⟨_, rfl, _⟩ := h
    all_goals rfl
  · obtain ⟨b, rfl, q⟩ := h
    refine ⟨_, (pss_cons (ps_set (i := 1) sc_Lmoves.nd rfl (Or.inl rfl) (pe_lst (pa_cons pe_str (pa_cons pe_str (pa_cons pe_str (pa_cons pe_str (pa_cons pe_str (pa_cons pe_str pa_nil)))))))) (pss_one (ps_ret (pe_lc (own := [("_law_some", 2)]) (g := gName 2) rfl sc_Lmoves.nd (pi_list (pc gd G_Lsequences (hr.mono (by decide)) (by rfl) T.m_Lsequences T.F_Lsequences.kp T.b_Lsequences .nil pass0 (pa_cons (pv 1) pa_nil))) (blkOk_by (N := N_Lmoves) (sc := defScope s_Lmoves) (by decide +kernel)) (fun _ _ _ _ _ => (pg_name (i := 2) sc_Lmoves.nd rfl (Or.inl rfl) (Or.inr rfl))) (fun _ _ _ _ _ => pts_one (pt_val (pc gd G_Lis_move (hr.mono (by decide)) (by rfl) T.m_Lis_move T.F_Lis_move.kp T.b_Lis_move .nil pass0 (pa_cons (pv 2) (pa_cons (pv 0) pa_nil))))) (fun _ _ _ _ _ => (pv 2)))))), ?_⟩
    refine q_asgL (el_lst (ea_cons (ev_lit (w0 := .home) rfl) (ea_cons (ev_lit (w0 := .look) rfl) (ea_cons (ev_lit (w0 := .add) rfl) (ea_cons (ev_lit (w0 := .tri) rfl) (ea_cons (ev_lit (w0 := .set) rfl) (ea_cons (ev_lit (w0 := .off) rfl) ea_nil)))))) (by show 6 ≤ 100000; omega)) fun p H1 hp e1 h1 => ?_
    have r : EvRs K (tCall (sp_Lseqs K) [] (fun _ _ _ => False) (tCons (tVar 1) tNil)) [some (.bl b), some (.ref p), none] H1 (seqs moveWs) := fun H0 e0 Q q => ⟨_, rfl, p, moveWs, rfl, sq_of (e0 _ _ h1), by decide, fun H2 r xs hr e2 h2 r2 => q r xs H2 hr e2 h2 r2⟩
    refine s_rows (ers_flt (f := fun us => lMove us b) r (seqs_len (by decide)) (fun _ => rfl) (fun _ => rfl) fun a us G ra => et_B (ev_call (ea_cons (ev_var rfl) (ea_cons (ev_var rfl) ea_nil)) fun _ e _ q _ => ⟨a, us, b, rfl, ra.ex e, q⟩)) (fun H2 r ys hr e2 h2 r2 => q H2 r ys (fresh_back e1 hr) (e1.trans e2) h2 r2) rfl
theorem er_row {us : Rw} (h : EvA tA σ H (us.map wV)) (hl : us.length ≤ 1000) : EvR K (tTupX tA) σ H us := fun H1 e Q q => h H1 e _ fun H2 e2 => ⟨by rw [List.length_map, sizeLine_eq]; omega, fun p o hp ho => q p _ (e2.trans (Ex.new hp)) (.fx upd_same ho)⟩

end
end My
namespace My
open PySem PySem.Spec PyProof.Rows L2 GL Evl StX SkE
/-! ### any rules -/
def anyKs : List Pt := [.fails, .shared, .batch, .settles, .holds, .take, .give, .move, .lift]
def sp_Lany (K : PySem.W.Frag) : Sp := fun vs H Q _ => ∃ a, vs = [.ref a] ∧ PotAt H a ∧ ∀ H' d r, ExB a H H' → PotAt H' a → H d = none → DictAt K H' d anyKs r → Ok r → Q (.ref d) H'
section
variable {P : Program} {w : World} {K : PySem.W.Frag} {mg : Str → Option Value} {base : Heap} {C : Addr} {H H' H0 H1 : Hp} {σ : L2.St} {te tb ta tc : TE} {tt : TT} {tA : TA} {E Er : XK} {D : Ends} {tz : TS} {a b d : Addr} {us : Rw} {xs ys : List V} {rs qs : List Rw} {ks : List Pt} {r l : Ru} {p : Pt} {v : V} {Q : VK}
theorem PotAt.nt (h : PotAt H a) : NoTup H a := by
  obtain ⟨x, y, h1, _⟩ := h
  exact NoTup.lst h1
theorem PotAt.ne (h : PotAt H a) (hd : H d = none) : d ≠ a := fun e => by
  obtain ⟨x, y, h1, _⟩ := h
  rw [e, h1] at hd
  cases hd
/-- where a dict of rules is filled beside a pot -/
structure Sta (K : PySem.W.Frag) (a d : Addr) (ks : List Pt) (r : Ru) (H0 H : Hp) : Prop where
  x : ExB a H0 H
  p : PotAt H a
  n : H0 d = none
  na : d ≠ a
  d : DictAt K H d ks r
theorem DictAt.put (h : DictAt K H d ks r) (hp : p ∉ ks) (hv : (l.get p).At K H v) {f : Pt → V} (hf : H d = some (.dK (kvs ks f))) : DictAt K (upd H d (.dK (putK (kvs ks f) (.inr p.s) v))) d (ks ++ [p]) (r.upd l p) := by
  obtain ⟨f', h1, h2⟩ := h
  have ef : ∀ q ∈ ks, f' q = f q := fun q hq => by
    rw [hf] at h1
    have e := HO.dK.inj (Option.some.inj h1)
    have e1 := val_at (f := f) hq
    rw [e, val_at hq] at e1
    exact Option.some.inj e1
  refine ⟨My.put f p v, by rw [upd_same, put_new hp], fun q hq => ?_⟩
  rw [Ru.get_upd]
  unfold My.put
  by_cases e : q = p
  · subst e
    rw [if_pos rfl, if_pos rfl]
    exact hv.exB ExB.set (NoTup.dK hf)
  · rw [if_neg e, if_neg e]
    have hq' : q ∈ ks := (List.mem_append.mp hq).resolve_right fun z => e (List.mem_singleton.mp z)
    rw [← ef q hq']
    exact (h2 q hq').exB ExB.set (NoTup.dK hf)
theorem DictAt.over (h : DictAt K H d ks r) (hp : p ∈ ks) (hv : (l.get p).At K H v) {f : Pt → V} (hf : H d = some (.dK (kvs ks f))) : DictAt K (upd H d (.dK (putK (kvs ks f) (.inr p.s) v))) d ks (r.upd l p) := by
  obtain ⟨f', h1, h2⟩ := h
  have ef : ∀ q ∈ ks, f' q = f q := fun q hq => by
    rw [hf] at h1
    have e := HO.dK.inj (Option.some.inj h1)
    have e1 := val_at (f := f) hq
    rw [e, val_at hq] at e1
    exact Option.some.inj e1
  refine ⟨My.put f p v, by rw [upd_same, put_old hp], fun q hq => ?_⟩
  rw [Ru.get_upd]
  unfold My.put
  by_cases e : q = p
  · subst e
    rw [if_pos rfl, if_pos rfl]
    exact hv.exB ExB.set (NoTup.dK hf)
  · rw [if_neg e, if_neg e, ← ef q hq]
    exact (h2 q hq).exB ExB.set (NoTup.dK hf)
/-- a part is told by draws -/
def EvPt (K : PySem.W.Frag) (te : TE) (σ : L2.St) (H : Hp) (a : Addr) (p : Pt) (X : Ru → Prop) : Prop := ∀ H1, Ex H H1 → ∀ Q : VK, (∀ H2 v l, ExB a H1 H2 → PotAt H2 a → (l.get p).At K H2 v → X l → Q v H2) → te σ H1 Q
theorem Sta.ex (st : Sta K a d ks r H0 H) (e : ExB a H H') (p : PotAt H' a) : Sta K a d ks r H0 H' := ⟨st.x.trans e, p, st.n, st.na, st.d.exB e st.na st.p.nt⟩
theorem Sta.put (st : Sta K a d ks r H0 H) (hp : p ∉ ks) (hv : (l.get p).At K H v) {f : Pt → V} (hf : H d = some (.dK (kvs ks f))) : Sta K a d (ks ++ [p]) (r.upd l p) H0 (upd H d (.dK (putK (kvs ks f) (.inr p.s) v))) := ⟨st.x.mut st.n, st.p.exB ExB.set st.na.symm, st.n, st.na, st.d.put hp hv hf⟩
theorem Sta.over (st : Sta K a d ks r H0 H) (hp : p ∈ ks) (hv : (l.get p).At K H v) {f : Pt → V} (hf : H d = some (.dK (kvs ks f))) : Sta K a d ks (r.upd l p) H0 (upd H d (.dK (putK (kvs ks f) (.inr p.s) v))) := ⟨st.x.mut st.n, st.p.exB ExB.set st.na.symm, st.n, st.na, st.d.over hp hv hf⟩
theorem q_part {X : Ru → Prop} {i : Nat} (st : Sta K a d ks r H0 H) (hs : σ[i]? = some (some (.ref d))) (hp : p ∉ ks) (hl : ks.length ≤ 20) (h : EvPt K te σ H a p X) (k : ∀ H1 l, X l → Sta K a d (ks ++ [p]) (r.upd l p) H0 H1 → tz D σ H1) : tSeq (sDPut (tVar i) (tC (.str p.s)) te) tz D σ H :=
  h H (Ex.refl H) _ fun H1 v l e1 p1 hv hx => by
    have st1 := st.ex e1 p1
    obtain ⟨f, hf, _⟩ := id st1.d
    exact ⟨_, hs, d, _, rfl, .inl ⟨_, .inr p.s, hf, rfl, by rw [List.length_map, sizeLine_eq]; omega, rfl⟩, k _ l hx (st1.put hp hv hf)⟩
theorem q_draws {n : Nat} {Er : XK} (hp : PotAt H a) (hs : EvA tA σ H [.ref a, nV n]) (h1 : 1 ≤ n) (h2 : n ≤ 1000) (k : ∀ H1 (i : Nat), ExB a H H1 → PotAt H1 a → i < n → Q (nV i) H1) : tCall sp_Ldraw [] Er tA σ H Q := dr hs hp h1 h2 k
theorem n_eq0 (i : Nat) : RV rEq (nV i) (.int 0) H (.bl (decide (i = 0))) := rv_bl (rv_eq rfl) (nV_eq i 0)
theorem draw0 {i : Nat} (hp : PotAt H a) (hs : σ[i]? = some (some (.ref a))) {Q : VK} (k : ∀ H1 (b : Bool), ExB a H H1 → PotAt H1 a → Q (.bl b) H1) : tOp rEq (tCall sp_Ldraw [] Er (tCons (tVar i) (tCons (tC (.int 2)) tNil))) (tC (.int 0)) σ H Q :=
  op_raw (dr (n := 2) (ea_cons (ev_var hs) (ea_cons (ev_is ev_c rfl) ea_nil)) hp (by omega) (by omega) fun H1 j x1 p1 _ => ev_raw ev_c fun H2 e2 => n_eq0 j H2 (Ex.refl _) _ fun H3 e3 => k H3 _ ((x1.trans (ExB.of e2)).trans (ExB.of e3)) ((p1.ex e2).ex e3))
theorem ep_bool {i : Nat} (hp : PotAt H a) (hs : σ[i]? = some (some (.ref a))) (h : p = .shared ∨ p = .settles) : EvPt K (tOp rEq (tCall sp_Ldraw [] Er (tCons (tVar i) (tCons (tC (.int 2)) tNil))) (tC (.int 0))) σ H a p (fun _ => True) := fun H1 e1 Q q => draw0 (hp.ex e1) hs fun H2 b x2 p2 => by
  rcases h with rfl | rfl
  · exact q H2 (.bl b) ⟨[], [], [], [], .undo, b, [], 1, b⟩ x2 p2 rfl trivial
  · exact q H2 (.bl b) ⟨[], [], [], [], .undo, b, [], 1, b⟩ x2 p2 rfl trivial
/-- one of the rows -/
theorem pick_rows {i : Nat} {Q : VK} (hp : PotAt H a) (hs : σ[i]? = some (some (.ref a))) (h : EvRs K te σ H rs) (h1 : rs ≠ []) (h2 : rs.length ≤ 1000) (k : ∀ H1 b us, ExB a H H1 → PotAt H1 a → us ∈ rs → RowX K H1 b us → Q (.ref b) H1) : tCall sp_Lpick [] Er (tCons (tVar i) (tCons te tNil)) σ H Q :=
  ⟨_, hs, h H (Ex.refl H) _ fun p ys H1 hp1 e1 h3 r1 => ⟨a, p, ys, rfl, hp.ex e1, (hp.ne hp1), h3, by
    have := List.length_pos_iff.mpr h1
    rw [r1.len]
    omega, by rw [r1.len]; exact h2, fun H2 v x2 p2 hv => by
    obtain ⟨b, us, rfl, hu, hb⟩ := r1.mem hv
    exact k H2 b us ((ExB.of e1).trans x2) p2 hu (hb.exB x2 (hp.ex e1).nt)⟩⟩
def rowPt : Pt → Ru → Rw
  | .take, r => r.take | .give, r => r.give | .move, r => r.move | .lift, r => r.lift | _, r => r.holds
theorem ep_row {i : Nat} (hp : PotAt H a) (hs : σ[i]? = some (some (.ref a))) (h : EvRs K te σ H rs) (h1 : rs ≠ []) (h2 : rs.length ≤ 1000) (hk : p = .take ∨ p = .give ∨ p = .move ∨ p = .lift) : EvPt K (tCall sp_Lpick [] Er (tCons (tVar i) (tCons te tNil))) σ H a p (fun l => rowPt p l ∈ rs) := fun H1 e1 Q q =>
  pick_rows (hp.ex e1) hs (fun H2 e2 => h H2 (e1.trans e2)) h1 h2 fun H2 b us x2 p2 hu hb => by
    rcases hk with rfl | rfl | rfl | rfl
    · exact q H2 (.ref b) ⟨us, us, us, us, .undo, true, [], 1, true⟩ x2 p2 ⟨b, rfl, hb⟩ hu
    · exact q H2 (.ref b) ⟨us, us, us, us, .undo, true, [], 1, true⟩ x2 p2 ⟨b, rfl, hb⟩ hu
    · exact q H2 (.ref b) ⟨us, us, us, us, .undo, true, [], 1, true⟩ x2 p2 ⟨b, rfl, hb⟩ hu
    · exact q H2 (.ref b) ⟨us, us, us, us, .undo, true, [], 1, true⟩ x2 p2 ⟨b, rfl, hb⟩ hu
theorem ers_takes {n : Nat} (h : Ev te σ H (nV n)) : EvRs K (tCall (sp_Ltakes K) [] Er (tCons te tNil)) σ H (takes n) := fun H0 e0 Q q => h H0 e0 _ fun H1 e1 => ⟨n, rfl, fun H2 p ys hp e2 h2 r2 => q p ys H2 (fresh_back e1 hp) (e1.trans e2) h2 r2⟩
theorem ers_moves {b : Bool} (h : Ev te σ H (.bl b)) : EvRs K (tCall (sp_Lmoves K) [] Er (tCons te tNil)) σ H (moves b) := fun H0 e0 Q q => h H0 e0 _ fun H1 e1 => ⟨b, rfl, fun H2 p ys hp e2 h2 r2 => q p ys H2 (fresh_back e1 hp) (e1.trans e2) h2 r2⟩
theorem ers_gives : EvRs K (tCall (sp_Lgives K) [] Er tNil) σ H gives := fun H0 e0 Q q => ⟨rfl, fun H2 p ys hp e2 h2 r2 => q p ys H2 hp e2 h2 r2⟩
theorem ers_lifts : EvRs K (tCall (sp_Llifts K) [] Er tNil) σ H liftRows := fun H0 e0 Q q => ⟨rfl, fun H2 p ys hp e2 h2 r2 => q p ys H2 hp e2 h2 r2⟩
theorem takes_len (n : Nat) : (takes n).length ≤ 1000 := by
  have h : (seqs takeWs).length ≤ 1000 := by
    have go : decide ((seqs takeWs).length ≤ 1000) = true := by decide +kernel
    exact of_decide_eq_true go
  exact Nat.le_trans (List.length_filter_le _ _) h
theorem moves_len (b : Bool) : (moves b).length ≤ 1000 := by
  have go : ∀ b, decide ((moves b).length ≤ 1000) = true := by decide +kernel
  exact of_decide_eq_true (go b)
theorem gives_len : gives.length ≤ 1000 := by
  have go : decide (gives.length ≤ 1000) = true := by decide +kernel
  exact of_decide_eq_true go
/-- [k for k in us if draw == 0] -/
theorem tlc_sub {wi : TI} {vs : List Nat} {i j : Nat} {us : Rw} (hp : PotAt H a) (hl : us.length ≤ 1000) (hw : ∀ R : It → Hp → Prop, (∀ J G H1, Walk J (us.map wV).length G (YAt (us.map wV)) → Ex H H1 → (∀ H', ExB a H1 H' → G H') → R J H1) → wi σ H R)
    (h0 : ∀ x, ((wipe σ vs).set j (some x))[i]? = some (some (.ref a))) (hj : ∀ x, ((wipe σ vs).set j (some x))[j]? = some (some x)) (hv : ∀ x, wipe ((wipe σ vs).set j (some x)) vs = wipe σ vs)
    (q : ∀ H' Dl (ws : Rw), H Dl = none → ws.Sublist us → ExB a H H' → PotAt H' a → H' Dl = some (.lst (ws.map wV)) → Q (.ref Dl) H') : tLc wi (gName j) (tTest (tOp rEq (tCall sp_Ldraw [] Er (tCons (tVar i) (tCons (tC (.int 2)) tNil))) (tC (.int 0)))) (tVar j) vs σ H Q :=
  hw _ fun J G H1 wk e1 hG Dl hD => lc_it wk (fun k H' => ∃ ws : Rw, ExB a H1 H' ∧ PotAt H' a ∧ H' Dl = some (.lst (ws.map wV)) ∧ ws.Sublist (us.take k)) ⟨[], ExB.of (Ex.new hD), (hp.ex e1).ex (Ex.new hD), upd_same, List.nil_sublist _⟩
    (fun k H' _ z => hG H' z.choose_spec.1) (fun k v G1 G2 hk z y => by
    obtain ⟨rfl, hi⟩ := y
    obtain ⟨ws, z1, z2, z3, z4⟩ := z
    obtain ⟨u, hu, rfl, _⟩ := w_item hi
    refine ⟨hv _, ?_⟩
    refine test_raw (draw0 z2 (h0 _) fun H3 b x3 p3 => ⟨b, rfl, ?_⟩)
    have nd : Dl ≠ a := (hp.ex e1).ne hD
    have h3 : H3 Dl = some (.lst (ws.map wV)) := x3 _ _ nd z3
    have tk : us.take (k + 1) = us.take k ++ [u] := by
      rw [List.take_add_one, hu]
      rfl
    cases b with
    | true =>
      refine ⟨_, hj _, ws.map wV, h3, ?_, ws ++ [u], (z1.trans x3).mut hD, p3.exB ExB.set nd.symm, ?_, ?_⟩
      · have l1 := z4.length_le
        rw [List.length_take] at l1
        rw [List.length_map, sizeLine_eq]
        omega
      · rw [upd_same, List.map_append]
        rfl
      · rw [tk]
        exact z4.append (List.Sublist.refl _)
    | false => 
      refine ⟨ws, z1.trans x3, p3, h3, ?_⟩
      rw [tk]
      exact z4.trans (List.sublist_append_left _ _)) fun H' z => by
    obtain ⟨ws, z1, z2, z3, z4⟩ := z
    rw [List.length_map, List.take_length] at z4
    exact q H' Dl ws (fresh_back e1 hD) z4 ((ExB.of e1).trans z1) z2 z3
theorem cb1_raw {rr : List V → Hp → VK → Prop} (h : te σ H fun v H1 => rr [v] H1 Q) : tCB rr (tCons te tNil) σ H Q := h
theorem lst_raw (h : tA σ H fun xs H1 => xs.length ≤ sizeLine ∧ ∀ p, H1 p = none → Q (.ref p) (upd H1 p (.lst xs))) : tLst tA σ H Q := h
theorem cons1_raw {QA : List V → Hp → Prop} (h : te σ H fun x H1 => QA [x] H1) : tCons te tNil σ H QA := h
theorem cons_rw {QA : List V → Hp → Prop} (h : te σ H fun x H1 => tA σ H1 fun vs H2 => QA (x :: vs) H2) : tCons te tA σ H QA := h
theorem ep_holds {wi : TI} {vs : List Nat} {i j : Nat} {us : Rw} (hp : PotAt H a) (hl : us.length ≤ 1000) (hw : ∀ H0, Ex H H0 → ∀ R : It → Hp → Prop, (∀ J G H1, Walk J (us.map wV).length G (YAt (us.map wV)) → Ex H0 H1 → (∀ H', ExB a H1 H' → G H') → R J H1) → wi σ H0 R)
    (h0 : ∀ x, ((wipe σ vs).set j (some x))[i]? = some (some (.ref a))) (hj : ∀ x, ((wipe σ vs).set j (some x))[j]? = some (some x)) (hv : ∀ x, wipe ((wipe σ vs).set j (some x)) vs = wipe σ vs) :
    EvPt K (tCB (fun xs H Q => ∃ p ys, xs = [.ref p] ∧ ((SqL K H p ys ∧ ∀ l, H l = none → Q (.ref l) (upd H l (.tup ys))) ∨ (SqT K H p ys ∧ Q (.ref p) H))) (tCons (tLc wi (gName j) (tTest (tOp rEq (tCall sp_Ldraw [] Er (tCons (tVar i) (tCons (tC (.int 2)) tNil))) (tC (.int 0)))) (tVar j) vs) tNil)) σ H a .holds (fun l => l.holds.Sublist us) := fun H1 e1 Q q =>
  cb1_raw (tlc_sub (hp.ex e1) hl (hw H1 e1) h0 hj hv fun H2 Dl ws hD hs x2 p2 h2 => ⟨Dl, ws.map wV, rfl, .inl ⟨sq_of h2, fun t ht => q _ (.ref t) ⟨[], [], [], [], .undo, true, ws, 1, true⟩ (x2.trans (ExB.of (Ex.new ht))) (p2.ex (Ex.new ht)) ⟨t, rfl, .tup upd_same⟩ hs⟩⟩)
theorem q_dispR {g : TG} {trs : List (TE × TE)} (h : tDisp trs σ H fun x H1 => g x σ H1 (tz D)) : tSeq (tAsg (tDisp trs) g) tz D σ H := h
theorem fail_mem : ∀ v, v ∈ failWs.map wV → ∃ u ∈ failWs, v = wV u := fun v h => by
  obtain ⟨u, hu, rfl⟩ := List.mem_map.mp h
  exact ⟨u, hu, rfl⟩
theorem pick_list {i : Nat} {Q : VK} (hp : PotAt H a) (hs : σ[i]? = some (some (.ref a))) (h : EvL te σ H xs) (h1 : 1 ≤ xs.length) (h2 : xs.length ≤ 1000) (k : ∀ H1 v, ExB a H H1 → PotAt H1 a → v ∈ xs → Q v H1) : tCall sp_Lpick [] Er (tCons (tVar i) (tCons te tNil)) σ H Q :=
  ⟨_, hs, h H (Ex.refl H) _ fun p H1 hp1 e1 h3 => ⟨a, p, xs, rfl, hp.ex e1, (hp.ne hp1), h3, h1, h2, fun H2 v x2 p2 hv => k H2 v ((ExB.of e1).trans x2) p2 hv⟩⟩
theorem ev_part {i : Nat} (hs : σ[i]? = some (some (.ref d))) (h : DictAt K H d ks r) (hp : p ∈ ks) : ∃ v, Ev (tDGet (tVar i) (tC (.str p.s))) σ H v ∧ (r.get p).At K H v := by
  obtain ⟨f, h1, h2⟩ := h
  exact ⟨f p, ev_get (ev_var hs) h1 hp, h2 p hp⟩
theorem ev_pI {i : Nat} (hs : σ[i]? = some (some (.ref d))) (h : DictAt K H d ks r) (hp : .batch ∈ ks) : Ev (tDGet (tVar i) (tC (.str Pt.batch.s))) σ H (nV r.batch) := by
  obtain ⟨v, h1, h2⟩ := ev_part hs h hp
  have e : v = nV r.batch := h2
  rwa [e] at h1
theorem ev_pS {i : Nat} (hs : σ[i]? = some (some (.ref d))) (h : DictAt K H d ks r) (hp : .shared ∈ ks) : Ev (tDGet (tVar i) (tC (.str Pt.shared.s))) σ H (.bl r.shared) := by
  obtain ⟨v, h1, h2⟩ := ev_part hs h hp
  have e : v = .bl r.shared := h2
  rwa [e] at h1
theorem ep_batch {i : Nat} (hp : PotAt H a) (hs : σ[i]? = some (some (.ref a))) : EvPt K (tCall sp_Lpick [] Er (tCons (tVar i) (tCons (tLst (tCons (tC (.int 1)) (tCons (tC (.int 1)) (tCons (tC (.int 2)) (tCons (tOp (rI0 fun i j => .int (i + j)) (tC (.int 1)) (tCall sp_Ldraw [] Er (tCons (tVar i) (tCons (tC (.int 50)) tNil)))) (tCons (tC (.int 50)) tNil)))))) tNil))) σ H a .batch (fun l => 1 ≤ l.batch ∧ l.batch ≤ 50) := fun H1 e1 Q q =>
  ⟨_, hs, cons1_raw (lst_raw (cons_raw ev_c fun H2 e2 => cons_raw ev_c fun H3 e3 => cons_raw ev_c fun H4 e4 => cons_rw (op_raw (ev_raw ev_c fun H5 e5 => dr (n := 50) (ea_cons (ev_var hs) (ea_cons (ev_is ev_c rfl) ea_nil)) (((((hp.ex e1).ex e2).ex e3).ex e4).ex e5) (by omega) (by omega) fun H6 j x6 p6 hj => rv_I0 H6 (Ex.refl _) _ fun H7 e7 => cons_raw ev_c fun H8 e8 => ⟨(by show 5 ≤ sizeLine; decide), fun p hp8 => by
    have x18 : ExB a H1 H8 := ((((((ExB.of e2).trans (ExB.of e3)).trans (ExB.of e4)).trans (ExB.of e5)).trans x6).trans (ExB.of e7)).trans (ExB.of e8)
    have p8 := (p6.ex e7).ex e8
    refine ⟨a, p, _, rfl, p8.ex (Ex.new hp8), p8.ne hp8, upd_same, (by show 1 ≤ 5; omega), (by show 5 ≤ 1000; omega), fun H9 v x9 p9 hv => ?_⟩
    have x19 := (x18.trans (ExB.of (Ex.new hp8))).trans x9
    have go : ∃ n : Nat, v = nV n ∧ 1 ≤ n ∧ n ≤ 50 := by
      simp only [List.mem_cons, List.not_mem_nil, or_false] at hv
      rcases hv with rfl | rfl | rfl | rfl | rfl
      · exact ⟨1, rfl, by omega, by omega⟩
      · exact ⟨1, rfl, by omega, by omega⟩
      · exact ⟨2, rfl, by omega, by omega⟩
      · exact ⟨1 + j, by show V.int _ = V.int _; congr 1, by omega, by omega⟩
      · exact ⟨50, rfl, by omega, by omega⟩
    obtain ⟨n, rfl, n1, n2⟩ := go
    exact q H9 (nV n) ⟨[], [], [], [], .undo, true, [], n, true⟩ x19 p9 rfl ⟨n1, n2⟩⟩))))⟩

end
end My
namespace My
open PySem PySem.Spec PyProof.Rows L2 GL Evl StX SkE
/-! ### books of rules, rules exchanged -/
def sp_Lbook (K : PySem.W.Frag) (C : Addr) : Sp := fun vs H Q _ => ∃ d ks r, vs = [.ref d] ∧ DictAt K H d ks r ∧ (∀ p, p ∈ ks) ∧ Ok r ∧ ∀ H' b, H b = none → Ex H H' → BookNew K C H H' b r → Q (.ref b) H'
def sp_Lexch (K : PySem.W.Frag) : Sp := fun vs H Q _ => ∃ a d e r l, vs = [.ref a, .ref d, .ref e] ∧ PotAt H a ∧ DictAt K H d anyKs r ∧ DictAt K H e anyKs l ∧ Ok r ∧ Ok l ∧ ∀ H' c m, ExB a H H' → PotAt H' a → H c = none → DictAt K H' c anyKs m → Ok m → Q (.ref c) H'
def sp_Lbeside (K : PySem.W.Frag) : Sp := fun vs H Q _ => ∃ a d r, vs = [.ref a, .ref d] ∧ PotAt H a ∧ DictAt K H d anyKs r ∧ Ok r ∧ ∀ H' c m, ExB a H H' → PotAt H' a → H c = none → DictAt K H' c anyKs m → Ok m → Q (.ref c) H'
/-- so that it can be read, locked or not -/
def DictR (K : PySem.W.Frag) (H : Hp) (d : Addr) (ks : List Pt) (r : Ru) : Prop := ∃ f : Pt → V, Rd H d (.dK (kvs ks f)) ∧ ∀ p ∈ ks, (r.get p).At K H (f p)
theorem DictAt.r {K : PySem.W.Frag} {H : Hp} {d : Addr} {ks : List Pt} {r : Ru} (h : DictAt K H d ks r) : DictR K H d ks r := by
  obtain ⟨f, h1, h2⟩ := h
  exact ⟨f, .inl h1, h2⟩
theorem rd_ex {H H' : Hp} {d : Addr} {u : HO} (h : Rd H d u) (e : Ex H H') : Rd H' d u := by
  rcases h with h | ⟨o, h⟩
  · exact .inl (e _ _ h)
  · exact .inr ⟨o, e _ _ h⟩
theorem DictR.ex {K : PySem.W.Frag} {H H' : Hp} {d : Addr} {ks : List Pt} {r : Ru} (h : DictR K H d ks r) (e : Ex H H') : DictR K H' d ks r := by
  obtain ⟨f, h1, h2⟩ := h
  exact ⟨f, rd_ex h1 e, fun p hp => (h2 p hp).ex e⟩
def sp_Lstrict (K : PySem.W.Frag) : Sp := fun vs H Q _ => ∃ d e ks ks' r l, vs = [.ref d, .ref e] ∧ DictR K H d ks r ∧ DictR K H e ks' l ∧ (∀ p, p ∈ ks) ∧ (∀ p, p ∈ ks') ∧ Ok l ∧ RetV (.bl (pStrict r l)) H Q
section
variable {P : Program} {w : World} {K : PySem.W.Frag} {mg : Str → Option Value} {base : Heap} {C : Addr} {H H' H0 H1 : Hp} {σ : L2.St} {te tb ta tc : TE} {tt : TT} {tA : TA} {E Er : XK} {D : Ends} {tz : TS} {a b d : Addr} {us : Rw} {xs ys : List V} {rs qs : List Rw} {ks : List Pt} {r l : Ru} {p : Pt} {v : V} {Q : VK}
theorem ev_getK {tk : TE} {p : Pt} {f : Pt → V} (h : Ev te σ H (.ref d)) (hk : Ev tk σ H (.str p.s)) (hd : H d = some (.dK (kvs ks f))) (hp : p ∈ ks) : Ev (tDGet te tk) σ H (f p) := fun H1 e1 Q q => h H1 e1 _ fun H2 e2 => hk H2 (e1.trans e2) _ fun H3 e3 =>
  ⟨d, f p, rfl, .inl ⟨kvs ks f, .inr p.s, .inl (e3 _ _ (e2 _ _ (e1 _ _ hd))), rfl, (val_at hp).symm⟩, q H3 (e2.trans e3)⟩
theorem ok_Lbook (T : Txt K mg w) (G_Binit : FnG P w K mg base CX0 7 T.f_Binit T.fd_Binit ["self", "take", "give", "move", "lift", "fails", "shared", "holds", "batch", "settles"] (sp_Binit K T.C)) : FnG P w K mg base CX0 9 T.f_Lbook T.fd_Lbook ["_law_rules_here"] (sp_Lbook K T.C) := by
  refine okG T.F_Lbook sc_Lbook (fun vs H Q E h => ?_) (fun cdv A outer s H vs Q E gd hr h => ?_)
  · obtain ⟨_, _, _, rfl, _⟩ := h
    all_goals rfl
  · obtain ⟨d, ks, r, rfl, ⟨f, hf, hv⟩, hk, ok, q⟩ := h
    refine ⟨_, (pss_one (ps_ret (pkK gd T.mk_Book G_Binit (hr.mono (by decide)) (by rfl) T.m_Book T.k_Binit pass0 (pk_cons (pe_dget (hu_of hr) (pv 0) pe_str (fun _ _ => rfl)) (pk_cons (pe_dget (hu_of hr) (pv 0) pe_str (fun _ _ => rfl)) (pk_cons (pe_dget (hu_of hr) (pv 0) pe_str (fun _ _ => rfl)) (pk_cons (pe_dget (hu_of hr) (pv 0) pe_str (fun _ _ => rfl)) (pk_cons (pe_dget (hu_of hr) (pv 0) pe_str (fun _ _ => rfl)) (pk_cons (pe_dget (hu_of hr) (pv 0) pe_str (fun _ _ => rfl)) (pk_cons (pe_dget (hu_of hr) (pv 0) pe_str (fun _ _ => rfl)) (pk_cons (pe_dget (hu_of hr) (pv 0) pe_str (fun _ _ => rfl)) (pk_cons (pe_dget (hu_of hr) (pv 0) pe_str (fun _ _ => rfl)) pk_nil)))))))))))), ?_⟩
    have g : ∀ p : Pt, Ev (tDGet (tVar 0) (tC (.str p.s))) [some (.ref d)] H (f p) := fun p => ev_get (ev_var rfl) hf (hk p)
    have hea : EvA (tCons (tDGet (tVar 0) (tC (.str Pt.take.s))) (tCons (tDGet (tVar 0) (tC (.str Pt.give.s))) (tCons (tDGet (tVar 0) (tC (.str Pt.move.s))) (tCons (tDGet (tVar 0) (tC (.str Pt.lift.s))) (tCons (tDGet (tVar 0) (tC (.str Pt.fails.s))) (tCons (tDGet (tVar 0) (tC (.str Pt.shared.s))) (tCons (tDGet (tVar 0) (tC (.str Pt.holds.s))) (tCons (tDGet (tVar 0) (tC (.str Pt.batch.s))) (tCons (tDGet (tVar 0) (tC (.str Pt.settles.s))) tNil))))))))) [some (.ref d)] H (bookKs.map f) := ea_cons (g .take) (ea_cons (g .give) (ea_cons (g .move) (ea_cons (g .lift) (ea_cons (g .fails) (ea_cons (g .shared) (ea_cons (g .holds) (ea_cons (g .batch) (ea_cons (g .settles) ea_nil))))))))
    exact s_retR (hea H (Ex.refl H) _ fun H2 e2 => ⟨rfl, fun x dx hx hdx nd => ⟨H2, x, dx, r, f, rfl, (Ex.new hdx).trans (Ex.new (by rw [upd_ne nd.symm]; exact hx)), hx, upd_same, fun p => (hv p (hk p)).ex e2, ok, fun H' e' hb => ⟨rfl, q H' x (fresh_back e2 hx) (e2.trans e') (hb.old e2)⟩⟩⟩)
abbrev pV (p : Pt) : V := .str p.s
theorem pV_eq (a b : Pt) : decide (pV a = pV b) = decide (a = b) := by
  by_cases e : a = b
  · rw [e, decide_eq_true rfl, decide_eq_true rfl]
  · rw [decide_eq_false e, decide_eq_false fun q => e (Pt.inj (V.str.inj q))]
theorem inV_p (a : Pt) : ∀ l : List Pt, inV (pV a) (l.map pV) = decide (a ∈ l)
  | [] => rfl
  | b :: l => by
    have ih := inV_p a l
    show ((b.s == a.s) || inV (pV a) (l.map pV)) = decide (a ∈ b :: l)
    rw [ih]
    by_cases e : a = b
    · subst e
      simp
    · have z : (b.s == a.s) = false := beq_eq_false_iff_ne.mpr fun q => e (Pt.inj q).symm
      rw [z, Bool.false_or]
      by_cases m : a ∈ l
      · rw [decide_eq_true m, decide_eq_true (List.mem_cons_of_mem _ m)]
      · rw [decide_eq_false m, decide_eq_false fun q => (List.mem_cons.mp q).elim e m]
theorem flat_p (l : List Pt) : (l.map pV).all flatV = true := by
  rw [List.all_eq_true]
  intro x hx
  obtain ⟨n, _, rfl⟩ := List.mem_map.mp hx
  rfl
theorem ev_inLP {qs : List Pt} (h1 : Ev ta σ H (pV p)) (h : EvL tb σ H (qs.map pV)) : Ev (tOp (rIn K false) ta tb) σ H (.bl (decide (p ∈ qs))) := fun H1 e Q q => h1 H1 e _ fun H2 e2 => h H2 (e.trans e2) _ fun b H3 hb e3 h3 => (by
  have z : RV (rIn K false) (pV p) (.ref b) H3 (.bl (inV (pV p) (qs.map pV))) := rv_isL (sq_of h3) rfl (flat_p qs)
  rw [inV_p] at z
  exact z H3 (Ex.refl H3) Q fun H4 e4 => q H4 ((e2.trans e3).trans e4))
theorem ev_inRows (h1 : Ev ta σ H (.ref a)) (ra : RowX K H a us) (h : EvRs K tb σ H rs) : Ev (tOp (rInD K) ta tb) σ H (.bl (decide (us ∈ rs))) := fun H1 e Q q => h1 H1 e _ fun H2 e2 => h H2 (e.trans e2) _ fun p ys H3 hp e3 h3 r3 => ⟨dRow us, rs.map dRow, (ra.ex ((e.trans e2).trans e3)).dp, .lst (sq_of h3) r3.dp, row_shaped us, rowsL_shaped rs, by
  rw [any_row]
  exact q H3 (e2.trans e3)⟩
theorem ep_if {t : TT} {c : Bool} {X : Ru → Prop} (h : EvT t σ H c) (h1 : c = true → EvPt K ta σ H a p X) (h2 : c = false → EvPt K tb σ H a p X) : EvPt K (tIf t ta tb) σ H a p X := fun H1 e1 Q q => h H1 e1 _ fun H2 e2 => by
  cases c with
  | true => exact h1 rfl H2 (e1.trans e2) Q fun H3 v l x3 p3 hv hx => q H3 v l ((ExB.of e2).trans x3) p3 hv hx
  | false => exact h2 rfl H2 (e1.trans e2) Q fun H3 v l x3 p3 hv hx => q H3 v l ((ExB.of e2).trans x3) p3 hv hx
theorem ep_ev (hp : PotAt H a) (h : Ev te σ H v) (hv : ∀ H1, Ex H H1 → (l.get p).At K H1 v) : EvPt K te σ H a p (fun m => m = l) := fun H1 e1 Q q => h H1 e1 _ fun H2 e2 => q H2 v l (ExB.of e2) ((hp.ex e1).ex e2) (hv H2 (e1.trans e2)) rfl
theorem ep_imp {X Y : Ru → Prop} (h : EvPt K te σ H a p X) (i : ∀ m, X m → Y m) : EvPt K te σ H a p Y := fun H1 e1 Q q => h H1 e1 Q fun H2 v l x2 p2 hv hx => q H2 v l x2 p2 hv (i l hx)
theorem s_over {tk : TE} {X : Ru → Prop} {i : Nat} (st : Sta K a d ks r H0 H) (hs : σ[i]? = some (some (.ref d))) (hp : p ∈ ks) (hl : ks.length ≤ 20) (hk : ∀ H1, Ev tk σ H1 (.str p.s)) (h : EvPt K te σ H a p X) (k : ∀ H1 l, X l → Sta K a d ks (r.upd l p) H0 H1 → D.nx σ H1) : sDPut (tVar i) tk te D σ H :=
  h H (Ex.refl H) _ fun H1 v l e1 p1 hv hx => ⟨_, hs, hk H1 H1 (Ex.refl H1) _ fun H2 e2 => by
    have st2 := (st.ex e1 p1).ex (ExB.of e2) (p1.ex e2)
    obtain ⟨f, hf, _⟩ := id st2.d
    exact ⟨d, _, rfl, .inl ⟨_, .inr p.s, hf, rfl, by rw [List.length_map, sizeLine_eq]; omega, rfl⟩, k _ l hx (st2.over hp (hv.ex e2) hf)⟩⟩
def plainPs : List Pt := [.give, .lift, .fails, .settles]
def exPs : List Pt := [.give, .lift, .fails, .settles, .batch, .shared, .take, .move]
theorem ok_plain (h : Ok r) (h2 : Ok l) (hp : p ∈ plainPs) : Ok (r.upd l p) := by
  simp only [plainPs, List.mem_cons, List.not_mem_nil, or_false] at hp
  rcases hp with rfl | rfl | rfl | rfl
  · exact ⟨h.t, h2.g, h.m, h.l, h.f, h.h, h.b⟩
  · exact ⟨h.t, h.g, h.m, h2.l, h.f, h.h, h.b⟩
  · exact ⟨h.t, h.g, h.m, h.l, h2.f, h.h, h.b⟩
  · exact ⟨h.t, h.g, h.m, h.l, h.f, h.h, h.b⟩
theorem anyKs_mem (p : Pt) : p ∈ anyKs := by cases p <;> decide
theorem ev_lp {x : Str} {p : Pt} (e : x = p.s) : Ev (tC (.str x)) σ H (pV p) := ev_is ev_c (congrArg V.str e)
/-- a copy of a dict of rules, beside a pot -/
theorem dict_raw {i : Nat} {Q : VK} (hp : PotAt H a) (hs : σ[i]? = some (some (.ref d))) (hd : DictAt K H d ks r) (k : ∀ c H1, Ex H H1 → Sta K a c ks r H H1 → Q (.ref c) H1) : tCB (fun xs H Q => ∃ (a : Addr) (kvs : List (Key × V)), xs = [.ref a] ∧ Rd H a (.dK kvs) ∧ ∀ p, H p = none → Q (.ref p) (upd H p (.dK kvs))) (tCons (tVar i) tNil) σ H Q := by
  obtain ⟨f, hf, hv⟩ := id hd
  exact cb_raw (ea_cons (ev_var hs) ea_nil) fun H1 e1 => ⟨d, kvs ks f, rfl, .inl (e1 _ _ hf), fun c hc => k c _ (e1.trans (Ex.new hc)) ⟨ExB.of (e1.trans (Ex.new hc)), (hp.ex e1).ex (Ex.new hc), fresh_back e1 hc, (hp.ex e1).ne hc, f, upd_same, fun p hp => ((hv p hp).ex e1).ex (Ex.new hc)⟩⟩
theorem ers_if {t : TT} {c : Bool} (h : EvT t σ H c) (h1 : c = true → EvRs K ta σ H rs) (h2 : c = false → EvRs K tb σ H rs) : EvRs K (tIf t ta tb) σ H rs := fun H1 e1 Q q => h H1 e1 _ fun H2 e2 => by
  cases c with
  | true => exact h1 rfl H2 (e1.trans e2) Q fun p ys H3 hp e3 h3 r3 => q p ys H3 (fresh_back e2 hp) (e2.trans e3) h3 r3
  | false => exact h2 rfl H2 (e1.trans e2) Q fun p ys H3 hp e3 h3 r3 => q p ys H3 (fresh_back e2 hp) (e2.trans e3) h3 r3
theorem ev_eqP {x : Str} {p q : Pt} (h : Ev te σ H (pV p)) (e : x = q.s) : Ev (tOp rEq te (tC (.str x))) σ H (.bl (decide (p = q))) := ev_op h (ev_lp e) (rv_bl (rv_eq rfl) (pV_eq p q))
theorem part_row {f : Pt → V} (h : ∀ p ∈ anyKs, (r.get p).At K H (f p)) : (∃ b, f .take = .ref b ∧ RowX K H b r.take) ∧ (∃ b, f .move = .ref b ∧ RowX K H b r.move) := ⟨h .take (by decide), h .move (by decide)⟩
theorem ok_batch (h : Ok r) (hm : 1 ≤ l.batch ∧ l.batch ≤ 50 ∧ pBatch r.take l.batch = true) : Ok (r.upd l .batch) := ⟨⟨h.t.1, h.t.2.1, hm.2.2⟩, h.g, h.m, h.l, h.f, h.h, ⟨hm.1, hm.2.1⟩⟩
theorem ok_shared (h : Ok r) (hm : pShared r.move l.shared = true) : Ok (r.upd l .shared) := ⟨h.t, h.g, ⟨h.m.1, h.m.2.1, hm⟩, h.l, h.f, h.h, h.b⟩
theorem ok_take (h : Ok r) (hm : l.take ∈ takes r.batch) : Ok (r.upd l .take) := ⟨take_ok h.b.1 hm, h.g, h.m, h.l, h.f, h.h, h.b⟩
theorem ok_move (h : Ok r) (hm : l.move ∈ moves r.shared) : Ok (r.upd l .move) := ⟨h.t, h.g, move_ok hm, h.l, h.f, h.h, h.b⟩

end
end My
namespace My
open PySem PySem.Spec PyProof.Rows L2 GL Evl StX SkE
/-! ### rules beside rules -/
section
variable {P : Program} {w : World} {K : PySem.W.Frag} {mg : Str → Option Value} {base : Heap} {C : Addr} {H H' H0 H1 : Hp} {σ : L2.St} {te tb ta tc : TE} {tt : TT} {tA : TA} {E Er : XK} {D : Ends} {tz : TS} {a b d : Addr} {us : Rw} {xs ys : List V} {rs qs : List Rw} {ks : List Pt} {r l : Ru} {p : Pt} {v : V} {Q : VK}
theorem s_over' {tk : TE} {X : Ru → Prop} {i : Nat} (st : Sta K a d ks r H0 H) (hs : σ[i]? = some (some (.ref d))) (hp : p ∈ ks) (hl : ks.length ≤ 20) (hk : ∀ H1, Ev tk σ H1 (.str p.s)) (h : EvPt K te σ H a p X) (k : ∀ H1 l, X l → Sta K a d ks (r.upd l p) H0 H1 → (∀ {u : Addr} {ks' : List Pt} {l' : Ru}, DictAt K H u ks' l' → u ≠ a → u ≠ d → DictAt K H1 u ks' l') → D.nx σ H1) : sDPut (tVar i) tk te D σ H :=
  h H (Ex.refl H) _ fun H1 v l e1 p1 hv hx => ⟨_, hs, hk H1 H1 (Ex.refl H1) _ fun H2 e2 => by
    have st2 := (st.ex e1 p1).ex (ExB.of e2) (p1.ex e2)
    obtain ⟨f, hf, _⟩ := id st2.d
    exact ⟨d, _, rfl, .inl ⟨_, .inr p.s, hf, rfl, by rw [List.length_map, sizeLine_eq]; omega, rfl⟩, k _ l hx (st2.over hp (hv.ex e2) hf) fun hu ua ud => ((hu.exB e1 ua st.p.nt).ex e2).exB ExB.set ud (NoTup.dK hf)⟩⟩
theorem DictAt.neP (h : DictAt K H d ks r) (hp : PotAt H a) : d ≠ a := fun z => by
  obtain ⟨f, hf, _⟩ := h
  obtain ⟨x, y, h1, _⟩ := hp
  rw [z, h1] at hf
  cases hf
theorem DictAt.some (h : DictAt K H d ks r) (hb : H b = none) : d ≠ b := fun z => by
  obtain ⟨f, hf, _⟩ := h
  rw [z, hb] at hf
  cases hf
theorem ok_holds (h : Ok r) (hm : l.holds.Sublist kindRows) : Ok (r.upd l .holds) := ⟨h.t, h.g, h.m, h.l, h.f, hm, h.b⟩
theorem q_par3R {i j l : Nat} (h : tA σ H fun vs H1 => ∃ u v w, vs = [u, v, w] ∧ tz D (((σ.set i (some u)).set j (some v)).set l (some w)) H1) : tSeq (tPar3 i j l tA) tz D σ H := h

theorem ev_getR {tk : TE} {p : Pt} {f : Pt → V} (h : Ev te σ H (.ref d)) (hk : Ev tk σ H (.str p.s)) (hd : Rd H d (.dK (kvs ks f))) (hp : p ∈ ks) : Ev (tDGet te tk) σ H (f p) := fun H1 e1 Q q => h H1 e1 _ fun H2 e2 => hk H2 (e1.trans e2) _ fun H3 e3 =>
  ⟨d, f p, rfl, .inl ⟨kvs ks f, .inr p.s, rd_ex hd ((e1.trans e2).trans e3), rfl, (val_at hp).symm⟩, q H3 (e2.trans e3)⟩
def strictPs : List Pt := [.take, .give, .move, .lift, .fails, .shared, .batch, .settles]
theorem range_map {α : Type} (l : List α) (g : α → V) : (List.range l.length).map (fun i => (l[i]?.map g).getD .non) = l.map g := by
  apply List.ext_getElem
  · simp
  · intro i h1 h2
    simp at h1 h2
    simp [h1]
/-- [g for p in ps] -/
theorem el_lcP {ps : List Pt} {j : Nat} {vs : List Nat} {tl : TE} (g : Pt → V) (h : Ev tl σ H (.ref a)) (hx : SqL K H a (ps.map pV)) (hz : ps.length ≤ 1000) (hw : ∀ x, wipe ((wipe σ vs).set j (some x)) vs = wipe σ vs)
    (he : ∀ p H1, Ex H H1 → p ∈ ps → Ev te ((wipe σ vs).set j (some (pV p))) H1 (g p)) : EvL (tLc (iList K tl) (gName j) tYes te vs) σ H (ps.map g) := by
  refine el_is (el_lcL (fun _ => true) (fun i => (ps[i]?.map g).getD .non) h hx (by rw [List.length_map]; omega) hw (fun i x H1 e1 hi => et_yes) (fun i x H1 e1 hi hp => ?_)) (by rw [given_all, List.length_map]; exact range_map ps g)
  rw [List.getElem?_map] at hi
  obtain ⟨p, hp2, rfl⟩ := Option.map_eq_some_iff.mp hi
  rw [hp2]
  exact he p H1 e1 (List.mem_of_getElem? hp2)
theorem rv_nePart {f g : Pt → V} (h1 : (r.get p).At K H (f p)) (h2 : (l.get p).At K H (g p)) : RV (rNeD K) (f p) (g p) H (.bl (!decide (r.get p = l.get p))) := fun H1 e Q q => ⟨_, _, (h1.ex e).dp, (h2.ex e).dp, Pv.shaped _, Pv.shaped _, by
  rw [eqv_get]
  exact q H1 (Ex.refl H1)⟩
theorem strict_any (r l : Ru) : ((strictPs.map fun p => !decide (r.get p = l.get p)).any id) = !decide (({ r with holds := l.holds } : Ru) = l) := by
  by_cases e : ({ r with holds := l.holds } : Ru) = l
  · rw [decide_eq_true e]
    have go : ∀ p ∈ strictPs, r.get p = l.get p := fun p hp => by
      have e2 : ({ r with holds := l.holds } : Ru).get p = l.get p := by rw [e]
      rw [← e2]
      simp only [strictPs, List.mem_cons, List.not_mem_nil, or_false] at hp
      rcases hp with rfl | rfl | rfl | rfl | rfl | rfl | rfl | rfl <;> rfl
    rw [List.any_map, List.any_eq_false.mpr]
    · rfl
    · intro p hp
      show ¬ (!decide (r.get p = l.get p)) = true
      rw [decide_eq_true (go p hp)]
      simp
  · rw [decide_eq_false e]
    have z : ∃ p ∈ strictPs, ¬ r.get p = l.get p := by
      refine Classical.byContradiction fun n => e (Ru.ext_get fun p => ?_)
      have m : ∀ p ∈ strictPs, r.get p = l.get p := fun p hp => Classical.byContradiction fun q => n ⟨p, hp, q⟩
      cases p with
      | holds => rfl
      | take => exact m .take (by decide)
      | give => exact m .give (by decide)
      | move => exact m .move (by decide)
      | lift => exact m .lift (by decide)
      | fails => exact m .fails (by decide)
      | shared => exact m .shared (by decide)
      | batch => exact m .batch (by decide)
      | settles => exact m .settles (by decide)
    obtain ⟨p, hp, hn⟩ := z
    rw [List.any_map]
    show _ = true
    refine List.any_eq_true.mpr ⟨p, hp, ?_⟩
    show (!decide (r.get p = l.get p)) = true
    rw [decide_eq_false hn]
    rfl

end
end My
namespace My
open PySem PySem.Spec PyProof.Rows L2 GL Evl StX SkE
/-! ### menus of rows, drawn rules -/
def sp_Lmenu (K : PySem.W.Frag) : Sp := fun vs H Q _ => ∃ p : Pt, vs = [.str p.s] ∧ p ∈ rowPs ∧ ∀ H' a ys, H a = none → Ex H H' → H' a = some (.lst ys) → RowsAt K H' ys (menuRows p) → Q (.ref a) H'
section
variable {P : Program} {w : World} {K : PySem.W.Frag} {mg : Str → Option Value} {base : Heap} {C : Addr} {H H' H0 H1 : Hp} {σ : L2.St} {te tb ta tc : TE} {tt : TT} {tA : TA} {E Er : XK} {D : Ends} {tz : TS} {a b d : Addr} {us : Rw} {xs ys : List V} {rs qs : List Rw} {ks : List Pt} {r l : Ru} {p : Pt} {v : V} {Q : VK}
theorem q_dput {i : Nat} {x : Str} {f : Pt → V} (hd : H d = some (.dK (kvs ks f))) (hl : ks.length ≤ 20) (hs : σ[i]? = some (some (.ref d))) (he : x = p.s) (h : Ev te σ H v) (k : ∀ H1, Ex H H1 → H1 d = some (.dK (kvs ks f)) → tz D σ (upd H1 d (.dK (putK (kvs ks f) (.inr p.s) v)))) : tSeq (sDPut (tVar i) (tC (.str x)) te) tz D σ H := by
  subst he
  exact h H (Ex.refl H) _ fun H1 e1 => ⟨_, hs, d, _, rfl, .inl ⟨_, .inr p.s, e1 _ _ hd, rfl, by rw [List.length_map, sizeLine_eq]; omega, rfl⟩, k H1 e1 (e1 _ _ hd)⟩
theorem rv_cat {i j : Str} (h : i.length + j.length ≤ 100000) : RV (fun x y H Q => ∃ i j, x = V.str i ∧ y = V.str j ∧ i.length + j.length ≤ sizeLine ∧ Q (V.str (i ++ j)) H) (.str i) (.str j) H (.str (i ++ j)) := fun H1 _ Q q => ⟨i, j, rfl, rfl, sz_of h, q H1 (Ex.refl H1)⟩
theorem m1_raw {to : TE} {rr : V → List V → Hp → VK → Prop} (h : to σ H fun x H1 => (∃ a, x = .str a) ∧ te σ H1 fun y H2 => rr x [y] H2 Q) : tM1 rr to te σ H Q := h
theorem il_raw {R : It → Hp → Prop} (h : te σ H fun x H1 => ∃ a, x = .ref a ∧ (∃ xs, SqL K H1 a xs) ∧ R (Itl K a) H1) : iList K te σ H R := h
/-- one near: its words, as a row -/
theorem er_near {j : Nat} {s : Str} (hj : σ[j]? = some (some (.str s))) (hl : s.length ≤ 100) (hu : cutRow s = us.map Wd.s) : EvR K (tIf (tTest (tOp rNe (tVar j) (tC (.str (Str.ofString ""))))) (tCB (rTupX K) (tCons (tM1 (fun x xs H Q => ∃ a b, x = .str a ∧ xs = [.str b] ∧ (b.length == 0) = false ∧ a.length + 2 ≤ sizeLine ∧ rNewStrs (Txt.split a b) H Q) (tVar j) (tC (.str (Str.ofString " ")))) tNil)) (tTupX tNil)) σ H us := fun H1 e1 Q q => by
  have wu : us.map wV = (cutRow s).map V.str := by
    rw [hu, List.map_map]
    rfl
  refine (et_test (ev_op (ev_var hj) ev_c (rv_ne rfl)) : EvT _ _ _ _) H1 (Ex.refl H1) _ fun H2 e2 => ?_
  by_cases e : s = Str.ofString ""
  · rw [decide_eq_true (congrArg V.str e)]
    have u0 : us = [] := by
      unfold cutRow at hu
      rw [if_pos e] at hu
      exact List.map_eq_nil_iff.mp hu.symm
    subst u0
    exact ⟨by show 0 ≤ sizeLine; exact Nat.zero_le _, fun t o ht bo => q t _ (e2.trans (Ex.new ht)) (.fx upd_same bo)⟩
  · rw [decide_eq_false fun z => e (V.str.inj z)]
    have cs : cutRow s = Txt.split s (Str.ofString " ") := by
      unfold cutRow
      rw [if_neg e]
    refine cb1_raw (rr := rTupX K) ?_
    refine m1_raw (ev_raw (ev_var hj) fun H3 e3 => ⟨⟨s, rfl⟩, ev_raw ev_c fun H4 e4 => ⟨s, _, rfl, rfl, rfl, by rw [sizeLine_eq]; omega, fun t ht => ⟨t, _, rfl, sq_of upd_same, fun t2 o ht2 bo => q t2 _ ((((e2.trans e3).trans e4).trans (Ex.new ht)).trans (Ex.new ht2)) (.fx ?_ bo)⟩⟩⟩)
    rw [upd_same, wu, cs]
theorem ok_Lmenu (T : Txt K mg w)  : FnG P w K mg base CX0 1 T.f_Lmenu T.fd_Lmenu ["_law_sort"] (sp_Lmenu K) := by
  refine okG T.F_Lmenu sc_Lmenu (fun vs H Q E h => ?_) (fun cdv A outer s H vs Q E gd hr h => ?_)
  · obtain ⟨_, rfl, _⟩ := h
    all_goals rfl
  · obtain ⟨p, rfl, hp, q⟩ := h
    refine ⟨_, (pss_cons (ps_set (i := 1) sc_Lmenu.nd rfl (Or.inl rfl) (pe_disp (pps_cons pe_str pe_str pps_nil) rfl rfl (by simp) (by simp))) (pss_cons (ps_dput (hu_of hr) (pv 1) pe_str pe_str rfl) (pss_cons (ps_dput (hu_of hr) (pv 1) pe_str pe_str rfl) (pss_cons (ps_dput (hu_of hr) (pv 1) pe_str (pe_op op_add_str (pe_dget (hu_of hr) (pv 1) pe_str (fun _ _ => rfl)) pe_str) rfl) (pss_cons (ps_dput (hu_of hr) (pv 1) pe_str (pe_op op_add_str (pe_dget (hu_of hr) (pv 1) pe_str (fun _ _ => rfl)) pe_str) rfl) (pss_cons (ps_dput (hu_of hr) (pv 1) pe_str (pe_op op_add_str (pe_dget (hu_of hr) (pv 1) pe_str (fun _ _ => rfl)) pe_str) rfl) (pss_cons (ps_dput (hu_of hr) (pv 1) pe_str pe_str rfl) (pss_one (ps_ret (pe_lc (own := [("_law_near", 2)]) (g := gName 2) rfl sc_Lmenu.nd (pi_list (pe_split (pe_dget (hu_of hr) (pv 1) (pv 0) (fun _ _ => rfl)) pe_str)) (blkOk_by (N := N_Lmenu) (sc := defScope s_Lmenu) (by decide +kernel)) (fun _ _ _ _ _ => (pg_name (i := 2) sc_Lmenu.nd rfl (Or.inl rfl) (Or.inr rfl))) (fun _ _ _ _ _ => pts_nil) (fun _ _ _ _ _ => (pe_ifExp (pt_cmpR op_ne (pv 2) pe_str (nomark _)) (pe_callTy (show CallR _ (.type "tuple") (rTupX K) from call_tupleX) (by rfl) T.z_tuple (by decide +kernel) (pa_cons (pe_split (pv 2) pe_str) pa_nil)) (pe_tupX pa_nil))))))))))))), ?_⟩
    refine q_dispR fun d hd => ev_raw (ev_lp (p := .take) rfl) fun H1 e1 => ev_raw (ev_c (v := .str (menuTxt .take))) fun H2 e2 => ?_
    have e02 := ((Ex.new (o := .dK []) hd).trans e1).trans e2
    refine ⟨(e1.trans e2) _ _ upd_same, kvs [.take] (fun p => .str (menuTxt p)), rfl, (by show 1 ≤ 15; omega), ?_⟩
    rw [made_kvs _ (by decide)]
    have z0 : Ex H (upd H2 d (.dK (kvs [.take] (fun p => .str (menuTxt p))))) := Ex.mut e02 hd
    have h0 : (upd H2 d (.dK (kvs [.take] (fun p => V.str (menuTxt p))))) d = some (.dK (kvs [.take] (fun p => V.str (menuTxt p)))) := upd_same
    generalize (upd H2 d (.dK (kvs [.take] (fun p => V.str (menuTxt p))))) = G0 at z0 h0 ⊢
    refine q_dput (p := .give) h0 (by decide) rfl rfl (ev_c (v := .str (menuTxt .give))) fun G1 f1 _ => ?_
    rw [put_new (by decide)]
    have z1 := Ex.mut (o := .dK (kvs ([.take] ++ [.give]) (put (fun p => V.str (menuTxt p)) .give (.str (menuTxt .give))))) (z0.trans f1) hd
    have pg : put (fun p => V.str (menuTxt p)) .give (.str (menuTxt .give)) = fun p => V.str (menuTxt p) := funext fun p => by
      unfold put
      split
      · rename_i h
        rw [h]
      · rfl
    rw [pg] at z1 ⊢
    have h1 : (upd G1 d (.dK (kvs ([.take] ++ [.give]) (fun p => V.str (menuTxt p))))) d = some (.dK (kvs ([.take] ++ [.give]) (fun p => V.str (menuTxt p)))) := upd_same
    generalize (upd G1 d (.dK (kvs ([.take] ++ [.give]) (fun p => V.str (menuTxt p))))) = G2 at z1 h1 ⊢
    have mput : ∀ (m m' : Str), put (put (fun p => V.str (menuTxt p)) .move (.str m)) .move (.str m') = put (fun p => V.str (menuTxt p)) .move (.str m') := fun m m' => funext fun p => by
      unfold put
      split <;> rfl
    have mget : ∀ (m : Str), put (fun p => V.str (menuTxt p)) .move (.str m) .move = .str m := fun m => by
      unfold put
      rw [if_pos rfl]
    refine q_dput (p := .move) h1 (by decide) rfl rfl (ev_c (v := .str (Str.ofString "home try set off,home look add set off,home off add set,home set add off,"))) fun G3 f3 _ => ?_
    rw [put_new (by decide)]
    have z3 := Ex.mut (o := .dK (kvs ([.take] ++ [.give] ++ [.move]) (put (fun p => V.str (menuTxt p)) .move (.str (Str.ofString "home try set off,home look add set off,home off add set,home set add off,"))))) (z1.trans f3) hd
    have h3 : (upd G3 d (.dK (kvs ([.take] ++ [.give] ++ [.move]) (put (fun p => V.str (menuTxt p)) .move (.str (Str.ofString "home try set off,home look add set off,home off add set,home set add off,")))))) d = _ := upd_same
    generalize (upd G3 d (.dK (kvs ([.take] ++ [.give] ++ [.move]) (put (fun p => V.str (menuTxt p)) .move (.str (Str.ofString "home try set off,home look add set off,home off add set,home set add off,")))))) = G4 at z3 h3 ⊢
    have step : ∀ {G : Hp} {m n : Str} {tz : TS} {D : Ends} {σ : L2.St}, Ex H G → σ[1]? = some (some (.ref d)) → G d = some (.dK (kvs ([.take] ++ [.give] ++ [.move]) (put (fun p => V.str (menuTxt p)) .move (.str m)))) → m.length + n.length ≤ 1000 → (∀ G', Ex H G' → G' d = some (.dK (kvs ([.take] ++ [.give] ++ [.move]) (put (fun p => V.str (menuTxt p)) .move (.str (m ++ n))))) → tz D σ G') →
        tSeq (sDPut (tVar 1) (tC (.str (Str.ofString "move"))) (tOp (fun x y H Q => ∃ i j, x = V.str i ∧ y = V.str j ∧ i.length + j.length ≤ sizeLine ∧ Q (V.str (i ++ j)) H) (tDGet (tVar 1) (tC (.str (Str.ofString "move")))) (tC (.str n)))) tz D σ G := fun {G m n tz D σ} z hs h hl k => by
      refine q_dput (p := .move) (v := .str (m ++ n)) h (by decide) hs rfl (ev_op (ev_is (ev_get (p := .move) (ev_var hs) h (by decide)) (mget m)) ev_c (rv_cat (by omega))) fun G5 f5 _ => ?_
      rw [put_old (by decide), mput]
      exact k _ (Ex.mut (z.trans f5) hd) upd_same
    refine step z3 rfl h3 (by decide +kernel) fun G6 z6 h6 => step z6 rfl h6 (by decide +kernel) fun G7 z7 h7 => step z7 rfl h7 (by decide +kernel) fun G8 z8 h8 => ?_
    have mm : put (fun p => V.str (menuTxt p)) .move (.str (((Str.ofString "home try set off,home look add set off,home off add set,home set add off," ++ Str.ofString "home add look set off,home set,home try off set,home look set off add,") ++ Str.ofString "home add set,home look set,home set add,try home set off,set home off,") ++ Str.ofString "add home off set,set,look set,set add,try set home")) = fun p => V.str (menuTxt p) := funext fun p => by
      unfold put
      split
      · rename_i h
        rw [h]
        rfl
      · rfl
    rw [mm] at h8
    refine q_dput (p := .lift) h8 (by decide) rfl rfl (ev_c (v := .str (menuTxt .lift))) fun G9 f9 _ => ?_
    rw [put_new (by decide)]
    have pl : put (fun p => V.str (menuTxt p)) .lift (.str (menuTxt .lift)) = fun p => V.str (menuTxt p) := funext fun p => by
      unfold put
      split
      · rename_i h
        rw [h]
      · rfl
    rw [pl]
    have z9 := Ex.mut (o := .dK (kvs ([.take] ++ [.give] ++ [.move] ++ [.lift]) (fun p => V.str (menuTxt p)))) (z8.trans f9) hd
    have h9 : (upd G9 d (.dK (kvs ([.take] ++ [.give] ++ [.move] ++ [.lift]) (fun p => V.str (menuTxt p))))) d = some (.dK (kvs ([.take] ++ [.give] ++ [.move] ++ [.lift]) (fun p => V.str (menuTxt p)))) := upd_same
    generalize (upd G9 d (.dK (kvs ([.take] ++ [.give] ++ [.move] ++ [.lift]) (fun p => V.str (menuTxt p))))) = GA at z9 h9 ⊢
    have hp' : p ∈ ([.take] ++ [.give] ++ [.move] ++ [.lift] : List Pt) := hp
    obtain ⟨l1, l2, l3⟩ := menu_len hp
    refine s_rows (H := GA) (rs := menuRows p) ?_ (fun H' a ys ha e h r => q H' a ys (fresh_back z9 ha) (z9.trans e) h r) rfl
    intro F0 e0 Q2 q2
    have lm : (menuRows p).length = (menuStrs p).length := by
      have h := congrArg List.length (menu_fact hp)
      rw [List.length_map, List.length_map] at h
      exact h.symm
    unfold tLc
    refine il_raw (m1_raw (ev_raw (ev_getK (ev_var rfl) (ev_var rfl) (e0 _ _ h9) hp') fun F1 a1 => ⟨⟨menuTxt p, rfl⟩, ev_raw ev_c fun F2 a2 => ⟨menuTxt p, Str.ofString ",", rfl, rfl, rfl, by rw [sizeLine_eq]; omega, fun t ht => ⟨t, rfl, ⟨_, sq_of upd_same⟩, fun Dl hD => ?_⟩⟩⟩))
    have hL : (upd F2 t (.lst ((menuStrs p).map V.str))) t = some (.lst ((menuStrs p).map V.str)) := upd_same
    have eL : Ex F0 (upd F2 t (.lst ((menuStrs p).map V.str))) := (a1.trans a2).trans (Ex.new ht)
    have hD' : (upd F2 t (.lst ((menuStrs p).map V.str))) Dl = none := hD
    show ∃ W : Nat → Nat → Hp → Prop, (∃ m, W 0 m (upd (upd F2 t (.lst ((menuStrs p).map V.str))) Dl (.lst []))) ∧ _
    generalize (upd F2 t (.lst ((menuStrs p).map V.str))) = FL at hL eL hD' ⊢
    refine lc_it (walk_list (K := K) (a := t) (xs := (menuStrs p).map V.str)) (fun k G => ∃ yc, Ex FL G ∧ G Dl = some (.lst yc) ∧ RowsAt K G yc ((menuRows p).take k)) ⟨[], Ex.new hD', upd_same, .nil⟩ (fun k G _ z => ?_) (fun k v G1 G2 hk z y => ?_) (fun G z => ?_)
    · obtain ⟨_, z1, _⟩ := z
      exact sq_of (z1 _ _ hL)
    · obtain ⟨rfl, hv⟩ := y
      obtain ⟨yc, z1, z2, z3⟩ := z
      rw [List.getElem?_map] at hv
      obtain ⟨s0, hs0, rfl⟩ := Option.map_eq_some_iff.mp hv
      obtain ⟨us, hu, cu⟩ := menu_row hp hs0
      refine ⟨rfl, yes_raw (er_near rfl (l3 s0 (List.mem_of_getElem? hs0)) cu G2 (Ex.refl G2) _ fun b G3 e3 hb => ⟨yc, e3 _ _ z2, ?_, yc ++ [.ref b], (z1.trans e3).mut hD', upd_same, ?_⟩)⟩
      · have l4 := z3.len
        rw [List.length_take] at l4
        rw [sizeLine_eq]
        omega
      · rw [List.take_add_one, hu]
        exact ((z3.ex e3).app (.cons hb .nil)).exB ExB.set (NoTup.lst (e3 _ _ z2))
    · obtain ⟨yc, z1, z2, z3⟩ := z
      rw [List.length_map, ← lm, List.take_length] at z3
      exact q2 Dl yc G (fresh_back eL hD') (eL.trans z1) z2 z3
end
end My
namespace My
open PySem PySem.Spec PyProof.Rows L2 GL Evl StX SkE
/-! ### drawn rules -/
def ruleKs : List Pt := [.fails, .shared, .batch, .settles, .holds, .take, .give, .lift, .move]
theorem ruleKs_mem (p : Pt) : p ∈ ruleKs := by cases p <;> decide
def sp_Lrules (K : PySem.W.Frag) : Sp := fun vs H Q _ => ∃ a, ∃ i n : Nat, vs = [.ref a, nV i, nV n] ∧ PotAt H a ∧ 1 ≤ n ∧ n ≤ 50 ∧ ∀ H' d r, ExB a H H' → PotAt H' a → H d = none → DictAt K H' d ruleKs r → Ok r → Q (.ref d) H'
section
variable {P : Program} {w : World} {K : PySem.W.Frag} {mg : Str → Option Value} {base : Heap} {C : Addr} {H H' H0 H1 : Hp} {σ : L2.St} {te tb ta tc : TE} {tt : TT} {tA : TA} {E Er : XK} {D : Ends} {tz : TS} {a b d : Addr} {us : Rw} {xs ys : List V} {rs qs : List Rw} {ks : List Pt} {r l : Ru} {p : Pt} {v : V} {Q : VK}
theorem if_raw {t : TT} (h : t σ H fun c H1 => if c = true then ta σ H1 Q else tb σ H1 Q) : tIf t ta tb σ H Q := h
theorem ep_batch2 {i j n : Nat} (hp : PotAt H a) (hs : σ[i]? = some (some (.ref a))) (hj : σ[j]? = some (some (nV n))) (h1 : 1 ≤ n) (h2 : n ≤ 50) : EvPt K (tIf (tTest (tOp rEq (tCall sp_Ldraw [] Er (tCons (tVar i) (tCons (tC (.int 2)) tNil))) (tC (.int 0)))) (tC (.int 1)) (tOp (rI0 fun i j => .int (i + j)) (tC (.int 1)) (tCall sp_Ldraw [] Er (tCons (tVar i) (tCons (tVar j) tNil))))) σ H a .batch (fun l => 1 ≤ l.batch ∧ l.batch ≤ 50) := fun H1 e1 Q q =>
  if_raw (test_raw (draw0 (hp.ex e1) hs fun H2 b x2 p2 => ⟨b, rfl, by
    cases b with
    | true => exact q H2 (nV 1) ⟨[], [], [], [], .undo, true, [], 1, true⟩ x2 p2 rfl ⟨by show 1 ≤ 1; omega, by show 1 ≤ 50; omega⟩
    | false =>
      rw [if_neg Bool.false_ne_true]
      refine op_raw (ev_raw ev_c fun H3 e3 => dr (n := n) (ea_cons (ev_var hs) (ea_cons (ev_var hj) ea_nil)) (p2.ex e3) h1 (by omega) fun H4 k x4 p4 hk => rv_I0 H4 (Ex.refl _) _ fun H5 e5 => ?_)
      have vn : (.int (1 + ((k : Nat) : Int)) : V) = nV (1 + k) := by show V.int _ = V.int _; congr 1
      rw [vn]
      exact q H5 (nV (1 + k)) ⟨[], [], [], [], .undo, true, [], 1 + k, true⟩ (((x2.trans (ExB.of e3)).trans x4).trans (ExB.of e5)) (p4.ex e5) rfl ⟨by show 1 ≤ 1 + k; omega, by show 1 + k ≤ 50; omega⟩⟩))
/-- a test by a draw -/
def DrawT (t : TT) (a : Addr) (i : Nat) : Prop := ∀ σ' H1, σ'[i]? = some (some (.ref a)) → PotAt H1 a → ∀ Qb : Bool → Hp → Prop, (∀ H2 b, ExB a H1 H2 → PotAt H2 a → Qb b H2) → t σ' H1 Qb
theorem draw_gt {i : Nat} : DrawT (tTest (tOp (rI0 fun i j => .bl (decide (j < i))) (tCall sp_Ldraw [] Er (tCons (tVar i) (tCons (tC (.int 3)) tNil))) (tC (.int 0)))) a i := fun σ' H1 hs hp Qb k =>
  test_raw (op_raw (dr (n := 3) (ea_cons (ev_var hs) (ea_cons (ev_is ev_c rfl) ea_nil)) hp (by omega) (by omega) fun H2 j x2 p2 _ => ev_raw ev_c fun H3 e3 => rv_I0 H3 (Ex.refl _) _ fun H4 e4 => ⟨_, rfl, k H4 _ ((x2.trans (ExB.of e3)).trans (ExB.of e4)) ((p2.ex e3).ex e4)⟩))
theorem tlc_sub' {wi : TI} {vs : List Nat} {i j : Nat} {us : Rw} (hp : PotAt H a) (hl : us.length ≤ 1000) (hw : ∀ R : It → Hp → Prop, (∀ J G H1, Walk J (us.map wV).length G (YAt (us.map wV)) → Ex H H1 → (∀ H', ExB a H1 H' → G H') → R J H1) → wi σ H R)
    (h0 : ∀ x, ((wipe σ vs).set j (some x))[i]? = some (some (.ref a))) (hj : ∀ x, ((wipe σ vs).set j (some x))[j]? = some (some x)) (hv : ∀ x, wipe ((wipe σ vs).set j (some x)) vs = wipe σ vs) (hT : DrawT tt a i)
    (q : ∀ H' Dl (ws : Rw), H Dl = none → ws.Sublist us → ExB a H H' → PotAt H' a → H' Dl = some (.lst (ws.map wV)) → Q (.ref Dl) H') : tLc wi (gName j) tt (tVar j) vs σ H Q :=
  hw _ fun J G H1 wk e1 hG Dl hD => lc_it wk (fun k H' => ∃ ws : Rw, ExB a H1 H' ∧ PotAt H' a ∧ H' Dl = some (.lst (ws.map wV)) ∧ ws.Sublist (us.take k)) ⟨[], ExB.of (Ex.new hD), (hp.ex e1).ex (Ex.new hD), upd_same, List.nil_sublist _⟩
    (fun k H' _ z => hG H' z.choose_spec.1) (fun k v G1 G2 hk z y => by
    obtain ⟨rfl, hi⟩ := y
    obtain ⟨ws, z1, z2, z3, z4⟩ := z
    obtain ⟨u, hu, rfl, _⟩ := w_item hi
    refine ⟨hv _, hT _ _ (h0 _) z2 _ fun H3 b x3 p3 => ?_⟩
    have nd : Dl ≠ a := (hp.ex e1).ne hD
    have h3 : H3 Dl = some (.lst (ws.map wV)) := x3 _ _ nd z3
    have tk : us.take (k + 1) = us.take k ++ [u] := by
      rw [List.take_add_one, hu]
      rfl
    cases b with
    | true =>
      refine ⟨_, hj _, ws.map wV, h3, ?_, ws ++ [u], (z1.trans x3).mut hD, p3.exB ExB.set nd.symm, ?_, ?_⟩
      · have l1 := z4.length_le
        rw [List.length_take] at l1
        rw [List.length_map, sizeLine_eq]
        omega
      · rw [upd_same, List.map_append]
        rfl
      · rw [tk]
        exact z4.append (List.Sublist.refl _)
    | false =>
      refine ⟨ws, z1.trans x3, p3, h3, ?_⟩
      rw [tk]
      exact z4.trans (List.sublist_append_left _ _)) fun H' z => by
    obtain ⟨ws, z1, z2, z3, z4⟩ := z
    rw [List.length_map, List.take_length] at z4
    exact q H' Dl ws (fresh_back e1 hD) z4 ((ExB.of e1).trans z1) z2 z3
theorem ep_holds' {wi : TI} {vs : List Nat} {i j : Nat} {us : Rw} (hp : PotAt H a) (hl : us.length ≤ 1000) (hw : ∀ H0, Ex H H0 → ∀ R : It → Hp → Prop, (∀ J G H1, Walk J (us.map wV).length G (YAt (us.map wV)) → Ex H0 H1 → (∀ H', ExB a H1 H' → G H') → R J H1) → wi σ H0 R)
    (h0 : ∀ x, ((wipe σ vs).set j (some x))[i]? = some (some (.ref a))) (hj : ∀ x, ((wipe σ vs).set j (some x))[j]? = some (some x)) (hv : ∀ x, wipe ((wipe σ vs).set j (some x)) vs = wipe σ vs) (hT : DrawT tt a i) :
    EvPt K (tCB (fun xs H Q => ∃ p ys, xs = [.ref p] ∧ ((SqL K H p ys ∧ ∀ l, H l = none → Q (.ref l) (upd H l (.tup ys))) ∨ (SqT K H p ys ∧ Q (.ref p) H))) (tCons (tLc wi (gName j) tt (tVar j) vs) tNil)) σ H a .holds (fun l => l.holds.Sublist us) := fun H1 e1 Q q =>
  cb1_raw (tlc_sub' (hp.ex e1) hl (hw H1 e1) h0 hj hv hT fun H2 Dl ws hD hs x2 p2 h2 => ⟨Dl, ws.map wV, rfl, .inl ⟨sq_of h2, fun t ht => q _ (.ref t) ⟨[], [], [], [], .undo, true, ws, 1, true⟩ (x2.trans (ExB.of (Ex.new ht))) (p2.ex (Ex.new ht)) ⟨t, rfl, .tup upd_same⟩ hs⟩⟩)
theorem RowsAt.take (h : RowsAt K H ys rs) (m : Nat) : RowsAt K H (ys.take m) (rs.take m) := by
  induction h generalizing m with
  | nil =>
    rw [List.take_nil, List.take_nil]
    exact .nil
  | cons h _ ih =>
    cases m with
    | zero => exact .nil
    | succ m => exact .cons h (ih m)
theorem cut_toV {ys : List V} {i : Nat} (hi : i ≤ ys.length) : cutV ys none (some (i : Int)) = ys.take i := by
  unfold cutV
  rw [HT.sIx_nat, HT.sIx_none, Nat.min_eq_left hi, Nat.sub_zero, List.drop_zero]
/-- a number by draws -/
def DrawN (tn : TE) (σ : L2.St) (H : Hp) (a : Addr) (N : Nat → Prop) : Prop := ∀ H1, Ex H H1 → ∀ Q : VK, (∀ H2 (m : Nat), ExB a H1 H2 → PotAt H2 a → N m → Q (nV m) H2) → tn σ H1 Q
theorem pick_menu {i : Nat} {x : Str} {tn : TE} {N : Nat → Prop} (hp : PotAt H a) (hs : σ[i]? = some (some (.ref a))) (hk : p ∈ rowPs) (ex : x = p.s) (hn : DrawN tn σ H a N) (hN : ∀ m, N m → 1 ≤ m ∧ m ≤ (menuRows p).length) :
    EvPt K (tCall sp_Lpick [] Er (tCons (tVar i) (tCons (tSl (rSlL K) (tCall (sp_Lmenu K) [] Er (tCons (tC (.str x)) tNil)) tNoPart (tPart tn)) tNil))) σ H a p (fun l => ∃ m, N m ∧ rowPt p l ∈ (menuRows p).take m) := fun H1 e1 Q q => by
  subst ex
  refine ⟨_, hs, cons1_raw ?_⟩
  show tCall (sp_Lmenu K) [] Er (tCons (tC (.str p.s)) tNil) σ H1 _
  refine cons1_raw (te := tC (.str p.s)) (ev_raw ev_c fun H2 e2 => ⟨p, rfl, hk, fun H3 t ys ht e3 h3 r3 => ?_⟩)
  have x13 := e2.trans e3
  refine hn H3 (e1.trans x13) _ fun H4 m x4 p4 hm => ⟨_, rfl, ?_⟩
  have nta : t ≠ a := (hp.ex (e1.trans e2)).ne ht
  have h4 := x4 _ _ nta h3
  refine ⟨t, ys, rfl, sq_of h4, fun u hu => ?_⟩
  have p3 := hp.ex (e1.trans x13)
  have r4 := r3.exB x4 p3.nt
  have lm : ys.length = (menuRows p).length := r3.len
  obtain ⟨m1, m2⟩ := hN m hm
  rw [cut_toV (by omega)]
  have l5 : (ys.take m).length = m := by rw [List.length_take]; omega
  have m20 : (menuRows p).length ≤ 20 := by
    have h := congrArg List.length (menu_fact hk)
    rw [List.length_map, List.length_map] at h
    rw [← h]
    exact (menu_len hk).2.1
  refine ⟨a, u, ys.take m, rfl, p4.ex (Ex.new hu), p4.ne hu, upd_same, by omega, by omega, fun H5 v x5 p5 hv => ?_⟩
  obtain ⟨b, us, rfl, hus, hb⟩ := ((r4.take m).ex (Ex.new hu)).mem hv
  have hb5 := hb.exB x5 (p4.ex (Ex.new hu)).nt
  have x15 := (((ExB.of x13).trans x4).trans (ExB.of (Ex.new hu))).trans x5
  simp only [rowPs, List.mem_cons, List.not_mem_nil, or_false] at hk
  rcases hk with rfl | rfl | rfl | rfl
  · exact q H5 (.ref b) ⟨us, us, us, us, .undo, true, [], 1, true⟩ x15 p5 ⟨b, rfl, hb5⟩ ⟨m, hm, hus⟩
  · exact q H5 (.ref b) ⟨us, us, us, us, .undo, true, [], 1, true⟩ x15 p5 ⟨b, rfl, hb5⟩ ⟨m, hm, hus⟩
  · exact q H5 (.ref b) ⟨us, us, us, us, .undo, true, [], 1, true⟩ x15 p5 ⟨b, rfl, hb5⟩ ⟨m, hm, hus⟩
  · exact q H5 (.ref b) ⟨us, us, us, us, .undo, true, [], 1, true⟩ x15 p5 ⟨b, rfl, hb5⟩ ⟨m, hm, hus⟩
theorem dn_ev {n : Nat} (hp : PotAt H a) (h : Ev te σ H (nV n)) : DrawN te σ H a (fun m => m = n) := fun H1 e1 Q q => h H1 e1 _ fun H2 e2 => q H2 n (ExB.of e2) ((hp.ex e1).ex e2) rfl
theorem good_and {us : Rw} {x : Bool} (h : (decide us.Nodup && decide (us.length ≤ 6) && x) = true) : RowOk us ∧ x = true := by
  simp only [Bool.and_eq_true] at h
  exact ⟨⟨of_decide_eq_true h.1.1, of_decide_eq_true h.1.2⟩, h.2⟩
theorem take_menu {us : Rw} {n m : Nat} (hm : m = 4 + 2 * (if n = 1 then 1 else 0)) (h : us ∈ (menuRows .take).take m) : RowOk us ∧ pTake us = true ∧ pBatch us n = true := by
  obtain ⟨g1, g2⟩ := good_and (menu_good (p := .take) (by decide) (List.mem_of_mem_take h))
  simp only [Bool.and_eq_true] at g2
  refine ⟨g1, g2.1, ?_⟩
  by_cases e : n = 1
  · rw [e]
    exact g2.2
  · rw [if_neg e] at hm
    rw [hm] at h
    exact menu_live h n
theorem give_menu {us : Rw} {m : Nat} (h : us ∈ (menuRows .give).take m) : RowOk us ∧ pGive us = true := good_and (menu_good (p := .give) (by decide) (List.mem_of_mem_take h))
theorem lift_menu {us : Rw} {m : Nat} (h : us ∈ (menuRows .lift).take m) : RowOk us ∧ pLift us = true := good_and (menu_good (p := .lift) (by decide) (List.mem_of_mem_take h))
theorem move_menu {us : Rw} {m : Nat} {b : Bool} (hm : (m = 18 ∧ b = true) ∨ m = 11) (h : us ∈ (menuRows .move).take m) : RowOk us ∧ pMove us = true ∧ pShared us b = true := by
  obtain ⟨g1, g2⟩ := good_and (menu_good (p := .move) (by decide) (List.mem_of_mem_take h))
  simp only [Bool.and_eq_true] at g2
  refine ⟨g1, g2.1, ?_⟩
  rcases hm with ⟨_, e⟩ | e
  · rw [e]
    exact g2.2
  · rw [e] at h
    exact menu_home h b
theorem empty_move (b : Bool) : RowOk [] ∧ pMove [] = true ∧ pShared [] b = true := ⟨⟨List.nodup_nil, by decide⟩, by decide, by cases b <;> decide⟩
theorem ok_Lrules (T : Txt K mg w) (G_Lpick : FnG P w K mg base CX0 2 T.f_Lpick T.fd_Lpick ["_law_pot_here", "_law_some"] sp_Lpick) (G_Ldraw : FnG P w K mg base CX0 1 T.f_Ldraw T.fd_Ldraw ["_law_pot_here", "_law_sides"] sp_Ldraw) (G_Lmenu : FnG P w K mg base CX0 1 T.f_Lmenu T.fd_Lmenu ["_law_sort"] (sp_Lmenu K)) : FnG P w K mg base CX0 4 T.f_Lrules T.fd_Lrules ["_law_pot_here", "_law_way", "_law_most"] (sp_Lrules K) := by
  refine okG T.F_Lrules sc_Lrules (fun vs H Q E h => ?_) (fun cdv A outer s H vs Q E gd hr h => ?_)
  · obtain ⟨_, _, _, rfl, _⟩ := h
    all_goals rfl
  · obtain ⟨a, i, n, rfl, hp, n1, n2, q⟩ := h
    refine ⟨_, (pss_cons (ps_set (i := 3) sc_Lrules.nd rfl (Or.inl rfl) (pe_disp (pps_cons pe_str (pc gd G_Lpick (hr.mono (by decide)) (by rfl) T.m_Lpick T.F_Lpick.kp T.b_Lpick .nil pass0 (pa_cons (pv 0) (pa_cons (pe_lst (pa_cons pe_str (pa_cons pe_str (pa_cons pe_str (pa_cons pe_str pa_nil))))) pa_nil))) (pps_cons pe_str (pe_cmpR op_eq (pc gd G_Ldraw (hr.mono (by decide)) (by rfl) T.m_Ldraw T.F_Ldraw.kp T.b_Ldraw .nil pass0 (pa_cons (pv 0) (pa_cons pe_int pa_nil))) pe_int (nomark _)) pps_nil)) rfl rfl (by simp) (by simp))) (pss_cons (ps_dput (hu_of hr) (pv 3) pe_str (pe_ifExp (pt_cmpR op_eq (pc gd G_Ldraw (hr.mono (by decide)) (by rfl) T.m_Ldraw T.F_Ldraw.kp T.b_Ldraw .nil pass0 (pa_cons (pv 0) (pa_cons pe_int pa_nil))) pe_int (nomark _)) pe_int (pe_op op_add pe_int (pc gd G_Ldraw (hr.mono (by decide)) (by rfl) T.m_Ldraw T.F_Ldraw.kp T.b_Ldraw .nil pass0 (pa_cons (pv 0) (pa_cons (pv 2) pa_nil))))) rfl) (pss_cons (ps_dput (hu_of hr) (pv 3) pe_str (pe_cmpR op_eq (pc gd G_Ldraw (hr.mono (by decide)) (by rfl) T.m_Ldraw T.F_Ldraw.kp T.b_Ldraw .nil pass0 (pa_cons (pv 0) (pa_cons pe_int pa_nil))) pe_int (nomark _)) rfl) (pss_cons (ps_dput (hu_of hr) (pv 3) pe_str (pe_callTy call_tuple_of (by rfl) T.z_tuple (by decide +kernel) (pa_cons (pe_lc (own := [("_law_sort", 4)]) (g := gName 4) rfl sc_Lrules.nd (pi_list (pe_lst (pa_cons pe_str (pa_cons pe_str (pa_cons pe_str (pa_cons pe_str pa_nil)))))) (blkOk_by (N := N_Lrules) (sc := defScope s_Lrules) (by decide +kernel)) (fun _ _ _ _ _ => (pg_name (i := 4) sc_Lrules.nd rfl (Or.inl rfl) (Or.inr rfl))) (fun _ _ _ _ _ => pts_one (pt_cmpR op_gt (pc gd G_Ldraw (hr.mono (by decide)) (by rfl) T.m_Ldraw T.F_Ldraw.kp T.b_Ldraw .nil pass0 (pa_cons (pv 0) (pa_cons pe_int pa_nil))) pe_int (nomark _))) (fun _ _ _ _ _ => (pv 4))) pa_nil)) rfl) (pss_cons (ps_dput (hu_of hr) (pv 3) pe_str (pc gd G_Lpick (hr.mono (by decide)) (by rfl) T.m_Lpick T.F_Lpick.kp T.b_Lpick .nil pass0 (pa_cons (pv 0) (pa_cons (pe_slice sl_list (pc gd G_Lmenu (hr.mono (by decide)) (by rfl) T.m_Lmenu T.F_Lmenu.kp T.b_Lmenu .nil pass0 (pa_cons pe_str pa_nil)) po_none (po_some (pe_op op_add pe_int (pe_op op_mul pe_int (pe_callTy call_int1 (by rfl) T.z_int (by decide +kernel) (pa_cons (pe_cmpR op_eq (pe_dget (hu_of hr) (pv 3) pe_str (fun _ _ => rfl)) pe_int (nomark _)) pa_nil)))))) pa_nil))) rfl) (pss_cons (ps_dput (hu_of hr) (pv 3) pe_str (pc gd G_Lpick (hr.mono (by decide)) (by rfl) T.m_Lpick T.F_Lpick.kp T.b_Lpick .nil pass0 (pa_cons (pv 0) (pa_cons (pe_slice sl_list (pc gd G_Lmenu (hr.mono (by decide)) (by rfl) T.m_Lmenu T.F_Lmenu.kp T.b_Lmenu .nil pass0 (pa_cons pe_str pa_nil)) po_none (po_some (pe_op op_add pe_int (pe_op op_mul pe_int (pc gd G_Ldraw (hr.mono (by decide)) (by rfl) T.m_Ldraw T.F_Ldraw.kp T.b_Ldraw .nil pass0 (pa_cons (pv 0) (pa_cons pe_int pa_nil))))))) pa_nil))) rfl) (pss_cons (ps_dput (hu_of hr) (pv 3) pe_str (pc gd G_Lpick (hr.mono (by decide)) (by rfl) T.m_Lpick T.F_Lpick.kp T.b_Lpick .nil pass0 (pa_cons (pv 0) (pa_cons (pe_slice sl_list (pc gd G_Lmenu (hr.mono (by decide)) (by rfl) T.m_Lmenu T.F_Lmenu.kp T.b_Lmenu .nil pass0 (pa_cons pe_str pa_nil)) po_none (po_some (pe_op op_add pe_int (pe_op op_mul pe_int (pc gd G_Ldraw (hr.mono (by decide)) (by rfl) T.m_Ldraw T.F_Ldraw.kp T.b_Ldraw .nil pass0 (pa_cons (pv 0) (pa_cons pe_int pa_nil))))))) pa_nil))) rfl) (pss_cons (ps_dput (hu_of hr) (pv 3) pe_str (pe_tupX pa_nil) rfl) (pss_cons (ps_if (pt_cmpR op_gt (pv 1) pe_int (nomark _)) (pss_one (ps_dput (hu_of hr) (pv 3) pe_str (pc gd G_Lpick (hr.mono (by decide)) (by rfl) T.m_Lpick T.F_Lpick.kp T.b_Lpick .nil pass0 (pa_cons (pv 0) (pa_cons (pe_slice sl_list (pc gd G_Lmenu (hr.mono (by decide)) (by rfl) T.m_Lmenu T.F_Lmenu.kp T.b_Lmenu .nil pass0 (pa_cons pe_str pa_nil)) po_none (po_some (pe_ifExp ((pw_and (pt_cmpR op_eq (pv 1) pe_int (nomark _)) (pw_and1 (pt_val (pe_dget (hu_of hr) (pv 3) pe_str (fun _ _ => rfl)))))).pt pe_int pe_int))) pa_nil))) rfl)) pss_nil) (pss_one (ps_ret (pv 3)))))))))))), ?_⟩
    refine q_dispR fun d hd => ?_
    have e0 : Ex H (upd H d (.dK [])) := Ex.new hd
    have nda : d ≠ a := hp.ne hd
    refine ev_raw ev_c fun H1 e1 => pick_list ((hp.ex e0).ex e1) rfl (el_lst (vs := [wV .undo, wV .undo, wV .leave, wV .wait]) (ea_cons (ev_lit (w0 := .undo) rfl) (ea_cons (ev_lit (w0 := .undo) rfl) (ea_cons (ev_lit (w0 := .leave) rfl) (ea_cons (ev_lit (w0 := .wait) rfl) ea_nil)))) (by show 4 ≤ 100000; omega)) (by show 1 ≤ 4; omega) (by show 4 ≤ 1000; omega) fun H2 v x2 p2 hv => ?_
    obtain ⟨u, hu, rfl⟩ : ∃ u ∈ failWs, v = wV u := by
      simp only [List.mem_cons, List.not_mem_nil, or_false] at hv
      rcases hv with rfl | rfl | rfl | rfl
      · exact ⟨.undo, by decide, rfl⟩
      · exact ⟨.undo, by decide, rfl⟩
      · exact ⟨.leave, by decide, rfl⟩
      · exact ⟨.wait, by decide, rfl⟩
    refine ev_raw ev_c fun H3 e3 => draw0 (p2.ex e3) rfl fun H4 b x4 p4 => ?_
    have x04 : ExB a (upd H d (.dK [])) H4 := (((ExB.of e1).trans x2).trans (ExB.of e3)).trans x4
    let f0 : Pt → V := fun p => if p = .fails then wV u else .bl b
    refine ⟨x04 _ _ nda upd_same, kvs [.fails, .shared] f0, rfl, (by show 2 ≤ 15; omega), ?_⟩
    rw [made_kvs f0 (by decide)]
    have st : Sta K a d [.fails, .shared] ⟨[], [], [], [], u, b, [], 1, true⟩ H (upd H4 d (.dK (kvs [.fails, .shared] f0))) := ⟨((ExB.of e0).trans x04).mut hd, p4.exB ExB.set nda.symm, hd, nda, f0, upd_same, fun p hp => by
      simp only [List.mem_cons, List.not_mem_nil, or_false] at hp
      rcases hp with rfl | rfl
      · exact rfl
      · exact rfl⟩
    refine q_part (p := .batch) st rfl (by decide) (by decide) (ep_batch2 st.p rfl rfl n1 n2) fun H5 l5 h5 st5 => ?_
    refine q_part (p := .settles) st5 rfl (by decide) (by decide) (ep_bool st5.p rfl (.inr rfl)) fun H6 l6 h6 st6 => ?_
    refine q_part (p := .holds) st6 rfl (by decide) (by decide) (ep_holds' (us := kindRows) st6.p (by decide) (fun H0 e0 R hR => (el_lst (vs := kindRows.map wV) (ea_cons (ev_lit (w0 := .take) rfl) (ea_cons (ev_lit (w0 := .give) rfl) (ea_cons (ev_lit (w0 := .move) rfl) (ea_cons (ev_lit (w0 := .lift) rfl) ea_nil)))) (by show 4 ≤ 100000; omega)) H0 (Ex.refl H0) _ fun p H1 hp1 e1 h1 => ⟨p, rfl, ⟨_, sq_of h1⟩, hR _ _ H1 walk_list e1 fun H' x => sq_of (x _ _ ((st6.p.ex e0).ne hp1) h1)⟩) (fun _ => rfl) (fun _ => rfl) (fun _ => rfl) draw_gt) fun H7 l7 h7 st7 => ?_
    have dT : DrawN (tOp (rI0 fun i j => .int (i + j)) (tC (.int 4)) (tOp (rI CMul fun i j => .int (i * j)) (tC (.int 2)) (tCB (fun xs H Q => (∃ i, xs = [V.int i] ∧ Q (.int i) H) ∨ ∃ k, xs = [V.bl k] ∧ Q (.int (if k = true then 1 else 0)) H) (tCons (tOp rEq (tDGet (tVar 3) (tC (.str Pt.batch.s))) (tC (.int 1))) tNil)))) [some (.ref a), some (nV i), some (nV n), some (.ref d), none] H7 a (fun m => m = 4 + 2 * (if l5.batch = 1 then 1 else 0)) := by
      refine dn_ev st7.p (ev_is (ev_op ev_c (ev_op ev_c (ev_cb (ea_cons (ev_is (ev_op (ev_pI rfl st7.d (by decide)) ev_c (rv_eq rfl)) (congrArg V.bl (nV_eq _ 1))) ea_nil) (fun H1 _ Q q => .inr ⟨decide (l5.batch = 1), rfl, q H1 (Ex.refl H1)⟩)) (rv_I (.inl ⟨by omega, by omega⟩))) rv_I0) ?_)
      show V.int _ = V.int _
      congr 1
      by_cases e : l5.batch = 1
      · rw [decide_eq_true e, if_pos rfl, if_pos e]
        rfl
      · rw [decide_eq_false e, if_neg Bool.false_ne_true, if_neg e]
        rfl
    refine q_part (p := .take) st7 rfl (by decide) (by decide) (pick_menu st7.p rfl (by decide) rfl dT (fun m hm => by
      subst hm
      show 1 ≤ _ ∧ _ ≤ 6
      split <;> omega)) fun H8 l8 h8 st8 => ?_
    have dG : ∀ {σ : L2.St} {G : Hp}, PotAt G a → σ[0]? = some (some (.ref a)) → DrawN (tOp (rI0 fun i j => .int (i + j)) (tC (.int 1)) (tOp (rI CMul fun i j => .int (i * j)) (tC (.int 5)) (tCall sp_Ldraw [] E0 (tCons (tVar 0) (tCons (tC (.int 2)) tNil))))) σ G a (fun m => 1 ≤ m ∧ m ≤ 6) := fun {σ G} hp hs G1 e1 Q q =>
      op_raw (ev_raw ev_c fun G2 e2 => op_raw (ev_raw ev_c fun G3 e3 => dr (n := 2) (ea_cons (ev_var hs) (ea_cons (ev_is ev_c rfl) ea_nil)) (((hp.ex e1).ex e2).ex e3) (by omega) (by omega) fun G4 j x4 p4 hj => (rv_I (.inl ⟨by omega, by omega⟩)) G4 (Ex.refl _) _ fun G5 e5 => rv_I0 G5 (Ex.refl _) _ fun G6 e6 => by
        have vn : (.int (1 + 5 * ((j : Nat) : Int)) : V) = nV (1 + 5 * j) := by
          show V.int _ = V.int _
          congr 1
        rw [vn]
        exact q G6 _ (((((ExB.of e2).trans (ExB.of e3)).trans x4).trans (ExB.of e5)).trans (ExB.of e6)) ((p4.ex e5).ex e6) ⟨by omega, by omega⟩))
    refine q_part (p := .give) st8 rfl (by decide) (by decide) (pick_menu st8.p rfl (by decide) rfl (dG st8.p rfl) (fun m hm => hm)) fun H9 l9 h9 st9 => ?_
    refine q_part (p := .lift) st9 rfl (by decide) (by decide) (pick_menu st9.p rfl (by decide) rfl (dG st9.p rfl) (fun m hm => hm)) fun H10 l10 h10 st10 => ?_
    have em : EvPt K (tTupX tNil) [some (.ref a), some (nV i), some (nV n), some (.ref d), none] H10 a .move (fun m => m.move = []) := fun G1 e1 Q q => (er_row (K := K) (us := []) ea_nil (by decide)) G1 (Ex.refl G1) Q fun b G2 e2 hb => q G2 (.ref b) ⟨[], [], [], [], .undo, true, [], 1, true⟩ (ExB.of e2) ((st10.p.ex e1).ex e2) ⟨b, rfl, hb⟩ rfl
    refine q_part (p := .move) st10 rfl (by decide) (by decide) em fun H11 l11 h11 st11 => ?_
    obtain ⟨m8, e8, r8⟩ := h8
    obtain ⟨m9, e9, r9⟩ := h9
    obtain ⟨m10, e10, r10⟩ := h10
    have h11' : RowOk l11.move ∧ pMove l11.move = true ∧ pShared l11.move b = true := by
      rw [h11]
      exact empty_move b
    have ok := Ok.mk (r := (((((((Ru.mk [] [] [] [] u b [] 1 true).upd l5 .batch).upd l6 .settles).upd l7 .holds).upd l8 .take).upd l9 .give).upd l10 .lift).upd l11 .move) (take_menu e8 r8) (give_menu r9) h11' (lift_menu r10) hu h7 h5
    have fin : ∀ {G : Hp} {r : Ru} {D : Ends}, D.rt = Q → Sta K a d ruleKs r H G → Ok r → tRet (tVar 3) D [some (.ref a), some (nV i), some (nV n), some (.ref d), none] G := fun hD st ok => s_ret (ev_var rfl) fun Hf ef => by
      rw [hD]
      exact q Hf d _ (st.x.trans (ExB.of ef)) (st.p.ex ef) hd (st.d.ex ef) ok
    refine q_when (et_test (ev_op (ev_var rfl) ev_c rv_I0)) (fun _ H12 e12 => ?_) fun _ H12 e12 => fin rfl (st11.ex (ExB.of e12) (st11.p.ex e12)) ok
    have st12 := st11.ex (ExB.of e12) (st11.p.ex e12)
    have dM : DrawN (tIf (tAnd (tTest (tOp rEq (tVar 1) (tC (.int 2)))) (tB (tDGet (tVar 3) (tC (.str Pt.shared.s))))) (tC (.int 18)) (tC (.int 11))) [some (.ref a), some (nV i), some (nV n), some (.ref d), none] H12 a (fun m => (m = 18 ∧ b = true) ∨ m = 11) := fun G1 e1 Q q =>
      if_raw ((et_and (a := decide (i = 2)) (b := b) (et_test (ev_is (ev_op (ev_var rfl) ev_c (rv_eq rfl)) (congrArg V.bl (nV_eq i 2)))) fun _ => et_B (ev_pS rfl (st12.d.ex e1) (by decide))) G1 (Ex.refl G1) _ fun G2 e2 => by
        have p2 := (st12.p.ex e1).ex e2
        cases hc : (decide (i = 2) && b) with
        | true =>
          rw [Bool.and_eq_true] at hc
          rw [if_pos rfl]
          exact q G2 18 (ExB.of e2) p2 (.inl ⟨rfl, hc.2⟩)
        | false =>
          rw [if_neg Bool.false_ne_true]
          exact q G2 11 (ExB.of e2) p2 (.inr rfl))
    refine s_over (p := .move) st12 rfl (by decide) (by decide) (fun H1 => ev_lp rfl) (pick_menu st12.p rfl (by decide) rfl dM (fun m hm => by
      show 1 ≤ m ∧ m ≤ 18
      rcases hm with ⟨e, _⟩ | e <;> omega)) fun H13 l13 h13 st13 => ?_
    obtain ⟨m13, e13, r13⟩ := h13
    dsimp only
    refine fin rfl st13 ?_
    exact Ok.mk (take_menu e8 r8) (give_menu r9) (move_menu e13 r13) (lift_menu r10) hu h7 h5
end
end My
namespace My
open PySem PySem.Spec PyProof.Rows L2 GL Evl StX SkE
/-! ### what a book tells; forms -/
def pLB (us : Rw) : Bool := decide (Wd.look ∈ us) && (decide (Wd.add ∈ us) && decide (us.idxOf .add < us.idxOf .look))
def addKs (r : Ru) : List Pt := [Pt.take, .move].filter fun p => decide (Wd.add ∈ rowPt p r)
def pEnd (r : Ru) (p : Pt) : Bool := !decide (Wd.look ∈ rowPt p r) || (pLB (rowPt p r) && decide (r.fails = .leave))
def pKind (r : Ru) (b : Bool) : Option Pt := (addKs r).find? fun p => pLB (rowPt p r) == b
def optV : Option Pt → V
  | none => .non
  | some p => pV p
def pNum (r : Ru) : Option Pt → Nat
  | none => 0
  | some p => if p = .take then r.batch else 1
def pForm (r : Ru) : Option (Nat × Nat) := if (addKs r).any (pEnd r) = true then none else some (pNum r (pKind r false), pNum r (pKind r true))
def FormAt (K : PySem.W.Frag) (H : Hp) (v : V) : Option (Nat × Nat) → Prop
  | none => v = .non
  | some (l, e) => ∃ a, v = .ref a ∧ SqT K H a [nV l, nV e]
def pMost (o : Option (Nat × Nat)) (m : Int) : V := match o with
  | none => .non
  | some (l, e) => .int ((m - 1) * (l : Int) + m * (e : Int))
def sp_ckind : Sp := fun vs H Q _ => ∃ k : Wd, vs = [wV k] ∧ k ∈ kindRows ∧ RetV .non H Q
def sp_BrowF (K : PySem.W.Frag) (C : Addr) : Sp := fun vs H Q _ => ∃ b dx d p, ∃ f : Pt → V, vs = [.ref b, pV p] ∧ p ∈ rowPs ∧ H b = some (.ins C dx (bf d)) ∧ H d = some (.dK (kvs bookKs f)) ∧ RetV (f p) H Q
def sp_Bpart (p : Pt) (C : Addr) : Sp := fun vs H Q _ => ∃ b dx d, ∃ f : Pt → V, vs = [.ref b] ∧ H b = some (.ins C dx (bf d)) ∧ H d = some (.dK (kvs bookKs f)) ∧ RetV (f p) H Q
def sp_lookb (K : PySem.W.Frag) : Sp := fun vs H Q _ => ∃ a us, vs = [.ref a] ∧ RowX K H a us ∧ RetV (.bl (pLB us)) H Q
def sp_kta (K : PySem.W.Frag) (C : Addr) : Sp := fun vs H Q _ => ∃ b r, vs = [.ref b] ∧ BookAt K C H b r ∧ RetL ((addKs r).map pV) H Q
def sp_isend (K : PySem.W.Frag) (C : Addr) : Sp := fun vs H Q _ => ∃ b r p, vs = [.ref b, pV p] ∧ p ∈ rowPs ∧ BookAt K C H b r ∧ RetV (.bl (pEnd r p)) H Q
def sp_ktl (K : PySem.W.Frag) (C : Addr) : Sp := fun vs H Q _ => ∃ b r c, vs = [.ref b, .bl c] ∧ BookAt K C H b r ∧ RetV (optV (pKind r c)) H Q
def sp_num (K : PySem.W.Frag) (C : Addr) : Sp := fun vs H Q _ => ∃ b r o, vs = [.ref b, optV o] ∧ BookAt K C H b r ∧ RetV (nV (pNum r o)) H Q
def sp_form (K : PySem.W.Frag) (C : Addr) : Sp := fun vs H Q _ => ∃ b r, vs = [.ref b] ∧ BookAt K C H b r ∧ ∀ H' v, Ex H H' → FormAt K H' v (pForm r) → Q v H'
def sp_chands : Sp := fun vs H Q _ => ∃ m : Int, vs = [.int m] ∧ 1 ≤ m ∧ RetV .non H Q
def sp_most (K : PySem.W.Frag) (C : Addr) : Sp := fun vs H Q _ => ∃ b r, ∃ m : Int, vs = [.ref b, .int m] ∧ 1 ≤ m ∧ BookAt K C H b r ∧ RetV (pMost (pForm r) m) H Q
theorem pNum_le {r : Ru} (ok : Ok r) (o : Option Pt) : pNum r o ≤ 50 := by
  cases o with
  | none => exact Nat.zero_le _
  | some p =>
    show (if p = .take then r.batch else 1) ≤ 50
    have := ok.b.2
    split <;> omega
theorem pForm_le {r : Ru} (ok : Ok r) {l e : Nat} (h : pForm r = some (l, e)) : l ≤ 50 ∧ e ≤ 50 := by
  unfold pForm at h
  split at h
  · cases h
  · have h := Option.some.inj h
    have h1 : pNum r (pKind r false) = l := congrArg Prod.fst h
    have h2 : pNum r (pKind r true) = e := congrArg Prod.snd h
    rw [← h1, ← h2]
    exact ⟨pNum_le ok _, pNum_le ok _⟩
theorem addKs_sub {r : Ru} {p : Pt} (h : p ∈ addKs r) : p ∈ rowPs := by
  have := (List.mem_filter.mp h).1
  simp only [List.mem_cons, List.not_mem_nil, or_false] at this
  rcases this with rfl | rfl <;> decide
theorem addKs_len (r : Ru) : (addKs r).length ≤ 2 := List.length_filter_le _ _
section
variable {P : Program} {w : World} {K : PySem.W.Frag} {mg : Str → Option Value} {base : Heap} {C : Addr} {H H' H0 H1 : Hp} {σ : L2.St} {te tb ta tc : TE} {tt : TT} {tA : TA} {E Er : XK} {D : Ends} {tz : TS} {a b d : Addr} {us : Rw} {xs ys : List V} {rs qs : List Rw} {ks : List Pt} {r l : Ru} {p : Pt} {v : V} {Q : VK} {o : Option (Nat × Nat)}
theorem cr_or {X : Cx} {v : Value} {r1 r2 : List V → Hp → VK → Prop} (h1 : CallR X v r1) (h2 : CallR X v r2) : CallR X v fun xs H Q => r1 xs H Q ∨ r2 xs H Q := fun pins s σ H xs us Q I r h => h.elim (h1 pins s σ H xs us Q I r) (h2 pins s σ H xs us Q I r)
theorem FormAt.ex (h : FormAt K H v o) (e : Ex H H') : FormAt K H' v o := by
  cases o with
  | none => exact h
  | some z =>
    obtain ⟨a, rfl, h⟩ := h
    exact ⟨a, rfl, ex_t e h⟩
/-- b.row(p) -/
theorem book_row (hb : BookAt K C H b r) (hp : p ∈ rowPs) : ∃ a, RowX K H a (rowPt p r) ∧ ∀ {ta tb : TE} {σ : L2.St} {H' : Hp} {Er : XK}, Ex H H' → Ev ta σ H' (.ref b) → Ev tb σ H' (pV p) → Ev (tMeth C (Str.ofString "row") (sp_BrowF K C) [] Er ta (tCons tb tNil)) σ H' (.ref a) := by
  obtain ⟨dx, d, pb⟩ := id hb
  obtain ⟨f, hf, hfv⟩ := pb.di
  have e2 : ∃ a, f p = .ref a ∧ RowX K H a (rowPt p r) := by
    have h := hfv p (bookKs_mem p)
    simp only [rowPs, List.mem_cons, List.not_mem_nil, or_false] at hp
    rcases hp with rfl | rfl | rfl | rfl <;> exact h
  obtain ⟨a, ha, rx⟩ := e2
  exact ⟨a, rx, fun e h1 h2 => ev_meth h1 (e _ _ pb.ob) (bf_no d (by decide +kernel)) (ea_cons h2 ea_nil) fun H1 e1 Q q _ => ⟨b, dx, d, p, f, rfl, hp, e1 _ _ (e _ _ pb.ob), e1 _ _ (e _ _ hf), by rw [ha]; exact q⟩⟩
theorem book_part (hb : BookAt K C H b r) (p : Pt) : ∃ v, (r.get p).At K H v ∧ ∀ {te : TE} {σ : L2.St} {H' : Hp} {Er : XK}, Ex H H' → Ev te σ H' (.ref b) → Ev (tProp C (sp_Bpart p C) [] Er te) σ H' v := by
  obtain ⟨dx, d, pb⟩ := id hb
  obtain ⟨f, hf, hfv⟩ := pb.di
  exact ⟨f p, hfv p (bookKs_mem p), fun e h H1 e1 Q q => h H1 e1 _ fun H2 e2 => ⟨b, dx, bf d, rfl, e2 _ _ (e1 _ _ (e _ _ pb.ob)), b, dx, d, f, rfl, e2 _ _ (e1 _ _ (e _ _ pb.ob)), e2 _ _ (e1 _ _ (e _ _ hf)), fun H3 e3 => q H3 (e2.trans e3)⟩⟩
theorem sv_lookb (h : RowX K H a us) : SpV (sp_lookb K) [.ref a] H (.bl (pLB us)) := fun _ e _ q _ => ⟨a, us, rfl, h.ex e, q⟩
theorem ok_check_row_kind (T : Txt K mg w) (G_is_word : FnG P w K mg base CX0 1 T.f_is_word T.fd_is_word ["value", "words"] (sp_isword K)) : FnG P w K mg base CX0 2 T.f_check_row_kind T.fd_check_row_kind ["value"] sp_ckind := by
  refine okG T.F_check_row_kind sc_check_row_kind (fun vs H Q E h => ?_) (fun cdv A outer s H vs Q E gd hr h => ?_)
  · obtain ⟨_, rfl, _⟩ := h
    all_goals rfl
  · obtain ⟨k, rfl, hk, q⟩ := h
    refine ⟨_, (pss_one (ps_if (pt_not (pt_val (pc gd G_is_word (hr.mono (by decide)) (by rfl) T.m_is_word T.F_is_word.kp T.b_is_word .nil pass0 (pa_cons (pv 0) (pa_cons (pe_glob (v := .ref T.g_ROW_KINDS) (by rfl) T.m_ROW_KINDS rfl) pa_nil))))) (pss_one ps_never) pss_nil)), ?_⟩
    exact s_when (b := false) (et_not (et_B (ev_is (ev_call (ea_cons (ev_var rfl) (ea_cons ev_c ea_nil)) (show SpV (sp_isword K) [wV k, .ref T.g_ROW_KINDS] H (.bl (decide (k ∈ kindRows))) from fun _ e _ q _ => ⟨k, _, kindRows, rfl, T.s_ROW_KINDS _, q⟩)) (cbl (decide_eq_true hk))))) (fun z => nomatch z) fun _ H1 e1 => q H1 e1
theorem ok_Brow (T : Txt K mg w) (G_check_row_kind : FnG P w K mg base CX0 2 T.f_check_row_kind T.fd_check_row_kind ["value"] sp_ckind) : FnG P w K mg base CX0 3 T.f_Brow T.fd_Brow ["self", "kind"] (sp_BrowF K T.C) := by
  refine okG T.F_Brow sc_Brow (fun vs H Q E h => ?_) (fun cdv A outer s H vs Q E gd hr h => ?_)
  · obtain ⟨_, _, _, _, _, rfl, _⟩ := h
    all_goals rfl
  · obtain ⟨b, dx, d, p, f, rfl, hp, hb, hd, q⟩ := h
    refine ⟨_, (pss_cons (ps_expr (pc gd G_check_row_kind (hr.mono (by decide)) (by rfl) T.m_check_row_kind T.F_check_row_kind.kp T.b_check_row_kind .nil pass0 (pa_cons (pv 1) pa_nil))) (pss_one (ps_ret (pe_dget (hu_of hr) (pe_fld (pv 0) rfl) (pv 1) (fun _ _ => rfl))))), ?_⟩
    obtain ⟨k, hk, ek⟩ : ∃ k, k ∈ kindRows ∧ pV p = wV k := by
      simp only [rowPs, List.mem_cons, List.not_mem_nil, or_false] at hp
      rcases hp with rfl | rfl | rfl | rfl
      · exact ⟨.take, by decide, rfl⟩
      · exact ⟨.give, by decide, rfl⟩
      · exact ⟨.move, by decide, rfl⟩
      · exact ⟨.lift, by decide, rfl⟩
    refine q_dropR ⟨_, rfl, k, by rw [ek]; rfl, hk, fun H1 e1 => ?_⟩
    exact s_ret (ev_getK (ev_fld (ev_var (v := .ref b) rfl) (e1 _ _ hb) T.c_Book T.n_parts (bf_parts d)) (ev_var rfl) (e1 _ _ hd) (bookKs_mem p)) fun H2 e2 => q H2 (e1.trans e2)
theorem ok_Bfails (T : Txt K mg w)  : FnG P w K mg base CX0 1 T.f_Bfails T.fd_Bfails ["self"] (sp_Bpart .fails T.C) := by
  refine okG T.F_Bfails sc_Bfails (fun vs H Q E h => ?_) (fun cdv A outer s H vs Q E gd hr h => ?_)
  · obtain ⟨_, _, _, _, rfl, _⟩ := h
    all_goals rfl
  · obtain ⟨b, dx, d, f, rfl, hb, hd, q⟩ := h
    refine ⟨_, (pss_one (ps_ret (pe_dget (hu_of hr) (pe_fld (pv 0) rfl) pe_str (fun _ _ => rfl)))), ?_⟩
    exact s_ret (ev_get (p := .fails) (ev_fld (ev_var (v := .ref b) rfl) hb T.c_Book T.n_parts (bf_parts d)) hd (bookKs_mem _)) q
theorem ok_Bbatch (T : Txt K mg w)  : FnG P w K mg base CX0 1 T.f_Bbatch T.fd_Bbatch ["self"] (sp_Bpart .batch T.C) := by
  refine okG T.F_Bbatch sc_Bbatch (fun vs H Q E h => ?_) (fun cdv A outer s H vs Q E gd hr h => ?_)
  · obtain ⟨_, _, _, _, rfl, _⟩ := h
    all_goals rfl
  · obtain ⟨b, dx, d, f, rfl, hb, hd, q⟩ := h
    refine ⟨_, (pss_one (ps_ret (pe_dget (hu_of hr) (pe_fld (pv 0) rfl) pe_str (fun _ _ => rfl)))), ?_⟩
    exact s_ret (ev_get (p := .batch) (ev_fld (ev_var (v := .ref b) rfl) hb T.c_Book T.n_parts (bf_parts d)) hd (bookKs_mem _)) q
theorem ok_look_is_behind (T : Txt K mg w)  : FnG P w K mg base CX0 1 T.f_look_is_behind T.fd_look_is_behind ["row"] (sp_lookb K) := by
  refine okG T.F_look_is_behind sc_look_is_behind (fun vs H Q E h => ?_) (fun cdv A outer s H vs Q E gd hr h => ?_)
  · obtain ⟨_, _, rfl, _⟩ := h
    all_goals rfl
  · obtain ⟨a, us, rfl, ra, q⟩ := h
    refine ⟨_, (pss_one (ps_ret (pe_and (pe_cmpR op_in_seq pe_str (pv 0) (by rfl)) (pe_and (pe_cmpR op_in_seq pe_str (pv 0) (by rfl)) (pe_one (pe_cmpR op_gt (pe_bmX PySem.F.slot_tuple_index PySem.F.type_tuple_index mt_tup_index (pv 0) (pa_cons pe_str pa_nil)) (pe_bmX PySem.F.slot_tuple_index PySem.F.type_tuple_index mt_tup_index (pv 0) (pa_cons pe_str pa_nil)) (nomark _))))))), ?_⟩
    exact s_ret (ev_is (ev_andV (ev_inL (w0 := .look) rfl (ev_var rfl) ra) fun h1 => ev_andV (ev_inL (w0 := .add) rfl (ev_var rfl) ra) fun h2 => ev_is (ev_op (ev_idx (ev_var rfl) (ev_lit rfl) ra (of_decide_eq_true h1)) (ev_idx (ev_var rfl) (ev_lit rfl) ra (of_decide_eq_true h2)) rv_I0) (cbl (b := decide (us.idxOf .add < us.idxOf .look)) (decide_eq_decide.mpr (by omega)))) rfl) q
theorem m_item {α : Type} {l : List α} {h : α → V} {i : Nat} {x : V} (hx : (l.map h)[i]? = some x) : ∃ u, l[i]? = some u ∧ x = h u ∧ u ∈ l := by
  rw [List.getElem?_map] at hx
  obtain ⟨u, hu, rfl⟩ := Option.map_eq_some_iff.mp hx
  exact ⟨u, hu, rfl, List.mem_of_getElem? hu⟩
theorem el_lcTM {α : Type} {tl : TE} {t : TT} {j : Nat} {vs : List Nat} (l : List α) (h : α → V) (p : α → Bool) (g : α → V) (hv : Ev tl σ H (.ref a)) (hx : SqT K H a (l.map h)) (hz : l.length ≤ 1000) (hw : ∀ x, wipe ((wipe σ vs).set j (some x)) vs = wipe σ vs)
    (ht : ∀ u H1, Ex H H1 → u ∈ l → EvT t ((wipe σ vs).set j (some (h u))) H1 (p u)) (he : ∀ u H1, Ex H H1 → u ∈ l → p u = true → Ev te ((wipe σ vs).set j (some (h u))) H1 (g u)) :
    EvL (tLc (iTup K tl) (gName j) t te vs) σ H ((l.filter p).map g) := by
  refine el_is (el_lcT (fun i => (l[i]?.map p).getD false) (fun i => (l[i]?.map g).getD .non) hv hx (by rw [List.length_map]; omega) hw (fun i x H1 e1 hi => ?_) (fun i x H1 e1 hi hp => ?_)) (by rw [List.length_map]; exact given_of l p g)
  · obtain ⟨u, hu, rfl, m⟩ := m_item hi
    rw [hu]
    exact ht u H1 e1 m
  · obtain ⟨u, hu, rfl, m⟩ := m_item hi
    rw [hu] at hp ⊢
    exact he u H1 e1 m hp
theorem el_lcNM {α : Type} {tl : TE} {t : TT} {j : Nat} {vs : List Nat} (l : List α) (h : α → V) (p : α → Bool) (g : α → V) (hv : EvL tl σ H (l.map h)) (hz : l.length ≤ 1000) (hw : ∀ x, wipe ((wipe σ vs).set j (some x)) vs = wipe σ vs)
    (ht : ∀ u H1, Ex H H1 → u ∈ l → EvT t ((wipe σ vs).set j (some (h u))) H1 (p u)) (he : ∀ u H1, Ex H H1 → u ∈ l → p u = true → Ev te ((wipe σ vs).set j (some (h u))) H1 (g u)) :
    EvL (tLc (iList K tl) (gName j) t te vs) σ H ((l.filter p).map g) := by
  refine el_is (el_lcNL (fun i => (l[i]?.map p).getD false) (fun i => (l[i]?.map g).getD .non) hv (by rw [List.length_map]; omega) hw (fun i x H1 e1 hi => ?_) (fun i x H1 e1 hi hp => ?_)) (by rw [List.length_map]; exact given_of l p g)
  · obtain ⟨u, hu, rfl, m⟩ := m_item hi
    rw [hu]
    exact ht u H1 e1 m
  · obtain ⟨u, hu, rfl, m⟩ := m_item hi
    rw [hu] at hp ⊢
    exact he u H1 e1 m hp
/-- over a tuple that is made on the spot -/
theorem el_lcTX {t : TT} {g : TG} {vs : List Nat} {zs : List V} (h : EvA tA σ H ys) (hl : ys.length ≤ 1000) (k : ∀ p H1, Ex H H1 → SqT K H1 p ys → EvL (tLc (iTup K (tC (.ref p))) g t te vs) σ H1 zs) : EvL (tLc (iTup K (tTupX tA)) g t te vs) σ H zs := fun H1 e Q q =>
  h H1 e _ fun H2 e2 => ⟨by rw [sizeLine_eq]; omega, fun p o hp bo => k p _ ((e.trans e2).trans (Ex.new hp)) (.inl (.inr ⟨o, upd_same⟩)) _ (Ex.refl _) Q fun r H3 hr e3 h3 => q r H3 (fresh_back (e2.trans (Ex.new hp)) hr) ((e2.trans (Ex.new hp)).trans e3) h3⟩
theorem rv_isN {x : V} {b : Bool} (h : decide (x = V.non) = b) : RV (fun x y H Q => y = V.non ∧ Q (.bl (decide (x = .non))) H) x .non H (.bl b) := fun H1 _ Q q => ⟨rfl, by
  rw [h]
  exact q H1 (Ex.refl H1)⟩
theorem ok_kinds_that_add (T : Txt K mg w) (G_Brow : FnG P w K mg base CX0 3 T.f_Brow T.fd_Brow ["self", "kind"] (sp_BrowF K T.C)) : FnG P w K mg base CX0 4 T.f_kinds_that_add T.fd_kinds_that_add ["book"] (sp_kta K T.C) := by
  refine okG T.F_kinds_that_add sc_kinds_that_add (fun vs H Q E h => ?_) (fun cdv A outer s H vs Q E gd hr h => ?_)
  · obtain ⟨_, _, rfl, _⟩ := h
    all_goals rfl
  · obtain ⟨b, r, rfl, hb, q⟩ := h
    refine ⟨_, (pss_one (ps_ret (pe_lc (own := [("kind", 1)]) (g := gName 1) rfl sc_kinds_that_add.nd (pi_tup (pe_tupX (pa_cons pe_str (pa_cons pe_str pa_nil)))) (blkOk_by (N := N_kinds_that_add) (sc := defScope s_kinds_that_add) (by decide +kernel)) (fun _ _ _ _ _ => (pg_name (i := 1) sc_kinds_that_add.nd rfl (Or.inl rfl) (Or.inr rfl))) (fun _ _ _ _ _ => pts_one (pt_cmpR (show OpR _ (compareOp .In) (rIn K false) from op_in_seq) pe_str (pm gd (pv 0) T.c_Book T.M_Brow G_Brow (hr.mono (by decide)) T.b_Brow .nil pass0 (pa_cons (pv 1) pa_nil)) (by rfl))) (fun _ _ _ _ _ => (pv 1))))), ?_⟩
    refine s_retL (el_lcTX (ys := [Pt.take, .move].map pV) (ea_cons (ev_lp (p := .take) rfl) (ea_cons (ev_lp (p := .move) rfl) ea_nil)) (by decide) fun z H1 e1 hz => el_lcTM [Pt.take, .move] pV (fun p => decide (Wd.add ∈ rowPt p r)) pV ev_c hz (by decide) (fun _ => rfl) (fun p H2 e2 hp => ?_) (fun p H2 e2 hp _ => ev_var rfl)) q
    have hp' : p ∈ rowPs := by
      simp only [List.mem_cons, List.not_mem_nil, or_false] at hp
      rcases hp with rfl | rfl <;> decide
    obtain ⟨a, ra, hrow⟩ := book_row hb hp'
    exact et_test (ev_inL (w0 := .add) rfl (hrow (e1.trans e2) (ev_var rfl) (ev_var rfl)) (ra.ex (e1.trans e2)))
theorem ok_is_endless (T : Txt K mg w) (G_Brow : FnG P w K mg base CX0 3 T.f_Brow T.fd_Brow ["self", "kind"] (sp_BrowF K T.C)) (G_look_is_behind : FnG P w K mg base CX0 1 T.f_look_is_behind T.fd_look_is_behind ["row"] (sp_lookb K)) (G_Bfails : FnG P w K mg base CX0 1 T.f_Bfails T.fd_Bfails ["self"] (sp_Bpart .fails T.C)) : FnG P w K mg base CX0 4 T.f_is_endless T.fd_is_endless ["book", "kind"] (sp_isend K T.C) := by
  refine okG T.F_is_endless sc_is_endless (fun vs H Q E h => ?_) (fun cdv A outer s H vs Q E gd hr h => ?_)
  · obtain ⟨_, _, _, rfl, _⟩ := h
    all_goals rfl
  · obtain ⟨b, r, p, rfl, hp, hb, q⟩ := h
    refine ⟨_, (pss_cons (ps_set (i := 2) sc_is_endless.nd rfl (Or.inl rfl) (pm gd (pv 0) T.c_Book T.M_Brow G_Brow (hr.mono (by decide)) T.b_Brow .nil pass0 (pa_cons (pv 1) pa_nil))) (pss_one (ps_ret (pe_or (pe_cmpR op_notIn_seq pe_str (pv 2) (by rfl)) (pe_one (pe_and (pc gd G_look_is_behind (hr.mono (by decide)) (by rfl) T.m_look_is_behind T.F_look_is_behind.kp T.b_look_is_behind .nil pass0 (pa_cons (pv 2) pa_nil)) (pe_one (pe_cmpR op_eq (pgP gd (pv 0) T.c_Book T.P_Bfails G_Bfails (hr.mono (by decide)) T.b_Bfails .nil pass0) pe_str (nomark _))))))))), ?_⟩
    obtain ⟨a, ra, hrow⟩ := book_row hb hp
    refine q_asg (hrow (Ex.refl H) (ev_var rfl) (ev_var rfl)) fun H1 e1 => ?_
    obtain ⟨v, hv, hpart⟩ := book_part hb .fails
    have ev : v = wV r.fails := hv
    subst ev
    have ra1 := ra.ex e1
    exact s_ret (ev_orV (ev_niL (w0 := .look) rfl (ev_var rfl) ra1) fun _ => ev_andV (ev_call (ea_cons (ev_var rfl) ea_nil) (sv_lookb ra1)) fun _ => ev_is (ev_op (hpart e1 (ev_var rfl)) (ev_lit (w0 := .leave) rfl) (rv_eq rfl)) (cbl (wV_eq r.fails .leave))) fun H2 e2 => q H2 (e1.trans e2)
theorem ok_number_of (T : Txt K mg w) (G_Bbatch : FnG P w K mg base CX0 1 T.f_Bbatch T.fd_Bbatch ["self"] (sp_Bpart .batch T.C)) : FnG P w K mg base CX0 3 T.f_number_of T.fd_number_of ["book", "kind"] (sp_num K T.C) := by
  refine okG T.F_number_of sc_number_of (fun vs H Q E h => ?_) (fun cdv A outer s H vs Q E gd hr h => ?_)
  · obtain ⟨_, _, _, rfl, _⟩ := h
    all_goals rfl
  · obtain ⟨b, r, o, rfl, hb, q⟩ := h
    refine ⟨_, (pss_cons (ps_if (pt_cmpR op_isN (pv 1) pe_non (nomark _)) (pss_one (ps_ret pe_int)) pss_nil) (pss_one (ps_ret (pe_ifExp (pt_cmpR op_eq (pv 1) pe_str (nomark _)) (pgP gd (pv 0) T.c_Book T.P_Bbatch G_Bbatch (hr.mono (by decide)) T.b_Bbatch .nil pass0) pe_int)))), ?_⟩
    cases o with
    | none => exact q_when (b := true) (et_test (ev_op (ev_var rfl) ev_c (rv_isN rfl))) (fun _ H1 e1 => s_ret ev_c fun H2 e2 => q H2 (e1.trans e2)) fun z => nomatch z
    | some p =>
      refine q_when (b := false) (et_test (ev_op (ev_var rfl) ev_c (rv_isN (x := pV p) rfl))) (fun z => nomatch z) fun _ H1 e1 => ?_
      obtain ⟨v, hv, hpart⟩ := book_part hb .batch
      have ev : v = nV r.batch := hv
      subst ev
      refine s_ret (ev_is (ev_if (b := decide (p = .take)) (v := nV (pNum r (some p))) (et_test (ev_is (ev_op (ev_var (v := pV p) rfl) (ev_lp (p := .take) rfl) (rv_eq rfl)) (cbl (pV_eq p .take)))) (fun hb' => ev_is (hpart e1 (ev_var rfl)) ?_) (fun hb' => ev_is ev_c ?_)) rfl) fun H2 e2 => q H2 (e1.trans e2)
      · show nV r.batch = nV (if p = .take then r.batch else 1)
        rw [if_pos (of_decide_eq_true hb')]
      · show V.int 1 = nV (if p = .take then r.batch else 1)
        rw [if_neg (of_decide_eq_false hb')]
        rfl
end
end My
namespace My
open PySem PySem.Spec PyProof.Rows L2 GL Evl StX SkE
/-! ### forms, most above -/
theorem find_at {α : Type} {q : α → Bool} : ∀ {l : List α} {k : Nat} {p : α}, (∀ x ∈ l.take k, q x = false) → l[k]? = some p → q p = true → l.find? q = some p
  | x :: l, 0, p, _, h2, h3 => by
    obtain rfl := Option.some.inj h2
    rw [List.find?_cons, h3]
  | x :: l, k + 1, p, h1, h2, h3 => by
    have hx := h1 x List.mem_cons_self
    rw [List.find?_cons, hx]
    exact find_at (k := k) (fun y hy => h1 y (List.mem_cons_of_mem _ hy)) h2 h3
theorem find_none {α : Type} {q : α → Bool} {l : List α} (h : ∀ x ∈ l, q x = false) : l.find? q = none := List.find?_eq_none.mpr fun x hx => by rw [h x hx]; exact Bool.false_ne_true
section
variable {P : Program} {w : World} {K : PySem.W.Frag} {mg : Str → Option Value} {base : Heap} {C : Addr} {H H' H0 H1 : Hp} {σ : L2.St} {te tb ta tc : TE} {tt : TT} {tA : TA} {E Er : XK} {D : Ends} {tz : TS} {a b d : Addr} {us : Rw} {xs ys : List V} {rs qs : List Rw} {ks : List Pt} {r l : Ru} {p : Pt} {v : V} {Q : VK} {o : Option (Nat × Nat)}
theorem sv_ktl (hb : BookAt K C H b r) (c : Bool) : SpV (sp_ktl K C) [.ref b, .bl c] H (optV (pKind r c)) := fun _ e _ q _ => ⟨b, r, c, rfl, hb.ex e, q⟩
theorem sv_num (hb : BookAt K C H b r) (o : Option Pt) : SpV (sp_num K C) [.ref b, optV o] H (nV (pNum r o)) := fun _ e _ q _ => ⟨b, r, o, rfl, hb.ex e, q⟩
theorem sv_isend (hb : BookAt K C H b r) (hp : p ∈ rowPs) : SpV (sp_isend K C) [.ref b, pV p] H (.bl (pEnd r p)) := fun _ e _ q _ => ⟨b, r, p, rfl, hp, hb.ex e, q⟩
theorem el_kta {Er : XK} (hb : BookAt K C H b r) (h : Ev te σ H (.ref b)) : EvL (tCall (sp_kta K C) [] Er (tCons te tNil)) σ H ((addKs r).map pV) := el_call (ea_cons h ea_nil) fun _ e _ q _ => ⟨b, r, rfl, hb.ex e, fun p H2 hp e2 h2 => q p H2 hp e2 h2⟩
theorem ok_kind_that_looks (T : Txt K mg w) (G_kinds_that_add : FnG P w K mg base CX0 4 T.f_kinds_that_add T.fd_kinds_that_add ["book"] (sp_kta K T.C)) (G_look_is_behind : FnG P w K mg base CX0 1 T.f_look_is_behind T.fd_look_is_behind ["row"] (sp_lookb K)) (G_Brow : FnG P w K mg base CX0 3 T.f_Brow T.fd_Brow ["self", "kind"] (sp_BrowF K T.C)) : FnG P w K mg base CX0 5 T.f_kind_that_looks T.fd_kind_that_looks ["book", "behind"] (sp_ktl K T.C) := by
  refine okG T.F_kind_that_looks sc_kind_that_looks (fun vs H Q E h => ?_) (fun cdv A outer s H vs Q E gd hr h => ?_)
  · obtain ⟨_, _, _, rfl, _⟩ := h
    all_goals rfl
  · obtain ⟨b, r, c, rfl, hb, q⟩ := h
    refine ⟨_, (pss_cons (ps_for PassesOwn.never rfl (pi_list (pc gd G_kinds_that_add (hr.mono (by decide)) (by rfl) T.m_kinds_that_add T.F_kinds_that_add.kp T.b_kinds_that_add .nil pass0 (pa_cons (pv 0) pa_nil))) (pg_name (i := 2) sc_kind_that_looks.nd rfl (Or.inl rfl) (Or.inr rfl)) (pss_one (ps_if (pt_cmpR op_eq (pc gd G_look_is_behind (hr.mono (by decide)) (by rfl) T.m_look_is_behind T.F_look_is_behind.kp T.b_look_is_behind .nil pass0 (pa_cons (pm gd (pv 0) T.c_Book T.M_Brow G_Brow (hr.mono (by decide)) T.b_Brow .nil pass0 (pa_cons (pv 2) pa_nil)) pa_nil)) (pv 1) (nomark _)) (pss_one (ps_ret (pv 2))) pss_nil))) (pss_one (ps_ret pe_non))), ?_⟩
    refine q_forNL (el_kta hb (ev_var rfl)) (fun z k σ' G => ∃ x2, σ' = [some (.ref b), some (.bl c), x2] ∧ Ex H G ∧ G z = some (.lst ((addKs r).map pV)) ∧ ∀ p ∈ (addKs r).take k, (pLB (rowPt p r) == c) = false) (fun z H1 hz e1 h1 => ⟨_, rfl, e1, h1, fun _ h => absurd h List.not_mem_nil⟩) (fun z k σ' G hk h => ?_) (fun z k x σ' G hx h => ?_) fun z σ' G h => ?_
    · obtain ⟨_, _, _, h, _⟩ := h
      exact sq_of h
    · obtain ⟨x2, rfl, e, hz, hn⟩ := h
      obtain ⟨p, hp, rfl, hm⟩ := m_item hx
      obtain ⟨a, ra, hrow⟩ := book_row hb (addKs_sub hm)
      refine s_when (et_test (ev_is (ev_op (ev_call (ea_cons (hrow e (ev_var (v := .ref b) rfl) (ev_var (v := pV p) rfl)) ea_nil) (sv_lookb (ra.ex e))) (ev_var (v := .bl c) rfl) (rv_eq rfl)) (cbl (bl_eq _ _)))) (fun hb' H2 e2 => ?_) fun hb' H2 e2 => ⟨_, rfl, e.trans e2, e2 _ _ hz, fun y hy => ?_⟩
      · have hf : pKind r c = some p := find_at hn hp hb'
        dsimp only
        exact s_ret (ev_is (ev_var (v := pV p) rfl) (by rw [hf]; rfl)) fun H3 e3 => q H3 ((e.trans e2).trans e3)
      · rw [List.take_add_one, hp] at hy
        rcases List.mem_append.mp hy with hy | hy
        · exact hn y hy
        · rw [List.mem_singleton.mp hy]
          exact hb'
    · obtain ⟨x2, rfl, e, hz, hn⟩ := h
      rw [List.length_map, List.take_length] at hn
      have hf : pKind r c = none := find_none hn
      exact s_ret (ev_is ev_c (by rw [hf]; rfl)) fun H2 e2 => q H2 (e.trans e2)
theorem tupF_raw (h : tA σ H fun xs H1 => xs.length ≤ sizeLine ∧ ∀ p o, H1 p = none → Bare o → Q (.ref p) (upd H1 p (.frz o (.tup xs)))) : tTupX tA σ H Q := h
theorem ok_form (T : Txt K mg w) (G_kinds_that_add : FnG P w K mg base CX0 4 T.f_kinds_that_add T.fd_kinds_that_add ["book"] (sp_kta K T.C)) (G_is_endless : FnG P w K mg base CX0 4 T.f_is_endless T.fd_is_endless ["book", "kind"] (sp_isend K T.C)) (G_number_of : FnG P w K mg base CX0 3 T.f_number_of T.fd_number_of ["book", "kind"] (sp_num K T.C)) (G_kind_that_looks : FnG P w K mg base CX0 5 T.f_kind_that_looks T.fd_kind_that_looks ["book", "behind"] (sp_ktl K T.C)) : FnG P w K mg base CX0 6 T.f_form T.fd_form ["book"] (sp_form K T.C) := by
  refine okG T.F_form sc_form (fun vs H Q E h => ?_) (fun cdv A outer s H vs Q E gd hr h => ?_)
  · obtain ⟨_, _, rfl, _⟩ := h
    all_goals rfl
  · obtain ⟨b, r, rfl, hb, q⟩ := h
    refine ⟨_, (pss_cons (ps_if (pt_val (pe_callB (cr_any rfl) (by rfl) T.z_any (by decide +kernel) (pa_cons (pe_lc (own := [("kind", 1)]) (g := gName 1) rfl sc_form.nd (pi_list (pc gd G_kinds_that_add (hr.mono (by decide)) (by rfl) T.m_kinds_that_add T.F_kinds_that_add.kp T.b_kinds_that_add .nil pass0 (pa_cons (pv 0) pa_nil))) (blkOk_by (N := N_form) (sc := defScope s_form) (by decide +kernel)) (fun _ _ _ _ _ => (pg_name (i := 1) sc_form.nd rfl (Or.inl rfl) (Or.inr rfl))) (fun _ _ _ _ _ => pts_nil) (fun _ _ _ _ _ => (pc gd G_is_endless (hr.mono (by decide)) (by rfl) T.m_is_endless T.F_is_endless.kp T.b_is_endless .nil pass0 (pa_cons (pv 0) (pa_cons (pv 1) pa_nil))))) pa_nil))) (pss_one (ps_ret pe_non)) pss_nil) (pss_one (ps_ret (pe_tupX (pa_cons (pc gd G_number_of (hr.mono (by decide)) (by rfl) T.m_number_of T.F_number_of.kp T.b_number_of .nil pass0 (pa_cons (pv 0) (pa_cons (pc gd G_kind_that_looks (hr.mono (by decide)) (by rfl) T.m_kind_that_looks T.F_kind_that_looks.kp T.b_kind_that_looks .nil pass0 (pa_cons (pv 0) (pa_cons pe_bl pa_nil))) pa_nil))) (pa_cons (pc gd G_number_of (hr.mono (by decide)) (by rfl) T.m_number_of T.F_number_of.kp T.b_number_of .nil pass0 (pa_cons (pv 0) (pa_cons (pc gd G_kind_that_looks (hr.mono (by decide)) (by rfl) T.m_kind_that_looks T.F_kind_that_looks.kp T.b_kind_that_looks .nil pass0 (pa_cons (pv 0) (pa_cons pe_bl pa_nil))) pa_nil))) pa_nil)))))), ?_⟩
    refine q_when (b := (addKs r).any (pEnd r)) (et_B (ev_is (ev_anyB (bs := (addKs r).map (pEnd r)) (el_is (el_lcNM (addKs r) pV (fun _ => true) (fun p => .bl (pEnd r p)) (el_kta hb (ev_var rfl)) (by have := addKs_len r; omega) (fun _ => rfl) (fun p H1 e1 hp => et_yes) (fun p H1 e1 hp _ => ev_call (ea_cons (ev_var rfl) (ea_cons (ev_var rfl) ea_nil)) (sv_isend (hb.ex e1) (addKs_sub hp)))) (by rw [filter_yes, List.map_map]; rfl))) (by rw [List.any_map]; rfl))) (fun h H1 e1 => ?_) fun h H1 e1 => ?_
    · refine s_ret (v := .non) ev_c fun H2 e2 => q H2 .non (e1.trans e2) ?_
      unfold pForm
      rw [if_pos h]
      rfl
    · have hb1 := hb.ex e1
      refine s_retR (tupF_raw ((ea_cons (ev_call (ea_cons (ev_var (v := .ref b) rfl) (ea_cons (ev_call (ea_cons (ev_var (v := .ref b) rfl) (ea_cons (ev_c (v := .bl false)) ea_nil)) (sv_ktl hb1 false)) ea_nil)) (sv_num hb1 _)) (ea_cons (ev_call (ea_cons (ev_var (v := .ref b) rfl) (ea_cons (ev_call (ea_cons (ev_var (v := .ref b) rfl) (ea_cons (ev_c (v := .bl true)) ea_nil)) (sv_ktl hb1 true)) ea_nil)) (sv_num hb1 _)) ea_nil) : EvA _ _ _ [nV (pNum r (pKind r false)), nV (pNum r (pKind r true))]) H1 (Ex.refl H1) _ fun H2 e2 => ⟨(by show 2 ≤ sizeLine; decide), fun t o ht bo => ?_⟩))
      refine q _ (.ref t) ((e1.trans e2).trans (Ex.new ht)) ?_
      unfold pForm
      rw [if_neg (by rw [h]; exact Bool.false_ne_true)]
      exact ⟨t, rfl, .inl (.inr ⟨o, upd_same⟩)⟩
theorem ok_check_hands (T : Txt K mg w) (G_is_an_integer : FnG P w K mg base CX0 1 T.f_is_an_integer T.fd_is_an_integer ["value"] sp_isint) : FnG P w K mg base CX0 2 T.f_check_hands T.fd_check_hands ["value"] sp_chands := by
  refine okG T.F_check_hands sc_check_hands (fun vs H Q E h => ?_) (fun cdv A outer s H vs Q E gd hr h => ?_)
  · obtain ⟨_, rfl, _⟩ := h
    all_goals rfl
  · obtain ⟨m, rfl, hm, q⟩ := h
    refine ⟨_, (pss_one (ps_if ((pw_or (pt_not (pt_val (pc gd G_is_an_integer (hr.mono (by decide)) (by rfl) T.m_is_an_integer T.F_is_an_integer.kp T.b_is_an_integer .nil pass0 (pa_cons (pv 0) pa_nil)))) (pw_or1 (pt_cmpR op_le (pv 0) pe_int (nomark _))))).pt (pss_one ps_never) pss_nil)), ?_⟩
    exact s_when (b := false) (et_is (et_or (a := false) (b := false) (et_is (et_not (et_B (ev_call (ea_cons (ev_var rfl) ea_nil) (fun _ e _ q _ => ⟨m, rfl, q⟩ : SpV sp_isint [.int m] H (.bl true))))) rfl) fun _ => et_test (ev_is (ev_op (ev_var rfl) ev_c rv_I0) (cbl (decide_eq_false (by omega))))) rfl) (fun z => nomatch z) fun _ H1 e1 => q H1 e1
theorem ok_most_above (T : Txt K mg w) (G_check_hands : FnG P w K mg base CX0 2 T.f_check_hands T.fd_check_hands ["value"] sp_chands) (G_form : FnG P w K mg base CX0 6 T.f_form T.fd_form ["book"] (sp_form K T.C)) : FnG P w K mg base CX0 7 T.f_most_above T.fd_most_above ["book", "hands"] (sp_most K T.C) := by
  refine okG T.F_most_above sc_most_above (fun vs H Q E h => ?_) (fun cdv A outer s H vs Q E gd hr h => ?_)
  · obtain ⟨_, _, _, rfl, _⟩ := h
    all_goals rfl
  · obtain ⟨b, r, m, rfl, hm, hb, q⟩ := h
    refine ⟨_, (pss_cons (ps_expr (pc gd G_check_hands (hr.mono (by decide)) (by rfl) T.m_check_hands T.F_check_hands.kp T.b_check_hands .nil pass0 (pa_cons (pv 1) pa_nil))) (pss_cons (ps_set (i := 2) sc_most_above.nd rfl (Or.inl rfl) (pc gd G_form (hr.mono (by decide)) (by rfl) T.m_form T.F_form.kp T.b_form .nil pass0 (pa_cons (pv 0) pa_nil))) (pss_cons (ps_if (pt_cmpR op_isN (pv 2) pe_non (nomark _)) (pss_one (ps_ret pe_non)) pss_nil) (pss_cons (ps_asg (pv 2) (pg_tup rfl (pgs_cons (pg_name (i := 3) sc_most_above.nd rfl (Or.inl rfl) (Or.inr rfl)) (pgs_cons (pg_name (i := 4) sc_most_above.nd rfl (Or.inl rfl) (Or.inr rfl)) pgs_nil)))) (pss_one (ps_ret (pe_op op_add (pe_op op_mul (pe_op op_sub (pv 1) pe_int) (pv 3)) (pe_op op_mul (pv 1) (pv 4))))))))), ?_⟩
    refine q_drop (ev_call (ea_cons (ev_var rfl) ea_nil) (fun _ e _ q _ => ⟨m, rfl, hm, q⟩ : SpV sp_chands [.int m] H .non)) fun H1 e1 => ?_
    refine q_asgR (cons1_raw (ev_raw (ev_var (v := .ref b) rfl) fun H2 e2 => ⟨b, r, rfl, hb.ex (e1.trans e2), fun H3 v e3 hv => ?_⟩))
    have e13 := e1.trans (e2.trans e3)
    obtain ⟨dx, d, pb⟩ := id hb
    show tSeq _ _ _ [some (.ref b), some (.int m), some v, none, none] H3
    cases hf : pForm r with
    | none =>
      rw [hf] at hv q
      obtain rfl : v = .non := hv
      exact q_when (b := true) (et_test (ev_op (ev_var (v := .non) rfl) ev_c (rv_isN rfl))) (fun _ H4 e4 => s_ret ev_c fun H5 e5 => q H5 (e13.trans (e4.trans e5))) fun z => nomatch z
    | some z =>
      obtain ⟨l, e⟩ := z
      obtain ⟨l50, e50⟩ := pForm_le pb.ok hf
      rw [hf] at hv q
      obtain ⟨t, rfl, ht⟩ := hv
      refine q_when (b := false) (et_test (ev_op (ev_var (v := .ref t) rfl) ev_c (rv_isN rfl))) (fun z => nomatch z) fun _ H4 e4 => ?_
      refine q_asgR (ev_raw (ev_var (v := .ref t) rfl) fun H5 e5 => ⟨t, _, rfl, ex_t (e4.trans e5) ht, rfl, _, _, rfl, _, _, rfl, rfl, ?_⟩)
      exact s_ret (ev_op (ev_op (ev_op (ev_var (v := .int m) rfl) ev_c rv_I0) (ev_var (v := nV l) rfl) (rv_I (.inr ⟨by omega, by omega⟩))) (ev_op (ev_var (v := .int m) rfl) (ev_var (v := nV e) rfl) (rv_I (.inr ⟨by omega, by omega⟩))) rv_I0) fun H6 e6 => q H6 (e13.trans ((e4.trans e5).trans e6))
end
end My
namespace My
open PySem PySem.Spec PyProof.Rows L2 GL Evl StX SkE
/-! ### the law's own reading of a form -/
def stepF (r : Ru) (p : Pt) (n : Nat) (st : Nat × Nat) : Option (Nat × Nat) :=
  if Wd.add ∈ rowPt p r then
    if Wd.look ∈ rowPt p r then
      if (rowPt p r).idxOf .look < (rowPt p r).idxOf .add then some (max st.1 n, st.2)
      else if r.fails = .leave then none else some (st.1, max st.2 n)
    else none
  else some st
def FS (r : Ru) : Nat → Option (Nat × Nat)
  | 0 => some (0, 0)
  | 1 => stepF r .take r.batch (0, 0)
  | _ => (stepF r .take r.batch (0, 0)).bind (stepF r .move 1)
theorem row_cls (us : Rw) : (Wd.add ∉ us) ∨ (Wd.add ∈ us ∧ Wd.look ∉ us) ∨ (Wd.add ∈ us ∧ Wd.look ∈ us ∧ us.idxOf .look < us.idxOf .add ∧ ¬ us.idxOf .add < us.idxOf .look) ∨ (Wd.add ∈ us ∧ Wd.look ∈ us ∧ us.idxOf .add < us.idxOf .look ∧ ¬ us.idxOf .look < us.idxOf .add) := by
  by_cases ha : Wd.add ∈ us
  · by_cases hl : Wd.look ∈ us
    · have h1 := (idx_first ha).1
      have h2 := (idx_first hl).1
      have ne : us.idxOf .add ≠ us.idxOf .look := fun e => by
        rw [e, h2] at h1
        cases h1
      rcases Nat.lt_or_gt_of_ne ne with h | h
      · exact .inr (.inr (.inr ⟨ha, hl, h, by omega⟩))
      · exact .inr (.inr (.inl ⟨ha, hl, h, by omega⟩))
    · exact .inr (.inl ⟨ha, hl⟩)
  · exact .inl ha
theorem form_eq {r : Ru} (hb : 1 ≤ r.batch) : FS r 2 = pForm r := by
  have m1 : max 0 r.batch = r.batch := by omega
  have m2 : max r.batch 1 = r.batch := by omega
  by_cases hf : r.fails = .leave
  · rcases row_cls r.take with h | ⟨h, h2⟩ | ⟨h, h2, h3, h4⟩ | ⟨h, h2, h3, h4⟩ <;> rcases row_cls r.move with g | ⟨g, g2⟩ | ⟨g, g2, g3, g4⟩ | ⟨g, g2, g3, g4⟩ <;>
      simp [FS, stepF, pForm, addKs, pEnd, pLB, pKind, pNum, rowPt, hf, *]
  · rcases row_cls r.take with h | ⟨h, h2⟩ | ⟨h, h2, h3, h4⟩ | ⟨h, h2, h3, h4⟩ <;> rcases row_cls r.move with g | ⟨g, g2⟩ | ⟨g, g2, g3, g4⟩ | ⟨g, g2, g3, g4⟩ <;>
      simp [FS, stepF, pForm, addKs, pEnd, pLB, pKind, pNum, rowPt, hf, *]
def sp_Lform (K : PySem.W.Frag) : Sp := fun vs H Q _ => ∃ d ks r, vs = [.ref d] ∧ DictAt K H d ks r ∧ (∀ p, p ∈ ks) ∧ 1 ≤ r.batch ∧ ∀ H' v, Ex H H' → FormAt K H' v (pForm r) → Q v H'
section
variable {P : Program} {w : World} {K : PySem.W.Frag} {mg : Str → Option Value} {base : Heap} {C : Addr} {H H' H0 H1 : Hp} {σ : L2.St} {te tb ta tc : TE} {tt : TT} {tA tB : TA} {E Er : XK} {D : Ends} {tz : TS} {a b d : Addr} {us : Rw} {xs ys : List V} {rs qs : List Rw} {ks : List Pt} {r l : Ru} {p : Pt} {v : V} {Q : VK} {o : Option (Nat × Nat)}
theorem seqF_raw {tu : TS} (h : tu { D with nx := tz D } σ H) : tSeq tu tz D σ H := h
theorem il_rawF {R : It → Hp → Prop} (h : te σ H fun x H1 => ∃ a, x = .ref a ∧ (∃ xs, SqL K H1 a xs) ∧ R (Itl K a) H1) : iList K te σ H R := h
theorem two_tup {x1 y1 x2 y2 : V} (h1 : EvA tA σ H [x1, y1]) (h2 : EvA tB σ H [x2, y2]) (q : ∀ H1 p t1 t2, Ex H H1 → H1 p = some (.lst [.ref t1, .ref t2]) → SqT K H1 t1 [x1, y1] → SqT K H1 t2 [x2, y2] → Q (.ref p) H1) : tLst (tCons (tTupX tA) (tCons (tTupX tB) tNil)) σ H Q :=
  cons_rw (tupF_raw (h1 H (Ex.refl H) _ fun H1 e1 => ⟨by show 2 ≤ sizeLine; decide, fun t1 o1 ht1 _ => cons1_raw (tupF_raw (h2 _ (e1.trans (Ex.new ht1)) _ fun H2 e2 => ⟨by show 2 ≤ sizeLine; decide, fun t2 o2 ht2 _ => ⟨by show 2 ≤ sizeLine; decide, fun p hp => by
    have e3 := (Ex.new (o := .frz o2 (.tup [x2, y2])) ht2).trans (Ex.new (o := .lst [.ref t1, .ref t2]) hp)
    exact q _ p t1 t2 ((e1.trans (Ex.new ht1)).trans (e2.trans e3)) upd_same (.inl (.inr ⟨o1, (e2.trans e3) _ _ upd_same⟩)) (.inl (.inr ⟨o2, (Ex.new hp) _ _ upd_same⟩))⟩⟩))⟩))
theorem max_nat {i j : Nat} : (if ((j : Int) > (i : Int)) then (j : Int) else (i : Int)) = ((max i j : Nat) : Int) := by split <;> omega
theorem ok_Lform (T : Txt K mg w)  : FnG P w K mg base CX0 1 T.f_Lform T.fd_Lform ["_law_rules_here"] (sp_Lform K) := by
  refine okG T.F_Lform sc_Lform (fun vs H Q E h => ?_) (fun cdv A outer s H vs Q E gd hr h => ?_)
  · obtain ⟨_, _, _, rfl, _⟩ := h
    all_goals rfl
  · obtain ⟨d, ks, r, rfl, hd, hk, h1b, q⟩ := h
    refine ⟨_, (pss_cons (ps_asg (pe_tupX (pa_cons pe_int (pa_cons pe_int pa_nil))) (pg_tup rfl (pgs_cons (pg_name (i := 1) sc_Lform.nd rfl (Or.inl rfl) (Or.inr rfl)) (pgs_cons (pg_name (i := 2) sc_Lform.nd rfl (Or.inl rfl) (Or.inr rfl)) pgs_nil)))) (pss_cons (ps_for PassesOwn.never rfl (pi_list (pe_lst (pa_cons (pe_tupX (pa_cons pe_str (pa_cons (pe_dget (hu_of hr) (pv 0) pe_str (fun _ _ => rfl)) pa_nil))) (pa_cons (pe_tupX (pa_cons pe_str (pa_cons pe_int pa_nil))) pa_nil)))) (pg_tup rfl (pgs_cons (pg_name (i := 3) sc_Lform.nd rfl (Or.inl rfl) (Or.inr rfl)) (pgs_cons (pg_name (i := 4) sc_Lform.nd rfl (Or.inl rfl) (Or.inr rfl)) pgs_nil))) (pss_cons (ps_set (i := 5) sc_Lform.nd rfl (Or.inl rfl) (pe_dget (hu_of hr) (pv 0) (pv 3) (fun _ _ => rfl))) (pss_cons (ps_if ((pw_and (pt_cmpR op_in_seq pe_str (pv 5) (by rfl)) (pw_and1 (pt_cmpR op_notIn_seq pe_str (pv 5) (by rfl))))).pt (pss_one (ps_ret pe_non)) pss_nil) (pss_one (ps_if ((pw_and (pt_cmpR op_in_seq pe_str (pv 5) (by rfl)) (pw_and1 (pt_cmpR op_lt (pe_bmX PySem.F.slot_tuple_index PySem.F.type_tuple_index mt_tup_index (pv 5) (pa_cons pe_str pa_nil)) (pe_bmX PySem.F.slot_tuple_index PySem.F.type_tuple_index mt_tup_index (pv 5) (pa_cons pe_str pa_nil)) (nomark _))))).pt (pss_one (ps_set (i := 1) sc_Lform.nd rfl (Or.inl rfl) (pe_callB (call_max2 rfl) (by rfl) T.z_max boot_max (pa_cons (pv 1) (pa_cons (pv 4) pa_nil))))) (pss_one (ps_if (pt_cmpR op_in_seq pe_str (pv 5) (by rfl)) (pss_cons (ps_if (pt_cmpR op_eq (pe_dget (hu_of hr) (pv 0) pe_str (fun _ _ => rfl)) pe_str (nomark _)) (pss_one (ps_ret pe_non)) pss_nil) (pss_one (ps_set (i := 2) sc_Lform.nd rfl (Or.inl rfl) (pe_callB (call_max2 rfl) (by rfl) T.z_max boot_max (pa_cons (pv 2) (pa_cons (pv 4) pa_nil)))))) pss_nil))))))) (pss_one (ps_ret (pe_tupX (pa_cons (pv 1) (pa_cons (pv 2) pa_nil))))))), ?_⟩
    obtain ⟨f, hf, hfv⟩ := id hd
    have hbat : f .batch = nV r.batch := hfv .batch (hk _)
    have hfail : f .fails = wV r.fails := hfv .fails (hk _)
    refine q_asgR (tupF_raw ((ea_cons (ev_c (v := nV 0)) (ea_cons (ev_c (v := nV 0)) ea_nil) : EvA _ _ _ [nV 0, nV 0]) H (Ex.refl H) _ fun H1 e1 => ⟨(by show 2 ≤ sizeLine; decide), fun t o ht _ => ⟨t, _, rfl, .inl (.inr ⟨o, upd_same⟩), rfl, _, _, rfl, _, _, rfl, rfl, ?_⟩⟩))
    have e2 : Ex H (upd H1 t (.frz o (.tup [nV 0, nV 0]))) := e1.trans (Ex.new ht)
    show tSeq _ _ _ [some (.ref d), some (nV 0), some (nV 0), none, none, none] (upd H1 t (.frz o (.tup [nV 0, nV 0])))
    generalize upd H1 t (.frz o (.tup [nV 0, nV 0])) = H2 at e2
    refine seqF_raw (show iList K (tLst _) _ H2 _ from il_rawF (two_tup (K := K) (x1 := pV .take) (y1 := nV r.batch) (x2 := pV .move) (y2 := nV 1) (ea_cons (ev_lp rfl) (ea_cons (ev_is (ev_get (p := .batch) (ev_var rfl) (e2 _ _ hf) (hk _)) hbat) ea_nil)) (ea_cons (ev_lp rfl) (ea_cons (ev_is ev_c rfl) ea_nil)) fun H3 z t1 t2 e3 hz ht1 ht2 => ?_))
    have e13 := e2.trans e3
    refine (q_forL (K := K) (tl := tC (.ref z)) (a := z) (xs := [.ref t1, .ref t2]) ev_c (sq_of hz) (fun k σ' G => ∃ st x3 x4 x5, FS r k = some st ∧ σ' = [some (.ref d), some (nV st.1), some (nV st.2), x3, x4, x5] ∧ Ex H3 G) (fun G eG => ⟨(0, 0), _, _, _, rfl, rfl, eG⟩) (fun k σ' G hk' h => ?_) (fun k x σ' G hx h => ?_) (fun σ' G h => ?_) : tSeq (tFor (iList K (tC (.ref z))) _ _) _ _ _ H3)
    · obtain ⟨_, _, _, _, _, _, h⟩ := h
      exact sq_of (h _ _ hz)
    · obtain ⟨st, x3, x4, x5, hs, rfl, e⟩ := h
      obtain ⟨tt, p, n, rfl, hp, htt, hstep⟩ : ∃ tt p n, x = .ref tt ∧ p ∈ rowPs ∧ SqT K G tt [pV p, nV n] ∧ FS r (k + 1) = stepF r p n st := by
        match k, hx, hs with
        | 0, hx, hs =>
          obtain rfl := Option.some.inj hx
          obtain rfl := Option.some.inj hs
          exact ⟨t1, .take, r.batch, rfl, by decide, ex_t e ht1, rfl⟩
        | 1, hx, hs =>
          obtain rfl := Option.some.inj hx
          refine ⟨t2, .move, 1, rfl, by decide, ex_t e ht2, ?_⟩
          show (FS r 1).bind _ = _
          rw [hs]
          rfl
        | k + 2, hx, _ => exact absurd hx (by simp)
      obtain ⟨l, c⟩ := st
      refine ⟨tt, _, rfl, htt, rfl, _, _, rfl, _, _, rfl, rfl, ?_⟩
      have eG : Ex H G := e13.trans e
      obtain ⟨ra, har, rx⟩ : ∃ a, f p = .ref a ∧ RowX K H a (rowPt p r) := by
        have h := hfv p (hk p)
        simp only [rowPs, List.mem_cons, List.not_mem_nil, or_false] at hp
        rcases hp with rfl | rfl | rfl | rfl <;> exact h
      have rxG : ∀ {G' : Hp}, Ex G G' → RowX K G' ra (rowPt p r) := fun e' => rx.ex (eG.trans e')
      refine q_asg (ev_is (ev_getK (ev_var (v := .ref d) rfl) (ev_var (v := pV p) rfl) (eG _ _ hf) (hk p)) har) fun G1 g1 => ?_
      refine q_when (et_and (et_test (ev_inL (w0 := .add) rfl (ev_var (v := .ref ra) rfl) (rxG g1))) fun _ => et_test (ev_niL (w0 := .look) rfl (ev_var (v := .ref ra) rfl) (rxG g1))) (fun hb G2 g2 => ?_) fun hb G2 g2 => ?_
      · rw [Bool.and_eq_true, Bool.not_eq_true'] at hb
        have hn : FS r (k + 1) = none := by
          rw [hstep]
          unfold stepF
          rw [if_pos (of_decide_eq_true hb.1), if_neg (of_decide_eq_false hb.2)]
        have hp0 : pForm r = none := by
          rw [← form_eq h1b]
          match k, hn, hx with
          | 0, hn, _ =>
            show (FS r 1).bind _ = none
            rw [hn]
            rfl
          | 1, hn, _ => exact hn
          | k + 2, _, hx => exact absurd hx (by simp)
        exact s_ret (v := .non) ev_c fun G3 g3 => q G3 .non (eG.trans ((g1.trans g2).trans g3)) (by rw [hp0]; rfl)
      have g12 := g1.trans g2
      refine s_if (b := decide (Wd.add ∈ rowPt p r) && decide ((rowPt p r).idxOf .look < (rowPt p r).idxOf .add)) (et_and (et_test (ev_inL (w0 := .add) rfl (ev_var (v := .ref ra) rfl) (rxG g12))) fun ha => ?_) (fun hc G3 g3 => ?_) fun hc G3 g3 => ?_
      · have hlk : Wd.look ∈ rowPt p r := by
          rw [ha, Bool.true_and, Bool.not_eq_false'] at hb
          exact of_decide_eq_true hb
        exact et_test (ev_aheadI (ev_idx (ev_var (v := .ref ra) rfl) (ev_lit (w0 := .look) rfl) (rxG g12) hlk) (ev_idx (ev_var (v := .ref ra) rfl) (ev_lit (w0 := .add) rfl) (rxG g12) (of_decide_eq_true ha)))
      · rw [Bool.and_eq_true] at hc
        have ha := of_decide_eq_true hc.1
        have hlk : Wd.look ∈ rowPt p r := by
          rw [hc.1, Bool.true_and, Bool.not_eq_false'] at hb
          exact of_decide_eq_true hb
        refine s_asg (v := nV (max l n)) (ev_is (ev_cb (ea_cons (ev_var (v := nV l) rfl) (ea_cons (ev_var (v := nV n) rfl) ea_nil)) rc_max2) (congrArg V.int max_nat)) fun G4 g4 => ⟨(max l n, c), _, _, _, ?_, rfl, e.trans ((g12.trans g3).trans g4)⟩
        rw [hstep]
        unfold stepF
        rw [if_pos ha, if_pos hlk, if_pos (of_decide_eq_true hc.2)]
      · have g13 := g12.trans g3
        refine s_when (et_test (ev_inL (w0 := .add) rfl (ev_var (v := .ref ra) rfl) (rxG g13))) (fun ha' G4 g4 => ?_) fun ha' G4 g4 => ⟨(l, c), _, _, _, ?_, rfl, e.trans (g13.trans g4)⟩
        · have ha := of_decide_eq_true ha'
          have hlk : Wd.look ∈ rowPt p r := by
            rw [ha', Bool.true_and, Bool.not_eq_false'] at hb
            exact of_decide_eq_true hb
          have hni : ¬ (rowPt p r).idxOf .look < (rowPt p r).idxOf .add := by
            rw [ha', Bool.true_and] at hc
            exact of_decide_eq_false hc
          have g14 := g13.trans g4
          refine q_when (b := decide (r.fails = .leave)) (et_test (ev_is (ev_op (ev_is (ev_get (p := .fails) (ev_var (v := .ref d) rfl) ((eG.trans g14) _ _ hf) (hk _)) hfail) (ev_lit (w0 := .leave) rfl) (rv_eq rfl)) (cbl (wV_eq r.fails .leave)))) (fun hl G5 g5 => ?_) fun hl G5 g5 => ?_
          · have hn : FS r (k + 1) = none := by
              rw [hstep]
              unfold stepF
              rw [if_pos ha, if_pos hlk, if_neg hni, if_pos (of_decide_eq_true hl)]
            have hp0 : pForm r = none := by
              rw [← form_eq h1b]
              match k, hn, hx with
              | 0, hn, _ =>
                show (FS r 1).bind _ = none
                rw [hn]
                rfl
              | 1, hn, _ => exact hn
              | k + 2, _, hx => exact absurd hx (by simp)
            exact s_ret (v := .non) ev_c fun G6 g6 => q G6 .non (eG.trans (g14.trans (g5.trans g6))) (by rw [hp0]; rfl)
          · refine s_asg (v := nV (max c n)) (ev_is (ev_cb (ea_cons (ev_var (v := nV c) rfl) (ea_cons (ev_var (v := nV n) rfl) ea_nil)) rc_max2) (congrArg V.int max_nat)) fun G6 g6 => ⟨(l, max c n), _, _, _, ?_, rfl, e.trans (g14.trans (g5.trans g6))⟩
            rw [hstep]
            unfold stepF
            rw [if_pos ha, if_pos hlk, if_neg hni, if_neg (of_decide_eq_false hl)]
        · rw [hstep]
          unfold stepF
          rw [if_neg (of_decide_eq_false ha')]
    · obtain ⟨st, x3, x4, x5, hs, rfl, e⟩ := h
      have hs2 : pForm r = some st := by
        rw [← form_eq h1b]
        exact hs
      refine s_retR (tupF_raw ((ea_cons (ev_var (v := nV st.1) rfl) (ea_cons (ev_var (v := nV st.2) rfl) ea_nil) : EvA _ _ _ [nV st.1, nV st.2]) G (Ex.refl G) _ fun G1 g1 => ⟨(by show 2 ≤ sizeLine; decide), fun t o ht _ => q _ (.ref t) ((e13.trans e).trans (g1.trans (Ex.new ht))) ?_⟩))
      rw [hs2]
      exact ⟨t, rfl, .inl (.inr ⟨o, upd_same⟩)⟩
end
end My
namespace My
open PySem PySem.Spec PyProof.Rows L2 GL Evl StX SkE
/-! ### forms and numbers as they are shown -/
def dForm : Option (Nat × Nat) → PyData
  | none => .none
  | some (l, e) => .tuple [fd (nV l), fd (nV e)]
def formS : Option (Nat × Nat) → Str
  | none => "None"
  | some (l, e) => (PyData.tuple [fd (nV l), fd (nV e)]).shown
def numS : V → Str
  | .int i => toString i
  | _ => "None"
theorem sm_num2 {l e : Nat} (h1 : l ≤ 50) (h2 : e ≤ 50) : Sm (.tuple [fd (nV l), fd (nV e)]) 1 90 := by
  have ha : ∀ d ∈ [fd (nV l), fd (nV e)], Sm d 0 40 := fun d hd => by
    rcases List.mem_cons.mp hd with rfl | hd
    · exact (shrt_nat (by omega)).sm
    · rw [List.mem_singleton.mp hd]
      exact (shrt_nat (by omega)).sm
  refine ⟨?_, ?_, ?_, ?_⟩
  · simp only [PyData.showable]
    exact showableAll_of fun d hd => (ha d hd).sh
  · simp only [PyData.hasDict]
    exact hasDictAll_of fun d hd => (ha d hd).nd
  · simp only [PyData.depth]
    have := depthAll_of (ds := [fd (nV l), fd (nV e)]) (k := 0) fun d hd => (ha d hd).de
    omega
  · simp only [PyData.shown]
    have := tuple_text_len (B := 40) (ts := PyData.shownAll [fd (nV l), fd (nV e)]) fun t ht => by
      obtain ⟨d, hd, rfl⟩ := shownAll_mem ht
      exact (ha d hd).ln
    rw [shownAll_len] at this
    exact Nat.le_trans this (by show 2 * (40 + 2) + 3 ≤ 90; omega)
theorem form_shaped {o : Option (Nat × Nat)} : SeqAt.shaped (dForm o) = true := by
  cases o with
  | none => decide +kernel
  | some z =>
    obtain ⟨l, e⟩ := z
    show (PyData.canLay0 (.tuple [fd (nV l), fd (nV e)]) && decide (PyData.depth (.tuple [fd (nV l), fd (nV e)]) ≤ 64)) = true
    rw [Bool.and_eq_true]
    constructor
    · show PyData.canLay0 (.tuple [.int (l : Int), .int (e : Int)]) = true
      simp only [PyData.canLay0, PyData.canLayAll0, Bool.and_true]
    · refine decide_eq_true ?_
      show PyData.depth (.tuple [.int (l : Int), .int (e : Int)]) ≤ 64
      simp only [PyData.depth, PyData.depthAll]
      omega
theorem form_self (o : Option (Nat × Nat)) : PyData.eqv (dForm o) (dForm o) = true := by
  cases o with
  | none => decide +kernel
  | some z =>
    obtain ⟨l, e⟩ := z
    show PyData.eqv (.tuple [.int (l : Int), .int (e : Int)]) (.tuple [.int (l : Int), .int (e : Int)]) = true
    simp only [PyData.eqv, PyData.eqvAll, beq_self_eq_true, Bool.and_true]
/-- evaluates to a form -/
def EvF (K : PySem.W.Frag) (te : TE) (σ : L2.St) (H : Hp) (o : Option (Nat × Nat)) : Prop := ∀ H1, Ex H H1 → ∀ Q : VK, (∀ v H2, Ex H1 H2 → FormAt K H2 v o → Q v H2) → te σ H1 Q
def OkN (v : V) : Prop := v = .non ∨ ∃ i : Int, v = .int i ∧ i.natAbs < 2 ^ 200
section
variable {P : Program} {w : World} {K : PySem.W.Frag} {mg : Str → Option Value} {base : Heap} {C : Addr} {H H' H0 H1 : Hp} {σ : L2.St} {te tb ta tc : TE} {tt : TT} {tA tB : TA} {E Er : XK} {D : Ends} {tz : TS} {a b d : Addr} {us : Rw} {xs ys : List V} {rs qs : List Rw} {ks : List Pt} {r l : Ru} {p : Pt} {v : V} {Q : VK} {o : Option (Nat × Nat)}
theorem FormAt.dp (h : FormAt K H v o) : Dp K H v (dForm o) := by
  cases o with
  | none =>
    obtain rfl : v = .non := h
    exact .non
  | some z =>
    obtain ⟨a, rfl, h⟩ := h
    exact .tup h (.cons (fd_dp rfl) (.cons (fd_dp rfl) .nil))
theorem ef_var {i : Nat} (h : σ[i]? = some (some v)) (hv : FormAt K H v o) : EvF K (tVar i) σ H o := fun H1 e Q q => ⟨v, h, q v H1 (Ex.refl H1) (hv.ex e)⟩
theorem ef_form {Er : XK} (h : Ev te σ H (.ref b)) (hb : BookAt K C H b r) : EvF K (tCall (sp_form K C) [] Er (tCons te tNil)) σ H (pForm r) := fun H1 e Q q => cons1_raw (ev_raw (h.mono e) fun H2 e2 => ⟨b, r, rfl, hb.ex (e.trans e2), fun H3 v e3 hv => q v H3 (e2.trans e3) hv⟩)
theorem ef_formK {Er : XK} {gV : List V → List V → List V} (hg : ∀ x : V, gV [] [x] = [x]) (h : Ev te σ H (.ref b)) (hb : BookAt K C H b r) : EvF K (tCallK 1 (sp_form K C) gV Er (tCons te tNil)) σ H (pForm r) := fun H1 e Q q => cons1_raw (ev_raw (h.mono e) fun H2 e2 => ⟨rfl, by
  rw [hg]
  exact ⟨b, r, rfl, hb.ex (e.trans e2), fun H3 v e3 hv => q v H3 (e2.trans e3) hv⟩⟩)
theorem ev_reprF (h : EvF K te σ H o) (hl : ∀ l e, o = some (l, e) → l ≤ 50 ∧ e ≤ 50) : Ev (tCB (fun xs H Q => rRepr K xs H Q ∨ xs = [.non] ∧ Q (.str "None") H) (tCons te tNil)) σ H (.str (formS o)) := fun H1 e1 Q q => cons1_raw (h H1 e1 _ fun v H2 e2 hv => by
  cases o with
  | none =>
    obtain rfl : v = .non := hv
    exact .inr ⟨rfl, q H2 e2⟩
  | some z =>
    obtain ⟨l, e⟩ := z
    obtain ⟨h1, h2⟩ := hl l e rfl
    have s := sm_num2 h1 h2
    exact .inl ⟨v, _, rfl, hv.dp, rfl, s.sh, s.nd, Nat.le_trans s.de (by omega), sz_of (Nat.le_trans s.ln (by omega)), q H2 e2⟩)
theorem ev_reprM (h : Ev te σ H v) (hv : OkN v) : Ev (tCB (fun xs H Q => (∃ i, xs = [V.int i] ∧ i.natAbs.log2 < 1920 ∧ Q (V.str (toString i)) H) ∨ xs = [.non] ∧ Q (.str "None") H) (tCons te tNil)) σ H (.str (numS v)) := fun H1 e1 Q q => cons1_raw (h H1 e1 _ fun H2 e2 => by
  rcases hv with rfl | ⟨i, rfl, hi⟩
  · exact .inr ⟨rfl, q H2 e2⟩
  · refine .inl ⟨i, rfl, ?_, q H2 e2⟩
    by_cases z : i.natAbs = 0
    · rw [z]
      decide
    · have := (Nat.log2_lt z (k := 200)).mpr hi
      omega)
theorem most_ok {m : Int} (h1 : 1 ≤ m) (h2 : m ≤ 10 ^ 31) (hl : ∀ l e, o = some (l, e) → l ≤ 50 ∧ e ≤ 50) : OkN (pMost o m) := by
  cases o with
  | none => exact .inl rfl
  | some z =>
    obtain ⟨l, e⟩ := z
    obtain ⟨h3, h4⟩ := hl l e rfl
    refine .inr ⟨(m - 1) * (l : Int) + m * (e : Int), rfl, ?_⟩
    have a1 : (m - 1) * (l : Int) ≤ 10 ^ 31 * 50 := Int.mul_le_mul (by omega) (by omega) (by omega) (by omega)
    have a2 : m * (e : Int) ≤ 10 ^ 31 * 50 := Int.mul_le_mul h2 (by omega) (by omega) (by omega)
    have a3 : 0 ≤ (m - 1) * (l : Int) := Int.mul_nonneg (by omega) (by omega)
    have a4 : 0 ≤ m * (e : Int) := Int.mul_nonneg (by omega) (by omega)
    have : (10 : Nat) ^ 31 * 100 < 2 ^ 200 := by decide
    omega
theorem sv_most (hb : BookAt K C H b r) {m : Int} (hm : 1 ≤ m) : SpV (sp_most K C) [.ref b, .int m] H (pMost (pForm r) m) := fun _ e _ q _ => ⟨b, r, m, rfl, hm, hb.ex e, q⟩
theorem ev_mostK {Er : XK} {gV : List V → List V → List V} {m : Int} (hg : ∀ x y : V, gV [] [x, y] = [y, x]) (h1 : Ev ta σ H (.int m)) (h2 : Ev tb σ H (.ref b)) (hb : BookAt K C H b r) (hm : 1 ≤ m) : Ev (tCallK 2 (sp_most K C) gV Er (tCons ta (tCons tb tNil))) σ H (pMost (pForm r) m) := fun H1 e Q q =>
  (ea_cons (h1.mono e) (ea_cons (h2.mono e) ea_nil) : EvA _ _ _ [.int m, .ref b]) H1 (Ex.refl H1) _ fun H2 e2 => ⟨rfl, by
    rw [hg]
    exact sv_most (hb.ex (e.trans e2)) hm H2 (Ex.refl H2) Q (fun H3 e3 => q H3 (e2.trans e3)) Er⟩
end
def sp_Lfr (K : PySem.W.Frag) (C : Addr) : Sp := fun vs H Q _ => ∃ d b ks r, vs = [.ref d, .ref b] ∧ DictAt K H d ks r ∧ (∀ p, p ∈ ks) ∧ Ok r ∧ BookAt K C H b r ∧ RetV (.bl true) H Q
section
variable {P : Program} {w : World} {K : PySem.W.Frag} {mg : Str → Option Value} {base : Heap} {C : Addr} {H H' H0 H1 : Hp} {σ : L2.St} {te tb ta tc : TE} {tt : TT} {tA tB : TA} {E Er : XK} {D : Ends} {tz : TS} {a b d : Addr} {us : Rw} {xs ys : List V} {rs qs : List Rw} {ks : List Pt} {r l : Ru} {p : Pt} {v : V} {Q : VK} {o : Option (Nat × Nat)}
theorem rv_notNF {x : V} {b : Bool} (h : (!decide (x = V.non)) = b) : RV (fun x y H Q => y = V.non ∧ Q (.bl (!decide (x = .non))) H) x .non H (.bl b) := fun H1 _ Q q => ⟨rfl, by
  rw [h]
  exact q H1 (Ex.refl H1)⟩
theorem form_non (h : FormAt K H v o) : (!decide (v = V.non)) = o.isSome := by
  cases o with
  | none =>
    obtain rfl : v = .non := h
    rfl
  | some z =>
    obtain ⟨a, rfl, h⟩ := h
    rfl
theorem ok_Lform_right (T : Txt K mg w) (G_Lform : FnG P w K mg base CX0 1 T.f_Lform T.fd_Lform ["_law_rules_here"] (sp_Lform K)) (G_form : FnG P w K mg base CX0 6 T.f_form T.fd_form ["book"] (sp_form K T.C)) (G_most_above : FnG P w K mg base CX0 7 T.f_most_above T.fd_most_above ["book", "hands"] (sp_most K T.C)) : FnG P w K mg base CX0 9 T.f_Lform_right T.fd_Lform_right ["_law_rules_here", "_law_tome"] (sp_Lfr K T.C) := by
  refine okG T.F_Lform_right sc_Lform_right (fun vs H Q E h => ?_) (fun cdv A outer s H vs Q E gd hr h => ?_)
  · obtain ⟨_, _, _, _, rfl, _⟩ := h
    all_goals rfl
  · obtain ⟨d, b, ks, r, rfl, hd, hk, ok, hb, q⟩ := h
    refine ⟨_, (pss_cons (ps_set (i := 2) sc_Lform_right.nd rfl (Or.inl rfl) (pc gd G_Lform (hr.mono (by decide)) (by rfl) T.m_Lform T.F_Lform.kp T.b_Lform .nil pass0 (pa_cons (pv 0) pa_nil))) (pss_cons (ps_if ((pw_or (pt_cmpR op_ne (pe_callB (cr_or (call_repr gd (roomU hr)) call_repr_non) (by rfl) T.z_repr boot_repr (pa_cons (pc gd G_form (hr.mono (by decide)) (by rfl) T.m_form T.F_form.kp T.b_form .nil pass0 (pa_cons (pv 1) pa_nil)) pa_nil)) (pe_callB (cr_or (call_repr gd (roomU hr)) call_repr_non) (by rfl) T.z_repr boot_repr (pa_cons (pv 2) pa_nil)) (nomark _)) (pw_or1 (pt_cmpR op_ne (pe_callB (cr_or (call_repr gd (roomU hr)) call_repr_non) (by rfl) T.z_repr boot_repr (pa_cons (pcK gd G_form (hr.mono (by decide)) (by rfl) T.m_form T.F_form.kp T.k_form_book pass0 (pk_cons (pv 1) pk_nil)) pa_nil)) (pe_callB (cr_or (call_repr gd (roomU hr)) call_repr_non) (by rfl) T.z_repr boot_repr (pa_cons (pv 2) pa_nil)) (nomark _))))).pt (pss_one (ps_ret pe_bl)) pss_nil) (pss_cons (ps_for PassesOwn.never rfl (pi_list (pe_lst (pa_cons pe_int (pa_cons pe_int (pa_cons pe_int (pa_cons pe_int (pa_cons pe_int (pa_cons pe_int (pa_cons pe_int (pa_cons (pe_op op_add (pe_op op_pow pe_int pe_int) pe_int) pa_nil)))))))))) (pg_name (i := 3) sc_Lform_right.nd rfl (Or.inl rfl) (Or.inr rfl)) (pss_cons (ps_set (i := 4) sc_Lform_right.nd rfl (Or.inl rfl) pe_non) (pss_cons (ps_if (pt_cmpR op_notN (pv 2) pe_non (nomark _)) (pss_one (ps_set (i := 4) sc_Lform_right.nd rfl (Or.inl rfl) (pe_op op_add (pe_op op_mul (pe_op op_sub (pv 3) pe_int) (pe_ix ix_tup (pv 2) pe_int (fun _ _ => rfl))) (pe_op op_mul (pv 3) (pe_ix ix_tup (pv 2) pe_int (fun _ _ => rfl)))))) pss_nil) (pss_one (ps_if ((pw_or (pt_cmpR op_ne (pe_callB (cr_or call_repr_int call_repr_non) (by rfl) T.z_repr boot_repr (pa_cons (pc gd G_most_above (hr.mono (by decide)) (by rfl) T.m_most_above T.F_most_above.kp T.b_most_above .nil pass0 (pa_cons (pv 1) (pa_cons (pv 3) pa_nil))) pa_nil)) (pe_callB (cr_or call_repr_int call_repr_non) (by rfl) T.z_repr boot_repr (pa_cons (pv 4) pa_nil)) (nomark _)) (pw_or1 (pt_cmpR op_ne (pe_callB (cr_or call_repr_int call_repr_non) (by rfl) T.z_repr boot_repr (pa_cons (pcK gd G_most_above (hr.mono (by decide)) (by rfl) T.m_most_above T.F_most_above.kp T.k_most_above_hands_book pass0 (pk_cons (pv 3) (pk_cons (pv 1) pk_nil))) pa_nil)) (pe_callB (cr_or call_repr_int call_repr_non) (by rfl) T.z_repr boot_repr (pa_cons (pv 4) pa_nil)) (nomark _))))).pt (pss_one (ps_ret pe_bl)) pss_nil))))) (pss_one (ps_ret pe_bl))))), ?_⟩
    have hl : ∀ l e, pForm r = some (l, e) → l ≤ 50 ∧ e ≤ 50 := fun l e h => pForm_le ok h
    refine q_asgR (cons1_raw (ev_raw (ev_var (v := .ref d) rfl) fun H1 e1 => ⟨d, ks, r, rfl, hd.ex e1, hk, ok.b.1, fun H2 v e2 hv => ?_⟩))
    have e12 := e1.trans e2
    have hb2 := hb.ex e12
    show tSeq _ _ _ [some (.ref d), some (.ref b), some v, none, none] H2
    refine q_when (b := false) (et_or (a := false) (b := false) (et_same (ev_reprF (ef_form (ev_var (v := .ref b) rfl) hb2) hl) (ev_reprF (ef_var rfl hv) hl)) fun _ => et_same (ev_reprF (ef_formK (fun _ => rfl) (ev_var (v := .ref b) rfl) hb2) hl) (ev_reprF (ef_var rfl hv) hl)) (fun z => nomatch z) fun _ H3 e3 => ?_
    have e13 := e12.trans e3
    have ms : ∀ m ∈ ([1, 2, 3, 7, 20, 21, 1000, 10 ^ 30 + 1] : List Int), 1 ≤ m ∧ m ≤ 10 ^ 31 := by decide
    refine q_forNL (xs := ([1, 2, 3, 7, 20, 21, 1000, 10 ^ 30 + 1] : List Int).map V.int) (el_lst (ea_cons ev_c (ea_cons ev_c (ea_cons ev_c (ea_cons ev_c (ea_cons ev_c (ea_cons ev_c (ea_cons ev_c (ea_cons (ev_op (ev_op ev_c ev_c (rv_I ⟨by decide, by decide, by decide⟩)) ev_c rv_I0) ea_nil)))))))) (by decide)) (fun z k σ' G => ∃ x3 x4, σ' = [some (.ref d), some (.ref b), some v, x3, x4] ∧ Ex H3 G ∧ G z = some (.lst (([1, 2, 3, 7, 20, 21, 1000, 10 ^ 30 + 1] : List Int).map V.int))) (fun z G hz e hz2 => ⟨_, _, rfl, e, hz2⟩) (fun z k σ' G hk' h => ?_) (fun z k x σ' G hx h => ?_) (fun z σ' G h => ?_)
    · obtain ⟨_, _, _, _, h⟩ := h
      exact sq_of h
    · obtain ⟨x3, x4, rfl, e, hz⟩ := h
      obtain ⟨m, _, rfl, hm⟩ := m_item hx
      obtain ⟨m1, m2⟩ := ms m hm
      have hv3 := hv.ex (e3.trans e)
      refine q_asg (ev_c (v := .non)) fun G1 g1 => ?_
      have mo := most_ok (o := pForm r) m1 m2 hl
      refine q_ifAsg (b := (pForm r).isSome) (v := pMost (pForm r) m) (et_test (ev_op (ev_var (v := v) rfl) ev_c (rv_notNF (form_non hv)))) (fun hs => ?_) (fun hs => ?_) fun G2 g2 => ?_
      · obtain ⟨⟨l, c⟩, ho⟩ := Option.isSome_iff_exists.mp hs
        obtain ⟨h3, h4⟩ := hl l c ho
        rw [ho] at hv3 ⊢
        obtain ⟨t, rfl, ht⟩ := hv3
        exact ev_op (ev_op (ev_op (ev_var (v := .int m) rfl) ev_c rv_I0) (ev_op (ev_var (v := .ref t) rfl) ev_c (rv_ixT (v := nV l) (ex_t g1 ht) rfl)) (rv_I (.inr ⟨by omega, by omega⟩))) (ev_op (ev_var (v := .int m) rfl) (ev_op (ev_var (v := .ref t) rfl) ev_c (rv_ixT (v := nV c) (ex_t g1 ht) rfl)) (rv_I (.inr ⟨by omega, by omega⟩))) rv_I0
      · have ho : pForm r = none := by
          cases hp : pForm r with
          | none => rfl
          | some z =>
            rw [hp] at hs
            exact Bool.noConfusion hs
        rw [ho]
        rfl
      · have hbG := hb2.ex (e3.trans (e.trans (g1.trans g2)))
        exact s_when (b := false) (et_or (a := false) (b := false) (et_same (ev_reprM (ev_call (ea_cons (ev_var (v := .ref b) rfl) (ea_cons (ev_var (v := .int m) rfl) ea_nil)) (sv_most hbG m1)) mo) (ev_reprM (ev_var rfl) mo)) fun _ => et_same (ev_reprM (ev_mostK (fun _ _ => rfl) (ev_var (v := .int m) rfl) (ev_var (v := .ref b) rfl) hbG m1) mo) (ev_reprM (ev_var rfl) mo)) (fun z => nomatch z) fun _ G3 g3 => ⟨_, _, rfl, e.trans ((g1.trans g2).trans g3), (g1.trans (g2.trans g3)) _ _ hz⟩
    · obtain ⟨x3, x4, rfl, e, hz⟩ := h
      exact s_ret ev_c fun G1 g1 => q G1 (e13.trans (e.trans g1))
/-- a part of a dict of rules is put anew; all else stays -/
theorem put_raw {i : Nat} {x : Str} (st : Sta K a d ks r H0 H) (hs : σ[i]? = some (some (.ref d))) (hp : p ∈ ks) (hl : ks.length ≤ 20) (he : x = p.s) (h : Ev te σ H v) (hv : (l.get p).At K H v) (k : ∀ H1, Sta K a d ks (r.upd l p) H0 H1 → (∀ b o, b ≠ d → H b = some o → H1 b = some o) → tz D σ H1) : tSeq (sDPut (tVar i) (tC (.str x)) te) tz D σ H := by
  obtain ⟨f, hf, hfv⟩ := id st.d
  exact q_dput hf hl hs he h fun H1 e1 h1 => k _ ((st.ex (ExB.of e1) (st.p.ex e1)).over hp (hv.ex e1) h1) fun b o n hb => by
    rw [upd_ne n]
    exact e1 _ _ hb
theorem q_over {tk : TE} {X : Ru → Prop} {i : Nat} (st : Sta K a d ks r H0 H) (hs : σ[i]? = some (some (.ref d))) (hp : p ∈ ks) (hl : ks.length ≤ 20) (hk : ∀ H1, Ev tk σ H1 (.str p.s)) (h : EvPt K te σ H a p X) (k : ∀ H1 l, X l → Sta K a d ks (r.upd l p) H0 H1 → tz D σ H1) : tSeq (sDPut (tVar i) tk te) tz D σ H := s_over (D := { D with nx := tz D }) st hs hp hl hk h k
theorem methX_raw {m : Str} {sp : Sp} {dvs : List V} {Q : VK} (h : ta σ H fun x H1 => ∃ b dx fs, x = .ref b ∧ H1 b = some (.ins C dx fs) ∧ fs.lookup m = none ∧ tA σ H1 fun vs H2 => sp (x :: (vs ++ dvs)) H2 Q Er) : tMeth C m sp dvs Er ta tA σ H Q := h
end
end My
namespace My
open PySem PySem.Spec PyProof.Rows L2 GL Evl StX SkE
/-! ### the law of forms -/
def sp_Lright : Sp := fun vs H Q _ => ∃ a, vs = [.ref a] ∧ PotAt H a ∧ ∀ H', ExB a H H' → Q (.bl true) H'
def sp_law (K : PySem.W.Frag) : Sp := fun vs H Q _ => ∃ a, ∃ ns : List Int, vs = [.ref a] ∧ SqL K H a (ns.map V.int) ∧ ns.length ≤ 63 ∧ ∀ H', Q (.bl true) H'
section
variable {P : Program} {w : World} {K : PySem.W.Frag} {mg : Str → Option Value} {base : Heap} {C : Addr} {H H' H0 H1 : Hp} {σ : L2.St} {te tb ta tc : TE} {tt : TT} {tA tB : TA} {E Er : XK} {D : Ends} {tz : TS} {a b d : Addr} {us : Rw} {xs ys : List V} {rs qs : List Rw} {ks : List Pt} {r l : Ru} {p : Pt} {v : V} {Q : VK} {o : Option (Nat × Nat)}
theorem rc_min2 {i j : Int} : RC (fun xs H Q => ∃ i j, xs = [V.int i, V.int j] ∧ Q (.int (if j < i then j else i)) H) [.int i, .int j] H (.int (if j < i then j else i)) := fun H1 _ Q q => ⟨i, j, rfl, q H1 (Ex.refl H1)⟩
theorem ev_rightPot {ta tb : TE} {a : Addr} {ns : List Int} {k : Nat} {Er Er' : XK} (ha : Ev ta σ H (.ref a)) (hb : Ev tb σ H (.int (k : Int))) (hs : SqL K H a (ns.map V.int)) (hl : ns.length ≤ 63) (hk : k < 3) : Ev (tCall sp_Lright [] Er (tCons (tCall (sp_Lpot K) [] Er' (tCons ta (tCons tb tNil))) tNil)) σ H (.bl true) := fun H1 e Q q =>
  ha H1 e _ fun H2 e2 => hb H2 (e.trans e2) _ fun H3 e3 => ⟨a, ns, k, rfl, ex_l ((e.trans e2).trans e3) hs, hl, hk, fun H4 p hp e4 p4 => ⟨p, rfl, p4, fun H5 x5 => q H5 ((e2.trans e3).trans (ExB.all e4 hp x5))⟩⟩
theorem all_rep (n : Nat) : (List.replicate n true).all id = true := by
  induction n with
  | zero => rfl
  | succ n ih => exact ih
theorem ok_fails (h : Ok r) {u : Wd} (hu : u ∈ failWs) : Ok { r with fails := u } := ⟨h.t, h.g, h.m, h.l, hu, h.h, h.b⟩
theorem few_holds {us : Rw} (h : us ∈ ([[], [.give], [.take, .move]] : List Rw)) : us.Sublist kindRows := by
  simp only [List.mem_cons, List.not_mem_nil, or_false] at h
  rcases h with rfl | rfl | rfl <;> decide
theorem ok_Lright (T : Txt K mg w) (G_Lrules : FnG P w K mg base CX0 4 T.f_Lrules T.fd_Lrules ["_law_pot_here", "_law_way", "_law_most"] (sp_Lrules K)) (G_Lpick : FnG P w K mg base CX0 2 T.f_Lpick T.fd_Lpick ["_law_pot_here", "_law_some"] sp_Lpick) (G_Ltakes : FnG P w K mg base CX0 3 T.f_Ltakes T.fd_Ltakes ["_law_amount"] (sp_Ltakes K)) (G_Lmoves : FnG P w K mg base CX0 3 T.f_Lmoves T.fd_Lmoves ["_law_is_shared"] (sp_Lmoves K)) (G_Lform_right : FnG P w K mg base CX0 9 T.f_Lform_right T.fd_Lform_right ["_law_rules_here", "_law_tome"] (sp_Lfr K T.C)) (G_Lbook : FnG P w K mg base CX0 9 T.f_Lbook T.fd_Lbook ["_law_rules_here"] (sp_Lbook K T.C)) (G_form : FnG P w K mg base CX0 6 T.f_form T.fd_form ["book"] (sp_form K T.C)) (G_Bwith_holds : FnG P w K mg base CX0 9 T.f_Bwith_holds T.fd_Bwith_holds ["self", "holds"] (sp_Bwh K T.C)) (G_Lform : FnG P w K mg base CX0 1 T.f_Lform T.fd_Lform ["_law_rules_here"] (sp_Lform K)) : FnG P w K mg base CX0 12 T.f_Lright T.fd_Lright ["_law_pot_here"] sp_Lright := by
  refine okG T.F_Lright sc_Lright (fun vs H Q E h => ?_) (fun cdv A outer s H vs Q E gd hr h => ?_)
  · obtain ⟨_, rfl, _⟩ := h
    all_goals rfl
  · obtain ⟨a, rfl, hp, q⟩ := h
    refine ⟨_, (pss_cons (ps_set (i := 1) sc_Lright.nd rfl (Or.inl rfl) (pc gd G_Lrules (hr.mono (by decide)) (by rfl) T.m_Lrules T.F_Lrules.kp T.b_Lrules .nil pass0 (pa_cons (pv 0) (pa_cons pe_int (pa_cons pe_int pa_nil))))) (pss_cons (ps_for PassesOwn.never rfl (pi_range1 (by rfl) T.z_range (pa_cons pe_int pa_nil)) (pg_name (i := 2) sc_Lright.nd rfl (Or.inl rfl) (Or.inr rfl)) (pss_cons (ps_dput (hu_of hr) (pv 1) pe_str (pc gd G_Lpick (hr.mono (by decide)) (by rfl) T.m_Lpick T.F_Lpick.kp T.b_Lpick .nil pass0 (pa_cons (pv 0) (pa_cons (pc gd G_Ltakes (hr.mono (by decide)) (by rfl) T.m_Ltakes T.F_Ltakes.kp T.b_Ltakes .nil pass0 (pa_cons (pe_dget (hu_of hr) (pv 1) pe_str (fun _ _ => rfl)) pa_nil)) pa_nil))) rfl) (pss_cons (ps_dput (hu_of hr) (pv 1) pe_str (pc gd G_Lpick (hr.mono (by decide)) (by rfl) T.m_Lpick T.F_Lpick.kp T.b_Lpick .nil pass0 (pa_cons (pv 0) (pa_cons (pc gd G_Lmoves (hr.mono (by decide)) (by rfl) T.m_Lmoves T.F_Lmoves.kp T.b_Lmoves .nil pass0 (pa_cons (pe_dget (hu_of hr) (pv 1) pe_str (fun _ _ => rfl)) pa_nil)) pa_nil))) rfl) (pss_cons (ps_for PassesOwn.never rfl (pi_list (pe_lst (pa_cons pe_str (pa_cons pe_str (pa_cons pe_str pa_nil))))) (pg_name (i := 3) sc_Lright.nd rfl (Or.inl rfl) (Or.inr rfl)) (pss_cons (ps_dput (hu_of hr) (pv 1) pe_str (pv 3) rfl) (pss_one (ps_if (pt_not (pt_val (pc gd G_Lform_right (hr.mono (by decide)) (by rfl) T.m_Lform_right T.F_Lform_right.kp T.b_Lform_right .nil pass0 (pa_cons (pv 1) (pa_cons (pc gd G_Lbook (hr.mono (by decide)) (by rfl) T.m_Lbook T.F_Lbook.kp T.b_Lbook .nil pass0 (pa_cons (pv 1) pa_nil)) pa_nil))))) (pss_one (ps_ret pe_bl)) pss_nil)))) (pss_one (ps_if (pt_cmpR (op_neD (roomU hr)) (pc gd G_form (hr.mono (by decide)) (by rfl) T.m_form T.F_form.kp T.b_form .nil pass0 (pa_cons (pm gd (pc gd G_Lbook (hr.mono (by decide)) (by rfl) T.m_Lbook T.F_Lbook.kp T.b_Lbook .nil pass0 (pa_cons (pv 1) pa_nil)) T.c_Book T.M_Bwith_holds G_Bwith_holds (hr.mono (by decide)) T.b_Bwith_holds .nil pass0 (pa_cons (pc gd G_Lpick (hr.mono (by decide)) (by rfl) T.m_Lpick T.F_Lpick.kp T.b_Lpick .nil pass0 (pa_cons (pv 0) (pa_cons (pe_lst (pa_cons (pe_tupX pa_nil) (pa_cons (pe_tupX (pa_cons pe_str pa_nil)) (pa_cons (pe_tupX (pa_cons pe_str (pa_cons pe_str pa_nil))) pa_nil)))) pa_nil))) pa_nil)) pa_nil)) (pc gd G_Lform (hr.mono (by decide)) (by rfl) T.m_Lform T.F_Lform.kp T.b_Lform .nil pass0 (pa_cons (pv 1) pa_nil)) (nomark _)) (pss_one (ps_ret pe_bl)) pss_nil)))))) (pss_one (ps_ret pe_bl)))), ?_⟩
    refine q_asgR (cons_raw (ev_var (v := .ref a) rfl) fun H1 e1 => cons_raw (x := nV 2) (ev_is ev_c rfl) fun H2 e2 => cons1_raw (ev_raw (v := nV 50) (ev_is ev_c rfl) fun H3 e3 => ⟨a, 2, 50, rfl, ((hp.ex e1).ex e2).ex e3, by omega, by omega, fun H4 d r0 x4 p4 hd0 hd4 ok0 => ?_⟩))
    have e03 := (e1.trans e2).trans e3
    have nda := (hp.ex e03).ne hd0
    have st4 : Sta K a d ruleKs r0 H3 H4 := ⟨x4, p4, hd0, nda, hd4⟩
    refine q_forR1 (n := 6) (ea_cons ev_c ea_nil) (by omega) (fun k σ' G => ∃ x2 x3 r, σ' = [some (.ref a), some (.ref d), x2, x3] ∧ Sta K a d ruleKs r H3 G ∧ Ok r) (fun G e => ⟨_, _, r0, rfl, st4.ex (ExB.of e) (p4.ex e), ok0⟩) (fun k σ' G hk z => ?_) (fun σ' G z => ?_)
    · obtain ⟨x2, x3, r, rfl, st, ok⟩ := z
      refine q_over (p := .take) st rfl (by decide) (by decide) (fun _ => ev_c) (ep_row st.p rfl (ers_takes (ev_pI rfl st.d (by decide))) (takes_ne _) (takes_len _) (.inl rfl)) fun G1 l1 h1 st1 => ?_
      have ok1 : Ok (r.upd l1 .take) := ⟨take_ok ok.b.1 h1, ok.g, ok.m, ok.l, ok.f, ok.h, ok.b⟩
      refine q_over (p := .move) st1 rfl (by decide) (by decide) (fun _ => ev_c) (ep_row st1.p rfl (ers_moves (ev_pS rfl st1.d (by decide))) (moves_ne _) (moves_len _) (.inr (.inr (.inl rfl)))) fun G2 l2 h2 st2 => ?_
      have ok2 : Ok ((r.upd l1 .take).upd l2 .move) := ⟨ok1.t, ok1.g, move_ok h2, ok1.l, ok1.f, ok1.h, ok1.b⟩
      generalize (r.upd l1 .take).upd l2 .move = r2 at st2 ok2
      -- the three words of fails
      refine q_forNL (xs := ([.undo, .leave, .wait] : Rw).map wV) (el_lst (ea_cons (ev_lit (w0 := .undo) rfl) (ea_cons (ev_lit (w0 := .leave) rfl) (ea_cons (ev_lit (w0 := .wait) rfl) ea_nil))) (by decide)) (fun z j σ' G => ∃ x3' r', σ' = [some (.ref a), some (.ref d), some (.int (k : Int)), x3'] ∧ Sta K a d ruleKs r' H3 G ∧ Ok r' ∧ z ≠ d ∧ z ≠ a ∧ G z = some (.lst (([.undo, .leave, .wait] : Rw).map wV))) (fun z G hz e hz2 => ⟨_, r2, rfl, st2.ex (ExB.of e) (st2.p.ex e), ok2, fun h => ?_, st2.p.ne hz, hz2⟩) (fun z j σ' G hj h => ?_) (fun z j x σ' G hx h => ?_) (fun z σ' G h => ?_)
      · obtain ⟨f, hf, _⟩ := st2.d
        rw [h, hf] at hz
        cases hz
      · obtain ⟨_, _, _, _, _, _, _, h⟩ := h
        exact sq_of h
      · obtain ⟨x3', r', rfl, st3, ok3, nzd, nza, hz⟩ := h
        obtain ⟨u, _, rfl, hu⟩ := m_item hx
        refine put_raw (p := .fails) (l := { r' with fails := u }) st3 rfl (by decide) (by decide) rfl (ev_var (v := wV u) rfl) rfl fun G3 st4' keep => ?_
        have ok4 : Ok (r'.upd { r' with fails := u } .fails) := ok_fails ok3 hu
        refine s_when (b := false) (et_is (et_not (a := true) (et_B fun Ga ga Q2 q2 => ?_)) rfl) (fun z => nomatch z) fun _ G4 g4 => ⟨_, _, rfl, st4'.ex (ExB.of g4) (st4'.p.ex g4), ok4, nzd, nza, g4 _ _ (keep _ _ nzd hz)⟩
        refine cons_raw (ev_var (v := .ref d) rfl) fun Gb gb => cons1_raw (te := tCall (sp_Lbook K T.C) [] E0 (tCons (tVar 1) tNil)) (cons1_raw (te := tVar 1) (ev_raw (ev_var (v := .ref d) rfl) fun Gc gc => ⟨d, ruleKs, _, rfl, st4'.d.ex ((ga.trans gb).trans gc), ruleKs_mem, ok4, fun Gd b hb gd2 hB => ⟨d, b, ruleKs, _, rfl, st4'.d.ex (((ga.trans gb).trans gc).trans gd2), ruleKs_mem, ok4, hB.at, fun Ge ge => q2 Ge (((gb.trans gc).trans gd2).trans ge)⟩⟩))
      · obtain ⟨x3', r', rfl, st3, ok3, nzd, nza, hz⟩ := h
        dsimp only
        refine (show tIfS (tTest _) _ _ _ _ G from test_raw (op_raw ?_))
        refine cons1_raw (te := tMeth T.C _ _ _ _ _ _) (methX_raw (cons1_raw (te := tVar 1) (ev_raw (ev_var (v := .ref d) rfl) fun G1 g1 => ⟨d, ruleKs, r', rfl, st3.d.ex g1, ruleKs_mem, ok3, fun G2 b hb g2 hB => ?_⟩)))
        obtain ⟨dx, dd, _, pb⟩ := id hB
        refine ⟨b, dx, bf dd, rfl, pb.ob, bf_no dd (by decide +kernel), ?_⟩
        have g12 := g1.trans g2
        refine cons1_raw (pick_rows (K := K) (rs := [[], [.give], [.take, .move]]) (st3.p.ex g12) rfl (ers_lst (era_cons er_0 (era_cons (er_1 (w1 := .give) rfl) (era_cons (er_2 (w1 := .take) (w2 := .move) rfl rfl) era_nil))) (by decide)) (by decide) (by decide) fun G3 c us y3 p3 hus hc => ?_)
        obtain ⟨yp, yq, hpa, _⟩ := id (st3.p.ex g12)
        refine ⟨b, c, r', us, rfl, hB.at.exL y3 hpa, hc.at_, few_holds hus, fun G4 m hm g4 hM => ⟨m, { r' with holds := us }, rfl, hM, fun G5 v g5 hv => ?_⟩⟩
        have st5 := (st3.ex (ExB.of g12) (st3.p.ex g12)).ex y3 p3
        have g45 := g4.trans g5
        refine cons1_raw (te := tVar 1) (ev_raw (ev_var (v := .ref d) rfl) fun G6 g6 => ⟨d, ruleKs, r', rfl, st5.d.ex (g45.trans g6), ruleKs_mem, ok3.b.1, fun G7 v' g7 hv' => ?_⟩)
        have hv2 : FormAt K G5 v (pForm r') := by
          rw [← form_eq (r := { r' with holds := us }) ok3.b.1, show FS { r' with holds := us } 2 = FS r' 2 from rfl, form_eq ok3.b.1] at hv
          exact hv
        refine ⟨dForm (pForm r'), dForm (pForm r'), (hv2.ex (g6.trans g7)).dp, hv'.dp, form_shaped, form_shaped, ?_⟩
        rw [form_self]
        refine ⟨false, rfl, ?_⟩
        have g47 := g45.trans (g6.trans g7)
        exact ⟨_, _, r', rfl, st5.ex (ExB.of g47) (st5.p.ex g47), ok3⟩
    · obtain ⟨x2, x3, r, rfl, st, ok⟩ := z
      exact s_ret ev_c fun G1 g1 => q G1 ((ExB.of e03).trans (st.x.trans (ExB.of g1)))
theorem ok_law (T : Txt K mg w) (G_Lright : FnG P w K mg base CX0 12 T.f_Lright T.fd_Lright ["_law_pot_here"] sp_Lright) (G_Lpot : FnG P w K mg base CX0 1 T.f_Lpot T.fd_Lpot ["_law_script", "_law_k"] (sp_Lpot K)) : FnG P w K mg base CX0 13 T.f_law T.fd_law ["_law_script"] (sp_law K) := by
  refine okG T.F_law sc_law (fun vs H Q E h => ?_) (fun cdv A outer s H vs Q E gd hr h => ?_)
  · obtain ⟨_, _, rfl, _⟩ := h
    all_goals rfl
  · obtain ⟨a, ns, rfl, hs, hl, q⟩ := h
    refine ⟨_, (pss_one (ps_ret (pe_callB (cr_all rfl) (by rfl) T.z_all boot_all (pa_cons (pe_lc (own := [("_law_k", 1)]) (g := gName 1) rfl sc_law.nd (pi_range1 (by rfl) T.z_range (pa_cons (pe_callB (call_max2 rfl) (by rfl) T.z_max boot_max (pa_cons pe_int (pa_cons (pe_callB (call_min2 rfl) (by rfl) T.z_min boot_min (pa_cons pe_int (pa_cons (pe_callB call_len_seq (by rfl) T.z_len PySem.boot_len (pa_cons (pv 0) pa_nil)) pa_nil))) pa_nil))) pa_nil)) (blkOk_by (N := N_law) (sc := defScope s_law) (by decide +kernel)) (fun _ _ _ _ _ => (pg_name (i := 1) sc_law.nd rfl (Or.inl rfl) (Or.inr rfl))) (fun _ _ _ _ _ => pts_nil) (fun _ _ _ _ _ => (pc gd G_Lright (hr.mono (by decide)) (by rfl) T.m_Lright T.F_Lright.kp T.b_Lright .nil pass0 (pa_cons (pc gd G_Lpot (hr.mono (by decide)) (by rfl) T.m_Lpot T.F_Lpot.kp T.b_Lpot .nil pass0 (pa_cons (pv 0) (pa_cons (pv 1) pa_nil))) pa_nil)))) pa_nil)))), ?_⟩
    have hn : ∃ n : Nat, n ≤ 3 ∧ Ev (tCB (fun xs H Q => ∃ i j, xs = [V.int i, V.int j] ∧ Q (.int (if j > i then j else i)) H) (tCons (tC (.int 1)) (tCons (tCB (fun xs H Q => ∃ i j, xs = [V.int i, V.int j] ∧ Q (.int (if j < i then j else i)) H) (tCons (tC (.int 3)) (tCons (tCB (rLenS K) (tCons (tVar 0) tNil)) tNil))) tNil))) [some (.ref a), none] H (nV n) := by
      refine ⟨if ns.length < 3 then max 1 ns.length else 3, by split <;> omega, ev_is (ev_cb (ea_cons ev_c (ea_cons (ev_cb (ea_cons ev_c (ea_cons (ev_cb (ea_cons (ev_var rfl) ea_nil) (rc_lenL hs)) ea_nil)) rc_min2) ea_nil)) rc_max2) (congrArg V.int ?_)⟩
      rw [List.length_map]
      split <;> split <;> split <;> omega
    obtain ⟨n, hn2, hev⟩ := hn
    refine s_ret (v := .bl true) (ev_is (ev_allB (bs := List.replicate n true) (el_is (el_lcR1 (n := (n : Int)) (fun _ => true) (fun _ => .bl true) (ea_cons hev ea_nil) (by omega) (fun _ => rfl) (fun i H3 e3 hi => et_yes) (fun i H3 e3 hi _ => ev_rightPot (ev_var rfl) (ev_var rfl) (ex_l e3 hs) hl (by omega))) (by
      rw [given_all, Int.toNat_natCast, List.map_replicate]
      refine List.ext_getElem (by simp) fun i h1 h2 => ?_
      simp))) (cbl (all_rep n))) fun H2 e2 => q H2
end
end My
namespace My
open PySem PySem.Spec PyProof.Rows L2 GL Evl StX SkE
section
variable {P : Program} {w : World} {K : PySem.W.Frag} {mg : Str → Option Value} {base : Heap}
theorem ok_text (T : Txt K mg w) : FnG P w K mg base CX0 13 T.f_law T.fd_law ["_law_script"] (sp_law K) := by
  have G_Ldraw : FnG P w K mg base CX0 1 T.f_Ldraw T.fd_Ldraw ["_law_pot_here", "_law_sides"] sp_Ldraw := My.ok_Ldraw T 
  have G_Lpick : FnG P w K mg base CX0 2 T.f_Lpick T.fd_Lpick ["_law_pot_here", "_law_some"] sp_Lpick := My.ok_Lpick T G_Ldraw
  have G_Lmenu : FnG P w K mg base CX0 1 T.f_Lmenu T.fd_Lmenu ["_law_sort"] (sp_Lmenu K) := My.ok_Lmenu T 
  have G_Lrules : FnG P w K mg base CX0 4 T.f_Lrules T.fd_Lrules ["_law_pot_here", "_law_way", "_law_most"] (sp_Lrules K) := My.ok_Lrules T G_Lpick G_Ldraw G_Lmenu
  have G_Lsequences : FnG P w K mg base CX0 1 T.f_Lsequences T.fd_Lsequences ["_law_words"] (sp_Lseqs K) := My.ok_Lsequences T 
  have G_Lis_ahead : FnG P w K mg base CX0 1 T.f_Lis_ahead T.fd_Lis_ahead ["_law_some", "_law_word", "_law_later"] (sp_Lahead K) := My.ok_Lis_ahead T 
  have G_Lis_take : FnG P w K mg base CX0 2 T.f_Lis_take T.fd_Lis_take ["_law_some", "_law_amount"] (sp_Ltk K) := My.ok_Lis_take T G_Lis_ahead
  have G_Ltakes : FnG P w K mg base CX0 3 T.f_Ltakes T.fd_Ltakes ["_law_amount"] (sp_Ltakes K) := My.ok_Ltakes T G_Lsequences G_Lis_take
  have G_Lis_move : FnG P w K mg base CX0 2 T.f_Lis_move T.fd_Lis_move ["_law_some", "_law_is_shared"] (sp_Lmv K) := My.ok_Lis_move T G_Lis_ahead
  have G_Lmoves : FnG P w K mg base CX0 3 T.f_Lmoves T.fd_Lmoves ["_law_is_shared"] (sp_Lmoves K) := My.ok_Lmoves T G_Lsequences G_Lis_move
  have G_Lform : FnG P w K mg base CX0 1 T.f_Lform T.fd_Lform ["_law_rules_here"] (sp_Lform K) := My.ok_Lform T 
  have G_is_word : FnG P w K mg base CX0 1 T.f_is_word T.fd_is_word ["value", "words"] (sp_isword K) := My.ok_is_word T 
  have G_check_row_kind : FnG P w K mg base CX0 2 T.f_check_row_kind T.fd_check_row_kind ["value"] sp_ckind := My.ok_check_row_kind T G_is_word
  have G_Brow : FnG P w K mg base CX0 3 T.f_Brow T.fd_Brow ["self", "kind"] (sp_BrowF K T.C) := My.ok_Brow T G_check_row_kind
  have G_kinds_that_add : FnG P w K mg base CX0 4 T.f_kinds_that_add T.fd_kinds_that_add ["book"] (sp_kta K T.C) := My.ok_kinds_that_add T G_Brow
  have G_look_is_behind : FnG P w K mg base CX0 1 T.f_look_is_behind T.fd_look_is_behind ["row"] (sp_lookb K) := My.ok_look_is_behind T 
  have G_Bfails : FnG P w K mg base CX0 1 T.f_Bfails T.fd_Bfails ["self"] (sp_Bpart .fails T.C) := My.ok_Bfails T 
  have G_is_endless : FnG P w K mg base CX0 4 T.f_is_endless T.fd_is_endless ["book", "kind"] (sp_isend K T.C) := My.ok_is_endless T G_Brow G_look_is_behind G_Bfails
  have G_Bbatch : FnG P w K mg base CX0 1 T.f_Bbatch T.fd_Bbatch ["self"] (sp_Bpart .batch T.C) := My.ok_Bbatch T 
  have G_number_of : FnG P w K mg base CX0 3 T.f_number_of T.fd_number_of ["book", "kind"] (sp_num K T.C) := My.ok_number_of T G_Bbatch
  have G_kind_that_looks : FnG P w K mg base CX0 5 T.f_kind_that_looks T.fd_kind_that_looks ["book", "behind"] (sp_ktl K T.C) := My.ok_kind_that_looks T G_kinds_that_add G_look_is_behind G_Brow
  have G_form : FnG P w K mg base CX0 6 T.f_form T.fd_form ["book"] (sp_form K T.C) := My.ok_form T G_kinds_that_add G_is_endless G_number_of G_kind_that_looks
  have G_is_an_integer : FnG P w K mg base CX0 1 T.f_is_an_integer T.fd_is_an_integer ["value"] sp_isint := My.ok_is_an_integer T 
  have G_check_hands : FnG P w K mg base CX0 2 T.f_check_hands T.fd_check_hands ["value"] sp_chands := My.ok_check_hands T G_is_an_integer
  have G_most_above : FnG P w K mg base CX0 7 T.f_most_above T.fd_most_above ["book", "hands"] (sp_most K T.C) := My.ok_most_above T G_check_hands G_form
  have G_Lform_right : FnG P w K mg base CX0 9 T.f_Lform_right T.fd_Lform_right ["_law_rules_here", "_law_tome"] (sp_Lfr K T.C) := My.ok_Lform_right T G_Lform G_form G_most_above
  have G_are_different_words : FnG P w K mg base CX0 2 T.f_are_different_words T.fd_are_different_words ["values", "words"] (sp_adw K) := My.ok_are_different_words T G_is_word
  have G_has_words_of : FnG P w K mg base CX0 3 T.f_has_words_of T.fd_has_words_of ["value", "words"] (sp_hwo K) := My.ok_has_words_of T G_are_different_words
  have G_tests_are_ahead : FnG P w K mg base CX0 1 T.f_tests_are_ahead T.fd_tests_are_ahead ["row", "word"] (sp_taa K) := My.ok_tests_are_ahead T 
  have G_is_take_row : FnG P w K mg base CX0 4 T.f_is_take_row T.fd_is_take_row ["value"] (sp_row K pTake) := My.ok_is_take_row T G_has_words_of G_tests_are_ahead
  have G_off_has_home : FnG P w K mg base CX0 1 T.f_off_has_home T.fd_off_has_home ["row"] (sp_ohh K) := My.ok_off_has_home T 
  have G_is_give_row : FnG P w K mg base CX0 4 T.f_is_give_row T.fd_is_give_row ["value"] (sp_row K pGive) := My.ok_is_give_row T G_has_words_of G_off_has_home
  have G_is_move_row : FnG P w K mg base CX0 4 T.f_is_move_row T.fd_is_move_row ["value"] (sp_row K pMove) := My.ok_is_move_row T G_has_words_of G_off_has_home G_tests_are_ahead
  have G_is_lift_row : FnG P w K mg base CX0 4 T.f_is_lift_row T.fd_is_lift_row ["value"] (sp_row K pLift) := My.ok_is_lift_row T G_has_words_of
  have G_is_row : FnG P w K mg base CX0 5 T.f_is_row T.fd_is_row ["kind", "value"] (sp_isrow K) := My.ok_is_row T G_is_take_row G_is_give_row G_is_move_row G_is_lift_row
  have G_check_rows : FnG P w K mg base CX0 6 T.f_check_rows T.fd_check_rows ["rows"] (sp_crows K) := My.ok_check_rows T G_is_row
  have G_check_fails : FnG P w K mg base CX0 2 T.f_check_fails T.fd_check_fails ["value"] sp_cfails := My.ok_check_fails T G_is_word
  have G_check_bool : FnG P w K mg base CX0 1 T.f_check_bool T.fd_check_bool ["name", "value"] sp_cbool := My.ok_check_bool T 
  have G_is_list : FnG P w K mg base CX0 1 T.f_is_list T.fd_is_list ["value"] (sp_islist K) := My.ok_is_list T 
  have G_check_holds : FnG P w K mg base CX0 3 T.f_check_holds T.fd_check_holds ["value"] (sp_cholds K) := My.ok_check_holds T G_is_list G_are_different_words
  have G_check_batch : FnG P w K mg base CX0 2 T.f_check_batch T.fd_check_batch ["value"] sp_cbatch := My.ok_check_batch T G_is_an_integer
  have G_fits_batch : FnG P w K mg base CX0 1 T.f_fits_batch T.fd_fits_batch ["row", "batch"] (sp_fitb K) := My.ok_fits_batch T 
  have G_fits_shared : FnG P w K mg base CX0 1 T.f_fits_shared T.fd_fits_shared ["row", "shared"] (sp_fits K) := My.ok_fits_shared T 
  have G_Binit : FnG P w K mg base CX0 7 T.f_Binit T.fd_Binit ["self", "take", "give", "move", "lift", "fails", "shared", "holds", "batch", "settles"] (sp_Binit K T.C) := My.ok_Binit T G_check_rows G_check_fails G_check_bool G_check_holds G_check_batch G_fits_batch G_fits_shared
  have G_Lbook : FnG P w K mg base CX0 9 T.f_Lbook T.fd_Lbook ["_law_rules_here"] (sp_Lbook K T.C) := My.ok_Lbook T G_Binit
  have G_Bwith_holds : FnG P w K mg base CX0 9 T.f_Bwith_holds T.fd_Bwith_holds ["self", "holds"] (sp_Bwh K T.C) := My.ok_Bwith_holds T G_Binit
  have G_Lright : FnG P w K mg base CX0 12 T.f_Lright T.fd_Lright ["_law_pot_here"] sp_Lright := My.ok_Lright T G_Lrules G_Lpick G_Ltakes G_Lmoves G_Lform_right G_Lbook G_form G_Bwith_holds G_Lform
  have G_Lpot : FnG P w K mg base CX0 1 T.f_Lpot T.fd_Lpot ["_law_script", "_law_k"] (sp_Lpot K) := My.ok_Lpot T 
  have G_law : FnG P w K mg base CX0 13 T.f_law T.fd_law ["_law_script"] (sp_law K) := My.ok_law T G_Lright G_Lpot
  exact G_law
end
theorem law_start {K : PySem.W.Frag} {H : Hp} {a : Addr} {ns : List Int} (h : SqL K H a (ns.map V.int)) (hl : ns.length ≤ 63) : sp_law K [.ref a] H (fun v _ => v = .bl true) fun _ _ _ => False := ⟨a, ns, rfl, h, hl, fun _ => rfl⟩
theorem kbt1 {s : Shared} {fd : FuncData} {ps : List Str} {k : Str} (h : ∀ a b : Value, BindsTo s fd ⟨[a], [(k, b)]⟩ (ps.zip [a, b])) (hp : ps.length = 2) : ∀ us ws : List Value, (kb1 us ws).length = ps.length → BindsTo s fd ⟨us, [k].zip ws⟩ (ps.zip (kb1 us ws))
  | [a], [b], _ => h a b
  | [], [], e => by rw [hp] at e; cases e
  | [], _ :: _, e => by rw [hp] at e; cases e
  | [_], [], e => by rw [hp] at e; cases e
  | [_], _ :: _ :: _, e => by rw [hp] at e; cases e
  | _ :: _ :: _, [], e => by rw [hp] at e; cases e
  | _ :: _ :: _, _ :: _, e => by rw [hp] at e; cases e
theorem kbt2 {s : Shared} {fd : FuncData} {ps : List Str} {k j : Str} (h : ∀ a b c : Value, BindsTo s fd ⟨[a], [(k, b), (j, c)]⟩ (ps.zip [a, c, b])) (hp : ps.length = 3) : ∀ us ws : List Value, (kb2 us ws).length = ps.length → BindsTo s fd ⟨us, [k, j].zip ws⟩ (ps.zip (kb2 us ws))
  | [a], [b, c], _ => h a b c
  | [], [], e => by rw [hp] at e; cases e
  | [], _ :: _, e => by rw [hp] at e; cases e
  | [_], [], e => by rw [hp] at e; cases e
  | [_], [_], e => by rw [hp] at e; cases e
  | [_], _ :: _ :: _ :: _, e => by rw [hp] at e; cases e
  | _ :: _ :: _, [], e => by rw [hp] at e; cases e
  | _ :: _ :: _, _ :: _, e => by rw [hp] at e; cases e
theorem all_mk {l : PySem.W.OpenLaw} {w : World} {K : PySem.W.Frag} {h : Heap} {mg : Str → Option Value} {fa : Addr} (X : K.In h) (G : h.Ns mainGlobals mg) (hfa : mg "law" = some (.ref fa))
    {C f1 f2 f3 f4 f5 f6 f7 f8 f9 f10 f11 f12 f13 f14 f15 f16 f17 f18 f19 f20 f21 f22 f23 f24 f25 f26 f27 f28 f29 f30 pr30 f31 pr31 f32 f33 f34 f35 f36 f37 f38 f39 f40 f41 f42 f43 f44 f45 f46 f47 f48 f49 T_FAILS T_ROW_KINDS T_LIFT_ROWS T0_LIFT_ROWS T1_LIFT_ROWS T2_LIFT_ROWS T3_LIFT_ROWS T4_LIFT_ROWS T5_LIFT_ROWS T_ROW_CHECKS : Addr} {od1 an1 od2 an2 od3 an3 od4 an4 od5 an5 od6 an6 od7 an7 od8 an8 od9 an9 od10 an10 od11 an11 od12 an12 od13 an13 od14 an14 od15 an15 od16 an16 od17 an17 od18 an18 od19 an19 od20 an20 od21 an21 od22 an22 od23 an23 od24 an24 od25 an25 od26 an26 od27 an27 od28 an28 od29 an29 od30 an30 od31 an31 od32 an32 od33 an33 od34 an34 od35 an35 od36 an36 od37 an37 od38 an38 od39 an39 od40 an40 od41 an41 od42 an42 od43 an43 od44 an44 od45 an45 od46 an46 od47 an47 od48 an48 od49 an49 d_T_FAILS d_T_ROW_KINDS d_T_LIFT_ROWS d_T0_LIFT_ROWS d_T1_LIFT_ROWS d_T2_LIFT_ROWS d_T3_LIFT_ROWS d_T4_LIFT_ROWS d_T5_LIFT_ROWS : Option Addr} {sl1 sl2 sl3 sl4 sl5 sl6 sl7 sl8 sl9 sl10 sl11 sl12 sl13 sl14 sl15 sl16 sl17 sl18 sl19 sl20 sl21 sl22 sl23 sl24 sl25 sl26 sl27 sl28 sl29 sl30 sl31 sl32 sl33 sl34 sl35 sl36 sl37 sl38 sl39 sl40 sl41 sl42 sl43 sl44 sl45 sl46 sl47 sl48 sl49 l_T_FAILS l_T_ROW_KINDS l_T_LIFT_ROWS l_T0_LIFT_ROWS l_T1_LIFT_ROWS l_T2_LIFT_ROWS l_T3_LIFT_ROWS l_T4_LIFT_ROWS l_T5_LIFT_ROWS : Array (Option Value)} {oc1 kV1 dc1 pm1 cd1 ct1 oc2 kV2 dc2 pm2 cd2 ct2 oc3 kV3 dc3 pm3 cd3 ct3 oc4 kV4 dc4 pm4 cd4 ct4 oc5 kV5 dc5 pm5 cd5 ct5 oc6 kV6 dc6 pm6 cd6 ct6 oc7 kV7 dc7 pm7 cd7 ct7 oc8 kV8 dc8 pm8 cd8 ct8 oc9 kV9 dc9 pm9 cd9 ct9 oc10 kV10 dc10 pm10 cd10 ct10 oc11 kV11 dc11 pm11 cd11 ct11 oc12 kV12 dc12 pm12 cd12 ct12 oc13 kV13 dc13 pm13 cd13 ct13 oc14 kV14 dc14 pm14 cd14 ct14 oc15 kV15 dc15 pm15 cd15 ct15 oc16 kV16 dc16 pm16 cd16 ct16 oc17 kV17 dc17 pm17 cd17 ct17 oc18 kV18 dc18 pm18 cd18 ct18 oc19 kV19 dc19 pm19 cd19 ct19 oc20 kV20 dc20 pm20 cd20 ct20 oc21 kV21 dc21 pm21 cd21 ct21 oc22 kV22 dc22 pm22 cd22 ct22 oc23 kV23 dc23 pm23 cd23 ct23 oc24 kV24 dc24 pm24 cd24 ct24 oc25 kV25 dc25 pm25 cd25 ct25 oc26 kV26 dc26 pm26 cd26 ct26 oc27 kV27 dc27 pm27 cd27 ct27 oc28 kV28 dc28 pm28 cd28 ct28 oc29 kV29 dc29 pm29 cd29 ct29 oc30 kV30 dc30 pm30 cd30 ct30 oc31 kV31 dc31 pm31 cd31 ct31 oc32 kV32 dc32 pm32 cd32 ct32 oc33 kV33 dc33 pm33 cd33 ct33 oc34 kV34 dc34 pm34 cd34 ct34 oc35 kV35 dc35 pm35 cd35 ct35 oc36 kV36 dc36 pm36 cd36 ct36 oc37 kV37 dc37 pm37 cd37 ct37 oc38 kV38 dc38 pm38 cd38 ct38 oc39 kV39 dc39 pm39 cd39 ct39 oc40 kV40 dc40 pm40 cd40 ct40 oc41 kV41 dc41 pm41 cd41 ct41 oc42 kV42 dc42 pm42 cd42 ct42 oc43 kV43 dc43 pm43 cd43 ct43 oc44 kV44 dc44 pm44 cd44 ct44 oc45 kV45 dc45 pm45 cd45 ct45 oc46 kV46 dc46 pm46 cd46 ct46 oc47 kV47 dc47 pm47 cd47 ct47 oc48 kV48 dc48 pm48 cd48 ct48 oc49 kV49 dc49 pm49 cd49 ct49 : Value} {n_T_FAILS n_T_ROW_KINDS n_T_LIFT_ROWS n_T0_LIFT_ROWS n_T1_LIFT_ROWS n_T2_LIFT_ROWS n_T3_LIFT_ROWS n_T4_LIFT_ROWS n_T5_LIFT_ROWS n_ROW_CHECKS : Nat} {t_MOST_BATCH k0_T_FAILS k1_T_FAILS k2_T_FAILS k0_T_ROW_KINDS k1_T_ROW_KINDS k2_T_ROW_KINDS k3_T_ROW_KINDS k0_T1_LIFT_ROWS k0_T2_LIFT_ROWS k0_T3_LIFT_ROWS k1_T3_LIFT_ROWS k0_T4_LIFT_ROWS k1_T4_LIFT_ROWS k0_T5_LIFT_ROWS : Tok} {es_ROW_CHECKS : Array DictEntry} {pl30 pl31 : List Value}
    (aC : PySem.W.nsIn K mainGlobals "Book" = some (some (.ref C)))
    (pg : PySem.W.plainGet K C Str.empty = true)
    (hd : PySem.W.hasDictIn K C = true)
    (po : PySem.W.plainOver K C = true)
    (sa : PySem.W.findIn K (.ref C) "__setattr__" = some (some (.builtin "object.__setattr__")))
    (mk : PySem.W.makesIn K C = true)
    (kc : PySem.W.keepIn K (.ref C) = true)
    (n_parts : PySem.W.findIn K (.ref C) "_parts" = some none)
    (x_class : PySem.W.findIn K (.ref C) "__class__" = some (some (.builtin "object.__class__")))
    (x_get : PySem.W.specialIn K (.builtin "object.__class__") "__get__" = some (some (.builtin "getset_descriptor.__get__")))
    (x_tk : PySem.W.takesIn K (.builtin "object.__class__") = some true)
    (x_mro : PySem.W.mroIn K C (.type "object") = some true)
    (x_ne : PySem.W.findIn K (.ref C) "__ne__" = some (some (.builtin "object.__ne__")))
    (x_cls : PySem.W.isClsIn K C = true)
    (x_ty : PySem.W.typeIn K (.ref C) = some (.type "type"))
    (a1 : PySem.W.nsIn K mainGlobals "is_an_integer" = some (some (.ref f1)))
    (l1 : K.lookup f1 = some ⟨oc1, od1, .func (PySem.W.fnOf "is_an_integer" "is_an_integer" (defArgs s_is_an_integer) (defBody s_is_an_integer) (defScope s_is_an_integer) .none kV1 dc1 pm1 an1 cd1 ct1), sl1⟩)
    (c1 : PySem.W.codeIn K cd1 "is_an_integer" = true)
    (k1 : PySem.W.keepIn K (.ref f1) = true)
    (a2 : PySem.W.nsIn K mainGlobals "is_list" = some (some (.ref f2)))
    (l2 : K.lookup f2 = some ⟨oc2, od2, .func (PySem.W.fnOf "is_list" "is_list" (defArgs s_is_list) (defBody s_is_list) (defScope s_is_list) .none kV2 dc2 pm2 an2 cd2 ct2), sl2⟩)
    (c2 : PySem.W.codeIn K cd2 "is_list" = true)
    (k2 : PySem.W.keepIn K (.ref f2) = true)
    (a3 : PySem.W.nsIn K mainGlobals "is_word" = some (some (.ref f3)))
    (l3 : K.lookup f3 = some ⟨oc3, od3, .func (PySem.W.fnOf "is_word" "is_word" (defArgs s_is_word) (defBody s_is_word) (defScope s_is_word) .none kV3 dc3 pm3 an3 cd3 ct3), sl3⟩)
    (c3 : PySem.W.codeIn K cd3 "is_word" = true)
    (k3 : PySem.W.keepIn K (.ref f3) = true)
    (a4 : PySem.W.nsIn K mainGlobals "are_different_words" = some (some (.ref f4)))
    (l4 : K.lookup f4 = some ⟨oc4, od4, .func (PySem.W.fnOf "are_different_words" "are_different_words" (defArgs s_are_different_words) (defBody s_are_different_words) (defScope s_are_different_words) .none kV4 dc4 pm4 an4 cd4 ct4), sl4⟩)
    (c4 : PySem.W.codeIn K cd4 "are_different_words" = true)
    (k4 : PySem.W.keepIn K (.ref f4) = true)
    (a5 : PySem.W.nsIn K mainGlobals "has_words_of" = some (some (.ref f5)))
    (l5 : K.lookup f5 = some ⟨oc5, od5, .func (PySem.W.fnOf "has_words_of" "has_words_of" (defArgs s_has_words_of) (defBody s_has_words_of) (defScope s_has_words_of) .none kV5 dc5 pm5 an5 cd5 ct5), sl5⟩)
    (c5 : PySem.W.codeIn K cd5 "has_words_of" = true)
    (k5 : PySem.W.keepIn K (.ref f5) = true)
    (a6 : PySem.W.nsIn K mainGlobals "tests_are_ahead" = some (some (.ref f6)))
    (l6 : K.lookup f6 = some ⟨oc6, od6, .func (PySem.W.fnOf "tests_are_ahead" "tests_are_ahead" (defArgs s_tests_are_ahead) (defBody s_tests_are_ahead) (defScope s_tests_are_ahead) .none kV6 dc6 pm6 an6 cd6 ct6), sl6⟩)
    (c6 : PySem.W.codeIn K cd6 "tests_are_ahead" = true)
    (k6 : PySem.W.keepIn K (.ref f6) = true)
    (a7 : PySem.W.nsIn K mainGlobals "look_is_behind" = some (some (.ref f7)))
    (l7 : K.lookup f7 = some ⟨oc7, od7, .func (PySem.W.fnOf "look_is_behind" "look_is_behind" (defArgs s_look_is_behind) (defBody s_look_is_behind) (defScope s_look_is_behind) .none kV7 dc7 pm7 an7 cd7 ct7), sl7⟩)
    (c7 : PySem.W.codeIn K cd7 "look_is_behind" = true)
    (k7 : PySem.W.keepIn K (.ref f7) = true)
    (a8 : PySem.W.nsIn K mainGlobals "off_has_home" = some (some (.ref f8)))
    (l8 : K.lookup f8 = some ⟨oc8, od8, .func (PySem.W.fnOf "off_has_home" "off_has_home" (defArgs s_off_has_home) (defBody s_off_has_home) (defScope s_off_has_home) .none kV8 dc8 pm8 an8 cd8 ct8), sl8⟩)
    (c8 : PySem.W.codeIn K cd8 "off_has_home" = true)
    (k8 : PySem.W.keepIn K (.ref f8) = true)
    (a9 : PySem.W.nsIn K mainGlobals "is_take_row" = some (some (.ref f9)))
    (l9 : K.lookup f9 = some ⟨oc9, od9, .func (PySem.W.fnOf "is_take_row" "is_take_row" (defArgs s_is_take_row) (defBody s_is_take_row) (defScope s_is_take_row) .none kV9 dc9 pm9 an9 cd9 ct9), sl9⟩)
    (c9 : PySem.W.codeIn K cd9 "is_take_row" = true)
    (k9 : PySem.W.keepIn K (.ref f9) = true)
    (a10 : PySem.W.nsIn K mainGlobals "is_give_row" = some (some (.ref f10)))
    (l10 : K.lookup f10 = some ⟨oc10, od10, .func (PySem.W.fnOf "is_give_row" "is_give_row" (defArgs s_is_give_row) (defBody s_is_give_row) (defScope s_is_give_row) .none kV10 dc10 pm10 an10 cd10 ct10), sl10⟩)
    (c10 : PySem.W.codeIn K cd10 "is_give_row" = true)
    (k10 : PySem.W.keepIn K (.ref f10) = true)
    (a11 : PySem.W.nsIn K mainGlobals "is_move_row" = some (some (.ref f11)))
    (l11 : K.lookup f11 = some ⟨oc11, od11, .func (PySem.W.fnOf "is_move_row" "is_move_row" (defArgs s_is_move_row) (defBody s_is_move_row) (defScope s_is_move_row) .none kV11 dc11 pm11 an11 cd11 ct11), sl11⟩)
    (c11 : PySem.W.codeIn K cd11 "is_move_row" = true)
    (k11 : PySem.W.keepIn K (.ref f11) = true)
    (a12 : PySem.W.nsIn K mainGlobals "is_lift_row" = some (some (.ref f12)))
    (l12 : K.lookup f12 = some ⟨oc12, od12, .func (PySem.W.fnOf "is_lift_row" "is_lift_row" (defArgs s_is_lift_row) (defBody s_is_lift_row) (defScope s_is_lift_row) .none kV12 dc12 pm12 an12 cd12 ct12), sl12⟩)
    (c12 : PySem.W.codeIn K cd12 "is_lift_row" = true)
    (k12 : PySem.W.keepIn K (.ref f12) = true)
    (a13 : PySem.W.nsIn K mainGlobals "is_row" = some (some (.ref f13)))
    (l13 : K.lookup f13 = some ⟨oc13, od13, .func (PySem.W.fnOf "is_row" "is_row" (defArgs s_is_row) (defBody s_is_row) (defScope s_is_row) .none kV13 dc13 pm13 an13 cd13 ct13), sl13⟩)
    (c13 : PySem.W.codeIn K cd13 "is_row" = true)
    (k13 : PySem.W.keepIn K (.ref f13) = true)
    (a14 : PySem.W.nsIn K mainGlobals "fits_batch" = some (some (.ref f14)))
    (l14 : K.lookup f14 = some ⟨oc14, od14, .func (PySem.W.fnOf "fits_batch" "fits_batch" (defArgs s_fits_batch) (defBody s_fits_batch) (defScope s_fits_batch) .none kV14 dc14 pm14 an14 cd14 ct14), sl14⟩)
    (c14 : PySem.W.codeIn K cd14 "fits_batch" = true)
    (k14 : PySem.W.keepIn K (.ref f14) = true)
    (a15 : PySem.W.nsIn K mainGlobals "fits_shared" = some (some (.ref f15)))
    (l15 : K.lookup f15 = some ⟨oc15, od15, .func (PySem.W.fnOf "fits_shared" "fits_shared" (defArgs s_fits_shared) (defBody s_fits_shared) (defScope s_fits_shared) .none kV15 dc15 pm15 an15 cd15 ct15), sl15⟩)
    (c15 : PySem.W.codeIn K cd15 "fits_shared" = true)
    (k15 : PySem.W.keepIn K (.ref f15) = true)
    (a16 : PySem.W.nsIn K mainGlobals "check_hands" = some (some (.ref f16)))
    (l16 : K.lookup f16 = some ⟨oc16, od16, .func (PySem.W.fnOf "check_hands" "check_hands" (defArgs s_check_hands) (defBody s_check_hands) (defScope s_check_hands) .none kV16 dc16 pm16 an16 cd16 ct16), sl16⟩)
    (c16 : PySem.W.codeIn K cd16 "check_hands" = true)
    (k16 : PySem.W.keepIn K (.ref f16) = true)
    (a17 : PySem.W.nsIn K mainGlobals "kinds_that_add" = some (some (.ref f17)))
    (l17 : K.lookup f17 = some ⟨oc17, od17, .func (PySem.W.fnOf "kinds_that_add" "kinds_that_add" (defArgs s_kinds_that_add) (defBody s_kinds_that_add) (defScope s_kinds_that_add) .none kV17 dc17 pm17 an17 cd17 ct17), sl17⟩)
    (c17 : PySem.W.codeIn K cd17 "kinds_that_add" = true)
    (k17 : PySem.W.keepIn K (.ref f17) = true)
    (a18 : PySem.W.nsIn K mainGlobals "is_endless" = some (some (.ref f18)))
    (l18 : K.lookup f18 = some ⟨oc18, od18, .func (PySem.W.fnOf "is_endless" "is_endless" (defArgs s_is_endless) (defBody s_is_endless) (defScope s_is_endless) .none kV18 dc18 pm18 an18 cd18 ct18), sl18⟩)
    (c18 : PySem.W.codeIn K cd18 "is_endless" = true)
    (k18 : PySem.W.keepIn K (.ref f18) = true)
    (a19 : PySem.W.nsIn K mainGlobals "kind_that_looks" = some (some (.ref f19)))
    (l19 : K.lookup f19 = some ⟨oc19, od19, .func (PySem.W.fnOf "kind_that_looks" "kind_that_looks" (defArgs s_kind_that_looks) (defBody s_kind_that_looks) (defScope s_kind_that_looks) .none kV19 dc19 pm19 an19 cd19 ct19), sl19⟩)
    (c19 : PySem.W.codeIn K cd19 "kind_that_looks" = true)
    (k19 : PySem.W.keepIn K (.ref f19) = true)
    (a20 : PySem.W.nsIn K mainGlobals "number_of" = some (some (.ref f20)))
    (l20 : K.lookup f20 = some ⟨oc20, od20, .func (PySem.W.fnOf "number_of" "number_of" (defArgs s_number_of) (defBody s_number_of) (defScope s_number_of) .none kV20 dc20 pm20 an20 cd20 ct20), sl20⟩)
    (c20 : PySem.W.codeIn K cd20 "number_of" = true)
    (k20 : PySem.W.keepIn K (.ref f20) = true)
    (a21 : PySem.W.nsIn K mainGlobals "form" = some (some (.ref f21)))
    (l21 : K.lookup f21 = some ⟨oc21, od21, .func (PySem.W.fnOf "form" "form" (defArgs s_form) (defBody s_form) (defScope s_form) .none kV21 dc21 pm21 an21 cd21 ct21), sl21⟩)
    (c21 : PySem.W.codeIn K cd21 "form" = true)
    (k21 : PySem.W.keepIn K (.ref f21) = true)
    (a22 : PySem.W.nsIn K mainGlobals "most_above" = some (some (.ref f22)))
    (l22 : K.lookup f22 = some ⟨oc22, od22, .func (PySem.W.fnOf "most_above" "most_above" (defArgs s_most_above) (defBody s_most_above) (defScope s_most_above) .none kV22 dc22 pm22 an22 cd22 ct22), sl22⟩)
    (c22 : PySem.W.codeIn K cd22 "most_above" = true)
    (k22 : PySem.W.keepIn K (.ref f22) = true)
    (a23 : PySem.W.nsIn K mainGlobals "check_rows" = some (some (.ref f23)))
    (l23 : K.lookup f23 = some ⟨oc23, od23, .func (PySem.W.fnOf "check_rows" "check_rows" (defArgs s_check_rows) (defBody s_check_rows) (defScope s_check_rows) .none kV23 dc23 pm23 an23 cd23 ct23), sl23⟩)
    (c23 : PySem.W.codeIn K cd23 "check_rows" = true)
    (k23 : PySem.W.keepIn K (.ref f23) = true)
    (a24 : PySem.W.nsIn K mainGlobals "check_fails" = some (some (.ref f24)))
    (l24 : K.lookup f24 = some ⟨oc24, od24, .func (PySem.W.fnOf "check_fails" "check_fails" (defArgs s_check_fails) (defBody s_check_fails) (defScope s_check_fails) .none kV24 dc24 pm24 an24 cd24 ct24), sl24⟩)
    (c24 : PySem.W.codeIn K cd24 "check_fails" = true)
    (k24 : PySem.W.keepIn K (.ref f24) = true)
    (a25 : PySem.W.nsIn K mainGlobals "check_bool" = some (some (.ref f25)))
    (l25 : K.lookup f25 = some ⟨oc25, od25, .func (PySem.W.fnOf "check_bool" "check_bool" (defArgs s_check_bool) (defBody s_check_bool) (defScope s_check_bool) .none kV25 dc25 pm25 an25 cd25 ct25), sl25⟩)
    (c25 : PySem.W.codeIn K cd25 "check_bool" = true)
    (k25 : PySem.W.keepIn K (.ref f25) = true)
    (a26 : PySem.W.nsIn K mainGlobals "check_holds" = some (some (.ref f26)))
    (l26 : K.lookup f26 = some ⟨oc26, od26, .func (PySem.W.fnOf "check_holds" "check_holds" (defArgs s_check_holds) (defBody s_check_holds) (defScope s_check_holds) .none kV26 dc26 pm26 an26 cd26 ct26), sl26⟩)
    (c26 : PySem.W.codeIn K cd26 "check_holds" = true)
    (k26 : PySem.W.keepIn K (.ref f26) = true)
    (a27 : PySem.W.nsIn K mainGlobals "check_batch" = some (some (.ref f27)))
    (l27 : K.lookup f27 = some ⟨oc27, od27, .func (PySem.W.fnOf "check_batch" "check_batch" (defArgs s_check_batch) (defBody s_check_batch) (defScope s_check_batch) .none kV27 dc27 pm27 an27 cd27 ct27), sl27⟩)
    (c27 : PySem.W.codeIn K cd27 "check_batch" = true)
    (k27 : PySem.W.keepIn K (.ref f27) = true)
    (a28 : PySem.W.nsIn K mainGlobals "check_row_kind" = some (some (.ref f28)))
    (l28 : K.lookup f28 = some ⟨oc28, od28, .func (PySem.W.fnOf "check_row_kind" "check_row_kind" (defArgs s_check_row_kind) (defBody s_check_row_kind) (defScope s_check_row_kind) .none kV28 dc28 pm28 an28 cd28 ct28), sl28⟩)
    (c28 : PySem.W.codeIn K cd28 "check_row_kind" = true)
    (k28 : PySem.W.keepIn K (.ref f28) = true)
    (a29 : PySem.W.findIn K (.ref C) "__init__" = some (some (.ref f29)))
    (i29 : PySem.W.isFn K (.ref f29) = true)
    (l29 : K.lookup f29 = some ⟨oc29, od29, .func (PySem.W.fnOf "__init__" "Book.__init__" (defArgs s_Binit) (defBody s_Binit) (defScope s_Binit) .none kV29 dc29 pm29 an29 cd29 ct29), sl29⟩)
    (c29 : PySem.W.codeIn K cd29 "Book.__init__" = true)
    (k29 : PySem.W.keepIn K (.ref f29) = true)
    (a30 : PySem.W.findIn K (.ref C) "fails" = some (some (.ref pr30)))
    (pA30 : PySem.W.specialIn K (.ref pr30) "__get__" = some (some (.builtin "property.__get__")))
    (pB30 : PySem.W.takesIn K (.ref pr30) = some true)
    (pC30 : PySem.W.recIn K pr30 "property" = some (.ref f30 :: pl30))
    (l30 : K.lookup f30 = some ⟨oc30, od30, .func (PySem.W.fnOf "fails" "Book.fails" (defArgs s_Bfails) (defBody s_Bfails) (defScope s_Bfails) .none kV30 dc30 pm30 an30 cd30 ct30), sl30⟩)
    (c30 : PySem.W.codeIn K cd30 "Book.fails" = true)
    (k30 : PySem.W.keepIn K (.ref f30) = true)
    (a31 : PySem.W.findIn K (.ref C) "batch" = some (some (.ref pr31)))
    (pA31 : PySem.W.specialIn K (.ref pr31) "__get__" = some (some (.builtin "property.__get__")))
    (pB31 : PySem.W.takesIn K (.ref pr31) = some true)
    (pC31 : PySem.W.recIn K pr31 "property" = some (.ref f31 :: pl31))
    (l31 : K.lookup f31 = some ⟨oc31, od31, .func (PySem.W.fnOf "batch" "Book.batch" (defArgs s_Bbatch) (defBody s_Bbatch) (defScope s_Bbatch) .none kV31 dc31 pm31 an31 cd31 ct31), sl31⟩)
    (c31 : PySem.W.codeIn K cd31 "Book.batch" = true)
    (k31 : PySem.W.keepIn K (.ref f31) = true)
    (a32 : PySem.W.findIn K (.ref C) "row" = some (some (.ref f32)))
    (i32 : PySem.W.isFn K (.ref f32) = true)
    (l32 : K.lookup f32 = some ⟨oc32, od32, .func (PySem.W.fnOf "row" "Book.row" (defArgs s_Brow) (defBody s_Brow) (defScope s_Brow) .none kV32 dc32 pm32 an32 cd32 ct32), sl32⟩)
    (c32 : PySem.W.codeIn K cd32 "Book.row" = true)
    (k32 : PySem.W.keepIn K (.ref f32) = true)
    (a33 : PySem.W.findIn K (.ref C) "with_holds" = some (some (.ref f33)))
    (i33 : PySem.W.isFn K (.ref f33) = true)
    (l33 : K.lookup f33 = some ⟨oc33, od33, .func (PySem.W.fnOf "with_holds" "Book.with_holds" (defArgs s_Bwith_holds) (defBody s_Bwith_holds) (defScope s_Bwith_holds) .none kV33 dc33 pm33 an33 cd33 ct33), sl33⟩)
    (c33 : PySem.W.codeIn K cd33 "Book.with_holds" = true)
    (k33 : PySem.W.keepIn K (.ref f33) = true)
    (a34 : PySem.W.nsIn K mainGlobals "_law_pot" = some (some (.ref f34)))
    (l34 : K.lookup f34 = some ⟨oc34, od34, .func (PySem.W.fnOf "_law_pot" "_law_pot" (defArgs s_Lpot) (defBody s_Lpot) (defScope s_Lpot) .none kV34 dc34 pm34 an34 cd34 ct34), sl34⟩)
    (c34 : PySem.W.codeIn K cd34 "_law_pot" = true)
    (k34 : PySem.W.keepIn K (.ref f34) = true)
    (a35 : PySem.W.nsIn K mainGlobals "_law_draw" = some (some (.ref f35)))
    (l35 : K.lookup f35 = some ⟨oc35, od35, .func (PySem.W.fnOf "_law_draw" "_law_draw" (defArgs s_Ldraw) (defBody s_Ldraw) (defScope s_Ldraw) .none kV35 dc35 pm35 an35 cd35 ct35), sl35⟩)
    (c35 : PySem.W.codeIn K cd35 "_law_draw" = true)
    (k35 : PySem.W.keepIn K (.ref f35) = true)
    (a36 : PySem.W.nsIn K mainGlobals "_law_pick" = some (some (.ref f36)))
    (l36 : K.lookup f36 = some ⟨oc36, od36, .func (PySem.W.fnOf "_law_pick" "_law_pick" (defArgs s_Lpick) (defBody s_Lpick) (defScope s_Lpick) .none kV36 dc36 pm36 an36 cd36 ct36), sl36⟩)
    (c36 : PySem.W.codeIn K cd36 "_law_pick" = true)
    (k36 : PySem.W.keepIn K (.ref f36) = true)
    (a37 : PySem.W.nsIn K mainGlobals "_law_sequences" = some (some (.ref f37)))
    (l37 : K.lookup f37 = some ⟨oc37, od37, .func (PySem.W.fnOf "_law_sequences" "_law_sequences" (defArgs s_Lsequences) (defBody s_Lsequences) (defScope s_Lsequences) .none kV37 dc37 pm37 an37 cd37 ct37), sl37⟩)
    (c37 : PySem.W.codeIn K cd37 "_law_sequences" = true)
    (k37 : PySem.W.keepIn K (.ref f37) = true)
    (a38 : PySem.W.nsIn K mainGlobals "_law_is_ahead" = some (some (.ref f38)))
    (l38 : K.lookup f38 = some ⟨oc38, od38, .func (PySem.W.fnOf "_law_is_ahead" "_law_is_ahead" (defArgs s_Lis_ahead) (defBody s_Lis_ahead) (defScope s_Lis_ahead) .none kV38 dc38 pm38 an38 cd38 ct38), sl38⟩)
    (c38 : PySem.W.codeIn K cd38 "_law_is_ahead" = true)
    (k38 : PySem.W.keepIn K (.ref f38) = true)
    (a39 : PySem.W.nsIn K mainGlobals "_law_is_take" = some (some (.ref f39)))
    (l39 : K.lookup f39 = some ⟨oc39, od39, .func (PySem.W.fnOf "_law_is_take" "_law_is_take" (defArgs s_Lis_take) (defBody s_Lis_take) (defScope s_Lis_take) .none kV39 dc39 pm39 an39 cd39 ct39), sl39⟩)
    (c39 : PySem.W.codeIn K cd39 "_law_is_take" = true)
    (k39 : PySem.W.keepIn K (.ref f39) = true)
    (a40 : PySem.W.nsIn K mainGlobals "_law_is_move" = some (some (.ref f40)))
    (l40 : K.lookup f40 = some ⟨oc40, od40, .func (PySem.W.fnOf "_law_is_move" "_law_is_move" (defArgs s_Lis_move) (defBody s_Lis_move) (defScope s_Lis_move) .none kV40 dc40 pm40 an40 cd40 ct40), sl40⟩)
    (c40 : PySem.W.codeIn K cd40 "_law_is_move" = true)
    (k40 : PySem.W.keepIn K (.ref f40) = true)
    (a41 : PySem.W.nsIn K mainGlobals "_law_takes" = some (some (.ref f41)))
    (l41 : K.lookup f41 = some ⟨oc41, od41, .func (PySem.W.fnOf "_law_takes" "_law_takes" (defArgs s_Ltakes) (defBody s_Ltakes) (defScope s_Ltakes) .none kV41 dc41 pm41 an41 cd41 ct41), sl41⟩)
    (c41 : PySem.W.codeIn K cd41 "_law_takes" = true)
    (k41 : PySem.W.keepIn K (.ref f41) = true)
    (a42 : PySem.W.nsIn K mainGlobals "_law_moves" = some (some (.ref f42)))
    (l42 : K.lookup f42 = some ⟨oc42, od42, .func (PySem.W.fnOf "_law_moves" "_law_moves" (defArgs s_Lmoves) (defBody s_Lmoves) (defScope s_Lmoves) .none kV42 dc42 pm42 an42 cd42 ct42), sl42⟩)
    (c42 : PySem.W.codeIn K cd42 "_law_moves" = true)
    (k42 : PySem.W.keepIn K (.ref f42) = true)
    (a43 : PySem.W.nsIn K mainGlobals "_law_menu" = some (some (.ref f43)))
    (l43 : K.lookup f43 = some ⟨oc43, od43, .func (PySem.W.fnOf "_law_menu" "_law_menu" (defArgs s_Lmenu) (defBody s_Lmenu) (defScope s_Lmenu) .none kV43 dc43 pm43 an43 cd43 ct43), sl43⟩)
    (c43 : PySem.W.codeIn K cd43 "_law_menu" = true)
    (k43 : PySem.W.keepIn K (.ref f43) = true)
    (a44 : PySem.W.nsIn K mainGlobals "_law_rules" = some (some (.ref f44)))
    (l44 : K.lookup f44 = some ⟨oc44, od44, .func (PySem.W.fnOf "_law_rules" "_law_rules" (defArgs s_Lrules) (defBody s_Lrules) (defScope s_Lrules) .none kV44 dc44 pm44 an44 cd44 ct44), sl44⟩)
    (c44 : PySem.W.codeIn K cd44 "_law_rules" = true)
    (k44 : PySem.W.keepIn K (.ref f44) = true)
    (a45 : PySem.W.nsIn K mainGlobals "_law_book" = some (some (.ref f45)))
    (l45 : K.lookup f45 = some ⟨oc45, od45, .func (PySem.W.fnOf "_law_book" "_law_book" (defArgs s_Lbook) (defBody s_Lbook) (defScope s_Lbook) .none kV45 dc45 pm45 an45 cd45 ct45), sl45⟩)
    (c45 : PySem.W.codeIn K cd45 "_law_book" = true)
    (k45 : PySem.W.keepIn K (.ref f45) = true)
    (a46 : PySem.W.nsIn K mainGlobals "_law_form" = some (some (.ref f46)))
    (l46 : K.lookup f46 = some ⟨oc46, od46, .func (PySem.W.fnOf "_law_form" "_law_form" (defArgs s_Lform) (defBody s_Lform) (defScope s_Lform) .none kV46 dc46 pm46 an46 cd46 ct46), sl46⟩)
    (c46 : PySem.W.codeIn K cd46 "_law_form" = true)
    (k46 : PySem.W.keepIn K (.ref f46) = true)
    (a47 : PySem.W.nsIn K mainGlobals "_law_form_right" = some (some (.ref f47)))
    (l47 : K.lookup f47 = some ⟨oc47, od47, .func (PySem.W.fnOf "_law_form_right" "_law_form_right" (defArgs s_Lform_right) (defBody s_Lform_right) (defScope s_Lform_right) .none kV47 dc47 pm47 an47 cd47 ct47), sl47⟩)
    (c47 : PySem.W.codeIn K cd47 "_law_form_right" = true)
    (k47 : PySem.W.keepIn K (.ref f47) = true)
    (a48 : PySem.W.nsIn K mainGlobals "_law_right" = some (some (.ref f48)))
    (l48 : K.lookup f48 = some ⟨oc48, od48, .func (PySem.W.fnOf "_law_right" "_law_right" (defArgs s_Lright) (defBody s_Lright) (defScope s_Lright) .none kV48 dc48 pm48 an48 cd48 ct48), sl48⟩)
    (c48 : PySem.W.codeIn K cd48 "_law_right" = true)
    (k48 : PySem.W.keepIn K (.ref f48) = true)
    (a49 : PySem.W.nsIn K mainGlobals "law" = some (some (.ref f49)))
    (l49 : K.lookup f49 = some ⟨oc49, od49, .func (PySem.W.fnOf "law" "law" (defArgs s_law) (defBody s_law) (defScope s_law) .none kV49 dc49 pm49 an49 cd49 ct49), sl49⟩)
    (c49 : PySem.W.codeIn K cd49 "law" = true)
    (k49 : PySem.W.keepIn K (.ref f49) = true)
    (z_abs : PySem.W.nsIn K mainGlobals "abs" = some none)
    (z_all : PySem.W.nsIn K mainGlobals "all" = some none)
    (z_any : PySem.W.nsIn K mainGlobals "any" = some none)
    (z_bool : PySem.W.nsIn K mainGlobals "bool" = some none)
    (z_divmod : PySem.W.nsIn K mainGlobals "divmod" = some none)
    (z_int : PySem.W.nsIn K mainGlobals "int" = some none)
    (z_isinstance : PySem.W.nsIn K mainGlobals "isinstance" = some none)
    (z_len : PySem.W.nsIn K mainGlobals "len" = some none)
    (z_list : PySem.W.nsIn K mainGlobals "list" = some none)
    (z_max : PySem.W.nsIn K mainGlobals "max" = some none)
    (z_min : PySem.W.nsIn K mainGlobals "min" = some none)
    (z_range : PySem.W.nsIn K mainGlobals "range" = some none)
    (z_repr : PySem.W.nsIn K mainGlobals "repr" = some none)
    (z_set : PySem.W.nsIn K mainGlobals "set" = some none)
    (z_str : PySem.W.nsIn K mainGlobals "str" = some none)
    (z_tuple : PySem.W.nsIn K mainGlobals "tuple" = some none)
    (g_MOST_BATCH : PySem.W.nsIn K mainGlobals "MOST_BATCH" = some (some (.int 50 t_MOST_BATCH)))
    (g_FAILS : PySem.W.nsIn K mainGlobals "FAILS" = some (some (.ref T_FAILS)))
    (h_T_FAILS : K.lookup T_FAILS = some ⟨.type "tuple", d_T_FAILS, .seq #[.str "undo" k0_T_FAILS, .str "leave" k1_T_FAILS, .str "wait" k2_T_FAILS] n_T_FAILS, l_T_FAILS⟩)
    (g_ROW_KINDS : PySem.W.nsIn K mainGlobals "ROW_KINDS" = some (some (.ref T_ROW_KINDS)))
    (h_T_ROW_KINDS : K.lookup T_ROW_KINDS = some ⟨.type "tuple", d_T_ROW_KINDS, .seq #[.str "take" k0_T_ROW_KINDS, .str "give" k1_T_ROW_KINDS, .str "move" k2_T_ROW_KINDS, .str "lift" k3_T_ROW_KINDS] n_T_ROW_KINDS, l_T_ROW_KINDS⟩)
    (g_LIFT_ROWS : PySem.W.nsIn K mainGlobals "LIFT_ROWS" = some (some (.ref T_LIFT_ROWS)))
    (h_T_LIFT_ROWS : K.lookup T_LIFT_ROWS = some ⟨.type "tuple", d_T_LIFT_ROWS, .seq #[.ref T0_LIFT_ROWS, .ref T1_LIFT_ROWS, .ref T2_LIFT_ROWS, .ref T3_LIFT_ROWS, .ref T4_LIFT_ROWS, .ref T5_LIFT_ROWS] n_T_LIFT_ROWS, l_T_LIFT_ROWS⟩)
    (h_T0_LIFT_ROWS : K.lookup T0_LIFT_ROWS = some ⟨.type "tuple", d_T0_LIFT_ROWS, .seq #[] n_T0_LIFT_ROWS, l_T0_LIFT_ROWS⟩)
    (h_T1_LIFT_ROWS : K.lookup T1_LIFT_ROWS = some ⟨.type "tuple", d_T1_LIFT_ROWS, .seq #[.str "set" k0_T1_LIFT_ROWS] n_T1_LIFT_ROWS, l_T1_LIFT_ROWS⟩)
    (h_T2_LIFT_ROWS : K.lookup T2_LIFT_ROWS = some ⟨.type "tuple", d_T2_LIFT_ROWS, .seq #[.str "off" k0_T2_LIFT_ROWS] n_T2_LIFT_ROWS, l_T2_LIFT_ROWS⟩)
    (h_T3_LIFT_ROWS : K.lookup T3_LIFT_ROWS = some ⟨.type "tuple", d_T3_LIFT_ROWS, .seq #[.str "set" k0_T3_LIFT_ROWS, .str "off" k1_T3_LIFT_ROWS] n_T3_LIFT_ROWS, l_T3_LIFT_ROWS⟩)
    (h_T4_LIFT_ROWS : K.lookup T4_LIFT_ROWS = some ⟨.type "tuple", d_T4_LIFT_ROWS, .seq #[.str "off" k0_T4_LIFT_ROWS, .str "set" k1_T4_LIFT_ROWS] n_T4_LIFT_ROWS, l_T4_LIFT_ROWS⟩)
    (h_T5_LIFT_ROWS : K.lookup T5_LIFT_ROWS = some ⟨.type "tuple", d_T5_LIFT_ROWS, .seq #[.str "both" k0_T5_LIFT_ROWS] n_T5_LIFT_ROWS, l_T5_LIFT_ROWS⟩)
    (g_ROW_CHECKS : PySem.W.nsIn K mainGlobals "ROW_CHECKS" = some (some (.ref T_ROW_CHECKS)))
    (h_ROW_CHECKS : K.lookup T_ROW_CHECKS = some ⟨.type "dict", none, .dict es_ROW_CHECKS n_ROW_CHECKS, #[]⟩)
    (y_ROW_CHECKS : PySem.W.KeysLit w.params es_ROW_CHECKS.toList)
    (x_ROW_CHECKS_take : PySem.W.nsIn K T_ROW_CHECKS "take" = some (some (.ref f9)))
    (x_ROW_CHECKS_give : PySem.W.nsIn K T_ROW_CHECKS "give" = some (some (.ref f10)))
    (x_ROW_CHECKS_move : PySem.W.nsIn K T_ROW_CHECKS "move" = some (some (.ref f11)))
    (x_ROW_CHECKS_lift : PySem.W.nsIn K T_ROW_CHECKS "lift" = some (some (.ref f12)))
    : ∃ fd : FuncData, (∀ (s : Shared) (v : Value), BindsTo s fd ⟨[v], []⟩ [("_law_script", v)]) ∧ ∀ base : Heap, K.In base → base.Ns mainGlobals mg → FnG l.prog w K mg base CX0 13 fa fd ["_law_script"] (sp_law K) := by
  cases hfa.symm.trans (PySem.W.mg_of X G a49)
  have F1 := fun_mk (st := s_is_an_integer) l1 c1 k1
  have B1 := F1.binds (ps := ["value"]) fun _ _ _ _ _ _ us hl => match us, hl with | [_], _ => rfl
  have F2 := fun_mk (st := s_is_list) l2 c2 k2
  have B2 := F2.binds (ps := ["value"]) fun _ _ _ _ _ _ us hl => match us, hl with | [_], _ => rfl
  have F3 := fun_mk (st := s_is_word) l3 c3 k3
  have B3 := F3.binds (ps := ["value", "words"]) fun _ _ _ _ _ _ us hl => match us, hl with | [_, _], _ => rfl
  have F4 := fun_mk (st := s_are_different_words) l4 c4 k4
  have B4 := F4.binds (ps := ["values", "words"]) fun _ _ _ _ _ _ us hl => match us, hl with | [_, _], _ => rfl
  have F5 := fun_mk (st := s_has_words_of) l5 c5 k5
  have B5 := F5.binds (ps := ["value", "words"]) fun _ _ _ _ _ _ us hl => match us, hl with | [_, _], _ => rfl
  have F6 := fun_mk (st := s_tests_are_ahead) l6 c6 k6
  have B6 := F6.binds (ps := ["row", "word"]) fun _ _ _ _ _ _ us hl => match us, hl with | [_, _], _ => rfl
  have F7 := fun_mk (st := s_look_is_behind) l7 c7 k7
  have B7 := F7.binds (ps := ["row"]) fun _ _ _ _ _ _ us hl => match us, hl with | [_], _ => rfl
  have F8 := fun_mk (st := s_off_has_home) l8 c8 k8
  have B8 := F8.binds (ps := ["row"]) fun _ _ _ _ _ _ us hl => match us, hl with | [_], _ => rfl
  have F9 := fun_mk (st := s_is_take_row) l9 c9 k9
  have B9 := F9.binds (ps := ["value"]) fun _ _ _ _ _ _ us hl => match us, hl with | [_], _ => rfl
  have F10 := fun_mk (st := s_is_give_row) l10 c10 k10
  have B10 := F10.binds (ps := ["value"]) fun _ _ _ _ _ _ us hl => match us, hl with | [_], _ => rfl
  have F11 := fun_mk (st := s_is_move_row) l11 c11 k11
  have B11 := F11.binds (ps := ["value"]) fun _ _ _ _ _ _ us hl => match us, hl with | [_], _ => rfl
  have F12 := fun_mk (st := s_is_lift_row) l12 c12 k12
  have B12 := F12.binds (ps := ["value"]) fun _ _ _ _ _ _ us hl => match us, hl with | [_], _ => rfl
  have F13 := fun_mk (st := s_is_row) l13 c13 k13
  have B13 := F13.binds (ps := ["kind", "value"]) fun _ _ _ _ _ _ us hl => match us, hl with | [_, _], _ => rfl
  have F14 := fun_mk (st := s_fits_batch) l14 c14 k14
  have B14 := F14.binds (ps := ["row", "batch"]) fun _ _ _ _ _ _ us hl => match us, hl with | [_, _], _ => rfl
  have F15 := fun_mk (st := s_fits_shared) l15 c15 k15
  have B15 := F15.binds (ps := ["row", "shared"]) fun _ _ _ _ _ _ us hl => match us, hl with | [_, _], _ => rfl
  have F16 := fun_mk (st := s_check_hands) l16 c16 k16
  have B16 := F16.binds (ps := ["value"]) fun _ _ _ _ _ _ us hl => match us, hl with | [_], _ => rfl
  have F17 := fun_mk (st := s_kinds_that_add) l17 c17 k17
  have B17 := F17.binds (ps := ["book"]) fun _ _ _ _ _ _ us hl => match us, hl with | [_], _ => rfl
  have F18 := fun_mk (st := s_is_endless) l18 c18 k18
  have B18 := F18.binds (ps := ["book", "kind"]) fun _ _ _ _ _ _ us hl => match us, hl with | [_, _], _ => rfl
  have F19 := fun_mk (st := s_kind_that_looks) l19 c19 k19
  have B19 := F19.binds (ps := ["book", "behind"]) fun _ _ _ _ _ _ us hl => match us, hl with | [_, _], _ => rfl
  have F20 := fun_mk (st := s_number_of) l20 c20 k20
  have B20 := F20.binds (ps := ["book", "kind"]) fun _ _ _ _ _ _ us hl => match us, hl with | [_, _], _ => rfl
  have F21 := fun_mk (st := s_form) l21 c21 k21
  have B21 := F21.binds (ps := ["book"]) fun _ _ _ _ _ _ us hl => match us, hl with | [_], _ => rfl
  have F22 := fun_mk (st := s_most_above) l22 c22 k22
  have B22 := F22.binds (ps := ["book", "hands"]) fun _ _ _ _ _ _ us hl => match us, hl with | [_, _], _ => rfl
  have F23 := fun_mk (st := s_check_rows) l23 c23 k23
  have B23 := F23.binds (ps := ["rows"]) fun _ _ _ _ _ _ us hl => match us, hl with | [_], _ => rfl
  have F24 := fun_mk (st := s_check_fails) l24 c24 k24
  have B24 := F24.binds (ps := ["value"]) fun _ _ _ _ _ _ us hl => match us, hl with | [_], _ => rfl
  have F25 := fun_mk (st := s_check_bool) l25 c25 k25
  have B25 := F25.binds (ps := ["name", "value"]) fun _ _ _ _ _ _ us hl => match us, hl with | [_, _], _ => rfl
  have F26 := fun_mk (st := s_check_holds) l26 c26 k26
  have B26 := F26.binds (ps := ["value"]) fun _ _ _ _ _ _ us hl => match us, hl with | [_], _ => rfl
  have F27 := fun_mk (st := s_check_batch) l27 c27 k27
  have B27 := F27.binds (ps := ["value"]) fun _ _ _ _ _ _ us hl => match us, hl with | [_], _ => rfl
  have F28 := fun_mk (st := s_check_row_kind) l28 c28 k28
  have B28 := F28.binds (ps := ["value"]) fun _ _ _ _ _ _ us hl => match us, hl with | [_], _ => rfl
  have F29 := fun_mk (st := s_Binit) l29 c29 k29
  have F30 := fun_mk (st := s_Bfails) l30 c30 k30
  have B30 := F30.binds (ps := ["self"]) fun _ _ _ _ _ _ us hl => match us, hl with | [_], _ => rfl
  have F31 := fun_mk (st := s_Bbatch) l31 c31 k31
  have B31 := F31.binds (ps := ["self"]) fun _ _ _ _ _ _ us hl => match us, hl with | [_], _ => rfl
  have F32 := fun_mk (st := s_Brow) l32 c32 k32
  have B32 := F32.binds (ps := ["self", "kind"]) fun _ _ _ _ _ _ us hl => match us, hl with | [_, _], _ => rfl
  have F33 := fun_mk (st := s_Bwith_holds) l33 c33 k33
  have B33 := F33.binds (ps := ["self", "holds"]) fun _ _ _ _ _ _ us hl => match us, hl with | [_, _], _ => rfl
  have F34 := fun_mk (st := s_Lpot) l34 c34 k34
  have B34 := F34.binds (ps := ["_law_script", "_law_k"]) fun _ _ _ _ _ _ us hl => match us, hl with | [_, _], _ => rfl
  have F35 := fun_mk (st := s_Ldraw) l35 c35 k35
  have B35 := F35.binds (ps := ["_law_pot_here", "_law_sides"]) fun _ _ _ _ _ _ us hl => match us, hl with | [_, _], _ => rfl
  have F36 := fun_mk (st := s_Lpick) l36 c36 k36
  have B36 := F36.binds (ps := ["_law_pot_here", "_law_some"]) fun _ _ _ _ _ _ us hl => match us, hl with | [_, _], _ => rfl
  have F37 := fun_mk (st := s_Lsequences) l37 c37 k37
  have B37 := F37.binds (ps := ["_law_words"]) fun _ _ _ _ _ _ us hl => match us, hl with | [_], _ => rfl
  have F38 := fun_mk (st := s_Lis_ahead) l38 c38 k38
  have B38 := F38.binds (ps := ["_law_some", "_law_word", "_law_later"]) fun _ _ _ _ _ _ us hl => match us, hl with | [_, _, _], _ => rfl
  have F39 := fun_mk (st := s_Lis_take) l39 c39 k39
  have B39 := F39.binds (ps := ["_law_some", "_law_amount"]) fun _ _ _ _ _ _ us hl => match us, hl with | [_, _], _ => rfl
  have F40 := fun_mk (st := s_Lis_move) l40 c40 k40
  have B40 := F40.binds (ps := ["_law_some", "_law_is_shared"]) fun _ _ _ _ _ _ us hl => match us, hl with | [_, _], _ => rfl
  have F41 := fun_mk (st := s_Ltakes) l41 c41 k41
  have B41 := F41.binds (ps := ["_law_amount"]) fun _ _ _ _ _ _ us hl => match us, hl with | [_], _ => rfl
  have F42 := fun_mk (st := s_Lmoves) l42 c42 k42
  have B42 := F42.binds (ps := ["_law_is_shared"]) fun _ _ _ _ _ _ us hl => match us, hl with | [_], _ => rfl
  have F43 := fun_mk (st := s_Lmenu) l43 c43 k43
  have B43 := F43.binds (ps := ["_law_sort"]) fun _ _ _ _ _ _ us hl => match us, hl with | [_], _ => rfl
  have F44 := fun_mk (st := s_Lrules) l44 c44 k44
  have B44 := F44.binds (ps := ["_law_pot_here", "_law_way", "_law_most"]) fun _ _ _ _ _ _ us hl => match us, hl with | [_, _, _], _ => rfl
  have F45 := fun_mk (st := s_Lbook) l45 c45 k45
  have B45 := F45.binds (ps := ["_law_rules_here"]) fun _ _ _ _ _ _ us hl => match us, hl with | [_], _ => rfl
  have F46 := fun_mk (st := s_Lform) l46 c46 k46
  have B46 := F46.binds (ps := ["_law_rules_here"]) fun _ _ _ _ _ _ us hl => match us, hl with | [_], _ => rfl
  have F47 := fun_mk (st := s_Lform_right) l47 c47 k47
  have B47 := F47.binds (ps := ["_law_rules_here", "_law_tome"]) fun _ _ _ _ _ _ us hl => match us, hl with | [_, _], _ => rfl
  have F48 := fun_mk (st := s_Lright) l48 c48 k48
  have B48 := F48.binds (ps := ["_law_pot_here"]) fun _ _ _ _ _ _ us hl => match us, hl with | [_], _ => rfl
  have F49 := fun_mk (st := s_law) l49 c49 k49
  have B49 := F49.binds (ps := ["_law_script"]) fun _ _ _ _ _ _ us hl => match us, hl with | [_], _ => rfl
  let T : Txt K mg w := {
    C := C,
    c_Book := ⟨pg, hd, po, sa⟩,
    m_Book := PySem.W.mg_of X G aC,
    n_parts := n_parts,
    x_class := x_class,
    x_get := x_get,
    x_tk := x_tk,
    x_mro := x_mro,
    x_ne := x_ne,
    x_cls := x_cls,
    x_ty := x_ty,
    f_is_an_integer := f1,
    fd_is_an_integer := PySem.W.fnOf "is_an_integer" "is_an_integer" (defArgs s_is_an_integer) (defBody s_is_an_integer) (defScope s_is_an_integer) .none kV1 dc1 pm1 an1 cd1 ct1,
    F_is_an_integer := F1,
    b_is_an_integer := B1,
    m_is_an_integer := PySem.W.mg_of X G a1,
    f_is_list := f2,
    fd_is_list := PySem.W.fnOf "is_list" "is_list" (defArgs s_is_list) (defBody s_is_list) (defScope s_is_list) .none kV2 dc2 pm2 an2 cd2 ct2,
    F_is_list := F2,
    b_is_list := B2,
    m_is_list := PySem.W.mg_of X G a2,
    f_is_word := f3,
    fd_is_word := PySem.W.fnOf "is_word" "is_word" (defArgs s_is_word) (defBody s_is_word) (defScope s_is_word) .none kV3 dc3 pm3 an3 cd3 ct3,
    F_is_word := F3,
    b_is_word := B3,
    m_is_word := PySem.W.mg_of X G a3,
    f_are_different_words := f4,
    fd_are_different_words := PySem.W.fnOf "are_different_words" "are_different_words" (defArgs s_are_different_words) (defBody s_are_different_words) (defScope s_are_different_words) .none kV4 dc4 pm4 an4 cd4 ct4,
    F_are_different_words := F4,
    b_are_different_words := B4,
    m_are_different_words := PySem.W.mg_of X G a4,
    f_has_words_of := f5,
    fd_has_words_of := PySem.W.fnOf "has_words_of" "has_words_of" (defArgs s_has_words_of) (defBody s_has_words_of) (defScope s_has_words_of) .none kV5 dc5 pm5 an5 cd5 ct5,
    F_has_words_of := F5,
    b_has_words_of := B5,
    m_has_words_of := PySem.W.mg_of X G a5,
    f_tests_are_ahead := f6,
    fd_tests_are_ahead := PySem.W.fnOf "tests_are_ahead" "tests_are_ahead" (defArgs s_tests_are_ahead) (defBody s_tests_are_ahead) (defScope s_tests_are_ahead) .none kV6 dc6 pm6 an6 cd6 ct6,
    F_tests_are_ahead := F6,
    b_tests_are_ahead := B6,
    m_tests_are_ahead := PySem.W.mg_of X G a6,
    f_look_is_behind := f7,
    fd_look_is_behind := PySem.W.fnOf "look_is_behind" "look_is_behind" (defArgs s_look_is_behind) (defBody s_look_is_behind) (defScope s_look_is_behind) .none kV7 dc7 pm7 an7 cd7 ct7,
    F_look_is_behind := F7,
    b_look_is_behind := B7,
    m_look_is_behind := PySem.W.mg_of X G a7,
    f_off_has_home := f8,
    fd_off_has_home := PySem.W.fnOf "off_has_home" "off_has_home" (defArgs s_off_has_home) (defBody s_off_has_home) (defScope s_off_has_home) .none kV8 dc8 pm8 an8 cd8 ct8,
    F_off_has_home := F8,
    b_off_has_home := B8,
    m_off_has_home := PySem.W.mg_of X G a8,
    f_is_take_row := f9,
    fd_is_take_row := PySem.W.fnOf "is_take_row" "is_take_row" (defArgs s_is_take_row) (defBody s_is_take_row) (defScope s_is_take_row) .none kV9 dc9 pm9 an9 cd9 ct9,
    F_is_take_row := F9,
    b_is_take_row := B9,
    m_is_take_row := PySem.W.mg_of X G a9,
    f_is_give_row := f10,
    fd_is_give_row := PySem.W.fnOf "is_give_row" "is_give_row" (defArgs s_is_give_row) (defBody s_is_give_row) (defScope s_is_give_row) .none kV10 dc10 pm10 an10 cd10 ct10,
    F_is_give_row := F10,
    b_is_give_row := B10,
    m_is_give_row := PySem.W.mg_of X G a10,
    f_is_move_row := f11,
    fd_is_move_row := PySem.W.fnOf "is_move_row" "is_move_row" (defArgs s_is_move_row) (defBody s_is_move_row) (defScope s_is_move_row) .none kV11 dc11 pm11 an11 cd11 ct11,
    F_is_move_row := F11,
    b_is_move_row := B11,
    m_is_move_row := PySem.W.mg_of X G a11,
    f_is_lift_row := f12,
    fd_is_lift_row := PySem.W.fnOf "is_lift_row" "is_lift_row" (defArgs s_is_lift_row) (defBody s_is_lift_row) (defScope s_is_lift_row) .none kV12 dc12 pm12 an12 cd12 ct12,
    F_is_lift_row := F12,
    b_is_lift_row := B12,
    m_is_lift_row := PySem.W.mg_of X G a12,
    f_is_row := f13,
    fd_is_row := PySem.W.fnOf "is_row" "is_row" (defArgs s_is_row) (defBody s_is_row) (defScope s_is_row) .none kV13 dc13 pm13 an13 cd13 ct13,
    F_is_row := F13,
    b_is_row := B13,
    m_is_row := PySem.W.mg_of X G a13,
    f_fits_batch := f14,
    fd_fits_batch := PySem.W.fnOf "fits_batch" "fits_batch" (defArgs s_fits_batch) (defBody s_fits_batch) (defScope s_fits_batch) .none kV14 dc14 pm14 an14 cd14 ct14,
    F_fits_batch := F14,
    b_fits_batch := B14,
    m_fits_batch := PySem.W.mg_of X G a14,
    f_fits_shared := f15,
    fd_fits_shared := PySem.W.fnOf "fits_shared" "fits_shared" (defArgs s_fits_shared) (defBody s_fits_shared) (defScope s_fits_shared) .none kV15 dc15 pm15 an15 cd15 ct15,
    F_fits_shared := F15,
    b_fits_shared := B15,
    m_fits_shared := PySem.W.mg_of X G a15,
    f_check_hands := f16,
    fd_check_hands := PySem.W.fnOf "check_hands" "check_hands" (defArgs s_check_hands) (defBody s_check_hands) (defScope s_check_hands) .none kV16 dc16 pm16 an16 cd16 ct16,
    F_check_hands := F16,
    b_check_hands := B16,
    m_check_hands := PySem.W.mg_of X G a16,
    f_kinds_that_add := f17,
    fd_kinds_that_add := PySem.W.fnOf "kinds_that_add" "kinds_that_add" (defArgs s_kinds_that_add) (defBody s_kinds_that_add) (defScope s_kinds_that_add) .none kV17 dc17 pm17 an17 cd17 ct17,
    F_kinds_that_add := F17,
    b_kinds_that_add := B17,
    m_kinds_that_add := PySem.W.mg_of X G a17,
    f_is_endless := f18,
    fd_is_endless := PySem.W.fnOf "is_endless" "is_endless" (defArgs s_is_endless) (defBody s_is_endless) (defScope s_is_endless) .none kV18 dc18 pm18 an18 cd18 ct18,
    F_is_endless := F18,
    b_is_endless := B18,
    m_is_endless := PySem.W.mg_of X G a18,
    f_kind_that_looks := f19,
    fd_kind_that_looks := PySem.W.fnOf "kind_that_looks" "kind_that_looks" (defArgs s_kind_that_looks) (defBody s_kind_that_looks) (defScope s_kind_that_looks) .none kV19 dc19 pm19 an19 cd19 ct19,
    F_kind_that_looks := F19,
    b_kind_that_looks := B19,
    m_kind_that_looks := PySem.W.mg_of X G a19,
    f_number_of := f20,
    fd_number_of := PySem.W.fnOf "number_of" "number_of" (defArgs s_number_of) (defBody s_number_of) (defScope s_number_of) .none kV20 dc20 pm20 an20 cd20 ct20,
    F_number_of := F20,
    b_number_of := B20,
    m_number_of := PySem.W.mg_of X G a20,
    f_form := f21,
    fd_form := PySem.W.fnOf "form" "form" (defArgs s_form) (defBody s_form) (defScope s_form) .none kV21 dc21 pm21 an21 cd21 ct21,
    F_form := F21,
    b_form := B21,
    m_form := PySem.W.mg_of X G a21,
    k_form_book := ⟨fun s us ws _ l1 l2 => match us, l1, ws, l2 with | [], _, [_], _ => .of_eq rfl, fun r1 r2 => sel_rel r1 .nil r2 _⟩,
    f_most_above := f22,
    fd_most_above := PySem.W.fnOf "most_above" "most_above" (defArgs s_most_above) (defBody s_most_above) (defScope s_most_above) .none kV22 dc22 pm22 an22 cd22 ct22,
    F_most_above := F22,
    b_most_above := B22,
    m_most_above := PySem.W.mg_of X G a22,
    k_most_above_hands_book := ⟨fun s us ws _ l1 l2 => match us, l1, ws, l2 with | [], _, [_, _], _ => .of_eq rfl, fun r1 r2 => sel_rel r1 .nil r2 _⟩,
    f_check_rows := f23,
    fd_check_rows := PySem.W.fnOf "check_rows" "check_rows" (defArgs s_check_rows) (defBody s_check_rows) (defScope s_check_rows) .none kV23 dc23 pm23 an23 cd23 ct23,
    F_check_rows := F23,
    b_check_rows := B23,
    m_check_rows := PySem.W.mg_of X G a23,
    f_check_fails := f24,
    fd_check_fails := PySem.W.fnOf "check_fails" "check_fails" (defArgs s_check_fails) (defBody s_check_fails) (defScope s_check_fails) .none kV24 dc24 pm24 an24 cd24 ct24,
    F_check_fails := F24,
    b_check_fails := B24,
    m_check_fails := PySem.W.mg_of X G a24,
    f_check_bool := f25,
    fd_check_bool := PySem.W.fnOf "check_bool" "check_bool" (defArgs s_check_bool) (defBody s_check_bool) (defScope s_check_bool) .none kV25 dc25 pm25 an25 cd25 ct25,
    F_check_bool := F25,
    b_check_bool := B25,
    m_check_bool := PySem.W.mg_of X G a25,
    f_check_holds := f26,
    fd_check_holds := PySem.W.fnOf "check_holds" "check_holds" (defArgs s_check_holds) (defBody s_check_holds) (defScope s_check_holds) .none kV26 dc26 pm26 an26 cd26 ct26,
    F_check_holds := F26,
    b_check_holds := B26,
    m_check_holds := PySem.W.mg_of X G a26,
    f_check_batch := f27,
    fd_check_batch := PySem.W.fnOf "check_batch" "check_batch" (defArgs s_check_batch) (defBody s_check_batch) (defScope s_check_batch) .none kV27 dc27 pm27 an27 cd27 ct27,
    F_check_batch := F27,
    b_check_batch := B27,
    m_check_batch := PySem.W.mg_of X G a27,
    f_check_row_kind := f28,
    fd_check_row_kind := PySem.W.fnOf "check_row_kind" "check_row_kind" (defArgs s_check_row_kind) (defBody s_check_row_kind) (defScope s_check_row_kind) .none kV28 dc28 pm28 an28 cd28 ct28,
    F_check_row_kind := F28,
    b_check_row_kind := B28,
    m_check_row_kind := PySem.W.mg_of X G a28,
    f_Binit := f29,
    fd_Binit := PySem.W.fnOf "__init__" "Book.__init__" (defArgs s_Binit) (defBody s_Binit) (defScope s_Binit) .none kV29 dc29 pm29 an29 cd29 ct29,
    F_Binit := F29,
    mk_Book := ⟨mk, a29, i29, kc⟩,
    k_Binit := ⟨fun s us ws _ l1 l2 => match us, l1, ws, l2 with | [_], _, [_, _, _, _, _, _, _, _, _], _ => .of_eq rfl, fun r1 r2 => r1.append r2⟩,
    f_Bfails := f30,
    fd_Bfails := PySem.W.fnOf "fails" "Book.fails" (defArgs s_Bfails) (defBody s_Bfails) (defScope s_Bfails) .none kV30 dc30 pm30 an30 cd30 ct30,
    F_Bfails := F30,
    b_Bfails := B30,
    p_Bfails := pr30,
    P_Bfails := ⟨a30, pA30, pB30, _, pC30⟩,
    f_Bbatch := f31,
    fd_Bbatch := PySem.W.fnOf "batch" "Book.batch" (defArgs s_Bbatch) (defBody s_Bbatch) (defScope s_Bbatch) .none kV31 dc31 pm31 an31 cd31 ct31,
    F_Bbatch := F31,
    b_Bbatch := B31,
    p_Bbatch := pr31,
    P_Bbatch := ⟨a31, pA31, pB31, _, pC31⟩,
    f_Brow := f32,
    fd_Brow := PySem.W.fnOf "row" "Book.row" (defArgs s_Brow) (defBody s_Brow) (defScope s_Brow) .none kV32 dc32 pm32 an32 cd32 ct32,
    F_Brow := F32,
    b_Brow := B32,
    M_Brow := ⟨a32, i32, k32⟩,
    f_Bwith_holds := f33,
    fd_Bwith_holds := PySem.W.fnOf "with_holds" "Book.with_holds" (defArgs s_Bwith_holds) (defBody s_Bwith_holds) (defScope s_Bwith_holds) .none kV33 dc33 pm33 an33 cd33 ct33,
    F_Bwith_holds := F33,
    b_Bwith_holds := B33,
    M_Bwith_holds := ⟨a33, i33, k33⟩,
    f_Lpot := f34,
    fd_Lpot := PySem.W.fnOf "_law_pot" "_law_pot" (defArgs s_Lpot) (defBody s_Lpot) (defScope s_Lpot) .none kV34 dc34 pm34 an34 cd34 ct34,
    F_Lpot := F34,
    b_Lpot := B34,
    m_Lpot := PySem.W.mg_of X G a34,
    f_Ldraw := f35,
    fd_Ldraw := PySem.W.fnOf "_law_draw" "_law_draw" (defArgs s_Ldraw) (defBody s_Ldraw) (defScope s_Ldraw) .none kV35 dc35 pm35 an35 cd35 ct35,
    F_Ldraw := F35,
    b_Ldraw := B35,
    m_Ldraw := PySem.W.mg_of X G a35,
    f_Lpick := f36,
    fd_Lpick := PySem.W.fnOf "_law_pick" "_law_pick" (defArgs s_Lpick) (defBody s_Lpick) (defScope s_Lpick) .none kV36 dc36 pm36 an36 cd36 ct36,
    F_Lpick := F36,
    b_Lpick := B36,
    m_Lpick := PySem.W.mg_of X G a36,
    f_Lsequences := f37,
    fd_Lsequences := PySem.W.fnOf "_law_sequences" "_law_sequences" (defArgs s_Lsequences) (defBody s_Lsequences) (defScope s_Lsequences) .none kV37 dc37 pm37 an37 cd37 ct37,
    F_Lsequences := F37,
    b_Lsequences := B37,
    m_Lsequences := PySem.W.mg_of X G a37,
    f_Lis_ahead := f38,
    fd_Lis_ahead := PySem.W.fnOf "_law_is_ahead" "_law_is_ahead" (defArgs s_Lis_ahead) (defBody s_Lis_ahead) (defScope s_Lis_ahead) .none kV38 dc38 pm38 an38 cd38 ct38,
    F_Lis_ahead := F38,
    b_Lis_ahead := B38,
    m_Lis_ahead := PySem.W.mg_of X G a38,
    f_Lis_take := f39,
    fd_Lis_take := PySem.W.fnOf "_law_is_take" "_law_is_take" (defArgs s_Lis_take) (defBody s_Lis_take) (defScope s_Lis_take) .none kV39 dc39 pm39 an39 cd39 ct39,
    F_Lis_take := F39,
    b_Lis_take := B39,
    m_Lis_take := PySem.W.mg_of X G a39,
    f_Lis_move := f40,
    fd_Lis_move := PySem.W.fnOf "_law_is_move" "_law_is_move" (defArgs s_Lis_move) (defBody s_Lis_move) (defScope s_Lis_move) .none kV40 dc40 pm40 an40 cd40 ct40,
    F_Lis_move := F40,
    b_Lis_move := B40,
    m_Lis_move := PySem.W.mg_of X G a40,
    f_Ltakes := f41,
    fd_Ltakes := PySem.W.fnOf "_law_takes" "_law_takes" (defArgs s_Ltakes) (defBody s_Ltakes) (defScope s_Ltakes) .none kV41 dc41 pm41 an41 cd41 ct41,
    F_Ltakes := F41,
    b_Ltakes := B41,
    m_Ltakes := PySem.W.mg_of X G a41,
    f_Lmoves := f42,
    fd_Lmoves := PySem.W.fnOf "_law_moves" "_law_moves" (defArgs s_Lmoves) (defBody s_Lmoves) (defScope s_Lmoves) .none kV42 dc42 pm42 an42 cd42 ct42,
    F_Lmoves := F42,
    b_Lmoves := B42,
    m_Lmoves := PySem.W.mg_of X G a42,
    f_Lmenu := f43,
    fd_Lmenu := PySem.W.fnOf "_law_menu" "_law_menu" (defArgs s_Lmenu) (defBody s_Lmenu) (defScope s_Lmenu) .none kV43 dc43 pm43 an43 cd43 ct43,
    F_Lmenu := F43,
    b_Lmenu := B43,
    m_Lmenu := PySem.W.mg_of X G a43,
    f_Lrules := f44,
    fd_Lrules := PySem.W.fnOf "_law_rules" "_law_rules" (defArgs s_Lrules) (defBody s_Lrules) (defScope s_Lrules) .none kV44 dc44 pm44 an44 cd44 ct44,
    F_Lrules := F44,
    b_Lrules := B44,
    m_Lrules := PySem.W.mg_of X G a44,
    f_Lbook := f45,
    fd_Lbook := PySem.W.fnOf "_law_book" "_law_book" (defArgs s_Lbook) (defBody s_Lbook) (defScope s_Lbook) .none kV45 dc45 pm45 an45 cd45 ct45,
    F_Lbook := F45,
    b_Lbook := B45,
    m_Lbook := PySem.W.mg_of X G a45,
    f_Lform := f46,
    fd_Lform := PySem.W.fnOf "_law_form" "_law_form" (defArgs s_Lform) (defBody s_Lform) (defScope s_Lform) .none kV46 dc46 pm46 an46 cd46 ct46,
    F_Lform := F46,
    b_Lform := B46,
    m_Lform := PySem.W.mg_of X G a46,
    f_Lform_right := f47,
    fd_Lform_right := PySem.W.fnOf "_law_form_right" "_law_form_right" (defArgs s_Lform_right) (defBody s_Lform_right) (defScope s_Lform_right) .none kV47 dc47 pm47 an47 cd47 ct47,
    F_Lform_right := F47,
    b_Lform_right := B47,
    m_Lform_right := PySem.W.mg_of X G a47,
    f_Lright := f48,
    fd_Lright := PySem.W.fnOf "_law_right" "_law_right" (defArgs s_Lright) (defBody s_Lright) (defScope s_Lright) .none kV48 dc48 pm48 an48 cd48 ct48,
    F_Lright := F48,
    b_Lright := B48,
    m_Lright := PySem.W.mg_of X G a48,
    f_law := fa,
    fd_law := PySem.W.fnOf "law" "law" (defArgs s_law) (defBody s_law) (defScope s_law) .none kV49 dc49 pm49 an49 cd49 ct49,
    F_law := F49,
    b_law := B49,
    m_law := PySem.W.mg_of X G a49,
    z_abs := PySem.W.mg_none_of X G z_abs,
    z_all := PySem.W.mg_none_of X G z_all,
    z_any := PySem.W.mg_none_of X G z_any,
    z_bool := PySem.W.mg_none_of X G z_bool,
    z_divmod := PySem.W.mg_none_of X G z_divmod,
    z_int := PySem.W.mg_none_of X G z_int,
    z_isinstance := PySem.W.mg_none_of X G z_isinstance,
    z_len := PySem.W.mg_none_of X G z_len,
    z_list := PySem.W.mg_none_of X G z_list,
    z_max := PySem.W.mg_none_of X G z_max,
    z_min := PySem.W.mg_none_of X G z_min,
    z_range := PySem.W.mg_none_of X G z_range,
    z_repr := PySem.W.mg_none_of X G z_repr,
    z_set := PySem.W.mg_none_of X G z_set,
    z_str := PySem.W.mg_none_of X G z_str,
    z_tuple := PySem.W.mg_none_of X G z_tuple,
    t_MOST_BATCH := t_MOST_BATCH,
    m_MOST_BATCH := PySem.W.mg_of X G g_MOST_BATCH,
    g_FAILS := T_FAILS,
    m_FAILS := PySem.W.mg_of X G g_FAILS,
    s_FAILS := fun H => .inr ⟨_, _, _, h_T_FAILS, rfl, rfl, (by show 3 ≤ sizeLine; decide), .cons ⟨_, rfl⟩ (.cons ⟨_, rfl⟩ (.cons ⟨_, rfl⟩ (.nil)))⟩,
    g_ROW_KINDS := T_ROW_KINDS,
    m_ROW_KINDS := PySem.W.mg_of X G g_ROW_KINDS,
    s_ROW_KINDS := fun H => .inr ⟨_, _, _, h_T_ROW_KINDS, rfl, rfl, (by show 4 ≤ sizeLine; decide), .cons ⟨_, rfl⟩ (.cons ⟨_, rfl⟩ (.cons ⟨_, rfl⟩ (.cons ⟨_, rfl⟩ (.nil))))⟩,
    g_LIFT_ROWS := T_LIFT_ROWS,
    m_LIFT_ROWS := PySem.W.mg_of X G g_LIFT_ROWS,
    g0_LIFT_ROWS := T0_LIFT_ROWS,
    s0_LIFT_ROWS := fun H => .inr ⟨_, _, _, h_T0_LIFT_ROWS, rfl, rfl, (by show 0 ≤ sizeLine; decide), .nil⟩,
    g1_LIFT_ROWS := T1_LIFT_ROWS,
    s1_LIFT_ROWS := fun H => .inr ⟨_, _, _, h_T1_LIFT_ROWS, rfl, rfl, (by show 1 ≤ sizeLine; decide), .cons ⟨_, rfl⟩ (.nil)⟩,
    g2_LIFT_ROWS := T2_LIFT_ROWS,
    s2_LIFT_ROWS := fun H => .inr ⟨_, _, _, h_T2_LIFT_ROWS, rfl, rfl, (by show 1 ≤ sizeLine; decide), .cons ⟨_, rfl⟩ (.nil)⟩,
    g3_LIFT_ROWS := T3_LIFT_ROWS,
    s3_LIFT_ROWS := fun H => .inr ⟨_, _, _, h_T3_LIFT_ROWS, rfl, rfl, (by show 2 ≤ sizeLine; decide), .cons ⟨_, rfl⟩ (.cons ⟨_, rfl⟩ (.nil))⟩,
    g4_LIFT_ROWS := T4_LIFT_ROWS,
    s4_LIFT_ROWS := fun H => .inr ⟨_, _, _, h_T4_LIFT_ROWS, rfl, rfl, (by show 2 ≤ sizeLine; decide), .cons ⟨_, rfl⟩ (.cons ⟨_, rfl⟩ (.nil))⟩,
    g5_LIFT_ROWS := T5_LIFT_ROWS,
    s5_LIFT_ROWS := fun H => .inr ⟨_, _, _, h_T5_LIFT_ROWS, rfl, rfl, (by show 1 ≤ sizeLine; decide), .cons ⟨_, rfl⟩ (.nil)⟩,
    s_LIFT_ROWS := fun H => .inr ⟨_, _, _, h_T_LIFT_ROWS, rfl, rfl, (by show 6 ≤ sizeLine; decide), .cons rfl (.cons rfl (.cons rfl (.cons rfl (.cons rfl (.cons rfl (.nil))))))⟩,
    g_ROW_CHECKS := T_ROW_CHECKS,
    m_ROW_CHECKS := PySem.W.mg_of X G g_ROW_CHECKS,
    k_ROW_CHECKS_take := ⟨_, _, _, h_ROW_CHECKS, y_ROW_CHECKS, x_ROW_CHECKS_take, rfl⟩,
    k_ROW_CHECKS_give := ⟨_, _, _, h_ROW_CHECKS, y_ROW_CHECKS, x_ROW_CHECKS_give, rfl⟩,
    k_ROW_CHECKS_move := ⟨_, _, _, h_ROW_CHECKS, y_ROW_CHECKS, x_ROW_CHECKS_move, rfl⟩,
    k_ROW_CHECKS_lift := ⟨_, _, _, h_ROW_CHECKS, y_ROW_CHECKS, x_ROW_CHECKS_lift, rfl⟩ }
  exact ⟨T.fd_law, fun s v => .of_eq rfl, fun base _ _ => ok_text T⟩
end My
open PySem PySem.W PyProof.Rows in
set_option maxRecDepth 100000 in
set_option maxHeartbeats 0 in
theorem PySem.Challenge.cw_chargeways_k80_forms_by_an_own_reading_holds : PySem.Challenge.rw_chargeways_k80_forms_by_an_own_reading.Holds := by
  w_on; o_law; k_head; (case hw => w_witness2)
  k_fill
  refine GL.walkG (l := PySem.Challenge.rw_chargeways_k80_forms_by_an_own_reading) (k := 13) (x := "_law_script") (sp := My.sp_law) rfl rfl ⟨rfl, by decide, by decide⟩ (fun w h Y => PySem.W.kIn_of Y) ?F (fun K H a ns hl hS => My.law_start hS hl)
  case F =>
    intro w mg fa h KX G hmg
    refine' My.all_mk KX G hmg ?aC ?pg ?hd ?po ?sa ?mk ?kc ?n_parts ?x_class ?x_get ?x_tk ?x_mro ?x_ne ?x_cls ?x_ty ?a1 ?l1 ?c1 ?k1 ?a2 ?l2 ?c2 ?k2 ?a3 ?l3 ?c3 ?k3 ?a4 ?l4 ?c4 ?k4 ?a5 ?l5 ?c5 ?k5 ?a6 ?l6 ?c6 ?k6 ?a7 ?l7 ?c7 ?k7 ?a8 ?l8 ?c8 ?k8 ?a9 ?l9 ?c9 ?k9 ?a10 ?l10 ?c10 ?k10 ?a11 ?l11 ?c11 ?k11 ?a12 ?l12 ?c12 ?k12 ?a13 ?l13 ?c13 ?k13 ?a14 ?l14 ?c14 ?k14 ?a15 ?l15 ?c15 ?k15 ?a16 ?l16 ?c16 ?k16 ?a17 ?l17 ?c17 ?k17 ?a18 ?l18 ?c18 ?k18 ?a19 ?l19 ?c19 ?k19 ?a20 ?l20 ?c20 ?k20 ?a21 ?l21 ?c21 ?k21 ?a22 ?l22 ?c22 ?k22 ?a23 ?l23 ?c23 ?k23 ?a24 ?l24 ?c24 ?k24 ?a25 ?l25 ?c25 ?k25 ?a26 ?l26 ?c26 ?k26 ?a27 ?l27 ?c27 ?k27 ?a28 ?l28 ?c28 ?k28 ?a29 ?i29 ?l29 ?c29 ?k29 ?a30 ?pA30 ?pB30 ?pC30 ?l30 ?c30 ?k30 ?a31 ?pA31 ?pB31 ?pC31 ?l31 ?c31 ?k31 ?a32 ?i32 ?l32 ?c32 ?k32 ?a33 ?i33 ?l33 ?c33 ?k33 ?a34 ?l34 ?c34 ?k34 ?a35 ?l35 ?c35 ?k35 ?a36 ?l36 ?c36 ?k36 ?a37 ?l37 ?c37 ?k37 ?a38 ?l38 ?c38 ?k38 ?a39 ?l39 ?c39 ?k39 ?a40 ?l40 ?c40 ?k40 ?a41 ?l41 ?c41 ?k41 ?a42 ?l42 ?c42 ?k42 ?a43 ?l43 ?c43 ?k43 ?a44 ?l44 ?c44 ?k44 ?a45 ?l45 ?c45 ?k45 ?a46 ?l46 ?c46 ?k46 ?a47 ?l47 ?c47 ?k47 ?a48 ?l48 ?c48 ?k48 ?a49 ?l49 ?c49 ?k49 ?z_abs ?z_all ?z_any ?z_bool ?z_divmod ?z_int ?z_isinstance ?z_len ?z_list ?z_max ?z_min ?z_range ?z_repr ?z_set ?z_str ?z_tuple ?g_MOST_BATCH ?g_FAILS ?h_T_FAILS ?g_ROW_KINDS ?h_T_ROW_KINDS ?g_LIFT_ROWS ?h_T_LIFT_ROWS ?h_T0_LIFT_ROWS ?h_T1_LIFT_ROWS ?h_T2_LIFT_ROWS ?h_T3_LIFT_ROWS ?h_T4_LIFT_ROWS ?h_T5_LIFT_ROWS ?g_ROW_CHECKS ?h_ROW_CHECKS ?y_ROW_CHECKS ?x_ROW_CHECKS_take ?x_ROW_CHECKS_give ?x_ROW_CHECKS_move ?x_ROW_CHECKS_lift
    (case aC => k_is)
    (case pg => k_is)
    (case hd => k_is)
    (case po => k_is)
    (case sa => k_is)
    (case mk => k_is)
    (case kc => k_is)
    (case n_parts => k_is)
    (case x_class => k_is)
    (case x_get => k_is)
    (case x_tk => k_is)
    (case x_mro => k_is)
    (case x_ne => k_is)
    (case x_cls => k_is)
    (case x_ty => k_is)
    (case a1 => k_is)
    (case l1 => k_is)
    (case c1 => k_is)
    (case k1 => k_is)
    (case a2 => k_is)
    (case l2 => k_is)
    (case c2 => k_is)
    (case k2 => k_is)
    (case a3 => k_is)
    (case l3 => k_is)
    (case c3 => k_is)
    (case k3 => k_is)
    (case a4 => k_is)
    (case l4 => k_is)
    (case c4 => k_is)
    (case k4 => k_is)
    (case a5 => k_is)
    (case l5 => k_is)
    (case c5 => k_is)
    (case k5 => k_is)
    (case a6 => k_is)
    (case l6 => k_is)
    (case c6 => k_is)
    (case k6 => k_is)
    (case a7 => k_is)
    (case l7 => k_is)
    (case c7 => k_is)
    (case k7 => k_is)
    (case a8 => k_is)
    (case l8 => k_is)
    (case c8 => k_is)
    (case k8 => k_is)
    (case a9 => k_is)
    (case l9 => k_is)
    (case c9 => k_is)
    (case k9 => k_is)
    (case a10 => k_is)
    (case l10 => k_is)
    (case c10 => k_is)
    (case k10 => k_is)
    (case a11 => k_is)
    (case l11 => k_is)
    (case c11 => k_is)
    (case k11 => k_is)
    (case a12 => k_is)
    (case l12 => k_is)
    (case c12 => k_is)
    (case k12 => k_is)
    (case a13 => k_is)
    (case l13 => k_is)
    (case c13 => k_is)
    (case k13 => k_is)
    (case a14 => k_is)
    (case l14 => k_is)
    (case c14 => k_is)
    (case k14 => k_is)
    (case a15 => k_is)
    (case l15 => k_is)
    (case c15 => k_is)
    (case k15 => k_is)
    (case a16 => k_is)
    (case l16 => k_is)
    (case c16 => k_is)
    (case k16 => k_is)
    (case a17 => k_is)
    (case l17 => k_is)
    (case c17 => k_is)
    (case k17 => k_is)
    (case a18 => k_is)
    (case l18 => k_is)
    (case c18 => k_is)
    (case k18 => k_is)
    (case a19 => k_is)
    (case l19 => k_is)
    (case c19 => k_is)
    (case k19 => k_is)
    (case a20 => k_is)
    (case l20 => k_is)
    (case c20 => k_is)
    (case k20 => k_is)
    (case a21 => k_is)
    (case l21 => k_is)
    (case c21 => k_is)
    (case k21 => k_is)
    (case a22 => k_is)
    (case l22 => k_is)
    (case c22 => k_is)
    (case k22 => k_is)
    (case a23 => k_is)
    (case l23 => k_is)
    (case c23 => k_is)
    (case k23 => k_is)
    (case a24 => k_is)
    (case l24 => k_is)
    (case c24 => k_is)
    (case k24 => k_is)
    (case a25 => k_is)
    (case l25 => k_is)
    (case c25 => k_is)
    (case k25 => k_is)
    (case a26 => k_is)
    (case l26 => k_is)
    (case c26 => k_is)
    (case k26 => k_is)
    (case a27 => k_is)
    (case l27 => k_is)
    (case c27 => k_is)
    (case k27 => k_is)
    (case a28 => k_is)
    (case l28 => k_is)
    (case c28 => k_is)
    (case k28 => k_is)
    (case a29 => k_is)
    (case i29 => k_is)
    (case l29 => k_is)
    (case c29 => k_is)
    (case k29 => k_is)
    (case a30 => k_is)
    (case pA30 => k_is)
    (case pB30 => k_is)
    (case pC30 => k_is)
    (case l30 => k_is)
    (case c30 => k_is)
    (case k30 => k_is)
    (case a31 => k_is)
    (case pA31 => k_is)
    (case pB31 => k_is)
    (case pC31 => k_is)
    (case l31 => k_is)
    (case c31 => k_is)
    (case k31 => k_is)
    (case a32 => k_is)
    (case i32 => k_is)
    (case l32 => k_is)
    (case c32 => k_is)
    (case k32 => k_is)
    (case a33 => k_is)
    (case i33 => k_is)
    (case l33 => k_is)
    (case c33 => k_is)
    (case k33 => k_is)
    (case a34 => k_is)
    (case l34 => k_is)
    (case c34 => k_is)
    (case k34 => k_is)
    (case a35 => k_is)
    (case l35 => k_is)
    (case c35 => k_is)
    (case k35 => k_is)
    (case a36 => k_is)
    (case l36 => k_is)
    (case c36 => k_is)
    (case k36 => k_is)
    (case a37 => k_is)
    (case l37 => k_is)
    (case c37 => k_is)
    (case k37 => k_is)
    (case a38 => k_is)
    (case l38 => k_is)
    (case c38 => k_is)
    (case k38 => k_is)
    (case a39 => k_is)
    (case l39 => k_is)
    (case c39 => k_is)
    (case k39 => k_is)
    (case a40 => k_is)
    (case l40 => k_is)
    (case c40 => k_is)
    (case k40 => k_is)
    (case a41 => k_is)
    (case l41 => k_is)
    (case c41 => k_is)
    (case k41 => k_is)
    (case a42 => k_is)
    (case l42 => k_is)
    (case c42 => k_is)
    (case k42 => k_is)
    (case a43 => k_is)
    (case l43 => k_is)
    (case c43 => k_is)
    (case k43 => k_is)
    (case a44 => k_is)
    (case l44 => k_is)
    (case c44 => k_is)
    (case k44 => k_is)
    (case a45 => k_is)
    (case l45 => k_is)
    (case c45 => k_is)
    (case k45 => k_is)
    (case a46 => k_is)
    (case l46 => k_is)
    (case c46 => k_is)
    (case k46 => k_is)
    (case a47 => k_is)
    (case l47 => k_is)
    (case c47 => k_is)
    (case k47 => k_is)
    (case a48 => k_is)
    (case l48 => k_is)
    (case c48 => k_is)
    (case k48 => k_is)
    (case a49 => k_is)
    (case l49 => k_is)
    (case c49 => k_is)
    (case k49 => k_is)
    (case z_abs => k_is)
    (case z_all => k_is)
    (case z_any => k_is)
    (case z_bool => k_is)
    (case z_divmod => k_is)
    (case z_int => k_is)
    (case z_isinstance => k_is)
    (case z_len => k_is)
    (case z_list => k_is)
    (case z_max => k_is)
    (case z_min => k_is)
    (case z_range => k_is)
    (case z_repr => k_is)
    (case z_set => k_is)
    (case z_str => k_is)
    (case z_tuple => k_is)
    (case g_MOST_BATCH => k_is)
    (case g_FAILS => k_is)
    (case h_T_FAILS => k_is)
    (case g_ROW_KINDS => k_is)
    (case h_T_ROW_KINDS => k_is)
    (case g_LIFT_ROWS => k_is)
    (case h_T_LIFT_ROWS => k_is)
    (case h_T0_LIFT_ROWS => k_is)
    (case h_T1_LIFT_ROWS => k_is)
    (case h_T2_LIFT_ROWS => k_is)
    (case h_T3_LIFT_ROWS => k_is)
    (case h_T4_LIFT_ROWS => k_is)
    (case h_T5_LIFT_ROWS => k_is)
    (case g_ROW_CHECKS => k_is)
    (case h_ROW_CHECKS => k_is)
    (case y_ROW_CHECKS => k_keys)
    (case x_ROW_CHECKS_take => k_is)
    (case x_ROW_CHECKS_give => k_is)
    (case x_ROW_CHECKS_move => k_is)
    (case x_ROW_CHECKS_lift => k_is)
#print axioms PySem.Challenge.cw_chargeways_k80_forms_by_an_own_reading_holds
