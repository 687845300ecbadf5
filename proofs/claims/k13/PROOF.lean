import PyProof.Rows.All
import Wide.All
import OpenK.AllK
import Wide.FinOn
import HandS.ForMost
import HandS.Strs
import HandS.IsInst
import HandS.Evl
import HandS.MakeKw
import HandS.WideBits
import HandS.Star
import HandS.Walk
import HandS.Conv
import HandS.RaiseMore
import HandS.FStr
import HandS.Style
import HandS.More
import HandS.OwnEq
import PyProof.InstNe
import KE.KExcInit
import HandS.Exc
import HandS.ExcOwn
import HandS.ExcInit
import HandS.TryMany
import KE.KExcLine
import PyProof.EqAt
import PyProof.MeetsIn
import HandS.ExcIs
import HandS.IsInst
import HandS.Lambda
import HandS.EndTab
import KE.GoesEnumKw
import PySem.Challenge.RW_chargeways_k13_groups_struck_one_by_one
set_option Elab.async false
set_option linter.all false
set_option maxRecDepth 100000
set_option maxHeartbeats 4000000
/-! Promises kept where no repr is under way (the guards are empty): calls, methods, makings, bodies. -/
namespace GL
open PySem PySem.Spec PyProof.Rows L2
abbrev Fre (A : Around) : Prop := A.guards = some []
theorem fre_make {A : Around} {C : Addr} {us : List Value} {kw : List (Str × Value)} (h : Fre A) : Fre (A.under (.builtin "type.__call__" ⟨.ref C :: us, kw⟩)) := by
  first | exact h | simpa [Around.under, Code.guards, pushGuards, Code.isGuard] using h
/-- as FnOk, where nothing is being shown -/
structure FnG (P : Program) (w : World) (K : PySem.W.Frag) (mg : Str → Option Value) (base : Heap) (CX : CXT) (k : Nat) (f : Addr) (fd : FuncData) (ps : List Str) (sp : Sp) : Prop where
  many : ∀ vs H Q E, sp vs H Q E → vs.length = ps.length
  goes : ∀ {A : Around} {outer : List Env} {s : Shared} {H : Hp} {args : Args} {us : List Value} {vs : List V} {Q : VK} {E : XK}, Fre A → Room k A →
    Env0 P w K mg base A outer s H → BindsTo s fd args (ps.zip us) → Vals vs us → sp vs H Q E → codeAny (model P w) A (.call (.ref f) args) (CR CX outer P w H s Q E) s
theorem FnG.weak {P : Program} {w : World} {K : PySem.W.Frag} {mg : Str → Option Value} {base : Heap} {CX : CXT} {k : Nat} {f : Addr} {fd : FuncData} {ps : List Str} {sp sp' : Sp} (F : FnG P w K mg base CX k f fd ps sp)
    (h : ∀ vs H Q E, sp' vs H Q E → sp vs H Q E) : FnG P w K mg base CX k f fd ps sp' :=
  ⟨fun vs H Q E q => F.many vs H Q E (h _ _ _ _ q), fun g r e b v q => F.goes g r e b v (h _ _ _ _ q)⟩
section
variable {X : Cx} {CX : CXT} {k : Nat} {f C : Addr} {fd : FuncData} {ps ks : List Str} {sp : Sp} {dvs : List V} {ds : List Value} {E : XK} {x m : Str} {p pos apos : Pos} {e o : Expr} {es : List Expr} {kws : List Keyword} {ta : TE} {t tk : TA}
  {g : List Value → List Value → List Value} {gV : List V → List V → List V} {pins : List (Addr × Obj)} {σ : L2.St} {H : Hp} {s : Shared} {Q : VK} {us ws : List Value} {vs zs : List V}
/-- a call's result, taken into the caller's frame -/
theorem landed {code : Code} (hx : Passes CX X E) (I : Inv X pins σ H s) (h : codeAny (model X.prog X.w) X.A code (CR CX X.stack X.prog X.w H s Q E) s) :
    codeAny (model X.prog X.w) X.A code (fun r s' => match r with
      | .ok (.ret u) => EP X pins σ Q u s'
      | .ok _ => False
      | .error e => X.xe e s') s := by
  refine codeAny_mono h ?_
  intro r s' hq
  match r, hq with
  | .error e, hq => exact hx pins σ H s e s' I hq
  | .ok (.ret u), hq => exact I.after hq
  | .ok .next, hq => exact hq
  | .ok .brk, hq => exact hq
  | .ok .cont, hq => exact hq
theorem ran {v : Value} {args : List Value} {kw : List (Str × Value)} (h : codeAny (model X.prog X.w) X.A (.call v ⟨args, kw⟩) (fun r s' => match r with
      | .ok (.ret u) => EP X pins σ Q u s'
      | .ok _ => False
      | .error e => X.xe e s') s) : wpAny (model X.prog X.w) X.A (call v args kw) (EP X pins σ Q) X.xe s := by
  refine wpAny_call (codeAny_mono h ?_)
  intro r s' hq
  match r, hq with
  | .error e, hq => exact hq
  | .ok (.ret u), hq => exact hq
theorem ranF (G : Fre X.A) (F : FnG X.prog X.w X.K X.mg X.base CX k f fd ps sp) (hr : Room k X.A) (hb : Binds X.K fd ps ds) (hd : Vals dvs ds) (hx : Passes CX X E) (I : Inv X pins σ H s) (r : Vals vs us) (h : sp (vs ++ dvs) H Q E) :
    wpAny (model X.prog X.w) X.A (call (.ref f) us) (EP X pins σ Q) X.xe s :=
  have ra := r.append hd
  ran (landed hx I (F.goes G hr I.env0 (hb s us I.kIn (ra.length.symm.trans (F.many _ _ _ _ h))) ra h))
theorem ranK (G : Fre X.A) (F : FnG X.prog X.w X.K X.mg X.base CX k f fd ps sp) (hr : Room k X.A) (hb : KBinds X.K fd ps ks g gV) (hx : Passes CX X E) (I : Inv X pins σ H s) (r : Vals vs us) (rz : Vals zs ws) (h : sp (gV vs zs) H Q E) :
    wpAny (model X.prog X.w) X.A (call (.ref f) us (ks.zip ws)) (EP X pins σ Q) X.xe s :=
  have ra := hb.rel r rz
  ran (landed hx I (F.goes G hr I.env0 (hb.to s us ws I.kIn (ra.length.symm.trans (F.many _ _ _ _ h))) ra h))
/-- f(e, ..) -/
theorem pc (G : Fre X.A) (F : FnG X.prog X.w X.K X.mg X.base CX k f fd ps sp) (hr : Room k X.A) (hg : Gl X x) (hm : X.mg x = some (.ref f)) (hk : PySem.W.keepIn X.K (.ref f) = true) (hb : Binds X.K fd ps ds) (hd : Vals dvs ds) (hx : Passes CX X E)
    (ha : PA X (e :: es) t) (ndb : (x == ("__debug__" : Str)) = false := by decide) (he : starEach (e :: es) X.env = (false, eval e X.env) :: starEach es X.env := by rfl) (hpl : (backTo pos (starEach es X.env)).any (·.1) = false := by rfl) :
    PE X (.Call (.Name x p) (e :: es) [] pos) (tCall sp dvs E t) where
  run := fun pins s σ H Q I h => wpAny_Call_Name_kw (ld_glob I hg hm
    (PySem.W.callWith_K I.ok.mod.kin hk (thn (ha.run pos pins s σ H _ I h) fun us s1 ⟨vs, H1, I1, r, q⟩ => ⟨I1.kIn, ranF G F hr hb hd hx I1 r q⟩) he hpl) ndb)
theorem pc0 (G : Fre X.A) (F : FnG X.prog X.w X.K X.mg X.base CX k f fd ps sp) (hr : Room k X.A) (hg : Gl X x) (hm : X.mg x = some (.ref f)) (hk : PySem.W.keepIn X.K (.ref f) = true) (hb : Binds X.K fd ps ds) (hd : Vals dvs ds) (hx : Passes CX X E)
    (ndb : (x == ("__debug__" : Str)) = false := by decide) : PE X (.Call (.Name x p) [] [] pos) (tCall sp dvs E tNil) where
  run := fun pins s σ H Q I h => wpAny_Call_Name_kw (ld_glob I hg hm (PySem.W.callWith_K0 I.kIn hk (ranF (us := []) G F hr hb hd hx I .nil h)) ndb)
/-- o.m(e, ..) -/
theorem pm {pl : Sem Bool} (G : Fre X.A) (he : PE X o ta) (c : Cls X.K C) (hm : Meth X.K C m f) (F : FnG X.prog X.w X.K X.mg X.base CX k f fd ps sp) (hr : Room k X.A) (hb : Binds X.K fd ps ds) (hd : Vals dvs ds) (hx : Passes CX X E) (ha : PA X (e :: es) t)
    (hse : starEach (e :: es) X.env = (false, eval e X.env) :: starEach es X.env := by rfl) (hpl : (backTo pos (starEach es X.env)).any (·.1) = false := by rfl)
    (hev : eval (.Call (.Attribute o m apos) (e :: es) [] pos) X.env = (do
      let ov ← eval o X.env
      standAt apos.atName
      let (fn, frst) ← holding [ov] (getMethod ov m pl)
      callWith pos fn frst (backTo pos (starEach (e :: es) X.env)) (backToKw pos (keywordEach [] X.env))) := by rfl) : PE X (.Call (.Attribute o m apos) (e :: es) [] pos) (tMeth C m sp dvs E ta t) := by
  constructor
  intro pins s σ H Q I h
  refine PySem.W.methodCall_KW (pl := pl) (thn (he.run pins s σ H _ I h) ?_) hev
  rintro u s1 ⟨v, H1, I1, rv, a, dx, fs, rfl, ea, l, q⟩
  cases rv
  refine getmeth_ok I1 ea c hm l (PySem.W.callWith_K (first := [.ref a]) (h₀ := X.base) I.ok.mod.kin hm.kp (thn (ha.run pos pins s1 σ H1 _ I1 q) ?_) hse hpl)
  rintro us s2 ⟨vs, H2, I2, r, q2⟩
  exact ⟨I2.kIn, ranF (us := .ref a :: us) (vs := .ref a :: vs) G F hr hb hd hx I2 (.cons rfl r) q2⟩
theorem pm0 {pl : Sem Bool} (G : Fre X.A) (he : PE X o ta) (c : Cls X.K C) (hm : Meth X.K C m f) (F : FnG X.prog X.w X.K X.mg X.base CX k f fd ps sp) (hr : Room k X.A) (hb : Binds X.K fd ps ds) (hd : Vals dvs ds) (hx : Passes CX X E)
    (hev : eval (.Call (.Attribute o m apos) [] [] pos) X.env = (do
      let ov ← eval o X.env
      standAt apos.atName
      let (fn, frst) ← holding [ov] (getMethod ov m pl)
      callWith pos fn frst (backTo pos (starEach [] X.env)) (backToKw pos (keywordEach [] X.env))) := by rfl) : PE X (.Call (.Attribute o m apos) [] [] pos) (tMeth C m sp dvs E ta tNil) := by
  constructor
  intro pins s σ H Q I h
  refine PySem.W.methodCall_KW (pl := pl) (thn (he.run pins s σ H _ I h) ?_) hev
  rintro u s1 ⟨v, H1, I1, rv, a, dx, fs, rfl, ea, l, q⟩
  cases rv
  exact getmeth_ok I1 ea c hm l (PySem.W.callWith_K0 (first := [.ref a]) I1.kIn hm.kp (ranF (us := [.ref a]) (vs := [.ref a]) G F hr hb hd hx I1 (.cons rfl .nil) q))
def tMethK (C : Addr) (m : Str) (sp : Sp) (gV : List V → List V → List V) (E : XK) (ta : TE) (tk : TA) : TE := fun σ H Q => ta σ H fun x H1 => ∃ a dx fs, x = .ref a ∧ H1 a = some (.ins C dx fs) ∧ fs.lookup m = none ∧
  tk σ H1 fun zs H2 => sp (gV [x] zs) H2 Q E
/-- o.m(k = e, ..) -/
theorem pmK {pl : Sem Bool} (G : Fre X.A) (he : PE X o ta) (c : Cls X.K C) (hm : Meth X.K C m f) (F : FnG X.prog X.w X.K X.mg X.base CX k f fd ps sp) (hr : Room k X.A) (hb : KBinds X.K fd ps ks g gV) (hx : Passes CX X E) (hkw : PK X kws tk)
    (hall : (backToKw pos (keywordEach kws X.env)).all (·.1.isSome) = true := by rfl) (hks : (backToKw pos (keywordEach kws X.env)).filterMap (·.1) = ks := by rfl)
    (hpl : (backToKw pos (keywordEach kws X.env)).any (·.1.isNone) = false := by rfl)
    (hev : eval (.Call (.Attribute o m apos) [] kws pos) X.env = (do
      let ov ← eval o X.env
      standAt apos.atName
      let (fn, frst) ← holding [ov] (getMethod ov m pl)
      callWith pos fn frst (backTo pos (starEach [] X.env)) (backToKw pos (keywordEach kws X.env))) := by rfl) :
    PE X (.Call (.Attribute o m apos) [] kws pos) (tMethK C m sp gV E ta tk) := by
  constructor
  intro pins s σ H Q I h
  refine PySem.W.methodCall_KW (pl := pl) (thn (he.run pins s σ H _ I h) ?_) hev
  rintro u s1 ⟨v, H1, I1, rv, a, dx, fs, rfl, ea, l, q⟩
  cases rv
  refine getmeth_ok I1 ea c hm l (PySem.W.callWith_KW0 (first := [.ref a]) (h₀ := X.base) I.ok.mod.kin hm.kp hall (thn (hkw.run pos pins s1 σ H1 _ I1 q) ?_) hpl)
  rintro ws s2 ⟨zs, H2, I2, rz, q2⟩
  rw [hks]
  exact ⟨I2.kIn, ranK (us := [.ref a]) (vs := [.ref a]) G F hr hb hx I2 (.cons rfl .nil) rz q2⟩
/-- C(..): the instance is made, then its __init__ -/
theorem ranM (G : Fre X.A) (M : Mk X.K C f) (F : FnG X.prog X.w X.K X.mg X.base CX k f fd ps sp) (hr : Room (k + 1) X.A) (hb : Binds X.K fd ps ds) (hd : Vals dvs ds) (hx : Passes CX X E) (I : Inv X pins σ H s) (r : Vals vs us)
    (h : ∀ y dy, H y = none → H dy = none → dy ≠ y → sp (.ref y :: (vs ++ dvs)) (upd (upd H dy (.own y)) y (.ins C dy [])) (fun v H2 => v = .non ∧ Q (.ref y) H2) E) : wpAny (model X.prog X.w) X.A (call (.ref C) us) (EP X pins σ Q) X.xe s := by
  have h0 := h (s.heap.objs.size + 1) s.heap.objs.size (I.hok.fresh (Nat.le_succ _)) (I.hok.fresh (Nat.le_refl _)) (Nat.ne_of_lt (Nat.lt_succ_self _))
  have J := Inv.made (C := C) I
  have rz : Vals (V.ref (s.heap.objs.size + 1) :: (vs ++ dvs)) (Value.ref (s.heap.objs.size + 1) :: (us ++ ds)) := .cons rfl (r.append hd)
  have hl : (Value.ref (s.heap.objs.size + 1) :: us ++ ds).length = ps.length := rz.length.symm.trans (F.many _ _ _ _ h0)
  have run := F.goes (fre_make G) (hr.make C us []) (J.env0.make C us []) (hb _ (Value.ref (s.heap.objs.size + 1) :: us) J.kIn hl) rz h0
  refine wpAny_call (make_map (f := f) I.kIn M.makes M.init (beq_iff_eq.mp M.fn) (codeAny_mono run ?_))
  intro r s' z
  match r, z with
  | .error e, z => exact hx pins σ _ _ e s' J z
  | .ok (.ret u), z =>
    obtain ⟨v, H', I3, rv, ev, q3⟩ := J.after z
    cases ev
    exact And.intro rv ⟨V.ref (s.heap.objs.size + 1), H', I3, rfl, q3⟩
  | .ok .next, z => exact z.elim
  | .ok .brk, z => exact z.elim
  | .ok .cont, z => exact z.elim
theorem pk (G : Fre X.A) (M : Mk X.K C f) (F : FnG X.prog X.w X.K X.mg X.base CX k f fd ps sp) (hr : Room (k + 1) X.A) (hg : Gl X x) (hm : X.mg x = some (.ref C)) (hb : Binds X.K fd ps ds) (hd : Vals dvs ds) (hx : Passes CX X E)
    (ha : PA X (e :: es) t) (ndb : (x == ("__debug__" : Str)) = false := by decide) (he : starEach (e :: es) X.env = (false, eval e X.env) :: starEach es X.env := by rfl) (hpl : (backTo pos (starEach es X.env)).any (·.1) = false := by rfl) :
    PE X (.Call (.Name x p) (e :: es) [] pos) (tMake C sp dvs E t) where
  run := fun pins s σ H Q I h => wpAny_Call_Name_kw (ld_glob I hg hm
    (PySem.W.callWith_K I.ok.mod.kin M.kp (thn (ha.run pos pins s σ H _ I h) fun us s1 ⟨vs, H1, I1, r, q⟩ => ⟨I1.kIn, ranM G M F hr hb hd hx I1 r q⟩) he hpl) ndb)
theorem pk0 (G : Fre X.A) (M : Mk X.K C f) (F : FnG X.prog X.w X.K X.mg X.base CX k f fd ps sp) (hr : Room (k + 1) X.A) (hg : Gl X x) (hm : X.mg x = some (.ref C)) (hb : Binds X.K fd ps ds) (hd : Vals dvs ds) (hx : Passes CX X E)
    (ndb : (x == ("__debug__" : Str)) = false := by decide) : PE X (.Call (.Name x p) [] [] pos) (tMake C sp dvs E tNil) where
  run := fun pins s σ H Q I h => wpAny_Call_Name_kw (ld_glob I hg hm (PySem.W.callWith_K0 I.kIn M.kp (ranM (us := []) G M F hr hb hd hx I .nil h)) ndb)
end
/-- a body keeps its promise -/
theorem bodied {CX : CXT} {P : Program} {w : World} {K : PySem.W.Frag} {mg : Str → Option Value} {base : Heap} {k : Nat} {f : Addr} {name qual : Str} {params : Arguments} {body : List Stmt} {scope : Scope} {dV kV doc pm cdv ct oc : Value} {an od : Option Addr}
    {sl0 : Array (Option Value)} {N ps : List Str} {sp : Sp} (lk : K.lookup f = some ⟨oc, od, .func (PySem.W.fnOf name qual params body scope dV kV doc pm an cdv ct), sl0⟩) (hcd : PySem.W.codeIn K cdv qual = true) (S : FnScope N ps scope)
    (many : ∀ vs H Q E, sp vs H Q E → vs.length = ps.length)
    (hb : ∀ (A : Around) (outer : List Env) (s : Shared) (H : Hp) (vs : List V) (Q : VK) (E : XK), Fre (A.deeper (envOfC qual scope s.heap.objs.size f cdv)) → Room k (A.deeper (envOfC qual scope s.heap.objs.size f cdv)) → sp vs H Q E →
      ∃ tr, PSs (cxOf CX P w K mg base N qual scope f cdv A outer s H E) body tr ∧ tr { nx := fun _ H' => Q .non H', rt := Q } (start N vs) H) :
    FnG P w K mg base CX (k + 1) f (PySem.W.fnOf name qual params body scope dV kV doc pm an cdv ct) ps sp := by
  refine ⟨many, ?_⟩
  intro A outer s H args us vs Q E hgd hr e0 hbd r hsp
  have KI : K.In s.heap := e0.mod.kin.keeps fun b o e => (e0.bs b o e).1
  have kinds : ∀ y ∈ ps.zip us, scope.names.lookup y.1 = some .local ∨ (scope.names.lookup y.1 = some .cell ∧ ((cellsFrom (s.heap.objs.size + 1) scope.names []).lookup y.1).isSome = true) := by
    rintro ⟨n, v⟩ hy
    exact (S.par n (List.of_mem_zip hy).1).imp id fun q => ⟨q, PySem.W.cellsFrom_some _ _ _ (.inl q)⟩
  refine codeAny_call_function hr.depth (KI _ _ lk) rfl S.co S.gen rfl (PySem.W.codeRec_of KI hcd) (hbd _ _ _ _ (wpAny_newFunctionEnv_cells S.kind kinds ?_))
  rintro env rfl s1 x
  refine ⟨(e0.mod.nolimit.keeps fun b o e => (e0.bs b o e).1).keeps x.toInCall.keep, codeAny_func ?_⟩
  obtain ⟨t, ht, hq⟩ := hb A outer s H vs Q E hgd (hr.deeper _) hsp
  have I := inv_start (CX := CX) (E := E) S hr.hd e0 (many _ _ _ _ hsp) r x
  refine wpAny_mono (ht.run [] s1 (start N vs) H _ I hq) ?_ (fun _ _ z => z)
  intro fl s' z
  match fl, z with
  | .ret u, z =>
    obtain ⟨v, σ', H', J, rv, q⟩ := z
    exact ⟨v, H', J.os, J.bare, J.base, J.hok, rv, q⟩
  | .next, z =>
    obtain ⟨σ', H', J, q⟩ := z
    exact ⟨V.non, H', J.os, J.bare, J.base, J.hok, rfl, q⟩
  | .brk, z => exact z.elim fun _ z => z.elim fun _ z => z.2.elim
  | .cont, z => exact z.elim fun _ z => z.elim fun _ z => z.2.elim
section
variable {P : Program} {w : World} {K : PySem.W.Frag} {mg : Str → Option Value} {base : Heap} {x qual : Str} {st : Stmt} {f : Addr} {fd : FuncData} {N ps : List Str} {k : Nat} {sp : Sp} {CX : CXT}
theorem okG (F : L2.Fun K x qual st f fd) (S : FnScope N ps (defScope st)) (many : ∀ vs H Q E, sp vs H Q E → vs.length = ps.length)
    (hb : ∀ (cdv : Value) (A : Around) (outer : List Env) (s : Shared) (H : Hp) (vs : List V) (Q : VK) (E : XK), Fre (A.deeper (envOfC qual (defScope st) s.heap.objs.size f cdv)) → Room k (A.deeper (envOfC qual (defScope st) s.heap.objs.size f cdv)) → sp vs H Q E →
      ∃ t, PSs (cxOf CX0 P w K mg base N qual (defScope st) f cdv A outer s H E).nox (defBody st) t ∧ t { nx := fun _ H' => Q .non H', rt := Q } (start N vs) H) : FnG P w K mg base CX0 (k + 1) f fd ps sp := by
  obtain ⟨c0, o0, kV, doc, pm, an, cdv, ct, s0, rfl, lk, hcd⟩ := F.ex
  exact bodied lk hcd S many fun A outer s H vs Q E g hr hsp => (hb cdv A outer s H vs Q E g hr hsp).imp fun t z => ⟨z.1.nox, z.2⟩
theorem okGD {dvs : List V} {kws : List (Str × V)} (F : L2.FunD K x qual (defArgs st) (defBody st) (defScope st) dvs kws f fd) (S : FnScope N ps (defScope st)) (many : ∀ vs H Q E, sp vs H Q E → vs.length = ps.length)
    (hb : ∀ (cdv : Value) (A : Around) (outer : List Env) (s : Shared) (H : Hp) (vs : List V) (Q : VK) (E : XK), Fre (A.deeper (envOfC qual (defScope st) s.heap.objs.size f cdv)) → Room k (A.deeper (envOfC qual (defScope st) s.heap.objs.size f cdv)) → sp vs H Q E →
      ∃ t, PSs (cxOf CX0 P w K mg base N qual (defScope st) f cdv A outer s H E).nox (defBody st) t ∧ t { nx := fun _ H' => Q .non H', rt := Q } (start N vs) H) : FnG P w K mg base CX0 (k + 1) f fd ps sp := by
  obtain ⟨c0, o0, dV, kV, doc, pm, an, cdv, ct, s0, rfl, lk, hcd, _, _⟩ := F.ex
  exact bodied lk hcd S many fun A outer s H vs Q E g hr hsp => (hb cdv A outer s H vs Q E g hr hsp).imp fun t z => ⟨z.1.nox, z.2⟩
end
end GL
namespace GL
open PySem PySem.Spec PyProof.Rows L2
section
variable {X : Cx} {CX : CXT} {k : Nat} {f C : Addr} {fd : FuncData} {sp : Sp} {E : XK}
/-- len(o), o of a class with an own __len__ -/
theorem call_lenG (G : Fre X.A) (F : FnG X.prog X.w X.K X.mg X.base CX k f fd ["self"] sp) (hr : Room (k + 1) X.A) (hb : Binds X.K fd ["self"] []) (hs : PySem.W.findIn X.K (.ref C) "__len__" = some (some (.ref f))) (hf : PySem.W.isFn X.K (.ref f) = true) (hx : Passes CX X E) :
    CallR X (.builtin "len") (fun xs H Q => ∃ a dx fs, xs = [.ref a] ∧ H a = some (.ins C dx fs) ∧ sp [.ref a] H (fun v H' => ∃ n : Nat, v = .int (n : Int) ∧ n < 1000000 ∧ Q (.int (n : Int)) H') E) := by
  intro pins s σ H xs us Q I r h
  obtain ⟨a, dx, fs, rfl, ha, h⟩ := h
  cases r with
  | cons r rt =>
    cases rt
    cases r
    obtain ⟨mA, O, _⟩ := ins_get I.hok ha
    obtain ⟨m, fr⟩ := I.fr
    obtain ⟨od, es, ep, hod, _⟩ := O.ns
    refine PySem.W.len_K (od := some od) fr I.ok.mod.kin ⟨O.obj, rfl, rfl, hod⟩ hs hf ?_
    refine wpAny_call (codeAny_mono (F.goes (A := X.A.in1) (outer := X.stack) (vs := [.ref a]) (us := [.ref a]) G hr.in1 I.env0.in1 (hb s [.ref a] I.kIn rfl) (.cons rfl .nil) h) ?_)
    intro r s' z
    match r, z with
    | .error e, z => exact hx pins σ H s e s' I z
    | .ok (.ret u), z =>
      obtain ⟨v, H', I3, rv, n, rfl, hn, q⟩ := I.after z
      obtain ⟨t, rfl⟩ := rv
      refine ⟨⟨by omega, by omega⟩, ⟨.int n, H', I3.tok _, ⟨_, rfl⟩, q⟩⟩
/-- repr(x) of a list or tuple of data -/
def rRepr (K : PySem.W.Frag) : List V → Hp → VK → Prop := fun xs H Q => ∃ v d, xs = [v] ∧ Dp K H v d ∧ isDisplay d = true ∧ d.showable = true ∧ d.hasDict = false ∧ d.depth ≤ 60 ∧ d.shown.length ≤ sizeLine ∧ Q (.str d.shown) H
theorem call_repr (G : Fre X.A) (hu : X.A.units + 64 < cLine) : CallR X (.builtin "repr") (rRepr X.K) := by
  intro pins s σ H xs us Q I r h
  obtain ⟨v, d, rfl, hd, h1, h2, h3, h4, h5, q⟩ := h
  cases r with
  | cons r rt =>
    cases rt
    obtain ⟨as, rd⟩ := Dp.reads I d v _ hd r
    obtain ⟨a, rfl⟩ := isRef_of_reads rd h1
    exact repr_of_reads' rd h2 (PyData.noDict_hsm h3) G (by omega) (fun _ _ e => e) (fun h' u tk hk => ⟨.str d.shown, H, I.kept hk, ⟨u, rfl⟩, q⟩) h5
end
/-! ### enumerate from any start, over lists and tuples -/
structure Src (K : PySem.W.Frag) (SQ : Hp → Addr → List V → Prop) (HI : Heap → Addr → Array Value → Prop) (IT : Heap → Addr → Addr → Nat → Prop) : Prop where
  at_ : ∀ {X : Cx} {pins : List (Addr × Obj)} {σ : L2.St} {H : Hp} {s : Shared} {a : Addr} {xs : List V}, X.K = K → L2.Inv X pins σ H s → SQ H a xs → ∃ its : List Value, Vals xs its ∧ HI s.heap a its.toArray
  inj : ∀ {X : Cx} {pins : List (Addr × Obj)} {σ : L2.St} {H : Hp} {s : Shared} {a : Addr} {xs ys : List V}, X.K = K → L2.Inv X pins σ H s → SQ H a xs → SQ H a ys → xs = ys
  obj : ∀ {h : Heap} {it a : Addr} {i : Nat}, IT h it a i → ∃ o, h.get? it = some o ∧ ∀ v, o.data ≠ .cell v
  keep : ∀ {h h' : Heap} {it a : Addr} {i : Nat}, IT h it a i → (∀ o, h.get? it = some o → h'.get? it = some o) → IT h' it a i
  ne1 : ∀ {h : Heap} {it a b : Addr} {i : Nat} {vs : Array Value}, IT h it a i → HI h b vs → b ≠ it
  ne2 : ∀ {h : Heap} {e x a : Addr} {k : Int} {old : Value} {vs : Array Value}, IsEnum h e x k old → HI h a vs → a ≠ e
  dr : ∀ {prog : Program} {w : World} {A : Around}, A.handled = none → ∀ (it l : Addr), l ≠ it → ∀ vs : Array Value, Draws prog w A it [it, l] vs.size (fun i v => vs[i]? = some v) (fun i h => IT h it l i ∧ HI h l vs)
theorem src_list (K : PySem.W.Frag) : Src K (SqL K) (fun h a vs => h.IsList a vs) (fun h it a i => h.IsListIter it a i) where
  at_ := fun e I h => by subst e; obtain ⟨its, r, p, _⟩ := I.list h; exact ⟨its, r, p.isList⟩
  inj := fun e I h h' => by subst e; exact I.list_inj h h'
  obj := fun ⟨o, ho, hc, hd⟩ => ⟨o, ho, fun v q => by rw [hd] at q; cases q⟩
  keep := fun h k => h.at k
  ne1 := fun ⟨o, ho, hc, hd⟩ ⟨o', ho', hc', n, hd'⟩ e => by subst e; rw [ho] at ho'; cases ho'; rw [hd] at hd'; cases hd'
  ne2 := fun he ⟨o', ho', hc', n, hd'⟩ e => by subst e; rw [he] at ho'; cases ho'; cases hd'
  dr := fun hh it l hne vs => Draws.list hh it l hne vs
theorem src_tup (K : PySem.W.Frag) : Src K (SqT K) (fun h a vs => h.IsTuple a vs) (fun h it a i => h.IsTupleIter it a i) where
  at_ := fun e I h => by subst e; obtain ⟨its, r, p, _⟩ := I.tuple h; exact ⟨its, r, p⟩
  inj := fun e I h h' => by subst e; exact I.tuple_inj h h'
  obj := fun ⟨o, ho, hc, hd⟩ => ⟨o, ho, fun v q => by rw [hd] at q; cases q⟩
  keep := fun h k => h.at k
  ne1 := fun ⟨o, ho, hc, hd⟩ ⟨o', ho', hc', n, hd'⟩ e => by subst e; rw [ho] at ho'; cases ho'; rw [hd] at hd'; cases hd'
  ne2 := fun he ⟨o', ho', hc', n, hd'⟩ e => by subst e; rw [he] at ho'; cases ho'; cases hd'
  dr := fun hh it l hne vs => Draws.tuple hh it l hne vs
section
variable {K : PySem.W.Frag} {SQ : Hp → Addr → List V → Prop} {HI : Heap → Addr → Array Value → Prop} {IT : Heap → Addr → Addr → Nat → Prop}
def ItE (SQ : Hp → Addr → List V → Prop) (a : Addr) (k : Int) : It where
  go := fun i H => ∃ (xs : List V) (x : V), SQ H a xs ∧ xs[i]? = some x
  yld := fun i H v H' => ∃ T x, v = .ref T ∧ H T = none ∧ H' = upd H T (.tup [.int (k + (i : Nat)), x]) ∧ ∀ xs, SQ H a xs → xs[i]? = some x
  stop := fun i H => ∃ xs : List V, SQ H a xs ∧ xs.length = i
theorem turn_enumE {P : Program} {w : World} {elts : List Expr} {kk : Nat} {tpos : Pos} (S : Src K SQ HI IT) (k : Int) (a e it : Addr) :
    Turn P w K (.Tuple elts kk tpos) (ItE SQ a k) [e, it] e (fun i h => (∃ old, IsEnum h e it (k + (i : Nat)) old) ∧ IT h it a i ∧ e ≠ it) where
  mem := List.mem_cons_self
  obj := fun i h st b hb => by
    obtain ⟨⟨old, he⟩, hit, _⟩ := st
    rcases List.mem_cons.mp hb with rfl | hb
    · exact ⟨_, he, fun v q => nomatch q⟩
    · cases List.mem_singleton.mp hb
      exact S.obj hit
  keep := fun i h h' st k => by
    obtain ⟨⟨old, he⟩, hit, hne⟩ := st
    exact ⟨⟨old, k e (by simp) _ he⟩, S.keep hit fun o q => k it (by simp) o q, hne⟩
  item := by
    intro X hP hw hK hc i pins s σ H E I hf st hg
    subst hP hw
    obtain ⟨⟨old, he⟩, hit, hne⟩ := st
    obtain ⟨xs, x, hq, hx⟩ := hg
    obtain ⟨its, rv, p⟩ := S.at_ hK I hq
    obtain ⟨u, hu, ru⟩ := rv.get hx
    have hel : e < s.heap.objs.size := Heap.lt_size he
    have hil : it < s.heap.objs.size := by
      obtain ⟨o, q, _⟩ := S.obj hit
      exact Heap.lt_size q
    have d1 := S.ne1 hit p
    have d2 := S.ne2 he p
    have hu' : its.toArray[i]? = some u := by simpa using hu
    have hlt : i < its.toArray.size := (Array.getElem?_eq_some_iff.mp hu').1
    have hin : (X.A.in1).handled = none := I.ok.hd hc
    refine wpAny_pyNext_enum_itemC (S.dr (A := X.A.in1) hin it a d1 its.toArray) he ⟨hit, p⟩ hlt hne (by
      intro z
      rcases List.mem_cons.mp z with z | z
      · exact hne z
      · exact d2 (List.mem_singleton.mp z).symm) fun y h' tk hy ho hst hT hsz hk => ?_
    have ey : y = u := Option.some.inj (hy.symm.trans hu')
    subst ey
    refine ⟨_, rfl, wpAny_letOwnedTupleGo_enum (s := { s with heap := h', toks := tk + 1 }) ho fun h2 he2 sb => ?_⟩
    have hT2 : h2.get? s.heap.objs.size = some { cls := .type "tuple", data := .seq #[.int (k + (i : Nat)) tk, y] } := (sb.2 _ (Nat.ne_of_gt hel)).trans hT
    have new : ObjOk X.prog X.w (upd H s.heap.objs.size (.tup [.int (k + (i : Nat)), x])) h2 s.heap.objs.size (.tup [.int (k + (i : Nat)), x]) :=
      ⟨show 2 ≤ sizeLine by decide, [.int (k + (i : Nat)) tk, y], .cons ⟨_, rfl⟩ (.cons ru .nil), ⟨_, hT2, rfl, _, rfl⟩⟩
    have J := I.turnedNew (ch := [e, it]) (h' := h2) (t' := tk + 1) (fun b ob hb q => (sb.2 b (fun z => hb (by simp [z]))).trans (hk b ob (fun z => hb (by simp [z])) (fun z => hb (by simp [z])) q)) hf (Nat.le_refl _) new
    refine ⟨.ref s.heap.objs.size, _, J, rfl, ⟨_, x, rfl, I.hok.fresh (Nat.le_refl _), rfl, fun ys hy => ?_⟩, ⟨⟨y, ?_⟩, S.keep hst.1 fun o q => (sb.2 it (Ne.symm hne)).trans q, hne⟩, fun b hb => ?_⟩
    · rw [S.inj hK I hy hq]
      exact hx
    · have e1 : k + ((i + 1 : Nat) : Int) = k + (i : Nat) + 1 := by omega
      rw [e1]
      exact he2
    · have hb' : b < s.heap.objs.size := by
        rcases List.mem_cons.mp hb with rfl | hb
        · exact hel
        · cases List.mem_singleton.mp hb
          exact hil
      rw [upd_ne (Nat.ne_of_lt hb')]
      exact (hf b hb).1
  done := by
    intro X hP hw hK hc i pins s σ H E I hf st hg
    subst hP hw
    obtain ⟨⟨old, he⟩, hit, hne⟩ := st
    obtain ⟨xs, hq, hx⟩ := hg
    obtain ⟨its, rv, p⟩ := S.at_ hK I hq
    obtain ⟨f0, f1, f2, f3, f4, f5⟩ := hf it (by simp)
    have hl := rv.length
    have d1 := S.ne1 hit p
    have hin : (X.A.in1).handled = none := I.ok.hd hc
    have hsz : its.toArray.size = i := by
      rw [List.size_toArray, ← hl, hx]
    subst hsz
    exact wpAny_pyNext_enum_endD (S.dr (A := X.A.in1) hin it a d1 its.toArray) he ⟨hit, p⟩ fun h' eb => ⟨rfl, I.turned (t' := s.toks) (fun b o hb q => eb b o hb q) f0 f1 f3 f4 f5⟩
  self := fun A i s Q E st h => by
    obtain ⟨⟨_, he⟩, _⟩ := st
    exact wpAny_pyIter_enum he h
theorem walk_enumE {a : Addr} {xs : List V} {k : Int} : Walk (ItE SQ a k) xs.length (fun H => SQ H a xs) (YPair (fun i => some (.int (k + (i : Nat)))) (fun i => xs[i]?)) := by
  refine ⟨fun i H hi q => ⟨xs, xs[i], q, by simp [hi]⟩, fun H q => ⟨xs, q, rfl⟩, fun i H v H' hi q y => ?_⟩
  obtain ⟨T, x, h1, h2, h3, h4⟩ := y
  exact ⟨T, .int (k + (i : Nat)), x, h1, h2, h3, rfl, h4 xs q⟩
end
set_option maxHeartbeats 1000000 in
theorem meets_enum0 {v : Value} {o : Obj} {H : Heap → Prop} (B : Begins v o H) :
    Meets (Builtin.«enumerate.__new__» ⟨[.type "enumerate", v], []⟩) (fun _ R s => H s.heap ∧
      R (.ok (.ret (.ref (s.heap.push o).objs.size))) { s with heap := (s.heap.push o).push { cls := .type "enumerate", data := .fields #[.none, .bool false, .ref s.heap.objs.size, rawInt 0, .none, .none] } }) :=
  .of_wp fun prog w A R s h => by
    obtain ⟨hp, g, d, tk, os⟩ := s
    obtain ⟨h1, h⟩ := h
    have hsub := sub_enumerate
    have q1 : ∀ {A' : Around} {E Q : Value → Shared → Prop}, Q (.ref hp.objs.size) ⟨hp.push o, g, d, tk, os⟩ → wpAny (model prog w) A' (pyIter v) Q E ⟨hp, g, d, tk, os⟩ :=
      fun q => B.iter prog w _ _ ⟨hp, g, d, tk, os⟩ _ h1 q
    wp_walk using q1
    refine wpAny_stack_any fun st => wpAny_pure ?_
    split
    · rename_i c _ _ _ _ _
      cases (c == Value.type "enumerate")
      · wp_walk using q1
        exact ⟨_, rfl, h⟩
      · wp_walk using q1
        exact ⟨_, rfl, h⟩
    · wp_walk using q1
      exact ⟨_, rfl, h⟩
section
variable {prog : Program} {w : World} {A : Around} {Er : Value → Shared → Prop} {s : Shared}
theorem enum_begins0 {v : Value} {o : Obj} {H : Heap → Prop} {Q : Value → Shared → Prop} (B : Begins v o H) (h1 : H s.heap)
    (h : ∀ h', IsEnum h' (s.heap.objs.size + 1) s.heap.objs.size 0 .none → h'.get? s.heap.objs.size = some o → (∀ b o, s.heap.get? b = some o → h'.get? b = some o) → Q (.ref (s.heap.objs.size + 1)) { s with heap := h' }) :
    wpAny (model prog w) A (call (.type "enumerate") [v]) Q Er s := by
  refine callType_new F.called_enumerate (by decide) (F.typeCall_enumerate_1 _) (F.newCall_enumerate_1 _) (fun obj => F.args_object_init_2 obj _) F.entry_enumerate_new (meets_enum0 B) ⟨h1, ?_⟩
  have hone : (s.heap.push o).objs.size = s.heap.objs.size + 1 := Heap.size_push ..
  show _ ∧ _
  rw [hone]
  have he : IsEnum ((s.heap.push o).push { cls := .type "enumerate", data := .fields #[.none, .bool false, .ref s.heap.objs.size, rawInt 0, .none, .none] }) (s.heap.objs.size + 1) s.heap.objs.size 0 .none := by
    have q := Heap.get?_push_size (s.heap.push o) (o := { cls := .type "enumerate", data := .fields #[.none, .bool false, .ref s.heap.objs.size, rawInt 0, .none, .none] }) rfl
    rw [hone] at q
    exact q
  exact ⟨⟨_, he, rfl⟩, h _ he (Heap.get?_push_of_some _ (Heap.get?_push_size _ B.free)) fun b o x => Heap.get?_push_of_some _ (Heap.get?_push_of_some _ x)⟩
end
section
variable {X : Cx} {e : Expr} {ta : TA} {te : TE} {p pos tpos kpos : Pos} {elts : List Expr} {kk : Nat}
def iEnT (K : PySem.W.Frag) (ta : TA) : TI := fun σ H R => ta σ H fun vs H1 => ∃ a xs, vs = [.ref a] ∧ SqT K H1 a xs ∧ R (ItE (SqT K) a 0) H1
/-- enumerate(t), t a tuple -/
theorem pi_enumT (hg : Gl X "enumerate") (hm : X.mg "enumerate" = none) (ha : PA X [e] ta) (hs : starEach [e] X.env = [(false, eval e X.env)] := by rfl) :
    PI X (.Tuple elts kk tpos) (.Call (.Name "enumerate" p) [e] [] pos) (iEnT X.K ta) := by
  refine ⟨fun pins s σ H R I h => Call_ (ld_blt I hg hm boot_enumerate (PyProof.Rows.callWith_type1 (thn (ha.run pos pins s σ H _ I h) ?_) hs rfl))⟩
  rintro us s1 ⟨vs, H1, I1, r1, a, xs, rfl, hq, q⟩
  cases r1 with
  | cons r rr =>
    cases rr
    cases r
    obtain ⟨its, rv, p', _⟩ := I1.tuple hq
    refine enum_begins0 (begins_tuple a its.toArray) p' fun h' he hit hk => wpAny_pyIter_enum he ?_
    have I2 := I1.kept (t' := s1.toks) hk
    have fr : ∀ b ∈ [s1.heap.objs.size + 1, s1.heap.objs.size], FpOk X pins H1 b := by
      intro b hb
      have hle : s1.heap.objs.size ≤ b := by
        rcases List.mem_cons.mp hb with rfl | hb
        · exact Nat.le_add_right _ _
        · exact Nat.le_of_eq (List.mem_singleton.mp hb).symm
      exact I1.fpOk hle (I1.hok.fresh hle)
    exact ⟨_, _, _, _, H1, rfl, I2, turn_enumE (src_tup X.K) 0 a _ _, ⟨⟨.none, he⟩, ⟨_, hit, rfl, rfl⟩, Nat.succ_ne_self _⟩, fr, q⟩
def iEnK (K : PySem.W.Frag) (ta : TA) (tk : TA) : TI := fun σ H R => ta σ H fun vs H1 => tk σ H1 fun ks H2 => ∃ a xs k, vs = [.ref a] ∧ ks = [.int k] ∧ -(2 ^ 63) ≤ k ∧ k < 2 ^ 63 ∧ SqL K H2 a xs ∧ R (ItE (SqL K) a k) H2
theorem typed_kw {M : Model} {A : Around} {Er : Value → Shared → Prop} {s : Shared} {env : Env} {T : String} {pos : Pos} {e : Expr} {kws : List Keyword} {Q : Value → Shared → Prop}
    (h : wpAny M A (spliced (backTo pos (starEach [e] env))) (fun vs s₁ => wpAny M A (evalAll ((backToKw pos (keywordEach kws env)).map (·.2)))
      (fun kvs s₂ => wpAny M A (call (.type T) vs (((backToKw pos (keywordEach kws env)).filterMap (·.1)).zip kvs)) Q Er s₂) Er s₁) Er s)
    (he : backTo pos (starEach [e] env) = [(false, eval e env)]) (hall : (backToKw pos (keywordEach kws env)).all (·.1.isSome) = true) (hkw : (backToKw pos (keywordEach kws env)).any (·.1.isNone) = false) :
    wpAny M A (callWith pos (.type T) [] (backTo pos (starEach [e] env)) (backToKw pos (keywordEach kws env))) Q Er s := by
  rw [he] at h ⊢
  unfold callWith
  refine wpAny_bind (wpAny_holding (wpAny_mono (evalArgs_kwB (Q := fun a s₁ => wpAny M A (call (.type T) ([] ++ a.pos) a.kw) Q Er s₁) hall h) (fun a s₁ h₁ => wpAny_bind (wpAny_standAt ?_)) fun _ _ x => x))
  simp only [List.any_cons, List.any_nil, hkw, Bool.or_false]
  refine wpAny_bind (wpAny_pure ?_)
  exact wpAny_bind (wpAny_mono h₁ (fun v s3 hv => wpAny_bind (wpAny_holding (wpAny_point (wpAny_pure hv)))) fun _ _ z => z)
theorem pi_enumK (hg : Gl X "enumerate") (hm : X.mg "enumerate" = none) (ha : PA X [e] ta) {v : Expr} {tk : TA} (hk : PK X [⟨some "start", v, kpos⟩] tk) (hs : starEach [e] X.env = [(false, eval e X.env)] := by rfl) :
    PI X (.Tuple elts kk tpos) (.Call (.Name "enumerate" p) [e] [⟨some "start", v, kpos⟩] pos) (iEnK X.K ta tk) := by
  refine ⟨fun pins s σ H R I h => wpAny_Call_Name_kw (ld_blt I hg hm boot_enumerate (typed_kw (thn (ha.run pos pins s σ H _ I h) ?_) (by rw [hs]; rfl) rfl rfl))⟩
  rintro us s1 ⟨vs, H1, I1, r1, h1⟩
  refine thn (hk.run pos pins s1 σ H1 _ I1 h1) ?_
  rintro ws s2 ⟨zs, H2, I2, r2, a, xs, k, rfl, rfl, hk0, hk1, hq, q⟩
  cases r1 with
  | cons r rr =>
    cases rr
    cases r
    cases r2 with
    | cons r' rr' =>
      cases rr'
      obtain ⟨t, rfl⟩ := r'
      obtain ⟨its, rv, p', _⟩ := I2.list hq
      refine enum_begins_start (begins_list a its.toArray) p'.isList hk0 hk1 fun h' he hit hz hkp => wpAny_pyIter_enum he ?_
      have J := I2.kept (t' := s2.toks) hkp
      have fr : ∀ b ∈ [s2.heap.objs.size + 1, s2.heap.objs.size], FpOk X pins H2 b := by
        intro b hb
        have hle : s2.heap.objs.size ≤ b := by
          rcases List.mem_cons.mp hb with rfl | hb
          · exact Nat.le_add_right _ _
          · exact Nat.le_of_eq (List.mem_singleton.mp hb).symm
        exact I2.fpOk hle (I2.hok.fresh hle)
      exact ⟨_, _, _, _, H2, rfl, J, turn_enumE (src_list X.K) k a _ _, ⟨⟨.none, by simpa using he⟩, ⟨_, hit, rfl, rfl⟩, Nat.succ_ne_self _⟩, fr, q⟩
end
/-! ### sorted(t), t a tuple of ints -/
section
variable {prog : Program} {w : World} {A : Around} {Er : Value → Shared → Prop} {s : Shared}
theorem collect_tup {l : Addr} {vs : List Value} {Q : List Value → Shared → Prop} (hl : s.heap.IsTuple l vs.toArray)
    (h : Q vs { s with heap := (s.heap.push (seqObj "list" #[] 0)).update s.heap.objs.size (Obj.mapSeq (· ++ vs.toArray)) }) (hsz : vs.length ≤ sizeLine) : wpAny (model prog w) A (collect (.ref l)) Q Er s := by
  obtain ⟨ob, hob, hcl, n, hdt⟩ := id hl
  unfold collect
  refine wpAny_bind (wpAny_runValue (codeAny_builtin entry_proto_collect' (?start : wpAny _ _ (do again (.builtin "list.__iadd__" ⟨[← newList [], .ref l], []⟩)) _ _ s)))
  refine wpAny_bind (wpAny_newList (wpAny_pure ⟨Code.quiet_builtin _ (by decide +kernel), codeAny_builtin entry_list_iadd' ?_⟩))
  show wpAny _ _ (Builtin.List.listExtendWith (.ref s.heap.objs.size) (.ref l) (.ref s.heap.objs.size)) _ _ { s with heap := s.heap.push (seqObj "list" #[] 0) }
  unfold Builtin.List.listExtendWith
  have hnew : (s.heap.push (seqObj "list" #[] 0)).get? l = some ob := Heap.get?_push_of_some _ hob
  refine wpAny_bind (wpAny_typeOf (T := "tuple") ⟨ob, hnew, hcl⟩ ?_)
  rw [if_pos (by rw [show (Value.type "tuple" == Value.type "tuple") = true from rfl]; simp)]
  refine wpAny_bind (listItems_at hnew hdt ?_)
  refine wpAny_bind (listItems_at (xs := #[]) (n := 0) (Heap.get?_push_size _ rfl) rfl ?_)
  rw [if_neg (by simp)]
  refine wpAny_bind (listUpdate_at (xs := #[]) (n := 0) (Heap.get?_push_size _ rfl) rfl ?_ (Nat.zero_le _) (by
    show (#[] ++ vs.toArray).size ≤ sizeLine + 1
    rw [Array.size_append, List.size_toArray]
    show 0 + vs.length ≤ _
    omega))
  refine wpAny_pure ?_
  refine wpAny_bind (wpAny_load (get?_update_seq (Heap.get?_push_size _ rfl) _) ?_)
  show wpAny _ _ (pure ((#[] : Array Value) ++ vs.toArray).toList) Q Er _
  rw [show ((#[] : Array Value) ++ vs.toArray).toList = vs from by simp]
  exact wpAny_pure h
theorem sorted_tup {l : Addr} {vs : List Value} {ns : List Int} {Q : Value → Shared → Prop} (hl : s.heap.IsTuple l vs.toArray) (hI : IntsAre vs ns) (h64 : vs.length < 64)
    (h : ∀ (out : Array Value) (ms : List Int), IntsAre out.toList ms → ms.Perm ns → ms.Pairwise (· ≤ ·) → Q (.ref (s.heap.objs.size + 1)) { s with heap := sortedAll s.heap vs out }) :
    wpAny (model prog w) A (call (.builtin "sorted") [.ref l]) Q Er s := by
  refine Calls.call_function_entry kind_sorted plain_sorted entry_sorted (args_sorted1 (.ref l)) ?_
  unfold Builtin.«sorted»
  refine wpAny_bind (m := checkCount "sorted" 1 1 _) (wpAny_pure (wpAny_bind (collect_tup hl ?_ (Nat.le_trans (Nat.le_of_lt h64) (by decide)))))
  refine wpAny_bind (wpAny_newList ?_)
  have hzz : ((s.heap.push (seqObj "list" #[] 0)).update s.heap.objs.size (Obj.mapSeq (· ++ vs.toArray))).objs.size = s.heap.objs.size + 1 := by
    rw [Heap.size_update, size_push']
  have hsrt : (((s.heap.push (seqObj "list" #[] 0)).update s.heap.objs.size (Obj.mapSeq (· ++ vs.toArray))).push (seqObj "list" vs.toArray 0)).get? (s.heap.objs.size + 1) = some (seqObj "list" vs.toArray 0) := by
    rw [← hzz]
    exact Heap.get?_push_size _ rfl
  show wpAny _ _ _ _ _ { s with heap := ((s.heap.push (seqObj "list" #[] 0)).update s.heap.objs.size (Obj.mapSeq (· ++ vs.toArray))).push (seqObj "list" vs.toArray 0) }
  rw [hzz]
  refine wpAny_bind (wpAny_holding (wpAny_call_entry slot_list_sort ⟨_, hsrt, rfl⟩ entry_list_sort (list_sort_tree hsrt hI h64 fun out ms b1 b2 b3 => ⟨_, rfl, ?_⟩) (args_list_sort _)))
  exact wpAny_pure ⟨_, rfl, h out ms b1 b2 b3⟩
end
def rSortedU (K : PySem.W.Frag) : List V → Hp → VK → Prop := fun vs H Q => ∃ (a : Addr) (ns : List Int), vs = [V.ref a] ∧ (SqL K H a (ns.map V.int) ∨ SqT K H a (ns.map V.int)) ∧ ns.length < 64 ∧
  ∀ (ms : List Int) (p : Addr), ms.Perm ns → ms.Pairwise (· ≤ ·) → H p = none → Q (.ref p) (upd H p (.lst (ms.map V.int)))
theorem call_sortedU {X : Cx} : CallR X (.builtin "sorted") (rSortedU X.K) := by
  intro pins s σ H vs us Q I r h
  obtain ⟨a, ns, rfl, hs, h64, q⟩ := h
  rcases hs with hs | hs
  · exact cr_sorted pins s σ H [V.ref a] us Q I r ⟨a, ns, rfl, hs, h64, q⟩
  · obtain ⟨its, rv, hl, _⟩ := I.tuple hs
    rw [Vals.ref1 r]
    have hi := rv.ints
    refine sorted_tup hl hi (by rw [hi.length]; exact h64) fun out ms h1 h2 h3 => ?_
    obtain ⟨epo, hat⟩ := PyProof.Rows.sortedAll_at s.heap its out
    have hlen : (ms.map V.int).length ≤ sizeLine := by
      rw [List.length_map, h2.length_eq]
      exact small64 h64
    exact ⟨.ref _, upd H (s.heap.objs.size + 1) (.lst (ms.map V.int)), I.laid (t' := s.toks) (fun _ _ => PyProof.Rows.sortedAll_old) (Nat.le_succ _) ⟨hlen, out.toList, epo, vals_of_ints h1, hat⟩, rfl, q ms _ h2 h3 (I.hok.fresh (Nat.le_succ _))⟩
end GL
namespace GL
open PySem PySem.Spec PyProof.Rows L2
section
variable {X : Cx} {CX : CXT} {k : Nat} {f C : Addr} {fd : FuncData} {sp : Sp} {E : XK}
/-- repr(o), o of a class with its own text -/
theorem call_reprG (G : Fre X.A) (F : FnG X.prog X.w X.K X.mg X.base CX k f fd ["self"] sp) (hr : Room (k + 1) X.A) (hu : X.A.units + 64 < cLine) (hb : Binds X.K fd ["self"] []) (hs : PySem.W.findIn X.K (.ref C) "__repr__" = some (some (.ref f))) (hf : PySem.W.isFn X.K (.ref f) = true) (hx : Passes CX X E) :
    CallR X (.builtin "repr") (fun xs H Q => ∃ a dx fs, xs = [.ref a] ∧ H a = some (.ins C dx fs) ∧ sp [.ref a] H (fun v H' => ∃ z : Str, v = .str z ∧ Q (.str z) H') E) := by
  intro pins s σ H xs us Q I r h
  obtain ⟨a, dx, fs, rfl, ha, h⟩ := h
  cases r with
  | cons r rt =>
    cases rt
    cases r
    obtain ⟨mA, O, _⟩ := ins_get I.hok ha
    obtain ⟨m, fr⟩ := I.fr
    obtain ⟨od, es, ep, hod, _⟩ := O.ns
    refine PySem.W.repr_K (od := some od) (show X.A.units + 1 < cLine by omega) fr I.ok.mod.kin ⟨O.obj, rfl, rfl, hod⟩ hs hf ?_
    refine wpAny_call (codeAny_mono (F.goes (A := X.A.in1) (outer := X.stack) (vs := [.ref a]) (us := [.ref a]) G hr.in1 I.env0.in1 (hb s [.ref a] I.kIn rfl) (.cons rfl .nil) h) ?_)
    intro r s' z
    match r, z with
    | .error e, z => exact hx pins σ H s e s' I z
    | .ok (.ret u), z =>
      obtain ⟨v, H', I3, rv, y, rfl, q⟩ := I.after z
      obtain ⟨t, rfl⟩ := rv
      exact ⟨.str y, H', I3, ⟨t, rfl⟩, q⟩
/-- {x!r}, x a list or a tuple of data -/
def tFmtD (K : PySem.W.Frag) (te : TE) : TE := fun σ H Q => te σ H fun v H1 => ∃ d, Dp K H1 v d ∧ isDisplay d = true ∧ d.showable = true ∧ d.hasDict = false ∧ d.depth ≤ 60 ∧ d.shown.length ≤ sizeLine ∧ Q (.str d.shown) H1
theorem pe_fmtD {e : Expr} {te : TE} {pos : Pos} (G : Fre X.A) (hu : X.A.units + 64 < cLine) (he : PE X e te) : PE X (.FormattedValue e 114 none pos) (tFmtD X.K te) := by
  refine ⟨fun pins s σ H Q I h => wpAny_FormattedValue_repr (thn (he.run pins s σ H _ I h) ?_)⟩
  rintro u s1 ⟨v, H1, I1, r1, d, hd, h1, h2, h3, h4, h5, q⟩
  obtain ⟨as, rd⟩ := Dp.reads I1 d v _ hd r1
  obtain ⟨a, rfl⟩ := isRef_of_reads rd h1
  exact pyReprObj_of_reads rd h2 (PyData.noDict_hsm h3) G (by omega) (fun _ _ e => e) (fun h' u tk hk => wpAny_formatField_str ⟨.str d.shown, H1, I1.kept hk, ⟨_, rfl⟩, q⟩ ⟨.str d.shown, H1, I1.kept hk, ⟨_, rfl⟩, q⟩ h5) h5
end
/-! ### enumerate(t, start=k), t a tuple -/
section
variable {X : Cx} {e : Expr} {ta : TA} {te : TE} {p pos tpos kpos : Pos} {elts : List Expr} {kk : Nat}
def iEnKT (K : PySem.W.Frag) (ta : TA) (tk : TA) : TI := fun σ H R => ta σ H fun vs H1 => tk σ H1 fun ks H2 => ∃ a xs k, vs = [.ref a] ∧ ks = [.int k] ∧ -(2 ^ 63) ≤ k ∧ k < 2 ^ 63 ∧ SqT K H2 a xs ∧ R (ItE (SqT K) a k) H2
theorem pi_enumKT (hg : Gl X "enumerate") (hm : X.mg "enumerate" = none) (ha : PA X [e] ta) {v : Expr} {tk : TA} (hk : PK X [⟨some "start", v, kpos⟩] tk) (hs : starEach [e] X.env = [(false, eval e X.env)] := by rfl) :
    PI X (.Tuple elts kk tpos) (.Call (.Name "enumerate" p) [e] [⟨some "start", v, kpos⟩] pos) (iEnKT X.K ta tk) := by
  refine ⟨fun pins s σ H R I h => wpAny_Call_Name_kw (ld_blt I hg hm boot_enumerate (typed_kw (thn (ha.run pos pins s σ H _ I h) ?_) (by rw [hs]; rfl) rfl rfl))⟩
  rintro us s1 ⟨vs, H1, I1, r1, h1⟩
  refine thn (hk.run pos pins s1 σ H1 _ I1 h1) ?_
  rintro ws s2 ⟨zs, H2, I2, r2, a, xs, k, rfl, rfl, hk0, hk1, hq, q⟩
  cases r1 with
  | cons r rr =>
    cases rr
    cases r
    cases r2 with
    | cons r' rr' =>
      cases rr'
      obtain ⟨t, rfl⟩ := r'
      obtain ⟨its, rv, p', _⟩ := I2.tuple hq
      refine enum_begins_start (begins_tuple a its.toArray) p' hk0 hk1 fun h' he hit hz hkp => wpAny_pyIter_enum he ?_
      have J := I2.kept (t' := s2.toks) hkp
      have fr : ∀ b ∈ [s2.heap.objs.size + 1, s2.heap.objs.size], FpOk X pins H2 b := by
        intro b hb
        have hle : s2.heap.objs.size ≤ b := by
          rcases List.mem_cons.mp hb with rfl | hb
          · exact Nat.le_add_right _ _
          · exact Nat.le_of_eq (List.mem_singleton.mp hb).symm
        exact I2.fpOk hle (I2.hok.fresh hle)
      exact ⟨_, _, _, _, H2, rfl, J, turn_enumE (src_tup X.K) k a _ _, ⟨⟨.none, by simpa using he⟩, ⟨_, hit, rfl, rfl⟩, Nat.succ_ne_self _⟩, fr, q⟩
end
end GL
namespace GL
open PySem PySem.Spec PyProof.Rows L2
/-- of three lists (those by place, the defaults, those by name), which go where -/
def sel {α : Type} (us ds ws : List α) : List (Nat × Nat) → List α
  | [] => []
  | (0, i) :: r => (us[i]?).toList ++ sel us ds ws r
  | (1, i) :: r => (ds[i]?).toList ++ sel us ds ws r
  | (_, i) :: r => (ws[i]?).toList ++ sel us ds ws r
theorem vals_at {vs : List V} {us : List Value} (h : Vals vs us) (i : Nat) : Vals (vs[i]?).toList (us[i]?).toList := by
  cases e : vs[i]? with
  | none =>
    have : us[i]? = none := List.getElem?_eq_none (by rw [← h.length]; exact List.getElem?_eq_none_iff.mp e)
    rw [this]
    exact .nil
  | some x =>
    obtain ⟨u, hu, r⟩ := h.get e
    rw [hu]
    exact .cons r .nil
theorem sel_rel {vs ds zs : List V} {us its ws : List Value} (h1 : Vals vs us) (h2 : Vals ds its) (h3 : Vals zs ws) : ∀ l : List (Nat × Nat), Vals (sel vs ds zs l) (sel us its ws l)
  | [] => .nil
  | (0, i) :: r => (vals_at h1 i).append (sel_rel h1 h2 h3 r)
  | (1, i) :: r => (vals_at h2 i).append (sel_rel h1 h2 h3 r)
  | (n + 2, i) :: r => (vals_at h3 i).append (sel_rel h1 h2 h3 r)
section
variable {X : Cx} {CX : CXT} {k : Nat} {f C : Addr} {fd : FuncData} {ps ks : List Str} {sp : Sp} {E : XK} {x : Str} {p pos : Pos} {kws : List Keyword} {tk : TA} {g : List Value → List Value → List Value} {gV : List V → List V → List V} {pins : List (Addr × Obj)} {σ : L2.St} {H : Hp} {s : Shared} {Q : VK} {ws : List Value} {zs : List V}
/-- C(k = v, ..): the instance is made, then its __init__ -/
theorem ranMK (G : Fre X.A) (M : Mk X.K C f) (F : FnG X.prog X.w X.K X.mg X.base CX k f fd ps sp) (hr : Room (k + 1) X.A) (hb : KBn X.K fd ps 1 ks g gV) (hx : Passes CX X E) (I : Inv X pins σ H s) (rz : Vals zs ws) (l2 : zs.length = ks.length)
    (h : ∀ y dy, H y = none → H dy = none → dy ≠ y → sp (gV [.ref y] zs) (upd (upd H dy (.own y)) y (.ins C dy [])) (fun v H2 => v = .non ∧ Q (.ref y) H2) E) : wpAny (model X.prog X.w) X.A (call (.ref C) [] (ks.zip ws)) (EP X pins σ Q) X.xe s := by
  have h0 := h (s.heap.objs.size + 1) s.heap.objs.size (I.hok.fresh (Nat.le_succ _)) (I.hok.fresh (Nat.le_refl _)) (Nat.ne_of_lt (Nat.lt_succ_self _))
  have J := Inv.made (C := C) I
  have r1 : Vals [V.ref (s.heap.objs.size + 1)] [Value.ref (s.heap.objs.size + 1)] := .cons rfl .nil
  have run := F.goes (fre_make G) (hr.make C [] (ks.zip ws)) (J.env0.make C [] (ks.zip ws)) (hb.to _ [Value.ref (s.heap.objs.size + 1)] ws J.kIn rfl (rz.length.symm.trans l2)) (hb.rel r1 rz) h0
  refine wpAny_call (make_map (f := f) I.kIn M.makes M.init (beq_iff_eq.mp M.fn) (codeAny_mono run ?_))
  intro r s' z
  match r, z with
  | .error e, z => exact hx pins σ _ _ e s' J z
  | .ok (.ret u), z =>
    obtain ⟨v, H', I3, rv, ev, q3⟩ := J.after z
    cases ev
    exact And.intro rv ⟨V.ref (s.heap.objs.size + 1), H', I3, rfl, q3⟩
  | .ok .next, z => exact z.elim
  | .ok .brk, z => exact z.elim
  | .ok .cont, z => exact z.elim
def tMakeK (C : Addr) (m : Nat) (sp : Sp) (gV : List V → List V → List V) (E : XK) (tk : TA) : TE := fun σ H Q => tk σ H fun zs H2 => zs.length = m ∧
  ∀ x dx, H2 x = none → H2 dx = none → dx ≠ x → sp (gV [.ref x] zs) (upd (upd H2 dx (.own x)) x (.ins C dx [])) (fun v H3 => v = .non ∧ Q (.ref x) H3) E
theorem pkK (G : Fre X.A) (M : Mk X.K C f) (F : FnG X.prog X.w X.K X.mg X.base CX k f fd ps sp) (hr : Room (k + 1) X.A) (hg : Gl X x) (hm : X.mg x = some (.ref C)) (hb : KBn X.K fd ps 1 ks g gV) (hx : Passes CX X E)
    (hkw : PK X kws tk) (ndb : (x == ("__debug__" : Str)) = false := by decide) (hall : (backToKw pos (keywordEach kws X.env)).all (·.1.isSome) = true := by rfl) (hks : (backToKw pos (keywordEach kws X.env)).filterMap (·.1) = ks := by rfl)
    (hpl : (backToKw pos (keywordEach kws X.env)).any (·.1.isNone) = false := by rfl) :
    PE X (.Call (.Name x p) [] kws pos) (tMakeK C ks.length sp gV E tk) where
  run := fun pins s σ H Q I h => wpAny_Call_Name_kw (ld_glob I hg hm
    (PySem.W.callWith_KW0 (first := []) (h₀ := X.base) I.ok.mod.kin M.kp hall (thn (hkw.run pos pins s σ H _ I h) fun ws s2 ⟨zs, H2, I2, rz, l2, q2⟩ => by
      rw [hks]
      exact ⟨I2.kIn, ranMK G M F hr hb hx I2 rz l2 q2⟩) hpl) ndb)
end
end GL
namespace GL
open PySem PySem.Spec PyProof.Rows L2
theorem looks_is {M : Model} {u : Value} {T : String} {s : Shared} (h : s.TypeIs u T) : PySem.W.Looks M s.heap (typeOf u) (.type T) := fun A Q E s' k q => by
  have h' : s'.TypeIs u T := by
    cases u <;> first | exact h | (obtain ⟨o, e, c⟩ := h; exact ⟨o, k _ _ e, c⟩)
  exact wpAny_typeOf h' q
def kinds : List String := ["NoneType", "bool", "int", "str", "list", "tuple", "dict"]
theorem sub_kind {K : PySem.W.Frag} {C : Addr} : ∀ {T : String}, T ∈ kinds → PySem.W.subIn K (.type T) (.ref C) = some false := by
  have go : ∀ T l, fastBuiltinMro T = some l → l.contains (.ref C) = false → PySem.W.subIn K (.type T) (.ref C) = some false := fun T l h1 h2 => by
    show (fastBuiltinMro T).map (·.contains (.ref C)) = some false
    rw [h1]
    exact congrArg some h2
  intro T hT
  simp only [kinds, List.mem_cons, List.not_mem_nil, or_false] at hT
  rcases hT with rfl | rfl | rfl | rfl | rfl | rfl | rfl
  · exact go _ [.type "NoneType", .type "object"] (by decide +kernel) (by simp)
  · exact go _ [.type "bool", .type "int", .type "object"] (by decide +kernel) (by simp)
  · exact go _ [.type "int", .type "object"] (by decide +kernel) (by simp)
  · exact go _ [.type "str", .type "object"] (by decide +kernel) (by simp)
  · exact go _ [.type "list", .type "object"] (by decide +kernel) (by simp)
  · exact go _ [.type "tuple", .type "object"] (by decide +kernel) (by simp)
  · exact go _ [.type "dict", .type "object"] (by decide +kernel) (by simp)
/-- the other side of ==: one of the same class, or of a kind of Python's -/
inductive Oth (K : PySem.W.Frag) (H : Hp) (C : Addr) : V → Prop where
  | ins {b dy : Addr} {gs : List (Str × V)} (h : H b = some (.ins C dy gs)) : Oth K H C (.ref b)
  | oth {y : V} {T : String} (h : TyB K H y T) (hT : T ∈ kinds) : Oth K H C y
section
variable {X : Cx} {CX : CXT} {k : Nat} {f C : Addr} {fd : FuncData} {sp : Sp} {E : XK}
theorem Oth.go {pins : List (Addr × Obj)} {σ : L2.St} {H : Hp} {s : Shared} {y : V} {u : Value} (h : Oth X.K H C y) (I : Inv X pins σ H s) (r : RelV y u) : ∃ tb, PySem.W.Looks (model X.prog X.w) s.heap (typeOf u) tb ∧ PySem.W.notFirst X.K C tb = true := by
  cases h with
  | ins h =>
    cases r
    obtain ⟨mB, J', _⟩ := ins_get I.hok h
    obtain ⟨od', J', _⟩ := J'.look
    exact ⟨_, J'.type, by simp [PySem.W.notFirst]⟩
  | oth h hT => exact ⟨_, looks_is (h.is I r), by
      unfold PySem.W.notFirst
      rw [sub_kind hT]
      simp⟩
def rEqOwn (K : PySem.W.Frag) (C : Addr) (sp : Sp) (E : XK) : R2 := fun x y H Q => ∃ a dx fs, x = .ref a ∧ H a = some (.ins C dx fs) ∧ Oth K H C y ∧ sp [.ref a, y] H (fun v H' => ∃ b, v = .bl b ∧ Q (.bl b) H') E
theorem op_eqOwn (G : Fre X.A) (F : FnG X.prog X.w X.K X.mg X.base CX k f fd ["self", "other"] sp) (hr : Room k X.A) (hu : X.A.units + 64 < cLine) (hb : Binds X.K fd ["self", "other"] []) (hs : PySem.W.findIn X.K (.ref C) "__eq__" = some (some (.ref f))) (hf : PySem.W.isFn X.K (.ref f) = true) (hx : Passes CX X E) :
    OpR X (compareOp .Eq) (rEqOwn X.K C sp E) := by
  intro pins s σ H x y v u Q I rx ry h
  obtain ⟨a, dx, fs, rfl, ha, ho, h⟩ := h
  cases rx
  obtain ⟨tb, hl, hn⟩ := ho.go I ry
  obtain ⟨mA, J, _⟩ := ins_get I.hok ha
  obtain ⟨od, J, _⟩ := J.look
  obtain ⟨m, hF⟩ := I.fr
  refine PySem.W.cmp_K (op := .Eq) (tb := tb) (show X.A.units < cLine by omega) hF I.ok.mod.kin J hl hn hs hf ?_
  refine wpAny_call (codeAny_mono (F.goes (A := X.A) (outer := X.stack) (vs := [.ref a, y]) (us := [.ref a, u]) G hr I.env0 (hb s [.ref a, u] I.kIn rfl) (.cons rfl (.cons ry .nil)) h) ?_)
  intro r s' z
  match r, z with
  | .error e, z => exact hx pins σ H s e s' I z
  | .ok (.ret w), z =>
    obtain ⟨v, H', I3, rv, b, rfl, q⟩ := I.after z
    cases (show w = Value.bool b from rv)
    exact ⟨.bl b, H', I3, rfl, q⟩
  | .ok .next, z => exact z.elim
  | .ok .brk, z => exact z.elim
  | .ok .cont, z => exact z.elim
end
/-! ### != by the own == -/
section
variable {M : Model} {prog : Program} {w : World} {A : Around} {E : Value → Shared → Prop} {s : Shared} {K : PySem.W.Frag} {x C f : Addr} {ox : Obj} {od : Option Obj} {b : Value}
theorem ifBound_objNe {args : List Value} {Q : Option Value → Shared → Prop} (X : K.In s.heap) (I : PySem.W.InstAt s.heap x ox C od) (hs : PySem.W.findIn K (.ref C) "__ne__" = some (some (.builtin "object.__ne__")))
    (h : wpAny M A (call (.builtin "object.__ne__") (.ref x :: args)) (fun v => Q (some v)) E s) : wpAny M A (callSpecialIfBound? (.ref x) "__ne__" args) Q E s := by
  simp only [callSpecialIfBound?, bindSpecialIfBound?]
  refine wpAny_holding (wpAny_bind (wpAny_bind (wpAny_bind (I.type.here ((PySem.W.looks_findIn X hs).here ?_)))))
  refine wpAny_bind (wpAny_askSetting (wpAny_ite ?_))
  have fin : wpAny M A (call (.builtin "object.__ne__") ([.ref x] ++ args) >>= fun v => pure (some v)) Q E s := wpAny_bind (wpAny_mono h (fun v s' h' => wpAny_pure h') fun _ _ h' => h')
  split
  · exact wpAny_bind (wpAny_of_eq (F.cmp_object.ne.bind _) (wpAny_pure (by exact fin)))
  · exact wpAny_tryCatch (wpAny_bind (wpAny_of_eq (F.cmp_object.ne.bind _) (wpAny_pure (by exact fin))))
theorem objNe_entry {Q : Fin → Shared → Prop} (X : K.In s.heap) (I : PySem.W.InstAt s.heap x ox C od) (hs : PySem.W.findIn K (.ref C) "__eq__" = some (some (.ref f))) (hf : PySem.W.isFn K (.ref f) = true) (hu : A.units < cLine)
    (hcall : wpAny (model prog w) A (call (.ref f) [.ref x, b]) (fun v s' => ∃ c, v = .bool c ∧ Q (.done (.ret (.bool (!c)))) s') E s) : wpAny (model prog w) A (Builtin.«object.__ne__» ⟨[.ref x, b], []⟩) Q E s := by
  unfold Builtin.«object.__ne__»
  repeat (first
    | with_reducible refine wpAny_cRoomFor hu ?_
    | (refine wpAny_bind (m := callSpecialIfBound? (.ref x) (Str.ofString "__eq__") [b])
        (PySem.W.ifBound_K X I hs hf (wpAny_mono hcall (fun r s' hr => by
          obtain ⟨c, rfl, hq⟩ := hr
          repeat (first | exact hq | exact wpAny_pure hq | exact wpAny_truthy_bool hq | (refine wpAny_bind (m := truthy (.bool _)) (wpAny_truthy_bool ?_)) | wp_step)) fun _ _ e => e)))
    | wp_step)
theorem ne_K {tb : Value} {Q : Value → Shared → Prop} (hu : A.units + 2 < cLine) (X : K.In s.heap) (I : PySem.W.InstAt s.heap x ox C od) (hm : PySem.W.mroIn K C (.type "object") = some true) (hb : PySem.W.Looks (model prog w) s.heap (typeOf b) tb) (hn : PySem.W.notFirst K C tb = true)
    (h1 : PySem.W.findIn K (.ref C) "__ne__" = some (some (.builtin "object.__ne__"))) (hs : PySem.W.findIn K (.ref C) "__eq__" = some (some (.ref f))) (hf : PySem.W.isFn K (.ref f) = true)
    (hcall : wpAny (model prog w) A.in1 (call (.ref f) [.ref x, b]) (fun v s' => ∃ c, v = .bool c ∧ Q (.bool (!c)) s') E s) : wpAny (model prog w) A (richCompare .NotEq (.ref x) b) Q E s := by
  have one : wpAny (model prog w) A (tryCompare (.ref x) "__ne__" b) (fun r s' => ∃ v, r = some v ∧ Q v s') E s := by
    unfold tryCompare
    refine wpAny_bind (ifBound_objNe X I h1 (wpAny_call (codeAny_call_builtin F.cmp_object.ne.plain F.cmpEntry_ne (PySem.W.check_slot F.cmpKind_ne F.cmpSplit_ne (I.type.andThen (PySem.W.looks_mroIn X hm)) (F.cmpArgs_ne _ _) (objNe_entry (A := A.in1) X I hs hf (show A.units + 1 < cLine by omega) (wpAny_mono hcall (fun v s' hv => ?_) fun _ _ e => e))))))
    obtain ⟨c, rfl, hq⟩ := hv
    first | exact ⟨c, rfl, wpAny_pure ⟨_, rfl, hq⟩⟩ | exact ⟨c, rfl, wpAny_pure (wpAny_pure ⟨_, rfl, hq⟩)⟩ | exact ⟨c, rfl, _, rfl, hq⟩
  unfold richCompare
  simp only [oneThing_ref]
  refine wpAny_holding (wpAny_bind (wpAny_cRoomFor (show A.units < cLine by omega) ?_))
  refine wpAny_bind (I.type.here (wpAny_bind (hb.here ?_)))
  split
  · rename_i q
    have e : PySem.W.subIn K tb (.ref C) = some false := by
      rcases Bool.or_eq_true_iff.mp hn with e | e
      · rw [beq_iff_eq.mp e] at q
        simp at q
      · exact beq_iff_eq.mp e
    refine wpAny_bind ((PySem.W.looks_subIn X e).here ?_)
    simp only [Bool.false_eq_true, if_false]
    refine wpAny_bind (wpAny_mono one (fun r s' z => ?_) fun _ _ e => e)
    obtain ⟨v, rfl, hq⟩ := z
    exact wpAny_pure hq
  · refine wpAny_bind (wpAny_pure ?_)
    simp only [Bool.false_eq_true, if_false]
    refine wpAny_bind (wpAny_mono one (fun r s' z => ?_) fun _ _ e => e)
    obtain ⟨v, rfl, hq⟩ := z
    exact wpAny_pure hq
end
section
variable {X : Cx} {CX : CXT} {k : Nat} {f C : Addr} {fd : FuncData} {sp : Sp} {E : XK}
def rNeOwn (K : PySem.W.Frag) (C : Addr) (sp : Sp) (E : XK) : R2 := fun x y H Q => ∃ a dx fs, x = .ref a ∧ H a = some (.ins C dx fs) ∧ Oth K H C y ∧ sp [.ref a, y] H (fun v H' => ∃ b, v = .bl b ∧ Q (.bl (!b)) H') E
theorem op_neOwn (G : Fre X.A) (F : FnG X.prog X.w X.K X.mg X.base CX k f fd ["self", "other"] sp) (hr : Room (k + 1) X.A) (hu : X.A.units + 64 < cLine) (hb : Binds X.K fd ["self", "other"] []) (hs : PySem.W.findIn X.K (.ref C) "__eq__" = some (some (.ref f))) (hf : PySem.W.isFn X.K (.ref f) = true)
    (h1 : PySem.W.findIn X.K (.ref C) "__ne__" = some (some (.builtin "object.__ne__"))) (hm : PySem.W.mroIn X.K C (.type "object") = some true) (hx : Passes CX X E) : OpR X (compareOp .NotEq) (rNeOwn X.K C sp E) := by
  intro pins s σ H x y v u Q I rx ry h
  obtain ⟨a, dx, fs, rfl, ha, ho, h⟩ := h
  cases rx
  obtain ⟨tb, hl, hn⟩ := ho.go I ry
  obtain ⟨mA, J, _⟩ := ins_get I.hok ha
  obtain ⟨od, J, _⟩ := J.look
  refine ne_K (tb := tb) (show X.A.units + 2 < cLine by omega) I.kIn J hm hl hn h1 hs hf ?_
  refine wpAny_call (codeAny_mono (F.goes (A := X.A.in1) (outer := X.stack) (vs := [.ref a, y]) (us := [.ref a, u]) G hr.in1 I.env0.in1 (hb s [.ref a, u] I.kIn rfl) (.cons rfl (.cons ry .nil)) h) ?_)
  intro r s' z
  match r, z with
  | .error e, z => exact hx pins σ H s e s' I z
  | .ok (.ret w), z =>
    obtain ⟨v, H', I3, rv, b, rfl, q⟩ := I.after z
    cases (show w = Value.bool b from rv)
    exact ⟨b, rfl, .bl (!b), H', I3, rfl, q⟩
  | .ok .next, z => exact z.elim
  | .ok .brk, z => exact z.elim
  | .ok .cont, z => exact z.elim
end
end GL
/-! Own errors, over any of Python's classes, with an __init__ that keeps one value or nothing: made, raised, read. -/
namespace PySem
namespace GX
open PySem.W PySem.Calls PyProof.Rows PySem.HandSPX Builtin Builtin.ObjectAttr
/-- an error's class at C, its __init__ at fI, over the class that newId makes -/
structure ErrT (K : Frag) (C fI : Addr) (bmB : List Value) (newId : String) : Prop where
  ini : excInitIn K C bmB newId = true
  ov : excOver K C bmB = true
  sa : findIn K (.ref C) "__setattr__" = some (some (.builtin "object.__setattr__"))
  ga : findIn K (.ref C) "__getattribute__" = some (some (.builtin "BaseException.__getattribute__"))
  gg : findIn K (.ref C) "__getattr__" = some none
  iC : findIn K (.ref C) "__init__" = some (some (.ref fI))
  fn : isFn K (.ref fI) = true
  kp : keepIn K (.ref C) = true
  exC : subIn K (.ref C) (.type "BaseException") = some true
  ty : typeIn K (.ref C) = some (.type "type")
  hd : hasDictIn K C = true
section
variable {prog : Program} {w : World} {A : Around} {E : Value → Shared → Prop} {R : Result → Shared → Prop} {K : Frag} {C fI x t : Addr} {bmB : List Value} {B newId initId : String}
/-- the first thing that an error keeps: its dict is made -/
theorem keeps_first {hp : Heap} {g : Array GenState} {dr : Drawn} {tt : Nat} {os : OsState} {name : Str} {tk : Tok} {v : Value} (SF : StoreFacts B bmB "object.__setattr__" "object") (X : K.In hp) (T : ErrT K C fI bmB newId) (ht : takerIn K C name = some none) (hx : hp.get? x = some (excObj C t none .none))
    (hq : ∀ h' tk' dx, (∀ b o, b ≠ x → hp.get? b = some o → h'.get? b = some o) → hp.objs.size ≤ dx → dx ≠ x → h'.get? x = some (excObj C t (some dx) .none) → h'.Ns1 dx (fun y => if y = name then some v else none) → R (.ok (.ret .none)) ⟨h', g, dr, tk', os⟩) :
    codeAny (model prog w) A (.call (.builtin "object.__setattr__") ⟨[.ref x, .str name tk, v], []⟩) R ⟨hp, g, dr, tt, os⟩ := by
  refine osa_openX (s := ⟨hp, g, dr, tt, os⟩) (od := none) SF X ⟨hx, rfl, rfl, trivial⟩ T.ov ht fun b => ?_
  obtain ⟨cd, hc, hdct⟩ := any_some T.hd
  have hlt : x < hp.objs.size := Heap.lt_size hx
  refine wpAny_bind (wpAny_pure (wpAny_bind (instanceDict_exc hx (looks_clsIn X hc) hdct ?_)))
  show wpAny _ _ (storeInDict hp.objs.size (.str name tk) name v) _ _ _
  have hnew : ((hp.push (dictOf [] 0)).update x fun o => { o with dict := some hp.objs.size }).get? hp.objs.size = some (dictOf [] 0) := (Heap.get?_update_ne _ _ _ _ (Nat.ne_of_gt hlt)).trans (Heap.get?_push_at rfl rfl)
  refine store_in_new ⟨dictOf [] 0, #[], _, hnew, rfl, fun e he => absurd he (by simp), fun _ => rfl⟩ fun h' tk' hns hsame => ?_
  have hx1 : (hp.push (dictOf [] 0)).get? x = some (excObj C t none .none) := Heap.get?_push_of_some _ hx
  refine hq h' tk' hp.objs.size (fun b o hb ho => ?_) (Nat.le_refl _) (Nat.ne_of_gt hlt) ?_ hns
  · exact (hsame.2 b (Nat.ne_of_lt (Heap.lt_size ho))).trans ((Heap.get?_update_ne _ _ _ _ hb).trans (Heap.get?_push_of_some _ ho))
  · exact (hsame.2 x (Nat.ne_of_lt hlt)).trans (Heap.get?_update_self _ hx1 rfl)
theorem ld_par {M : Model} {s : Shared} {name : Str} {scope : Scope} {L a : Addr} {cd : Value} {m : Str → Option Value} {y : Str} {pos : Pos} {v : Value} {Q : Value → Shared → Prop} (hn : s.heap.Ns L m) (hv : m y = some v) (h : Q v s)
    (hk : scope.kind = .function) (hl : (envOfC name scope L a cd).kindOf y = some .local) (hd : (y == ("__debug__" : Str)) = false) :
    wpAny M A (eval (.Name y pos) (envOfC name scope L a cd)) Q E s := wpAny_Name (wpAny_loadName_local hk hl hn hv h) hd
theorem one_fits {v : Value} : [v].length ≤ sizeLine := by
  rw [sizeLine_eq]
  exact (by decide : 1 ≤ 16777216)
/-- an error was made at e, its dict at d (or none) -/
structure Kept (h h' : Heap) (e C : Addr) (d : Option Addr) : Prop where
  keep : ∀ b o, h.get? b = some o → h'.get? b = some o
  new : h.objs.size ≤ e
  obj : ∃ oe vs, h'.get? e = some oe ∧ oe.cls = .ref C ∧ oe.dict = d ∧ oe.data = .fields vs ∧ vs[1]? = some .none
end

def inigroupA (p1 p2 : Pos) : Arguments := { posonlyargs := [], args := [{ arg := "self", annotation := none, pos := p1 }, { arg := "group", annotation := none, pos := p2 }], vararg := none, kwonlyargs := [], kw_defaults := [], kwarg := none, defaults := [] }
def inigroupB (q1 q2 q3 q4 : Pos) : List Stmt := [.Assign [.Attribute (.Name "self" q1) "group" q2] (.Name "group" q3) q4]
def inigroupS : Scope := { kind := .function, names := [(PySem.Str.ofString "self", .local), (PySem.Str.ofString "group", .local)], isGenerator := false, isCoroutine := false, more := [] }
/-- it keeps one value, as group -/
structure Errgroup (K : Frag) (C fI : Addr) (bmB : List Value) (newId : String) : Prop extends ErrT K C fI bmB newId where
  tk : takerIn K C "group" = some none
  no : findIn K (.ref C) "group" = some none
  code : ∃ (oc : Value) (od : Option Addr) (doc pm : Value) (an : Option Addr) (cdv ct : Value) (osl : Array (Option Value)) (qual : Str) (p1 p2 q1 q2 q3 q4 : Pos),
    K.lookup fI = some ⟨oc, od, .func (fnOf "__init__" qual (inigroupA p1 p2) (inigroupB q1 q2 q3 q4) inigroupS .none .none doc pm an cdv ct), osl⟩ ∧ codeIn K cdv qual = true
section
variable {prog : Program} {w : World} {A : Around} {E : Value → Shared → Prop} {R : Result → Shared → Prop} {K : Frag} {C fI x t : Addr} {bmB : List Value} {B newId initId : String}
theorem init_group {s : Shared} {v : Value} (SF : StoreFacts B bmB "object.__setattr__" "object") (T : Errgroup K C fI bmB newId) (X : K.In s.heap) (hlim : s.heap.NoLimit) (hx : s.heap.get? x = some (excObj C t none .none)) (hroom : A.depth < recursionLimit)
    (hq : ∀ h' tk dx, (∀ b o, b ≠ x → s.heap.get? b = some o → h'.get? b = some o) → s.heap.objs.size ≤ dx → dx ≠ x → h'.get? x = some (excObj C t (some dx) .none) → h'.Ns1 dx (fun y => if y = "group" then some v else none) → R (.ok (.ret .none)) { s with heap := h', toks := tk }) :
    codeAny (model prog w) A (.call (.ref fI) ⟨[.ref x, v], []⟩) R s := by
  obtain ⟨oc, od, doc, pm, an, cdv, ct, osl, qual, p1, p2, q1, q2, q3, q4, ho, hcd⟩ := T.code
  refine Att.call_fn (binds := [("self", .ref x), ("group", v)]) X hlim ho hcd hroom (.of_eq rfl) rfl (fun s₁ IC => ?_) rfl rfl rfl
  obtain ⟨h₁, tk₁, rfl⟩ := IC.toInCall.same
  have kk : ∀ b o, s.heap.get? b = some o → h₁.get? b = some o := IC.toInCall.keep
  have hn := IC.toInCall.ns
  show wpAny _ _ (execs _ _) _ _ _
  refine wpAny_execs_cons (plainObj_wpAny_Assign_Attribute ?_)
  refine ld_par (v := v) hn rfl (ld_par (v := .ref x) hn rfl ?_ rfl rfl (by decide)) rfl rfl (by decide)
  refine set_plain (X.keeps kk) (ox := excObj C t none .none) (od := none) ⟨kk _ _ hx, rfl, rfl, trivial⟩ T.sa ?_
  refine keeps_first SF (X.keeps kk) T.toErrT T.tk (kk _ _ hx) fun h₃ tk₃ dx k₃ dn dne hx₃ hn₃ => ?_
  show wpAny _ _ (execs _ _) _ _ _
  have z : s.heap.objs.size < h₁.objs.size := hn.lt
  exact wpAny_execs_nil (hq h₃ tk₃ dx (fun b o hb e => k₃ b o hb (kk b o e)) (Nat.le_of_lt (Nat.lt_of_lt_of_le z dn)) dne hx₃ hn₃)
theorem made_group {s : Shared} {v : Value} (SF : StoreFacts B bmB "object.__setattr__" "object") (FB : ExcBaseFacts B newId initId bmB) (T : Errgroup K C fI bmB newId) (X : K.In s.heap) (hlim : s.heap.NoLimit) (hroom : A.depth + 1 < recursionLimit)
    (hq : ∀ h' tk e d, Kept s.heap h' e C (some d) → s.heap.objs.size ≤ d → d ≠ e → h'.Ns1 d (fun y => if y = "group" then some v else none) → R (.ok (.ret (.ref e))) { s with heap := h', toks := tk }) :
    codeAny (model prog w) A (.call (.ref C) ⟨[v], []⟩) R s := by
  obtain ⟨nm, N, qn, bs, bm, hdct, sn, sub, ab, col, dd, k0, k1, k2, k3, k5, hC, hT⟩ := excInit_of X T.ini
  obtain ⟨hp, g, dr, tk, os⟩ := s
  have kk : ∀ b o, hp.get? b = some o → ((hp.push (kdv_tup [v])).push (excO C hp.objs.size)).get? b = some o := fun b o e => Heap.get?_push_of_some _ (Heap.get?_push_of_some _ e)
  have hget : ((hp.push (kdv_tup [v])).push (excO C hp.objs.size)).get? (hp.objs.size + 1) = some (excO C hp.objs.size) := by heap_get
  refine call_own FB hT hC (looks_findIn X T.iC) (fun self => bind_fn X self (beq_iff_eq.mp T.fn)) one_fits ?_
  refine init_group (s := ⟨(hp.push (kdv_tup [v])).push (excO C hp.objs.size), g, dr, tk, os⟩) SF T (X.keeps kk) (hlim.keeps kk) hget hroom fun h' tk' dx k' dn dne hx hns => ?_
  have old : ∀ b o, hp.get? b = some o → h'.get? b = some o := fun b o e => k' b o (Nat.ne_of_lt (Nat.lt_succ_of_lt (Heap.lt_size e))) (kk b o e)
  have z : hp.objs.size + 1 + 1 ≤ dx := by
    have q := dn
    rw [Heap.size_push, Heap.size_push] at q
    exact q
  exact ⟨rfl, hq h' tk' (hp.objs.size + 1) dx ⟨old, Nat.le_succ _, _, _, hx, rfl, rfl, rfl, rfl⟩ (Nat.le_trans (Nat.le_trans (Nat.le_succ _) (Nat.le_succ _)) z) dne hns⟩
end

def inipositionA (p1 p2 : Pos) : Arguments := { posonlyargs := [], args := [{ arg := "self", annotation := none, pos := p1 }, { arg := "position", annotation := none, pos := p2 }], vararg := none, kwonlyargs := [], kw_defaults := [], kwarg := none, defaults := [] }
def inipositionB (q1 q2 q3 q4 : Pos) : List Stmt := [.Assign [.Attribute (.Name "self" q1) "position" q2] (.Name "position" q3) q4]
def inipositionS : Scope := { kind := .function, names := [(PySem.Str.ofString "self", .local), (PySem.Str.ofString "position", .local)], isGenerator := false, isCoroutine := false, more := [] }
/-- it keeps one value, as position -/
structure Errposition (K : Frag) (C fI : Addr) (bmB : List Value) (newId : String) : Prop extends ErrT K C fI bmB newId where
  tk : takerIn K C "position" = some none
  no : findIn K (.ref C) "position" = some none
  code : ∃ (oc : Value) (od : Option Addr) (doc pm : Value) (an : Option Addr) (cdv ct : Value) (osl : Array (Option Value)) (qual : Str) (p1 p2 q1 q2 q3 q4 : Pos),
    K.lookup fI = some ⟨oc, od, .func (fnOf "__init__" qual (inipositionA p1 p2) (inipositionB q1 q2 q3 q4) inipositionS .none .none doc pm an cdv ct), osl⟩ ∧ codeIn K cdv qual = true
section
variable {prog : Program} {w : World} {A : Around} {E : Value → Shared → Prop} {R : Result → Shared → Prop} {K : Frag} {C fI x t : Addr} {bmB : List Value} {B newId initId : String}
theorem init_position {s : Shared} {v : Value} (SF : StoreFacts B bmB "object.__setattr__" "object") (T : Errposition K C fI bmB newId) (X : K.In s.heap) (hlim : s.heap.NoLimit) (hx : s.heap.get? x = some (excObj C t none .none)) (hroom : A.depth < recursionLimit)
    (hq : ∀ h' tk dx, (∀ b o, b ≠ x → s.heap.get? b = some o → h'.get? b = some o) → s.heap.objs.size ≤ dx → dx ≠ x → h'.get? x = some (excObj C t (some dx) .none) → h'.Ns1 dx (fun y => if y = "position" then some v else none) → R (.ok (.ret .none)) { s with heap := h', toks := tk }) :
    codeAny (model prog w) A (.call (.ref fI) ⟨[.ref x, v], []⟩) R s := by
  obtain ⟨oc, od, doc, pm, an, cdv, ct, osl, qual, p1, p2, q1, q2, q3, q4, ho, hcd⟩ := T.code
  refine Att.call_fn (binds := [("self", .ref x), ("position", v)]) X hlim ho hcd hroom (.of_eq rfl) rfl (fun s₁ IC => ?_) rfl rfl rfl
  obtain ⟨h₁, tk₁, rfl⟩ := IC.toInCall.same
  have kk : ∀ b o, s.heap.get? b = some o → h₁.get? b = some o := IC.toInCall.keep
  have hn := IC.toInCall.ns
  show wpAny _ _ (execs _ _) _ _ _
  refine wpAny_execs_cons (plainObj_wpAny_Assign_Attribute ?_)
  refine ld_par (v := v) hn rfl (ld_par (v := .ref x) hn rfl ?_ rfl rfl (by decide)) rfl rfl (by decide)
  refine set_plain (X.keeps kk) (ox := excObj C t none .none) (od := none) ⟨kk _ _ hx, rfl, rfl, trivial⟩ T.sa ?_
  refine keeps_first SF (X.keeps kk) T.toErrT T.tk (kk _ _ hx) fun h₃ tk₃ dx k₃ dn dne hx₃ hn₃ => ?_
  show wpAny _ _ (execs _ _) _ _ _
  have z : s.heap.objs.size < h₁.objs.size := hn.lt
  exact wpAny_execs_nil (hq h₃ tk₃ dx (fun b o hb e => k₃ b o hb (kk b o e)) (Nat.le_of_lt (Nat.lt_of_lt_of_le z dn)) dne hx₃ hn₃)
theorem made_position {s : Shared} {v : Value} (SF : StoreFacts B bmB "object.__setattr__" "object") (FB : ExcBaseFacts B newId initId bmB) (T : Errposition K C fI bmB newId) (X : K.In s.heap) (hlim : s.heap.NoLimit) (hroom : A.depth + 1 < recursionLimit)
    (hq : ∀ h' tk e d, Kept s.heap h' e C (some d) → s.heap.objs.size ≤ d → d ≠ e → h'.Ns1 d (fun y => if y = "position" then some v else none) → R (.ok (.ret (.ref e))) { s with heap := h', toks := tk }) :
    codeAny (model prog w) A (.call (.ref C) ⟨[v], []⟩) R s := by
  obtain ⟨nm, N, qn, bs, bm, hdct, sn, sub, ab, col, dd, k0, k1, k2, k3, k5, hC, hT⟩ := excInit_of X T.ini
  obtain ⟨hp, g, dr, tk, os⟩ := s
  have kk : ∀ b o, hp.get? b = some o → ((hp.push (kdv_tup [v])).push (excO C hp.objs.size)).get? b = some o := fun b o e => Heap.get?_push_of_some _ (Heap.get?_push_of_some _ e)
  have hget : ((hp.push (kdv_tup [v])).push (excO C hp.objs.size)).get? (hp.objs.size + 1) = some (excO C hp.objs.size) := by heap_get
  refine call_own FB hT hC (looks_findIn X T.iC) (fun self => bind_fn X self (beq_iff_eq.mp T.fn)) one_fits ?_
  refine init_position (s := ⟨(hp.push (kdv_tup [v])).push (excO C hp.objs.size), g, dr, tk, os⟩) SF T (X.keeps kk) (hlim.keeps kk) hget hroom fun h' tk' dx k' dn dne hx hns => ?_
  have old : ∀ b o, hp.get? b = some o → h'.get? b = some o := fun b o e => k' b o (Nat.ne_of_lt (Nat.lt_succ_of_lt (Heap.lt_size e))) (kk b o e)
  have z : hp.objs.size + 1 + 1 ≤ dx := by
    have q := dn
    rw [Heap.size_push, Heap.size_push] at q
    exact q
  exact ⟨rfl, hq h' tk' (hp.objs.size + 1) dx ⟨old, Nat.le_succ _, _, _, hx, rfl, rfl, rfl, rfl⟩ (Nat.le_trans (Nat.le_trans (Nat.le_succ _) (Nat.le_succ _)) z) dne hns⟩
end

def inivalueA (p1 p2 : Pos) : Arguments := { posonlyargs := [], args := [{ arg := "self", annotation := none, pos := p1 }, { arg := "value", annotation := none, pos := p2 }], vararg := none, kwonlyargs := [], kw_defaults := [], kwarg := none, defaults := [] }
def inivalueB (q1 q2 q3 q4 : Pos) : List Stmt := [.Assign [.Attribute (.Name "self" q1) "value" q2] (.Name "value" q3) q4]
def inivalueS : Scope := { kind := .function, names := [(PySem.Str.ofString "self", .local), (PySem.Str.ofString "value", .local)], isGenerator := false, isCoroutine := false, more := [] }
/-- it keeps one value, as value -/
structure Errvalue (K : Frag) (C fI : Addr) (bmB : List Value) (newId : String) : Prop extends ErrT K C fI bmB newId where
  tk : takerIn K C "value" = some none
  no : findIn K (.ref C) "value" = some none
  code : ∃ (oc : Value) (od : Option Addr) (doc pm : Value) (an : Option Addr) (cdv ct : Value) (osl : Array (Option Value)) (qual : Str) (p1 p2 q1 q2 q3 q4 : Pos),
    K.lookup fI = some ⟨oc, od, .func (fnOf "__init__" qual (inivalueA p1 p2) (inivalueB q1 q2 q3 q4) inivalueS .none .none doc pm an cdv ct), osl⟩ ∧ codeIn K cdv qual = true
section
variable {prog : Program} {w : World} {A : Around} {E : Value → Shared → Prop} {R : Result → Shared → Prop} {K : Frag} {C fI x t : Addr} {bmB : List Value} {B newId initId : String}
theorem init_value {s : Shared} {v : Value} (SF : StoreFacts B bmB "object.__setattr__" "object") (T : Errvalue K C fI bmB newId) (X : K.In s.heap) (hlim : s.heap.NoLimit) (hx : s.heap.get? x = some (excObj C t none .none)) (hroom : A.depth < recursionLimit)
    (hq : ∀ h' tk dx, (∀ b o, b ≠ x → s.heap.get? b = some o → h'.get? b = some o) → s.heap.objs.size ≤ dx → dx ≠ x → h'.get? x = some (excObj C t (some dx) .none) → h'.Ns1 dx (fun y => if y = "value" then some v else none) → R (.ok (.ret .none)) { s with heap := h', toks := tk }) :
    codeAny (model prog w) A (.call (.ref fI) ⟨[.ref x, v], []⟩) R s := by
  obtain ⟨oc, od, doc, pm, an, cdv, ct, osl, qual, p1, p2, q1, q2, q3, q4, ho, hcd⟩ := T.code
  refine Att.call_fn (binds := [("self", .ref x), ("value", v)]) X hlim ho hcd hroom (.of_eq rfl) rfl (fun s₁ IC => ?_) rfl rfl rfl
  obtain ⟨h₁, tk₁, rfl⟩ := IC.toInCall.same
  have kk : ∀ b o, s.heap.get? b = some o → h₁.get? b = some o := IC.toInCall.keep
  have hn := IC.toInCall.ns
  show wpAny _ _ (execs _ _) _ _ _
  refine wpAny_execs_cons (plainObj_wpAny_Assign_Attribute ?_)
  refine ld_par (v := v) hn rfl (ld_par (v := .ref x) hn rfl ?_ rfl rfl (by decide)) rfl rfl (by decide)
  refine set_plain (X.keeps kk) (ox := excObj C t none .none) (od := none) ⟨kk _ _ hx, rfl, rfl, trivial⟩ T.sa ?_
  refine keeps_first SF (X.keeps kk) T.toErrT T.tk (kk _ _ hx) fun h₃ tk₃ dx k₃ dn dne hx₃ hn₃ => ?_
  show wpAny _ _ (execs _ _) _ _ _
  have z : s.heap.objs.size < h₁.objs.size := hn.lt
  exact wpAny_execs_nil (hq h₃ tk₃ dx (fun b o hb e => k₃ b o hb (kk b o e)) (Nat.le_of_lt (Nat.lt_of_lt_of_le z dn)) dne hx₃ hn₃)
theorem made_value {s : Shared} {v : Value} (SF : StoreFacts B bmB "object.__setattr__" "object") (FB : ExcBaseFacts B newId initId bmB) (T : Errvalue K C fI bmB newId) (X : K.In s.heap) (hlim : s.heap.NoLimit) (hroom : A.depth + 1 < recursionLimit)
    (hq : ∀ h' tk e d, Kept s.heap h' e C (some d) → s.heap.objs.size ≤ d → d ≠ e → h'.Ns1 d (fun y => if y = "value" then some v else none) → R (.ok (.ret (.ref e))) { s with heap := h', toks := tk }) :
    codeAny (model prog w) A (.call (.ref C) ⟨[v], []⟩) R s := by
  obtain ⟨nm, N, qn, bs, bm, hdct, sn, sub, ab, col, dd, k0, k1, k2, k3, k5, hC, hT⟩ := excInit_of X T.ini
  obtain ⟨hp, g, dr, tk, os⟩ := s
  have kk : ∀ b o, hp.get? b = some o → ((hp.push (kdv_tup [v])).push (excO C hp.objs.size)).get? b = some o := fun b o e => Heap.get?_push_of_some _ (Heap.get?_push_of_some _ e)
  have hget : ((hp.push (kdv_tup [v])).push (excO C hp.objs.size)).get? (hp.objs.size + 1) = some (excO C hp.objs.size) := by heap_get
  refine call_own FB hT hC (looks_findIn X T.iC) (fun self => bind_fn X self (beq_iff_eq.mp T.fn)) one_fits ?_
  refine init_value (s := ⟨(hp.push (kdv_tup [v])).push (excO C hp.objs.size), g, dr, tk, os⟩) SF T (X.keeps kk) (hlim.keeps kk) hget hroom fun h' tk' dx k' dn dne hx hns => ?_
  have old : ∀ b o, hp.get? b = some o → h'.get? b = some o := fun b o e => k' b o (Nat.ne_of_lt (Nat.lt_succ_of_lt (Heap.lt_size e))) (kk b o e)
  have z : hp.objs.size + 1 + 1 ≤ dx := by
    have q := dn
    rw [Heap.size_push, Heap.size_push] at q
    exact q
  exact ⟨rfl, hq h' tk' (hp.objs.size + 1) dx ⟨old, Nat.le_succ _, _, _, hx, rfl, rfl, rfl, rfl⟩ (Nat.le_trans (Nat.le_trans (Nat.le_succ _) (Nat.le_succ _)) z) dne hns⟩
end

def ini0A (p1 : Pos) : Arguments := { posonlyargs := [], args := [{ arg := "self", annotation := none, pos := p1 }], vararg := none, kwonlyargs := [], kw_defaults := [], kwarg := none, defaults := [] }
def ini0S : Scope := { kind := .function, names := [(PySem.Str.ofString "self", .local)], isGenerator := false, isCoroutine := false, more := [] }
structure Err0 (K : Frag) (C fI : Addr) (bmB : List Value) (newId : String) : Prop extends ErrT K C fI bmB newId where
  code : ∃ (oc : Value) (od : Option Addr) (doc pm : Value) (an : Option Addr) (cdv ct : Value) (osl : Array (Option Value)) (qual : Str) (p1 q1 : Pos),
    K.lookup fI = some ⟨oc, od, .func (fnOf "__init__" qual (ini0A p1) [.Pass q1] ini0S .none .none doc pm an cdv ct), osl⟩ ∧ codeIn K cdv qual = true
section
variable {prog : Program} {w : World} {A : Around} {E : Value → Shared → Prop} {R : Result → Shared → Prop} {K : Frag} {C fI x t : Addr} {bmB : List Value} {B newId initId : String}
theorem made_0 {s : Shared} (FB : ExcBaseFacts B newId initId bmB) (T : Err0 K C fI bmB newId) (X : K.In s.heap) (hlim : s.heap.NoLimit) (hroom : A.depth + 1 < recursionLimit)
    (hq : ∀ h' tk e, Kept s.heap h' e C none → R (.ok (.ret (.ref e))) { s with heap := h', toks := tk }) : codeAny (model prog w) A (.call (.ref C) ⟨[], []⟩) R s := by
  obtain ⟨nm, N, qn, bs, bm, hdct, sn, sub, ab, col, dd, k0, k1, k2, k3, k5, hC, hT⟩ := excInit_of X T.ini
  obtain ⟨oc, od, doc, pm, an, cdv, ct, osl, qual, p1, q1, ho, hcd⟩ := T.code
  obtain ⟨hp, g, dr, tk, os⟩ := s
  have kk : ∀ b o, hp.get? b = some o → ((hp.push (kdv_tup [])).push (excO C hp.objs.size)).get? b = some o := fun b o e => Heap.get?_push_of_some _ (Heap.get?_push_of_some _ e)
  have hget : ((hp.push (kdv_tup [])).push (excO C hp.objs.size)).get? (hp.objs.size + 1) = some (excO C hp.objs.size) := by heap_get
  refine call_own FB hT hC (looks_findIn X T.iC) (fun self => bind_fn X self (beq_iff_eq.mp T.fn)) (Nat.zero_le _) ?_
  refine Att.call_fn (s := ⟨(hp.push (kdv_tup [])).push (excO C hp.objs.size), g, dr, tk, os⟩) (binds := [("self", .ref (hp.objs.size + 1))]) (X.keeps kk) (hlim.keeps kk) ho hcd hroom (.of_eq rfl) rfl (fun s₁ IC => ?_) rfl rfl rfl
  obtain ⟨h₁, tk₁, rfl⟩ := IC.toInCall.same
  have k2' : ∀ b o, ((hp.push (kdv_tup [])).push (excO C hp.objs.size)).get? b = some o → h₁.get? b = some o := IC.toInCall.keep
  show wpAny _ _ (execs _ _) _ _ _
  refine wpAny_execs_cons (wpAny_Pass ?_)
  show wpAny _ _ (execs _ _) _ _ _
  exact wpAny_execs_nil ⟨rfl, hq h₁ tk₁ (hp.objs.size + 1) ⟨fun b o e => k2' b o (kk b o e), Nat.le_succ _, _, _, k2' _ _ hget, rfl, rfl, rfl, rfl⟩⟩
end
end GX
end PySem
/-! try with several except clauses, each with a name or without. -/
namespace GL
open PySem PySem.Spec PyProof.Rows L2
/-- a clause: the class, its suite, the slot of its name -/
structure Cl where
  c : Value
  ts : Addr → Value → Option Addr → TS
  i : Option Nat
/-- the ends of a suite whose name stands in slot i: the name is gone behind it -/
def goneD (D : Ends) (i : Nat) : Ends := { nx := fun σ H => D.nx (σ.set i none) H, rt := D.rt, bk := fun σ H => D.bk (σ.set i none) H, ct := fun σ H => D.ct (σ.set i none) H }
def runCl (k : Cl) (D : Ends) (cls : Value) (d : Option Addr) (σ : L2.St) (H : Hp) : Prop := ∀ a, H a = none → match k.i with
  | none => k.ts a cls d D σ H
  | some i => k.ts a cls d (goneD D i) (σ.set i (some (.ref a))) H
/-- what the clauses wish of an error of the body -/
def wAny (K : PySem.W.Frag) (Wout : WX) (D : Ends) : List Cl → WX
  | [] => Wout
  | k :: r => fun cls d σ H => ∃ b, PySem.W.exmOne K cls k.c = some b ∧ (b = true → runCl k D cls d σ H) ∧ (b = false → wAny K Wout D r cls d σ H)
def SuiteOk (X : Cx) (sts : List Stmt) (ts : Addr → Value → Option Addr → TS) : Prop := ∀ (a : Addr) (oe : Obj) (cls : Value) (d : Option Addr) (pn : List (Addr × Obj)), Zc cls d oe → (∃ vs, oe.data = .fields vs) → PSs (X.suite a ((a, oe) :: pn)) sts (ts a cls d)
inductive Cls' (X : Cx) : List ExceptHandler → List Cl → Prop
  | nil : Cls' X [] []
  | plain {x : Str} {c : Value} {ts : Addr → Value → Option Addr → TS} {s₀ : Stmt} {sts : List Stmt} {p1 p2 : Pos} {hs : List ExceptHandler} {l : List Cl} (hc : Names X x c) (ok : SuiteOk X (s₀ :: sts) ts) (r : Cls' X hs l) :
      Cls' X (.ExceptHandler (some (.Name x p1)) none (s₀ :: sts) p2 :: hs) (⟨c, ts, none⟩ :: l)
  | named {x n : Str} {i : Nat} {c : Value} {ts : Addr → Value → Option Addr → TS} {s₀ : Stmt} {sts : List Stmt} {p1 p2 : Pos} {hs : List ExceptHandler} {l : List Cl} (hc : Names X x c) (hN : X.N.Nodup) (hi : X.N[i]? = some n) (hn : X.env.kindOf n = some .local) (ok : SuiteOk X (s₀ :: sts) ts) (r : Cls' X hs l) :
      Cls' X (.ExceptHandler (some (.Name x p1)) (some n) (s₀ :: sts) p2 :: hs) (⟨c, ts, some i⟩ :: l)
section
variable {X : Cx} {body : List Stmt} {h₁ : ExceptHandler} {hs' : List ExceptHandler} {l : List Cl} {pos : Pos} {tb : WX → TS} {Wout : WX}
/-- an error of the body on its way to the clauses -/
def caught (X : Cx) (pins : List (Addr × Obj)) (D : Ends) (hl : List ExceptHandler) (e : Value) (s1 : Shared) : Prop :=
  wpAny (model X.prog X.w) X.A (noteFrame e X.env) (fun _ s2 => wpAny (model X.prog X.w) X.A (setFlight e none) (fun _ s3 => wpAny (model X.prog X.w) X.A (handleBy e X.env hl) (SP X pins D) X.xe s3) X.xe s2) X.xe s1
theorem ps_try_any (est : X.stack = X.env :: X.outer) (efr : X.env.frame = some X.env.locals) (tk : Takes X Wout)
    (hbody : ∀ (W : WX) (pn : List (Addr × Obj)) (xe : Value → Shared → Prop), Takes (X.tr pn xe) W → PassesOwn (model X.prog X.w) X.A X.env xe → PSs (X.tr pn xe) body (tb W)) (hcl : Cls' X (h₁ :: hs') l) :
    PS X (.Try body (h₁ :: hs') [] [] pos) (fun D σ H => tb (wAny X.K Wout D l) D σ H) := by
  constructor
  intro pins s σ H D I hb0
  have okX := I.ok
  have frA : X.A.frames = some (X.env :: X.outer) := by
    rw [okX.frames, est]
  have land : Takes (X.tr (X.pn ++ pins) (caught X pins D (h₁ :: hs'))) (wAny X.K Wout D l) := by
    rintro u t1 ⟨e, Bz, sz, pz, σ1, H1, cls, d, rfl, Jt, nbz, upz, skz, hnone, eos, bare, wish⟩
    have J : Inv X pins σ1 H1 sz := Jt.ofTry okX
    have sk1 : Sky Bz (X.env :: X.outer) e (Zc cls d) X.env.locals t1.heap := by
      rw [← est]
      exact skz
    show wpAny (model X.prog X.w) X.A (noteFrame (.ref e) X.env) _ _ _
    refine Sky.land Zc.steady frA efr sk1 fun g1 fly1 u1 => ?_
    have J1 : Inv X pins σ1 H1 { t1 with heap := g1 } := J.landed nbz fly1.1 (upz.trans u1) eos bare
    obtain ⟨oz, vz, ez, zz, dz⟩ := fly1.there
    have outF : e ∉ frs (X.env :: X.outer) := fun hm => by
      obtain ⟨_, o2, e2, hno⟩ := fly1.2.2.1.mem hm
      rw [ez] at e2
      cases e2
      exact hno _ dz
    have outL : e ≠ X.env.locals := fun z => outF (List.mem_filterMap.mpr ⟨X.env, List.mem_cons_self, by rw [efr, z]⟩)
    have outS : e ∉ X.fs := fun hm => by
      obtain ⟨v, hv, q⟩ := List.mem_filterMap.mp hm
      exact outF (List.mem_filterMap.mpr ⟨v, List.mem_cons_of_mem _ hv, q⟩)
    have S1 := J1.suite ez dz hnone outL outS
    have kind : PySem.W.Looks (model X.prog X.w) g1 (typeOf (.ref e)) cls := fun A' Q' E' s3 k3 q3 => wpAny_typeOf_ref (k3 _ _ ez) (by
      rw [zz.1]
      exact q3)
    -- the class that a clause names
    have named : ∀ {x : Str} {c : Value} {p1 : Pos}, Names X x c → ∀ {Q' E' : Value → Shared → Prop}, Q' c { t1 with heap := g1 } → wpAny (model X.prog X.w) (X.A.mark (some (.ref e))) (eval (.Name x p1) X.env) Q' E' { t1 with heap := g1 } := fun {x c p1} nm {Q' E'} q3 => by
      obtain ⟨g3, d3, m3 | ⟨m3, b3, n3⟩⟩ := nm
      · exact ld_glob (X := X.suite e ((e, oz) :: (X.pn ++ pins))) S1 g3 m3 q3 d3
      · exact ld_blt (X := X.suite e ((e, oz) :: (X.pn ++ pins))) S1 g3 m3 b3 q3 n3 d3
    have walk : ∀ {hl : List ExceptHandler} {kl : List Cl}, Cls' X hl kl → wAny X.K Wout D kl cls d σ1 H1 → wpAny (model X.prog X.w) X.A (handleBy (.ref e) X.env hl) (SP X pins D) X.xe { t1 with heap := g1 } := by
      intro hl kl hk
      induction hk with
      | nil =>
        intro w0
        refine wpAny_handleBy_nil ?_
        obtain ⟨a1, a2, a3, oe, ve, Ta, oTa, tsa, b1, b2, b3, b4, b5⟩ := id fly1
        have up : wpAny (model X.prog X.w) X.A (setFlight (.ref e) X.env.frame) (fun _ s4 => wpAny (model X.prog X.w) X.A (throw (.ref e) : Sem Flow) (SP X pins D) X.xe s4) X.xe { t1 with heap := g1 } := by
          rw [efr]
          refine HandSPX.setFlight_upZ fly1 fun g4 fly4 u4 => wpAny_throw (tk _ _ ⟨e, Bz, sz, pins, σ1, H1, cls, d, rfl, J, nbz, (upz.trans u1).trans u4, .inr (.inr ?_), hnone, eos, bare, w0⟩)
          rw [est]
          exact fly4
        unfold PySem.passOn
        refine wpAny_bind (wpAny_field b1 b3 b4 ?_)
        rw [if_neg (show ¬ ((Value.ref Ta == Value.none) = true) from by simp)]
        first
          | exact wpAny_bind (wpAny_pure (wpAny_bind up))
          | exact wpAny_bind up
      | @plain x c ts s₀ sts p1 p2 hl' kl' hc ok r ih =>
        rintro ⟨b, hb, yes, no⟩
        refine wpAny_handleBy_cons (codeAny_handlers_test ?_) (by intro q; cases q)
        refine named hc ((PySem.W.exm_one (M := model X.prog X.w) J1.kIn kind hb).here ?_)
        cases b with
        | false =>
          show wpAny _ X.A (handleBy (.ref e) X.env hl') _ _ _
          exact ih (no rfl)
        | true =>
          refine codeAny_handlers_suite (HandSPX.lands_againZ fly1 fun g4 fly4 u4 => ?_)
          have J4 : Inv X pins σ1 H1 { t1 with heap := g4 } := J.landed nbz fly4.1 ((upz.trans u1).trans u4) eos bare
          obtain ⟨o4, v4, e4, z4, d4⟩ := fly4.there
          refine wpAny_mono ((ok e o4 cls d (X.pn ++ pins) z4 ⟨_, d4⟩).run [] _ _ H1 _ (J4.suite e4 d4 hnone outL outS) (yes rfl e hnone)) (fun fl t6 q => ?_) (fun _ _ z => False.elim z)
          match fl, q with
          | .next, ⟨σ6, H6, S6, q6⟩ => exact ⟨_, _, S6.unsuite okX, q6⟩
          | .brk, ⟨σ6, H6, S6, q6⟩ => exact ⟨_, _, S6.unsuite okX, q6⟩
          | .cont, ⟨σ6, H6, S6, q6⟩ => exact ⟨_, _, S6.unsuite okX, q6⟩
          | .ret u, ⟨v6, σ6, H6, S6, r6, q6⟩ => exact ⟨_, _, _, S6.unsuite okX, r6, q6⟩
      | @named x n i c ts s₀ sts p1 p2 hl' kl' hc hN hi hn ok r ih =>
        rintro ⟨b, hb, yes, no⟩
        refine wpAny_handleBy_cons (codeAny_handlers_test ?_) (by intro q; cases q)
        refine named hc ((PySem.W.exm_one (M := model X.prog X.w) J1.kIn kind hb).here ?_)
        cases b with
        | false =>
          show wpAny _ X.A (handleBy (.ref e) X.env hl') _ _ _
          exact ih (no rfl)
        | true =>
          refine codeAny_handlers_suite_as (HandSPX.lands_againZ fly1 fun g4 fly4 u4 => ?_)
          have J4 : Inv X pins σ1 H1 { t1 with heap := g4 } := J.landed nbz fly4.1 ((upz.trans u1).trans u4) eos bare
          obtain ⟨o4, v4, e4, z4, d4⟩ := fly4.there
          have S4 := J4.suite e4 d4 hnone outL outS
          refine store_ok (X := X.suite e ((e, o4) :: (X.pn ++ pins))) (v := .ref e) S4 hN hi (.inl hn) rfl (fun s5 S5 => ?_) (.inr hn)
          refine wpAny_mono ((ok e o4 cls d (X.pn ++ pins) z4 ⟨_, d4⟩).run [] s5 _ H1 _ S5 (yes rfl e hnone)) (fun fl t6 q => ?_) (fun _ _ z => False.elim z)
          have behind : ∀ {σ6 : L2.St} {H6 : Hp} {Q6 : Shared → Prop}, Inv (X.suite e ((e, o4) :: (X.pn ++ pins))) [] σ6 H6 t6 → (∀ s7, Inv X pins (σ6.set i none) H6 s7 → Q6 s7) →
              wpAny (model X.prog X.w) X.A (do bindName X.env n .none; unbindBehindTheSuite X.env n p2) (fun _ s7 => Q6 s7) X.xe t6 := fun {σ6 H6 Q6} S6 kk => gone_ok (S6.unsuite okX) hN hi hn kk
          match fl, q with
          | .next, ⟨σ6, H6, S6, q6⟩ => exact behind S6 fun s7 J7 => ⟨_, _, J7, q6⟩
          | .brk, ⟨σ6, H6, S6, q6⟩ => exact behind S6 fun s7 J7 => ⟨_, _, J7, q6⟩
          | .cont, ⟨σ6, H6, S6, q6⟩ => exact behind S6 fun s7 J7 => ⟨_, _, J7, q6⟩
          | .ret u, ⟨v6, σ6, H6, S6, r6, q6⟩ => exact behind S6 fun s7 J7 => ⟨_, _, _, J7, r6, q6⟩
    exact walk hcl wish
  refine wpAny_Try_except ?_
  refine wpAny_mono ((hbody (wAny X.K Wout D l) (X.pn ++ pins) (caught X pins D (h₁ :: hs')) land PassesOwn.looking).run [] s σ H D (I.toTry _) hb0) (fun fl t1 q => ?_) (fun _ _ z => z)
  match fl, q with
  | .next, ⟨σ1, H1, J, q1⟩ => exact wpAny_execs_nil ⟨σ1, H1, J.ofTry okX, q1⟩
  | .brk, ⟨σ1, H1, J, q1⟩ => exact ⟨σ1, H1, J.ofTry okX, q1⟩
  | .cont, ⟨σ1, H1, J, q1⟩ => exact ⟨σ1, H1, J.ofTry okX, q1⟩
  | .ret u, ⟨v1, σ1, H1, J, rv, q1⟩ => exact ⟨v1, σ1, H1, J.ofTry okX, rv, q1⟩
end
end GL
/-! own errors: made, raised, caught, read -/
namespace GL
open PySem PySem.Spec PyProof.Rows L2
theorem relO_one {v : V} {v' : Value} (r : RelV v v') (g f : Str) : RelO (List.lookup f [(g, v)]) (if f = g then some v' else none) := by
  by_cases hw : f = g
  · rw [if_pos hw, hw]
    simp only [List.lookup, beq_self_eq_true]
    exact r
  · rw [if_neg hw]
    have qw : (f == g) = false := by simpa using hw
    simp only [List.lookup, qw]
    trivial
section
variable {X : Cx} {C fI : Addr} {bmB : List Value} {B newId initId : String} {x : Str} {p pos : Pos} {k : Nat}
/-- C(e): an error whose own dict, new, holds the value -/
def tMk1 (C : Addr) (g : Str) (ta : TA) : L2.St → Hp → XK → Prop := fun σ H Q => ta σ H fun vs H1 => ∃ v, vs = [v] ∧ ∀ d, H1 d = none → Q (.ref C) (some d) (upd H1 d (.xd [(g, v)]))
/-- C(): an error that keeps nothing -/
def tMk0 (C : Addr) : L2.St → Hp → XK → Prop := fun σ H Q => Q (.ref C) none H
/-- a made error, taken out of the heap that is known -/
theorem out_of {pins : List (Addr × Obj)} {σ : L2.St} {H1 : Hp} {Q : XK} {hp h' : Heap} {g : Array GenState} {dr : Drawn} {tk tk' : Nat} {os : OsState} {e d : Addr} {f : Str} {v : V} {v' : Value} (T : GX.ErrT X.K C fI bmB newId) (I1 : Inv X pins σ H1 ⟨hp, g, dr, tk, os⟩) (M : GX.Kept hp h' e C (some d)) (hd : hp.objs.size ≤ d) (dne : d ≠ e)
    (hns : h'.Ns1 d (fun y => if y = f then some v' else none)) (rv : RelV v v') (q1 : ∀ d, H1 d = none → Q (.ref C) (some d) (upd H1 d (.xd [(f, v)]))) : MkP X pins σ Q (.ref e) ⟨h', g, dr, tk', os⟩ := by
  obtain ⟨oe, fv, hoe, hc, hdc, hdat, h1⟩ := M.obj
  obtain ⟨G', g1, g2⟩ := restrict h' fun b => decide (b ≠ e)
  have same : ∀ b, b ≠ e → G'.get? b = h'.get? b := fun b hb => g1 b (decide_eq_true hb)
  have gone : G'.get? e = none := g2 e (by simp)
  have old : ∀ b o, hp.get? b = some o → G'.get? b = some o := fun b o q => (same b (Nat.ne_of_lt (Nat.lt_of_lt_of_le (Heap.lt_size q) M.new))).trans (M.keep b o q)
  have dictOk : ObjOk X.prog X.w (upd H1 d (.xd [(f, v)])) G' d (.xd [(f, v)]) := ⟨_, hns.at (fun o q => (same d dne).trans q), fun y => relO_one rv f y⟩
  have J : Inv X pins σ (upd H1 d (.xd [(f, v)])) ⟨G', g, dr, tk', os⟩ := I1.laid (t' := tk') old hd dictOk
  refine ⟨e, oe, fv, ⟨G', g, dr, tk', os⟩, _, .ref C, some d, rfl, J, fun b o q => ?_, gone, hoe, ⟨hc, hdc⟩, hdat, h1, ?_, rfl, I1.bare, raises_own T.exC T.ty, q1 d (I1.hok.fresh hd)⟩
  · by_cases hb : b = e
    · rw [hb] at q
      cases gone.symm.trans q
    · exact (same b hb).symm.trans q
  · rw [upd_ne dne.symm]
    exact I1.hok.fresh M.new
theorem out_0 {pins : List (Addr × Obj)} {σ : L2.St} {H1 : Hp} {Q : XK} {hp h' : Heap} {g : Array GenState} {dr : Drawn} {tk tk' : Nat} {os : OsState} {e : Addr} (T : GX.ErrT X.K C fI bmB newId) (I1 : Inv X pins σ H1 ⟨hp, g, dr, tk, os⟩) (M : GX.Kept hp h' e C none) (q1 : Q (.ref C) none H1) : MkP X pins σ Q (.ref e) ⟨h', g, dr, tk', os⟩ := by
  obtain ⟨oe, fv, hoe, hc, hdc, hdat, h1⟩ := M.obj
  obtain ⟨G', g1, g2⟩ := restrict h' fun b => decide (b ≠ e)
  have same : ∀ b, b ≠ e → G'.get? b = h'.get? b := fun b hb => g1 b (decide_eq_true hb)
  have gone : G'.get? e = none := g2 e (by simp)
  have old : ∀ b o, hp.get? b = some o → G'.get? b = some o := fun b o q => (same b (Nat.ne_of_lt (Nat.lt_of_lt_of_le (Heap.lt_size q) M.new))).trans (M.keep b o q)
  refine ⟨e, oe, fv, ⟨G', g, dr, tk', os⟩, _, .ref C, none, rfl, I1.kept (t' := tk') old, fun b o q => ?_, gone, hoe, ⟨hc, hdc⟩, hdat, h1, I1.hok.fresh M.new, rfl, I1.bare, raises_own T.exC T.ty, q1⟩
  by_cases hb : b = e
  · rw [hb] at q
    cases gone.symm.trans q
  · exact (same b hb).symm.trans q
theorem pmk_0 (FB : ExcBaseFacts B newId initId bmB) (T : GX.Err0 X.K C fI bmB newId) (hr : Room k X.A) (hg : Gl X x) (hm : X.mg x = some (.ref C)) (ndb : (x == ("__debug__" : Str)) = false := by decide) : PMk X (.Call (.Name x p) [] [] pos) (tMk0 C) := by
  intro pins s σ H Q I h
  refine wpAny_Call_Name_kw (ld_glob I hg hm (PySem.W.callWith_K0 I.kIn T.kp ?_) ndb)
  have hlim := I.nolimit
  obtain ⟨hp, g, dr, tk, os⟩ := s
  exact wpAny_call (GX.made_0 FB T I.kIn hlim (by have := hr.dp; omega) fun h' tk' e M => out_0 T.toErrT I M h)
theorem pmk_group {a : Expr} {ta : TA} (SF : StoreFacts B bmB "object.__setattr__" "object") (FB : ExcBaseFacts B newId initId bmB) (T : GX.Errgroup X.K C fI bmB newId) (hr : Room k X.A) (hg : Gl X x) (hm : X.mg x = some (.ref C)) (ha : PA X [a] ta) (ndb : (x == ("__debug__" : Str)) = false := by decide)
    (he : starEach (a :: []) X.env = (false, eval a X.env) :: starEach [] X.env := by rfl) (hpl : (backTo pos (starEach [] X.env)).any (·.1) = false := by rfl) : PMk X (.Call (.Name x p) [a] [] pos) (tMk1 C "group" ta) := by
  intro pins s σ H Q I h
  refine wpAny_Call_Name_kw (ld_glob I hg hm ?_ ndb)
  refine PySem.W.callWith_K (h₀ := X.base) I.ok.mod.kin T.kp (thn (ha.run pos pins s σ H _ I h) fun us s1 hh => ?_) he hpl
  obtain ⟨vs, H1, I1, r1, v, rfl, q1⟩ := hh
  refine ⟨I1.kIn, ?_⟩
  cases r1 with
  | cons rv rn =>
    rename_i v' us'
    cases rn
    have hlim := I1.nolimit
    obtain ⟨hp, g, dr, tk, os⟩ := s1
    exact wpAny_call (GX.made_group SF FB T I1.kIn hlim (by have := hr.dp; omega) fun h' tk' e d M hd dne hns => out_of T.toErrT I1 M hd dne hns rv q1)
theorem pmk_position {a : Expr} {ta : TA} (SF : StoreFacts B bmB "object.__setattr__" "object") (FB : ExcBaseFacts B newId initId bmB) (T : GX.Errposition X.K C fI bmB newId) (hr : Room k X.A) (hg : Gl X x) (hm : X.mg x = some (.ref C)) (ha : PA X [a] ta) (ndb : (x == ("__debug__" : Str)) = false := by decide)
    (he : starEach (a :: []) X.env = (false, eval a X.env) :: starEach [] X.env := by rfl) (hpl : (backTo pos (starEach [] X.env)).any (·.1) = false := by rfl) : PMk X (.Call (.Name x p) [a] [] pos) (tMk1 C "position" ta) := by
  intro pins s σ H Q I h
  refine wpAny_Call_Name_kw (ld_glob I hg hm ?_ ndb)
  refine PySem.W.callWith_K (h₀ := X.base) I.ok.mod.kin T.kp (thn (ha.run pos pins s σ H _ I h) fun us s1 hh => ?_) he hpl
  obtain ⟨vs, H1, I1, r1, v, rfl, q1⟩ := hh
  refine ⟨I1.kIn, ?_⟩
  cases r1 with
  | cons rv rn =>
    rename_i v' us'
    cases rn
    have hlim := I1.nolimit
    obtain ⟨hp, g, dr, tk, os⟩ := s1
    exact wpAny_call (GX.made_position SF FB T I1.kIn hlim (by have := hr.dp; omega) fun h' tk' e d M hd dne hns => out_of T.toErrT I1 M hd dne hns rv q1)
theorem pmk_value {a : Expr} {ta : TA} (SF : StoreFacts B bmB "object.__setattr__" "object") (FB : ExcBaseFacts B newId initId bmB) (T : GX.Errvalue X.K C fI bmB newId) (hr : Room k X.A) (hg : Gl X x) (hm : X.mg x = some (.ref C)) (ha : PA X [a] ta) (ndb : (x == ("__debug__" : Str)) = false := by decide)
    (he : starEach (a :: []) X.env = (false, eval a X.env) :: starEach [] X.env := by rfl) (hpl : (backTo pos (starEach [] X.env)).any (·.1) = false := by rfl) : PMk X (.Call (.Name x p) [a] [] pos) (tMk1 C "value" ta) := by
  intro pins s σ H Q I h
  refine wpAny_Call_Name_kw (ld_glob I hg hm ?_ ndb)
  refine PySem.W.callWith_K (h₀ := X.base) I.ok.mod.kin T.kp (thn (ha.run pos pins s σ H _ I h) fun us s1 hh => ?_) he hpl
  obtain ⟨vs, H1, I1, r1, v, rfl, q1⟩ := hh
  refine ⟨I1.kIn, ?_⟩
  cases r1 with
  | cons rv rn =>
    rename_i v' us'
    cases rn
    have hlim := I1.nolimit
    obtain ⟨hp, g, dr, tk, os⟩ := s1
    exact wpAny_call (GX.made_value SF FB T I1.kIn hlim (by have := hr.dp; omega) fun h' tk' e d M hd dne hns => out_of T.toErrT I1 M hd dne hns rv q1)
/-- e.f, e the error that the suite holds (at a; its class cls, its dict d) -/
def tBy (C : Addr) (f : Str) (a : Addr) (cls : Value) (d : Option Addr) (te : TE) : TE := fun σ H Q => te σ H fun x H1 => x = .ref a ∧ cls = .ref C ∧ ∃ (dd : Addr) (v : V), d = some dd ∧ H1 dd = some (.xd [(f, v)]) ∧ Q v H1
theorem pe_by {a : Addr} {oe : Obj} {cls : Value} {d : Option Addr} {pn : List (Addr × Obj)} {e : Expr} {te : TE} {f : Str} (T : GX.ErrT X.K C fI bmB newId) (hno : PySem.W.findIn X.K (.ref C) f = some none) (hz : Zc cls d oe) (hf : ∃ vs, oe.data = .fields vs) (he : PE (X.suite a ((a, oe) :: pn)) e te)
    (hb : attributeBase e f X.env (eval e X.env) = eval e X.env := by rfl) : PE (X.suite a ((a, oe) :: pn)) (.Attribute e f pos) (tBy C f a cls d te) := by
  constructor
  intro pins s σ H Q I h
  refine attr_of hb (thn (he.run pins s σ H _ I h) fun u s1 hh => ?_)
  obtain ⟨x1, H1, I1, rx, rfl, rfl, dd, v, rfl, ea, q⟩ := hh
  cases (show u = Value.ref a from rx)
  obtain ⟨ha, _⟩ := I1.pin (a, oe) (List.mem_append_left _ List.mem_cons_self)
  obtain ⟨vs, hd⟩ := hf
  obtain ⟨mA, hns, hr⟩ := (show ObjOk X.prog X.w H1 s1.heap dd (.xd [(f, v)]) from I1.hok dd _ ea)
  obtain ⟨od, ho, hl⟩ := lookIn_ns hns
  have l : List.lookup f [(f, v)] = some v := by simp [List.lookup]
  obtain ⟨u, hu, ru⟩ := RelO.some_of (v := v) (o := mA f) (by rw [← l]; exact hr f)
  have J : PySem.W.InstAt s1.heap a oe C (some od) := ⟨ha, hz.1, by unfold PySem.W.notCls; rw [hd] <;> rfl, by rw [hz.2]; exact ho⟩
  exact HandSPX.exc_get I1.kIn J T.ga T.gg T.exC (PySem.W.findObj_own T.hd hno rfl (by rw [hl, hu])) (handed_of ru) ⟨v, H1, I1.tok _, ru, q⟩
end
/-! ### which clause takes which error -/
theorem exm_is {K : PySem.W.Frag} {S D : Addr} {b : Bool} (h1 : PySem.W.subIn K (.ref D) (.type "BaseException") = some true) (h2 : PySem.W.isClsIn K D = true) (h3 : PySem.W.typeIn K (.ref D) = some (.type "type")) (h4 : PySem.W.subIn K (.ref S) (.ref D) = some b) : PySem.W.exmOne K (.ref S) (.ref D) = some b := by
  have e2 : (PySem.W.clsIn K D).isSome = true := h2
  have e1 : (PySem.W.subIn K (.ref D) (.type "BaseException") == some true) = true := by rw [h1]; rfl
  have e3 : ((PySem.W.clsIn K D).isSome && PySem.W.typeIn K (.ref D) == some (.type "type")) = true := by rw [e2, h3]; rfl
  show (if (PySem.W.subIn K (.ref D) (.type "BaseException") == some true) = true then (if ((PySem.W.clsIn K D).isSome && PySem.W.typeIn K (.ref D) == some (.type "type")) = true then PySem.W.subIn K (.ref S) (.ref D) else none) else none) = some b
  rw [if_pos e1, if_pos e3]
  exact h4
/-! ### defs that may raise -/
section
variable {P : Program} {w : World} {K : PySem.W.Frag} {mg : Str → Option Value} {base : Heap} {x qual : Str} {st : Stmt} {f : Addr} {fd : FuncData} {N ps : List Str} {k : Nat} {sp : Sp} {CX : CXT}
theorem okGX (F : L2.Fun K x qual st f fd) (S : FnScope N ps (defScope st)) (many : ∀ vs H Q E, sp vs H Q E → vs.length = ps.length)
    (hb : ∀ (cdv : Value) (A : Around) (outer : List Env) (s : Shared) (H : Hp) (vs : List V) (Q : VK) (E : XK), Fre (A.deeper (envOfC qual (defScope st) s.heap.objs.size f cdv)) → Room k (A.deeper (envOfC qual (defScope st) s.heap.objs.size f cdv)) → sp vs H Q E →
      ∃ t, PSs (cxOf CX P w K mg base N qual (defScope st) f cdv A outer s H E) (defBody st) t ∧ t { nx := fun _ H' => Q .non H', rt := Q } (start N vs) H) : FnG P w K mg base CX (k + 1) f fd ps sp := by
  obtain ⟨c0, o0, kV, doc, pm, an, cdv, ct, s0, rfl, lk, hcd⟩ := F.ex
  exact bodied lk hcd S many fun A outer s H vs Q E g hr hsp => hb cdv A outer s H vs Q E g hr hsp
end
section
variable {X : Cx} {CX : CXT} {k : Nat} {f C : Addr} {fd : FuncData} {ps : List Str} {sp : Sp} {dvs : List V} {ds : List Value} {E : L2.St → XK} {m : Str} {pos apos : Pos} {e o : Expr} {es : List Expr} {ta : TE} {t : TA}
theorem landedS {code : Code} {pins : List (Addr × Obj)} {σ : L2.St} {H : Hp} {s : Shared} {Q : VK} {Eσ : XK} (hx : PassesAt CX X σ Eσ) (I : Inv X pins σ H s) (h : codeAny (model X.prog X.w) X.A code (CR CX X.stack X.prog X.w H s Q Eσ) s) :
    codeAny (model X.prog X.w) X.A code (fun r s' => match r with
      | .ok (.ret u) => EP X pins σ Q u s'
      | .ok _ => False
      | .error e => X.xe e s') s := by
  refine codeAny_mono h ?_
  intro r s' hq
  match r, hq with
  | .error e, hq => exact hx pins H s e s' I hq
  | .ok (.ret u), hq => exact I.after hq
  | .ok .next, hq => exact hq
  | .ok .brk, hq => exact hq
  | .ok .cont, hq => exact hq
def tMethS (C : Addr) (m : Str) (sp : Sp) (dvs : List V) (E : L2.St → XK) (ta : TE) (t : TA) : TE := fun σ H Q => ta σ H fun x H1 => ∃ a dx fs, x = .ref a ∧ H1 a = some (.ins C dx fs) ∧ fs.lookup m = none ∧ t σ H1 fun vs H2 => sp (x :: (vs ++ dvs)) H2 Q (E σ)
/-- o.m(e, ..) that may raise -/
theorem pmS {pl : Sem Bool} (G : Fre X.A) (he : PE X o ta) (c : Cls X.K C) (hm : Meth X.K C m f) (F : FnG X.prog X.w X.K X.mg X.base CX k f fd ps sp) (hr : Room k X.A) (hb : Binds X.K fd ps ds) (hd : Vals dvs ds) (hx : ∀ σ, PassesAt CX X σ (E σ)) (ha : PA X (e :: es) t)
    (hse : starEach (e :: es) X.env = (false, eval e X.env) :: starEach es X.env := by rfl) (hpl : (backTo pos (starEach es X.env)).any (·.1) = false := by rfl)
    (hev : eval (.Call (.Attribute o m apos) (e :: es) [] pos) X.env = (do
      let ov ← eval o X.env
      standAt apos.atName
      let (fn, frst) ← holding [ov] (getMethod ov m pl)
      callWith pos fn frst (backTo pos (starEach (e :: es) X.env)) (backToKw pos (keywordEach [] X.env))) := by rfl) : PE X (.Call (.Attribute o m apos) (e :: es) [] pos) (tMethS C m sp dvs E ta t) := by
  constructor
  intro pins s σ H Q I h
  refine PySem.W.methodCall_KW (pl := pl) (thn (he.run pins s σ H _ I h) ?_) hev
  rintro u s1 ⟨v, H1, I1, rv, a, dx, fs, rfl, ea, l, q⟩
  cases rv
  refine getmeth_ok I1 ea c hm l (PySem.W.callWith_K (first := [.ref a]) (h₀ := X.base) I.ok.mod.kin hm.kp (thn (ha.run pos pins s1 σ H1 _ I1 q) ?_) hse hpl)
  rintro us s2 ⟨vs, H2, I2, r, q2⟩
  have ra : Vals (.ref a :: (vs ++ dvs)) (.ref a :: (us ++ ds)) := .cons rfl (r.append hd)
  exact ⟨I2.kIn, ran (landedS (hx σ) I2 (F.goes G hr I2.env0 (hb s2 (.ref a :: us) I2.kIn (ra.length.symm.trans (F.many _ _ _ _ q2))) ra q2))⟩
end
end GL
/-! == and != of two lists of a text and an instance, by the instances' own == -/
namespace PySem
namespace GE
open PySem PySem.Calls PyProof.Rows
open MeetsSeq MeetsSeq2 MeetsSeq3 SeqRoads2
/-- a list of this size at l -/
def Two (s : Shared) (l : Addr) : Prop := ∃ (dd : Option Addr) (items : Array Value) (n : Nat) (sl : Array (Option Value)), s.heap.get? l = some { cls := .type "list", dict := dd, data := .seq items n, slots := sl } ∧ items.size = 2
section
variable {prog : Program} {w : World} {l b : Addr}
theorem at_end (code : Nat) (hc : code = 2 ∨ code = 3) : MeetsIn prog w (Builtin.«list.__eq__.loop» ⟨[.ref l, .ref b, rawInt ((2 : Nat) : Int), rawInt ((code : Nat) : Int)], []⟩) fun _ R s => Two s l ∧ Two s b ∧ R (.ok (.ret (.bool (code == 2)))) s := by
  intro A R s h
  obtain ⟨hp, g, d, tk, os⟩ := s
  obtain ⟨⟨dd, is, n, sl, h1, z1⟩, ⟨dd2, is2, n2, sl2, h2, z2⟩, q⟩ := h
  have e1 : is[((2 : Nat) : Int).toNat]? = none := Array.getElem?_eq_none (by rw [z1]; decide)
  have e2 : is2[((2 : Nat) : Int).toNat]? = none := Array.getElem?_eq_none (by rw [z2]; decide)
  rcases hc with rfl | rfl
  · wp_walk using wpAny_loadPart' h1, wpAny_loadPart' h2
    rw [e1, e2]
    wp_walk using wpAny_loadPart' h1, wpAny_loadPart' h2
    show R (.ok (.ret (.bool (is.size == is2.size)))) _
    rw [z1, z2]
    exact q
  · wp_walk using wpAny_loadPart' h1, wpAny_loadPart' h2
    rw [e1, e2]
    wp_walk using wpAny_loadPart' h1, wpAny_loadPart' h2
    show R (.ok (.ret (.bool (is.size != is2.size)))) _
    rw [z1, z2]
    exact q
/-- the second items are equal by what they say themselves -/
theorem at_one (code : Nat) (hc : code = 2 ∨ code = 3) : MeetsIn prog w (Builtin.«list.__eq__.loop» ⟨[.ref l, .ref b, rawInt ((1 : Nat) : Int), rawInt ((code : Nat) : Int)], []⟩) fun A R s => ∃ (dd : Option Addr) (is : Array Value) (n : Nat) (sl : Array (Option Value)) (dd2 : Option Addr) (is2 : Array Value) (n2 : Nat) (sl2 : Array (Option Value)) (x y : Value),
    s.heap.get? l = some { cls := .type "list", dict := dd, data := .seq is n, slots := sl } ∧ s.heap.get? b = some { cls := .type "list", dict := dd2, data := .seq is2 n2, slots := sl2 } ∧ is[1]? = some x ∧ is2[1]? = some y ∧
      wpAny (model prog w) A.in1 (eqBool x y) (fun k s' => k = true ∧ Two s' l ∧ Two s' b ∧ R (.ok (.ret (.bool (code == 2)))) s') (fun e s' => R (.error e) s') s := by
  intro A R s h
  obtain ⟨hp, g, d, tk, os⟩ := s
  obtain ⟨dd, is, n, sl, dd2, is2, n2, sl2, x, y, h1, h2, e1, e2, q⟩ := h
  have e1' : is[((1 : Nat) : Int).toNat]? = some x := e1
  have e2' : is2[((1 : Nat) : Int).toNat]? = some y := e2
  have step : ∀ (s' : Shared), Two s' l → Two s' b → R (.ok (.ret (.bool (code == 2)))) s' → codeAny (model prog w) A (.builtin "list.__eq__.loop" ⟨[.ref l, .ref b, rawInt ((2 : Nat) : Int), rawInt ((code : Nat) : Int)], []⟩) R s' := fun s' t1 t2 z => codeAny_builtin entry_eq_loop (by
    rw [Around.under_plainId plain_eq_loop _]
    exact at_end code hc A R s' ⟨t1, t2, z⟩)
  rcases hc with rfl | rfl
  · wp_walk using wpAny_loadPart' h1, wpAny_loadPart' h2
    rw [e1', e2']
    refine wpAny_bind (wpAny_mono q (fun k s' z => ?_) fun _ _ z => z)
    obtain ⟨rfl, t1, t2, z⟩ := z
    wp_walk
    exact ⟨plainId_quiet plain_eq_loop _, step s' t1 t2 z⟩
  · wp_walk using wpAny_loadPart' h1, wpAny_loadPart' h2
    rw [e1', e2']
    refine wpAny_bind (wpAny_mono q (fun k s' z => ?_) fun _ _ z => z)
    obtain ⟨rfl, t1, t2, z⟩ := z
    wp_walk
    exact ⟨plainId_quiet plain_eq_loop _, step s' t1 t2 z⟩
/-- from the beginning: the first items are one text -/
theorem at_nil (code : Nat) (hc : code = 2 ∨ code = 3) : MeetsIn prog w (Builtin.«list.__eq__.loop» ⟨[.ref l, .ref b, rawInt ((0 : Nat) : Int), rawInt ((code : Nat) : Int)], []⟩) fun A R s => ∃ (dd : Option Addr) (is : Array Value) (n : Nat) (sl : Array (Option Value)) (dd2 : Option Addr) (is2 : Array Value) (n2 : Nat) (sl2 : Array (Option Value)) (x0 y0 x y : Value),
    s.heap.get? l = some { cls := .type "list", dict := dd, data := .seq is n, slots := sl } ∧ s.heap.get? b = some { cls := .type "list", dict := dd2, data := .seq is2 n2, slots := sl2 } ∧ is[0]? = some x0 ∧ is2[0]? = some y0 ∧ is[1]? = some x ∧ is2[1]? = some y ∧
      SeqAt.EqAt A.in1 s x0 y0 true ∧
      wpAny (model prog w) A.in1 (eqBool x y) (fun k s' => k = true ∧ Two s' l ∧ Two s' b ∧ R (.ok (.ret (.bool (code == 2)))) s') (fun e s' => R (.error e) s') s := by
  intro A R s h
  obtain ⟨hp, g, d, tk, os⟩ := s
  obtain ⟨dd, is, n, sl, dd2, is2, n2, sl2, x0, y0, x, y, h1, h2, e1, e2, f1, f2, e0, q⟩ := h
  have e1' : is[((0 : Nat) : Int).toNat]? = some x0 := e1
  have e2' : is2[((0 : Nat) : Int).toNat]? = some y0 := e2
  have step : codeAny (model prog w) A (.builtin "list.__eq__.loop" ⟨[.ref l, .ref b, rawInt ((1 : Nat) : Int), rawInt ((code : Nat) : Int)], []⟩) R ⟨hp, g, d, tk, os⟩ := codeAny_builtin entry_eq_loop (by
    rw [Around.under_plainId plain_eq_loop _]
    exact at_one code hc A R _ ⟨dd, _, n, sl, dd2, _, n2, sl2, x, y, h1, h2, f1, f2, q⟩)
  rcases hc with rfl | rfl
  · wp_walk using wpAny_loadPart' h1, wpAny_loadPart' h2
    rw [e1', e2']
    refine wpAny_bind (e0 prog w _ _ ?_)
    wp_walk
    exact ⟨plainId_quiet plain_eq_loop _, step⟩
  · wp_walk using wpAny_loadPart' h1, wpAny_loadPart' h2
    rw [e1', e2']
    refine wpAny_bind (e0 prog w _ _ ?_)
    wp_walk
    exact ⟨plainId_quiet plain_eq_loop _, step⟩
/-- what both lists and the comparison of their items have to be, ahead of == (code 2) or != (code 3) -/
def Ahead (prog : Program) (w : World) (l b : Addr) (code : Nat) : Spec := fun A R s => ∃ (dd : Option Addr) (is : Array Value) (n : Nat) (sl : Array (Option Value)) (dd2 : Option Addr) (is2 : Array Value) (n2 : Nat) (sl2 : Array (Option Value)) (x0 y0 x y : Value),
    s.heap.get? l = some { cls := .type "list", dict := dd, data := .seq is n, slots := sl } ∧ s.heap.get? b = some { cls := .type "list", dict := dd2, data := .seq is2 n2, slots := sl2 } ∧ is[0]? = some x0 ∧ is2[0]? = some y0 ∧ is[1]? = some x ∧ is2[1]? = some y ∧
      SeqAt.EqAt A.in1 s x0 y0 true ∧ is.size = 2 ∧ is2.size = 2 ∧
      wpAny (model prog w) A.in1 (eqBool x y) (fun k s' => k = true ∧ Two s' l ∧ Two s' b ∧ R (.ok (.ret (.bool (code == 2)))) s') (fun e s' => R (.error e) s') s
theorem eq_two : MeetsIn prog w (Builtin.«list.__eq__» ⟨[.ref l, .ref b], []⟩) (Ahead prog w l b 2) := by
  intro A R s h
  obtain ⟨hp, g, d, tk, os⟩ := s
  obtain ⟨dd, is, n, sl, dd2, is2, n2, sl2, x0, y0, x, y, h1, h2, e1, e2, f1, f2, e0, z1, z2, q⟩ := h
  have sub := AutoSeq1.sub_list_list
  have same : ¬ (is.size != is2.size) = true := by simp [z1, z2]
  wp_walk using wpAny_loadPart' h1, wpAny_loadPart' h2
  exact ⟨plainId_quiet plain_eq_loop _, codeAny_builtin entry_eq_loop (by
    rw [Around.under_plainId plain_eq_loop _]
    exact at_nil 2 (.inl rfl) A R _ ⟨dd, is, n, sl, dd2, is2, n2, sl2, x0, y0, x, y, h1, h2, e1, e2, f1, f2, e0, q⟩)⟩
theorem ne_two : MeetsIn prog w (Builtin.«list.__ne__» ⟨[.ref l, .ref b], []⟩) (Ahead prog w l b 3) := by
  intro A R s h
  obtain ⟨hp, g, d, tk, os⟩ := s
  obtain ⟨dd, is, n, sl, dd2, is2, n2, sl2, x0, y0, x, y, h1, h2, e1, e2, f1, f2, e0, z1, z2, q⟩ := h
  have sub := AutoSeq1.sub_list_list
  have same : ¬ (is.size != is2.size) = true := by simp [z1, z2]
  wp_walk using wpAny_loadPart' h1, wpAny_loadPart' h2
  exact ⟨plainId_quiet plain_eq_loop _, codeAny_builtin entry_eq_loop (by
    rw [Around.under_plainId plain_eq_loop _]
    exact at_nil 3 (.inr rfl) A R _ ⟨dd, is, n, sl, dd2, is2, n2, sl2, x0, y0, x, y, h1, h2, e1, e2, f1, f2, e0, q⟩)⟩
end
end GE
end PySem
namespace GL
open PySem PySem.Spec PyProof.Rows L2
section
variable {X : Cx} {CX : CXT} {k : Nat} {f C : Addr} {fd : FuncData} {sp : Sp} {E : XK} {pins : List (Addr × Obj)} {σ : L2.St} {H : Hp} {s : Shared}
/-- the items of a list of two -/
theorem two_of (I : Inv X pins σ H s) {p : Addr} {x y : V} (h : H p = some (.lst [x, y])) : ∃ (is : Array Value) (n : Nat) (u v : Value), s.heap.get? p = some { cls := .type "list", data := .seq is n } ∧ is.size = 2 ∧ is[0]? = some u ∧ is[1]? = some v ∧ RelV x u ∧ RelV y v := by
  obtain ⟨_, us, n, r, e⟩ := I.hok p _ h
  cases r with
  | cons ra r => cases r with
    | cons rb r =>
      cases r
      exact ⟨_, n, _, _, e, rfl, rfl, rfl, ra, rb⟩
/-- ['m', a] and ['m', b], a and b equal by their own == -/
def rEqM (C : Addr) (sp : Sp) (E : XK) (r : Bool) : R2 := fun x y H Q => ∃ (p q a b : Addr) (m : Str) (dx dy : Addr) (fs gs : List (Str × V)), x = .ref p ∧ y = .ref q ∧ H p = some (.lst [.str m, .ref a]) ∧ H q = some (.lst [.str m, .ref b]) ∧ a ≠ b ∧ H a = some (.ins C dx fs) ∧ H b = some (.ins C dy gs) ∧
  sp [.ref a, .ref b] H (fun v H' => v = .bl true ∧ H' p = some (.lst [.str m, .ref a]) ∧ H' q = some (.lst [.str m, .ref b]) ∧ Q (.bl r) H') E
theorem two_is {s' : Shared} {H' : Hp} (I : Inv X pins σ H' s') {p : Addr} {x y : V} (h : H' p = some (.lst [x, y])) : GE.Two s' p := by
  obtain ⟨is, n, u, v, e, z, _⟩ := two_of I h
  exact ⟨_, is, n, _, e, z⟩
theorem own_run (G : Fre X.A) (F : FnG X.prog X.w X.K X.mg X.base CX k f fd ["self", "other"] sp) (hr : Room (k + 1) X.A) (hu : X.A.units + 64 < cLine) (hb : Binds X.K fd ["self", "other"] []) (hs : PySem.W.findIn X.K (.ref C) "__eq__" = some (some (.ref f))) (hf : PySem.W.isFn X.K (.ref f) = true) (hx : Passes CX X E)
    (I : Inv X pins σ H s) {a b dx dy : Addr} {fs gs : List (Str × V)} (ha : H a = some (.ins C dx fs)) (hb' : H b = some (.ins C dy gs)) {Q : VK} {R : Value → Shared → Prop} (h : sp [.ref a, .ref b] H Q E)
    (hR : ∀ v H' s' u, Inv X pins σ H' s' → RelV v u → Q v H' → PySem.W.CmpBack R u s') (hE : ∀ e s', X.xe e s' → X.xe e s') :
    wpAny (model X.prog X.w) X.A.in1 (richCompare .Eq (.ref a) (.ref b)) R X.xe s := by
  obtain ⟨mA, J, _⟩ := ins_get I.hok ha
  obtain ⟨od, J, _⟩ := J.look
  obtain ⟨mB, J', _⟩ := ins_get I.hok hb'
  obtain ⟨od', J', _⟩ := J'.look
  obtain ⟨m, hF⟩ := I.fr
  refine PySem.W.cmp_K (op := .Eq) (tb := .ref C) (show X.A.in1.units < cLine from ?_) hF I.ok.mod.kin J J'.type (by simp [PySem.W.notFirst]) hs hf ?_
  · show X.A.units + 1 < cLine
    omega
  · refine wpAny_call (codeAny_mono (F.goes (A := X.A.in1) (outer := X.stack) (vs := [.ref a, .ref b]) (us := [.ref a, .ref b]) G hr.in1 I.env0.in1 (hb s [.ref a, .ref b] I.kIn rfl) (.cons rfl (.cons rfl .nil)) h) ?_)
    intro r s' z
    match r, z with
    | .error e, z => exact hx pins σ H s e s' I z
    | .ok (.ret w), z =>
      obtain ⟨v, H', I3, rv, q⟩ := I.after z
      exact hR v H' s' w I3 rv q
    | .ok .next, z => exact z.elim
    | .ok .brk, z => exact z.elim
    | .ok .cont, z => exact z.elim
theorem ahead_of (G : Fre X.A) (F : FnG X.prog X.w X.K X.mg X.base CX k f fd ["self", "other"] sp) (hr : Room (k + 1) X.A) (hu : X.A.units + 64 < cLine) (hb : Binds X.K fd ["self", "other"] []) (hs : PySem.W.findIn X.K (.ref C) "__eq__" = some (some (.ref f))) (hf : PySem.W.isFn X.K (.ref f) = true) (hx : Passes CX X E)
    (I : Inv X pins σ H s) (code : Nat) {p q a b dx dy : Addr} {m : Str} {fs gs : List (Str × V)} {Q : VK} {r : Bool} (hr' : r = (code == 2)) (hp : H p = some (.lst [.str m, .ref a])) (hq : H q = some (.lst [.str m, .ref b])) (hne : a ≠ b) (ha : H a = some (.ins C dx fs)) (hb' : H b = some (.ins C dy gs))
    (h : sp [.ref a, .ref b] H (fun v H' => v = .bl true ∧ H' p = some (.lst [.str m, .ref a]) ∧ H' q = some (.lst [.str m, .ref b]) ∧ Q (.bl r) H') E) :
    GE.Ahead X.prog X.w p q code X.A (wants (fun v s' => v ≠ .notImplemented ∧ EP X pins σ Q v s') X.xe) s := by
  obtain ⟨is, n, u0, u1, e1, z1, f0, f1, r0, r1⟩ := two_of I hp
  obtain ⟨js, n', v0, v1, e2, z2, g0, g1, t0, t1⟩ := two_of I hq
  obtain ⟨tk1, rfl⟩ := r0
  obtain ⟨tk2, rfl⟩ := t0
  cases r1
  cases t1
  refine ⟨_, is, n, _, _, js, n', _, _, _, _, _, e1, e2, f0, g0, f1, g1, ?_, z1, z2, ?_⟩
  · have z := SeqAt.EqAt.str_str (A := X.A.in1) (s := s) m tk1 m tk2
    rwa [beq_self_eq_true] at z
  · unfold eqBool
    refine wpAny_holding ?_
    refine wpAny_ite_split (fun hab => absurd (by have := eq_of_beq hab; injection this) hne) (fun _ => ?_)
    refine wpAny_bind (own_run G F hr hu hb hs hf hx I ha hb' h (fun v H' s' u I3 rv q => ?_) fun _ _ z => z)
    obtain ⟨rfl, p1, p2, q3⟩ := q
    cases (show u = Value.bool true from rv)
    refine wpAny_truthy_bool ⟨rfl, two_is I3 p1, two_is I3 p2, (fun z => nomatch z), .bl r, H', I3, ?_, q3⟩
    rw [hr']
    rfl
theorem op_eqM (G : Fre X.A) (F : FnG X.prog X.w X.K X.mg X.base CX k f fd ["self", "other"] sp) (hr : Room (k + 1) X.A) (hu : X.A.units + 64 < cLine) (hb : Binds X.K fd ["self", "other"] []) (hs : PySem.W.findIn X.K (.ref C) "__eq__" = some (some (.ref f))) (hf : PySem.W.isFn X.K (.ref f) = true) (hx : Passes CX X E) : OpR X (compareOp .Eq) (rEqM C sp E true) := by
  intro pins s σ H x y v u Q I rx ry h
  have hu' : X.A.units < cLine := by omega
  obtain ⟨p, q, a, b, m, dx, dy, fs, gs, rfl, rfl, hp, hq, hne, ha, hb', h⟩ := h
  cases rx
  cases ry
  obtain ⟨is, n, _, _, e1, _⟩ := two_of I hp
  obtain ⟨js, n', _, _, e2, _⟩ := two_of I hq
  have A1 := ahead_of G F hr hu hb hs hf hx I 2 rfl hp hq hne ha hb' h
  have T1 : s.TypeIs (.ref p) "list" := ⟨_, e1, rfl⟩
  have T2 : s.TypeIs (.ref q) "list" := ⟨_, e2, rfl⟩
  have C1 := call_meetsIn (prog := X.prog) (w := X.w) (A := X.A) (E := X.xe) (Q := fun v s' => v ≠ .notImplemented ∧ EP X pins σ Q v s') PySem.F.slot_list_eq T1 PySem.F.entry_list_eq (PySem.F.args_list_eq_2 (.ref p) (.ref q)) GE.eq_two A1
  exact wpAny_richCompare_same_room (op := .Eq) T1 T2 PySem.F.slot_list_eq C1 hu'
theorem op_neM (G : Fre X.A) (F : FnG X.prog X.w X.K X.mg X.base CX k f fd ["self", "other"] sp) (hr : Room (k + 1) X.A) (hu : X.A.units + 64 < cLine) (hb : Binds X.K fd ["self", "other"] []) (hs : PySem.W.findIn X.K (.ref C) "__eq__" = some (some (.ref f))) (hf : PySem.W.isFn X.K (.ref f) = true) (hx : Passes CX X E) : OpR X (compareOp .NotEq) (rEqM C sp E false) := by
  intro pins s σ H x y v u Q I rx ry h
  have hu' : X.A.units < cLine := by omega
  obtain ⟨p, q, a, b, m, dx, dy, fs, gs, rfl, rfl, hp, hq, hne, ha, hb', h⟩ := h
  cases rx
  cases ry
  obtain ⟨is, n, _, _, e1, _⟩ := two_of I hp
  obtain ⟨js, n', _, _, e2, _⟩ := two_of I hq
  have A1 := ahead_of G F hr hu hb hs hf hx I 3 rfl hp hq hne ha hb' h
  have T1 : s.TypeIs (.ref p) "list" := ⟨_, e1, rfl⟩
  have T2 : s.TypeIs (.ref q) "list" := ⟨_, e2, rfl⟩
  have C1 := call_meetsIn (prog := X.prog) (w := X.w) (A := X.A) (E := X.xe) (Q := fun v s' => v ≠ .notImplemented ∧ EP X pins σ Q v s') PySem.F.slot_list_ne T1 PySem.F.entry_list_ne (PySem.F.args_list_ne_2 (.ref p) (.ref q)) GE.ne_two A1
  exact wpAny_richCompare_same_room (op := .NotEq) T1 T2 PySem.F.slot_list_ne C1 hu'
/-- one rule, or another -/
theorem op_or {o : Value → Value → Sem Value} {r1 r2 : R2} (h1 : OpR X o r1) (h2 : OpR X o r2) : OpR X o fun x y H Q => r1 x y H Q ∨ r2 x y H Q := fun pins s σ H x y v u Q I rx ry h => h.elim (h1 pins s σ H x y v u Q I rx ry) (h2 pins s σ H x y v u Q I rx ry)
end
end GL
/-! isinstance(e, C), e an error of ours that a suite holds, with a dict of its own or without -/
namespace PySem
namespace GX
open PySem.W PySem.Calls PyProof.Rows PySem.HandSPX Builtin Builtin.ObjectAttr
/-- what isinstance asks of the error's class -/
structure ErrC (K : Frag) (D : Addr) : Prop where
  ga : findIn K (.ref D) "__getattribute__" = some (some (.builtin "BaseException.__getattribute__"))
  gg : findIn K (.ref D) "__getattr__" = some none
  sb : subIn K (.ref D) (.type "BaseException") = some true
  hd : hasDictIn K D = true
  cl : findIn K (.ref D) "__class__" = some (some (.builtin "object.__class__"))
  cg : specialIn K (.builtin "object.__class__") "__get__" = some (some (.builtin "getset_descriptor.__get__"))
  tk : takesIn K (.builtin "object.__class__") = some true
  mo : mroIn K D (.type "object") = some true
theorem ErrC.find {K : Frag} {D : Addr} (T : ErrC K D) : ∀ od : Option Obj, findObj K D od "__class__" = some (.bind (.builtin "getset_descriptor.__get__") (.builtin "object.__class__")) := fun od => by
  obtain ⟨cd, hc, _⟩ := any_some T.hd
  have hs : (clsIn K D).isSome = true := by rw [hc]; rfl
  cases od with
  | none => exact findObj_dataN hs T.cl T.cg T.tk
  | some od => exact findObj_data hs T.cl T.cg T.tk
section
variable {prog : Program} {w : World} {A : Around} {E : Value → Shared → Prop} {s : Shared} {K : Frag} {x D : Addr} {ox : Obj} {od : Option Obj}
theorem class_of_err {Q : Option Value → Shared → Prop} (T : ErrC K D) (X : K.In s.heap) (I : InstAt s.heap x ox D od) (h : Q (some (.ref D)) { s with toks := s.toks + 1 }) : wpAny (model prog w) A (getAttr? (.ref x) "__class__") Q E s := by
  obtain ⟨hp, gn, dr, tt, so⟩ := s
  have tyL := I.type (M := model prog w); have gaL := looks_findIn (M := model prog w) X T.ga
  have ggL := looks_findIn (M := model prog w) X T.gg; have fL := looks_find (M := model prog w) X I (T.find od)
  have subL : Looks (model prog w) hp (isInstance (.ref x) (.type "BaseException")) true := tyL.andThen (looks_subIn X T.sb)
  have ne : (Value.builtin "BaseException.__getattribute__" == Value.builtin "object.__getattribute__") = false := by decide +kernel
  have c1 : (onTheHeap (Value.ref D) && Value.builtin "BaseException.__getattribute__" == Value.builtin "object.__getattribute__") = false := by rw [ne]; rfl
  unfold getAttr? getAttrBy? getAttrBy
  refine wpAny_bind (wpAny_mkText (wpAny_bind (wpAny_attempt (wpAny_holding (wpAny_bind (tyL.at (wpAny_bind (gaL.at ?_))))))))
  show wpAny _ _ (if (onTheHeap (Value.ref D) && Value.builtin "BaseException.__getattribute__" == Value.builtin "object.__getattribute__") = true then _ else _) _ _ _
  rw [c1, if_neg Bool.false_ne_true]; unfold getAttrByItsOwn hookBefore
  refine wpAny_bind ?_; rw [if_pos (show onTheHeap (Value.ref D) = true from rfl)]; refine ggL.at ?_
  refine wpAny_bind (wpAny_attempt (wpAny_holding ?_)); unfold callGetattribute
  rw [show (false && onTheHeap (Value.builtin "BaseException.__getattribute__")) = false from rfl, if_neg Bool.false_ne_true]; unfold boundAndCalled
  rw [PySem.F.excAttr_ValueError.ga.bind (.ref x)]; refine wpAny_bind (wpAny_pure ?_)
  show wpAny _ _ (call (.builtin "BaseException.__getattribute__") [.ref x, .str "__class__" tt]) _ _ _
  refine wpAny_call (codeAny_call_builtin PySem.F.excAttr_ValueError.ga.plain PySem.F.entry_bexc_ga (@check_slot (model prog w) _ _ ⟨hp, gn, dr, tt + 1, so⟩ "BaseException.__getattribute__" "BaseException" "__getattribute__" (.ref x) [.str "__class__" tt] [] _ (by decide +kernel) (by decide +kernel) subL (PySem.F.args_bexc_ga (.ref x) (.str "__class__" tt)) ?_))
  unfold Builtin.«object.__getattribute__»
  refine wpAny_bind (wpAny_of_eq (a := ((Value.ref x : Value), [Value.str "__class__" tt])) (by first | rfl | (simp only [slotArgs]; rfl)) (wpAny_bind (wpAny_pure (wpAny_bind (tyL.at (wpAny_bind (fL.at ?_)))))))
  show wpAny _ _ (holding [Value.builtin "object.__class__"] (call (.builtin "getset_descriptor.__get__") [.builtin "object.__class__", .ref x, .ref D]) >>= ret) _ _ _
  refine wpAny_bind (wpAny_holding (wpAny_call (class_get (s := ⟨hp, gn, dr, tt + 1, so⟩) (ox := ox) (od := od) X I T.mo (wpAny_pure ?_))))
  show wpAny _ _ (handedOut (.ref D)) _ _ _
  rw [handedOut_of (v := .ref D) rfl]
  first
    | exact wpAny_pure (wpAny_pure h)
    | exact wpAny_pure h
    | exact wpAny_pure (wpAny_bind (wpAny_pure (wpAny_pure h)))
theorem kit_err (T : ErrC K D) : KitX K (.ref x) (.ref D) (fun h => InstAt h x ox D od) := by
  obtain ⟨cdD, hcD, _⟩ := any_some T.hd
  have at_ : ∃ c' d' sl', K.lookup D = some ⟨c', d', .cls cdD, sl'⟩ := by
    unfold clsIn at hcD
    split at hcD
    · rename_i c' d' cd' sl' ho
      cases hcD
      exact ⟨_, _, _, ho⟩
    · cases hcD
  obtain ⟨c', d', sl', ho⟩ := at_
  refine ⟨fun _ _ _ I => I.type, fun _ _ X _ => ?_, fun h tp dd its n sl X htp => ?_, fun X I k => class_of_err T X I k⟩
  · intro A' Q' E' s' k q
    unfold isType loadHead
    exact wpAny_bind (wpAny_loadPart (k _ _ (X _ _ ho)) (wpAny_pure q))
  · refine Bool.eq_false_iff.mpr fun q => ?_
    have e : D = tp := Value.ref.inj (beq_iff_eq.mp q)
    subst e
    have z := (X _ _ ho).symm.trans htp
    cases z
end
end GX
end PySem
namespace GL
open PySem PySem.Spec PyProof.Rows L2
/-- isinstance(e, c), e the error at a that the suite holds: its class cls, its dict d -/
def rIsX (K : PySem.W.Frag) (cls : Value) (d : Option Addr) (a : Addr) : List V → Hp → VK → Prop := fun xs H Q => ∃ (D C : Addr) (b : Bool), cls = .ref D ∧ GX.ErrC K D ∧ xs = [.ref a, .ref C] ∧ PySem.W.kitOne K (.ref D) (.ref C) = some b ∧ (d = none ∨ ∃ dd fs, d = some dd ∧ H dd = some (.xd fs)) ∧ Q (.bl b) H
theorem call_isX {X : Cx} {a : Addr} {cls : Value} {d : Option Addr} {oe : Obj} {pn : List (Addr × Obj)} (hz : Zc cls d oe) (hf : ∃ vs, oe.data = .fields vs) : CallR (X.suite a ((a, oe) :: pn)) (.builtin "isinstance") (rIsX X.K cls d a) := by
  intro pins s σ H xs us Q I r h
  obtain ⟨D, C, b, rfl, T, rfl, e, hd, q⟩ := h
  cases r with
  | cons rx rr => cases rr with
    | cons rt rr =>
      cases rr
      cases rx
      cases rt
      obtain ⟨hget, _⟩ := I.pin (a, oe) (List.mem_append_left _ List.mem_cons_self)
      obtain ⟨vs, hv⟩ := hf
      have J : ∃ od, PySem.W.InstAt s.heap a oe D od := by
        rcases hd with e0 | ⟨dd, fs, e0, hdd⟩
        · refine ⟨none, hget, hz.1, by unfold PySem.W.notCls; rw [hv], ?_⟩
          rw [hz.2, e0]
          trivial
        · obtain ⟨mA, hns, _⟩ := (show ObjOk X.prog X.w H s.heap dd (.xd fs) from I.hok dd _ hdd)
          obtain ⟨od, ho, _⟩ := lookIn_ns hns
          refine ⟨some od, hget, hz.1, by unfold PySem.W.notCls; rw [hv], ?_⟩
          rw [hz.2, e0]
          exact ho
      obtain ⟨od, J⟩ := J
      exact PySem.W.kia_one (GX.kit_err T) I.kIn J e (fun z => nomatch z) fun tk => ⟨.bl b, H, I.kept (t' := tk) fun _ _ z => z, rfl, q⟩
end GL
/-! a lambda handed to a def, where nothing is being shown; defs whose code object has a table -/
namespace GL
open PySem PySem.Spec PyProof.Rows L2
theorem call_repr_non {X : Cx} : CallR X (.builtin "repr") (fun xs H Q => xs = [.non] ∧ Q (.str "None") H) := by
  intro pins s σ H xs us Q I r h
  obtain ⟨rfl, q⟩ := h
  cases r with
  | cons rx rr =>
    cases rr
    cases rx
    exact PySem.P.repr_of_none ⟨.str _, H, I.tok _, ⟨_, rfl⟩, q⟩
/-- the def st stands at f, its code object at c -/
structure FunT (K : PySem.W.Frag) (x qual : Str) (st : Stmt) (f : Addr) (fd : FuncData) (c : Addr) : Prop where
  ex : ∃ (oc : Value) (od : Option Addr) (kV doc pm : Value) (an : Option Addr) (ct : Value) (osl : Array (Option Value)),
    fd = PySem.W.fnOf x qual (defArgs st) (defBody st) (defScope st) .none kV doc pm an (.ref c) ct ∧ K.lookup f = some ⟨oc, od, .func fd, osl⟩ ∧ PySem.W.codeIn K (.ref c) qual = true
section
variable {P : Program} {w : World} {K : PySem.W.Frag} {mg : Str → Option Value} {base : Heap} {x qual : Str} {st : Stmt} {f c : Addr} {fd : FuncData} {N ps : List Str} {k : Nat} {sp : Sp} {CX : CXT}
theorem okGT (F : FunT K x qual st f fd c) (S : FnScope N ps (defScope st)) (many : ∀ vs H Q E, sp vs H Q E → vs.length = ps.length)
    (hb : ∀ (A : Around) (outer : List Env) (s : Shared) (H : Hp) (vs : List V) (Q : VK) (E : XK), Fre (A.deeper (envOfC qual (defScope st) s.heap.objs.size f (.ref c))) → Room k (A.deeper (envOfC qual (defScope st) s.heap.objs.size f (.ref c))) → sp vs H Q E →
      ∃ t, PSs (cxOf CX0 P w K mg base N qual (defScope st) f (.ref c) A outer s H E).nox (defBody st) t ∧ t { nx := fun _ H' => Q .non H', rt := Q } (start N vs) H) : FnG P w K mg base CX0 (k + 1) f fd ps sp := by
  obtain ⟨c0, o0, kV, doc, pm, an, ct, s0, rfl, lk, hcd⟩ := F.ex
  exact bodied lk hcd S many fun A outer s H vs Q E g hr hsp => (hb A outer s H vs Q E g hr hsp).imp fun t z => ⟨z.1.nox, z.2⟩
end
/-- what the def at g makes of a lambda's reading, that it calls under the name a -/
def GivesG (X : Cx) (Ng : List Str) (x : Str) (sg : Scope) (g : Addr) (bg : List Stmt) (a : Str) (q : Str) (k : Nat) (TT : (XK → Hp → VK → Prop) → Hp → VK → Prop) : Prop :=
  ∀ (cd : Value) (f c' : Addr) (s : Shared) (H : Hp) (Q : VK) (tl : XK → Hp → VK → Prop),
    Fre (X.A.deeper (envOfC x sg s.heap.objs.size g cd)) → Room (k + 1) (X.A.deeper (envOfC x sg s.heap.objs.size g cd)) →
    (∀ (W : WX) (pn : List (Addr × Obj)) (xe : Value → Shared → Prop) (E : XK) (p1 p2 : Pos), Takes ((cxOf CX0 X.prog X.w X.K X.mg X.base Ng x sg g cd X.A X.stack s H E0).nox.tr pn xe) W → (∀ cls d (σ' : L2.St) H', σ'.length = Ng.length → E cls d H' → W cls d σ' H') →
      PE ((cxOf CX0 X.prog X.w X.K X.mg X.base Ng x sg g cd X.A X.stack s H E0).nox.tr pn xe) (.Call (.Name a p1) [] [] p2) (fun σZ HZ Q => σZ[0]? = some (some (.ref f)) ∧ HZ c' = some (LamX.CodeO c' q) ∧ tl E HZ Q)) →
    H c' = some (LamX.CodeO c' q) → TT tl H Q →
    ∃ t, PSs (cxOf CX0 X.prog X.w X.K X.mg X.base Ng x sg g cd X.A X.stack s H E0).nox bg t ∧ t { nx := fun _ H' => Q .non H', rt := Q } (L2.start Ng [.ref f]) H
section
variable {X : Cx} {pins : List (Addr × Obj)} {σ : L2.St} {H : Hp} {s : Shared}
theorem fre_deeper {A : Around} {e : Env} (h : Fre A) : Fre (A.deeper e) := by
  first | exact h | simpa [Around.deeper] using h
/-- the lambda that stands at f, made at s, is called in a def that runs from s on -/
theorem act_G {Ng : List Str} {qg : Str} {sg : Scope} {g f c' : Addr} {cdg pm ctv : Value} {params : Arguments} {body : Expr} {scope : Scope} {k i : Nat} {a : Str} {pn : List (Addr × Obj)} {xe : Value → Shared → Prop} {W : WX} {E : XK} {tb : TE} {p1 p2 : Pos}
    (I : Inv X pins σ H s) (L : LamX.LamS X.env.scope scope) (hf : s.heap.get? f = some (PySem.W.kla_obj "<lambda>" (X.env.qual ++ "<lambda>") params body scope (cloFrom X.env.cells scope.names []) pm c' ctv)) (hfn : H f = none) (hfr : f ∉ frs X.stack)
    (hbind : bindArgs (PySem.W.kla_fn "<lambda>" (X.env.qual ++ "<lambda>") params body scope (cloFrom X.env.cells scope.names []) pm (.ref c') ctv) ⟨[], []⟩ = pure [])
    (G : Fre (X.A.deeper (envOfC qg sg s.heap.objs.size g cdg))) (hr : Room (k + 1) (X.A.deeper (envOfC qg sg s.heap.objs.size g cdg))) (tk : Takes ((cxOf CX0 X.prog X.w X.K X.mg X.base Ng qg sg g cdg X.A X.stack s H E0).nox.tr pn xe) W) (hW : ∀ cls d (σ' : L2.St) H', σ'.length = Ng.length → E cls d H' → W cls d σ' H')
    (hbody : ∀ (A : Around) (outer : List Env) (s : Shared) (H : Hp), Fre (A.deeper (LamX.lamEnv X scope s.heap.objs.size f c')) → Room k (A.deeper (LamX.lamEnv X scope s.heap.objs.size f c')) → PE (LamX.lamCx X A outer s H E scope f c') body tb)
    (hN : Ng[i]? = some a) (hv : Vis sg a) (hd : (a == ("__debug__" : Str)) = false := by decide) (hcd : (a == ("__classdict__" : Str)) = false := by decide) :
    PE ((cxOf CX0 X.prog X.w X.K X.mg X.base Ng qg sg g cdg X.A X.stack s H E0).nox.tr pn xe) (.Call (.Name a p1) [] [] p2) (fun σZ HZ Q => σZ[i]? = some (some (.ref f)) ∧ HZ c' = some (LamX.CodeO c' (X.env.qual ++ "<lambda>")) ∧ tb σ HZ Q) := by
  constructor
  intro pinsZ sZ σZ HZ Q IZ ⟨hs, hc, ht⟩
  have look := (pe_var (X := (cxOf CX0 X.prog X.w X.K X.mg X.base Ng qg sg g cdg X.A X.stack s H E0).nox.tr pn xe) (pos := p1) (i := i) hN hv hd hcd).run pinsZ sZ σZ HZ (fun v H1 => v = .ref f ∧ H1 = HZ) IZ ⟨.ref f, hs, rfl, rfl⟩
  refine wpAny_Call_Name_kw (thn look ?_)
  rintro u s1 ⟨v, H1, I1, r1, q1, q2⟩
  rw [q2] at I1
  rw [q1] at r1
  cases (show u = Value.ref f from r1)
  have there : s1.heap.get? f = some (PySem.W.kla_obj "<lambda>" (X.env.qual ++ "<lambda>") params body scope (cloFrom X.env.cells scope.names []) pm c' ctv) := I1.base.keep f _ hf hfn hfr List.not_mem_nil
  have un : Un (frs X.stack) [] H HZ s.heap s1.heap := I1.base
  refine PySem.W.callWith_F0 ⟨_, _, _, _, there⟩ ?_
  obtain ⟨⟨oc, us, tc, g1, g2, g3⟩, _, _⟩ := I1.hok c' _ hc
  have run : codeAny (model X.prog X.w) (X.A.deeper (envOfC qg sg s.heap.objs.size g cdg)) (.call (.ref f) ⟨[], []⟩) (CR (L2.CX X.prog X.w) (envOfC qg sg s.heap.objs.size g cdg :: X.stack) X.prog X.w HZ s1 Q E) s1 := by
    refine PySem.W.kla_callFunE hr.depth there rfl L.co L.gen rfl ⟨c', oc, us, tc, rfl, g1, g2, g3⟩ ?_
    rw [hbind]
    refine wpAny_pure (wpAny_newFunctionEnv (fun y hy => (L.own y hy).2) (fun y hy => absurd hy List.not_mem_nil) (fun h1 hns hsb => ⟨I1.nolimit.fresh _ hsb, ?_⟩) L.kind)
    show codeAny _ _ (.expr body (LamX.lamEnv X scope s1.heap.objs.size f c')) _ _
    have stay : ∀ b o, s1.heap.get? b = some o → h1.get? b = some o := fun b o e => hsb.extBut b o (Nat.ne_of_lt (Heap.lt_size e)) (Heap.get?_push_of_some _ e)
    have J := LamX.lam_start2 (tk := s1.toks + ([] : List (Str × Value)).length) (A := X.A.deeper (envOfC qg sg s.heap.objs.size g cdg)) (outer := envOfC qg sg s.heap.objs.size g cdg :: X.stack) (E := E) (f := f) (c' := c') I L I1.env0 hr.hd un hns stay
    refine PySem.W.kla_codeExpr (wpAny_mono ((hbody _ _ s1 HZ (fre_deeper G) (hr.deeper _)).run [] _ _ HZ Q J ht) ?_ fun _ _ z => z)
    rintro y s2 ⟨y', H', J', ry, q⟩
    exact ⟨y', H', J'.os, J'.bare, J'.base, J'.hok, ry, q⟩
  refine wpAny_call (codeAny_mono run ?_)
  intro r s2 q
  match r, q with
  | .error e, q => exact tk e s2 (XE.of_call I1 (fun cls d H' h => hW cls d σZ H' I1.len h) q)
  | .ok (.ret y), q => exact I1.after q
  | .ok .next, q => exact q
  | .ok .brk, q => exact q
  | .ok .cont, q => exact q
end
section
variable {X : Cx}
def tLamG (T : List (Addr × Str)) (TT : (XK → Hp → VK → Prop) → Hp → VK → Prop) (t : XK → TE) : TE := fun σ H Q => LamX.Tabs T H ∧ ∀ H1, LamX.ExtN H H1 → LamX.Tabs T H1 → TT (fun E H' Q' => t E σ H' Q') H1 Q
/-- x(lambda: body) -/
theorem pe_lamG {T : List (Addr × Str)} {TT : (XK → Hp → VK → Prop) → Hp → VK → Prop} {x a : Str} {g c P : Addr} {k : Nat} {st : Stmt} {fd : FuncData} {Ng : List Str} {params : Arguments} {body : Expr} {scope : Scope} {t : XK → TE} {p lpos pos : Pos}
    (G : Fre X.A) (hg : Gl X x) (hm : X.mg x = some (.ref g)) (FG : L2.Fun X.K x x st g fd) (hb : L2.Binds X.K fd [a] []) (Sg : FnScope Ng [a] (defScope st)) (hNg : Ng[0]? = some a) (hva : Vis (defScope st) a)
    (hG : GivesG X Ng x (defScope st) g (defBody st) a (X.env.qual ++ "<lambda>") k TT)
    (TB : LamX.TabB X.base X.mg c P) (hcode : X.env.code = .ref c) (hmT : (P, X.env.qual ++ "<lambda>") ∈ T) (hu : ∀ p ∈ T, p.1 = P → p.2 = X.env.qual ++ "<lambda>") (hr : Room (k + 2) X.A) (L : LamX.LamS X.env.scope scope) (hdef : defaultsOf params X.env = ([], []))
    (hbind : ∀ (q : Str) (cl : List (Str × Addr)) (pm cv ctv : Value), bindArgs (PySem.W.kla_fn "<lambda>" q params body scope cl pm cv ctv) ⟨[], []⟩ = pure [])
    (hbody : ∀ (A : Around) (outer : List Env) (s : Shared) (H : Hp) (E : XK) (f c' : Addr), Fre (A.deeper (LamX.lamEnv X scope s.heap.objs.size f c')) → Room k (A.deeper (LamX.lamEnv X scope s.heap.objs.size f c')) → PE (LamX.lamCx X A outer s H E scope f c') body (t E))
    (hdb : (x == ("__debug__" : Str)) = false := by decide) (hd : (a == ("__debug__" : Str)) = false := by decide) (hcd : (a == ("__classdict__" : Str)) = false := by decide) :
    PE X (.Call (.Name x p) [.Lambda params body scope lpos] [] pos) (tLamG T TT t) := by
  constructor
  intro pins s σ H Q I ⟨hT, h⟩
  obtain ⟨oc, od, kV, doc, pm, an, cdv, ct, osl, rfl, lk, hcg⟩ := FG.ex
  refine wpAny_Call_Name_kw (ld_glob I hg hm (PySem.W.callWith_K (h₀ := X.base) I.ok.mod.kin FG.kp ?_ (by rfl) (by rfl)) hdb)
  show wpAny _ _ (spliced ((false, eval (.Lambda params body scope lpos) X.env) :: backTo pos (starEach [] X.env))) _ _ s
  refine Calls.spliced_cons (LamX.lam_make2 I TB hcode hmT hu hT hdef (L.has I.ok) fun f c' pm' ctv H1 s' I1 eN T1 hf hfn hfr hco => Calls.spliced_nil ⟨I1.kIn, ?_⟩)
  have rc : codeAny (model X.prog X.w) X.A (.call (.ref g) ⟨[.ref f], []⟩) (CR CX0 X.stack X.prog X.w H1 s' Q E0) s' := by
    refine LamX.run_ofS (N := Ng) (ps := [a]) (us := [.ref f]) (vs := [.ref f]) lk hcg Sg hr I1.env0 (hb s' [.ref f] I1.kIn rfl) (.cons rfl .nil) rfl fun hr' => ?_
    have gz : Fre (X.A.deeper (envOfC x (defScope st) s'.heap.objs.size g cdv)) := fre_deeper G
    obtain ⟨tz, h1, h2⟩ := hG cdv f c' s' H1 Q (fun E H' Q' => t E σ H' Q') gz hr' (fun W pn xe E p1 p2 tk hW => act_G (i := 0) I1 L hf hfn hfr (hbind _ _ _ _ _) gz hr' tk hW (fun A outer s H g2 hr2 => hbody A outer s H E f c' g2 hr2) hNg hva hd hcd) hco (h H1 eN T1)
    exact ⟨tz, h1.nox, h2⟩
  refine wpAny_call (codeAny_mono rc ?_)
  intro r s2 q
  match r, q with
  | .error e, q => exact (show False from q).elim
  | .ok (.ret y), q => exact I1.after q
  | .ok .next, q => exact q
  | .ok .brk, q => exact q
  | .ok .cont, q => exact q
end
end GL
namespace GL
open PySem PySem.Spec PyProof.Rows L2
section
variable {P : Program} {w : World} {K : PySem.W.Frag} {mg mb : Str → Option Value} {k : Nat} {fa a : Addr} {fd : FuncData} {x : Str} {sp : Sp} {s₁ : Shared} {vs : List Value} {ns : List Int}
/-- the law's call, from an abstract heap H that tracks at most the script at a -/
theorem law_core {H : Hp} (KX : K.In s₁.heap) (hns : s₁.heap.Ns mainGlobals mg) (hb : s₁.heap.Ns builtinsNs mb) (hbb : ∀ x : Str, x ≠ "__name__" → mb x = bootBuiltins x) (hlim : s₁.heap.NoLimit) (hg : s₁.gens = #[])
    (ha : s₁.heap.get? a = some { cls := .type "list", data := .seq vs.toArray }) (hr : Room k callerA)
    (F : ∀ base : Heap, K.In base → base.Ns mainGlobals mg → FnG P w K mg base CX0 k fa fd [x] sp) (hbind : ∀ (s : Shared) (u : Value), BindsTo s fd ⟨[u], []⟩ [(x, u)])
    (hO : Only H) (hok : HOk P w H s₁.heap) (hA : ∀ b, H b ≠ none → b = a) (hK : H a ≠ none → K.lookup a = none) (hsp : sp [.ref a] H (fun v _ => v = .bl true) fun _ _ _ => False) :
    codeAny (model P w) callerA (.call (.ref fa) ⟨[.ref a], []⟩) (fun r s' => r = .ok (.ret (.bool true)) ∧ OldK s₁.heap s'.heap ∧ s'.os = s₁.os ∧ AllBare s'.gens) s₁ := by
  have free : ∀ {b : Addr} {o : Obj} {es : Array DictEntry} {ep : Nat}, s₁.heap.get? b = some o → o.data = .dict es ep → H b = none := by
    intro b o es ep e d
    by_cases q : H b = none
    · exact q
    · cases hA b q
      rw [ha] at e
      cases e
      cases (show Data.seq vs.toArray _ = Data.dict es ep from d)
  have hid : ∀ {b : Addr} {m : Str → Option Value}, s₁.heap.Ns b m → (hidT s₁.heap H).Ns b m := fun ⟨o, es, ep, e, d, r⟩ => ⟨o, es, ep, hidT_get e (free e d), d, r⟩
  have inK : K.In (hidT s₁.heap H) := by
    intro b o e
    refine hidT_get (KX b o e) ?_
    by_cases q : H b = none
    · exact q
    · cases hA b q
      rw [hK q] at e
      cases e
  have lim : (hidT s₁.heap H).NoLimit := by
    obtain ⟨mc, h1, h2⟩ := hlim
    exact ⟨mc, hid h1, h2⟩
  have e0 : Env0 P w K mg (hidT s₁.heap H) callerA [] s₁ H := by
    refine ⟨rfl, ⟨inK, hid hns, ⟨mb, hid hb, hbb⟩, lim⟩, fun b o e => of_hidT e, Nat.le_of_eq (hidT_size _ _), trivial, fun b z => ?_, hok, .of_eq hg⟩
    cases (show b ∈ ([] : List Addr) from z)
  have run := (F _ inK (hid hns)).goes (A := callerA) (outer := []) (vs := [.ref a]) (us := [.ref a]) rfl hr e0 (hbind s₁ (.ref a)) (.cons rfl .nil) hsp
  refine codeAny_mono run ?_
  intro r s' z
  match r, z with
  | .error e, z => exact z.elim
  | .ok .next, z => exact z.elim
  | .ok .brk, z => exact z.elim
  | .ok .cont, z => exact z.elim
  | .ok (.ret u), z =>
    obtain ⟨v, H', os, bare, un, hok', r', q⟩ := z
    cases (show v = .bl true from q)
    obtain rfl : u = Value.bool true := r'
    refine ⟨rfl, OldK.of_keep fun b o e => ?_, os, bare⟩
    rcases hO b with q | ⟨ob, xs, q⟩
    · exact un.keep b o e q (List.not_mem_nil) (List.not_mem_nil)
    · obtain ⟨e1, _⟩ := hok b _ q
      obtain ⟨e2, _⟩ := hok' b _ (un.frzs b ob _ q)
      rw [e] at e1
      cases e1
      exact e2
/-- a heap that tracks one object -/
def one (a : Addr) (o : HO) : Hp := fun b => if b = a then some o else none
theorem one_off {a b : Addr} {o : HO} (h : b ≠ a) : one a o b = none := if_neg h
theorem law_at (KX : K.In s₁.heap) (hns : s₁.heap.Ns mainGlobals mg) (hb : s₁.heap.Ns builtinsNs mb) (hbb : ∀ x : Str, x ≠ "__name__" → mb x = bootBuiltins x) (hlim : s₁.heap.NoLimit) (hg : s₁.gens = #[])
    (ha : s₁.heap.get? a = some { cls := .type "list", data := .seq vs.toArray }) (hi : IntsAre vs ns) (hl : ns.length ≤ sizeLine) (hr : Room k callerA)
    (F : ∀ base : Heap, K.In base → base.Ns mainGlobals mg → FnG P w K mg base CX0 k fa fd [x] sp) (hbind : ∀ (s : Shared) (u : Value), BindsTo s fd ⟨[u], []⟩ [(x, u)])
    (hsp : ∀ H : Hp, Only H → SqL K H a (ns.map V.int) → sp [.ref a] H (fun v _ => v = .bl true) fun _ _ _ => False) :
    codeAny (model P w) callerA (.call (.ref fa) ⟨[.ref a], []⟩) (fun r s' => r = .ok (.ret (.bool true)) ∧ OldK s₁.heap s'.heap ∧ s'.os = s₁.os ∧ AllBare s'.gens) s₁ := by
  have rv := vals_ints hi
  have lenV := hi.length
  cases hk : K.lookup a with
  | some o =>
    have e := KX a o hk
    rw [ha] at e
    cases e
    have O : Only fun _ => none := fun _ => .inl rfl
    exact law_core KX hns hb hbb hlim hg ha hr F hbind O (fun b u z => nomatch z) (fun b z => absurd rfl z) (fun z => absurd rfl z) (hsp _ O (.inr ⟨_, vs.toArray, _, hk, rfl, rfl, rfl, by rw [List.size_toArray, lenV]; exact hl, by simpa using rv⟩))
  | none =>
    have at_ : one a (.frz { cls := .type "list", data := .seq vs.toArray } (.lst (ns.map V.int))) a = some (.frz { cls := .type "list", data := .seq vs.toArray } (.lst (ns.map V.int))) := if_pos rfl
    have O : Only (one a (.frz { cls := .type "list", data := .seq vs.toArray } (.lst (ns.map V.int)))) := by
      intro b
      by_cases h : b = a
      · subst h
        exact .inr ⟨_, _, at_⟩
      · exact .inl (one_off h)
    refine law_core KX hns hb hbb hlim hg ha hr F hbind O (fun b u z => ?_) (fun b z => ?_) (fun _ => hk) (hsp _ O (.inl (.inr ⟨_, at_⟩)))
    · by_cases h : b = a
      · subst h
        cases at_.symm.trans z
        exact ⟨ha, by rw [List.length_map]; exact hl, vs, _, rv, ha⟩
      · cases (one_off h).symm.trans z
    · by_cases h : b = a
      · exact h
      · exact absurd (one_off h) z
end
/-- the goal that the head leaves, from the law's promise -/
theorem walkG {l : PySem.W.OpenLaw} {k : Nat} {q : Program} {loose : List Str} {XP : (Str → Option Value) → Heap → Prop} {YP : World → Heap → Prop} {d : DefRec} {K : Params → PySem.W.Frag} {sp : PySem.W.Frag → Sp} {x : Str}
    (hn : l.most = some 63) (hdf : d.params.defaults = []) (hr : Room k callerA) (hY : ∀ (w : World) (h : Heap), YP w h → (K w.params).In h)
    (F : ∀ (w : World) (mg : Str → Option Value) (fa : Addr) (h : Heap), (K w.params).In h → h.Ns mainGlobals mg → mg d.name = some (.ref fa) →
      ∃ fd : FuncData, (∀ (s : Shared) (u : Value), BindsTo s fd ⟨[u], []⟩ [(x, u)]) ∧ ∀ base : Heap, (K w.params).In base → base.Ns mainGlobals mg → FnG l.prog w (K w.params) mg base CX0 k fa fd [x] (sp (K w.params)))
    (hsp : ∀ (K : PySem.W.Frag) (H : Hp) (a : Addr) (ns : List Int), ns.length ≤ 63 → SqL K H a (ns.map V.int) → sp K [.ref a] H (fun v _ => v = .bl true) fun _ _ _ => False) :
    PySem.W.WalkO q loose XP YP l.row.toRowW d [] (fun f vs => PySem.call f vs) := by
  refine Att.attach_call hn hdf fun w s₀ s₁ mg mb fa o pm cd doc a vs ns G Y ho hd hcd hmg hobj hints hlen hg => ?_
  have KX := hY w _ Y
  obtain ⟨fd, hb, hF⟩ := F w mg fa _ KX G.T.g hmg
  exact law_at KX G.T.g G.T.b G.T.builtins G.T.nolimit hg hobj hints (Nat.le_trans hlen (by decide)) hr hF hb fun H _ hS => hsp _ H a ns hlen hS
end GL
namespace GL
open PySem PySem.Spec PyProof.Rows L2
/-- the pairs of a code object and its table, at the law's call -/
structure TabsIn (ts : List (Addr × Addr)) (K : PySem.W.Frag) (h : Heap) : Prop where
  code : ∀ p ∈ ts, PySem.W.CodeHd h p.1 p.2
  emp : ∀ p ∈ ts, h.get? p.2 = some (PySem.W.tabObj #[])
  out : ∀ p ∈ ts, K.lookup p.2 = none
def isTab (ts : List (Addr × Addr)) (b : Addr) : Prop := ∃ p ∈ ts, p.2 = b
section
variable {P : Program} {w : World} {K : PySem.W.Frag} {mg mb : Str → Option Value} {k : Nat} {fa a : Addr} {fd : FuncData} {x : Str} {sp : Sp} {s₁ : Shared} {vs : List Value} {ns : List Int} {ts : List (Addr × Addr)}
theorem tab_at (TI : TabsIn ts K s₁.heap) {b : Addr} (hb : isTab ts b) : s₁.heap.get? b = some (PySem.W.tabObj #[]) := by
  obtain ⟨p, hp, rfl⟩ := hb
  exact TI.emp p hp
/-- the law's call, where code objects have tables -/
theorem law_coreT {H : Hp} (KX : K.In s₁.heap) (hns : s₁.heap.Ns mainGlobals mg) (hb : s₁.heap.Ns builtinsNs mb) (hbb : ∀ x : Str, x ≠ "__name__" → mb x = bootBuiltins x) (hlim : s₁.heap.NoLimit) (hg : s₁.gens = #[])
    (hbm : ∃ (bm : Addr) (ob : Obj), mg "__builtins__" = some (.ref bm) ∧ bm ≠ builtinsNs ∧ s₁.heap.get? bm = some ob ∧ ob.cls = .type "module" ∧ ob.dict = some builtinsNs ∧ ob.data = .plain)
    (TI : TabsIn ts K s₁.heap) (ha : s₁.heap.get? a = some { cls := .type "list", data := .seq vs.toArray }) (hr : Room k callerA)
    (F : ∀ base : Heap, K.In base → base.Ns mainGlobals mg → (∀ p ∈ ts, LamX.TabB base mg p.1 p.2) → FnG P w K mg base CX0 k fa fd [x] sp) (hbind : ∀ (s : Shared) (u : Value), BindsTo s fd ⟨[u], []⟩ [(x, u)])
    (hH : ∀ b, isTab ts b → H b = some (.tbl #[])) (hO : ∀ b, H b = none ∨ isTab ts b ∨ ∃ ob xs, H b = some (.frz ob (.lst xs))) (hok : HOk P w H s₁.heap) (hA : ∀ b, H b ≠ none → b = a ∨ isTab ts b) (hK : H a ≠ none → K.lookup a = none)
    (hsp : sp [.ref a] H (fun v _ => v = .bl true) fun _ _ _ => False) :
    codeAny (model P w) callerA (.call (.ref fa) ⟨[.ref a], []⟩) (fun r s' => r = .ok (.ret (.bool true)) ∧ OldK s₁.heap s'.heap ∧ s'.os = s₁.os ∧ AllBare s'.gens) s₁ := by
  -- what is neither a list nor a record without words isn't tracked
  have off : ∀ {b : Addr} {o : Obj}, s₁.heap.get? b = some o → (∀ its n, o.data ≠ .seq its n) → o.data ≠ .fields #[] → H b = none := by
    intro b o e d1 d2
    by_cases q : H b = none
    · exact q
    · rcases hA b q with rfl | t
      · rw [ha] at e
        cases e
        exact absurd rfl (d1 _ _)
      · rw [tab_at TI t] at e
        cases e
        exact absurd rfl d2
  have offD : ∀ {b : Addr} {o : Obj} {es : Array DictEntry} {ep : Nat}, s₁.heap.get? b = some o → o.data = .dict es ep → H b = none := fun e d => off e (fun _ _ z => by rw [d] at z; cases z) (fun z => by rw [d] at z; cases z)
  have hid : ∀ {b : Addr} {m : Str → Option Value}, s₁.heap.Ns b m → (hidT s₁.heap H).Ns b m := fun ⟨o, es, ep, e, d, r⟩ => ⟨o, es, ep, hidT_get e (offD e d), d, r⟩
  have inK : K.In (hidT s₁.heap H) := by
    intro b o e
    refine hidT_get (KX b o e) ?_
    by_cases q : H b = none
    · exact q
    · rcases hA b q with z | ⟨p, hp, z⟩
      · rw [z] at e q
        rw [hK q] at e
        cases e
      · rw [← z, TI.out p hp] at e
        cases e
  have lim : (hidT s₁.heap H).NoLimit := by
    obtain ⟨mc, h1, h2⟩ := hlim
    exact ⟨mc, hid h1, h2⟩
  have tabs : ∀ p ∈ ts, LamX.TabB (hidT s₁.heap H) mg p.1 p.2 := by
    intro p hp
    have hPt := TI.emp p hp
    refine ⟨?_, ?_, ?_⟩
    · obtain ⟨o, us, file, tf, flags, tg, inF, text, tt, e1, r1, r2, r3, rest⟩ := TI.code p hp
      refine ⟨o, us, file, tf, flags, tg, inF, text, tt, hidT_get e1 (off e1 (fun _ _ z => ?_) fun z => ?_), r1, r2, r3, rest⟩
      · rw [r2] at z
        cases z
      · rw [r2] at z
        cases z
        simp at r3
    · obtain ⟨bm, ob, b1, b2, b3, b4, b5, b6⟩ := hbm
      refine ⟨bm, ob, b1, b2, fun z => ?_, fun z => ?_, hidT_get b3 (off b3 (fun _ _ z => ?_) fun z => ?_), b4, b5, b6⟩
      · obtain ⟨o, es, ep, e, d, _⟩ := hns
        rw [z, e] at b3
        cases b3
        rw [d] at b6
        cases b6
      · rw [z, hPt] at b3
        cases b3
        cases b6
      · rw [b6] at z
        cases z
      · rw [b6] at z
        cases z
    · intro z
      obtain ⟨o, es, ep, e, d, _⟩ := hns
      rw [z, hPt] at e
      cases e
      cases d
  have e0 : Env0 P w K mg (hidT s₁.heap H) callerA [] s₁ H := by
    refine ⟨rfl, ⟨inK, hid hns, ⟨mb, hid hb, hbb⟩, lim⟩, fun b o e => of_hidT e, Nat.le_of_eq (hidT_size _ _), trivial, fun b z => ?_, hok, .of_eq hg⟩
    cases (show b ∈ ([] : List Addr) from z)
  have run := (F _ inK (hid hns) tabs).goes (A := callerA) (outer := []) (vs := [.ref a]) (us := [.ref a]) rfl hr e0 (hbind s₁ (.ref a)) (.cons rfl .nil) hsp
  refine codeAny_mono run ?_
  intro r s' z
  match r, z with
  | .error e, z => exact z.elim
  | .ok .next, z => exact z.elim
  | .ok .brk, z => exact z.elim
  | .ok .cont, z => exact z.elim
  | .ok (.ret u), z =>
    obtain ⟨v, H', os, bare, un, hok', r', q⟩ := z
    cases (show v = .bl true from q)
    obtain rfl : u = Value.bool true := r'
    have same : ∀ b o, ¬ isTab ts b → s₁.heap.get? b = some o → s'.heap.get? b = some o := by
      intro b o nt e
      rcases hO b with q | q | ⟨ob, xs, q⟩
      · exact un.keep b o e q (List.not_mem_nil) (List.not_mem_nil)
      · exact absurd q nt
      · obtain ⟨e1, _⟩ := hok b _ q
        obtain ⟨e2, _⟩ := hok' b _ (un.frzs b ob _ q)
        rw [e] at e1
        cases e1
        exact e2
    have more : ∀ b, isTab ts b → ∃ ps : Array Value, s'.heap.get? b = some (PySem.W.tabObj ps) := by
      intro b t
      obtain ⟨ps, z⟩ := un.tbls b #[] (hH b t)
      exact ⟨_, hok' b _ z⟩
    refine ⟨rfl, ⟨fun b o e => ?_, fun b o e => ?_⟩, os, bare⟩
    · by_cases t : isTab ts b
      · obtain ⟨ps, m⟩ := more b t
        have e' := e
        rw [tab_at TI t] at e'
        cases e'
        obtain ⟨p, hp, rfl⟩ := t
        exact .inr (.inl ⟨((TI.code p hp).tab (TI.emp p hp)).isCodeTable, rfl, #[], ps, rfl, by simpa using m⟩)
      · exact .inl (same b o t e)
    · by_cases t : isTab ts b
      · obtain ⟨ps, m⟩ := more b t
        exact ⟨_, m⟩
      · exact ⟨o, same b o t e⟩
theorem law_atT (KX : K.In s₁.heap) (hns : s₁.heap.Ns mainGlobals mg) (hb : s₁.heap.Ns builtinsNs mb) (hbb : ∀ x : Str, x ≠ "__name__" → mb x = bootBuiltins x) (hlim : s₁.heap.NoLimit) (hg : s₁.gens = #[])
    (hbm : ∃ (bm : Addr) (ob : Obj), mg "__builtins__" = some (.ref bm) ∧ bm ≠ builtinsNs ∧ s₁.heap.get? bm = some ob ∧ ob.cls = .type "module" ∧ ob.dict = some builtinsNs ∧ ob.data = .plain)
    (TI : TabsIn ts K s₁.heap) (ha : s₁.heap.get? a = some { cls := .type "list", data := .seq vs.toArray }) (hi : IntsAre vs ns) (hl : ns.length ≤ sizeLine) (hr : Room k callerA)
    (F : ∀ base : Heap, K.In base → base.Ns mainGlobals mg → (∀ p ∈ ts, LamX.TabB base mg p.1 p.2) → FnG P w K mg base CX0 k fa fd [x] sp) (hbind : ∀ (s : Shared) (u : Value), BindsTo s fd ⟨[u], []⟩ [(x, u)])
    (hsp : ∀ H : Hp, (∀ p ∈ ts, H p.2 = some (.tbl #[])) → SqL K H a (ns.map V.int) → sp [.ref a] H (fun v _ => v = .bl true) fun _ _ _ => False) :
    codeAny (model P w) callerA (.call (.ref fa) ⟨[.ref a], []⟩) (fun r s' => r = .ok (.ret (.bool true)) ∧ OldK s₁.heap s'.heap ∧ s'.os = s₁.os ∧ AllBare s'.gens) s₁ := by
  have rv := vals_ints hi
  have lenV := hi.length
  have na : ¬ isTab ts a := fun t => by
    have e := tab_at TI t
    rw [ha] at e
    exact nomatch congrArg Obj.data (Option.some.inj e)
  have go : ∀ H : Hp, (∀ b, isTab ts b → H b = some (.tbl #[])) → (∀ b, ¬ isTab ts b → b ≠ a → H b = none) → (H a = none ∨ (H a = some (.frz { cls := .type "list", data := .seq vs.toArray } (.lst (ns.map V.int))) ∧ K.lookup a = none)) → SqL K H a (ns.map V.int) →
      codeAny (model P w) callerA (.call (.ref fa) ⟨[.ref a], []⟩) (fun r s' => r = .ok (.ret (.bool true)) ∧ OldK s₁.heap s'.heap ∧ s'.os = s₁.os ∧ AllBare s'.gens) s₁ := by
    intro H h1 h2 h3 h4
    refine law_coreT (H := H) KX hns hb hbb hlim hg hbm TI ha hr F hbind h1 (fun b => ?_) (fun b u z => ?_) (fun b z => ?_) (fun z => ?_) (hsp H (fun p hp => h1 _ ⟨p, hp, rfl⟩) h4)
    · by_cases t : isTab ts b
      · exact .inr (.inl t)
      · by_cases e : b = a
        · subst e
          exact h3.imp id fun q => .inr ⟨_, _, q.1⟩
        · exact .inl (h2 b t e)
    · by_cases t : isTab ts b
      · cases (h1 b t).symm.trans z
        exact tab_at TI t
      · by_cases e : b = a
        · subst e
          rcases h3 with q | ⟨q, _⟩
          · cases q.symm.trans z
          · cases q.symm.trans z
            exact ⟨ha, by rw [List.length_map]; exact hl, vs, _, rv, ha⟩
        · cases (h2 b t e).symm.trans z
    · by_cases e : b = a
      · exact .inl e
      · by_cases t : isTab ts b
        · exact .inr t
        · exact absurd (h2 b t e) z
    · rcases h3 with q | ⟨_, q⟩
      · exact absurd q z
      · exact q
  classical
  cases hk : K.lookup a with
  | some o =>
    have e := KX a o hk
    rw [ha] at e
    cases e
    exact go (fun b => if isTab ts b then some (.tbl #[]) else none) (fun b t => if_pos t) (fun b t _ => if_neg t) (.inl (if_neg na)) (.inr ⟨_, vs.toArray, _, hk, rfl, rfl, rfl, by rw [List.size_toArray, lenV]; exact hl, by simpa using rv⟩)
  | none =>
    have at_ : (fun b => if isTab ts b then some (HO.tbl #[]) else if b = a then some (.frz { cls := .type "list", data := .seq vs.toArray } (.lst (ns.map V.int))) else none : Hp) a = some (.frz { cls := .type "list", data := .seq vs.toArray } (.lst (ns.map V.int))) := (if_neg na).trans (if_pos rfl)
    exact go _ (fun b t => if_pos t) (fun b t e => (if_neg t).trans (if_neg e)) (.inr ⟨at_, hk⟩) (.inl (.inr ⟨_, at_⟩))
end
/-- the defs of the text whose code objects have tables are these -/
theorem walkGT {l : PySem.W.OpenLaw} {k : Nat} {q : Program} {loose : List Str} {XP : (Str → Option Value) → Heap → Prop} {YP : World → Heap → Prop} {d : DefRec} {K : Params → PySem.W.Frag} {sp : PySem.W.Frag → List (Addr × Addr) → Sp} {x : Str} {xs : List Str}
    (hn : l.most = some 63) (hdf : d.params.defaults = []) (hr : Room k callerA) (hY : ∀ (w : World) (h : Heap), YP w h → (K w.params).In h)
    (hx : ∀ y ∈ xs, ∃ e : DefRec, (recsOf q).find? (fun e => e.name == y) = some e)
    (F : ∀ (w : World) (mg : Str → Option Value) (fa : Addr) (h : Heap), (K w.params).In h → h.Ns mainGlobals mg → mg d.name = some (.ref fa) →
      ∃ (fd : FuncData) (ts : List (Addr × Addr)), (∀ p ∈ ts, ∃ y ∈ xs, PySem.W.tabIn (K w.params) y = some p) ∧ (∀ p ∈ ts, (K w.params).lookup p.2 = none) ∧ (∀ (s : Shared) (u : Value), BindsTo s fd ⟨[u], []⟩ [(x, u)]) ∧
        (∀ base : Heap, (K w.params).In base → base.Ns mainGlobals mg → (∀ p ∈ ts, LamX.TabB base mg p.1 p.2) → FnG l.prog w (K w.params) mg base CX0 k fa fd [x] (sp (K w.params) ts)))
    (hsp : ∀ (K : PySem.W.Frag) (ts : List (Addr × Addr)) (H : Hp) (a : Addr) (ns : List Int), ns.length ≤ 63 → (∀ p ∈ ts, H p.2 = some (.tbl #[])) → SqL K H a (ns.map V.int) → sp K ts [.ref a] H (fun v _ => v = .bl true) fun _ _ _ => False) :
    PySem.W.WalkO q loose XP YP l.row.toRowW d [] (fun f vs => PySem.call f vs) := by
  refine Att.attach_call hn hdf fun w s₀ s₁ mg mb fa o pm cd doc a vs ns G Y ho hd hcd hmg hobj hints hlen hg => ?_
  have KX := hY w _ Y
  obtain ⟨fd, ts, h1, h2, h3, h4⟩ := F w mg fa _ KX G.T.g hmg
  have TI : TabsIn ts (K w.params) s₁.heap := by
    have both : ∀ p ∈ ts, PySem.W.CodeHd s₁.heap p.1 p.2 ∧ s₁.heap.get? p.2 = some (PySem.W.tabObj #[]) := fun p hp => by
      obtain ⟨y, hy, ht⟩ := h1 p hp
      obtain ⟨e, he⟩ := hx y hy
      exact PySem.W.tab_of G.T KX he ht
    exact ⟨fun p hp => (both p hp).1, fun p hp => (both p hp).2, h2⟩
  exact law_atT KX G.T.g G.T.b G.T.builtins G.T.nolimit hg G.T.bmain TI hobj hints (Nat.le_trans hlen (by decide)) hr h4 h3 fun H hH hS => hsp _ ts H a ns hlen hH hS
end GL
namespace My
open PySem PySem.Spec PyProof.Rows L2 GL
def topS (i : Nat) : Stmt := PySem.Challenge.pw_chargeways_k13_groups_struck_one_by_one.main.body.getD i (.Pass ⟨0, 0, 0, 0⟩)
abbrev s_is_an_integer : Stmt := topS 2
abbrev N_is_an_integer : List Str := ["value"]
theorem sc_is_an_integer : FnScope N_is_an_integer ["value"] (defScope s_is_an_integer) := ⟨rfl, rfl, rfl, by decide +kernel, rfl, by decide +kernel, by decide +kernel⟩
abbrev s_is_list : Stmt := topS 3
abbrev N_is_list : List Str := ["value"]
theorem sc_is_list : FnScope N_is_list ["value"] (defScope s_is_list) := ⟨rfl, rfl, rfl, by decide +kernel, rfl, by decide +kernel, by decide +kernel⟩
abbrev s_check_group : Stmt := topS 17
abbrev N_check_group : List Str := ["tree", "value"]
theorem sc_check_group : FnScope N_check_group ["tree", "value"] (defScope s_check_group) := ⟨rfl, rfl, rfl, by decide +kernel, rfl, by decide +kernel, by decide +kernel⟩
abbrev s_check_parents : Stmt := topS 18
abbrev N_check_parents : List Str := ["parents", "position", "parent"]
theorem sc_check_parents : FnScope N_check_parents ["parents"] (defScope s_check_parents) := ⟨rfl, rfl, rfl, by decide +kernel, rfl, by decide +kernel, by decide +kernel⟩
abbrev s_check_struck : Stmt := topS 19
abbrev N_check_struck : List Str := ["parents", "struck", "seen", "position", "group", "needed", "child", "parent"]
theorem sc_check_struck : FnScope N_check_struck ["parents", "struck"] (defScope s_check_struck) := ⟨rfl, rfl, rfl, by decide +kernel, rfl, by decide +kernel, by decide +kernel⟩
abbrev s_Tinit : Stmt := inClass (topS 20) 0
abbrev N_Tinit : List Str := ["self", "parents", "struck"]
theorem sc_Tinit : FnScope N_Tinit ["self", "parents", "struck"] (defScope s_Tinit) := ⟨rfl, rfl, rfl, by decide +kernel, rfl, by decide +kernel, by decide +kernel⟩
abbrev s_Tlen : Stmt := inClass (topS 20) 1
abbrev N_Tlen : List Str := ["self"]
theorem sc_Tlen : FnScope N_Tlen ["self"] (defScope s_Tlen) := ⟨rfl, rfl, rfl, by decide +kernel, rfl, by decide +kernel, by decide +kernel⟩
abbrev s_Teq : Stmt := inClass (topS 20) 2
abbrev N_Teq : List Str := ["self", "other"]
theorem sc_Teq : FnScope N_Teq ["self", "other"] (defScope s_Teq) := ⟨rfl, rfl, rfl, by decide +kernel, rfl, by decide +kernel, by decide +kernel⟩
abbrev s_Trepr : Stmt := inClass (topS 20) 3
abbrev N_Trepr : List Str := ["self"]
theorem sc_Trepr : FnScope N_Trepr ["self"] (defScope s_Trepr) := ⟨rfl, rfl, rfl, by decide +kernel, rfl, by decide +kernel, by decide +kernel⟩
abbrev s_Tparents : Stmt := inClass (topS 20) 4
abbrev N_Tparents : List Str := ["self"]
theorem sc_Tparents : FnScope N_Tparents ["self"] (defScope s_Tparents) := ⟨rfl, rfl, rfl, by decide +kernel, rfl, by decide +kernel, by decide +kernel⟩
abbrev s_Tstruck : Stmt := inClass (topS 20) 5
abbrev N_Tstruck : List Str := ["self"]
theorem sc_Tstruck : FnScope N_Tstruck ["self"] (defScope s_Tstruck) := ⟨rfl, rfl, rfl, by decide +kernel, rfl, by decide +kernel, by decide +kernel⟩
abbrev s_Tchildren : Stmt := inClass (topS 20) 7
abbrev N_Tchildren : List Str := ["self", "group", "child", "parent"]
theorem sc_Tchildren : FnScope N_Tchildren ["self", "group"] (defScope s_Tchildren) := ⟨rfl, rfl, rfl, by decide +kernel, rfl, by decide +kernel, by decide +kernel⟩
abbrev s_Tis_struck : Stmt := inClass (topS 20) 10
abbrev N_Tis_struck : List Str := ["self", "group"]
theorem sc_Tis_struck : FnScope N_Tis_struck ["self", "group"] (defScope s_Tis_struck) := ⟨rfl, rfl, rfl, by decide +kernel, rfl, by decide +kernel, by decide +kernel⟩
abbrev s_Twith_group : Stmt := inClass (topS 20) 16
abbrev N_Twith_group : List Str := ["self", "group"]
theorem sc_Twith_group : FnScope N_Twith_group ["self", "group"] (defScope s_Twith_group) := ⟨rfl, rfl, rfl, by decide +kernel, rfl, by decide +kernel, by decide +kernel⟩
abbrev s_Twith_struck : Stmt := inClass (topS 20) 17
abbrev N_Twith_struck : List Str := ["self", "group", "child"]
theorem sc_Twith_struck : FnScope N_Twith_struck ["self", "group"] (defScope s_Twith_struck) := ⟨rfl, rfl, rfl, by decide +kernel, rfl, by decide +kernel, by decide +kernel⟩
abbrev s_Lpot : Stmt := topS 22
abbrev N_Lpot : List Str := ["_law_script", "_law_k", "_law_cell"]
theorem sc_Lpot : FnScope N_Lpot ["_law_script", "_law_k"] (defScope s_Lpot) := ⟨rfl, rfl, rfl, by decide +kernel, rfl, by decide +kernel, by decide +kernel⟩
abbrev s_Ldraw : Stmt := topS 23
abbrev N_Ldraw : List Str := ["_law_pot_here", "_law_sides", "_law_digit"]
theorem sc_Ldraw : FnScope N_Ldraw ["_law_pot_here", "_law_sides"] (defScope s_Ldraw) := ⟨rfl, rfl, rfl, by decide +kernel, rfl, by decide +kernel, by decide +kernel⟩
abbrev s_Lpick : Stmt := topS 24
abbrev N_Lpick : List Str := ["_law_pot_here", "_law_some"]
theorem sc_Lpick : FnScope N_Lpick ["_law_pot_here", "_law_some"] (defScope s_Lpick) := ⟨rfl, rfl, rfl, by decide +kernel, rfl, by decide +kernel, by decide +kernel⟩
abbrev s_Lups : Stmt := topS 25
abbrev N_Lups : List Str := ["_law_pot_here", "_law_most", "_law_found", "_law_turn"]
theorem sc_Lups : FnScope N_Lups ["_law_pot_here", "_law_most"] (defScope s_Lups) := ⟨rfl, rfl, rfl, by decide +kernel, rfl, by decide +kernel, by decide +kernel⟩
abbrev s_Lunder : Stmt := topS 26
abbrev N_Lunder : List Str := ["_law_ups_here", "_law_spot", "_law_near", "_law_up"]
theorem sc_Lunder : FnScope N_Lunder ["_law_ups_here", "_law_spot"] (defScope s_Lunder) := ⟨rfl, rfl, rfl, by decide +kernel, rfl, by decide +kernel, by decide +kernel⟩
abbrev s_Lheard : Stmt := topS 27
abbrev N_Lheard : List Str := ["_law_ask", "e"]
theorem sc_Lheard : FnScope N_Lheard ["_law_ask"] (defScope s_Lheard) := ⟨rfl, rfl, rfl, by decide +kernel, rfl, by decide +kernel, by decide +kernel⟩
abbrev s_Ldue : Stmt := topS 28
abbrev N_Ldue : List Str := ["_law_ups_here", "_law_marks", "_law_spot", "_law_near"]
theorem sc_Ldue : FnScope N_Ldue ["_law_ups_here", "_law_marks", "_law_spot"] (defScope s_Ldue) := ⟨rfl, rfl, rfl, by decide +kernel, rfl, by decide +kernel, by decide +kernel⟩
abbrev s_Lwrong : Stmt := topS 29
abbrev N_Lwrong : List Str := ["_law_ups_here", "_law_some", "_law_at", "_law_spot", "_law_near"]
theorem sc_Lwrong : FnScope N_Lwrong ["_law_ups_here", "_law_some"] (defScope s_Lwrong) := ⟨rfl, rfl, rfl, by decide +kernel, rfl, by decide +kernel, by decide +kernel⟩
abbrev s_Lspoilt : Stmt := topS 30
abbrev N_Lspoilt : List Str := ["_law_pot_here", "_law_ups_here", "_law_marks", "_law_some", "_law_option", "_law_at", "_law_turn"]
theorem sc_Lspoilt : FnScope N_Lspoilt ["_law_pot_here", "_law_ups_here", "_law_marks"] (defScope s_Lspoilt) := ⟨rfl, rfl, rfl, by decide +kernel, rfl, by decide +kernel, by decide +kernel⟩
abbrev s_Llist_right : Stmt := topS 31
abbrev N_Llist_right : List Str := ["_law_ups_here", "_law_some", "_law_at", "_law_met", "_law_named", "_law_wanted", "_law_spot"]
theorem sc_Llist_right : FnScope N_Llist_right ["_law_ups_here", "_law_some"] (defScope s_Llist_right) := ⟨rfl, rfl, rfl, by decide +kernel, rfl, by decide +kernel, by decide +kernel⟩
abbrev s_Lright : Stmt := topS 32
abbrev N_Lright : List Str := ["_law_pot_here", "_law_marks", "_law_turn", "_law_elder", "_law_wanted", "_law_met", "_law_again", "_law_odd", "_law_made", "_law_spot", "_law_ups_here", "_law_near"]
theorem sc_Lright : FnScope N_Lright ["_law_pot_here"] (defScope s_Lright) := ⟨rfl, rfl, rfl, by decide +kernel, rfl, by decide +kernel, by decide +kernel⟩
abbrev s_law : Stmt := topS 33
abbrev N_law : List Str := ["_law_script", "_law_k"]
theorem sc_law : FnScope N_law ["_law_script"] (defScope s_law) := ⟨rfl, rfl, rfl, by decide +kernel, rfl, by decide +kernel, by decide +kernel⟩
def kb1 {α : Type} : List α → List α → List α
  | [a], [b] => [a, b]
  | _, _ => []
def kb2 {α : Type} : List α → List α → List α
  | [a], [b, c] => [a, c, b]
  | _, _ => []
theorem kb1_rel {vs zs : List V} {us ws : List Value} (h : Vals vs us) (h2 : Vals zs ws) : Vals (kb1 vs zs) (kb1 us ws) := by
  cases h with
  | nil => cases h2 <;> exact .nil
  | cons r t => cases t with
    | nil => cases h2 with
      | nil => exact .nil
      | cons r2 t2 => cases t2 with
        | nil => exact .cons r (.cons r2 .nil)
        | cons => exact .nil
    | cons => cases h2 <;> exact .nil
theorem kb2_rel {vs zs : List V} {us ws : List Value} (h : Vals vs us) (h2 : Vals zs ws) : Vals (kb2 vs zs) (kb2 us ws) := by
  cases h with
  | nil => cases h2 <;> exact .nil
  | cons r t => cases t with
    | nil => cases h2 with
      | nil => exact .nil
      | cons r2 t2 => cases t2 with
        | nil => exact .nil
        | cons r3 t3 => cases t3 with
          | nil => exact .cons r (.cons r3 (.cons r2 .nil))
          | cons => exact .nil
    | cons => cases h2 <;> exact .nil
abbrev s_E_IsTop : Stmt := inClass (topS 10) 0
theorem sh_IsTop : ∃ p1 q1, defArgs s_E_IsTop = GX.ini0A p1 ∧ defBody s_E_IsTop = [.Pass q1] ∧ defScope s_E_IsTop = GX.ini0S := ⟨_, _, rfl, rfl, rfl⟩
abbrev s_E_Struck : Stmt := inClass (topS 11) 0
theorem sh_Struck : ∃ p1 p2 q1 q2 q3 q4, defArgs s_E_Struck = GX.inigroupA p1 p2 ∧ defBody s_E_Struck = GX.inigroupB q1 q2 q3 q4 ∧ defScope s_E_Struck = GX.inigroupS := ⟨_, _, _, _, _, _, rfl, rfl, rfl⟩
abbrev s_E_HasChildren : Stmt := inClass (topS 12) 0
theorem sh_HasChildren : ∃ p1 p2 q1 q2 q3 q4, defArgs s_E_HasChildren = GX.inigroupA p1 p2 ∧ defBody s_E_HasChildren = GX.inigroupB q1 q2 q3 q4 ∧ defScope s_E_HasChildren = GX.inigroupS := ⟨_, _, _, _, _, _, rfl, rfl, rfl⟩
abbrev s_E_InvalidStruck : Stmt := inClass (topS 8) 0
theorem sh_InvalidStruck : ∃ p1 p2 q1 q2 q3 q4, defArgs s_E_InvalidStruck = GX.inipositionA p1 p2 ∧ defBody s_E_InvalidStruck = GX.inipositionB q1 q2 q3 q4 ∧ defScope s_E_InvalidStruck = GX.inipositionS := ⟨_, _, _, _, _, _, rfl, rfl, rfl⟩
abbrev bm_RuntimeError : List Value := [.type "RuntimeError", .type "Exception", .type "BaseException", .type "object"]
abbrev bm_ValueError : List Value := [.type "ValueError", .type "Exception", .type "BaseException", .type "object"]
structure Txt (K : PySem.W.Frag) (mg : Str → Option Value) where
  C : Addr
  c_Tree : Cls K C
  m_Tree : mg "Tree" = some (.ref C)
  n_above : NoAttr K C "_above"
  n_struck : NoAttr K C "_struck"
  x_class : PySem.W.findIn K (.ref C) "__class__" = some (some (.builtin "object.__class__"))
  x_get : PySem.W.specialIn K (.builtin "object.__class__") "__get__" = some (some (.builtin "getset_descriptor.__get__"))
  x_tk : PySem.W.takesIn K (.builtin "object.__class__") = some true
  x_mro : PySem.W.mroIn K C (.type "object") = some true
  x_ne : PySem.W.findIn K (.ref C) "__ne__" = some (some (.builtin "object.__ne__"))
  x_cls : PySem.W.isClsIn K C = true
  x_ty : PySem.W.typeIn K (.ref C) = some (.type "type")
  f_is_an_integer : Addr
  fd_is_an_integer : FuncData
  F_is_an_integer : L2.Fun K "is_an_integer" "is_an_integer" s_is_an_integer f_is_an_integer fd_is_an_integer
  b_is_an_integer : Binds K fd_is_an_integer ["value"] []
  m_is_an_integer : mg "is_an_integer" = some (.ref f_is_an_integer)
  f_is_list : Addr
  fd_is_list : FuncData
  F_is_list : L2.Fun K "is_list" "is_list" s_is_list f_is_list fd_is_list
  b_is_list : Binds K fd_is_list ["value"] []
  m_is_list : mg "is_list" = some (.ref f_is_list)
  f_check_group : Addr
  fd_check_group : FuncData
  F_check_group : L2.Fun K "check_group" "check_group" s_check_group f_check_group fd_check_group
  b_check_group : Binds K fd_check_group ["tree", "value"] []
  m_check_group : mg "check_group" = some (.ref f_check_group)
  f_check_parents : Addr
  fd_check_parents : FuncData
  F_check_parents : L2.Fun K "check_parents" "check_parents" s_check_parents f_check_parents fd_check_parents
  b_check_parents : Binds K fd_check_parents ["parents"] []
  m_check_parents : mg "check_parents" = some (.ref f_check_parents)
  f_check_struck : Addr
  fd_check_struck : FuncData
  F_check_struck : L2.Fun K "check_struck" "check_struck" s_check_struck f_check_struck fd_check_struck
  b_check_struck : Binds K fd_check_struck ["parents", "struck"] []
  m_check_struck : mg "check_struck" = some (.ref f_check_struck)
  f_Tinit : Addr
  fd_Tinit : FuncData
  d0_Tinit : Addr
  d1_Tinit : Addr
  e0_Tinit : ∀ H, SqT K H d0_Tinit []
  y0_Tinit : ∀ H, TyX K H (.ref d0_Tinit) (.type "tuple")
  e1_Tinit : ∀ H, SqT K H d1_Tinit []
  y1_Tinit : ∀ H, TyX K H (.ref d1_Tinit) (.type "tuple")
  F_Tinit : L2.FunD K "__init__" "Tree.__init__" (defArgs s_Tinit) (defBody s_Tinit) (defScope s_Tinit) [.ref d0_Tinit, .ref d1_Tinit] [] f_Tinit fd_Tinit
  w0_Tinit : List Value
  v0_Tinit : Vals [.ref d0_Tinit, .ref d1_Tinit] w0_Tinit
  b0_Tinit : Binds K fd_Tinit ["self", "parents", "struck"] w0_Tinit
  w1_Tinit : List Value
  v1_Tinit : Vals [.ref d1_Tinit] w1_Tinit
  b1_Tinit : Binds K fd_Tinit ["self", "parents", "struck"] w1_Tinit
  w2_Tinit : List Value
  v2_Tinit : Vals [] w2_Tinit
  b2_Tinit : Binds K fd_Tinit ["self", "parents", "struck"] w2_Tinit
  mk_Tree : Mk K C f_Tinit
  wk_Tinit_struck_parents : List Value
  k_Tinit_struck_parents : KBn K fd_Tinit ["self", "parents", "struck"] 1 ["struck", "parents"] (fun us ws => sel us wk_Tinit_struck_parents ws [(0, 0), (2, 1), (2, 0)]) (fun vs zs => sel vs [.ref d0_Tinit, .ref d1_Tinit] zs [(0, 0), (2, 1), (2, 0)])
  f_Tlen : Addr
  fd_Tlen : FuncData
  F_Tlen : L2.Fun K "__len__" "Tree.__len__" s_Tlen f_Tlen fd_Tlen
  b_Tlen : Binds K fd_Tlen ["self"] []
  M_Tlen : Meth K C "__len__" f_Tlen
  f_Teq : Addr
  fd_Teq : FuncData
  F_Teq : L2.Fun K "__eq__" "Tree.__eq__" s_Teq f_Teq fd_Teq
  b_Teq : Binds K fd_Teq ["self", "other"] []
  M_Teq : Meth K C "__eq__" f_Teq
  f_Trepr : Addr
  fd_Trepr : FuncData
  F_Trepr : L2.Fun K "__repr__" "Tree.__repr__" s_Trepr f_Trepr fd_Trepr
  b_Trepr : Binds K fd_Trepr ["self"] []
  M_Trepr : Meth K C "__repr__" f_Trepr
  f_Tparents : Addr
  fd_Tparents : FuncData
  F_Tparents : L2.Fun K "parents" "Tree.parents" s_Tparents f_Tparents fd_Tparents
  b_Tparents : Binds K fd_Tparents ["self"] []
  M_Tparents : Meth K C "parents" f_Tparents
  f_Tstruck : Addr
  fd_Tstruck : FuncData
  F_Tstruck : L2.Fun K "struck" "Tree.struck" s_Tstruck f_Tstruck fd_Tstruck
  b_Tstruck : Binds K fd_Tstruck ["self"] []
  M_Tstruck : Meth K C "struck" f_Tstruck
  f_Tchildren : Addr
  fd_Tchildren : FuncData
  F_Tchildren : L2.Fun K "children" "Tree.children" s_Tchildren f_Tchildren fd_Tchildren
  b_Tchildren : Binds K fd_Tchildren ["self", "group"] []
  M_Tchildren : Meth K C "children" f_Tchildren
  f_Tis_struck : Addr
  fd_Tis_struck : FuncData
  F_Tis_struck : L2.Fun K "is_struck" "Tree.is_struck" s_Tis_struck f_Tis_struck fd_Tis_struck
  b_Tis_struck : Binds K fd_Tis_struck ["self", "group"] []
  M_Tis_struck : Meth K C "is_struck" f_Tis_struck
  f_Twith_group : Addr
  fd_Twith_group : FuncData
  F_Twith_group : L2.Fun K "with_group" "Tree.with_group" s_Twith_group f_Twith_group fd_Twith_group
  b_Twith_group : Binds K fd_Twith_group ["self", "group"] []
  M_Twith_group : Meth K C "with_group" f_Twith_group
  f_Twith_struck : Addr
  fd_Twith_struck : FuncData
  F_Twith_struck : L2.Fun K "with_struck" "Tree.with_struck" s_Twith_struck f_Twith_struck fd_Twith_struck
  b_Twith_struck : Binds K fd_Twith_struck ["self", "group"] []
  M_Twith_struck : Meth K C "with_struck" f_Twith_struck
  k_Twith_struck_group : KBinds K fd_Twith_struck ["self", "group"] ["group"] kb1 kb1
  f_Lpot : Addr
  fd_Lpot : FuncData
  F_Lpot : L2.Fun K "_law_pot" "_law_pot" s_Lpot f_Lpot fd_Lpot
  b_Lpot : Binds K fd_Lpot ["_law_script", "_law_k"] []
  m_Lpot : mg "_law_pot" = some (.ref f_Lpot)
  f_Ldraw : Addr
  fd_Ldraw : FuncData
  F_Ldraw : L2.Fun K "_law_draw" "_law_draw" s_Ldraw f_Ldraw fd_Ldraw
  b_Ldraw : Binds K fd_Ldraw ["_law_pot_here", "_law_sides"] []
  m_Ldraw : mg "_law_draw" = some (.ref f_Ldraw)
  f_Lpick : Addr
  fd_Lpick : FuncData
  F_Lpick : L2.Fun K "_law_pick" "_law_pick" s_Lpick f_Lpick fd_Lpick
  b_Lpick : Binds K fd_Lpick ["_law_pot_here", "_law_some"] []
  m_Lpick : mg "_law_pick" = some (.ref f_Lpick)
  f_Lups : Addr
  fd_Lups : FuncData
  F_Lups : L2.Fun K "_law_ups" "_law_ups" s_Lups f_Lups fd_Lups
  b_Lups : Binds K fd_Lups ["_law_pot_here", "_law_most"] []
  m_Lups : mg "_law_ups" = some (.ref f_Lups)
  f_Lunder : Addr
  fd_Lunder : FuncData
  F_Lunder : L2.Fun K "_law_under" "_law_under" s_Lunder f_Lunder fd_Lunder
  b_Lunder : Binds K fd_Lunder ["_law_ups_here", "_law_spot"] []
  m_Lunder : mg "_law_under" = some (.ref f_Lunder)
  f_Lheard : Addr
  fd_Lheard : FuncData
  F_Lheard : L2.Fun K "_law_heard" "_law_heard" s_Lheard f_Lheard fd_Lheard
  b_Lheard : Binds K fd_Lheard ["_law_ask"] []
  m_Lheard : mg "_law_heard" = some (.ref f_Lheard)
  f_Ldue : Addr
  fd_Ldue : FuncData
  F_Ldue : L2.Fun K "_law_due" "_law_due" s_Ldue f_Ldue fd_Ldue
  b_Ldue : Binds K fd_Ldue ["_law_ups_here", "_law_marks", "_law_spot"] []
  m_Ldue : mg "_law_due" = some (.ref f_Ldue)
  f_Lwrong : Addr
  fd_Lwrong : FuncData
  F_Lwrong : L2.Fun K "_law_wrong" "_law_wrong" s_Lwrong f_Lwrong fd_Lwrong
  b_Lwrong : Binds K fd_Lwrong ["_law_ups_here", "_law_some"] []
  m_Lwrong : mg "_law_wrong" = some (.ref f_Lwrong)
  f_Lspoilt : Addr
  fd_Lspoilt : FuncData
  F_Lspoilt : L2.Fun K "_law_spoilt" "_law_spoilt" s_Lspoilt f_Lspoilt fd_Lspoilt
  b_Lspoilt : Binds K fd_Lspoilt ["_law_pot_here", "_law_ups_here", "_law_marks"] []
  m_Lspoilt : mg "_law_spoilt" = some (.ref f_Lspoilt)
  f_Llist_right : Addr
  fd_Llist_right : FuncData
  F_Llist_right : L2.Fun K "_law_list_right" "_law_list_right" s_Llist_right f_Llist_right fd_Llist_right
  b_Llist_right : Binds K fd_Llist_right ["_law_ups_here", "_law_some"] []
  m_Llist_right : mg "_law_list_right" = some (.ref f_Llist_right)
  f_Lright : Addr
  fd_Lright : FuncData
  F_Lright : L2.Fun K "_law_right" "_law_right" s_Lright f_Lright fd_Lright
  b_Lright : Binds K fd_Lright ["_law_pot_here"] []
  m_Lright : mg "_law_right" = some (.ref f_Lright)
  f_law : Addr
  fd_law : FuncData
  F_law : L2.Fun K "law" "law" s_law f_law fd_law
  b_law : Binds K fd_law ["_law_script"] []
  m_law : mg "law" = some (.ref f_law)
  C_IsTop : Addr
  I_IsTop : Addr
  X_IsTop : GX.Err0 K C_IsTop I_IsTop bm_RuntimeError "RuntimeError.__new__"
  m_IsTop : mg "IsTop" = some (.ref C_IsTop)
  C_Struck : Addr
  I_Struck : Addr
  X_Struck : GX.Errgroup K C_Struck I_Struck bm_RuntimeError "RuntimeError.__new__"
  m_Struck : mg "Struck" = some (.ref C_Struck)
  C_HasChildren : Addr
  I_HasChildren : Addr
  X_HasChildren : GX.Errgroup K C_HasChildren I_HasChildren bm_RuntimeError "RuntimeError.__new__"
  m_HasChildren : mg "HasChildren" = some (.ref C_HasChildren)
  C_InvalidStruck : Addr
  I_InvalidStruck : Addr
  X_InvalidStruck : GX.Errposition K C_InvalidStruck I_InvalidStruck bm_ValueError "ValueError.__new__"
  m_InvalidStruck : mg "InvalidStruck" = some (.ref C_InvalidStruck)
  C_StandError : Addr
  m_StandError : mg "StandError" = some (.ref C_StandError)
  C_WayError : Addr
  m_WayError : mg "WayError" = some (.ref C_WayError)
  ec_IsTop : GX.ErrC K C_IsTop
  ib_IsTop : PySem.W.kitOne K (.ref C_IsTop) (.ref C_StandError) = some true
  ec_Struck : GX.ErrC K C_Struck
  ib_Struck : PySem.W.kitOne K (.ref C_Struck) (.ref C_StandError) = some true
  ec_HasChildren : GX.ErrC K C_HasChildren
  ib_HasChildren : PySem.W.kitOne K (.ref C_HasChildren) (.ref C_StandError) = some true
  ec_InvalidStruck : GX.ErrC K C_InvalidStruck
  ib_InvalidStruck : PySem.W.kitOne K (.ref C_InvalidStruck) (.ref C_WayError) = some true
  c_Llist_right : Addr
  p_Llist_right : Addr
  FT_Llist_right : GL.FunT K "_law_list_right" "_law_list_right" s_Llist_right f_Llist_right fd_Llist_right c_Llist_right
  c_Lright : Addr
  p_Lright : Addr
  FT_Lright : GL.FunT K "_law_right" "_law_right" s_Lright f_Lright fd_Lright c_Lright
  pne : p_Llist_right ≠ p_Lright
  t_list : PySem.W.kitAny K (.ref C) [.type "list", .type "tuple"] = some false
  t_Tree : PySem.W.kitOne K (.ref C) (.ref C) = some true
  q_IsTop_IsTop : PySem.W.exmOne K (.ref C_IsTop) (.ref C_IsTop) = some true
  q_Struck_IsTop : PySem.W.exmOne K (.ref C_Struck) (.ref C_IsTop) = some false
  q_Struck_Struck : PySem.W.exmOne K (.ref C_Struck) (.ref C_Struck) = some true
  q_HasChildren_IsTop : PySem.W.exmOne K (.ref C_HasChildren) (.ref C_IsTop) = some false
  q_HasChildren_Struck : PySem.W.exmOne K (.ref C_HasChildren) (.ref C_Struck) = some false
  q_HasChildren_HasChildren : PySem.W.exmOne K (.ref C_HasChildren) (.ref C_HasChildren) = some true
  q_InvalidStruck_IsTop : PySem.W.exmOne K (.ref C_InvalidStruck) (.ref C_IsTop) = some false
  q_InvalidStruck_Struck : PySem.W.exmOne K (.ref C_InvalidStruck) (.ref C_Struck) = some false
  q_InvalidStruck_HasChildren : PySem.W.exmOne K (.ref C_InvalidStruck) (.ref C_HasChildren) = some false
  q_InvalidStruck_InvalidStruck : PySem.W.exmOne K (.ref C_InvalidStruck) (.ref C_InvalidStruck) = some true
  z_abs : mg "abs" = none
  z_all : mg "all" = none
  z_any : mg "any" = none
  z_bool : mg "bool" = none
  z_divmod : mg "divmod" = none
  z_enumerate : mg "enumerate" = none
  z_int : mg "int" = none
  z_isinstance : mg "isinstance" = none
  z_len : mg "len" = none
  z_list : mg "list" = none
  z_max : mg "max" = none
  z_min : mg "min" = none
  z_range : mg "range" = none
  z_repr : mg "repr" = none
  z_set : mg "set" = none
  z_sorted : mg "sorted" = none
  z_tuple : mg "tuple" = none
  t_MOST_GROUPS : Tok
  m_MOST_GROUPS : mg "MOST_GROUPS" = some (.int 200 t_MOST_GROUPS)
abbrev q_Llist_right : Str := (("_law_list_right" : Str) ++ Str.ofString ".<locals>.") ++ "<lambda>"
abbrev q_Lright : Str := (("_law_right" : Str) ++ Str.ofString ".<locals>.") ++ "<lambda>"
section
variable {K : PySem.W.Frag} {mg : Str → Option Value}
def Txt.tabs (T : Txt K mg) : List (Addr × Str) := [(T.p_Llist_right, q_Llist_right), (T.p_Lright, q_Lright)]
theorem Txt.tab_Llist_right (T : Txt K mg) : (T.p_Llist_right, q_Llist_right) ∈ T.tabs := List.mem_cons_self
theorem Txt.tab_Lright (T : Txt K mg) : (T.p_Lright, q_Lright) ∈ T.tabs := List.mem_cons_of_mem _ List.mem_cons_self
theorem Txt.one_Llist_right (T : Txt K mg) : ∀ p ∈ T.tabs, p.1 = T.p_Llist_right → p.2 = q_Llist_right := by
  intro p hp e
  rcases List.mem_cons.mp hp with rfl | hp
  · rfl
  · cases List.mem_singleton.mp hp
    exact absurd e.symm T.pne
theorem Txt.one_Lright (T : Txt K mg) : ∀ p ∈ T.tabs, p.1 = T.p_Lright → p.2 = q_Lright := by
  intro p hp e
  rcases List.mem_cons.mp hp with rfl | hp
  · exact absurd e T.pne
  · cases List.mem_singleton.mp hp
    rfl
end
end My
/-! parents, ways, zones -/
namespace My
/-- the parents of the groups 1, 2, .. : each one ahead of its child -/
def Good (ps : List Nat) : Prop := ∀ i, i < ps.length → ps.getD i 0 ≤ i
def up (ps : List Nat) (g : Nat) : Nat := ps.getD (g - 1) 0
def pathF (ps : List Nat) : Nat → Nat → List Nat
  | 0, g => [g]
  | f + 1, g => if g = 0 then [0] else g :: pathF ps f (up ps g)
def path (ps : List Nat) (g : Nat) : List Nat := pathF ps g g
theorem up_lt {ps : List Nat} (h : Good ps) {g : Nat} (h0 : 0 < g) (h1 : g ≤ ps.length) : up ps g < g := by
  have q := h (g - 1) (by omega)
  unfold up
  omega
theorem pathF_eq {ps : List Nat} (h : Good ps) : ∀ (f f' g : Nat), g ≤ f → g ≤ f' → g ≤ ps.length → pathF ps f g = pathF ps f' g
  | 0, 0, g, _, _, _ => rfl
  | 0, f' + 1, g, h1, _, _ => by
    have e : g = 0 := by omega
    subst e
    rfl
  | f + 1, 0, g, _, h2, _ => by
    have e : g = 0 := by omega
    subst e
    rfl
  | f + 1, f' + 1, g, h1, h2, h3 => by
    unfold pathF
    by_cases e : g = 0
    · rw [if_pos e, if_pos e]
    · have u := up_lt h (by omega) h3
      rw [if_neg e, if_neg e, pathF_eq h f f' (up ps g) (by omega) (by omega) (by omega)]
theorem path_zero (ps : List Nat) : path ps 0 = [0] := rfl
theorem path_step {ps : List Nat} (h : Good ps) {g : Nat} (h0 : 0 < g) (h1 : g ≤ ps.length) : path ps g = g :: path ps (up ps g) := by
  have u := up_lt h h0 h1
  obtain ⟨f, rfl⟩ : ∃ f, g = f + 1 := ⟨g - 1, by omega⟩
  show (if f + 1 = 0 then [0] else (f + 1) :: pathF ps f (up ps (f + 1))) = _
  rw [if_neg (by omega), pathF_eq h f (up ps (f + 1)) (up ps (f + 1)) (by omega) (Nat.le_refl _) (by omega)]
  rfl
theorem path_mem {ps : List Nat} (h : Good ps) : ∀ (n g : Nat), g ≤ n → g ≤ ps.length → ∀ x ∈ path ps g, x ≤ g := by
  intro n
  induction n with
  | zero =>
    intro g h1 _ x hx
    have e : g = 0 := by omega
    subst e
    have q : x = 0 := List.mem_singleton.mp hx
    omega
  | succ n ih =>
    intro g h1 h2 x hx
    by_cases e : g = 0
    · subst e
      have q : x = 0 := List.mem_singleton.mp hx
      omega
    · have u := up_lt h (by omega) h2
      rw [path_step h (by omega) h2] at hx
      rcases List.mem_cons.mp hx with r | r
      · omega
      · have := ih (up ps g) (by omega) (by omega) x r
        omega
theorem path_le {ps : List Nat} (h : Good ps) {g : Nat} (h2 : g ≤ ps.length) {x : Nat} (hx : x ∈ path ps g) : x ≤ g := path_mem h g g (Nat.le_refl _) h2 x hx
theorem path_self {ps : List Nat} (h : Good ps) {g : Nat} (h2 : g ≤ ps.length) : g ∈ path ps g := by
  by_cases e : g = 0
  · subst e
    exact List.mem_singleton.mpr rfl
  · rw [path_step h (by omega) h2]
    exact List.mem_cons_self
theorem path_nodup {ps : List Nat} (h : Good ps) : ∀ (n g : Nat), g ≤ n → g ≤ ps.length → (path ps g).Nodup := by
  intro n
  induction n with
  | zero =>
    intro g h1 _
    have e : g = 0 := by omega
    subst e
    exact List.nodup_cons.mpr ⟨List.not_mem_nil, List.nodup_nil⟩
  | succ n ih =>
    intro g h1 h2
    by_cases e : g = 0
    · subst e
      exact List.nodup_cons.mpr ⟨List.not_mem_nil, List.nodup_nil⟩
    · have u := up_lt h (by omega) h2
      rw [path_step h (by omega) h2]
      refine List.nodup_cons.mpr ⟨fun z => ?_, ih _ (by omega) (by omega)⟩
      have := path_le h (by omega) z
      omega
theorem path_len {ps : List Nat} (h : Good ps) : ∀ (n g : Nat), g ≤ n → g ≤ ps.length → (path ps g).length ≤ g + 1 := by
  intro n
  induction n with
  | zero =>
    intro g h1 _
    have e : g = 0 := by omega
    subst e
    exact Nat.le_refl _
  | succ n ih =>
    intro g h1 h2
    by_cases e : g = 0
    · subst e
      exact Nat.le_refl _
    · have u := up_lt h (by omega) h2
      have q := ih (up ps g) (by omega) (by omega)
      rw [path_step h (by omega) h2, List.length_cons]
      omega
theorem path_len_le {ps : List Nat} (h : Good ps) {g : Nat} (h2 : g ≤ ps.length) : (path ps g).length ≤ g + 1 := path_len h g g (Nat.le_refl _) h2
theorem path_pos {ps : List Nat} (h : Good ps) {g : Nat} (h2 : g ≤ ps.length) : 1 ≤ (path ps g).length := List.length_pos_of_mem (path_self h h2)
/-- 2 here, 1 below, 3 out -/
def zone (ps : List Nat) (g s : Nat) : Nat := if g = s then 2 else if s ∈ path ps g then 1 else 3
theorem zone_mem {ps : List Nat} (h : Good ps) {g s : Nat} (h2 : g ≤ ps.length) : (s ∈ path ps g) ↔ zone ps g s < 3 := by
  unfold zone
  by_cases e : g = s
  · subst e
    rw [if_pos rfl]
    exact ⟨fun _ => by decide, fun _ => path_self h h2⟩
  · rw [if_neg e]
    by_cases m : s ∈ path ps g
    · rw [if_pos m]
      exact ⟨fun _ => by decide, fun _ => m⟩
    · rw [if_neg m]
      exact ⟨fun z => absurd z m, fun z => absurd z (by decide)⟩
theorem zone_cases (ps : List Nat) (g s : Nat) : zone ps g s = 1 ∨ zone ps g s = 2 ∨ zone ps g s = 3 := by
  unfold zone
  split
  · exact .inr (.inl rfl)
  · split
    · exact .inl rfl
    · exact .inr (.inr rfl)
theorem zone_one {ps : List Nat} {g s : Nat} : zone ps g s = 1 ↔ (s ∈ path ps g ∧ g ≠ s) := by
  unfold zone
  by_cases e : g = s
  · rw [if_pos e]
    exact ⟨fun z => absurd z (by decide), fun z => absurd e z.2⟩
  · rw [if_neg e]
    by_cases m : s ∈ path ps g
    · rw [if_pos m]
      exact ⟨fun _ => ⟨m, e⟩, fun _ => rfl⟩
    · rw [if_neg m]
      exact ⟨fun z => absurd z (by decide), fun z => absurd z.1 m⟩
theorem Good.snoc {ps : List Nat} (h : Good ps) {g : Nat} (hg : g ≤ ps.length) : Good (ps ++ [g]) := by
  intro i hi
  rw [List.length_append, List.length_singleton] at hi
  rw [List.getD_eq_getElem?_getD]
  by_cases e : i < ps.length
  · rw [List.getElem?_append_left e, ← List.getD_eq_getElem?_getD]
    exact h i e
  · have e2 : i = ps.length := by omega
    subst e2
    rw [List.getElem?_append_right (Nat.le_refl _), Nat.sub_self]
    exact hg
theorem Good.nil : Good [] := fun i h => absurd h (Nat.not_lt_zero i)
theorem Good.range (n : Nat) : Good (List.range n) := by
  intro i hi
  rw [List.length_range] at hi
  rw [List.getD_eq_getElem?_getD, List.getElem?_range hi]
  exact Nat.le_refl _
/-- how many of the groups below n lie on the way of g, g apart: the way but its first -/
theorem count_below {ps : List Nat} (h : Good ps) {g : Nat} (h2 : g ≤ ps.length) : ((List.range (ps.length + 1)).filter fun s => decide (zone ps g s = 1)).length = (path ps g).length - 1 := by
  have nd1 : ((List.range (ps.length + 1)).filter fun s => decide (zone ps g s = 1)).Nodup := List.Sublist.nodup List.filter_sublist List.nodup_range
  have nd2 : ((path ps g).erase g).Nodup := (path_nodup h g g (Nat.le_refl _) h2).erase g
  have pm : ((List.range (ps.length + 1)).filter fun s => decide (zone ps g s = 1)).Perm ((path ps g).erase g) := by
    rw [List.perm_ext_iff_of_nodup nd1 nd2]
    intro x
    rw [List.mem_filter, List.mem_range, decide_eq_true_iff, zone_one, (path_nodup h g g (Nat.le_refl _) h2).mem_erase_iff]
    constructor
    · rintro ⟨_, a, b⟩
      exact ⟨fun z => b z.symm, a⟩
    · rintro ⟨a, b⟩
      have := path_le h h2 b
      exact ⟨by omega, b, fun z => a z.symm⟩
  rw [pm.length_eq, List.length_erase_of_mem (path_self h h2)]
end My
namespace My
open PySem PySem.Spec PyProof.Rows L2 GL Evl StX SkE

section
variable {K : PySem.W.Frag} {σ : L2.St} {H : Hp} {te : TE} {x y v : V} {r : R2}
theorem rc_isi {u t : Value} {b : Bool} {c : V} (k : ClsV c u) (ty : ∀ H1, TyX K H1 x t) (h : PySem.W.kitOne K t u = some b) : RC (rIsi K) [x, c] H (.bl b) := fun H1 e Q q => ⟨x, c, t, u, b, rfl, k, ty H1, h, q H1 (Ex.refl H1)⟩
theorem et_is' {b : Bool} (h : Ev te σ H (.bl b)) : Ev te σ H (.bl b) := h
theorem rv_bl {a b : Bool} (h : RV r x y H (.bl a)) (e : a = b) : RV r x y H (.bl b) := by
  rw [← e]
  exact h
end

/-! ### helpers -/
abbrev nV (n : Nat) : V := .int (n : Int)
def upsV (ps : List Nat) : List V := V.non :: ps.map nV
theorem upsV_len (ps : List Nat) : (upsV ps).length = ps.length + 1 := by
  unfold upsV
  rw [List.length_cons, List.length_map]
theorem nV_eq (a b : Nat) : decide (nV a = nV b) = decide (a = b) := by
  by_cases e : a = b
  · subst e
    rw [decide_eq_true rfl, decide_eq_true rfl]
  · have z : ¬ nV a = nV b := fun q => e (by have := V.int.inj q; omega)
    rw [decide_eq_false z, decide_eq_false e]
theorem inV_nat (a : Nat) : ∀ l : List Nat, inV (nV a) (l.map nV) = decide (a ∈ l)
  | [] => rfl
  | b :: l => by
    have ih := inV_nat a l
    show (((b : Int) == (a : Int)) || inV (nV a) (l.map nV)) = decide (a ∈ b :: l)
    rw [ih]
    by_cases e : a = b
    · subst e
      simp
    · have z : ((b : Int) == (a : Int)) = false := beq_eq_false_iff_ne.mpr (by omega)
      rw [z, Bool.false_or]
      by_cases m : a ∈ l
      · rw [decide_eq_true m, decide_eq_true (List.mem_cons_of_mem _ m)]
      · rw [decide_eq_false m, decide_eq_false (fun q => (List.mem_cons.mp q).elim e m)]
theorem flat_nat (l : List Nat) : (l.map nV).all flatV = true := by
  rw [List.all_eq_true]
  intro x hx
  obtain ⟨n, _, rfl⟩ := List.mem_map.mp hx
  rfl
theorem at_nat {l : List Nat} {i : Nat} (h : i < l.length) : (l.map nV)[i]? = some (nV (l.getD i 0)) := by
  rw [List.getElem?_map, List.getElem?_eq_getElem h, List.getD_eq_getElem?_getD, List.getElem?_eq_getElem h]
  rfl
theorem ups_at {ps : List Nat} {g : Nat} (h0 : 0 < g) (h : g ≤ ps.length) : (upsV ps)[g]? = some (nV (up ps g)) := by
  obtain ⟨f, rfl⟩ : ∃ f, g = f + 1 := ⟨g - 1, by omega⟩
  unfold upsV up
  rw [List.getElem?_cons_succ, at_nat (by omega), Nat.add_sub_cancel]
section
variable {K : PySem.W.Frag} {σ : L2.St} {H H' : Hp} {ta tb te : TE} {t u : TT} {x y z v : V} {C : Addr}
theorem ev_fld {p dx : Addr} {fs : List (Str × V)} {f : Str} (ha : Ev ta σ H (.ref p)) (h : H p = some (.ins C dx fs)) (c : Cls K C) (n : NoAttr K C f) (l : fs.lookup f = some v) : Ev (tFld K ta f) σ H v :=
  fun H1 e Q q => ha H1 e _ fun H2 e2 => ⟨p, C, dx, fs, v, rfl, e2 _ _ (e _ _ h), c, n, l, q H2 e2⟩
theorem ev_meth {m : Str} {sp : Sp} {dvs vs : List V} {Er : XK} {tb : TA} {p dx : Addr} {fs : List (Str × V)} (ha : Ev ta σ H (.ref p)) (h : H p = some (.ins C dx fs)) (l : fs.lookup m = none) (hb : EvA tb σ H vs) (hs : SpV sp (.ref p :: (vs ++ dvs)) H z) : Ev (tMeth C m sp dvs Er ta tb) σ H z :=
  fun H1 e Q q => ha H1 e _ fun H2 e2 => ⟨p, dx, fs, rfl, e2 _ _ (e _ _ h), l, hb H2 (e.trans e2) _ fun H3 e3 => hs H3 ((e.trans e2).trans e3) Q (fun H4 e4 => q H4 ((e2.trans e3).trans e4)) Er⟩
theorem el_meth {m : Str} {sp : Sp} {dvs vs xs : List V} {Er : XK} {tb : TA} {p dx : Addr} {fs : List (Str × V)} (ha : Ev ta σ H (.ref p)) (h : H p = some (.ins C dx fs)) (l : fs.lookup m = none) (hb : EvA tb σ H vs) (hs : SpL sp (.ref p :: (vs ++ dvs)) H xs) : EvL (tMeth C m sp dvs Er ta tb) σ H xs :=
  fun H1 e Q q => ha H1 e _ fun H2 e2 => ⟨p, dx, fs, rfl, e2 _ _ (e _ _ h), l, hb H2 (e.trans e2) _ fun H3 e3 => hs H3 ((e.trans e2).trans e3) Q (fun r H4 hr e4 h4 => q r H4 (fresh_back (e2.trans e3) hr) ((e2.trans e3).trans e4) h4) Er⟩
theorem ev_methK {m : Str} {sp : Sp} {gV : List V → List V → List V} {zs : List V} {Er : XK} {tb : TA} {p dx : Addr} {fs : List (Str × V)} (ha : Ev ta σ H (.ref p)) (h : H p = some (.ins C dx fs)) (l : fs.lookup m = none) (hb : EvA tb σ H zs) (hs : SpV sp (gV [.ref p] zs) H z) : Ev (tMethK C m sp gV Er ta tb) σ H z :=
  fun H1 e Q q => ha H1 e _ fun H2 e2 => ⟨p, dx, fs, rfl, e2 _ _ (e _ _ h), l, hb H2 (e.trans e2) _ fun H3 e3 => hs H3 ((e.trans e2).trans e3) Q (fun H4 e4 => q H4 ((e2.trans e3).trans e4)) Er⟩
theorem el_methK {m : Str} {sp : Sp} {gV : List V → List V → List V} {zs xs : List V} {Er : XK} {tb : TA} {p dx : Addr} {fs : List (Str × V)} (ha : Ev ta σ H (.ref p)) (h : H p = some (.ins C dx fs)) (l : fs.lookup m = none) (hb : EvA tb σ H zs) (hs : SpL sp (gV [.ref p] zs) H xs) : EvL (tMethK C m sp gV Er ta tb) σ H xs :=
  fun H1 e Q q => ha H1 e _ fun H2 e2 => ⟨p, dx, fs, rfl, e2 _ _ (e _ _ h), l, hb H2 (e.trans e2) _ fun H3 e3 => hs H3 ((e.trans e2).trans e3) Q (fun r H4 hr e4 h4 => q r H4 (fresh_back (e2.trans e3) hr) ((e2.trans e3).trans e4) h4) Er⟩
theorem et_lenOwn {r : List V → Hp → VK → Prop} {vs : List V} {a : TA} (h : EvA a σ H vs) (hr : RC r vs H z) : Ev (tCB r a) σ H z := ev_cb h hr
theorem ev_chain {r r' : R2} {tc : TE} {w : V} {b c : Bool} (ha : Ev ta σ H x) (hb : Ev tb σ H y) (hr : RV r x y H (.bl b)) (hc : b = true → Ev tc σ H w) (hr' : b = true → RV r' y w H (.bl c)) : Ev (tChain r r' ta tb tc) σ H (.bl (b && c)) := fun H1 e Q q =>
  ha H1 e _ fun H2 e2 => hb H2 (e.trans e2) _ fun H3 e3 => hr H3 ((e.trans e2).trans e3) _ fun H4 e4 => ⟨b, rfl, by
    have f4 := (e2.trans e3).trans e4
    cases b with
    | false => exact q H4 f4
    | true => exact hc rfl H4 (e.trans f4) _ fun H5 e5 => hr' rfl H5 ((e.trans f4).trans e5) Q fun H6 e6 => q H6 ((f4.trans e5).trans e6)⟩
end
/-! ### a tree -/
def tf (la ls : Addr) : List (Str × V) := putF "_struck" (.ref ls) (putF "_above" (.ref la) [])
theorem tf_above (la ls : Addr) : (tf la ls).lookup ("_above" : Str) = some (.ref la) := by
  unfold tf
  rw [lookup_putF, if_neg (by decide +kernel), lookup_putF, if_pos rfl]
theorem tf_struck (la ls : Addr) : (tf la ls).lookup ("_struck" : Str) = some (.ref ls) := by
  unfold tf
  rw [lookup_putF, if_pos rfl]
theorem tf_no (la ls : Addr) {m : Str} (h1 : ¬ m = "_struck") (h2 : ¬ m = "_above") : (tf la ls).lookup m = none := by
  unfold tf
  rw [lookup_putF, if_neg h1, lookup_putF, if_neg h2]
  rfl
/-- at t a tree with these parents and struck groups -/
structure TreeP (C : Addr) (H : Hp) (t dx la ls : Addr) (ps st : List Nat) : Prop where
  ob : H t = some (.ins C dx (tf la ls))
  ab : H la = some (.lst (upsV ps))
  sk : H ls = some (.lst (st.map nV))
def TreeAt (C : Addr) (H : Hp) (t : Addr) (ps st : List Nat) : Prop := ∃ dx la ls, TreeP C H t dx la ls ps st
theorem TreeP.ex {C : Addr} {H H' : Hp} {t dx la ls : Addr} {ps st : List Nat} (h : TreeP C H t dx la ls ps st) (e : Ex H H') : TreeP C H' t dx la ls ps st := ⟨e _ _ h.ob, e _ _ h.ab, e _ _ h.sk⟩
theorem TreeAt.ex {C : Addr} {H H' : Hp} {t : Addr} {ps st : List Nat} (h : TreeAt C H t ps st) (e : Ex H H') : TreeAt C H' t ps st := by
  obtain ⟨dx, la, ls, p⟩ := h
  exact ⟨dx, la, ls, p.ex e⟩
/-- the same, all of it made behind H0 -/
def TreeNew (C : Addr) (H0 H : Hp) (t : Addr) (ps st : List Nat) : Prop := ∃ dx la ls, TreeP C H t dx la ls ps st ∧ H0 t = none ∧ H0 la = none ∧ H0 ls = none
theorem TreeNew.now {C : Addr} {H0 H : Hp} {t : Addr} {ps st : List Nat} (h : TreeNew C H0 H t ps st) : TreeAt C H t ps st := by
  obtain ⟨dx, la, ls, p, _⟩ := h
  exact ⟨dx, la, ls, p⟩
theorem TreeNew.ex {C : Addr} {H0 H H' : Hp} {t : Addr} {ps st : List Nat} (h : TreeNew C H0 H t ps st) (e : Ex H H') : TreeNew C H0 H' t ps st := by
  obtain ⟨dx, la, ls, p, q⟩ := h
  exact ⟨dx, la, ls, p.ex e, q⟩
theorem TreeNew.back {C : Addr} {H0 H1 H : Hp} {t : Addr} {ps st : List Nat} (h : TreeNew C H1 H t ps st) (e : Ex H0 H1) : TreeNew C H0 H t ps st := by
  obtain ⟨dx, la, ls, p, q1, q2, q3⟩ := h
  exact ⟨dx, la, ls, p, fresh_back e q1, fresh_back e q2, fresh_back e q3⟩
/-! ### promises: the program -/
/-- a list, a tuple, a tuple of the text -/
inductive Seq (K : PySem.W.Frag) (H : Hp) (a : Addr) (xs : List V) : Prop where
  | lst (h : H a = some (.lst xs))
  | tup (h : H a = some (.tup xs))
  | kst (h : ∀ H, SqT K H a xs) (y : ∀ H, TyX K H (.ref a) (.type "tuple"))
theorem Seq.ex {K : PySem.W.Frag} {H H' : Hp} {a : Addr} {xs : List V} (h : Seq K H a xs) (e : Ex H H') : Seq K H' a xs := by
  cases h with
  | lst h => exact .lst (e _ _ h)
  | tup h => exact .tup (e _ _ h)
  | kst h y => exact .kst h y
theorem Seq.sq {K : PySem.W.Frag} {H : Hp} {a : Addr} {xs : List V} (h : Seq K H a xs) : SqL K H a xs ∨ SqT K H a xs := by
  cases h with
  | lst h => exact .inl (sq_of h)
  | tup h => exact .inr (st_of h)
  | kst h y => exact .inr (h H)
theorem Seq.ty {K : PySem.W.Frag} {H : Hp} {a : Addr} {xs : List V} (h : Seq K H a xs) : TyX K H (.ref a) (.type "list") ∨ TyX K H (.ref a) (.type "tuple") := by
  cases h with
  | lst h => exact .inl (.base (.lst h))
  | tup h => exact .inr (.base (.tup h))
  | kst h y => exact .inr (y H)
theorem pi_or {X : Cx} {tg it : Expr} {w1 w2 : TI} (h1 : PI X tg it w1) (h2 : PI X tg it w2) : PI X tg it (fun σ H R => w1 σ H R ∨ w2 σ H R) :=
  ⟨fun pins s σ H R I h => h.elim (h1.run pins s σ H R I) (h2.run pins s σ H R I)⟩
section
variable {K : PySem.W.Frag} {σ : L2.St} {H : Hp} {a : Addr} {xs : List V} {ta : TA} {D : Ends} {tb : TS}
/-- for i, x in enumerate(seq) -/
theorem s_forE {i j : Nat} {Hb : Hp} (h : EvA ta σ H [.ref a]) (hs : Seq K Hb a xs) (hb : Ex Hb H) (Pv : Nat → L2.St → Hp → Prop) (h0 : ∀ H1, Ex H H1 → Pv 0 σ H1) (hE : ∀ n σ' H', Pv n σ' H' → Ex Hb H')
    (step : ∀ n x σ' H' H2, xs[n]? = some x → Pv n σ' H' → Ex H' H2 → tb { D with nx := Pv (n + 1), ct := Pv (n + 1), bk := D.nx } ((σ'.set i (some (.int (n : Nat)))).set j (some x)) H2) (hd : ∀ σ' H', Pv xs.length σ' H' → D.nx σ' H') :
    tFor (fun σ H R => iEnum K ta σ H R ∨ iEnT K ta σ H R) (gTup K 2 (gCons (gName i) (gCons (gName j) gNil))) tb D σ H := by
  have turn : ∀ n v σ' H' H2, Pv n σ' H' → YPair (fun i => some (.int (i : Nat))) (fun i => xs[i]?) n H' v H2 → gTup K 2 (gCons (gName i) (gCons (gName j) gNil)) v σ' H2 fun σ2 H2 => tb { D with nx := Pv (n + 1), ct := Pv (n + 1), bk := D.nx } σ2 H2 := by
    rintro n v σ' H' H2 p ⟨T, x, z, rfl, nT, rfl, e1, e2⟩
    cases e1
    exact ⟨T, _, rfl, st_of upd_same, rfl, _, _, rfl, _, _, rfl, rfl, step n z σ' H' _ e2 p (Ex.new nT)⟩
  have tupled : (∀ H', Ex Hb H' → SqT K H' a xs) → tFor (fun σ H R => iEnum K ta σ H R ∨ iEnT K ta σ H R) (gTup K 2 (gCons (gName i) (gCons (gName j) gNil))) tb D σ H := fun st =>
    .inr (h H (Ex.refl H) _ fun H1 e => ⟨a, xs, rfl, st H1 (hb.trans e), for_it (walk_enumE) Pv (h0 H1 e) (fun n σ' H' _ p => st H' (hE n σ' H' p)) (fun n v σ' H' H2 _ p y => turn n v σ' H' H2 p (by simpa using y)) hd⟩)
  cases hs with
  | lst hl => exact .inl (h H (Ex.refl H) _ fun H1 e => ⟨a, xs, rfl, sq_of (e _ _ (hb _ _ hl)), for_it walk_enum Pv (h0 H1 e) (fun n σ' H' _ p => sq_of (hE n σ' H' p _ _ hl)) (fun n v σ' H' H2 _ p y => turn n v σ' H' H2 p y) hd⟩)
  | tup hl => exact tupled fun H' e => st_of (e _ _ hl)
  | kst hl _ => exact tupled fun H' _ => hl H'
end
def sp_is_an_integer : Sp := fun vs H Q _ => ∃ i : Int, vs = [.int i] ∧ RetV (.bl true) H Q
def sp_is_list (K : PySem.W.Frag) : Sp := fun vs H Q _ => ∃ a xs, vs = [.ref a] ∧ Seq K H a xs ∧ RetV (.bl true) H Q
def sp_Tlen (C : Addr) : Sp := fun vs H Q _ => ∃ t ps st, vs = [.ref t] ∧ TreeAt C H t ps st ∧ ps.length ≤ 199 ∧ RetV (nV (ps.length + 1)) H Q
def sp_check_group (C : Addr) : Sp := fun vs H Q _ => ∃ t ps st, ∃ g : Nat, vs = [.ref t, nV g] ∧ TreeAt C H t ps st ∧ ps.length ≤ 199 ∧ g ≤ ps.length ∧ RetV .non H Q
section
variable {P : Program} {w : World} {K : PySem.W.Frag} {mg : Str → Option Value} {base : Heap}
theorem ok_is_an_integer (T : Txt K mg) : FnG P w K mg base CX0 1 T.f_is_an_integer T.fd_is_an_integer ["value"] sp_is_an_integer := by
  refine okG T.F_is_an_integer sc_is_an_integer (fun vs H Q E h => ?_) (fun cdv A outer s H vs Q E gd hr h => ?_)
  · obtain ⟨i, rfl, _⟩ := h
    rfl
  · obtain ⟨i, rfl, q⟩ := h
    refine ⟨_, (pss_one (ps_ret (pe_and (pe_callB call_isi (by rfl) T.z_isinstance boot_isinstance (pa_cons (pv 0) (pa_cons (pe_bltn (v := .ty "int") (u := .type "int") (by rfl) T.z_int (by decide +kernel) rfl) pa_nil))) (pe_one (pe_not (pe_callB call_isi (by rfl) T.z_isinstance boot_isinstance (pa_cons (pv 0) (pa_cons (pe_bltn (v := .ty "bool") (u := .type "bool") (by rfl) T.z_bool (by decide +kernel) rfl) pa_nil)))))))), ?_⟩
    refine s_ret (v := .bl true) (ev_andV (a := true) (b := true) (ev_cb (ea_cons (ev_var rfl) (ea_cons ev_c ea_nil)) (rc_isi (.ty "int") (fun _ => .base (.int i)) (kit_ty (by decide +kernel)))) fun _ => ?_) q
    exact ev_notV (a := false) (ev_cb (ea_cons (ev_var rfl) (ea_cons ev_c ea_nil)) (rc_isi (.ty "bool") (fun _ => .base (.int i)) (kit_ty (by decide +kernel))))
theorem ok_is_list (T : Txt K mg) : FnG P w K mg base CX0 1 T.f_is_list T.fd_is_list ["value"] (sp_is_list K) := by
  refine okG T.F_is_list sc_is_list (fun vs H Q E h => ?_) (fun cdv A outer s H vs Q E gd hr h => ?_)
  · obtain ⟨a, xs, rfl, _⟩ := h
    rfl
  · obtain ⟨a, xs, rfl, hs, q⟩ := h
    refine ⟨_, (pss_one (ps_ret (pe_callB call_isiT (by rfl) T.z_isinstance boot_isinstance (pa_cons (pv 0) (pa_cons (pe_tup (pa_cons (pe_bltn (v := .ty "list") (u := .type "list") (by rfl) T.z_list (by decide +kernel) rfl) (pa_cons (pe_bltn (v := .ty "tuple") (u := .type "tuple") (by rfl) T.z_tuple (by decide +kernel) rfl) pa_nil))) pa_nil))))), ?_⟩
    refine ⟨_, rfl, (by show 2 ≤ sizeLine; decide), fun p hp => ?_⟩
    have e := Ex.new (o := .tup [.ty "list", .ty "tuple"]) hp
    rcases (hs.ex e).ty with ty | ty
    · exact ⟨.ref a, p, _, _, _, true, rfl, upd_same, .cons (.ty "list") (.cons (.ty "tuple") .nil), ty, kitAny_cons (b := true) (kit_ty (by decide +kernel)) (fun z => nomatch z) (fun _ => rfl), q _ e⟩
    · exact ⟨.ref a, p, _, _, _, true, rfl, upd_same, .cons (.ty "list") (.cons (.ty "tuple") .nil), ty, kitAny_cons (b := false) (kit_ty (by decide +kernel)) (fun _ => kitAny_cons (b := true) (kit_ty (by decide +kernel)) (fun z => nomatch z) (fun _ => rfl)) (fun z => nomatch z), q _ e⟩
theorem ok_Tlen (T : Txt K mg) : FnG P w K mg base CX0 1 T.f_Tlen T.fd_Tlen ["self"] (sp_Tlen T.C) := by
  refine okG T.F_Tlen sc_Tlen (fun vs H Q E h => ?_) (fun cdv A outer s H vs Q E gd hr h => ?_)
  · obtain ⟨t, ps, st, rfl, _⟩ := h
    rfl
  · obtain ⟨t, ps, st, rfl, ⟨dx, la, ls, p⟩, hl, q⟩ := h
    refine ⟨_, (pss_one (ps_ret (pe_callB call_len_seq (by rfl) T.z_len PySem.boot_len (pa_cons (pe_fld (pv 0) rfl) pa_nil)))), ?_⟩
    refine s_ret (ev_is (ev_len (ev_fld (ev_var rfl) p.ob T.c_Tree T.n_above (tf_above la ls)) (sq_of p.ab)) ?_) q
    rw [upsV_len]
/-- len(tree) by its own method -/
theorem rc_lenT {C : Addr} {H : Hp} {t : Addr} {ps st : List Nat} {E : XK} (h : TreeAt C H t ps st) (hl : ps.length ≤ 199) :
    RC (fun xs H Q => ∃ a dx fs, xs = [V.ref a] ∧ H a = some (.ins C dx fs) ∧ sp_Tlen C [V.ref a] H (fun v H' => ∃ n : Nat, v = V.int (n : Int) ∧ n < 1000000 ∧ Q (V.int (n : Int)) H') E) [V.ref t] H (nV (ps.length + 1)) := by
  intro H1 e Q q
  obtain ⟨dx, la, ls, p⟩ := h.ex e
  exact ⟨t, dx, _, rfl, p.ob, t, ps, st, rfl, ⟨dx, la, ls, p⟩, hl, fun H2 e2 => ⟨ps.length + 1, rfl, by omega, q H2 e2⟩⟩
theorem ok_check_group (T : Txt K mg) (G_is_an_integer : FnG P w K mg base CX0 1 T.f_is_an_integer T.fd_is_an_integer ["value"] sp_is_an_integer) (G_Tlen : FnG P w K mg base CX0 1 T.f_Tlen T.fd_Tlen ["self"] (sp_Tlen T.C)) : FnG P w K mg base CX0 3 T.f_check_group T.fd_check_group ["tree", "value"] (sp_check_group T.C) := by
  refine okG T.F_check_group sc_check_group (fun vs H Q E h => ?_) (fun cdv A outer s H vs Q E gd hr h => ?_)
  · obtain ⟨t, ps, st, g, rfl, _⟩ := h
    rfl
  · obtain ⟨t, ps, st, g, rfl, ht, hl, hg, q⟩ := h
    refine ⟨_, (pss_one (ps_if ((pw_or (pt_not (pt_val (pc gd G_is_an_integer (hr.mono (by decide)) (by rfl) T.m_is_an_integer T.F_is_an_integer.kp T.b_is_an_integer .nil pass0 (pa_cons (pv 1) pa_nil)))) (pw_or1 (pt_not (pt_chain op_le op_lt pe_int (pv 1) (pe_callB (call_lenG gd G_Tlen (hr.mono (by decide)) T.b_Tlen T.M_Tlen.at_ T.M_Tlen.fn pass0) (by rfl) T.z_len PySem.boot_len (pa_cons (pv 0) pa_nil))))))).pt (pss_one ps_never) pss_nil)), ?_⟩
    refine s_when (b := false) (et_is (et_or (a := false) (b := false) (et_is (et_not (et_B (b := true) (ev_call (ea_cons (ev_var rfl) ea_nil) fun H1 e Q q E => ⟨g, rfl, q⟩))) rfl) fun _ => ?_) rfl) (fun z => nomatch z) fun _ H1 e1 => q H1 e1
    refine et_is (et_not (a := true) (et_test (et_is' (ev_chain (b := true) (c := true) ev_c (ev_var rfl) ?_ (fun _ => ev_cb (ea_cons (ev_var rfl) ea_nil) (rc_lenT ht hl)) ?_)))) rfl
    · exact rv_bl rv_I0 (decide_eq_true (by omega))
    · exact fun _ => rv_bl rv_I0 (decide_eq_true (by omega))
end
end My
namespace My
open PySem PySem.Spec PyProof.Rows L2 GL Evl StX SkE

section
variable {K : PySem.W.Frag} {σ : L2.St} {H : Hp} {a : Addr} {xs : List V} {ta : TA} {te tb : TE} {D : Ends} {tz : TS} {C : Addr}
theorem ea_star {tr : TA} {ys : List V} (h : Ev te σ H (.ref a)) (hs : Seq K H a xs) (hr : EvA tr σ H ys) : EvA (tStar K te tr) σ H (xs ++ ys) := fun H1 e Q q =>
  h H1 e _ fun H2 e2 => ⟨a, xs, rfl, (hs.ex (e.trans e2)).sq.symm, hr H2 (e.trans e2) _ fun H3 e3 => q H3 (e2.trans e3)⟩
theorem q_fldL {f : Str} {p dx : Addr} {fs : List (Str × V)} (h : EvL te σ H xs) (ho : Ev tb σ H (.ref p)) (hp : H p = some (.ins C dx fs)) (c : Cls K C) (n : NoAttr K C f) (hl : fs.length < 1000)
    (k : ∀ l H1, H l = none → Ex H H1 → H1 l = some (.lst xs) → tz D σ (upd H1 p (.ins C dx (putF f (.ref l) fs)))) : tSeq (sFld K tb te f) tz D σ H :=
  h H (Ex.refl H) _ fun l H1 hl0 e1 h1 => ho H1 e1 _ fun H2 e2 => ⟨p, C, dx, fs, rfl, e2 _ _ (e1 _ _ hp), c, n, hl, k l H2 hl0 (e1.trans e2) (e2 _ _ h1)⟩
theorem s_fldL {f : Str} {p dx : Addr} {fs : List (Str × V)} (h : EvL te σ H xs) (ho : Ev tb σ H (.ref p)) (hp : H p = some (.ins C dx fs)) (c : Cls K C) (n : NoAttr K C f) (hl : fs.length < 1000)
    (k : ∀ l H1, H l = none → Ex H H1 → H1 l = some (.lst xs) → D.nx σ (upd H1 p (.ins C dx (putF f (.ref l) fs)))) : sFld K tb te f D σ H :=
  h H (Ex.refl H) _ fun l H1 hl0 e1 h1 => ho H1 e1 _ fun H2 e2 => ⟨p, C, dx, fs, rfl, e2 _ _ (e1 _ _ hp), c, n, hl, k l H2 hl0 (e1.trans e2) (e2 _ _ h1)⟩
/-- [.. for i, x in enumerate(seq, start=k) if ..] -/
theorem el_lcEK {tk : TA} {i j : Nat} {vs : List Nat} {k : Int} {tt : TT} (f : Nat → Bool) (v : Nat → V) (h : EvA ta σ H [.ref a]) (hk : EvA tk σ H [.int k]) (hk0 : -1000 ≤ k ∧ k ≤ 1000) (hx : Seq K H a xs) (hz : xs.length ≤ 40000)
    (hw : ∀ x y, wipe (((wipe σ vs).set i (some x)).set j (some y)) vs = wipe σ vs)
    (ht : ∀ (n : Nat) (x : V) H1, Ex H H1 → xs[n]? = some x → EvT tt (((wipe σ vs).set i (some (.int (k + (n : Nat))))).set j (some x)) H1 (f n)) (he : ∀ (n : Nat) (x : V) H1, Ex H H1 → xs[n]? = some x → f n = true → Ev te (((wipe σ vs).set i (some (.int (k + (n : Nat))))).set j (some x)) H1 (v n)) :
    EvL (tLc (fun σ H R => iEnK K ta tk σ H R ∨ iEnKT K ta tk σ H R) (gTup K 2 (gCons (gName i) (gCons (gName j) gNil))) tt te vs) σ H (given xs.length f v) := fun H0 e Q q => by
  have turn : ∀ (SQ : Hp → Addr → List V → Prop) (H2 : Hp), Ex H H2 → ∀ (n : Nat) (w : V) (H' H3 : Hp) (Dl : Addr), n < xs.length → Cw H2 f v Dl n H' → YPair (fun i => some (.int (k + (i : Nat)))) (fun i => xs[i]?) n H' w H3 → gTup K 2 (gCons (gName i) (gCons (gName j) gNil)) w (wipe σ vs) H3 fun σ2 H4 => wipe σ2 vs = wipe σ vs ∧ tt σ2 H4 fun b H5 => if b = true then te σ2 H5 fun y H6 => ∃ acc, H6 Dl = some (.lst acc) ∧ acc.length < sizeLine ∧ Cw H2 f v Dl (n + 1) (upd H6 Dl (.lst (acc ++ [y]))) else Cw H2 f v Dl (n + 1) H5 := by
    rintro SQ H2 eH n w H' H3 Dl hn p ⟨T, y, z, rfl, nT, rfl, q1, q2⟩
    cases q1
    have p' : Cw H2 f v Dl n (upd H' T (.tup [.int (k + (n : Nat)), z])) := ⟨p.1, p.2.1.trans (Ex.new nT), Ex.new nT _ _ p.2.2⟩
    exact ⟨T, _, rfl, st_of upd_same, rfl, _, _, rfl, _, _, rfl, rfl, hw _ _, cw_turn p' (by omega) (ht n z H2 eH q2) (fun hf => he n z H2 eH q2 hf)⟩
  have tupled : (∀ H', Ex H H' → SqT K H' a xs) → tLc (fun σ H R => iEnK K ta tk σ H R ∨ iEnKT K ta tk σ H R) (gTup K 2 (gCons (gName i) (gCons (gName j) gNil))) tt te vs σ H0 Q := fun st => .inr (h H0 e _ fun H1 e1 => hk H1 (e.trans e1) _ fun H2 e2 => ⟨a, xs, k, rfl, rfl, by omega, by omega, st H2 ((e.trans e1).trans e2), fun Dl hD =>
    lc_it (walk_enumE (SQ := SqT K)) (Cw H2 f v Dl) ⟨hD, Ex.new hD, upd_same⟩ (fun n H' _ p => st H' (((e.trans e1).trans e2).trans p.2.1)) (fun n w H' H3 hn p y => turn (SqT K) H2 ((e.trans e1).trans e2) n w H' H3 Dl hn p y) (fun H' p => q Dl H' (fresh_back (e1.trans e2) p.1) ((e1.trans e2).trans p.2.1) p.2.2)⟩)
  cases hx with
  | lst hx => exact .inl (h H0 e _ fun H1 e1 => hk H1 (e.trans e1) _ fun H2 e2 => ⟨a, xs, k, rfl, rfl, by omega, by omega, sq_of (((e.trans e1).trans e2) _ _ hx), fun Dl hD =>
    lc_it (walk_enumE (SQ := SqL K)) (Cw H2 f v Dl) ⟨hD, Ex.new hD, upd_same⟩ (fun n H' _ p => sq_of (p.2.1 a _ (((e.trans e1).trans e2) _ _ hx))) (fun n w H' H3 hn p y => turn (SqL K) H2 ((e.trans e1).trans e2) n w H' H3 Dl hn p y) (fun H' p => q Dl H' (fresh_back (e1.trans e2) p.1) ((e1.trans e2).trans p.2.1) p.2.2)⟩)
  | tup hx => exact tupled fun H' e' => st_of (e' _ _ hx)
  | kst hx y => exact tupled fun H' _ => hx H'
end
theorem given_nat (n : Nat) (f : Nat → Bool) (v : Nat → Nat) : given n f (fun i => nV (v i)) = (((List.range n).filter f).map v).map nV := by
  unfold given
  rw [List.map_map]
  rfl
structure StOk (ps st : List Nat) : Prop where
  nd : st.Nodup
  bd : ∀ g ∈ st, 1 ≤ g ∧ g ≤ ps.length
  cl : ∀ c, 1 ≤ c → c ≤ ps.length → up ps c ∈ st → c ∈ st
theorem StOk.nil (ps : List Nat) : StOk ps [] := ⟨List.nodup_nil, fun _ h => absurd h List.not_mem_nil, fun _ _ _ h => absurd h List.not_mem_nil⟩
theorem StOk.len {ps st : List Nat} (h : StOk ps st) : st.length ≤ ps.length := by
  have q : ∀ (n : Nat) (l : List Nat), l.Nodup → (∀ x ∈ l, 1 ≤ x ∧ x ≤ n) → l.length ≤ n := by
    intro n
    induction n with
    | zero =>
      intro l _ hb
      cases l with
      | nil => exact Nat.le_refl _
      | cons x l =>
        have := hb x List.mem_cons_self
        omega
    | succ n ih =>
      intro l hn hb
      by_cases m : n + 1 ∈ l
      · have z := ih (l.erase (n + 1)) (hn.erase _) (fun x hx => by
          have h1 := (hn.mem_erase_iff).mp hx
          have := hb x h1.2
          exact ⟨this.1, by omega⟩)
        rw [List.length_erase_of_mem m] at z
        omega
      · have z := ih l hn (fun x hx => by
          have := hb x hx
          have : x ≠ n + 1 := fun e => m (e ▸ hx)
          exact ⟨by omega, by omega⟩)
        omega
  exact q _ _ h.nd h.bd
def sp_check_parents (K : PySem.W.Frag) : Sp := fun vs H Q _ => ∃ a ps, vs = [.ref a] ∧ Seq K H a (ps.map nV) ∧ Good ps ∧ ps.length ≤ 199 ∧ RetV .non H Q
def sp_check_struck (K : PySem.W.Frag) (w : World) : Sp := fun vs H Q _ => ∃ a b ps st, vs = [.ref a, .ref b] ∧ Seq K H a (ps.map nV) ∧ Seq K H b (st.map nV) ∧ ps.length ≤ 199 ∧ StOk ps st ∧ RetV .non H Q
section
variable {P : Program} {w : World} {K : PySem.W.Frag} {mg : Str → Option Value} {base : Heap}
theorem rv_sin {H : Hp} {p : Addr} {k : Int} {S : Int → Bool} {n : Nat} (h : H p = some (SetO w p S n)) : RV (rSIn w) (.int k) (.ref p) H (.bl (S k)) := fun H1 e Q q => ⟨k, p, S, n, rfl, rfl, e _ _ h, q H1 (Ex.refl H1)⟩
theorem rv_snin {H : Hp} {p : Addr} {k : Int} {S : Int → Bool} {n : Nat} (h : H p = some (SetO w p S n)) : RV (rSNotIn w) (.int k) (.ref p) H (.bl (!S k)) := fun H1 e Q q => ⟨k, p, S, n, rfl, rfl, e _ _ h, q H1 (Ex.refl H1)⟩
theorem sv_int {H : Hp} (i : Int) : SpV sp_is_an_integer [.int i] H (.bl true) := fun _ _ _ q _ => ⟨i, rfl, q⟩
theorem sv_list {H : Hp} {a : Addr} {xs : List V} (h : Seq K H a xs) : SpV (sp_is_list K) [.ref a] H (.bl true) := fun _ e _ q _ => ⟨a, xs, rfl, h.ex e, q⟩

theorem rc_len {H : Hp} {a : Addr} {xs : List V} (h : Seq K H a xs) : RC (rLenS K) [.ref a] H (.int (xs.length : Int)) := fun H1 e Q q => ⟨a, xs, rfl, (h.ex e).sq, q H1 (Ex.refl H1)⟩
theorem nat_len (ps : List Nat) : ((ps.map nV).length : Int) = (ps.length : Int) := by rw [List.length_map]
theorem rc_lenN {H : Hp} {a : Addr} {ps : List Nat} (h : Seq K H a (ps.map nV)) : RC (rLenS K) [.ref a] H (nV ps.length) := by
  have q := rc_len h
  rwa [List.length_map] at q
theorem nat_item {ps : List Nat} {n : Nat} {x : V} (h : (ps.map nV)[n]? = some x) : n < ps.length ∧ x = nV (ps.getD n 0) := by
  have hl : n < ps.length := by
    have q := (List.getElem?_eq_some_iff.mp h).1
    rwa [List.length_map] at q
  exact ⟨hl, Option.some.inj (h.symm.trans (at_nat hl))⟩
theorem ok_check_parents (T : Txt K mg) (G_is_list : FnG P w K mg base CX0 1 T.f_is_list T.fd_is_list ["value"] (sp_is_list K)) (G_is_an_integer : FnG P w K mg base CX0 1 T.f_is_an_integer T.fd_is_an_integer ["value"] sp_is_an_integer) : FnG P w K mg base CX0 2 T.f_check_parents T.fd_check_parents ["parents"] (sp_check_parents K) := by
  refine okG T.F_check_parents sc_check_parents (fun vs H Q E h => ?_) (fun cdv A outer s H vs Q E gd hr h => ?_)
  · obtain ⟨a, ps, rfl, _⟩ := h
    all_goals rfl
  · obtain ⟨a, ps, rfl, hs, hg, hl, q⟩ := h
    refine ⟨_, (pss_cons (ps_if (pt_not (pt_val (pc gd G_is_list (hr.mono (by decide)) (by rfl) T.m_is_list T.F_is_list.kp T.b_is_list .nil pass0 (pa_cons (pv 0) pa_nil)))) (pss_one ps_never) pss_nil) (pss_cons (ps_for PassesOwn.never rfl (pi_or (pi_enum (by rfl) T.z_enumerate (pa_cons (pv 0) pa_nil)) (pi_enumT (by rfl) T.z_enumerate (pa_cons (pv 0) pa_nil))) (pg_tup rfl (pgs_cons (pg_name (i := 1) sc_check_parents.nd rfl (Or.inl rfl) (Or.inr rfl)) (pgs_cons (pg_name (i := 2) sc_check_parents.nd rfl (Or.inl rfl) (Or.inr rfl)) pgs_nil))) (pss_one (ps_if ((pw_or (pt_not (pt_val (pc gd G_is_an_integer (hr.mono (by decide)) (by rfl) T.m_is_an_integer T.F_is_an_integer.kp T.b_is_an_integer .nil pass0 (pa_cons (pv 2) pa_nil)))) (pw_or1 (pt_not (pt_chain op_le op_le pe_int (pv 2) (pv 1)))))).pt (pss_one ps_never) pss_nil))) (pss_one (ps_if (pt_cmpR op_gt (pe_op op_add (pe_callB call_len_seq (by rfl) T.z_len PySem.boot_len (pa_cons (pv 0) pa_nil)) pe_int) (pe_glob (v := .int 200) (by rfl) T.m_MOST_GROUPS ⟨_, rfl⟩) (nomark _)) (pss_one ps_never) pss_nil)))), ?_⟩
    refine q_when (b := false) (et_is (et_not (et_B (b := true) (ev_call (ea_cons (ev_var rfl) ea_nil) (sv_list hs)))) rfl) (fun z => nomatch z) fun _ H1 e1 => ?_
    have hs1 := hs.ex e1
    refine s_forE (D := { nx := _, rt := _ }) (ea_cons (ev_var rfl) ea_nil) hs1 (Ex.refl H1) (fun n σ' H' => Ex H1 H' ∧ ∃ y1 y2, σ' = [some (.ref a), y1, y2]) (fun H2 e2 => ⟨e2, _, _, rfl⟩) (fun n σ' H' p => p.1) (fun n x σ' H' H2 hx p e2 => ?_) (fun σ' H' p => ?_)
    · obtain ⟨e', y1, y2, rfl⟩ := p
      obtain ⟨hn, rfl⟩ := nat_item hx
      have hle := hg n hn
      refine s_when (b := false) (et_is (et_or (a := false) (b := false) (et_is (et_not (et_B (b := true) (ev_call (ea_cons (ev_var rfl) ea_nil) (sv_int _)))) rfl) fun _ => et_is (et_not (a := true) (et_test (ev_chain (b := true) (c := true) ev_c (ev_var rfl) (rv_bl rv_I0 (decide_eq_true ?_)) (fun _ => ev_var rfl) (fun _ => rv_bl rv_I0 (decide_eq_true ?_))))) rfl) rfl) (fun z => nomatch z) fun _ H3 e3 => ?_
      · omega
      · omega
      · exact ⟨e'.trans (e2.trans e3), _, _, rfl⟩
    · obtain ⟨e', y1, y2, rfl⟩ := p
      refine s_when (b := false) (et_test (ev_op (ev_op (ev_cb (ea_cons (ev_var rfl) ea_nil) (rc_lenN (hs1.ex e'))) ev_c rv_I0) ev_c (rv_bl rv_I0 (decide_eq_false ?_)))) (fun z => nomatch z) fun _ H3 e3 => q _ (e1.trans (e'.trans e3))
      omega
theorem ok_check_struck (T : Txt K mg) (G_is_list : FnG P w K mg base CX0 1 T.f_is_list T.fd_is_list ["value"] (sp_is_list K)) (G_is_an_integer : FnG P w K mg base CX0 1 T.f_is_an_integer T.fd_is_an_integer ["value"] sp_is_an_integer) : FnG P w K mg base CX0 2 T.f_check_struck T.fd_check_struck ["parents", "struck"] (sp_check_struck K w) := by
  refine okG T.F_check_struck sc_check_struck (fun vs H Q E h => ?_) (fun cdv A outer s H vs Q E gd hr h => ?_)
  · obtain ⟨a, b, ps, st, rfl, _⟩ := h
    all_goals rfl
  · obtain ⟨a, b, ps, st, rfl, ha, hb, hl, ok, q⟩ := h
    refine ⟨_, (pss_cons (ps_if (pt_not (pt_val (pc gd G_is_list (hr.mono (by decide)) (by rfl) T.m_is_list T.F_is_list.kp T.b_is_list .nil pass0 (pa_cons (pv 1) pa_nil)))) (pss_one ps_never) pss_nil) (pss_cons (ps_set (i := 2) sc_check_struck.nd rfl (Or.inr rfl) (pe_callTy0 cr_set0 (by rfl) T.z_set (by decide +kernel))) (pss_cons (ps_for PassesOwn.never rfl (pi_or (pi_enum (by rfl) T.z_enumerate (pa_cons (pv 1) pa_nil)) (pi_enumT (by rfl) T.z_enumerate (pa_cons (pv 1) pa_nil))) (pg_tup rfl (pgs_cons (pg_name (i := 3) sc_check_struck.nd rfl (Or.inl rfl) (Or.inr rfl)) (pgs_cons (pg_name (i := 4) sc_check_struck.nd rfl (Or.inl rfl) (Or.inr rfl)) pgs_nil))) (pss_cons (ps_if ((pw_or (pt_not (pt_val (pc gd G_is_an_integer (hr.mono (by decide)) (by rfl) T.m_is_an_integer T.F_is_an_integer.kp T.b_is_an_integer .nil pass0 (pa_cons (pv 4) pa_nil)))) (pw_or (pt_not (pt_chain op_le op_le pe_int (pv 4) (pe_callB call_len_seq (by rfl) T.z_len PySem.boot_len (pa_cons (pv 0) pa_nil)))) (pw_or1 (pt_cmpR or_sin (pv 4) (pv 2) (by rfl)))))).pt (pss_one ps_never) pss_nil) (pss_one (ps_expr (pe_sadd (pv 2) (pa_cons (pv 4) pa_nil)))))) (pss_cons (ps_setLc (i := 5) (own := [("child", 6), ("parent", 7)]) (g := gTup K 2 (gCons (gName 6) (gCons (gName 7) gNil))) rfl sc_check_struck.nd rfl rfl (sw_true rfl rfl rfl (by decide +kernel)) (pi_or (pi_enumK (by rfl) T.z_enumerate (pa_cons (pv 0) pa_nil) (pk_cons pe_int pk_nil)) (pi_enumKT (by rfl) T.z_enumerate (pa_cons (pv 0) pa_nil) (pk_cons pe_int pk_nil))) (blkOk_by (N := N_check_struck) (sc := defScope s_check_struck) (by decide +kernel)) (fun _ _ _ _ _ => (pg_tup rfl (pgs_cons (pg_name (i := 6) sc_check_struck.nd rfl (Or.inl rfl) (Or.inr rfl)) (pgs_cons (pg_name (i := 7) sc_check_struck.nd rfl (Or.inl rfl) (Or.inr rfl)) pgs_nil)))) (fun _ _ _ _ _ => pts_one (pt_cmpR (show OpR _ (compareOp .NotIn) (rSNotIn w) from or_snotin) (pv 6) (pv 2) (by rfl))) (fun _ _ _ _ _ => (pv 7))) (pss_one (ps_for PassesOwn.never rfl (pi_or (pi_enum (by rfl) T.z_enumerate (pa_cons (pv 1) pa_nil)) (pi_enumT (by rfl) T.z_enumerate (pa_cons (pv 1) pa_nil))) (pg_tup rfl (pgs_cons (pg_name (i := 3) sc_check_struck.nd rfl (Or.inl rfl) (Or.inr rfl)) (pgs_cons (pg_name (i := 4) sc_check_struck.nd rfl (Or.inl rfl) (Or.inr rfl)) pgs_nil))) (pss_one (ps_if (pt_cmpR op_in_seq (pv 4) (pv 5) (by rfl)) (pss_one ps_never) pss_nil)))))))), ?_⟩
    refine q_when (b := false) (et_is (et_not (et_B (b := true) (ev_call (ea_cons (ev_var rfl) ea_nil) (sv_list hb)))) rfl) (fun z => nomatch z) fun _ H1 e1 => ?_
    -- seen = set()
    refine ⟨rfl, fun p hp => ?_⟩
    have ha1 := ha.ex e1
    have hb1 := hb.ex e1
    refine s_forE (D := { nx := _, rt := _ }) (Hb := H1) (ea_cons (ev_var rfl) ea_nil) hb1 (Ex.new hp)
      (fun n σ' H' => Ex H1 H' ∧ H' p = some (SetO w p (fun k => decide (k ∈ (st.take n).map fun g : Nat => (g : Int))) n) ∧ ∃ y3 y4, σ' = [some (.ref a), some (.ref b), some (.ref p), y3, y4, none, none, none])
      (fun H2 e2 => ⟨(Ex.new hp).trans e2, e2 _ _ (by rw [upd_same]; rfl), _, _, rfl⟩) (fun n σ' H' z => z.1) (fun n x σ' H' H2 hx z e2 => ?_) (fun σ' H' z => ?_)
    · obtain ⟨e', hp', y3, y4, rfl⟩ := z
      obtain ⟨hn, rfl⟩ := nat_item hx
      have hmem : st.getD n 0 ∈ st := by
        rw [List.getD_eq_getElem?_getD, List.getElem?_eq_getElem hn]
        exact List.getElem_mem hn
      have hbd := ok.bd _ hmem
      have hnew : ¬ ((st.getD n 0 : Nat) : Int) ∈ (st.take n).map fun g : Nat => (g : Int) := by
        intro m
        obtain ⟨g, hg, eg⟩ := List.mem_map.mp m
        have eg' : g = st.getD n 0 := by omega
        obtain ⟨i, hi, ei⟩ := List.getElem_of_mem hg
        rw [List.length_take] at hi
        rw [List.getElem_take] at ei
        have hin : i < n := by omega
        have en : st[i] = st[n] := by
          rw [ei, eg', List.getD_eq_getElem?_getD, List.getElem?_eq_getElem hn]
          rfl
        exact List.pairwise_iff_getElem.mp ok.nd i n (by omega) hn hin en
      refine q_when (b := false) (et_is (et_or (a := false) (b := false) (et_is (et_not (et_B (b := true) (ev_call (ea_cons (ev_var rfl) ea_nil) (sv_int _)))) rfl) fun _ => et_is (et_or (a := false) (b := false) (et_is (et_not (a := true) (et_test (ev_chain (b := true) (c := true) ev_c (ev_var rfl) (rv_bl rv_I0 (decide_eq_true ?_)) (fun _ => ev_cb (ea_cons (ev_var rfl) ea_nil) (rc_lenN ((ha1.ex e').ex e2))) (fun _ => rv_bl rv_I0 (decide_eq_true ?_))))) rfl) fun _ => et_test (ev_op (ev_var rfl) (ev_var rfl) (rv_bl (rv_sin (e2 _ _ hp')) (decide_eq_false hnew)))) rfl) rfl) (fun z => nomatch z) fun _ H3 e3 => ?_
      · omega
      · omega
      · refine ⟨.ref p, rfl, ⟨p, _, _, rfl, e3 _ _ (e2 _ _ hp')⟩, _, rfl, p, _, _, n, rfl, rfl, e3 _ _ (e2 _ _ hp'), (by have := ok.len; show n + 1 < 4096; omega), ?_⟩
        refine ⟨Ex.mut (e'.trans (e2.trans e3)) hp, ?_, _, _, rfl⟩
        rw [upd_same, decide_eq_false hnew]
        show some (SetO w p (fun j => decide (j ∈ (st.take n).map fun g : Nat => (g : Int)) || decide (j = ((st.getD n 0 : Nat) : Int))) (n + 1)) = _
        congr 2
        funext j
        rw [List.take_add_one, List.getElem?_eq_getElem hn, List.map_append, List.getD_eq_getElem?_getD, List.getElem?_eq_getElem hn]
        show (decide (j ∈ (st.take n).map fun g : Nat => (g : Int)) || decide (j = ((st[n] : Nat) : Int))) = decide (j ∈ ((st.take n).map fun g : Nat => (g : Int)) ++ [((st[n] : Nat) : Int)])
        simp only [List.mem_append, List.mem_singleton, Bool.decide_or]
    · obtain ⟨e', hp', y3, y4, rfl⟩ := z
      have hlen : (st.map nV).length = st.length := List.length_map ..
      rw [hlen, List.take_length] at hp'
      have ha3 := ha1.ex e'
      -- needed = [..]
      have hneed := el_lcEK (K := K) (σ := [some (.ref a), some (.ref b), some (.ref p), y3, y4, none, none, none]) (H := H') (a := a) (xs := ps.map nV) (i := 6) (j := 7) (vs := [6, 7]) (k := 1) (ta := tCons (tVar 0) tNil) (tk := tCons (tC (.int 1)) tNil) (te := tVar 7) (tt := tTest (tOp (rSNotIn w) (tVar 6) (tVar 2)))
        (fun n => !decide (n + 1 ∈ st)) (fun n => nV (ps.getD n 0)) (ea_cons (ev_var rfl) ea_nil) (ea_cons ev_c ea_nil) (by omega) ha3 (by rw [List.length_map]; omega) (fun _ _ => rfl) (fun n x H1 e1 hx => ?_) (fun n x H1 e1 hx _ => ?_)
      · refine q_asgL (D := { nx := _, rt := _ }) hneed fun r H4 hr e4 hr4 => ?_
        rw [List.length_map, given_nat] at hr4
        refine s_forE (D := { nx := _, rt := _ }) (Hb := H4) (ea_cons (ev_var rfl) ea_nil) ((hb1.ex e').ex e4) (Ex.refl H4) (fun n σ2 H2 => Ex H4 H2 ∧ ∃ y3 y4, σ2 = [some (.ref a), some (.ref b), some (.ref p), y3, y4, some (.ref r), none, none]) (fun H2 e2 => ⟨e2, _, _, rfl⟩) (fun n σ2 H2 z => z.1) (fun n x σ2 H2 H3 hx z e3 => ?_) (fun σ2 H2 z => ?_)
        · obtain ⟨e5, y3, y4, rfl⟩ := z
          obtain ⟨hn, rfl⟩ := nat_item hx
          have hmem : st.getD n 0 ∈ st := by
            rw [List.getD_eq_getElem?_getD, List.getElem?_eq_getElem hn]
            exact List.getElem_mem hn
          refine s_when (b := false) (et_test (ev_op (ev_var rfl) (ev_var rfl) (rv_bl (rv_isL (sq_of ((e5.trans e3) _ _ hr4)) rfl (flat_nat _)) ?_))) (fun z => nomatch z) fun _ H6 e6 => ⟨e5.trans (e3.trans e6), _, _, rfl⟩
          rw [inV_nat]
          refine decide_eq_false fun m => ?_
          obtain ⟨i, hi, ei⟩ := List.mem_map.mp m
          obtain ⟨hi1, hi2⟩ := List.mem_filter.mp hi
          have hi1' := List.mem_range.mp hi1
          have hup : up ps (i + 1) = st.getD n 0 := by
            unfold up
            rw [Nat.add_sub_cancel]
            exact ei
          have := ok.cl (i + 1) (by omega) (by omega) (by rw [hup]; exact hmem)
          rw [decide_eq_true this] at hi2
          cases hi2
        · obtain ⟨e5, _⟩ := z
          exact q _ (e1.trans (e'.trans (e4.trans e5)))
      · refine et_test (ev_op (ev_var rfl) (ev_var rfl) (rv_bl (rv_snin (e1 _ _ hp')) ?_))
        congr 1
        have e0 : (1 : Int) + (n : Nat) = ((n + 1 : Nat) : Int) := by omega
        rw [e0]
        by_cases m : n + 1 ∈ st
        · rw [decide_eq_true m, decide_eq_true (List.mem_map.mpr ⟨n + 1, m, rfl⟩)]
        · rw [decide_eq_false m, decide_eq_false fun z => ?_]
          obtain ⟨g, hg, eg⟩ := List.mem_map.mp z
          have : g = n + 1 := by omega
          exact m (this ▸ hg)
      · obtain ⟨hn, rfl⟩ := nat_item hx
        exact ev_var rfl
end
end My
namespace My
open PySem PySem.Spec PyProof.Rows L2 GL Evl StX SkE

def srt (st : List Nat) : List Nat := st.mergeSort fun a b => decide (a ≤ b)
theorem srt_perm (st : List Nat) : (srt st).Perm st := List.mergeSort_perm _ _
theorem srt_nil : srt [] = [] := List.Perm.eq_nil (srt_perm [])
theorem srt_eq {st : List Nat} {ns : List Int} (h : ns.Perm (st.map fun g : Nat => (g : Int))) (h2 : ns.Pairwise (· ≤ ·)) : ns.map V.int = (srt st).map nV := by
  have hs : ((srt st).map fun g : Nat => (g : Int)).Pairwise (· ≤ ·) := by
    refine List.pairwise_map.mpr ?_
    have q := List.pairwise_mergeSort (le := fun a b : Nat => decide (a ≤ b)) (fun a b c h1 h2 => decide_eq_true (Nat.le_trans (of_decide_eq_true h1) (of_decide_eq_true h2))) (fun a b => by
      rcases Nat.le_total a b with z | z
      · rw [decide_eq_true z, Bool.true_or]
      · rw [decide_eq_true z, Bool.or_true]) st
    exact q.imp fun {a b} z => Int.ofNat_le.mpr (of_decide_eq_true z)
  have e : ns = (srt st).map fun g : Nat => (g : Int) := List.Perm.eq_of_pairwise (le := fun a b : Int => a ≤ b) (fun x y _ _ h1 h2 => Int.le_antisymm h1 h2) h2 hs (h.trans ((srt_perm st).map _).symm)
  rw [e, List.map_map]
  rfl
theorem nat_int (st : List Nat) : (st.map fun g : Nat => (g : Int)).map V.int = st.map nV := by
  rw [List.map_map]
  rfl
def word (z : Nat) : Str := if z = 1 then "below" else if z = 2 then "here" else "out"
theorem word_below (z : Nat) (h : z = 1 ∨ z = 2 ∨ z = 3) : decide (V.str (word z) = V.str "below") = decide (z = 1) := by
  rcases h with rfl | rfl | rfl <;> decide +kernel
def sp_Tinit (K : PySem.W.Frag) (C : Addr) : Sp := fun vs H Q _ => ∃ H0 t dx a b ps st, vs = [.ref t, .ref a, .ref b] ∧ Ex H0 H ∧ H0 t = none ∧ H t = some (.ins C dx []) ∧ Seq K H0 a (ps.map nV) ∧ Seq K H0 b (st.map nV) ∧ Good ps ∧ ps.length ≤ 199 ∧ StOk ps st ∧ st.length < 64 ∧
  ∀ H', Ex H0 H' → TreeNew C H0 H' t ps (srt st) → Q .non H'
def sp_Tparents (C : Addr) : Sp := fun vs H Q _ => ∃ t ps st, vs = [.ref t] ∧ TreeAt C H t ps st ∧ RetL (ps.map nV) H Q
def sp_Tway (C : Addr) : Sp := fun vs H Q _ => ∃ t ps st, ∃ g : Nat, vs = [.ref t, nV g] ∧ TreeAt C H t ps st ∧ Good ps ∧ ps.length ≤ 199 ∧ g ≤ ps.length ∧ RetL ((path ps g).map nV) H Q
def sp_Tdepth (C : Addr) : Sp := fun vs H Q _ => ∃ t ps st, ∃ g : Nat, vs = [.ref t, nV g] ∧ TreeAt C H t ps st ∧ Good ps ∧ ps.length ≤ 199 ∧ g ≤ ps.length ∧ RetV (nV ((path ps g).length - 1)) H Q
def sp_Tis_struck (C : Addr) : Sp := fun vs H Q _ => ∃ t ps st, ∃ g : Nat, vs = [.ref t, nV g] ∧ TreeAt C H t ps st ∧ ps.length ≤ 199 ∧ g ≤ ps.length ∧ RetV (.bl (decide (g ∈ st))) H Q
def sp_Tplace (C : Addr) : Sp := fun vs H Q _ => ∃ t ps st, ∃ g s : Nat, vs = [.ref t, nV g, nV s] ∧ TreeAt C H t ps st ∧ Good ps ∧ ps.length ≤ 199 ∧ g ≤ ps.length ∧ s ≤ ps.length ∧ RetV (.str (word (zone ps g s))) H Q
def sp_Tis_below (C : Addr) : Sp := fun vs H Q _ => ∃ t ps st, ∃ g s : Nat, vs = [.ref t, nV g, nV s] ∧ TreeAt C H t ps st ∧ Good ps ∧ ps.length ≤ 199 ∧ g ≤ ps.length ∧ s ≤ ps.length ∧ RetV (.bl (decide (zone ps g s = 1))) H Q
def lower (ps : List Nat) (s : Nat) : List Nat := (List.range (ps.length + 1)).filter fun g => decide (zone ps g s = 1)
def sp_Tall_below (C : Addr) : Sp := fun vs H Q _ => ∃ t ps st, ∃ s : Nat, vs = [.ref t, nV s] ∧ TreeAt C H t ps st ∧ Good ps ∧ ps.length ≤ 199 ∧ s ≤ ps.length ∧ RetL ((lower ps s).map nV) H Q
def sp_Twith_group (C : Addr) : Sp := fun vs H Q _ => ∃ t ps st, ∃ g : Nat, vs = [.ref t, nV g] ∧ TreeAt C H t ps st ∧ Good ps ∧ ps.length ≤ 198 ∧ g ≤ ps.length ∧ g ∉ st ∧ StOk ps st ∧ st.length < 64 ∧ srt st = st ∧
  ∀ H' t', H t' = none → Ex H H' → TreeNew C H H' t' (ps ++ [g]) st → Q (.ref t') H'
theorem up_snoc {ps : List Nat} {g c : Nat} (h1 : 1 ≤ c) (h : c ≤ ps.length) : up (ps ++ [g]) c = up ps c := by
  unfold up
  rw [List.getD_eq_getElem?_getD, List.getD_eq_getElem?_getD, List.getElem?_append_left (by omega)]
theorem up_last (ps : List Nat) (g : Nat) : up (ps ++ [g]) (ps.length + 1) = g := by
  unfold up
  rw [Nat.add_sub_cancel, List.getD_eq_getElem?_getD, List.getElem?_append_right (Nat.le_refl _), Nat.sub_self]
  rfl
theorem StOk.snoc {ps st : List Nat} {g : Nat} (ok : StOk ps st) (h : g ∉ st) : StOk (ps ++ [g]) st := by
  refine ⟨ok.nd, fun x hx => ?_, fun c h1 h2 h3 => ?_⟩
  · have := ok.bd x hx
    rw [List.length_append, List.length_singleton]
    omega
  · rw [List.length_append, List.length_singleton] at h2
    by_cases e : c ≤ ps.length
    · rw [up_snoc h1 e] at h3
      exact ok.cl c h1 e h3
    · have e2 : c = ps.length + 1 := by omega
      subst e2
      rw [up_last] at h3
      exact absurd h3 h
theorem el_cat {σ : L2.St} {H : Hp} {ta tb : TE} {xs zs : List V} (ha : EvL ta σ H xs) (hb : ∀ H1, Ex H H1 → EvL tb σ H1 zs) (hl : xs.length + zs.length ≤ 100000) : EvL (tOp rCat ta tb) σ H (xs ++ zs) := fun H1 e Q q =>
  ha H1 e _ fun l H2 hl2 e2 h2 => hb H2 (e.trans e2) H2 (Ex.refl H2) _ fun b H3 hb3 e3 h3 => ⟨l, b, xs, zs, rfl, rfl, e3 _ _ h2, h3, sz_of hl, fun p hp => q p _ (fresh_back (e2.trans e3) hp) ((e2.trans e3).trans (Ex.new hp)) upd_same⟩
theorem ne_of_none' {H : Hp} {a b : Addr} {o : HO} (h : H b = some o) (h' : H a = none) : a ≠ b := fun e => by
  rw [e, h] at h'
  cases h'
theorem el_is {te : TE} {σ : L2.St} {H : Hp} {xs ys : List V} (h : EvL te σ H xs) (e : xs = ys) : EvL te σ H ys := by
  rw [← e]
  exact h
section
variable {P : Program} {w : World} {K : PySem.W.Frag} {mg : Str → Option Value} {base : Heap} {C : Addr} {H : Hp}
theorem sv_group {t : Addr} {ps st : List Nat} {g : Nat} (h : TreeAt C H t ps st) (hl : ps.length ≤ 199) (hg : g ≤ ps.length) : SpV (sp_check_group C) [.ref t, nV g] H .non := fun _ e _ q _ => ⟨t, ps, st, g, rfl, h.ex e, hl, hg, q⟩
theorem sv_parents {a : Addr} {ps : List Nat} (h : Seq K H a (ps.map nV)) (hg : Good ps) (hl : ps.length ≤ 199) : SpV (sp_check_parents K) [.ref a] H .non := fun _ e _ q _ => ⟨a, ps, rfl, h.ex e, hg, hl, q⟩
theorem sv_struck {a b : Addr} {ps st : List Nat} (h : Seq K H a (ps.map nV)) (hb : Seq K H b (st.map nV)) (hl : ps.length ≤ 199) (ok : StOk ps st) : SpV (sp_check_struck K w) [.ref a, .ref b] H .non := fun _ e _ q _ => ⟨a, b, ps, st, rfl, h.ex e, hb.ex e, hl, ok, q⟩
theorem sl_way {t : Addr} {ps st : List Nat} {g : Nat} (h : TreeAt C H t ps st) (hp : Good ps) (hl : ps.length ≤ 199) (hg : g ≤ ps.length) : SpL (sp_Tway C) [.ref t, nV g] H ((path ps g).map nV) := fun _ e _ q _ => ⟨t, ps, st, g, rfl, h.ex e, hp, hl, hg, fun p H2 hp e2 h2 => q p H2 hp e2 h2⟩
theorem sv_place {t : Addr} {ps st : List Nat} {g s : Nat} (h : TreeAt C H t ps st) (hp : Good ps) (hl : ps.length ≤ 199) (hg : g ≤ ps.length) (hs : s ≤ ps.length) : SpV (sp_Tplace C) [.ref t, nV g, nV s] H (.str (word (zone ps g s))) := fun _ e _ q _ => ⟨t, ps, st, g, s, rfl, h.ex e, hp, hl, hg, hs, q⟩
theorem sv_below {t : Addr} {ps st : List Nat} {g s : Nat} (h : TreeAt C H t ps st) (hp : Good ps) (hl : ps.length ≤ 199) (hg : g ≤ ps.length) (hs : s ≤ ps.length) : SpV (sp_Tis_below C) [.ref t, nV g, nV s] H (.bl (decide (zone ps g s = 1))) := fun _ e _ q _ => ⟨t, ps, st, g, s, rfl, h.ex e, hp, hl, hg, hs, q⟩
theorem sl_lower {t : Addr} {ps st : List Nat} {s : Nat} (h : TreeAt C H t ps st) (hp : Good ps) (hl : ps.length ≤ 199) (hs : s ≤ ps.length) : SpL (sp_Tall_below C) [.ref t, nV s] H ((lower ps s).map nV) := fun _ e _ q _ => ⟨t, ps, st, s, rfl, h.ex e, hp, hl, hs, fun p H2 hp e2 h2 => q p H2 hp e2 h2⟩
theorem sv_depth {t : Addr} {ps st : List Nat} {g : Nat} (h : TreeAt C H t ps st) (hp : Good ps) (hl : ps.length ≤ 199) (hg : g ≤ ps.length) : SpV (sp_Tdepth C) [.ref t, nV g] H (nV ((path ps g).length - 1)) := fun _ e _ q _ => ⟨t, ps, st, g, rfl, h.ex e, hp, hl, hg, q⟩
theorem sv_isstruck {t : Addr} {ps st : List Nat} {g : Nat} (h : TreeAt C H t ps st) (hl : ps.length ≤ 199) (hg : g ≤ ps.length) : SpV (sp_Tis_struck C) [.ref t, nV g] H (.bl (decide (g ∈ st))) := fun _ e _ q _ => ⟨t, ps, st, g, rfl, h.ex e, hl, hg, q⟩
theorem sl_parents {t : Addr} {ps st : List Nat} (h : TreeAt C H t ps st) : SpL (sp_Tparents C) [.ref t] H (ps.map nV) := fun _ e _ q _ => ⟨t, ps, st, rfl, h.ex e, fun p H2 hp e2 h2 => q p H2 hp e2 h2⟩
theorem ok_Tinit (T : Txt K mg) (G_check_parents : FnG P w K mg base CX0 2 T.f_check_parents T.fd_check_parents ["parents"] (sp_check_parents K)) (G_check_struck : FnG P w K mg base CX0 2 T.f_check_struck T.fd_check_struck ["parents", "struck"] (sp_check_struck K w)) : FnG P w K mg base CX0 3 T.f_Tinit T.fd_Tinit ["self", "parents", "struck"] (sp_Tinit K T.C) := by
  refine okGD T.F_Tinit sc_Tinit (fun vs H Q E h => ?_) (fun cdv A outer s H vs Q E gd hr h => ?_)
  · obtain ⟨_, _, _, _, _, _, _, rfl, _⟩ := h
    all_goals rfl
  · obtain ⟨H0, t, dx, a, b, ps, st, rfl, e0, ht0, ht, ha, hb, hg, hl, ok, h64, q⟩ := h
    refine ⟨_, (pss_cons (ps_expr (pc gd G_check_parents (hr.mono (by decide)) (by rfl) T.m_check_parents T.F_check_parents.kp T.b_check_parents .nil pass0 (pa_cons (pv 1) pa_nil))) (pss_cons (ps_expr (pc gd G_check_struck (hr.mono (by decide)) (by rfl) T.m_check_struck T.F_check_struck.kp T.b_check_struck .nil pass0 (pa_cons (pv 1) (pa_cons (pv 2) pa_nil)))) (pss_cons (ps_fld (pv 0) (pe_lst (pa_cons pe_non (pa_star (pv 1) pa_nil))) rfl) (pss_one (ps_fld (pv 0) (pe_callB call_sortedU (by rfl) T.z_sorted boot_sorted (pa_cons (pv 2) pa_nil)) rfl))))), ?_⟩
    refine q_drop (ev_call (ea_cons (ev_var rfl) ea_nil) (sv_parents (ha.ex e0) hg hl)) fun H1 e1 => ?_
    have x1 := e0.trans e1
    refine q_drop (ev_call (ea_cons (ev_var rfl) (ea_cons (ev_var rfl) ea_nil)) (sv_struck (ha.ex x1) (hb.ex x1) hl ok)) fun H2 e2 => ?_
    have x2 := x1.trans e2
    refine q_fldL (C := T.C) (fs := []) (dx := dx) (el_lst (ea_cons ev_c (ea_star (ev_var rfl) (ha.ex x2) ea_nil)) ?_) (ev_var rfl) (e2 _ _ (e1 _ _ ht)) T.c_Tree T.n_above (by show 0 < 1000; omega) fun la H3 hla e3 h3 => ?_
    · rw [List.append_nil, List.length_cons, List.length_map]
      omega
    · rw [List.append_nil] at h3
      have x3 : Ex H0 (upd H3 t (.ins T.C dx (putF "_above" (.ref la) []))) := Ex.mut (x2.trans e3) ht0
      have nla : la ≠ t := ne_of_none' (e2 _ _ (e1 _ _ ht)) hla
      -- self._struck = sorted(struck)
      refine ⟨_, rfl, b, st.map fun g : Nat => (g : Int), rfl, ?_, ?_, fun ns' ls hperm hpw hls => ?_⟩
      · rw [nat_int]
        exact (hb.ex x3).sq
      · rw [List.length_map]
        exact h64
      · rw [srt_eq hperm hpw]
        have nls : t ≠ ls := ne_of_none upd_same hls
        have nls2 : la ≠ ls := ne_of_none (show (upd H3 t _) la = some _ by rw [upd_ne nla]; exact h3) hls
        have hls0 : H0 ls = none := fresh_back x3 hls
        refine ⟨_, rfl, t, T.C, dx, _, rfl, (by rw [upd_ne nls, upd_same]), T.c_Tree, T.n_struck, (by show 1 < 1000; omega), ?_⟩
        refine q _ (Ex.mut (Ex.mut x3 hls0) ht0) ⟨dx, la, ls, ⟨upd_same, ?_, ?_⟩, ht0, fresh_back x2 hla, hls0⟩
        · rw [upd_ne nla, upd_ne nls2, upd_ne nla]
          exact h3
        · rw [upd_ne nls.symm, upd_same]
theorem ok_Tparents (T : Txt K mg)  : FnG P w K mg base CX0 1 T.f_Tparents T.fd_Tparents ["self"] (sp_Tparents T.C) := by
  refine okG T.F_Tparents sc_Tparents (fun vs H Q E h => ?_) (fun cdv A outer s H vs Q E gd hr h => ?_)
  · obtain ⟨_, _, _, rfl, _⟩ := h
    all_goals rfl
  · obtain ⟨t, ps, st, rfl, ⟨dx, la, ls, p⟩, q⟩ := h
    refine ⟨_, (pss_one (ps_ret (pe_slice sl_list (pe_fld (pv 0) rfl) (po_some pe_int) po_none))), ?_⟩
    refine s_retL (xs := ps.map nV) (el_is (el_sl (ev_fld (ev_var rfl) p.ob T.c_Tree T.n_above (tf_above la ls)) (eo_some ev_c) eo_none (sq_of p.ab)) ?_) q
    unfold cutV upsV
    rw [show (1 : Int) = ((1 : Nat) : Int) from rfl, HT.sIx_nat, HT.sIx_none, List.length_cons, show min 1 ((ps.map nV).length + 1) = 1 by omega, Nat.add_sub_cancel]
    exact List.take_length


theorem ok_Tis_struck (T : Txt K mg) (G_check_group : FnG P w K mg base CX0 3 T.f_check_group T.fd_check_group ["tree", "value"] (sp_check_group T.C)) : FnG P w K mg base CX0 4 T.f_Tis_struck T.fd_Tis_struck ["self", "group"] (sp_Tis_struck T.C) := by
  refine okG T.F_Tis_struck sc_Tis_struck (fun vs H Q E h => ?_) (fun cdv A outer s H vs Q E gd hr h => ?_)
  · obtain ⟨_, _, _, _, rfl, _⟩ := h
    all_goals rfl
  · obtain ⟨t, ps, st, g, rfl, ht, hl, hg, q⟩ := h
    refine ⟨_, (pss_cons (ps_expr (pc gd G_check_group (hr.mono (by decide)) (by rfl) T.m_check_group T.F_check_group.kp T.b_check_group .nil pass0 (pa_cons (pv 0) (pa_cons (pv 1) pa_nil)))) (pss_one (ps_ret (pe_cmpR op_in_seq (pv 1) (pe_fld (pv 0) rfl) (by rfl))))), ?_⟩
    refine q_drop (ev_call (ea_cons (ev_var rfl) (ea_cons (ev_var rfl) ea_nil)) (sv_group ht hl hg)) fun H1 e1 => ?_
    obtain ⟨dx, la, ls, p⟩ := ht.ex e1
    refine s_ret (ev_is (ev_op (ev_var rfl) (ev_fld (ev_var rfl) p.ob T.c_Tree T.n_struck (tf_struck la ls)) (rv_isL (sq_of p.sk) rfl (flat_nat _))) ?_) fun H2 e2 => q H2 (e1.trans e2)
    rw [inV_nat]




end
end My
namespace My
open PySem PySem.Spec PyProof.Rows L2 GL Evl StX SkE

/-! ### the law's draws -/
/-- all but what stands at a is as it was -/
def ExB (a : Addr) (H H' : Hp) : Prop := ∀ b o, b ≠ a → H b = some o → H' b = some o
theorem ExB.of {a : Addr} {H H' : Hp} (e : Ex H H') : ExB a H H' := fun b o _ h => e b o h
theorem ExB.refl (a : Addr) (H : Hp) : ExB a H H := fun _ _ _ h => h
theorem ExB.trans {a : Addr} {H H1 H2 : Hp} (x : ExB a H H1) (y : ExB a H1 H2) : ExB a H H2 := fun b o n h => y b o n (x b o n h)
theorem ExB.set {a : Addr} {H : Hp} {o : HO} : ExB a H (upd H a o) := fun b u n h => by
  rw [upd_ne n]
  exact h
/-- what was made behind H may change as well -/
theorem ExB.mut {a b : Addr} {H H' : Hp} {o : HO} (e : ExB a H H') (h : H b = none) : ExB a H (upd H' b o) := fun c u n hc => by
  rw [upd_ne (ne_of_none hc h)]
  exact e c u n hc
theorem ExB.free {a : Addr} {H H' : Hp} {p : Addr} {o : HO} (e : ExB a H H') (ha : H' a = some o) (h : H' p = none) : H p = none := by
  cases q : H p with
  | none => rfl
  | some u =>
    have n : p ≠ a := fun z => by rw [z, ha] at h; cases h
    rw [e p u n q] at h
    cases h
/-- the pot was made behind H: nothing of H has changed -/
theorem ExB.all {a : Addr} {H0 H H' : Hp} (e0 : Ex H0 H) (h : H0 a = none) (e : ExB a H H') : Ex H0 H' := fun b o hb => e b o (ne_of_none hb h) (e0 b o hb)
def PotAt (H : Hp) (a : Addr) : Prop := ∃ x y : Int, H a = some (.lst [.int x, .int y]) ∧ 0 ≤ x ∧ 0 ≤ y ∧ y < 2147483600
theorem PotAt.ex {H H' : Hp} {a : Addr} (h : PotAt H a) (e : Ex H H') : PotAt H' a := by
  obtain ⟨x, y, h1, h2⟩ := h
  exact ⟨x, y, e _ _ h1, h2⟩
theorem PotAt.exB {H H' : Hp} {a b : Addr} (h : PotAt H a) (e : ExB b H H') (n : a ≠ b) : PotAt H' a := by
  obtain ⟨x, y, h1, h2⟩ := h
  exact ⟨x, y, e _ _ n h1, h2⟩
def sp_Lpot (K : PySem.W.Frag) : Sp := fun vs H Q _ => ∃ (a : Addr) (ns : List Int) (k : Nat), vs = [.ref a, .int (k : Int)] ∧ SqL K H a (ns.map V.int) ∧ ns.length ≤ 63 ∧ k < 3 ∧ ∀ H' p, H p = none → Ex H H' → PotAt H' p → Q (.ref p) H'
def sp_Ldraw : Sp := fun vs H Q _ => ∃ a, ∃ n : Nat, vs = [.ref a, nV n] ∧ PotAt H a ∧ 1 ≤ n ∧ n ≤ 1000 ∧ ∀ H' (d : Nat), ExB a H H' → PotAt H' a → d < n → Q (nV d) H'
def sp_Lups : Sp := fun vs H Q _ => ∃ a, ∃ n : Nat, vs = [.ref a, nV n] ∧ PotAt H a ∧ n ≤ 100 ∧ ∀ H' p ps, H p = none → ExB a H H' → PotAt H' a → H' p = some (.lst (upsV ps)) → Good ps → ps.length ≤ n → Q (.ref p) H'
def sp_Lpath (K : PySem.W.Frag) : Sp := fun vs H Q _ => ∃ u ps, ∃ g : Nat, vs = [.ref u, nV g] ∧ SqL K H u (upsV ps) ∧ Good ps ∧ ps.length ≤ 199 ∧ g ≤ ps.length ∧ RetL ((path ps g).map nV) H Q
def sp_Lzone (K : PySem.W.Frag) : Sp := fun vs H Q _ => ∃ u ps, ∃ g s : Nat, vs = [.ref u, nV g, nV s] ∧ SqL K H u (upsV ps) ∧ Good ps ∧ ps.length ≤ 199 ∧ g ≤ ps.length ∧ RetV (nV (zone ps g s)) H Q
def sp_Lshaped : Sp := fun vs H Q _ => ∃ a, vs = [.ref a, nV 13] ∧ PotAt H a ∧ ∀ H' p ps, H p = none → ExB a H H' → PotAt H' a → H' p = some (.lst (upsV ps)) → Good ps → ps.length ≤ 13 → Q (.ref p) H'
theorem rv_notN {x : V} {H : Hp} {b : Bool} (h : (!decide (x = V.non)) = b) : RV (fun x y H Q => y = V.non ∧ Q (.bl (!decide (x = .non))) H) x .non H (.bl b) := fun H1 _ _ q => ⟨rfl, by rw [h]; exact q H1 (Ex.refl H1)⟩
section
variable {P : Program} {w : World} {K : PySem.W.Frag} {mg : Str → Option Value} {base : Heap} {C : Addr} {H : Hp}
theorem sl_path {u : Addr} {ps : List Nat} {g : Nat} (h : SqL K H u (upsV ps)) (hp : Good ps) (hl : ps.length ≤ 199) (hg : g ≤ ps.length) : SpL (sp_Lpath K) [.ref u, nV g] H ((path ps g).map nV) := fun _ e _ q _ => ⟨u, ps, g, rfl, ex_l e h, hp, hl, hg, fun p H2 hp e2 h2 => q p H2 hp e2 h2⟩
theorem sv_zone {u : Addr} {ps : List Nat} {g s : Nat} (h : SqL K H u (upsV ps)) (hp : Good ps) (hl : ps.length ≤ 199) (hg : g ≤ ps.length) : SpV (sp_Lzone K) [.ref u, nV g, nV s] H (nV (zone ps g s)) := fun _ e _ q _ => ⟨u, ps, g, s, rfl, ex_l e h, hp, hl, hg, q⟩


theorem ev_raw {te : TE} {σ : L2.St} {v : V} {Q : VK} (h : Ev te σ H v) (k : ∀ H1, Ex H H1 → Q v H1) : te σ H Q := h H (Ex.refl H) Q k
theorem cb_raw {r : List V → Hp → VK → Prop} {ta : TA} {σ : L2.St} {vs : List V} {Q : VK} (h : EvA ta σ H vs) (k : ∀ H1, Ex H H1 → r vs H1 Q) : tCB r ta σ H Q := h H (Ex.refl H) _ k
theorem q_asgR {te : TE} {g : TG} {tz : TS} {D : Ends} {σ : L2.St} (h : te σ H fun x H1 => g x σ H1 (tz D)) : tSeq (tAsg te g) tz D σ H := h
theorem s_asgR {te : TE} {g : TG} {D : Ends} {σ : L2.St} (h : te σ H fun x H1 => g x σ H1 D.nx) : tAsg te g D σ H := h
theorem s_retR {te : TE} {D : Ends} {σ : L2.St} (h : te σ H D.rt) : tRet te D σ H := h
theorem no_pylong {x : Int} {n : Nat} (h : n ≤ 1000) : Builtin.divisionGoesByPylong x (n : Int) = false := by
  have hl : n.log2 < 10 := by
    by_cases e : n = 0
    · subst e
      decide
    · exact (Nat.log2_lt e).mpr (by omega)
  have hd : ¬ ((if ((n : Int) == 0) = true then 0 else (n : Int).natAbs.log2 / 30 + 1) > 300) := by
    rw [Int.natAbs_natCast]
    split <;> omega
  show (decide ((if ((n : Int) == 0) = true then 0 else (n : Int).natAbs.log2 / 30 + 1) > 300) && _) = false
  rw [decide_eq_false hd, Bool.false_and]
theorem rc_lenL {a : Addr} {xs : List V} (h : SqL K H a xs) : RC (rLenS K) [.ref a] H (.int (xs.length : Int)) := fun H1 e Q q => ⟨a, xs, rfl, .inl (ex_l e h), q H1 (Ex.refl H1)⟩
theorem rc_max2 {i j : Int} : RC rMax2 [.int i, .int j] H (.int (if j > i then j else i)) := fun H1 _ Q q => ⟨i, j, rfl, q H1 (Ex.refl H1)⟩
theorem rc_int {i : Int} : RC (fun xs H Q => (∃ i, xs = [V.int i] ∧ Q (.int i) H) ∨ ∃ k, xs = [V.bl k] ∧ Q (.int (if k then 1 else 0)) H) [.int i] H (.int i) := fun H1 _ Q q => .inl ⟨i, rfl, q H1 (Ex.refl H1)⟩
theorem rc_abs {i : Int} : RC (fun xs H Q => ∃ i, xs = [V.int i] ∧ Q (.int (if i < 0 then -i else i)) H) [.int i] H (.int (if i < 0 then -i else i)) := fun H1 _ Q q => ⟨i, rfl, q H1 (Ex.refl H1)⟩
theorem ok_Ldraw (T : Txt K mg)  : FnG P w K mg base CX0 1 T.f_Ldraw T.fd_Ldraw ["_law_pot_here", "_law_sides"] sp_Ldraw := by
  refine okG T.F_Ldraw sc_Ldraw (fun vs H Q E h => ?_) (fun cdv A outer s H vs Q E gd hr h => ?_)
  · obtain ⟨_, _, rfl, _⟩ := h
    all_goals rfl
  · obtain ⟨a, n, rfl, ⟨x, y, hx, hx0, hy0, hy1⟩, hn, hn2, q⟩ := h
    refine ⟨_, (pss_cons (ps_if (pt_cmpR op_gt (pe_ix ix_list (pv 0) pe_int (fun _ _ => rfl)) pe_int (nomark _)) (pss_cons (ps_asg (pe_callB call_divmodW (by rfl) T.z_divmod boot_divmod (pa_cons (pe_ix ix_list (pv 0) pe_int (fun _ _ => rfl)) (pa_cons (pv 1) pa_nil))) (pg_tup rfl (pgs_cons (pg_sub (pv 0) pe_int set_list) (pgs_cons (pg_name (i := 2) sc_Ldraw.nd rfl (Or.inl rfl) (Or.inr rfl)) pgs_nil)))) (pss_one (ps_ret (pv 2)))) pss_nil) (pss_cons (ps_asg (pe_op op_mod (pe_callTy call_int1 (by rfl) T.z_int (by decide +kernel) (pa_cons (pe_op op_add (pe_op op_mul (pe_ix ix_list (pv 0) pe_int (fun _ _ => rfl)) pe_int) pe_int) pa_nil)) pe_int) (pg_sub (pv 0) pe_int set_list)) (pss_one (ps_ret (pe_op op_mod (pe_callTy call_int1 (by rfl) T.z_int (by decide +kernel) (pa_cons (pe_op op_fdiv (pe_op op_mod (pe_callTy call_int1 (by rfl) T.z_int (by decide +kernel) (pa_cons (pe_op op_mul (pe_ix ix_list (pv 0) pe_int (fun _ _ => rfl)) (pe_ix ix_list (pv 0) pe_int (fun _ _ => rfl))) pa_nil)) pe_int) pe_int) pa_nil)) (pv 1)))))), ?_⟩
    have at0 : ∀ H1, H1 a = some (.lst [.int x, .int y]) → Ev (tOp (rIxL K) (tVar 0) (tC (.int 0))) [some (.ref a), some (nV n), none] H1 (.int x) := fun H1 h => ev_op (ev_var rfl) ev_c (rv_ixL (sq_of h) (atI_nat (j := 0) rfl))
    refine q_when (et_test (ev_op (at0 _ hx) ev_c rv_I0)) (fun hb H1 e1 => ?_) fun hb H1 e1 => ?_
    · refine q_asgR (cb_raw (ea_cons (at0 _ (e1 _ _ hx)) (ea_cons (ev_var rfl) ea_nil)) fun H2 e2 => ⟨x, n, rfl, ⟨by omega, no_pylong hn2⟩, fun p hp => ?_⟩)
      have hx2 := e2 _ _ (e1 _ _ hx)
      have nap : a ≠ p := ne_of_none hx2 hp
      have hx3 : (upd H2 p (.tup [.int (x / n), .int (x % n)])) a = some (.lst [.int x, .int y]) := by
        rw [upd_ne nap]
        exact hx2
      refine ⟨p, _, rfl, st_of upd_same, rfl, _, _, rfl, _, rfl, a, _, 0, 0, rfl, rfl, hx3, rfl, _, _, rfl, rfl, ?_⟩
      have hlo := Int.emod_nonneg x (show (n : Int) ≠ 0 by omega)
      have hhi := Int.emod_lt_of_pos x (show (0 : Int) < n by omega)
      have hq := Int.ediv_nonneg hx0 (show (0 : Int) ≤ n by omega)
      refine s_ret (v := nV (x % n).toNat) (ev_is (ev_var rfl) (by show V.int _ = V.int _; congr 1; omega)) fun H4 e4 => q H4 _ ?_ ?_ (by omega)
      · exact (((ExB.of (e1.trans e2)).trans (ExB.of (Ex.new hp))).trans ExB.set).trans (ExB.of e4)
      · exact ⟨_, _, e4 _ _ upd_same, hq, hy0, hy1⟩
    · have at1 : ∀ H1 z, H1 a = some (.lst [.int x, .int z]) → Ev (tOp (rIxL K) (tVar 0) (tC (.int 1))) [some (.ref a), some (nV n), none] H1 (.int z) := fun H1 z h => ev_op (ev_var rfl) ev_c (rv_ixL (sq_of h) (atI_nat (j := 1) rfl))
      have h1 := e1 _ _ hx
      refine q_asgR (ev_raw (ev_op (ev_cb (ea_cons (ev_op (ev_op (at1 H1 y h1) ev_c (rv_I (.inl ⟨by omega, by omega⟩))) ev_c rv_I0) ea_nil) rc_int) ev_c (rv_I (by show (0 : Int) < 2147483549; omega))) fun H2 e2 => ?_)
      refine ⟨_, rfl, a, _, 1, 1, rfl, rfl, e2 _ _ h1, rfl, ?_⟩
      have b0 := Int.emod_nonneg (y * 40009 + 17011) (show (2147483549 : Int) ≠ 0 by omega)
      have b1 := Int.emod_lt_of_pos (y * 40009 + 17011) (show (0 : Int) < 2147483549 by omega)
      generalize (y * 40009 + 17011) % 2147483549 = z at b0 b1
      have h3 : (upd H2 a (.lst [.int x, .int z])) a = some (.lst [.int x, .int z]) := upd_same
      have x3 : ExB a H (upd H2 a (.lst [.int x, .int z])) := (ExB.of (e1.trans e2)).trans ExB.set
      show tRet _ _ _ _
      refine s_ret (v := nV ((z * z % 2147483587 / 11) % n).toNat) (ev_is (ev_op (ev_cb (ea_cons (ev_op (ev_op (ev_cb (ea_cons (ev_op (at1 _ z h3) (at1 _ z h3) (rv_I (.inl ⟨by omega, by omega⟩))) ea_nil) rc_int) ev_c (rv_I (by show (0 : Int) < 2147483587; omega))) ev_c (rv_I ⟨by decide, by decide⟩)) ea_nil) rc_int) (ev_var rfl) (rv_I (by show (0 : Int) < n; omega))) ?_) fun H4 e4 => q H4 _ (x3.trans (ExB.of e4)) ⟨x, z, e4 _ _ h3, hx0, b0, by omega⟩ ?_
      · have := Int.emod_nonneg (z * z % 2147483587 / 11) (show (n : Int) ≠ 0 by omega)
        show V.int _ = V.int _
        congr 1
        omega
      · have := Int.emod_lt_of_pos (z * z % 2147483587 / 11) (show (0 : Int) < n by omega)
        have := Int.emod_nonneg (z * z % 2147483587 / 11) (show (n : Int) ≠ 0 by omega)
        omega
theorem ok_Lpot (T : Txt K mg)  : FnG P w K mg base CX0 1 T.f_Lpot T.fd_Lpot ["_law_script", "_law_k"] (sp_Lpot K) := by
  refine okG T.F_Lpot sc_Lpot (fun vs H Q E h => ?_) (fun cdv A outer s H vs Q E gd hr h => ?_)
  · obtain ⟨_, _, _, rfl, _⟩ := h
    all_goals rfl
  · obtain ⟨a, ns, k, rfl, hs, hl, hk, q⟩ := h
    refine ⟨_, (pss_cons (ps_set (i := 2) sc_Lpot.nd rfl (Or.inl rfl) (pe_op op_add (pe_op op_mul pe_int (pv 1)) pe_int)) (Evl.pss_cut (ps_if (pt_cmpR op_lt (pv 1) (pe_callB call_len_seq (by rfl) T.z_len PySem.boot_len (pa_cons (pv 0) pa_nil)) (nomark _)) (pss_one (ps_set (i := 2) sc_Lpot.nd rfl (Or.inl rfl) (pe_callB call_abs (by rfl) T.z_abs boot_abs (pa_cons (pe_ix ix_list (pv 0) (pv 1) (fun _ _ => rfl)) pa_nil)))) pss_nil) (pss_one (ps_ret (pe_lst (pa_cons (pe_callB (call_max2 rfl) (by rfl) T.z_max boot_max (pa_cons pe_int (pa_cons (pe_op op_sub (pv 2) (pe_op op_pow pe_int pe_int)) pa_nil))) (pa_cons (pe_op op_add (pe_op op_mod (pe_op op_mul (pe_callTy call_int1 (by rfl) T.z_int (by decide +kernel) (pa_cons (pe_op op_add (pe_op op_mod (pe_callTy call_int1 (by rfl) T.z_int (by decide +kernel) (pa_cons (pv 2) pa_nil)) pe_int) pe_int) pa_nil)) (pe_op op_pow (pe_op op_add (pe_op op_mul pe_int (pv 1)) pe_int) pe_int)) pe_int) pe_int) pa_nil))))))), ?_⟩
    refine q_asg (ev_op (ev_op ev_c (ev_var rfl) (rv_I (.inl ⟨by omega, by omega⟩))) ev_c rv_I0) fun H1 e1 => ?_
    refine q_cut (M := fun σ' H' => Ex H H' ∧ ∃ c : Int, 0 ≤ c ∧ σ' = [some (.ref a), some (.int (k : Int)), some (.int c)]) ?_ fun σ' H' z => ?_
    · refine s_when (et_test (ev_op (ev_var rfl) (ev_cb (ea_cons (ev_var rfl) ea_nil) (rc_lenL (ex_l e1 hs))) rv_I0)) (fun hb H2 e2 => ?_) fun hb H2 e2 => ⟨e1.trans e2, _, ?_, rfl⟩
      · have hlt : k < ns.length := by
          have := of_decide_eq_true hb
          rw [List.length_map] at this
          omega
        refine s_asg (ev_cb (ea_cons (ev_op (ev_var rfl) (ev_var rfl) (rv_ixL (ex_l (e1.trans e2) hs) (atI_nat (v := .int ns[k]) (by rw [List.getElem?_map, List.getElem?_eq_getElem hlt]; rfl)))) ea_nil) rc_abs) fun H3 e3 => ⟨e1.trans (e2.trans e3), _, ?_, rfl⟩
        split <;> omega
      · omega
    · obtain ⟨x2, c, hc, rfl⟩ := z
      have m0 := Int.emod_nonneg c (show (2147483543 : Int) ≠ 0 by omega)
      have m1 := Int.emod_lt_of_pos c (show (0 : Int) < 2147483543 by omega)
      refine s_retL (xs := [.int (if c - 10 ^ (18 : Int).toNat > 0 then c - 10 ^ (18 : Int).toNat else 0), .int ((c % 2147483543 + 7) * (2 * (k : Int) + 3) ^ (3 : Int).toNat % 2147483489 + 1)])
        (el_lst (ea_cons (ev_cb (ea_cons ev_c (ea_cons (ev_op (ev_var rfl) (ev_op ev_c ev_c (rv_I ⟨by decide, by decide, by decide⟩)) rv_I0) ea_nil)) rc_max2) (ea_cons (ev_op (ev_op (ev_op (ev_cb (ea_cons (ev_op (ev_op (ev_cb (ea_cons (ev_var rfl) ea_nil) rc_int) ev_c (rv_I (by show (0 : Int) < 2147483543; omega))) ev_c rv_I0) ea_nil) rc_int)
          (ev_op (ev_op (ev_op ev_c (ev_var rfl) (rv_I (.inl ⟨by omega, by omega⟩))) ev_c rv_I0) ev_c (rv_I ⟨by decide, by decide, by omega⟩)) (rv_I (.inl ⟨by omega, by omega⟩))) ev_c (rv_I (by show (0 : Int) < 2147483489; omega))) ev_c rv_I0) ea_nil)) (by show 2 ≤ 100000; omega)) fun p H3 hp e3 h3 => q H3 p (fresh_back x2 hp) (x2.trans e3) ⟨_, _, h3, ?_, ?_, ?_⟩
      · split <;> omega
      · have := Int.emod_nonneg ((c % 2147483543 + 7) * (2 * (k : Int) + 3) ^ (3 : Int).toNat) (show (2147483489 : Int) ≠ 0 by omega)
        omega
      · have := Int.emod_lt_of_pos ((c % 2147483543 + 7) * (2 * (k : Int) + 3) ^ (3 : Int).toNat) (show (0 : Int) < 2147483489 by omega)
        omega
end
end My
namespace My
open PySem PySem.Spec PyProof.Rows L2 GL Evl StX SkE
theorem upsV_snoc (ps : List Nat) (d : Nat) : upsV ps ++ [nV d] = upsV (ps ++ [d]) := by
  unfold upsV
  rw [List.map_append, List.cons_append]
  rfl
section
variable {P : Program} {w : World} {K : PySem.W.Frag} {mg : Str → Option Value} {base : Heap} {C : Addr} {H : Hp}
/-- a draw -/
theorem dr {t : TA} {σ : L2.St} {Er : XK} {Q : VK} {a : Addr} {n : Nat} (h : EvA t σ H [.ref a, nV n]) (p : PotAt H a) (h1 : 1 ≤ n) (h2 : n ≤ 1000) (k : ∀ H' (d : Nat), ExB a H H' → PotAt H' a → d < n → Q (nV d) H') : tCall sp_Ldraw [] Er t σ H Q :=
  h H (Ex.refl H) _ fun H1 e1 => ⟨a, n, rfl, p.ex e1, h1, h2, fun H' d x p' hd => k H' d ((ExB.of e1).trans x) p' hd⟩
theorem app_raw {to te : TE} {σ : L2.St} {Q : VK} {l : Addr} (h : Ev to σ H (.ref l)) {xs : List V} (hl : H l = some (.lst xs)) (k : ∀ H1, Ex H H1 → te σ H1 fun v H2 => rAppend (.ref l) [v] H2 Q) : tBM K "list" rAppend to (tCons te tNil) σ H Q :=
  h H (Ex.refl H) _ fun H1 e1 => ⟨Or.inl ⟨rfl, xs, sq_of (e1 l _ hl)⟩, k H1 e1⟩
theorem ok_Lups (T : Txt K mg) (G_Ldraw : FnG P w K mg base CX0 1 T.f_Ldraw T.fd_Ldraw ["_law_pot_here", "_law_sides"] sp_Ldraw) : FnG P w K mg base CX0 2 T.f_Lups T.fd_Lups ["_law_pot_here", "_law_most"] sp_Lups := by
  refine okG T.F_Lups sc_Lups (fun vs H Q E h => ?_) (fun cdv A outer s H vs Q E gd hr h => ?_)
  · obtain ⟨_, _, rfl, _⟩ := h
    all_goals rfl
  · obtain ⟨a, n, rfl, hp, hn, q⟩ := h
    refine ⟨_, (pss_cons (ps_set (i := 2) sc_Lups.nd rfl (Or.inl rfl) (pe_lst (pa_cons pe_non pa_nil))) (pss_cons (ps_for PassesOwn.never rfl (pi_range1 (by rfl) T.z_range (pa_cons (pc gd G_Ldraw (hr.mono (by decide)) (by rfl) T.m_Ldraw T.F_Ldraw.kp T.b_Ldraw .nil pass0 (pa_cons (pv 0) (pa_cons (pe_op op_add (pv 1) pe_int) pa_nil))) pa_nil)) (pg_name (i := 3) sc_Lups.nd rfl (Or.inl rfl) (Or.inr rfl)) (pss_one (ps_expr (pe_bm PySem.F.plainAttrs_list PySem.F.slot_list_append PySem.F.type_list_append mt_append (pv 2) (pa_cons (pc gd G_Ldraw (hr.mono (by decide)) (by rfl) T.m_Ldraw T.F_Ldraw.kp T.b_Ldraw .nil pass0 (pa_cons (pv 0) (pa_cons (pe_callB call_len_seq (by rfl) T.z_len PySem.boot_len (pa_cons (pv 2) pa_nil)) pa_nil))) pa_nil))))) (pss_one (ps_ret (pv 2))))), ?_⟩
    refine q_asgL (xs := [.non]) (el_lst (ea_cons ev_c ea_nil) (by show 1 ≤ 100000; omega)) fun r H2 hr e2 h2 => ?_
    have nar : r ≠ a := by
      obtain ⟨x, y, hx, _⟩ := hp
      exact ne_of_none' hx hr
    refine dr (n := n + 1) (ea_cons (ev_var rfl) (ea_cons (ev_is (ev_op (ev_var rfl) ev_c rv_I0) rfl) ea_nil)) (hp.ex e2) (by omega) (by omega) fun H3 d x3 p3 hd => ⟨d, rfl, by omega, by omega, ?_⟩
    refine for_range (lo := 0) (n := (d : Int).toNat) (fun i σ' H' => ∃ ps y, σ' = [some (.ref a), some (nV n), some (.ref r), y] ∧ ExB a H H' ∧ PotAt H' a ∧ H' r = some (.lst (upsV ps)) ∧ Good ps ∧ ps.length = i) ⟨[], _, rfl, (ExB.of e2).trans x3, p3, x3 _ _ nar h2, Good.nil, rfl⟩ (fun i σ' H' hi z => ?_) (fun σ' H' z => ?_)
    · obtain ⟨ps, y, rfl, x4, p4, h4, g4, rfl⟩ := z
      refine app_raw (l := r) (ev_var rfl) h4 fun H5 e5 => ?_
      refine dr (n := ps.length + 1) (ea_cons (ev_var rfl) (ea_cons (ev_is (ev_cb (ea_cons (ev_var rfl) ea_nil) (rc_len (Seq.lst (e5 _ _ h4)))) (by rw [upsV_len])) ea_nil)) (p4.ex e5) (by omega) (by omega) fun H6 d6 x6 p6 hd6 => ⟨r, _, _, rfl, rfl, x6 _ _ nar (e5 _ _ h4), sz_lt (by rw [upsV_len]; omega), ?_⟩
      refine ⟨ps ++ [d6], _, rfl, ?_, ?_, ?_, g4.snoc (by omega), by rw [List.length_append, List.length_singleton]⟩
      · exact ((x4.trans (ExB.of e5)).trans x6).mut hr
      · obtain ⟨x, y, hx, hh⟩ := p6
        exact ⟨x, y, by rw [upd_ne nar.symm]; exact hx, hh⟩
      · rw [upd_same, upsV_snoc]
    · obtain ⟨ps, y, rfl, x4, p4, h4, g4, hl⟩ := z
      exact s_ret (ev_var rfl) fun H5 e5 => q H5 r ps hr (x4.trans (ExB.of e5)) (p4.ex e5) (e5 _ _ h4) g4 (by omega)
theorem yes_raw {σ : L2.St} {A B : Hp → Prop} (h : A H) : tYes σ H fun b H3 => if b = true then A H3 else B H3 := by
  show if true = true then A H else B H
  exact iteT h
theorem el_raw {te : TE} {σ : L2.St} {Q : VK} {xs : List V} (h : EvL te σ H xs) (k : ∀ p H1, H p = none → Ex H H1 → H1 p = some (.lst xs) → Q (.ref p) H1) : te σ H Q := h H (Ex.refl H) Q k
theorem op_raw {r : R2} {ta tb : TE} {σ : L2.St} {Q : VK} (h : ta σ H fun x H1 => tb σ H1 fun y H2 => r x y H2 Q) : tOp r ta tb σ H Q := h
theorem el_rg1 {te : TE} {σ : L2.St} {n : Nat} (h : Ev te σ H (nV n)) (hn : n ≤ 1000) : EvL (tLstRg (tRg1 te)) σ H ((List.range n).map nV) := fun H1 e Q q => h H1 e _ fun H2 e2 => ⟨n, rfl, RgOk.of_le (by omega) (by omega) (by omega) (by omega), fun p hp => q p _ (fresh_back e2 hp) (e2.trans (Ex.new hp)) (by
  rw [upd_same]
  unfold rgV
  rw [show ((n : Int) - 0).toNat = n by omega]
  congr 2
  refine List.map_congr_left fun i _ => ?_
  show V.int _ = V.int _
  congr 1
  omega)⟩
theorem test_raw {te : TE} {σ : L2.St} {Q : Bool → Hp → Prop} (h : te σ H fun x H' => ∃ k, x = .bl k ∧ Q k H') : tTest te σ H Q := h
theorem good_shape {l : Nat} {ds : List Nat} (h : ∀ x ∈ ds, x ≤ l) : Good (List.range l ++ ds) := by
  intro i hi
  rw [List.getD_eq_getElem?_getD]
  by_cases e : i < l
  · rw [List.getElem?_append_left (by rw [List.length_range]; exact e), List.getElem?_range e]
    exact Nat.le_refl _
  · rw [List.getElem?_append_right (by rw [List.length_range]; omega), List.length_range]
    rw [List.length_append, List.length_range] at hi
    rw [List.getElem?_eq_getElem (by omega)]
    have := h _ (List.getElem_mem (by omega : i - l < ds.length))
    show ds[i - l] ≤ i
    omega

end
end My
namespace My
open PySem PySem.Spec PyProof.Rows L2 GL Evl StX SkE
/-! ### what repr shows of a flat list -/
def fd : V → PyData
  | .int i => .int i
  | .str x => .str x
  | .bl b => .bool b
  | _ => .none
theorem fd_dp {K : PySem.W.Frag} {H : Hp} : ∀ {x : V}, flatV x = true → Dp K H x (fd x)
  | .non, _ => .non
  | .bl b, _ => .bl b
  | .int i, _ => .int i
  | .str x, _ => .str x
  | .byt _, h => by cases h
  | .flt _, h => by cases h
  | .ref _, h => by cases h
  | .ty _, h => by cases h
theorem fd_all {K : PySem.W.Frag} {H : Hp} : ∀ {xs : List V}, xs.all flatV = true → DpAll K H xs (xs.map fd)
  | [], _ => .nil
  | x :: xs, h => by
    rw [List.all_cons, Bool.and_eq_true] at h
    exact .cons (fd_dp h.1) (fd_all h.2)
/-- a short value: shown by at most 40 signs -/
def Shrt (x : V) : Prop := flatV x = true ∧ (fd x).showable = true ∧ (fd x).hasDict = false ∧ (fd x).depth ≤ 0 ∧ (fd x).shown.length ≤ 40
theorem shrt_nat {n : Nat} (h : n ≤ 100000) : Shrt (nV n) := by
  refine ⟨rfl, ?_, ?_, ?_, ?_⟩
  · show (PyData.int (n : Int)).showable = true
    simp only [PyData.showable]
    refine decide_eq_true ?_
    rw [Int.natAbs_natCast]
    by_cases e : n = 0
    · subst e
      decide
    · exact (Nat.log2_lt e).mpr (Nat.lt_of_le_of_lt h (by
        have : 2 ^ 17 ≤ 2 ^ 1920 := Nat.pow_le_pow_right (by decide) (by decide)
        omega))
  · show (PyData.int (n : Int)).hasDict = false
    simp only [PyData.hasDict]
  · show (PyData.int (n : Int)).depth ≤ 0
    simp only [PyData.depth]
    omega
  · have := PyData.shown_int_le2 (i := (n : Int)) (by omega) (by omega)
    show (PyData.int (n : Int)).shown.length ≤ 40
    omega
theorem shrt_bl (b : Bool) : Shrt (.bl b) := by
  refine ⟨rfl, ?_, ?_, ?_, ?_⟩
  · show (PyData.bool b).showable = true
    simp only [PyData.showable]
  · show (PyData.bool b).hasDict = false
    simp only [PyData.hasDict]
  · show (PyData.bool b).depth ≤ 0
    simp only [PyData.depth]
    omega
  · show (PyData.bool b).shown.length ≤ 40
    cases b <;> decide +kernel
theorem shrt_word (z : Nat) : Shrt (.str (word z)) := by
  have w : word z = "below" ∨ word z = "here" ∨ word z = "out" := by
    unfold word
    split
    · exact .inl rfl
    · split
      · exact .inr (.inl rfl)
      · exact .inr (.inr rfl)
  refine ⟨rfl, ?_, ?_, ?_, ?_⟩
  · show (PyData.str (word z)).showable = true
    simp only [PyData.showable]
  · show (PyData.str (word z)).hasDict = false
    simp only [PyData.hasDict]
  · show (PyData.str (word z)).depth ≤ 0
    simp only [PyData.depth]
    omega
  · show (PyData.str (word z)).shown.length ≤ 40
    rcases w with w | w | w <;> rw [w] <;> decide +kernel
theorem text_len (B : Nat) : ∀ (ts : List Str) (k : Nat) (acc : Str), (∀ t ∈ ts, t.length ≤ B) → (textFrom k acc ts).length ≤ acc.length + ts.length * (B + 2)
  | [], k, acc, _ => by
    show acc.length ≤ acc.length + 0 * (B + 2)
    omega
  | t :: r, k, acc, h => by
    have ih := text_len B r (k + 1) (acc ++ (if k > 0 then ", " else "" : String) ++ t) fun y hy => h y (List.mem_cons_of_mem _ hy)
    have ht := h t List.mem_cons_self
    have e2 : (Str.ofString (if k > 0 then ", " else "")).length ≤ 2 := by
      split <;> decide
    rw [Str.length_append, Str.length_append] at ih
    show (textFrom (k + 1) (acc ++ (if k > 0 then ", " else "" : String) ++ t) r).length ≤ acc.length + (r.length + 1) * (B + 2)
    rw [Nat.add_mul, Nat.one_mul]
    omega
theorem list_text_len {B : Nat} {ts : List Str} (h : ∀ t ∈ ts, t.length ≤ B) : (listText ts).length ≤ ts.length * (B + 2) + 2 := by
  have q := text_len B ts 0 "[" h
  have e1 : (Str.ofString "[").length = 1 := by decide
  have e2 : (Str.ofString "]").length = 1 := by decide
  unfold listText
  rw [Str.length_append, e2]
  omega
theorem shownAll_mem : ∀ {ds : List PyData} {t : Str}, t ∈ PyData.shownAll ds → ∃ d ∈ ds, t = d.shown
  | [], t, h => by
    simp only [PyData.shownAll] at h
    cases h
  | d :: ds, t, h => by
    simp only [PyData.shownAll] at h
    rcases List.mem_cons.mp h with z | z
    · exact ⟨d, List.mem_cons_self, z⟩
    · obtain ⟨e, he, q⟩ := shownAll_mem z
      exact ⟨e, List.mem_cons_of_mem _ he, q⟩
theorem shownAll_len : ∀ ds : List PyData, (PyData.shownAll ds).length = ds.length
  | [] => by simp only [PyData.shownAll, List.length_nil]
  | d :: ds => by
    simp only [PyData.shownAll, List.length_cons]
    rw [shownAll_len ds]
theorem showableAll_of : ∀ {ds : List PyData}, (∀ d ∈ ds, d.showable = true) → PyData.showableAll ds = true
  | [], _ => by simp only [PyData.showableAll]
  | d :: ds, h => by
    simp only [PyData.showableAll, Bool.and_eq_true]
    exact ⟨h d List.mem_cons_self, showableAll_of fun e he => h e (List.mem_cons_of_mem _ he)⟩
theorem hasDictAll_of : ∀ {ds : List PyData}, (∀ d ∈ ds, d.hasDict = false) → PyData.hasDictAll ds = false
  | [], _ => by simp only [PyData.hasDictAll]
  | d :: ds, h => by
    simp only [PyData.hasDictAll, Bool.or_eq_false_iff]
    exact ⟨h d List.mem_cons_self, hasDictAll_of fun e he => h e (List.mem_cons_of_mem _ he)⟩
theorem depthAll_of : ∀ {ds : List PyData} {k : Nat}, (∀ d ∈ ds, d.depth ≤ k) → PyData.depthAll ds ≤ k
  | [], _, _ => by
    simp only [PyData.depthAll]
    omega
  | d :: ds, k, h => by
    simp only [PyData.depthAll]
    have h1 := h d List.mem_cons_self
    have h2 := depthAll_of (ds := ds) (k := k) fun e he => h e (List.mem_cons_of_mem _ he)
    omega
def shw (xs : List V) : Str := (PyData.list (xs.map fd)).shown
section
variable {K : PySem.W.Frag} {σ : L2.St} {H : Hp} {te : TE} {xs : List V}
theorem rc_repr {p : Addr} (h : SqL K H p xs) (hx : ∀ x ∈ xs, Shrt x) (hl : xs.length ≤ 1000) : RC (rRepr K) [.ref p] H (.str (shw xs)) := fun H1 e Q q => by
  have hm : ∀ d ∈ xs.map fd, ∃ x ∈ xs, d = fd x := fun d hd => by
    obtain ⟨x, h1, h2⟩ := List.mem_map.mp hd
    exact ⟨x, h1, h2.symm⟩
  refine ⟨.ref p, .list (xs.map fd), rfl, .lst (ex_l e h) (fd_all (List.all_eq_true.mpr fun x hx' => (hx x hx').1)), rfl, ?_, ?_, ?_, ?_, q H1 (Ex.refl H1)⟩
  · simp only [PyData.showable]
    exact showableAll_of fun d hd => by
      obtain ⟨x, h1, rfl⟩ := hm d hd
      exact (hx x h1).2.1
  · simp only [PyData.hasDict]
    exact hasDictAll_of fun d hd => by
      obtain ⟨x, h1, rfl⟩ := hm d hd
      exact (hx x h1).2.2.1
  · simp only [PyData.depth]
    have := depthAll_of (ds := xs.map fd) (k := 0) fun d hd => by
      obtain ⟨x, h1, rfl⟩ := hm d hd
      exact (hx x h1).2.2.2.1
    omega
  · simp only [PyData.shown]
    have := list_text_len (B := 40) (ts := PyData.shownAll (xs.map fd)) fun t ht => by
      obtain ⟨d, hd, rfl⟩ := shownAll_mem ht
      obtain ⟨x, h1, rfl⟩ := hm d hd
      exact (hx x h1).2.2.2.2
    rw [shownAll_len, List.length_map] at this
    exact sz_of (by omega)
theorem ev_repr (h : EvL te σ H xs) (hx : ∀ x ∈ xs, Shrt x) (hl : xs.length ≤ 1000) : Ev (tCB (rRepr K) (tCons te tNil)) σ H (.str (shw xs)) := fun H1 e Q q =>
  h H1 e _ fun p H2 hp e2 h2 => rc_repr (sq_of h2) hx hl H2 (Ex.refl H2) Q fun H3 e3 => q H3 (e2.trans e3)
theorem ev_reprV {p : Addr} (h : Ev te σ H (.ref p)) (hs : SqL K H p xs) (hx : ∀ x ∈ xs, Shrt x) (hl : xs.length ≤ 1000) : Ev (tCB (rRepr K) (tCons te tNil)) σ H (.str (shw xs)) := ev_cb (ea_cons h ea_nil) (rc_repr hs hx hl)
/-- two texts that are one: not unlike -/
theorem et_same {ta tb : TE} {s : Str} (ha : Ev ta σ H (.str s)) (hb : Ev tb σ H (.str s)) : EvT (tTest (tOp rNe ta tb)) σ H false := et_test (ev_is (ev_op ha hb (rv_ne rfl)) (by rw [decide_eq_true rfl]; rfl))
end
end My
namespace My
open PySem PySem.Spec PyProof.Rows L2 GL Evl StX SkE
def sp_Lseen (K : PySem.W.Frag) (C : Addr) : Sp := fun vs H Q _ => ∃ t u ps st, ∃ w : Nat, vs = [.ref t, .ref u, nV w] ∧ TreeAt C H t ps st ∧ SqL K H u (upsV ps) ∧ Good ps ∧ ps.length ≤ 50 ∧ w ≤ ps.length ∧ RetV (.bl true) H Q
def sp_Ldepths (K : PySem.W.Frag) (C : Addr) : Sp := fun vs H Q _ => ∃ t u ps st, vs = [.ref t, .ref u] ∧ TreeAt C H t ps st ∧ SqL K H u (upsV ps) ∧ Good ps ∧ ps.length ≤ 50 ∧ RetV (.bl true) H Q
def sp_Lall (K : PySem.W.Frag) (C : Addr) : Sp := fun vs H Q _ => ∃ t u ps st, vs = [.ref t, .ref u] ∧ TreeAt C H t ps st ∧ SqL K H u (upsV ps) ∧ Good ps ∧ ps.length ≤ 50 ∧ RetV (.bl true) H Q
def sp_Lright : Sp := fun vs H Q _ => ∃ a, vs = [.ref a] ∧ PotAt H a ∧ ∀ H', ExB a H H' → Q (.bl true) H'
def sp_law (K : PySem.W.Frag) : Sp := fun vs H Q _ => ∃ (a : Addr) (ns : List Int), vs = [.ref a] ∧ SqL K H a (ns.map V.int) ∧ ns.length ≤ 63 ∧ ∀ H', Q (.bl true) H'
theorem roomU {k : Nat} {A : Around} (h : Room k A) : A.units + 64 < cLine := by
  have := h.un
  omega
theorem given_all (n : Nat) (v : Nat → V) : given n (fun _ => true) v = (List.range n).map v := by
  unfold given
  rw [List.filter_eq_self.mpr (fun _ _ => rfl)]
theorem given_congr {n : Nat} {f : Nat → Bool} {v v' : Nat → V} (h : ∀ i, i < n → v i = v' i) : given n f v = given n f v' := by
  unfold given
  exact List.map_congr_left fun i hi => h i (List.mem_range.mp (List.mem_filter.mp hi).1)
theorem canLay_nats : ∀ l : List Nat, PyData.canLayAll0 ((l.map nV).map fd) = true
  | [] => by simp only [List.map_nil, PyData.canLayAll0]
  | n :: l => by
    have ih := canLay_nats l
    simp only [List.map_cons, PyData.canLayAll0, Bool.and_eq_true]
    exact ⟨by show (PyData.int (n : Int)).canLay0 = true; simp only [PyData.canLay0], ih⟩
theorem depth_nats : ∀ l : List Nat, PyData.depthAll ((l.map nV).map fd) ≤ 0 := fun l => depthAll_of fun d hd => by
  obtain ⟨x, hx, rfl⟩ := List.mem_map.mp hd
  obtain ⟨n, _, rfl⟩ := List.mem_map.mp hx
  show (PyData.int (n : Int)).depth ≤ 0
  simp only [PyData.depth]
  omega
theorem eqv_nats : ∀ l : List Nat, PyData.eqvAll ((l.map nV).map fd) ((l.map nV).map fd) = true
  | [] => by simp only [List.map_nil, PyData.eqvAll]
  | n :: l => by
    have ih := eqv_nats l
    simp only [List.map_cons, PyData.eqvAll, Bool.and_eq_true]
    exact ⟨by show PyData.eqv (.int (n : Int)) (.int (n : Int)) = true; simp only [PyData.eqv, beq_self_eq_true], ih⟩
theorem shaped_nats (l : List Nat) : SeqAt.shaped (.list ((l.map nV).map fd)) = true := by
  have h1 := canLay_nats l
  have h2 := depth_nats l
  show (PyData.canLay0 (.list ((l.map nV).map fd)) && decide (PyData.depth (.list ((l.map nV).map fd)) ≤ 64)) = true
  rw [Bool.and_eq_true]
  refine ⟨by simp only [PyData.canLay0]; exact h1, decide_eq_true ?_⟩
  simp only [PyData.depth]
  omega
section
variable {P : Program} {w : World} {K : PySem.W.Frag} {mg : Str → Option Value} {base : Heap} {C : Addr} {H : Hp} {σ : L2.St}
theorem rv_eqN {p q : Addr} {l : List Nat} (hp : SqL K H p (l.map nV)) (hq : SqL K H q (l.map nV)) : RV (rEqD K) (.ref p) (.ref q) H (.bl true) := fun H1 e Q k => by
  refine ⟨.list ((l.map nV).map fd), .list ((l.map nV).map fd), .lst (ex_l e hp) (fd_all (flat_nat l)), .lst (ex_l e hq) (fd_all (flat_nat l)), shaped_nats l, shaped_nats l, ?_⟩
  simp only [PyData.eqv]
  rw [eqv_nats]
  exact k H1 (Ex.refl H1)
theorem et_yes : EvT tYes σ H true := fun H1 _ _ q => q H1 (Ex.refl H1)
theorem sv_seen {t u : Addr} {ps st : List Nat} {s : Nat} (ht : TreeAt C H t ps st) (hu : SqL K H u (upsV ps)) (hp : Good ps) (hl : ps.length ≤ 50) (hs : s ≤ ps.length) : SpV (sp_Lseen K C) [.ref t, .ref u, nV s] H (.bl true) := fun _ e _ q _ => ⟨t, u, ps, st, s, rfl, ht.ex e, ex_l e hu, hp, hl, hs, q⟩
theorem sv_depths {t u : Addr} {ps st : List Nat} (ht : TreeAt C H t ps st) (hu : SqL K H u (upsV ps)) (hp : Good ps) (hl : ps.length ≤ 50) : SpV (sp_Ldepths K C) [.ref t, .ref u] H (.bl true) := fun _ e _ q _ => ⟨t, u, ps, st, rfl, ht.ex e, ex_l e hu, hp, hl, q⟩
theorem sv_all {t u : Addr} {ps st : List Nat} (ht : TreeAt C H t ps st) (hu : SqL K H u (upsV ps)) (hp : Good ps) (hl : ps.length ≤ 50) : SpV (sp_Lall K C) [.ref t, .ref u] H (.bl true) := fun _ e _ q _ => ⟨t, u, ps, st, rfl, ht.ex e, ex_l e hu, hp, hl, q⟩
theorem ea_len {u : Addr} {ps : List Nat} {te : TE} (h : Ev te σ H (.ref u)) (hu : SqL K H u (upsV ps)) : Ev (tCB (rLenS K) (tCons te tNil)) σ H (nV (ps.length + 1)) := ev_is (ev_len h hu) (by rw [upsV_len])
theorem mem_range_nV {n : Nat} {g : Nat → Nat} {f : Nat → V} (hf : ∀ i, Shrt (f i)) : ∀ x ∈ (List.range n).map f, Shrt x := fun x hx => by
  obtain ⟨i, _, rfl⟩ := List.mem_map.mp hx
  exact hf i

end
end My
namespace My
open PySem PySem.Spec PyProof.Rows L2 GL Evl StX SkE
section
variable {P : Program} {w : World} {K : PySem.W.Frag} {mg : Str → Option Value} {base : Heap} {C : Addr} {H : Hp} {σ : L2.St}
theorem small_log (n : Nat) (h : n ≤ 100000) : (n : Int).natAbs.log2 < 1920 := by
  rw [Int.natAbs_natCast]
  by_cases e : n = 0
  · subst e
    decide
  · exact (Nat.log2_lt e).mpr (Nat.lt_of_le_of_lt h (by
      have : 2 ^ 17 ≤ 2 ^ 1920 := Nat.pow_le_pow_right (by decide) (by decide)
      omega))
theorem rc_repr_nat {n : Nat} (h : n ≤ 100000) : RC (fun xs H Q => ∃ i, xs = [V.int i] ∧ i.natAbs.log2 < 1920 ∧ Q (.str (toString i)) H) [nV n] H (.str (toString (n : Int))) := fun H1 _ Q q => ⟨n, rfl, small_log n h, q H1 (Ex.refl H1)⟩
theorem rc_allT {p : Addr} {n : Nat} (h : H p = some (.lst (List.replicate n (V.bl true)))) : RC (rAll K) [.ref p] H (.bl true) := fun H1 e Q q => ⟨p, List.replicate n true, rfl, sq_of (by rw [e _ _ h, List.map_replicate]), by
  have : (List.replicate n true).all id = true := by
    rw [List.all_replicate]
    cases n <;> rfl
  rw [this]
  exact q H1 (Ex.refl H1)⟩
theorem given_true (n : Nat) : given n (fun _ => true) (fun _ => V.bl true) = List.replicate n (V.bl true) := by
  rw [given_all, List.map_const', List.length_range]
theorem mk1_raw {tl : TE} {xs dvs : List V} {sp : Sp} {Er : XK} {Q : VK} (h : EvL tl σ H xs) (k : ∀ r H1, H r = none → Ex H H1 → H1 r = some (.lst xs) → ∀ x dx, H1 x = none → H1 dx = none → dx ≠ x → sp (.ref x :: ([.ref r] ++ dvs)) (upd (upd H1 dx (.own x)) x (.ins C dx [])) (fun v H2 => v = .non ∧ Q (.ref x) H2) Er) : tMake C sp dvs Er (tCons tl tNil) σ H Q := h H (Ex.refl H) _ k
theorem ev_allL {te : TE} {n : Nat} (h : EvL te σ H (List.replicate n (V.bl true))) : Ev (tCB (rAll K) (tCons te tNil)) σ H (.bl true) := fun H1 e Q q => h H1 e _ fun p H2 hp e2 h2 => rc_allT h2 H2 (Ex.refl H2) Q fun H3 e3 => q H3 (e2.trans e3)
theorem rc_min2 {i j : Int} : RC (fun xs H Q => ∃ i j, xs = [V.int i, V.int j] ∧ Q (.int (if j < i then j else i)) H) [.int i, .int j] H (.int (if j < i then j else i)) := fun H1 _ Q q => ⟨i, j, rfl, q H1 (Ex.refl H1)⟩
theorem el_catV {ta tb : TE} {l : Addr} {xs zs : List V} (ha : Ev ta σ H (.ref l)) (hl0 : H l = some (.lst xs)) (hb : ∀ H1, Ex H H1 → EvL tb σ H1 zs) (hl : xs.length + zs.length ≤ 100000) : EvL (tOp rCat ta tb) σ H (xs ++ zs) := fun H1 e Q q =>
  ha H1 e _ fun H2 e2 => hb H2 (e.trans e2) H2 (Ex.refl H2) _ fun b H3 hb3 e3 h3 => ⟨l, b, xs, zs, rfl, rfl, e3 _ _ (e2 _ _ (e _ _ hl0)), h3, sz_of hl, fun p hp => q p _ (fresh_back (e2.trans e3) hp) ((e2.trans e3).trans (Ex.new hp)) upd_same⟩
theorem ev_seenN {ta tb tc : TE} {t : Addr} {ps st : List Nat} {s : Nat} {Er : XK} (ha : Ev ta σ H (.ref t)) (hc : Ev tc σ H (nV s)) (hb : EvL tb σ H (upsV ps)) (ht : TreeAt C H t ps st) (hp : Good ps) (hl : ps.length ≤ 50) (hs : s ≤ ps.length) : Ev (tCall (sp_Lseen K C) [] Er (tCons ta (tCons tb (tCons tc tNil)))) σ H (.bl true) := fun H1 e Q q =>
  ha H1 e _ fun H2 e2 => hb H2 (e.trans e2) _ fun u H3 hu e3 h3 => hc H3 ((e.trans e2).trans e3) _ fun H4 e4 => ⟨t, u, ps, st, s, rfl, ht.ex (((e.trans e2).trans e3).trans e4), sq_of (e4 _ _ h3), hp, hl, hs, fun H5 e5 => q H5 (((e2.trans e3).trans e4).trans e5)⟩
theorem ev_rightPot {ta tb : TE} {a : Addr} {ns : List Int} {k : Nat} {Er Er' : XK} (ha : Ev ta σ H (.ref a)) (hb : Ev tb σ H (.int (k : Int))) (hs : SqL K H a (ns.map V.int)) (hl : ns.length ≤ 63) (hk : k < 3) : Ev (tCall sp_Lright [] Er (tCons (tCall (sp_Lpot K) [] Er' (tCons ta (tCons tb tNil))) tNil)) σ H (.bl true) := fun H1 e Q q =>
  ha H1 e _ fun H2 e2 => hb H2 (e.trans e2) _ fun H3 e3 => ⟨a, ns, k, rfl, ex_l ((e.trans e2).trans e3) hs, hl, hk, fun H4 p hp e4 p4 => ⟨p, rfl, p4, fun H5 x5 => q H5 ((e2.trans e3).trans (ExB.all e4 hp x5))⟩⟩




end
end My
namespace My
open PySem PySem.Spec PyProof.Rows L2 GL Evl StX SkE
/-! ### data that is short when shown -/
structure Sm (d : PyData) (k B : Nat) : Prop where
  sh : d.showable = true
  nd : d.hasDict = false
  de : d.depth ≤ k
  ln : d.shown.length ≤ B
theorem Shrt.sm {x : V} (h : Shrt x) : Sm (fd x) 0 40 := ⟨h.2.1, h.2.2.1, h.2.2.2.1, h.2.2.2.2⟩
theorem Sm.mono {d : PyData} {k B k' B' : Nat} (h : Sm d k B) (hk : k ≤ k') (hB : B ≤ B') : Sm d k' B' := ⟨h.sh, h.nd, Nat.le_trans h.de hk, Nat.le_trans h.ln hB⟩
theorem sm_list {ds : List PyData} {k B : Nat} (h : ∀ d ∈ ds, Sm d k B) : Sm (.list ds) (k + 1) (ds.length * (B + 2) + 2) := by
  refine ⟨?_, ?_, ?_, ?_⟩
  · simp only [PyData.showable]
    exact showableAll_of fun d hd => (h d hd).sh
  · simp only [PyData.hasDict]
    exact hasDictAll_of fun d hd => (h d hd).nd
  · simp only [PyData.depth]
    have := depthAll_of (ds := ds) (k := k) fun d hd => (h d hd).de
    omega
  · simp only [PyData.shown]
    have := list_text_len (B := B) (ts := PyData.shownAll ds) fun t ht => by
      obtain ⟨d, hd, rfl⟩ := shownAll_mem ht
      exact (h d hd).ln
    rw [shownAll_len] at this
    exact this
theorem sm_flat {xs : List V} {n : Nat} (hx : ∀ x ∈ xs, Shrt x) (hl : xs.length ≤ n) : Sm (.list (xs.map fd)) 1 (n * 42 + 2) := by
  have q := sm_list (ds := xs.map fd) (k := 0) (B := 40) fun d hd => by
    obtain ⟨x, h1, rfl⟩ := List.mem_map.mp hd
    exact (hx x h1).sm
  rw [List.length_map] at q
  exact q.mono (Nat.le_refl _) (by omega)
theorem shrt_flat {xs : List V} (hx : ∀ x ∈ xs, Shrt x) : xs.all flatV = true := List.all_eq_true.mpr fun x h => (hx x h).1
theorem shrt_nats {l : List Nat} (h : ∀ n ∈ l, n ≤ 100000) : ∀ x ∈ l.map nV, Shrt x := fun x hx => by
  obtain ⟨n, hn, rfl⟩ := List.mem_map.mp hx
  exact shrt_nat (h n hn)
def shw2 (xs ys : List V) : Str := (PyData.list [PyData.list (xs.map fd), PyData.list (ys.map fd)]).shown
section
variable {P : Program} {w : World} {K : PySem.W.Frag} {mg : Str → Option Value} {base : Heap} {C : Addr} {H H' : Hp} {σ : L2.St} {te tb ta : TE} {xs ys : List V} {v : V} {D : Ends} {tz : TS}
theorem rc_reprD {d : PyData} {k B : Nat} (hd : ∀ H1, Ex H H1 → Dp K H1 v d) (h1 : isDisplay d = true) (s : Sm d k B) (hk : k ≤ 60) (hB : B ≤ 100000) : RC (rRepr K) [v] H (.str d.shown) := fun H1 e Q q =>
  ⟨v, d, rfl, hd H1 e, h1, s.sh, s.nd, Nat.le_trans s.de hk, sz_of (Nat.le_trans s.ln hB), q H1 (Ex.refl H1)⟩
theorem dp_pair {p a b : Addr} (h : SqL K H p [.ref a, .ref b]) (ha : SqL K H a xs) (hb : SqL K H b ys) (hx : ∀ x ∈ xs, Shrt x) (hy : ∀ x ∈ ys, Shrt x) : Dp K H (.ref p) (.list [.list (xs.map fd), .list (ys.map fd)]) :=
  .lst h (.cons (.lst ha (fd_all (shrt_flat hx))) (.cons (.lst hb (fd_all (shrt_flat hy))) .nil))
theorem sm_pair (hx : ∀ x ∈ xs, Shrt x) (hy : ∀ x ∈ ys, Shrt x) (lx : xs.length ≤ 200) (ly : ys.length ≤ 200) : Sm (.list [.list (xs.map fd), .list (ys.map fd)]) 2 20000 := by
  refine (sm_list (k := 1) (B := 8402) fun d hd => ?_).mono (Nat.le_refl _) (by show 2 * (8402 + 2) + 2 ≤ 20000; omega)
  rcases List.mem_cons.mp hd with rfl | hd
  · exact sm_flat hx lx
  · rw [List.mem_singleton.mp hd]
    exact sm_flat hy ly
theorem rc_repr2 {p a b : Addr} (h : SqL K H p [.ref a, .ref b]) (ha : SqL K H a xs) (hb : SqL K H b ys) (hx : ∀ x ∈ xs, Shrt x) (hy : ∀ x ∈ ys, Shrt x) (lx : xs.length ≤ 200) (ly : ys.length ≤ 200) : RC (rRepr K) [.ref p] H (.str (shw2 xs ys)) :=
  rc_reprD (fun H1 e => dp_pair (ex_l e h) (ex_l e ha) (ex_l e hb) hx hy) rfl (sm_pair hx hy lx ly) (by omega) (by omega)
/-- the text of a new list of two lists -/
theorem ev_repr2 {a b : Addr} (h : EvL te σ H [.ref a, .ref b]) (ha : SqL K H a xs) (hb : SqL K H b ys) (hx : ∀ x ∈ xs, Shrt x) (hy : ∀ x ∈ ys, Shrt x) (lx : xs.length ≤ 200) (ly : ys.length ≤ 200) : Ev (tCB (rRepr K) (tCons te tNil)) σ H (.str (shw2 xs ys)) := fun H1 e Q q =>
  h H1 e _ fun p H2 _ e2 h2 => rc_repr2 (sq_of h2) (ex_l (e.trans e2) ha) (ex_l (e.trans e2) hb) hx hy lx ly H2 (Ex.refl H2) Q fun H3 e3 => q H3 (e2.trans e3)
/-! ### f-strings -/
theorem ej_cons {t : TE} {ts : List TE} {acc y : Str} {Q : Str → Hp → Prop} (h : Ev t σ H (.str y)) (hl : (acc ++ y).length ≤ 100000) (k : ∀ H1, Ex H H1 → tJs ts (acc ++ y) σ H1 Q) : tJs (t :: ts) acc σ H Q := h H (Ex.refl H) _ fun H1 e => ⟨y, rfl, sz_of hl, k H1 e⟩
theorem ev_fmtL (h : EvL te σ H xs) (hx : ∀ x ∈ xs, Shrt x) (hl : xs.length ≤ 200) : Ev (tFmtD K te) σ H (.str (shw xs)) := fun H1 e Q q =>
  h H1 e _ fun p H2 _ e2 h2 => ⟨.list (xs.map fd), .lst (sq_of h2) (fd_all (shrt_flat hx)), rfl, (sm_flat hx hl).sh, (sm_flat hx hl).nd, Nat.le_trans (sm_flat hx hl).de (by omega), sz_of (Nat.le_trans (sm_flat hx hl).ln (by omega)), q H2 e2⟩
theorem ev_fmtV {p : Addr} (h : Ev te σ H (.ref p)) (hs : SqL K H p xs) (hx : ∀ x ∈ xs, Shrt x) (hl : xs.length ≤ 200) : Ev (tFmtD K te) σ H (.str (shw xs)) := fun H1 e Q q =>
  h H1 e _ fun H2 e2 => ⟨.list (xs.map fd), .lst (ex_l (e.trans e2) hs) (fd_all (shrt_flat hx)), rfl, (sm_flat hx hl).sh, (sm_flat hx hl).nd, Nat.le_trans (sm_flat hx hl).de (by omega), sz_of (Nat.le_trans (sm_flat hx hl).ln (by omega)), q H2 e2⟩
def tsh (ps st : List Nat) : Str := ((((Str.empty ++ Str.ofString "Tree(") ++ shw (ps.map nV)) ++ Str.ofString ", ") ++ shw (st.map nV)) ++ Str.ofString ")"
theorem shw_len {xs : List V} (hx : ∀ x ∈ xs, Shrt x) (hl : xs.length ≤ 200) : (shw xs).length ≤ 8402 := (sm_flat hx hl).ln
def sp_Trepr (C : Addr) : Sp := fun vs H Q _ => ∃ t ps st, vs = [.ref t] ∧ TreeAt C H t ps st ∧ Good ps ∧ ps.length ≤ 199 ∧ st.length ≤ 199 ∧ (∀ g ∈ st, g ≤ 199) ∧ RetV (.str (tsh ps st)) H Q
theorem ok_Trepr (T : Txt K mg) (G_Tparents : FnG P w K mg base CX0 1 T.f_Tparents T.fd_Tparents ["self"] (sp_Tparents T.C)) : FnG P w K mg base CX0 2 T.f_Trepr T.fd_Trepr ["self"] (sp_Trepr T.C) := by
  refine okG T.F_Trepr sc_Trepr (fun vs H Q E h => ?_) (fun cdv A outer s H vs Q E gd hr h => ?_)
  · obtain ⟨_, _, _, rfl, _⟩ := h
    all_goals rfl
  · obtain ⟨t, ps, st, rfl, ht, hp, hl, hs, hb, q⟩ := h
    refine ⟨_, (pss_one (ps_ret (pe_joined (.cons pe_str (.cons (pe_fmtD gd (roomU hr) (pm0 gd (pv 0) T.c_Tree T.M_Tparents G_Tparents (hr.mono (by decide)) T.b_Tparents .nil pass0)) (.cons pe_str (.cons (pe_fmtD gd (roomU hr) (pe_fld (pv 0) rfl)) (.cons pe_str .nil)))))))), ?_⟩
    obtain ⟨dx, la, ls, p⟩ := id ht
    have sx : ∀ x ∈ ps.map nV, Shrt x := shrt_nats fun n hn => by
      obtain ⟨i, hi, rfl⟩ := List.getElem_of_mem hn
      have := hp i hi
      rw [List.getD_eq_getElem?_getD, List.getElem?_eq_getElem hi] at this
      have : ps[i] ≤ i := this
      omega
    have sy : ∀ x ∈ st.map nV, Shrt x := shrt_nats fun n hn => by
      have := hb n hn
      omega
    have lx : (ps.map nV).length ≤ 200 := by rw [List.length_map]; omega
    have ly : (st.map nV).length ≤ 200 := by rw [List.length_map]; omega
    have bx := shw_len sx lx
    have bY := shw_len sy ly
    have e0 : (Str.empty ++ Str.ofString "Tree(").length = 5 := by decide
    have e1 : (Str.ofString ", ").length = 2 := by decide
    have e2 : (Str.ofString ")").length = 1 := by decide
    refine ej_cons ev_c (by rw [e0]; omega) fun H1 x1 => ?_
    refine ej_cons (ev_fmtL (xs := ps.map nV) (el_meth (ev_var rfl) (x1 _ _ p.ob) (tf_no la ls (by decide +kernel) (by decide +kernel)) ea_nil (sl_parents (ht.ex x1))) sx lx) (by rw [Str.length_append, e0]; omega) fun H2 x2 => ?_
    refine ej_cons ev_c (by rw [Str.length_append, Str.length_append, e0, e1]; omega) fun H3 x3 => ?_
    have x13 := x1.trans (x2.trans x3)
    refine ej_cons (ev_fmtV (xs := st.map nV) (ev_fld (ev_var rfl) (x13 _ _ p.ob) T.c_Tree T.n_struck (tf_struck la ls)) (sq_of (x13 _ _ p.sk)) sy ly) (by rw [Str.length_append, Str.length_append, Str.length_append, e0, e1]; omega) fun H4 x4 => ?_
    refine ej_cons ev_c (by rw [Str.length_append, Str.length_append, Str.length_append, Str.length_append, e0, e1, e2]; omega) fun H5 x5 => ?_
    exact q _ (x13.trans (x4.trans x5))
end
end My
namespace My
open PySem PySem.Spec PyProof.Rows L2 GL Evl StX SkE
/-! ### what two ways share -/
def kids (ps : List Nat) (g : Nat) : List Nat := (List.range (ps.length + 1)).filter fun c => decide ((upsV ps)[c]? = some (nV g))
theorem kids_mem {ps : List Nat} {g c : Nat} (h : c ∈ kids ps g) : 1 ≤ c ∧ c ≤ ps.length ∧ up ps c = g := by
  obtain ⟨h1, h2⟩ := List.mem_filter.mp h
  have h1 := List.mem_range.mp h1
  have h2 := of_decide_eq_true h2
  by_cases e : c = 0
  · subst e
    exact nomatch (Option.some.inj (show some V.non = some (nV g) from h2))
  · rw [ups_at (by omega) (by omega)] at h2
    have := V.int.inj (Option.some.inj h2)
    exact ⟨by omega, by omega, by omega⟩
theorem mem_kids {ps : List Nat} {c : Nat} (h1 : 1 ≤ c) (h2 : c ≤ ps.length) : c ∈ kids ps (up ps c) := List.mem_filter.mpr ⟨List.mem_range.mpr (by omega), decide_eq_true (ups_at (by omega) h2)⟩
def shared (ps : List Nat) (g s : Nat) : List Nat := (path ps g).filter fun x => decide (x ∈ path ps s)
def own (ps : List Nat) (g s : Nat) : List Nat := (path ps g).filter fun x => !decide (x ∈ path ps s)
theorem path_trans {ps : List Nat} (h : Good ps) : ∀ (n g : Nat), g ≤ n → g ≤ ps.length → ∀ x ∈ path ps g, ∀ y ∈ path ps x, y ∈ path ps g := by
  intro n
  induction n with
  | zero =>
    intro g h1 h2 x hx y hy
    have e : g = 0 := by omega
    subst e
    have q : x = 0 := List.mem_singleton.mp hx
    subst q
    exact hy
  | succ n ih =>
    intro g h1 h2 x hx y hy
    by_cases e : g = 0
    · subst e
      have q : x = 0 := List.mem_singleton.mp hx
      subst q
      exact hy
    · have u := up_lt h (by omega) h2
      rw [path_step h (by omega) h2] at hx
      rcases List.mem_cons.mp hx with r | r
      · subst r
        exact hy
      · rw [path_step h (by omega) h2]
        exact List.mem_cons_of_mem _ (ih (up ps g) (by omega) (by omega) x r y hy)
/-- what is apart, then what is common: the whole way -/
theorem own_shared {ps : List Nat} (h : Good ps) {s : Nat} (hs : s ≤ ps.length) : ∀ (n g : Nat), g ≤ n → g ≤ ps.length → own ps g s ++ shared ps g s = path ps g := by
  intro n
  induction n with
  | zero =>
    intro g h1 h2
    have e : g = 0 := by omega
    subst e
    unfold own shared
    rw [path_zero]
    by_cases m : (0 : Nat) ∈ path ps s
    · simp [m]
    · simp [m]
  | succ n ih =>
    intro g h1 h2
    by_cases e : g = 0
    · subst e
      exact ih 0 (Nat.zero_le _) h2
    · have u := up_lt h (by omega) h2
      have st := path_step h (show 0 < g by omega) h2
      by_cases m : g ∈ path ps s
      · have all : ∀ x ∈ path ps g, x ∈ path ps s := fun x hx => path_trans h s s (Nat.le_refl _) hs g m x hx
        unfold own shared
        rw [List.filter_eq_nil_iff.mpr (fun x hx => by rw [decide_eq_true (all x hx)]; decide), List.filter_eq_self.mpr (fun x hx => decide_eq_true (all x hx))]
        rfl
      · have q := ih (up ps g) (by omega) (by omega)
        unfold own shared at q ⊢
        rw [st, List.filter_cons, List.filter_cons, if_pos (by rw [decide_eq_false m]; rfl), if_neg (by rw [decide_eq_false m]; decide), List.cons_append, q]
theorem path_down {ps : List Nat} (h : Good ps) : ∀ (n g : Nat), g ≤ n → g ≤ ps.length → (path ps g).Pairwise (· ≥ ·) := by
  intro n
  induction n with
  | zero =>
    intro g h1 h2
    have e : g = 0 := by omega
    subst e
    exact List.pairwise_singleton _ _
  | succ n ih =>
    intro g h1 h2
    by_cases e : g = 0
    · subst e
      exact List.pairwise_singleton _ _
    · have u := up_lt h (by omega) h2
      rw [path_step h (by omega) h2]
      refine List.pairwise_cons.mpr ⟨fun x hx => ?_, ih _ (by omega) (by omega)⟩
      have := path_le h (by omega) hx
      omega
theorem shared_comm {ps : List Nat} (h : Good ps) {g s : Nat} (hg : g ≤ ps.length) (hs : s ≤ ps.length) : shared ps g s = shared ps s g := by
  have n1 : (shared ps g s).Nodup := List.Sublist.nodup List.filter_sublist (path_nodup h g g (Nat.le_refl _) hg)
  have n2 : (shared ps s g).Nodup := List.Sublist.nodup List.filter_sublist (path_nodup h s s (Nat.le_refl _) hs)
  have pm : (shared ps g s).Perm (shared ps s g) := by
    rw [List.perm_ext_iff_of_nodup n1 n2]
    intro x
    unfold shared
    rw [List.mem_filter, List.mem_filter, decide_eq_true_iff, decide_eq_true_iff]
    exact ⟨fun z => ⟨z.2, z.1⟩, fun z => ⟨z.2, z.1⟩⟩
  exact List.Perm.eq_of_pairwise (le := fun a b : Nat => a ≥ b) (fun x y _ _ h1 h2 => Nat.le_antisymm h2 h1) ((path_down h g g (Nat.le_refl _) hg).sublist List.filter_sublist) ((path_down h s s (Nat.le_refl _) hs).sublist List.filter_sublist) pm
theorem range_getD (l : List Nat) : ((List.range l.length).map fun i => l.getD i 0) = l := by
  refine List.ext_getElem (by rw [List.length_map, List.length_range]) fun i h1 h2 => ?_
  rw [List.getElem_map, List.getElem_range, List.getD_eq_getElem?_getD, List.getElem?_eq_getElem h2]
  rfl
/-- a comprehension over a list of numbers, by a word of the number -/
theorem given_filter (l : List Nat) (p : Nat → Bool) : given (l.map nV).length (fun i => p (l.getD i 0)) (fun i => nV (l.getD i 0)) = (l.filter p).map nV := by
  have q : (((List.range l.length).map fun i => l.getD i 0).filter p).map nV = (l.filter p).map nV := by rw [range_getD]
  rw [List.filter_map, List.map_map] at q
  unfold given
  rw [List.length_map]
  exact q
theorem StOk.more {ps st : List Nat} {g : Nat} (ok : StOk ps st) (h0 : 1 ≤ g) (h1 : g ≤ ps.length) (h : g ∉ st) (hk : ∀ c, 1 ≤ c → c ≤ ps.length → up ps c = g → c ∈ st) : StOk ps (st ++ [g]) := by
  refine ⟨?_, fun x hx => ?_, fun c a b hc => ?_⟩
  · exact List.nodup_append.mpr ⟨ok.nd, List.nodup_cons.mpr ⟨List.not_mem_nil, List.nodup_nil⟩, fun a ha b hb e => h (by rw [← List.mem_singleton.mp hb, ← e]; exact ha)⟩
  · rcases List.mem_append.mp hx with z | z
    · exact ok.bd x z
    · have := List.mem_singleton.mp z
      omega
  · rcases List.mem_append.mp hc with z | z
    · exact List.mem_append_left _ (ok.cl c a b z)
    · exact List.mem_append_left _ (hk c a b (List.mem_singleton.mp z))
theorem StOk.perm {ps st st' : List Nat} (ok : StOk ps st) (h : st'.Perm st) : StOk ps st' :=
  ⟨h.nodup_iff.mpr ok.nd, fun g hg => ok.bd g (h.mem_iff.mp hg), fun c a b hc => h.mem_iff.mpr (ok.cl c a b (h.mem_iff.mp hc))⟩
def sp_Tchildren (C : Addr) : Sp := fun vs H Q _ => ∃ t ps st, ∃ g : Nat, vs = [.ref t, nV g] ∧ TreeAt C H t ps st ∧ ps.length ≤ 199 ∧ g ≤ ps.length ∧ RetL ((kids ps g).map nV) H Q
def sp_Tcommon (C : Addr) : Sp := fun vs H Q _ => ∃ t ps st, ∃ g s : Nat, vs = [.ref t, nV g, nV s] ∧ TreeAt C H t ps st ∧ Good ps ∧ ps.length ≤ 199 ∧ g ≤ ps.length ∧ s ≤ ps.length ∧ RetL ((shared ps g s).map nV) H Q
def sp_Tapart (C : Addr) : Sp := fun vs H Q _ => ∃ t ps st, ∃ g s : Nat, vs = [.ref t, nV g, nV s] ∧ TreeAt C H t ps st ∧ Good ps ∧ ps.length ≤ 199 ∧ g ≤ ps.length ∧ s ≤ ps.length ∧ RetL ((own ps g s).map nV) H Q
def sp_Twith_struck (C : Addr) : Sp := fun vs H Q _ => ∃ t ps st, ∃ g : Nat, vs = [.ref t, nV g] ∧ TreeAt C H t ps st ∧ Good ps ∧ ps.length ≤ 199 ∧ 1 ≤ g ∧ g ≤ ps.length ∧ g ∉ st ∧ (∀ c, 1 ≤ c → c ≤ ps.length → up ps c = g → c ∈ st) ∧ StOk ps st ∧ st.length < 63 ∧
  ∀ H' t', H t' = none → Ex H H' → TreeNew C H H' t' ps (srt (st ++ [g])) → Q (.ref t') H'
section
variable {P : Program} {w : World} {K : PySem.W.Frag} {mg : Str → Option Value} {base : Heap} {C : Addr} {H H' : Hp} {σ : L2.St} {te tb : TE} {ta : TA} {xs ys : List V} {v : V} {D : Ends} {tz : TS} {a : Addr} {tt : TT}
/-- [.. for i, x in enumerate(list) if ..] -/
theorem el_lcE {i j : Nat} {vs : List Nat} (f : Nat → Bool) (v : Nat → V) (h : EvA ta σ H [.ref a]) (hx : H a = some (.lst xs)) (hz : xs.length ≤ 40000)
    (hw : ∀ x y, wipe (((wipe σ vs).set i (some x)).set j (some y)) vs = wipe σ vs)
    (ht : ∀ (n : Nat) (x : V) H1, Ex H H1 → xs[n]? = some x → EvT tt (((wipe σ vs).set i (some (nV n))).set j (some x)) H1 (f n)) (he : ∀ (n : Nat) (x : V) H1, Ex H H1 → xs[n]? = some x → f n = true → Ev te (((wipe σ vs).set i (some (nV n))).set j (some x)) H1 (v n)) :
    EvL (tLc (iEnum K ta) (gTup K 2 (gCons (gName i) (gCons (gName j) gNil))) tt te vs) σ H (given xs.length f v) := fun H0 e Q q => h H0 e _ fun H1 e1 => ⟨a, xs, rfl, sq_of ((e.trans e1) _ _ hx), fun Dl hD =>
  lc_it walk_enum (Cw H1 f v Dl) ⟨hD, Ex.new hD, upd_same⟩ (fun n H' _ p => sq_of (p.2.1 a _ ((e.trans e1) _ _ hx))) (by
    rintro n w H' H3 hn p ⟨T, y, z, rfl, nT, rfl, q1, q2⟩
    cases q1
    have p' : Cw H1 f v Dl n (upd H' T (.tup [nV n, z])) := ⟨p.1, p.2.1.trans (Ex.new nT), Ex.new nT _ _ p.2.2⟩
    exact ⟨T, _, rfl, st_of upd_same, rfl, _, _, rfl, _, _, rfl, rfl, hw _ _, cw_turn p' (by omega) (ht n z H1 (e.trans e1) q2) (fun hf => he n z H1 (e.trans e1) q2 hf)⟩) (fun H' p => q Dl H' (fresh_back e1 p.1) (e1.trans p.2.1) p.2.2)⟩
theorem rc_anyF {p : Addr} {n : Nat} (h : H p = some (.lst (List.replicate n (V.bl false)))) : RC (rAny K) [.ref p] H (.bl false) := fun H1 e Q q => ⟨p, List.replicate n false, rfl, sq_of (by rw [e _ _ h, List.map_replicate]), by
  have : (List.replicate n false).any id = false := by
    rw [List.any_replicate]
    cases n <;> rfl
  rw [this]
  exact q H1 (Ex.refl H1)⟩
theorem ev_anyL {te : TE} {n : Nat} (h : EvL te σ H (List.replicate n (V.bl false))) : Ev (tCB (rAny K) (tCons te tNil)) σ H (.bl false) := fun H1 e Q q => h H1 e _ fun p H2 hp e2 h2 => rc_anyF h2 H2 (Ex.refl H2) Q fun H3 e3 => q H3 (e2.trans e3)
theorem given_false (n : Nat) : given n (fun _ => true) (fun _ => V.bl false) = List.replicate n (V.bl false) := by
  rw [given_all, List.map_const', List.length_range]
theorem sl_children {t : Addr} {ps st : List Nat} {g : Nat} (h : TreeAt C H t ps st) (hl : ps.length ≤ 199) (hg : g ≤ ps.length) : SpL (sp_Tchildren C) [.ref t, nV g] H ((kids ps g).map nV) := fun _ e _ q _ => ⟨t, ps, st, g, rfl, h.ex e, hl, hg, fun p H2 hp e2 h2 => q p H2 hp e2 h2⟩
theorem sl_common {t : Addr} {ps st : List Nat} {g s : Nat} (h : TreeAt C H t ps st) (hp : Good ps) (hl : ps.length ≤ 199) (hg : g ≤ ps.length) (hs : s ≤ ps.length) : SpL (sp_Tcommon C) [.ref t, nV g, nV s] H ((shared ps g s).map nV) := fun _ e _ q _ => ⟨t, ps, st, g, s, rfl, h.ex e, hp, hl, hg, hs, fun p H2 hp e2 h2 => q p H2 hp e2 h2⟩
theorem sl_apart {t : Addr} {ps st : List Nat} {g s : Nat} (h : TreeAt C H t ps st) (hp : Good ps) (hl : ps.length ≤ 199) (hg : g ≤ ps.length) (hs : s ≤ ps.length) : SpL (sp_Tapart C) [.ref t, nV g, nV s] H ((own ps g s).map nV) := fun _ e _ q _ => ⟨t, ps, st, g, s, rfl, h.ex e, hp, hl, hg, hs, fun p H2 hp e2 h2 => q p H2 hp e2 h2⟩
theorem ok_Tchildren (T : Txt K mg) (G_check_group : FnG P w K mg base CX0 3 T.f_check_group T.fd_check_group ["tree", "value"] (sp_check_group T.C)) : FnG P w K mg base CX0 4 T.f_Tchildren T.fd_Tchildren ["self", "group"] (sp_Tchildren T.C) := by
  refine okG T.F_Tchildren sc_Tchildren (fun vs H Q E h => ?_) (fun cdv A outer s H vs Q E gd hr h => ?_)
  · obtain ⟨_, _, _, _, rfl, _⟩ := h
    all_goals rfl
  · obtain ⟨t, ps, st, g, rfl, ht, hl, hg, q⟩ := h
    refine ⟨_, (pss_cons (ps_expr (pc gd G_check_group (hr.mono (by decide)) (by rfl) T.m_check_group T.F_check_group.kp T.b_check_group .nil pass0 (pa_cons (pv 0) (pa_cons (pv 1) pa_nil)))) (pss_one (ps_ret (pe_lc (own := [("child", 2), ("parent", 3)]) (g := gTup K 2 (gCons (gName 2) (gCons (gName 3) gNil))) rfl sc_Tchildren.nd (pi_enum (by rfl) T.z_enumerate (pa_cons (pe_fld (pv 0) rfl) pa_nil)) (blkOk_by (N := N_Tchildren) (sc := defScope s_Tchildren) (by decide +kernel)) (fun _ _ _ _ _ => (pg_tup rfl (pgs_cons (pg_name (i := 2) sc_Tchildren.nd rfl (Or.inl rfl) (Or.inr rfl)) (pgs_cons (pg_name (i := 3) sc_Tchildren.nd rfl (Or.inl rfl) (Or.inr rfl)) pgs_nil)))) (fun _ _ _ _ _ => pts_one (pt_cmpR op_eq (pv 3) (pv 1) (nomark _))) (fun _ _ _ _ _ => (pv 2)))))), ?_⟩
    refine q_drop (ev_call (ea_cons (ev_var rfl) (ea_cons (ev_var rfl) ea_nil)) (sv_group ht hl hg)) fun H1 e1 => ?_
    obtain ⟨dx, la, ls, p⟩ := ht.ex e1
    refine s_retL (el_is (el_lcE (a := la) (xs := upsV ps) (fun c => decide ((upsV ps)[c]? = some (nV g))) nV (ea_cons (ev_fld (ev_var rfl) p.ob T.c_Tree T.n_above (tf_above la ls)) ea_nil) p.ab (by rw [upsV_len]; omega) (fun _ _ => rfl) (fun n x H2 e2 hx => ?_) (fun n x H2 e2 hx _ => ev_var rfl)) ?_) fun r H2 hr e2 h2 => q r H2 (fresh_back e1 hr) (e1.trans e2) h2
    · have hn : n ≤ ps.length := by
        have := (List.getElem?_eq_some_iff.mp hx).1
        rw [upsV_len] at this
        omega
      have sc : scal x (nV g) = true := by
        by_cases e : n = 0
        · subst e
          rw [show x = V.non from (Option.some.inj hx).symm]
          rfl
        · rw [ups_at (by omega) hn] at hx
          rw [← Option.some.inj hx]
          rfl
      refine et_is (et_test (ev_op (ev_var rfl) (ev_var rfl) (rv_eq sc))) ?_
      rw [hx]
      exact decide_eq_decide.mpr ⟨fun z => congrArg some z, fun z => Option.some.inj z⟩
    · rw [upsV_len]
      rfl



end
end My
namespace My
open PySem PySem.Spec PyProof.Rows L2 GL Evl StX SkE
/-! ### what a value is, as data -/
def Das (K : PySem.W.Frag) (H : Hp) (v : V) (d : PyData) : Prop := ∀ H1, Ex H H1 → Dp K H1 v d
def DasL (K : PySem.W.Frag) (H : Hp) (vs : List V) (ds : List PyData) : Prop := ∀ H1, Ex H H1 → DpAll K H1 vs ds
def dN (l : List Nat) : PyData := .list ((l.map nV).map fd)
theorem dpAll_len {K : PySem.W.Frag} {H : Hp} : ∀ {xs : List V} {ds : List PyData}, DpAll K H xs ds → xs.length = ds.length
  | [], [], _ => rfl
  | _ :: xs, _ :: ds, .cons _ h => by
    rw [List.length_cons, List.length_cons, dpAll_len h]
/-- evaluates to something that is this data -/
def EvD (K : PySem.W.Frag) (te : TE) (σ : L2.St) (H : Hp) (d : PyData) : Prop := ∀ H1, Ex H H1 → ∀ Q : VK, (∀ v H2, Ex H1 H2 → Das K H2 v d → Q v H2) → te σ H1 Q
def EvDA (K : PySem.W.Frag) (ta : TA) (σ : L2.St) (H : Hp) (ds : List PyData) : Prop := ∀ H1, Ex H H1 → ∀ Q : List V → Hp → Prop, (∀ vs H2, Ex H1 H2 → DasL K H2 vs ds → Q vs H2) → ta σ H1 Q
section
variable {K : PySem.W.Frag} {σ : L2.St} {H H' : Hp} {te tb : TE} {ta : TA} {v : V} {d e : PyData} {ds : List PyData} {xs : List V} {p : Addr} {D : Ends} {tz : TS}
theorem Das.ex (h : Das K H v d) (x : Ex H H') : Das K H' v d := fun H1 e1 => h H1 (x.trans e1)
theorem DasL.ex (h : DasL K H xs ds) (x : Ex H H') : DasL K H' xs ds := fun H1 e1 => h H1 (x.trans e1)
theorem das_flat (h : flatV v = true) : Das K H v (fd v) := fun _ _ => fd_dp h
theorem das_lst (h : SqL K H p xs) (hx : DasL K H xs ds) : Das K H (.ref p) (.list ds) := fun H1 e1 => .lst (ex_l e1 h) (hx H1 e1)
theorem das_tup (h : SqT K H p xs) (hx : DasL K H xs ds) : Das K H (.ref p) (.tuple ds) := fun H1 e1 => .tup (ex_t e1 h) (hx H1 e1)
theorem das_flatL (h : SqL K H p xs) (hf : xs.all flatV = true) : Das K H (.ref p) (.list (xs.map fd)) := das_lst h fun _ _ => fd_all hf
theorem das_nats {l : List Nat} (h : SqL K H p (l.map nV)) : Das K H (.ref p) (dN l) := das_flatL h (flat_nat l)
theorem ed_v (h : Ev te σ H v) (hf : flatV v = true) : EvD K te σ H (fd v) := fun H1 e1 Q q => h H1 e1 Q fun H2 e2 => q v H2 e2 (das_flat hf)
theorem ed_r (h : Ev te σ H v) (hd : Das K H v d) : EvD K te σ H d := fun H1 e1 Q q => h H1 e1 Q fun H2 e2 => q v H2 e2 (hd.ex (e1.trans e2))
theorem ed_l (h : EvL te σ H xs) (hf : xs.all flatV = true) : EvD K te σ H (.list (xs.map fd)) := fun H1 e1 Q q => h H1 e1 Q fun r H2 _ e2 h2 => q _ H2 e2 (das_flatL (sq_of h2) hf)
theorem ed_n {l : List Nat} (h : EvL te σ H (l.map nV)) : EvD K te σ H (dN l) := ed_l h (flat_nat l)
theorem ed_is (h : EvD K te σ H d) (x : d = e) : EvD K te σ H e := by
  rw [← x]
  exact h
theorem EvD.mono (x : Ex H H') (h : EvD K te σ H d) : EvD K te σ H' d := fun H1 a Q q => h H1 (x.trans a) Q q
theorem eda_nil : EvDA K tNil σ H [] := fun H1 _ _ q => q [] H1 (Ex.refl H1) fun _ _ => .nil
theorem eda_cons (h : EvD K te σ H d) (hr : EvDA K ta σ H ds) : EvDA K (tCons te ta) σ H (d :: ds) := fun H1 e1 Q q =>
  h H1 e1 _ fun v H2 e2 hv => hr H2 (e1.trans e2) _ fun vs H3 e3 hvs => q (v :: vs) H3 (e2.trans e3) fun H4 e4 => .cons (hv H4 (e3.trans e4)) (hvs H4 e4)
theorem ed_lst (h : EvDA K ta σ H ds) (hl : ds.length ≤ 100000) : EvD K (tLst ta) σ H (.list ds) := fun H1 e1 Q q =>
  h H1 e1 _ fun vs H2 e2 hvs => ⟨sz_of (by rw [dpAll_len (hvs H2 (Ex.refl H2))]; exact hl), fun p hp => q _ _ (e2.trans (Ex.new hp)) (das_lst (sq_of upd_same) (hvs.ex (Ex.new hp)))⟩
theorem ed_tup (h : EvDA K ta σ H ds) (hl : ds.length ≤ 100000) : EvD K (tTup ta) σ H (.tuple ds) := fun H1 e1 Q q =>
  h H1 e1 _ fun vs H2 e2 hvs => ⟨sz_of (by rw [dpAll_len (hvs H2 (Ex.refl H2))]; exact hl), fun p hp => q _ _ (e2.trans (Ex.new hp)) (das_tup (st_of upd_same) (hvs.ex (Ex.new hp)))⟩
theorem q_asgD {i : Nat} (h : EvD K te σ H d) (k : ∀ v H1, Ex H H1 → Das K H1 v d → tz D (σ.set i (some v)) H1) : tSeq (tAsg te (gName i)) tz D σ H := h H (Ex.refl H) _ fun v H1 e1 hv => k v H1 e1 hv
/-- repr of it -/
theorem ev_reprE (h : EvD K te σ H d) (h1 : isDisplay d = true) (s : Sm d 60 100000) : Ev (tCB (rRepr K) (tCons te tNil)) σ H (.str d.shown) := fun H1 e1 Q q =>
  h H1 e1 _ fun v H2 e2 hv => ⟨v, d, rfl, hv H2 (Ex.refl H2), h1, s.sh, s.nd, s.de, sz_of s.ln, q H2 e2⟩
theorem ev_eqE (h : EvD K te σ H d) (hb : EvD K tb σ H e) (s1 : SeqAt.shaped d = true) (s2 : SeqAt.shaped e = true) : Ev (tOp (rEqD K) te tb) σ H (.bl (PyData.eqv d e)) := fun H1 e1 Q q =>
  h H1 e1 _ fun v H2 e2 hv => hb H2 (e1.trans e2) _ fun w H3 e3 hw => ⟨d, e, hv H3 e3, hw H3 (Ex.refl H3), s1, s2, q H3 (e2.trans e3)⟩
theorem ev_neE (h : EvD K te σ H d) (hb : EvD K tb σ H e) (s1 : SeqAt.shaped d = true) (s2 : SeqAt.shaped e = true) : Ev (tOp (rNeD K) te tb) σ H (.bl (!PyData.eqv d e)) := fun H1 e1 Q q =>
  h H1 e1 _ fun v H2 e2 hv => hb H2 (e1.trans e2) _ fun w H3 e3 hw => ⟨d, e, hv H3 e3, hw H3 (Ex.refl H3), s1, s2, q H3 (e2.trans e3)⟩
end
theorem smA_nil {k B : Nat} : ∀ d ∈ ([] : List PyData), Sm d k B := fun d h => absurd h List.not_mem_nil
theorem smA_cons {k B : Nat} {d : PyData} {ds : List PyData} (h : Sm d k B) (hs : ∀ d ∈ ds, Sm d k B) : ∀ e ∈ d :: ds, Sm e k B := fun e he => (List.mem_cons.mp he).elim (fun z => z ▸ h) (hs e)
theorem sm_v {x : V} (h : Shrt x) : Sm (fd x) 5 20000 := h.sm.mono (by omega) (by omega)
theorem sm_vs {xs : List V} (h : ∀ x ∈ xs, Shrt x) (hl : xs.length ≤ 400) : Sm (.list (xs.map fd)) 5 20000 := (sm_flat h hl).mono (by omega) (by omega)
theorem sm_nats {l : List Nat} (h : ∀ n ∈ l, n ≤ 100000) (hl : l.length ≤ 400) : Sm (dN l) 5 20000 := sm_vs (shrt_nats h) (by rw [List.length_map]; exact hl)
theorem sm_top {ds : List PyData} (h : ∀ d ∈ ds, Sm d 5 20000) (hl : ds.length ≤ 4) : Sm (.list ds) 60 100000 := (sm_list h).mono (by omega) (by
  have : ds.length * 20002 ≤ 4 * 20002 := Nat.mul_le_mul_right _ hl
  omega)
end My
namespace My
open PySem PySem.Spec PyProof.Rows L2 GL Evl StX SkE
/-! ### lists and tuples as arguments, trees as values -/
/-- evaluates to a list of these, or a tuple of these -/
def EvS (K : PySem.W.Frag) (te : TE) (σ : L2.St) (H : Hp) (xs : List V) : Prop := ∀ H1, Ex H H1 → ∀ Q : VK, (∀ p H2, Ex H1 H2 → Seq K H2 p xs → Q (.ref p) H2) → te σ H1 Q
def EvQ (K : PySem.W.Frag) (te : TE) (σ : L2.St) (H : Hp) (xs : List V) : Prop := ∀ H1, Ex H H1 → ∀ Q : VK, (∀ p H2, Ex H1 H2 → SqL K H2 p xs → Q (.ref p) H2) → te σ H1 Q
def EvTr (C : Addr) (te : TE) (σ : L2.St) (H : Hp) (ps st : List Nat) : Prop := ∀ H1, Ex H H1 → ∀ Q : VK, (∀ t H2, Ex H1 H2 → TreeAt C H2 t ps st → Q (.ref t) H2) → te σ H1 Q
section
variable {K : PySem.W.Frag} {C : Addr} {σ : L2.St} {H H' : Hp} {te ta tb : TE} {xs : List V} {p t : Addr} {ps st : List Nat} {Er : XK}
theorem es_v (h : Ev te σ H (.ref p)) (hs : Seq K H p xs) : EvS K te σ H xs := fun H1 e Q q => h H1 e Q fun H2 e2 => q p H2 e2 (hs.ex (e.trans e2))
theorem es_l (h : EvL te σ H xs) : EvS K te σ H xs := fun H1 e Q q => h H1 e Q fun p H2 _ e2 h2 => q p H2 e2 (.lst h2)
theorem eq_v (h : Ev te σ H (.ref p)) (hs : SqL K H p xs) : EvQ K te σ H xs := fun H1 e Q q => h H1 e Q fun H2 e2 => q p H2 e2 (ex_l (e.trans e2) hs)
theorem eq_l (h : EvL te σ H xs) : EvQ K te σ H xs := fun H1 e Q q => h H1 e Q fun p H2 _ e2 h2 => q p H2 e2 (sq_of h2)
theorem et_v (h : Ev te σ H (.ref t)) (ht : TreeAt C H t ps st) : EvTr C te σ H ps st := fun H1 e Q q => h H1 e Q fun H2 e2 => q t H2 e2 (ht.ex (e.trans e2))
/-- tuple(xs) -/
theorem es_tup (h : EvQ K te σ H xs) : EvS K (tCB (fun xs H Q => ∃ p ys, xs = [V.ref p] ∧ ((SqL K H p ys ∧ ∀ l, H l = none → Q (.ref l) (upd H l (.tup ys))) ∨ (SqT K H p ys ∧ Q (.ref p) H))) (tCons te tNil)) σ H xs := fun H1 e Q q =>
  h H1 e _ fun p H2 e2 h2 => ⟨p, xs, rfl, .inl ⟨h2, fun l hl => q l _ (e2.trans (Ex.new hl)) (.tup upd_same)⟩⟩
/-- xs[::-1] -/
theorem el_rev (h : EvQ K te σ H xs) : EvL (tRevL K te) σ H xs.reverse := fun H1 e Q q => h H1 e _ fun p H2 e2 h2 => ⟨p, xs, rfl, h2, fun r hr => q r _ (fresh_back e2 hr) (e2.trans (Ex.new hr)) upd_same⟩
theorem el_rg12 {n : Nat} (ha : Ev ta σ H (.int 1)) (hb : Ev tb σ H (.int ((n + 1 : Nat) : Int))) (hn : n ≤ 1000) : EvL (tLstRg (tRg2 ta tb)) σ H (((List.range n).map (· + 1)).map nV) := fun H1 e Q q =>
  ha H1 e _ fun H2 e2 => hb H2 (e.trans e2) _ fun H3 e3 => ⟨1, _, rfl, rfl, RgOk.of_le (by omega) (by omega) (by omega) (by omega), fun r hr => q r _ (fresh_back (e2.trans e3) hr) ((e2.trans e3).trans (Ex.new hr)) (by
    rw [upd_same]
    unfold rgV
    rw [show (((n + 1 : Nat) : Int) - 1).toNat = n by omega, List.map_map]
    congr 2
    refine List.map_congr_left fun i _ => ?_
    exact congrArg V.int (by show (1 : Int) + (i : Nat) = ((i + 1 : Nat) : Int); omega))⟩
/-- an instance is being made -/
theorem made_tr {a b dx : Addr} {Q : VK} (ht : H t = none) (hdx : H dx = none) (ha : Seq K H a (ps.map nV)) (hb : Seq K H b (st.map nV)) (hg : Good ps) (hl : ps.length ≤ 199) (ok : StOk ps st) (h64 : st.length < 64)
    (q : ∀ H3, Ex H H3 → TreeNew C H H3 t ps (srt st) → Q (.ref t) H3) : sp_Tinit K C [.ref t, .ref a, .ref b] (upd (upd H dx (.own t)) t (.ins C dx [])) (fun v H3 => v = .non ∧ Q (.ref t) H3) Er :=
  ⟨H, t, dx, a, b, ps, st, rfl, Ex.mut (Ex.new hdx) ht, ht, upd_same, ha, hb, hg, hl, ok, h64, fun H3 e hT => ⟨rfl, q H3 e hT⟩⟩
theorem tr_2 (ha : EvS K ta σ H (ps.map nV)) (hb : EvS K tb σ H (st.map nV)) (hg : Good ps) (hl : ps.length ≤ 199) (ok : StOk ps st) (h64 : st.length < 64) : EvTr C (tMake C (sp_Tinit K C) [] Er (tCons ta (tCons tb tNil))) σ H ps (srt st) := fun H1 e Q q =>
  ha H1 e _ fun a H2 e2 h2 => hb H2 (e.trans e2) _ fun b H3 e3 h3 => fun x dx hx hdx hne => made_tr hx hdx (h2.ex e3) h3 hg hl ok h64 fun H4 e4 hT => q x H4 ((e2.trans e3).trans e4) hT.now
theorem tr_1 {d1 : Addr} (hd : ∀ H, Seq K H d1 []) (ha : EvS K ta σ H (ps.map nV)) (hg : Good ps) (hl : ps.length ≤ 199) : EvTr C (tMake C (sp_Tinit K C) [.ref d1] Er (tCons ta tNil)) σ H ps [] := fun H1 e Q q =>
  ha H1 e _ fun a H2 e2 h2 => fun x dx hx hdx hne => made_tr (st := []) hx hdx h2 (hd H2) hg hl (StOk.nil ps) (by decide) fun H4 e4 hT => q x H4 (e2.trans e4) (by
    rw [srt_nil] at hT
    exact hT.now)
theorem tr_0 {d0 d1 : Addr} (hd0 : ∀ H, Seq K H d0 []) (hd : ∀ H, Seq K H d1 []) : EvTr C (tMake C (sp_Tinit K C) [.ref d0, .ref d1] Er tNil) σ H [] [] := fun H1 e Q q x dx hx hdx hne =>
  made_tr (ps := []) (st := []) hx hdx (hd0 H1) (hd H1) Good.nil (by decide) (StOk.nil []) (by decide) fun H4 e4 hT => q x H4 e4 (by
    rw [srt_nil] at hT
    exact hT.now)
/-- Tree(struck=.., parents=..) -/
theorem tr_k {gV : List V → List V → List V} (hgV : ∀ x a b : V, gV [x] [b, a] = [x, a, b]) (hb : EvS K tb σ H (st.map nV)) (ha : EvS K ta σ H (ps.map nV)) (hg : Good ps) (hl : ps.length ≤ 199) (ok : StOk ps st) (h64 : st.length < 64) : EvTr C (tMakeK C 2 (sp_Tinit K C) gV Er (tCons tb (tCons ta tNil))) σ H ps (srt st) := fun H1 e Q q =>
  hb H1 e _ fun b H2 e2 h2 => ha H2 (e.trans e2) _ fun a H3 e3 h3 => ⟨rfl, fun x dx hx hdx hne => by
    rw [hgV]
    exact made_tr hx hdx h3 (h2.ex e3) hg hl ok h64 fun H4 e4 hT => q x H4 ((e2.trans e3).trans e4) hT.now⟩
end
end My
namespace My
open PySem PySem.Spec PyProof.Rows L2 GL Evl StX SkE
theorem good_zeros (n : Nat) : Good (List.replicate n 0) := fun i hi => by
  rw [List.length_replicate] at hi
  rw [List.getD_eq_getElem?_getD, List.getElem?_replicate, if_pos hi]
  exact Nat.zero_le _
def upV (ps : List Nat) (g : Nat) : V := if g = 0 then .non else nV (up ps g)
theorem upV_at {ps : List Nat} {g : Nat} (h : g ≤ ps.length) : (upsV ps)[g]? = some (upV ps g) := by
  unfold upV
  by_cases e : g = 0
  · subst e
    rw [if_pos rfl]
    rfl
  · rw [if_neg e, ups_at (by omega) h]
theorem upV_shrt {ps : List Nat} (hp : Good ps) {g : Nat} (hl : ps.length ≤ 1000) (h : g ≤ ps.length) : Shrt (upV ps g) := by
  unfold upV
  by_cases e : g = 0
  · rw [if_pos e]
    refine ⟨rfl, ?_, ?_, ?_, ?_⟩
    · show PyData.none.showable = true
      simp only [PyData.showable]
    · show PyData.none.hasDict = false
      simp only [PyData.hasDict]
    · show PyData.none.depth ≤ 0
      simp only [PyData.depth]
      omega
    · decide +kernel
  · rw [if_neg e]
    have := up_lt hp (by omega) h
    exact shrt_nat (by omega)
theorem srt_sorted {st : List Nat} (h : st.Pairwise (· ≤ ·)) : srt st = st := by
  have hs : (srt st).Pairwise (· ≤ ·) := by
    have q := List.pairwise_mergeSort (le := fun a b : Nat => decide (a ≤ b)) (fun a b c h1 h2 => decide_eq_true (Nat.le_trans (of_decide_eq_true h1) (of_decide_eq_true h2))) (fun a b => by
      rcases Nat.le_total a b with z | z
      · rw [decide_eq_true z, Bool.true_or]
      · rw [decide_eq_true z, Bool.or_true]) st
    exact q.imp fun {a b} z => of_decide_eq_true z
  exact List.Perm.eq_of_pairwise (le := fun a b : Nat => a ≤ b) (fun x y _ _ h1 h2 => Nat.le_antisymm h1 h2) hs h (srt_perm st)
/-- a comprehension over a list of numbers -/
theorem given_map (l : List Nat) (f : Nat → V) : given (l.map nV).length (fun _ => true) (fun i => f (l.getD i 0)) = l.map f := by
  have q : ((List.range l.length).map fun i => l.getD i 0).map f = l.map f := by rw [range_getD]
  rw [List.map_map] at q
  rw [given_all, List.length_map]
  exact q
theorem given_plain {n : Nat} {f : Nat → Bool} : given n f nV = ((List.range n).filter f).map nV := rfl
section
variable {K : PySem.W.Frag} {σ : L2.St} {H : Hp} {ta : TA} {te : TE} {t : TT} {xs : List V}
/-- [.. for x in range(lo, n) if ..] -/
theorem el_lcR2 {j : Nat} {vs : List Nat} {lo n : Int} (f : Nat → Bool) (v : Nat → V) (h : EvA ta σ H [.int lo, .int n]) (hn : 0 ≤ lo ∧ lo ≤ 100000 ∧ -100000 ≤ n ∧ n ≤ 40000) (hw : ∀ x, wipe ((wipe σ vs).set j (some x)) vs = wipe σ vs)
    (ht : ∀ (i : Nat) H1, Ex H H1 → lo + (i : Int) < n → EvT t ((wipe σ vs).set j (some (.int (lo + (i : Int))))) H1 (f i)) (he : ∀ (i : Nat) H1, Ex H H1 → lo + (i : Int) < n → f i = true → Ev te ((wipe σ vs).set j (some (.int (lo + (i : Int))))) H1 (v i)) :
    EvL (tLc (iRng2 ta) (gName j) t te vs) σ H (given (n - lo).toNat f v) := fun H0 e Q q => h H0 e _ fun H1 e1 => ⟨lo, n, rfl, ⟨by omega, by omega, by omega, by omega⟩, fun Dl hD =>
  lc_range (lo := lo) (n := (n - lo).toNat) (Cw H1 f v Dl) ⟨hD, Ex.new hD, upd_same⟩ (fun i H' hi p => ⟨hw _, cw_turn p (by omega) (ht i H1 (e.trans e1) (by omega)) (fun hf => he i H1 (e.trans e1) (by omega) hf)⟩) (fun H' p => q Dl H' (fresh_back e1 p.1) (e1.trans p.2.1) p.2.2)⟩
/-- the same, a test or an element that changes things -/
theorem lc_R2 {j : Nat} {vs : List Nat} {lo n : Int} {Q : VK} (Pv : Addr → Nat → Hp → Prop) (h : EvA ta σ H [.int lo, .int n]) (hn : 0 ≤ lo ∧ lo ≤ 100000 ∧ -100000 ≤ n ∧ n ≤ 40000) (h0 : ∀ H1 Dl, Ex H H1 → H1 Dl = none → Pv Dl 0 (upd H1 Dl (.lst [])))
    (hs : ∀ Dl (i : Nat) H', i < (n - lo).toNat → Pv Dl i H' → wipe ((wipe σ vs).set j (some (.int (lo + (i : Int))))) vs = wipe σ vs ∧ t ((wipe σ vs).set j (some (.int (lo + (i : Int))))) H' fun b H3 => if b = true then te ((wipe σ vs).set j (some (.int (lo + (i : Int))))) H3 fun y H4 => ∃ acc, H4 Dl = some (.lst acc) ∧ acc.length < sizeLine ∧ Pv Dl (i + 1) (upd H4 Dl (.lst (acc ++ [y]))) else Pv Dl (i + 1) H3)
    (hd : ∀ Dl H', Pv Dl (n - lo).toNat H' → Q (.ref Dl) H') : tLc (iRng2 ta) (gName j) t te vs σ H Q := h H (Ex.refl H) _ fun H1 e1 => ⟨lo, n, rfl, ⟨by omega, by omega, by omega, by omega⟩, fun Dl hD =>
  lc_range (lo := lo) (n := (n - lo).toNat) (Pv Dl) (h0 H1 Dl e1 hD) (hs Dl) (hd Dl)⟩
theorem rc_any {p : Addr} {bs : List Bool} (h : H p = some (.lst (bs.map V.bl))) : RC (rAny K) [.ref p] H (.bl (bs.any id)) := fun H1 e Q q => ⟨p, bs, rfl, sq_of (e _ _ h), q H1 (Ex.refl H1)⟩
theorem ev_anyB {bs : List Bool} (h : EvL te σ H (bs.map V.bl)) : Ev (tCB (rAny K) (tCons te tNil)) σ H (.bl (bs.any id)) := fun H1 e Q q => h H1 e _ fun p H2 hp e2 h2 => rc_any h2 H2 (Ex.refl H2) Q fun H3 e3 => q H3 (e2.trans e3)
theorem el_rep {tb : TE} {n : Nat} {x : V} (h : EvL te σ H [x]) (hn : Ev tb σ H (nV n)) (hl : n ≤ 1000) : EvL (tOp rRep te tb) σ H (List.replicate n x) := fun H1 e Q q =>
  h H1 e _ fun p H2 hp e2 h2 => hn H2 (e.trans e2) _ fun H3 e3 => ⟨p, n, [x], rfl, rfl, e3 _ _ h2, by omega, by omega, sz_of (by show 1 * (n : Int).toNat ≤ 100000; omega), fun r hr => q r _ (fresh_back (e2.trans e3) hr) ((e2.trans e3).trans (Ex.new hr)) (by
    rw [upd_same, Int.toNat_natCast]
    congr 2
    have : ∀ m : Nat, (List.replicate m [x]).flatten = List.replicate m x := fun m => by
      induction m with
      | zero => rfl
      | succ m ih =>
        rw [List.replicate_succ, List.replicate_succ, List.flatten_cons, ih]
        rfl
    rw [this])⟩
end
def sp_Tstruck (C : Addr) : Sp := fun vs H Q _ => ∃ t ps st, vs = [.ref t] ∧ TreeAt C H t ps st ∧ RetL (st.map nV) H Q
def sp_Tparent (C : Addr) : Sp := fun vs H Q _ => ∃ t ps st, ∃ g : Nat, vs = [.ref t, nV g] ∧ TreeAt C H t ps st ∧ ps.length ≤ 199 ∧ g ≤ ps.length ∧ RetV (upV ps g) H Q
def sp_Lshape : Sp := fun vs H Q _ => ∃ a, vs = [.ref a] ∧ PotAt H a ∧ ∀ H' p ps, H p = none → ExB a H H' → PotAt H' a → H' p = some (.lst (upsV ps)) → Good ps → ps.length ≤ 13 → Q (.ref p) H'
def sp_Ldrawn_struck : Sp := fun vs H Q _ => ∃ a u ps, vs = [.ref a, .ref u] ∧ PotAt H a ∧ H u = some (.lst (upsV ps)) ∧ Good ps ∧ ps.length ≤ 50 ∧ ∀ H' p st, H p = none → ExB a H H' → PotAt H' a → H' p = some (.lst (st.map nV)) → StOk ps st → srt st = st → Q (.ref p) H'
def sp_Lpair (K : PySem.W.Frag) (C : Addr) : Sp := fun vs H Q _ => ∃ t u ps st, ∃ g s : Nat, vs = [.ref t, .ref u, nV g, nV s] ∧ TreeAt C H t ps st ∧ SqL K H u (upsV ps) ∧ Good ps ∧ ps.length ≤ 50 ∧ g ≤ ps.length ∧ s ≤ ps.length ∧ RetV (.bl true) H Q
def sp_Lspot (K : PySem.W.Frag) (C : Addr) : Sp := fun vs H Q _ => ∃ t u ps st, ∃ g : Nat, vs = [.ref t, .ref u, nV g] ∧ TreeAt C H t ps st ∧ SqL K H u (upsV ps) ∧ Good ps ∧ ps.length ≤ 50 ∧ g ≤ ps.length ∧ RetV (.bl true) H Q
/-- the groups of a list, and what is below them: struck as a whole -/
theorem struck_ok {ps : List Nat} (hp : Good ps) (ds : List Nat) : StOk ps (((List.range ps.length).map (· + 1)).filter fun s => (path ps s).any fun x => decide (x ∈ ds)) ∧ (((List.range ps.length).map (· + 1)).filter fun s => (path ps s).any fun x => decide (x ∈ ds)).Pairwise (· ≤ ·) := by
  have lt : ((List.range ps.length).map (· + 1)).Pairwise (· < ·) := List.pairwise_map.mpr (List.pairwise_lt_range.imp fun {a b} h => by omega)
  have lt2 := lt.sublist (l₁ := ((List.range ps.length).map (· + 1)).filter fun s => (path ps s).any fun x => decide (x ∈ ds)) List.filter_sublist
  have mem : ∀ s, s ∈ (((List.range ps.length).map (· + 1)).filter fun s => (path ps s).any fun x => decide (x ∈ ds)) ↔ (1 ≤ s ∧ s ≤ ps.length) ∧ (path ps s).any (fun x => decide (x ∈ ds)) = true := fun s => by
    rw [List.mem_filter, List.mem_map]
    constructor
    · rintro ⟨⟨i, hi, rfl⟩, h⟩
      have := List.mem_range.mp hi
      exact ⟨⟨by omega, by omega⟩, h⟩
    · rintro ⟨⟨h1, h2⟩, h⟩
      exact ⟨⟨s - 1, List.mem_range.mpr (by omega), by omega⟩, h⟩
  refine ⟨⟨lt2.imp fun {a b} h => by omega, fun g hg => ((mem g).mp hg).1, fun c h1 h2 h3 => (mem c).mpr ⟨⟨h1, h2⟩, ?_⟩⟩, lt2.imp fun {a b} h => by omega⟩
  rw [path_step hp (by omega) h2, List.any_cons, ((mem _).mp h3).2, Bool.or_true]
section
variable {P : Program} {w : World} {K : PySem.W.Frag} {mg : Str → Option Value} {base : Heap} {C : Addr} {H : Hp} {σ : L2.St}
/-- ups[1:] -/
theorem el_tail {te : TE} {u : Addr} {ps : List Nat} (hu : SqL K H u (upsV ps)) (h : Ev te σ H (.ref u)) : EvL (tSl (rSlL K) te (tPart (tC (.int 1))) tNoPart) σ H (ps.map nV) := el_is (el_sl h (eo_some ev_c) eo_none hu) (by
  unfold cutV upsV
  rw [show (1 : Int) = ((1 : Nat) : Int) from rfl, HT.sIx_nat, HT.sIx_none, List.length_cons, show min 1 ((ps.map nV).length + 1) = 1 by omega, Nat.add_sub_cancel]
  exact List.take_length)
theorem sl_struck {t : Addr} {ps st : List Nat} (h : TreeAt C H t ps st) : SpL (sp_Tstruck C) [.ref t] H (st.map nV) := fun _ e _ q _ => ⟨t, ps, st, rfl, h.ex e, fun p H2 hp e2 h2 => q p H2 hp e2 h2⟩
theorem sv_parent {t : Addr} {ps st : List Nat} {g : Nat} (h : TreeAt C H t ps st) (hl : ps.length ≤ 199) (hg : g ≤ ps.length) : SpV (sp_Tparent C) [.ref t, nV g] H (upV ps g) := fun _ e _ q _ => ⟨t, ps, st, g, rfl, h.ex e, hl, hg, q⟩
theorem sv_pair {t u : Addr} {ps st : List Nat} {g s : Nat} (ht : TreeAt C H t ps st) (hu : SqL K H u (upsV ps)) (hp : Good ps) (hl : ps.length ≤ 50) (hg : g ≤ ps.length) (hs : s ≤ ps.length) : SpV (sp_Lpair K C) [.ref t, .ref u, nV g, nV s] H (.bl true) := fun _ e _ q _ => ⟨t, u, ps, st, g, s, rfl, ht.ex e, ex_l e hu, hp, hl, hg, hs, q⟩
theorem sv_spot {t u : Addr} {ps st : List Nat} {g : Nat} (ht : TreeAt C H t ps st) (hu : SqL K H u (upsV ps)) (hp : Good ps) (hl : ps.length ≤ 50) (hg : g ≤ ps.length) : SpV (sp_Lspot K C) [.ref t, .ref u, nV g] H (.bl true) := fun _ e _ q _ => ⟨t, u, ps, st, g, rfl, ht.ex e, ex_l e hu, hp, hl, hg, q⟩
theorem ok_Tstruck (T : Txt K mg)  : FnG P w K mg base CX0 1 T.f_Tstruck T.fd_Tstruck ["self"] (sp_Tstruck T.C) := by
  refine okG T.F_Tstruck sc_Tstruck (fun vs H Q E h => ?_) (fun cdv A outer s H vs Q E gd hr h => ?_)
  · obtain ⟨_, _, _, rfl, _⟩ := h
    all_goals rfl
  · obtain ⟨t, ps, st, rfl, ⟨dx, la, ls, p⟩, q⟩ := h
    refine ⟨_, (pss_one (ps_ret (pe_callTy call_list_of (by rfl) T.z_list (by decide +kernel) (pa_cons (pe_fld (pv 0) rfl) pa_nil)))), ?_⟩
    exact s_retL (el_list (ev_fld (ev_var rfl) p.ob T.c_Tree T.n_struck (tf_struck la ls)) (sq_of p.sk)) q



theorem word_out (ps : List Nat) (hp : Good ps) {g : Nat} (s : Nat) (hg : g ≤ ps.length) : (!decide (V.str (word (zone ps g s)) = V.str "out")) = decide (s ∈ path ps g) := by
  have q := zone_mem (s := s) hp hg
  have r : decide (s ∈ path ps g) = decide (zone ps g s < 3) := decide_eq_decide.mpr q
  rw [r]
  rcases zone_cases ps g s with e | e | e <;> rw [e] <;> decide +kernel

end
end My
namespace My
open PySem PySem.Spec PyProof.Rows L2 GL Evl StX SkE
/-! ### data that does not hang on what stands at r -/
def hole (r : Addr) (H : Hp) : Hp := fun b => if b = r then none else H b
theorem hole_ne {r b : Addr} {H : Hp} (h : b ≠ r) : hole r H b = H b := if_neg h
theorem hole_ex (r : Addr) (H : Hp) : Ex (hole r H) H := fun b o h => by
  by_cases e : b = r
  · unfold hole at h
    rw [if_pos e] at h
    cases h
  · rw [hole_ne e] at h
    exact h
theorem hole_mono {r : Addr} {H H' : Hp} (e : ExB r H H') : Ex (hole r H) (hole r H') := fun b o h => by
  by_cases z : b = r
  · unfold hole at h
    rw [if_pos z] at h
    cases h
  · rw [hole_ne z] at h ⊢
    exact e b o z h
theorem hole_upd {r : Addr} {H : Hp} {o : HO} : hole r (upd H r o) = hole r H := by
  funext b
  unfold hole
  by_cases z : b = r
  · rw [if_pos z, if_pos z]
  · rw [if_neg z, if_neg z, upd_ne z]
mutual
theorem dp_ex {K : PySem.W.Frag} {H H' : Hp} (e : Ex H H') : ∀ {d : PyData} {v : V}, Dp K H v d → Dp K H' v d
  | .none, _, h => by
    cases h
    exact .non
  | .bool b, _, h => by
    cases h
    exact .bl b
  | .int i, _, h => by
    cases h
    exact .int i
  | .str x, _, h => by
    cases h
    exact .str x
  | .list ds, _, h => by
    cases h with
    | lst h1 h2 => exact .lst (ex_l e h1) (dpAll_ex e h2)
  | .tuple ds, _, h => by
    cases h with
    | tup h1 h2 => exact .tup (ex_t e h1) (dpAll_ex e h2)
  | .dict _, _, h => by cases h
theorem dpAll_ex {K : PySem.W.Frag} {H H' : Hp} (e : Ex H H') : ∀ {ds : List PyData} {vs : List V}, DpAll K H vs ds → DpAll K H' vs ds
  | [], _, h => by
    cases h
    exact .nil
  | d :: ds, _, h => by
    cases h with
    | cons h1 h2 => exact .cons (dp_ex e h1) (dpAll_ex e h2)
end
theorem dpAll_app {K : PySem.W.Frag} {H : Hp} : ∀ {xs ys : List V} {ds es : List PyData}, DpAll K H xs ds → DpAll K H ys es → DpAll K H (xs ++ ys) (ds ++ es)
  | [], _, [], _, _, h => h
  | _ :: _, _, _ :: _, _, .cons h1 h2, h => .cons h1 (dpAll_app h2 h)
def EvDo (K : PySem.W.Frag) (r : Addr) (te : TE) (σ : L2.St) (H : Hp) (d : PyData) : Prop := ∀ H1, Ex H H1 → ∀ Q : VK, (∀ v H2, Ex H1 H2 → Dp K (hole r H2) v d → Q v H2) → te σ H1 Q
def EvDAo (K : PySem.W.Frag) (r : Addr) (ta : TA) (σ : L2.St) (H : Hp) (ds : List PyData) : Prop := ∀ H1, Ex H H1 → ∀ Q : List V → Hp → Prop, (∀ vs H2, Ex H1 H2 → DpAll K (hole r H2) vs ds → Q vs H2) → ta σ H1 Q
section
variable {K : PySem.W.Frag} {σ : L2.St} {H H' : Hp} {te tb tx : TE} {ta tc : TA} {v : V} {d e : PyData} {ds es : List PyData} {xs vs : List V} {p r s : Addr} {D : Ends} {tz : TS} {o : HO}
theorem hole_of (x : Ex H H') : Ex (hole r H) (hole r H') := hole_mono (ExB.of x)
theorem do_v (h : Ev te σ H v) (hf : flatV v = true) : EvDo K r te σ H (fd v) := fun H1 e1 Q q => h H1 e1 Q fun H2 e2 => q v H2 e2 (fd_dp hf)
theorem do_r (h : Ev te σ H v) (hd : Dp K (hole r H) v d) : EvDo K r te σ H d := fun H1 e1 Q q => h H1 e1 Q fun H2 e2 => q v H2 e2 (dp_ex (hole_of (e1.trans e2)) hd)
theorem do_l (hr : H r = some o) (h : EvL te σ H xs) (hf : xs.all flatV = true) : EvDo K r te σ H (.list (xs.map fd)) := fun H1 e1 Q q => h H1 e1 Q fun p H2 hp e2 h2 => q _ H2 e2 (.lst (sq_of (by rw [hole_ne (ne_of_none' (e1 _ _ hr) hp)]; exact h2)) (fd_all hf))
theorem do_n {l : List Nat} (hr : H r = some o) (h : EvL te σ H (l.map nV)) : EvDo K r te σ H (dN l) := do_l hr h (flat_nat l)
theorem dao_nil : EvDAo K r tNil σ H [] := fun H1 _ _ q => q [] H1 (Ex.refl H1) .nil
theorem dao_cons (h : EvDo K r te σ H d) (hr : EvDAo K r ta σ H ds) : EvDAo K r (tCons te ta) σ H (d :: ds) := fun H1 e1 Q q =>
  h H1 e1 _ fun v H2 e2 hv => hr H2 (e1.trans e2) _ fun vs H3 e3 hvs => q (v :: vs) H3 (e2.trans e3) (.cons (dp_ex (hole_of e3) hv) hvs)
theorem do_lst (hr : H r = some o) (h : EvDAo K r ta σ H ds) (hl : ds.length ≤ 100000) : EvDo K r (tLst ta) σ H (.list ds) := fun H1 e1 Q q =>
  h H1 e1 _ fun vs H2 e2 hvs => ⟨sz_of (by rw [dpAll_len hvs]; exact hl), fun p hp => q _ _ (e2.trans (Ex.new hp)) (.lst (sq_of (by rw [hole_ne (ne_of_none' ((e1.trans e2) _ _ hr) hp), upd_same])) (dpAll_ex (hole_of (Ex.new hp)) hvs))⟩
/-- s + [..], s a list -/
theorem do_cat (hr : H r = some o) (hs : H s = some (.lst xs)) (hx : DpAll K (hole r H) xs ds) (h : Ev te σ H (.ref s)) (hb : EvDAo K r ta σ H es) (hl : ds.length + es.length ≤ 100000) : EvDo K r (tOp rCat te (tLst ta)) σ H (.list (ds ++ es)) := fun H1 e1 Q q =>
  h H1 e1 _ fun H2 e2 => hb H2 (e1.trans e2) _ fun vs H3 e3 hvs => ⟨sz_of (by rw [dpAll_len hvs]; omega), fun b hb0 => by
    have x3 := (e1.trans e2).trans e3
    have e4 : Ex H3 (upd H3 b (.lst vs)) := Ex.new hb0
    refine ⟨s, b, xs, vs, rfl, rfl, e4 _ _ (x3 _ _ hs), upd_same, sz_of (by rw [dpAll_len hvs, dpAll_len hx]; exact hl), fun p hp => ?_⟩
    have x5 : Ex H1 (upd (upd H3 b (.lst vs)) p (.lst (xs ++ vs))) := ((e2.trans e3).trans e4).trans (Ex.new hp)
    refine q _ _ x5 (.lst (sq_of (xs := xs ++ vs) (by rw [hole_ne (ne_of_none' ((x3.trans e4) _ _ hr) hp), upd_same])) (dpAll_app (dpAll_ex (hole_of (e1.trans x5)) hx) (dpAll_ex (hole_of (e4.trans (Ex.new hp))) hvs)))⟩
theorem s_appO (hl : H r = some (.lst vs)) (ha : Ev tx σ H (.ref r)) (h : EvDo K r te σ H d) (hz : vs.length < 100000) (hd : DpAll K (hole r H) vs ds) (k : ∀ v H1, ExB r H H1 → H1 r = some (.lst (vs ++ [v])) → DpAll K (hole r H1) (vs ++ [v]) (ds ++ [d]) → D.nx σ H1) :
    tDrop (tBM K "list" rAppend tx (tCons te tNil)) D σ H := ha H (Ex.refl H) _ fun H1 e1 =>
  ⟨Or.inl ⟨rfl, vs, sq_of (e1 _ _ hl)⟩, h H1 e1 _ fun v H2 e2 hv => ⟨r, vs, v, rfl, rfl, (e1.trans e2) _ _ hl, sz_lt hz, k v _ ((ExB.of (e1.trans e2)).trans ExB.set) upd_same (by
    rw [hole_upd]
    exact dpAll_app (dpAll_ex (hole_of (e1.trans e2)) hd) (.cons hv .nil))⟩⟩
theorem q_asgO {i : Nat} (h : EvDo K r te σ H d) (k : ∀ v H1, Ex H H1 → Dp K (hole r H1) v d → tz D (σ.set i (some v)) H1) : tSeq (tAsg te (gName i)) tz D σ H := h H (Ex.refl H) _ fun v H1 e1 hv => k v H1 e1 hv
theorem dp_whole (h : H r = some (.lst vs)) (hd : DpAll K (hole r H) vs ds) : Dp K H (.ref r) (.list ds) := .lst (sq_of h) (dpAll_ex (hole_ex r H) hd)
end
end My
namespace My
open PySem PySem.Spec PyProof.Rows L2 GL Evl StX SkE
/-! ### trees that are equal -/
theorem eqv_natsB : ∀ l m : List Nat, PyData.eqvAll ((l.map nV).map fd) ((m.map nV).map fd) = decide (l = m)
  | [], [] => by simp only [List.map_nil, PyData.eqvAll, decide_true]
  | [], _ :: _ => by
    simp only [List.map_nil, List.map_cons, PyData.eqvAll]
    rw [decide_eq_false (fun e => nomatch e)]
  | _ :: _, [] => by
    simp only [List.map_nil, List.map_cons, PyData.eqvAll]
    rw [decide_eq_false (fun e => nomatch e)]
  | a :: l, b :: m => by
    have ih := eqv_natsB l m
    simp only [List.map_cons, PyData.eqvAll]
    rw [ih]
    have e1 : PyData.eqv (fd (nV a)) (fd (nV b)) = decide (a = b) := by
      show PyData.eqv (.int (a : Int)) (.int (b : Int)) = _
      simp only [PyData.eqv]
      by_cases e : a = b
      · subst e
        simp
      · rw [decide_eq_false e]
        exact beq_eq_false_iff_ne.mpr fun z => e (by omega)
    rw [e1, ← Bool.decide_and]
    exact decide_eq_decide.mpr ⟨fun z => by rw [z.1, z.2], fun z => List.cons.inj z⟩
theorem eqv_nB (l m : List Nat) : PyData.eqv (dN l) (dN m) = decide (l = m) := by
  unfold dN
  simp only [PyData.eqv]
  exact eqv_natsB l m
def dU (ps : List Nat) : PyData := .list ((upsV ps).map fd)
theorem eqv_uB (l m : List Nat) : PyData.eqv (dU l) (dU m) = decide (l = m) := by
  unfold dU upsV
  simp only [PyData.eqv, List.map_cons, PyData.eqvAll]
  rw [eqv_natsB]
  show (PyData.eqv .none .none && _) = _
  simp only [PyData.eqv, Bool.true_and]
theorem shaped_u (l : List Nat) : SeqAt.shaped (dU l) = true := by
  have h1 := canLay_nats l
  have h2 := depth_nats l
  show (PyData.canLay0 (.list (fd .non :: (l.map nV).map fd)) && decide (PyData.depth (.list (fd .non :: (l.map nV).map fd)) ≤ 64)) = true
  rw [Bool.and_eq_true]
  constructor
  · simp only [PyData.canLay0, PyData.canLayAll0]
    show (PyData.canLay0 .none && PyData.canLayAll0 ((l.map nV).map fd)) = true
    rw [h1]
    simp only [PyData.canLay0, Bool.and_true]
  · refine decide_eq_true ?_
    simp only [PyData.depth, PyData.depthAll]
    have h3 : (fd .non).depth ≤ 0 := by
      show PyData.none.depth ≤ 0
      simp only [PyData.depth]
      omega
    omega
def sp_Teq (K : PySem.W.Frag) (C : Addr) : Sp := fun vs H Q _ => (∃ a b ps st ps' st', vs = [.ref a, .ref b] ∧ TreeAt C H a ps st ∧ TreeAt C H b ps' st' ∧ RetV (.bl (decide (ps = ps') && decide (st = st'))) H Q) ∨
  (∃ a y T, vs = [.ref a, y] ∧ (∀ H1, Ex H H1 → TyX K H1 y (.type T)) ∧ T ∈ kinds ∧ RetV (.bl false) H Q)
section
variable {P : Program} {w : World} {K : PySem.W.Frag} {mg : Str → Option Value} {base : Heap} {C : Addr} {H : Hp} {σ : L2.St} {te tb : TE} {E : XK}
theorem rc_isiE {x c : V} {u t : Value} {b : Bool} (k : ClsV c u) (ty : ∀ H1, Ex H H1 → TyX K H1 x t) (h : PySem.W.kitOne K t u = some b) : RC (rIsi K) [x, c] H (.bl b) := fun H1 e Q q => ⟨x, c, t, u, b, rfl, k, ty H1 e, h, q H1 (Ex.refl H1)⟩
theorem TreeAt.insTy {T : Txt K mg} {t : Addr} {ps st : List Nat} (h : TreeAt T.C H t ps st) : ∀ H1, Ex H H1 → TyX K H1 (.ref t) (.ref T.C) := fun H1 e => by
  obtain ⟨dx, la, ls, p⟩ := h.ex e
  exact .base (.ins p.ob T.c_Tree T.x_class T.x_get T.x_tk T.x_mro)
theorem kit_kind (T : Txt K mg) {k : String} (h : k ∈ kinds) : PySem.W.kitOne K (.type k) (.ref T.C) = some false := by
  unfold PySem.W.kitOne
  rw [if_neg (by simp)]
  unfold PySem.W.kitCls
  have h1 : (PySem.W.clsIn K T.C).isSome = true := T.x_cls
  show (if ((PySem.W.clsIn K T.C).isSome && PySem.W.typeIn K (.ref T.C) == some (.type "type")) = true then PySem.W.subIn K (.type k) (.ref T.C) else none) = some false
  rw [h1, T.x_ty, sub_kind h]
  simp
theorem flat_upsV (ps : List Nat) : (upsV ps).all flatV = true := by
  unfold upsV
  rw [List.all_cons, flat_nat]
  rfl
theorem ok_Teq (T : Txt K mg)  : FnG P w K mg base CX0 1 T.f_Teq T.fd_Teq ["self", "other"] (sp_Teq K T.C) := by
  refine okG T.F_Teq sc_Teq (fun vs H Q E h => ?_) (fun cdv A outer s H vs Q E gd hr h => ?_)
  · obtain (⟨_, _, _, _, _, _, rfl, _⟩ | ⟨_, _, _, rfl, _⟩) := h
    all_goals rfl
  · obtain h := h
    refine ⟨_, (pss_one (ps_ret (pe_and (pe_callB call_isi (by rfl) T.z_isinstance boot_isinstance (pa_cons (pv 1) (pa_cons (pe_glob (v := .ref T.C) (by rfl) T.m_Tree rfl) pa_nil))) (pe_and (pe_cmpR (op_eqD (roomU hr)) (pe_fld (pv 0) rfl) (pe_fld (pv 1) rfl) (nomark _)) (pe_one (pe_cmpR (op_eqD (roomU hr)) (pe_fld (pv 0) rfl) (pe_fld (pv 1) rfl) (nomark _))))))), ?_⟩
    rcases h with ⟨a, b, ps, st, ps', st', rfl, ha, hb, q⟩ | ⟨a, y, k, rfl, ty, hk, q⟩
    · obtain ⟨dx, la, ls, p⟩ := id ha
      obtain ⟨dx', la', ls', p'⟩ := id hb
      have lst : ∀ {H1 : Hp}, Ex H H1 → TreeP T.C H1 a dx la ls ps st := fun e => p.ex e
      refine s_ret (v := .bl (true && ((decide (ps = ps')) && decide (st = st')))) (ev_andV (ev_cb (ea_cons (ev_var rfl) (ea_cons ev_c ea_nil)) (rc_isiE (.own T.C) hb.insTy (if_pos (beq_self_eq_true _)))) fun _ => ev_andV (ev_is (ev_eqE (K := K) (d := dU ps) (e := dU ps') (ed_r (ev_fld (ev_var rfl) p.ob T.c_Tree T.n_above (tf_above la ls)) (das_flatL (sq_of p.ab) (flat_upsV ps))) (ed_r (ev_fld (ev_var rfl) p'.ob T.c_Tree T.n_above (tf_above la' ls')) (das_flatL (sq_of p'.ab) (flat_upsV ps'))) (shaped_u _) (shaped_u _)) (congrArg V.bl (eqv_uB _ _))) fun _ =>
        ev_is (ev_eqE (K := K) (d := dN st) (e := dN st') (ed_r (ev_fld (ev_var rfl) p.ob T.c_Tree T.n_struck (tf_struck la ls)) (das_nats (sq_of p.sk))) (ed_r (ev_fld (ev_var rfl) p'.ob T.c_Tree T.n_struck (tf_struck la' ls')) (das_nats (sq_of p'.sk))) (shaped_nats _) (shaped_nats _)) (congrArg V.bl (eqv_nB _ _))) fun H1 e1 => ?_
      rw [Bool.true_and]
      exact q H1 e1
    · exact s_ret (v := .bl false) (ev_andV (a := false) (b := false) (ev_cb (ea_cons (ev_var rfl) (ea_cons ev_c ea_nil)) (rc_isiE (.own T.C) ty (kit_kind T hk))) fun z => nomatch z) q
end
end My
namespace My
open PySem PySem.Spec PyProof.Rows L2 GL Evl StX SkE
/-! ### texts within texts -/
def Low (s : Str) : Prop := ∀ c ∈ s.cps.toList, c < 16 ^ 8
theorem low_of (s : String) : Low (Str.ofString s) := fun c hc => by
  rw [signs_ofString] at hc
  obtain ⟨x, _, rfl⟩ := List.mem_map.mp hc
  have := x.val.toNat_lt
  show x.val.toNat < 16 ^ 8
  omega
theorem low_app {a b : Str} (ha : Low a) (hb : Low b) : Low (a ++ b) := fun c hc => by
  rw [PySem.Str.cps_append, Array.toList_append, List.mem_append] at hc
  exact hc.elim (ha c) (hb c)
theorem low_text : ∀ (ts : List Str) (k : Nat) (acc : Str), Low acc → (∀ t ∈ ts, Low t) → Low (textFrom k acc ts)
  | [], _, _, h, _ => h
  | t :: r, k, acc, h, hs => low_text r (k + 1) _ (low_app (low_app h (low_of _)) (hs t List.mem_cons_self)) fun y hy => hs y (List.mem_cons_of_mem _ hy)
theorem low_list {ts : List Str} (h : ∀ t ∈ ts, Low t) : Low (listText ts) := low_app (low_text ts 0 _ (low_of _) h) (low_of _)
theorem low_nats (l : List Nat) : Low (shw (l.map nV)) := by
  unfold shw
  simp only [PyData.shown]
  refine low_list fun t ht => ?_
  obtain ⟨d, hd, rfl⟩ := shownAll_mem ht
  obtain ⟨x, hx, rfl⟩ := List.mem_map.mp hd
  obtain ⟨n, _, rfl⟩ := List.mem_map.mp hx
  show Low (PyData.int (n : Int)).shown
  simp only [PyData.shown]
  exact low_of _
theorem low_tsh (ps st : List Nat) : Low (tsh ps st) := low_app (low_app (low_app (low_app (low_app (low_of "") (low_of _)) (low_nats ps)) (low_of _)) (low_nats st)) (low_of _)
theorem sm_tsh {ps st : List Nat} (hx : ∀ n ∈ ps, n ≤ 100000) (hy : ∀ n ∈ st, n ≤ 100000) (lx : ps.length ≤ 15) (ly : st.length ≤ 15) : Sm (.str (tsh ps st)) 2 13000 := by
  have b1 : (shw (ps.map nV)).length ≤ 15 * 42 + 2 := (sm_flat (shrt_nats hx) (by rw [List.length_map]; exact lx)).ln
  have b2 : (shw (st.map nV)).length ≤ 15 * 42 + 2 := (sm_flat (shrt_nats hy) (by rw [List.length_map]; exact ly)).ln
  have e0 : (Str.empty ++ Str.ofString "Tree(").length = 5 := by decide
  have e1 : (Str.ofString ", ").length = 2 := by decide
  have e2 : (Str.ofString ")").length = 1 := by decide
  have q := PySem.StrLaws.reprText_len (tsh ps st) (low_tsh ps st)
  have l : (tsh ps st).length ≤ 1290 := by
    unfold tsh
    rw [Str.length_append, Str.length_append, Str.length_append, Str.length_append, e0, e1, e2]
    omega
  refine ⟨by simp only [PyData.showable], by simp only [PyData.hasDict], by simp only [PyData.depth]; omega, ?_⟩
  simp only [PyData.shown]
  omega
/-- the length of a list's text, told by those of its parts -/
theorem text_sum : ∀ (ts : List Str) (k : Nat) (acc : Str), (textFrom k acc ts).length ≤ acc.length + (ts.map fun t => t.length + 2).sum
  | [], k, acc => by
    show acc.length ≤ acc.length + 0
    omega
  | t :: r, k, acc => by
    have ih := text_sum r (k + 1) (acc ++ (if k > 0 then ", " else "" : String) ++ t)
    have e2 : (Str.ofString (if k > 0 then ", " else "")).length ≤ 2 := by
      split <;> decide
    rw [Str.length_append, Str.length_append] at ih
    rw [List.map_cons, List.sum_cons]
    show (textFrom (k + 1) (acc ++ (if k > 0 then ", " else "" : String) ++ t) r).length ≤ _
    omega
theorem shown_sum {ds : List PyData} : (PyData.list ds).shown.length ≤ (ds.map fun d => d.shown.length + 2).sum + 2 := by
  have q := text_sum (PyData.shownAll ds) 0 "["
  have e1 : (Str.ofString "[").length = 1 := by decide
  have e2 : (Str.ofString "]").length = 1 := by decide
  simp only [PyData.shown]
  unfold listText
  rw [Str.length_append, e2]
  rw [shownAll_eq_map, List.map_map] at q
  have e3 : (PyData.shownAll ds) = ds.map PyData.shown := shownAll_eq_map ds
  rw [e3]
  have e4 : (ds.map ((fun t => t.length + 2) ∘ PyData.shown)).sum = (ds.map fun d => d.shown.length + 2).sum := rfl
  rw [e4] at q
  omega
def rowD (ps st : List Nat) (g : Nat) : PyData := .list [fd (upV ps g), dN (kids ps g), dN (path ps g), fd (nV ((path ps g).length - 1)), fd (.bl (decide (g ∈ st)))]
def headD (ps st : List Nat) : List PyData := [fd (nV (ps.length + 1)), dN ps, dN st, .str (tsh ps st)]
def allD (ps st : List Nat) : List PyData := headD ps st ++ (List.range (ps.length + 1)).map (rowD ps st)
theorem good_le {ps : List Nat} (hp : Good ps) {n : Nat} (hn : n ∈ ps) : n ≤ ps.length := by
  obtain ⟨i, hi, rfl⟩ := List.getElem_of_mem hn
  have := hp i hi
  rw [List.getD_eq_getElem?_getD, List.getElem?_eq_getElem hi] at this
  have : ps[i] ≤ i := this
  omega
theorem kids_le' {ps : List Nat} {g n : Nat} (h : n ∈ kids ps g) : n ≤ ps.length := (kids_mem h).2.1
theorem kids_len' (ps : List Nat) (g : Nat) : (kids ps g).length ≤ ps.length + 1 := by
  have := List.length_filter_le (fun c => decide ((upsV ps)[c]? = some (nV g))) (List.range (ps.length + 1))
  rw [List.length_range] at this
  exact this
theorem sm_row {ps st : List Nat} (hp : Good ps) (hl : ps.length ≤ 15) {g : Nat} (hg : g ≤ ps.length) : Sm (rowD ps st g) 2 3600 := by
  have sn : ∀ {l : List Nat}, (∀ n ∈ l, n ≤ ps.length) → l.length ≤ 16 → Sm (dN l) 1 674 := fun h1 h2 => (sm_flat (n := 16) (shrt_nats fun n hn => by have := h1 n hn; omega) (by rw [List.length_map]; exact h2)).mono (Nat.le_refl _) (by omega)
  have s1 : ∀ {x : V}, Shrt x → Sm (fd x) 1 674 := fun h => h.sm.mono (by omega) (by omega)
  have lp := path_len_le hp hg
  refine (sm_list (k := 1) (B := 674) (smA_cons (s1 (upV_shrt hp (by omega) hg)) (smA_cons (sn (fun n hn => kids_le' hn) (Nat.le_trans (kids_len' ps g) (by omega))) (smA_cons (sn (fun n hn => Nat.le_trans (path_le hp hg hn) hg) (by omega)) (smA_cons (s1 (shrt_nat (by omega))) (smA_cons (s1 (shrt_bl _)) smA_nil)))))).mono (by omega) (by show 5 * (674 + 2) + 2 ≤ 3600; omega)
theorem sm_all {ps st : List Nat} (hp : Good ps) (ok : StOk ps st) (hl : ps.length ≤ 15) : Sm (.list (allD ps st)) 60 100000 := by
  have lst := ok.len
  have a1 : Sm (fd (nV (ps.length + 1))) 2 700 := (shrt_nat (by omega)).sm.mono (by omega) (by omega)
  have a2 : Sm (dN ps) 2 700 := (sm_flat (n := 15) (shrt_nats fun n hn => by have := good_le hp hn; omega) (by rw [List.length_map]; exact hl)).mono (by omega) (by omega)
  have a3 : Sm (dN st) 2 700 := (sm_flat (n := 15) (shrt_nats fun n hn => by have := ok.bd n hn; omega) (by rw [List.length_map]; omega)).mono (by omega) (by omega)
  have a4 : Sm (.str (tsh ps st)) 2 13000 := sm_tsh (fun n hn => by have := good_le hp hn; omega) (fun n hn => by have := ok.bd n hn; omega) hl (by omega)
  have ar : ∀ d ∈ (List.range (ps.length + 1)).map (rowD ps st), Sm d 2 3600 := fun d hd => by
    obtain ⟨g, hg, rfl⟩ := List.mem_map.mp hd
    exact sm_row hp hl (by have := List.mem_range.mp hg; omega)
  have all : ∀ d ∈ allD ps st, Sm d 2 13000 := fun d hd => by
    rcases List.mem_append.mp hd with z | z
    · exact smA_cons (a1.mono (by omega) (by omega)) (smA_cons (a2.mono (by omega) (by omega)) (smA_cons (a3.mono (by omega) (by omega)) (smA_cons a4 smA_nil))) d z
    · exact (ar d z).mono (by omega) (by omega)
  have base := sm_list all
  refine ⟨base.sh, base.nd, Nat.le_trans base.de (by omega), Nat.le_trans shown_sum ?_⟩
  have rows : (((List.range (ps.length + 1)).map (rowD ps st)).map fun d => d.shown.length + 2).sum ≤ (ps.length + 1) * 3602 := by
    have q : ∀ l : List PyData, (∀ d ∈ l, Sm d 2 3600) → (l.map fun d => d.shown.length + 2).sum ≤ l.length * 3602 := fun l => by
      induction l with
      | nil =>
        intro _
        exact Nat.zero_le _
      | cons d l ih =>
        intro h
        have h1 := (h d List.mem_cons_self).ln
        have h2 := ih fun e he => h e (List.mem_cons_of_mem _ he)
        rw [List.map_cons, List.sum_cons, List.length_cons, Nat.add_mul]
        omega
    have := q _ ar
    rw [List.length_map, List.length_range] at this
    exact this
  unfold allD headD
  rw [List.map_append, List.sum_append]
  simp only [List.map_cons, List.map_nil, List.sum_cons, List.sum_nil]
  have h1 := a1.ln
  have h2 := a2.ln
  have h3 := a3.ln
  have h4 := a4.ln
  have : (ps.length + 1) * 3602 ≤ 16 * 3602 := Nat.mul_le_mul_right _ (by omega)
  omega
def dueS (ps st : List Nat) : Str := (PyData.list (allD ps st)).shown
end My
namespace My
open PySem PySem.Spec PyProof.Rows L2 GL Evl StX SkE
def sp_Lmixed (K : PySem.W.Frag) : Sp := fun vs H Q _ => ∃ a l, ∃ st : List Nat, vs = [.ref a, .ref l] ∧ PotAt H a ∧ SqL K H l (st.map nV) ∧ st.length ≤ 100 ∧ ∀ H' p (ms : List Nat), H p = none → ExB a H H' → PotAt H' a → H' p = some (.lst (ms.map nV)) → ms.Perm st → Q (.ref p) H'
def sp_Lmarks : Sp := fun vs H Q _ => ∃ a u ps, vs = [.ref a, .ref u] ∧ PotAt H a ∧ H u = some (.lst (upsV ps)) ∧ Good ps ∧ ps.length ≤ 50 ∧ ∀ H' p (st : List Nat), H p = none → ExB a H H' → PotAt H' a → H' p = some (.lst (st.map nV)) → StOk ps st → st.Pairwise (· < ·) → Q (.ref p) H'
def sp_Ldue (K : PySem.W.Frag) : Sp := fun vs H Q _ => ∃ u l, ∃ ps st : List Nat, vs = [.ref u, .ref l] ∧ H u = some (.lst (upsV ps)) ∧ H l = some (.lst (st.map nV)) ∧ Good ps ∧ ps.length ≤ 15 ∧ StOk ps st ∧ RetV (.str (dueS ps st)) H Q
def sp_Ltold (C : Addr) : Sp := fun vs H Q _ => ∃ t ps st, ∃ b : Bool, vs = [.ref t, nV (ps.length + 1), .bl b] ∧ TreeAt C H t ps st ∧ Good ps ∧ ps.length ≤ 15 ∧ StOk ps st ∧ RetV (.str (dueS ps st)) H Q
section
variable {P : Program} {w : World} {K : PySem.W.Frag} {mg : Str → Option Value} {base : Heap} {C : Addr} {H H' : Hp} {σ : L2.St} {te tb tx : TE} {ta : TA} {t tu : TT} {tz tu' : TS} {D : Ends} {xs ys vs : List V} {a r : Addr} {ds es : List PyData} {b : Bool}
theorem nx_raw (h : D.nx σ H) : tNext D σ H := h
theorem and_raw {Q : Bool → Hp → Prop} (h : EvT t σ H b) (h1 : b = true → ∀ H1, Ex H H1 → tu σ H1 Q) (h2 : b = false → ∀ H1, Ex H H1 → Q false H1) : tAnd t tu σ H Q := h H (Ex.refl H) _ fun H1 e => by
  cases b with
  | true => exact h1 rfl H1 e
  | false => exact h2 rfl H1 e
theorem lc_R1 {j : Nat} {vs : List Nat} {n : Nat} {Q : VK} (Pv : Addr → Nat → Hp → Prop) (h : EvA ta σ H [nV n]) (hn : n ≤ 40000) (h0 : ∀ H1 Dl, Ex H H1 → H1 Dl = none → Pv Dl 0 (upd H1 Dl (.lst [])))
    (hs : ∀ Dl (i : Nat) H', i < n → Pv Dl i H' → wipe ((wipe σ vs).set j (some (nV i))) vs = wipe σ vs ∧ t ((wipe σ vs).set j (some (nV i))) H' fun b H3 => if b = true then te ((wipe σ vs).set j (some (nV i))) H3 fun y H4 => ∃ acc, H4 Dl = some (.lst acc) ∧ acc.length < sizeLine ∧ Pv Dl (i + 1) (upd H4 Dl (.lst (acc ++ [y]))) else Pv Dl (i + 1) H3)
    (hd : ∀ Dl H', Pv Dl n H' → Q (.ref Dl) H') : tLc (iRng1 ta) (gName j) t te vs σ H Q := h H (Ex.refl H) _ fun H1 e1 => ⟨(n : Int), rfl, by omega, by omega, fun Dl hD =>
  lc_range (lo := 0) (n := (n : Int).toNat) (Pv Dl) (h0 H1 Dl e1 hD) (fun i H' hi p => by
    have e0 : (0 : Int) + (i : Int) = (i : Int) := Int.zero_add _
    rw [e0]
    exact hs Dl i H' (by omega) p) (fun H' p => hd Dl H' (by rwa [Int.toNat_natCast] at p))⟩
theorem rc_all {p : Addr} {bs : List Bool} (h : H p = some (.lst (bs.map V.bl))) : RC (rAll K) [.ref p] H (.bl (bs.all id)) := fun H1 e Q q => ⟨p, bs, rfl, sq_of (e _ _ h), q H1 (Ex.refl H1)⟩
theorem ev_allB {bs : List Bool} (h : EvL te σ H (bs.map V.bl)) : Ev (tCB (rAll K) (tCons te tNil)) σ H (.bl (bs.all id)) := fun H1 e Q q => h H1 e _ fun p H2 hp e2 h2 => rc_all h2 H2 (Ex.refl H2) Q fun H3 e3 => q H3 (e2.trans e3)
/-- a new list of data, given a name -/
theorem q_new {i : Nat} (h : EvDA K ta σ H ds) (hl : ds.length ≤ 100000) (k : ∀ r vs H1, H r = none → Ex H H1 → H1 r = some (.lst vs) → DpAll K (hole r H1) vs ds → tz D (σ.set i (some (.ref r))) H1) : tSeq (tAsg (tLst ta) (gName i)) tz D σ H :=
  h H (Ex.refl H) _ fun vs H2 e2 hvs => ⟨sz_of (by rw [dpAll_len (hvs H2 (Ex.refl H2))]; exact hl), fun p hp => k p vs _ (fresh_back e2 hp) (e2.trans (Ex.new hp)) upd_same (hvs _ fun b o hb => by
    rw [hole_ne (ne_of_none hb hp), upd_ne (ne_of_none hb hp)]
    exact hb)⟩
/-- for i, x in enumerate(list) -/
theorem q_forEn {i j : Nat} (h : EvA ta σ H [.ref a]) (hs : H a = some (.lst xs)) (Pv : Nat → L2.St → Hp → Prop) (h0 : ∀ H1, Ex H H1 → Pv 0 σ H1) (hE : ∀ n σ' H', Pv n σ' H' → H' a = some (.lst xs))
    (step : ∀ n x σ' H' H2, xs[n]? = some x → Pv n σ' H' → Ex H' H2 → tu' { D with nx := Pv (n + 1), ct := Pv (n + 1), bk := tz D } ((σ'.set i (some (nV n))).set j (some x)) H2) (hd : ∀ σ' H', Pv xs.length σ' H' → tz D σ' H') :
    tSeq (tFor (iEnum K ta) (gTup K 2 (gCons (gName i) (gCons (gName j) gNil))) tu') tz D σ H :=
  h H (Ex.refl H) _ fun H1 e => ⟨a, xs, rfl, sq_of (e _ _ hs), for_it (D := { D with nx := tz D }) walk_enum Pv (h0 H1 e) (fun n σ' H' _ p => sq_of (hE n σ' H' p)) (by
    rintro n v σ' H' H2 hn p ⟨T, x, z, rfl, nT, rfl, e1, e2⟩
    cases e1
    exact ⟨T, _, rfl, st_of upd_same, rfl, _, _, rfl, _, _, rfl, rfl, step n z σ' H' _ e2 p (Ex.new nT)⟩) hd⟩
theorem erase_map (f : Nat → V) : ∀ (l : List Nat) (i : Nat), (l.map f).eraseIdx i = (l.eraseIdx i).map f
  | [], _ => rfl
  | _ :: _, 0 => rfl
  | x :: l, i + 1 => by
    rw [List.map_cons, List.eraseIdx_cons_succ, List.eraseIdx_cons_succ, List.map_cons, erase_map f l i]


end
end My
namespace My
open PySem PySem.Spec PyProof.Rows L2 GL Evl StX SkE
theorem tsh_eq (ps st : List Nat) : tsh ps st = (((Str.ofString "Tree(" ++ shw (ps.map nV)) ++ Str.ofString ", ") ++ shw (st.map nV)) ++ Str.ofString ")" := by
  unfold tsh
  rw [show (Str.empty ++ Str.ofString "Tree(") = Str.ofString "Tree(" from by decide]
theorem rows_succ (ps st : List Nat) (n : Nat) : (headD ps st ++ (List.range n).map (rowD ps st)) ++ [rowD ps st n] = headD ps st ++ (List.range (n + 1)).map (rowD ps st) := by
  rw [List.range_succ, List.map_append, List.append_assoc]
  rfl
section
variable {P : Program} {w : World} {K : PySem.W.Frag} {mg : Str → Option Value} {base : Heap} {C : Addr} {H H' : Hp} {σ : L2.St} {te ta tb tx : TE} {tA : TA} {tz : TS} {D : Ends} {xs ys vs : List V} {a r : Addr} {ds es : List PyData} {o : HO}
theorem rv_scat {i j : Str} (h : i.length + j.length ≤ 100000) : RV (fun x y H Q => ∃ i j, x = V.str i ∧ y = V.str j ∧ i.length + j.length ≤ sizeLine ∧ Q (.str (i ++ j)) H) (.str i) (.str j) H (.str (i ++ j)) := fun H1 _ Q q => ⟨i, j, rfl, rfl, sz_of h, q H1 (Ex.refl H1)⟩
theorem q_par2 {i j : Nat} (h : ta σ H fun x H1 => tb σ H1 fun y H2 => ∃ u v, [x, y] = [u, v] ∧ tz D ((σ.set i (some u)).set j (some v)) H2) : tSeq (tPar i j (tCons ta (tCons tb tNil))) tz D σ H := h
theorem q_newO {i : Nat} (hr : H r = some o) (h : EvDAo K r tA σ H ds) (hl : ds.length ≤ 100000) (k : ∀ s vs H1, H s = none → Ex H H1 → H1 s = some (.lst vs) → DpAll K (hole r H1) vs ds → tz D (σ.set i (some (.ref s))) H1) : tSeq (tAsg (tLst tA) (gName i)) tz D σ H :=
  h H (Ex.refl H) _ fun vs H2 e2 hvs => ⟨sz_of (by rw [dpAll_len hvs]; exact hl), fun p hp => k p vs _ (fresh_back e2 hp) (e2.trans (Ex.new hp)) upd_same (dpAll_ex (hole_of (Ex.new hp)) hvs)⟩
theorem rc_reprT {t : Addr} {ps st : List Nat} {E : XK} (h : TreeAt C H t ps st) (hp : Good ps) (hl : ps.length ≤ 199) (ok : StOk ps st) :
    RC (fun xs H Q => ∃ a dx fs, xs = [V.ref a] ∧ H a = some (.ins C dx fs) ∧ sp_Trepr C [V.ref a] H (fun v H' => ∃ z : Str, v = V.str z ∧ Q (.str z) H') E) [V.ref t] H (.str (tsh ps st)) := by
  intro H1 e Q q
  obtain ⟨dx, la, ls, p⟩ := h.ex e
  exact ⟨t, dx, _, rfl, p.ob, t, ps, st, rfl, ⟨dx, la, ls, p⟩, hp, hl, by have := ok.len; omega, fun g hg => by have := ok.bd g hg; omega, fun H2 e2 => ⟨_, rfl, q H2 e2⟩⟩
theorem dpN {l : List Nat} {p : Addr} (n : p ≠ r) (h : H p = some (.lst (l.map nV))) : Dp K (hole r H) (.ref p) (dN l) := .lst (sq_of (by rw [hole_ne n]; exact h)) (fd_all (flat_nat l))
theorem upV_flat (ps : List Nat) (g : Nat) : flatV (upV ps g) = true := by
  unfold upV
  split <;> rfl


end
end My
namespace My
open PySem PySem.Spec PyProof.Rows L2 GL Evl StX SkE
/-- a tree that was made just now -/
def EvTn (C : Addr) (te : TE) (σ : L2.St) (H : Hp) (ps st : List Nat) : Prop := ∀ H1, Ex H H1 → ∀ Q : VK, (∀ t H2, Ex H1 H2 → TreeNew C H1 H2 t ps st → Q (.ref t) H2) → te σ H1 Q
theorem srt_perm_is {ms st : List Nat} (h : ms.Perm st) (hs : st.Pairwise (· < ·)) : srt ms = st := by
  have hp : (srt ms).Pairwise (· ≤ ·) := by
    have q := List.pairwise_mergeSort (le := fun a b : Nat => decide (a ≤ b)) (fun a b c h1 h2 => decide_eq_true (Nat.le_trans (of_decide_eq_true h1) (of_decide_eq_true h2))) (fun a b => by
      rcases Nat.le_total a b with z | z
      · rw [decide_eq_true z, Bool.true_or]
      · rw [decide_eq_true z, Bool.or_true]) ms
    exact q.imp fun {a b} z => of_decide_eq_true z
  exact List.Perm.eq_of_pairwise (le := fun a b : Nat => a ≤ b) (fun x y _ _ h1 h2 => Nat.le_antisymm h1 h2) hp (hs.imp fun {a b} h => Nat.le_of_lt h) ((srt_perm ms).trans h)
theorem TreeNew.hole {C : Addr} {H0 H : Hp} {t r : Addr} {ps st : List Nat} {o : HO} (h : TreeNew C H0 H t ps st) (hr : H0 r = some o) : TreeAt C (hole r H) t ps st := by
  obtain ⟨dx, la, ls, q, q1, q2, q3⟩ := h
  exact ⟨dx, la, ls, ⟨by rw [hole_ne (ne_of_none hr q1).symm]; exact q.ob, by rw [hole_ne (ne_of_none hr q2).symm]; exact q.ab, by rw [hole_ne (ne_of_none hr q3).symm]; exact q.sk⟩⟩
theorem newB {a : Addr} {C : Addr} {H0 H1 H2 : Hp} {t : Addr} {ps st : List Nat} (x : ExB a H0 H1) (p : PotAt H1 a) (h : TreeNew C H1 H2 t ps st) : TreeNew C H0 H2 t ps st := by
  obtain ⟨dx, la, ls, q, q1, q2, q3⟩ := h
  obtain ⟨u, v, hu, _⟩ := p
  exact ⟨dx, la, ls, q, x.free hu q1, x.free hu q2, x.free hu q3⟩
/-- a tree stays when something else is changed -/
theorem TreeNew.off {C : Addr} {H0 H : Hp} {t r : Addr} {ps st : List Nat} {o u : HO} (h : TreeNew C H0 H t ps st) (hr : H0 r = some o) : TreeNew C H0 (upd H r u) t ps st := by
  obtain ⟨dx, la, ls, q, q1, q2, q3⟩ := h
  exact ⟨dx, la, ls, ⟨by rw [upd_ne (ne_of_none hr q1).symm]; exact q.ob, by rw [upd_ne (ne_of_none hr q2).symm]; exact q.ab, by rw [upd_ne (ne_of_none hr q3).symm]; exact q.sk⟩, q1, q2, q3⟩
section
variable {P : Program} {w : World} {K : PySem.W.Frag} {mg : Str → Option Value} {base : Heap} {C : Addr} {H H' : Hp} {σ : L2.St} {te ta tb tx : TE} {tA : TA} {tz : TS} {D : Ends} {xs ys vs : List V} {a r t : Addr} {ps st : List Nat} {o : HO} {Er : XK}
theorem tn_2 (ha : EvS K ta σ H (ps.map nV)) (hb : EvS K tb σ H (st.map nV)) (hg : Good ps) (hl : ps.length ≤ 199) (ok : StOk ps st) (h64 : st.length < 64) : EvTn C (tMake C (sp_Tinit K C) [] Er (tCons ta (tCons tb tNil))) σ H ps (srt st) := fun H1 e Q q =>
  ha H1 e _ fun a H2 e2 h2 => hb H2 (e.trans e2) _ fun b H3 e3 h3 => fun x dx hx hdx hne => made_tr hx hdx (h2.ex e3) h3 hg hl ok h64 fun H4 e4 hT => q x H4 ((e2.trans e3).trans e4) (hT.back (e2.trans e3))
theorem tn_1 {d1 : Addr} (hd : ∀ H, Seq K H d1 []) (ha : EvS K ta σ H (ps.map nV)) (hg : Good ps) (hl : ps.length ≤ 199) : EvTn C (tMake C (sp_Tinit K C) [.ref d1] Er (tCons ta tNil)) σ H ps [] := fun H1 e Q q =>
  ha H1 e _ fun a H2 e2 h2 => fun x dx hx hdx hne => made_tr (st := []) hx hdx h2 (hd H2) hg hl (StOk.nil ps) (by decide) fun H4 e4 hT => q x H4 (e2.trans e4) (by
    rw [srt_nil] at hT
    exact hT.back e2)
theorem tn_k {gV : List V → List V → List V} (hgV : ∀ x a b : V, gV [x] [b, a] = [x, a, b]) (hb : EvS K tb σ H (st.map nV)) (ha : EvS K ta σ H (ps.map nV)) (hg : Good ps) (hl : ps.length ≤ 199) (ok : StOk ps st) (h64 : st.length < 64) : EvTn C (tMakeK C 2 (sp_Tinit K C) gV Er (tCons tb (tCons ta tNil))) σ H ps (srt st) := fun H1 e Q q =>
  hb H1 e _ fun b H2 e2 h2 => ha H2 (e.trans e2) _ fun a H3 e3 h3 => ⟨rfl, fun x dx hx hdx hne => by
    rw [hgV]
    exact made_tr hx hdx h3 (h2.ex e3) hg hl ok h64 fun H4 e4 hT => q x H4 ((e2.trans e3).trans e4) (hT.back (e2.trans e3))⟩
theorem tn_is {st' : List Nat} (h : EvTn C te σ H ps st) (e : st = st') : EvTn C te σ H ps st' := by
  rw [← e]
  exact h
theorem q_ext {l : Addr} (hl : H l = some (.lst xs)) (ha : Ev ta σ H (.ref l)) (h : EvL te σ H ys) (hz : xs.length + ys.length ≤ 100000) (k : ∀ H1, Ex H H1 → tz D σ (upd H1 l (.lst (xs ++ ys)))) : tSeq (tDrop (tBM K "list" rExtend ta (tCons te tNil))) tz D σ H :=
  ha H (Ex.refl H) _ fun H1 e1 => ⟨Or.inl ⟨rfl, xs, sq_of (e1 _ _ hl)⟩, h H1 e1 _ fun b H2 hb e2 h2 => ⟨l, b, xs, ys, rfl, rfl, (e1.trans e2) _ _ hl, h2, sz_of hz, k H2 (e1.trans e2)⟩⟩
def sp_Lmade (C : Addr) : Sp := fun vs H Q _ => ∃ a u l, ∃ ps st : List Nat, vs = [.ref a, .ref u, .ref l] ∧ PotAt H a ∧ H u = some (.lst (upsV ps)) ∧ H l = some (.lst (st.map nV)) ∧ Good ps ∧ ps.length ≤ 50 ∧ StOk ps st ∧ st.Pairwise (· < ·) ∧ ∀ H' t, ExB a H H' → PotAt H' a → TreeNew C H H' t ps st → Q (.ref t) H'
def sp_Lnear (K : PySem.W.Frag) (C : Addr) : Sp := fun vs H Q _ => ∃ u l, ∃ ps st : List Nat, vs = [.ref u, .ref l] ∧ H u = some (.lst (upsV ps)) ∧ H l = some (.lst (st.map nV)) ∧ Good ps ∧ ps.length ≤ 50 ∧ StOk ps st ∧ st.Pairwise (· < ·) ∧
  ∀ H' p (ts : List Addr), H p = none → Ex H H' → H' p = some (.lst (ts.map V.ref)) → ts.length ≤ 10 → (∀ t ∈ ts, ∃ ps' st', TreeAt C H' t ps' st' ∧ ¬ (ps' = ps ∧ st' = st)) → Q (.ref p) H'

theorem el_cut1 {x : V} {u : Addr} (hu : SqL K H u (x :: xs)) (h : Ev te σ H (.ref u)) : EvL (tSl (rSlL K) te (tPart (tC (.int 1))) tNoPart) σ H xs := el_is (el_sl h (eo_some ev_c) eo_none hu) (by
  unfold cutV
  rw [show (1 : Int) = ((1 : Nat) : Int) from rfl, HT.sIx_nat, HT.sIx_none, List.length_cons, show min 1 (xs.length + 1) = 1 by omega, Nat.add_sub_cancel]
  exact List.take_length)
theorem el_cutM {x z : V} {u : Addr} (hu : SqL K H u (x :: (xs ++ [z]))) (h : Ev te σ H (.ref u)) : EvL (tSl (rSlL K) te (tPart (tC (.int 1))) (tPart (tUn (rU fun i => .int (-i)) (tC (.int 1))))) σ H xs := el_is (el_sl h (eo_some ev_c) (eo_some (ev_un ev_c ru_neg)) hu) (by
  have hl : (x :: (xs ++ [z])).length = xs.length + 2 := by rw [List.length_cons, List.length_append, List.length_singleton]
  have e1 : HT.sIx (x :: (xs ++ [z])).length 0 (some (1 : Int)) = 1 := by
    rw [show (1 : Int) = ((1 : Nat) : Int) from rfl, HT.sIx_nat, hl]
    omega
  have e2 : HT.sIx (x :: (xs ++ [z])).length (x :: (xs ++ [z])).length (some (-1)) = xs.length + 1 := by
    rw [hl]
    unfold HT.sIx
    simp
    omega
  unfold cutV
  rw [e1, e2, List.drop_succ_cons, List.drop_zero, show xs.length + 1 - 1 = xs.length by omega]
  exact List.take_left' rfl)
theorem s_appT {r : Addr} {ts : List Addr} (hl : H r = some (.lst (ts.map V.ref))) (ha : Ev tx σ H (.ref r)) (h : EvTn C te σ H ps st) (hz : ts.length < 1000) (k : ∀ t H1, ExB r H H1 → H1 r = some (.lst ((ts ++ [t]).map V.ref)) → TreeAt C (hole r H1) t ps st → D.nx σ H1) :
    tDrop (tBM K "list" rAppend tx (tCons te tNil)) D σ H := ha H (Ex.refl H) _ fun H1 e1 =>
  ⟨Or.inl ⟨rfl, _, sq_of (e1 _ _ hl)⟩, h H1 e1 _ fun t H2 e2 hT => ⟨r, _, .ref t, rfl, rfl, (e1.trans e2) _ _ hl, sz_lt (by rw [List.length_map]; omega), k t _ ((ExB.of (e1.trans e2)).trans ExB.set) (by rw [upd_same, List.map_append]; rfl) (by
    rw [hole_upd]
    exact hT.hole (e1 _ _ hl))⟩⟩
theorem ed_emp : EvD K (tLst tNil) σ H (dN []) := ed_l (xs := []) (el_lst ea_nil (Nat.zero_le _)) rfl
end
end My
namespace My
open PySem PySem.Spec PyProof.Rows L2 GL Evl StX SkE
theorem good_init {ps : List Nat} {z : Nat} (h : Good (ps ++ [z])) : Good ps := fun i hi => by
  have q := h i (by rw [List.length_append]; omega)
  rw [List.getD_eq_getElem?_getD, List.getElem?_append_left hi, ← List.getD_eq_getElem?_getD] at q
  exact q
theorem good_last {ps : List Nat} {z : Nat} (h : Good (ps ++ [z])) : z ≤ ps.length := by
  have q := h ps.length (by rw [List.length_append, List.length_singleton]; omega)
  rw [List.getD_eq_getElem?_getD, List.getElem?_append_right (Nat.le_refl _), Nat.sub_self] at q
  exact q
theorem upsV_last (ps : List Nat) (z : Nat) : upsV (ps ++ [z]) = V.non :: (ps.map nV ++ [nV z]) := by
  unfold upsV
  rw [List.map_append]
  rfl
theorem st_tail {ps st : List Nat} {m : Nat} (ok : StOk ps (m :: st)) (pw : (m :: st).Pairwise (· < ·)) (hg : Good ps) : StOk ps st := by
  obtain ⟨p1, p2⟩ := List.pairwise_cons.mp pw
  refine ⟨(List.nodup_cons.mp ok.nd).2, fun g hg => ok.bd g (List.mem_cons_of_mem _ hg), fun c h1 h2 h3 => ?_⟩
  have q := ok.cl c h1 h2 (List.mem_cons_of_mem _ h3)
  rcases List.mem_cons.mp q with z | z
  · have := p1 _ h3
    have := up_lt hg (by omega) h2
    omega
  · exact z
def NearI (C : Addr) (H : Hp) (r u l : Addr) (ps st : List Nat) (k : Nat) (σ' : L2.St) (H' : Hp) : Prop := ∃ ts : List Addr, σ' = [some (.ref u), some (.ref l), some (.ref r)] ∧ Ex H H' ∧ H' r = some (.lst (ts.map V.ref)) ∧ ts.length ≤ k ∧ ∀ t ∈ ts, ∃ ps' st', TreeAt C (hole r H') t ps' st' ∧ ¬ (ps' = ps ∧ st' = st)
/-- kinds of values that are no trees -/
def Knd (v : V) (H : Hp) : Prop := v = .non ∨ (∃ i, v = .int i) ∨ (∃ s, v = .str s) ∨ (∃ p xs, v = .ref p ∧ H p = some (.lst xs)) ∨ (∃ p xs, v = .ref p ∧ H p = some (.tup xs))
theorem Knd.ex {v : V} {H H' : Hp} (h : Knd v H) (e : Ex H H') : Knd v H' := by
  rcases h with h | h | h | ⟨p, xs, h1, h2⟩ | ⟨p, xs, h1, h2⟩
  · exact .inl h
  · exact .inr (.inl h)
  · exact .inr (.inr (.inl h))
  · exact .inr (.inr (.inr (.inl ⟨p, xs, h1, e _ _ h2⟩)))
  · exact .inr (.inr (.inr (.inr ⟨p, xs, h1, e _ _ h2⟩)))
theorem Knd.go {K : PySem.W.Frag} {v : V} {H : Hp} (h : Knd v H) : ∃ T, T ∈ kinds ∧ TyB K H v T ∧ ∀ H1, Ex H H1 → TyX K H1 v (.type T) := by
  rcases h with rfl | ⟨i, rfl⟩ | ⟨s, rfl⟩ | ⟨p, xs, rfl, h⟩ | ⟨p, xs, rfl, h⟩
  · exact ⟨"NoneType", by simp [kinds], .non, fun _ _ => .base .non⟩
  · exact ⟨"int", by simp [kinds], .int i, fun _ _ => .base (.int i)⟩
  · exact ⟨"str", by simp [kinds], .str s, fun _ _ => .base (.str s)⟩
  · exact ⟨"list", by simp [kinds], .lst (sq_of h), fun _ e => .base (.lst (e _ _ h))⟩
  · exact ⟨"tuple", by simp [kinds], .tup (st_of h), fun _ e => .base (.tup (e _ _ h))⟩
def EvK (te : TE) (σ : L2.St) (H : Hp) : Prop := ∀ H1, Ex H H1 → ∀ Q : VK, (∀ v H2, Ex H1 H2 → Knd v H2 → Q v H2) → te σ H1 Q
def EvKA (n : Nat) (ta : TA) (σ : L2.St) (H : Hp) : Prop := ∀ H1, Ex H H1 → ∀ Q : List V → Hp → Prop, (∀ vs H2, Ex H1 H2 → vs.length = n → (∀ v ∈ vs, Knd v H2) → Q vs H2) → ta σ H1 Q
def EvFA (n : Nat) (ta : TA) (σ : L2.St) (H : Hp) : Prop := ∀ H1, Ex H H1 → ∀ Q : List V → Hp → Prop, (∀ (qs : List Addr) H2, Ex H1 H2 → qs.length = n → (∀ q ∈ qs, H1 q = none ∧ ∃ xs, H2 q = some (.lst xs) ∧ xs.length ≤ 300) → Q (qs.map V.ref) H2) → ta σ H1 Q
section
variable {P : Program} {w : World} {K : PySem.W.Frag} {mg : Str → Option Value} {base : Heap} {C : Addr} {H H' : Hp} {σ : L2.St} {te ta tb tx : TE} {tA : TA} {tz : TS} {D : Ends} {xs ys vs : List V} {a b r t : Addr} {ps st ps' st' : List Nat} {o : HO} {E Er : XK} {n : Nat} {v : V}
theorem TreeNew.exB {H0 H1 H2 : Hp} (h : TreeNew C H0 H1 t ps st) (p : PotAt H0 a) (x : ExB a H1 H2) : TreeNew C H0 H2 t ps st := by
  obtain ⟨dx, la, ls, q, q1, q2, q3⟩ := h
  obtain ⟨u, v, hu, _⟩ := p
  have n : ∀ {b : Addr}, H0 b = none → b ≠ a := fun hb e => by
    rw [e, hu] at hb
    cases hb
  exact ⟨dx, la, ls, ⟨x _ _ (n q1) q.ob, x _ _ (n q2) q.ab, x _ _ (n q3) q.sk⟩, q1, q2, q3⟩
theorem ek_v (h : Ev te σ H v) (hk : Knd v H) : EvK te σ H := fun H1 e Q q => h H1 e Q fun H2 e2 => q v H2 e2 (hk.ex (e.trans e2))
theorem ek_l (h : EvL te σ H xs) : EvK te σ H := fun H1 e Q q => h H1 e Q fun p H2 _ e2 h2 => q _ H2 e2 (.inr (.inr (.inr (.inl ⟨p, xs, rfl, h2⟩))))
theorem ek_tup (h : EvKA n tA σ H) (hn : n ≤ 100) : EvK (tTup tA) σ H := fun H1 e Q q => h H1 e _ fun vs H2 e2 hl _ => ⟨sz_of (by omega), fun p hp => q _ _ (e2.trans (Ex.new hp)) (.inr (.inr (.inr (.inr ⟨p, vs, rfl, upd_same⟩))))⟩
theorem eka_nil : EvKA 0 tNil σ H := fun H1 _ _ q => q [] H1 (Ex.refl H1) rfl fun v hv => absurd hv List.not_mem_nil
theorem eka_cons (h : EvK te σ H) (hr : EvKA n tA σ H) : EvKA (n + 1) (tCons te tA) σ H := fun H1 e1 Q q =>
  h H1 e1 _ fun v H2 e2 hv => hr H2 (e1.trans e2) _ fun vs H3 e3 hl hvs => q (v :: vs) H3 (e2.trans e3) (by rw [List.length_cons, hl]) fun w hw => (List.mem_cons.mp hw).elim (fun z => z ▸ hv.ex e3) (hvs w)
theorem efa_nil : EvFA 0 tNil σ H := fun H1 _ _ q => q [] H1 (Ex.refl H1) rfl fun v hv => absurd hv List.not_mem_nil
theorem efa_cons (h : EvL te σ H xs) (hz : xs.length ≤ 300) (hr : EvFA n tA σ H) : EvFA (n + 1) (tCons te tA) σ H := fun H1 e1 Q q =>
  h H1 e1 _ fun p H2 hp e2 h2 => hr H2 (e1.trans e2) _ fun qs H3 e3 hl hq => q (p :: qs) H3 (e2.trans e3) (by rw [List.length_cons, hl]) fun w hw => (List.mem_cons.mp hw).elim (fun z => by
    subst z
    exact ⟨hp, xs, e3 _ _ h2, hz⟩) fun z => ⟨fresh_back e2 (hq w z).1, (hq w z).2⟩
theorem s_rev {l : Addr} (ha : Ev te σ H (.ref l)) (hl : H l = some (.lst xs)) (k : ∀ H1, Ex H H1 → D.nx σ (upd H1 l (.lst xs.reverse))) : tDrop (tBM0 K "list" rReverse te) D σ H :=
  ha H (Ex.refl H) _ fun H1 e1 => ⟨Or.inl ⟨rfl, xs, sq_of (e1 l _ hl)⟩, l, xs, rfl, rfl, e1 _ _ hl, k H1 e1⟩
/-- for x in [new lists]: x.extend(..), x.reverse() -/
theorem s_spoil {j : Nat} {c1 c2 : V} (h : EvFA n tA σ H) (hn : n ≤ 100) (hj : ∀ x, (σ.set j (some x))[j]? = some (some x)) (hjj : ∀ x y, (σ.set j (some x)).set j (some y) = σ.set j (some y))
    (k : ∀ H', Ex H H' → D.nx σ H') (k2 : ∀ x H', Ex H H' → D.nx (σ.set j (some x)) H') :
    tFor (iList K (tLst tA)) (gName j) (tSeq (tDrop (tBM K "list" rExtend (tVar j) (tCons (tLst (tCons (tC c1) (tCons (tC c2) tNil))) tNil))) (tDrop (tBM0 K "list" rReverse (tVar j)))) D σ H :=
  h H (Ex.refl H) _ fun qs H2 e2 hlen hq => ⟨sz_of (by rw [List.length_map]; omega), fun lp hlp => ⟨lp, rfl, ⟨_, sq_of upd_same⟩, for_list (xs := qs.map V.ref) (fun i σ' H' => Ex H H' ∧ H' lp = some (.lst (qs.map V.ref)) ∧ (∀ q ∈ qs, ∃ xs, H' q = some (.lst xs) ∧ xs.length ≤ 300 + 2 * i) ∧ (σ' = σ ∨ ∃ x, σ' = σ.set j (some x)))
    ⟨e2.trans (Ex.new hlp), upd_same, fun q hq' => by
      obtain ⟨_, xs, h1, h2⟩ := hq q hq'
      exact ⟨xs, Ex.new hlp _ _ h1, by omega⟩, .inl rfl⟩ (fun i σ' H' _ p => sq_of p.2.1) (fun i v σ' H' hv p => by
      obtain ⟨x1, hlp', hall, hσ⟩ := p
      have hi : i < qs.length := by
        have := (List.getElem?_eq_some_iff.mp hv).1
        rwa [List.length_map] at this
      have hvq : v = .ref qs[i] := by
        rw [List.getElem?_map, List.getElem?_eq_getElem hi] at hv
        exact (Option.some.inj hv).symm
      subst hvq
      have hm : qs[i] ∈ qs := List.getElem_mem hi
      obtain ⟨hq0, xs0, hq2, _⟩ := hq _ hm
      have nlp : qs[i] ≠ lp := ne_of_none hq2 hlp
      obtain ⟨ys, hy, hyl⟩ := hall _ hm
      have es : σ'.set j (some (.ref qs[i])) = σ.set j (some (.ref qs[i])) := by
        rcases hσ with rfl | ⟨x, rfl⟩
        · rfl
        · exact hjj _ _
      show tSeq _ _ _ (σ'.set j (some (.ref qs[i]))) H'
      rw [es]
      refine q_ext (ys := [c1, c2]) hy (ev_var (hj _)) (el_lst (ea_cons ev_c (ea_cons ev_c ea_nil)) (by show 2 ≤ 100000; omega)) (by show ys.length + 2 ≤ 100000; omega) fun H6 e6 => ?_
      refine s_rev (ev_var (hj _)) upd_same fun H7 e7 => ⟨?_, ?_, ?_, .inr ⟨_, rfl⟩⟩
      · exact Ex.mut ((Ex.mut (x1.trans e6) hq0).trans e7) hq0
      · rw [upd_ne nlp.symm]
        exact e7 _ _ (by rw [upd_ne nlp.symm]; exact e6 _ _ hlp')
      · intro q hq'
        by_cases e : q = qs[i]
        · rw [e]
          refine ⟨_, upd_same, ?_⟩
          rw [List.length_reverse, List.length_append]
          show ys.length + 2 ≤ _
          omega
        · obtain ⟨zs, hz, hzl⟩ := hall q hq'
          exact ⟨zs, by rw [upd_ne e]; exact e7 _ _ (by rw [upd_ne e]; exact e6 _ _ hz), by omega⟩) (fun σ' H' p => by
      obtain ⟨x1, _, _, hσ⟩ := p
      rcases hσ with rfl | ⟨x, rfl⟩
      · exact k H' x1
      · exact k2 x H' x1)⟩⟩
/-! ### own == and != -/
theorem rv_eqTr (ha : TreeAt C H a ps st) (hb : TreeAt C H b ps' st') : RV (rEqOwn K C (sp_Teq K C) E) (.ref a) (.ref b) H (.bl (decide (ps = ps') && decide (st = st'))) := fun H1 e Q q => by
  obtain ⟨dx, la, ls, p⟩ := ha.ex e
  obtain ⟨dx', la', ls', p'⟩ := hb.ex e
  exact ⟨a, dx, _, rfl, p.ob, .ins p'.ob, .inl ⟨a, b, ps, st, ps', st', rfl, ha.ex e, hb.ex e, fun H2 e2 => ⟨_, rfl, q H2 e2⟩⟩⟩
theorem rv_neTr (ha : TreeAt C H a ps st) (hb : TreeAt C H b ps' st') : RV (rNeOwn K C (sp_Teq K C) E) (.ref a) (.ref b) H (.bl (!(decide (ps = ps') && decide (st = st')))) := fun H1 e Q q => by
  obtain ⟨dx, la, ls, p⟩ := ha.ex e
  obtain ⟨dx', la', ls', p'⟩ := hb.ex e
  exact ⟨a, dx, _, rfl, p.ob, .ins p'.ob, .inl ⟨a, b, ps, st, ps', st', rfl, ha.ex e, hb.ex e, fun H2 e2 => ⟨_, rfl, q H2 e2⟩⟩⟩
theorem rv_eqKnd (ha : TreeAt C H a ps st) (hk : Knd v H) : RV (rEqOwn K C (sp_Teq K C) E) (.ref a) v H (.bl false) := fun H1 e Q q => by
  obtain ⟨dx, la, ls, p⟩ := ha.ex e
  obtain ⟨T, hT, ty, tx⟩ := (hk.ex e).go (K := K)
  exact ⟨a, dx, _, rfl, p.ob, .oth ty hT, .inr ⟨a, v, T, rfl, tx, hT, fun H2 e2 => ⟨_, rfl, q H2 e2⟩⟩⟩
/-- [.. for x in [things]], each with one and the same answer -/
theorem el_lcK {j : Nat} {vs : List Nat} {c : V} (h : EvKA n tA σ H) (hn : n ≤ 100) (hw : ∀ x, wipe ((wipe σ vs).set j (some x)) vs = wipe σ vs) (he : ∀ x H1, Ex H H1 → Knd x H1 → Ev te ((wipe σ vs).set j (some x)) H1 c) :
    EvL (tLc (iList K (tLst tA)) (gName j) tYes te vs) σ H (List.replicate n c) := fun H0 e Q q => h H0 e _ fun ws H1 e1 hl hk => ⟨sz_of (by omega), fun a ha => ⟨a, rfl, ⟨ws, sq_of upd_same⟩, fun Dl hD => by
  have x1 : Ex H0 (upd H1 a (.lst ws)) := e1.trans (Ex.new ha)
  have ha1 : (upd H1 a (.lst ws)) a = some (.lst ws) := upd_same
  have hk1 : ∀ v ∈ ws, Knd v (upd H1 a (.lst ws)) := fun v hv => (hk v hv).ex (Ex.new ha)
  generalize upd H1 a (.lst ws) = H2 at x1 ha1 hk1 hD
  exact lc_list (xs := ws) (Cw H2 (fun _ => true) (fun _ => c) Dl) ⟨hD, Ex.new hD, upd_same⟩ (fun i H' _ p => sq_of (p.2.1 _ _ ha1)) (fun i x H' hi p => ⟨hw x, cw_turn p (by have := (List.getElem?_eq_some_iff.mp hi).1; omega) et_yes (fun _ => he x H2 (e.trans x1) (hk1 x (List.mem_of_getElem? hi)))⟩)
    (fun H' p => q Dl H' (fresh_back x1 p.1) (x1.trans p.2.1) (by
      have g := p.2.2
      rw [hl, given_all, List.map_const', List.length_range] at g
      exact g))⟩⟩
/-- the same over a list of trees -/
theorem el_lcT {j : Nat} {vs : List Nat} {c : V} {tl : TE} {p : Addr} {ts : List Addr} (h : Ev tl σ H (.ref p)) (hp : H p = some (.lst (ts.map V.ref))) (hn : ts.length ≤ 100) (hw : ∀ x, wipe ((wipe σ vs).set j (some x)) vs = wipe σ vs) (he : ∀ t H1, t ∈ ts → Ex H H1 → Ev te ((wipe σ vs).set j (some (.ref t))) H1 c) :
    EvL (tLc (iList K tl) (gName j) tYes te vs) σ H (List.replicate ts.length c) := el_is (el_lcL (a := p) (xs := ts.map V.ref) (fun _ => true) (fun _ => c) h (sq_of hp) (by rw [List.length_map]; omega) hw (fun i x H1 e1 hx => et_yes) (fun i x H1 e1 hx _ => by
    rw [List.getElem?_map] at hx
    obtain ⟨t, ht, rfl⟩ := Option.map_eq_some_iff.mp hx
    exact he t H1 (List.mem_of_getElem? ht) e1)) (by rw [given_all, List.map_const', List.length_range, List.length_map])
theorem q_lst1 {i : Nat} (h : te σ H fun x H1 => [x].length ≤ sizeLine ∧ ∀ p, H1 p = none → tz D (σ.set i (some (.ref p))) (upd H1 p (.lst [x]))) : tSeq (tAsg (tLst (tCons te tNil)) (gName i)) tz D σ H := h
theorem sv_due {u l : Addr} (hu : H u = some (.lst (upsV ps))) (hlt : H l = some (.lst (st.map nV))) (hp : Good ps) (hl : ps.length ≤ 15) (ok : StOk ps st) : SpV (sp_Ldue K) [.ref u, .ref l] H (.str (dueS ps st)) := fun _ e _ q _ => ⟨u, l, ps, st, rfl, e _ _ hu, e _ _ hlt, hp, hl, ok, q⟩
theorem sv_told {bb : Bool} (ht : TreeAt C H t ps st) (hp : Good ps) (hl : ps.length ≤ 15) (ok : StOk ps st) : SpV (sp_Ltold C) [.ref t, nV (ps.length + 1), .bl bb] H (.str (dueS ps st)) := fun _ e _ q _ => ⟨t, ps, st, bb, rfl, ht.ex e, hp, hl, ok, q⟩

end
end My
namespace My
open PySem PySem.Spec PyProof.Rows L2 GL Evl StX SkE
/-! ### what does not hang on what stands at some addresses -/
def holes (S : List Addr) (H : Hp) : Hp := fun b => if b ∈ S then none else H b
theorem holes_ne {S : List Addr} {b : Addr} {H : Hp} (h : b ∉ S) : holes S H b = H b := if_neg h
theorem holes_in {S : List Addr} {b : Addr} {H : Hp} (h : b ∈ S) : holes S H b = none := if_pos h
theorem holes_ex (S : List Addr) (H : Hp) : Ex (holes S H) H := fun b o h => by
  by_cases e : b ∈ S
  · rw [holes_in e] at h
    cases h
  · rw [holes_ne e] at h
    exact h
theorem holes_mono {S : List Addr} {H H' : Hp} (e : Ex H H') : Ex (holes S H) (holes S H') := fun b o h => by
  by_cases z : b ∈ S
  · rw [holes_in z] at h
    cases h
  · rw [holes_ne z] at h ⊢
    exact e b o h
theorem holes_exB {S : List Addr} {a : Addr} {H H' : Hp} (m : a ∈ S) (e : ExB a H H') : Ex (holes S H) (holes S H') := fun b o h => by
  by_cases z : b ∈ S
  · rw [holes_in z] at h
    cases h
  · rw [holes_ne z] at h ⊢
    exact e b o (fun q => z (q.symm ▸ m)) h
theorem holes_upd {S : List Addr} {r : Addr} {H : Hp} {o : HO} (m : r ∈ S) : holes S (upd H r o) = holes S H := by
  funext b
  by_cases z : b ∈ S
  · rw [holes_in z, holes_in z]
  · rw [holes_ne z, holes_ne z, upd_ne (show b ≠ r from fun q => z (by rw [q]; exact m))]
def Alive (S : List Addr) (H : Hp) : Prop := ∀ s ∈ S, ∃ o, H s = some o
theorem Alive.ex {S : List Addr} {H H' : Hp} (h : Alive S H) (e : Ex H H') : Alive S H' := fun s hs => (h s hs).imp fun o ho => e _ _ ho
theorem Alive.exB {S : List Addr} {a : Addr} {H H' : Hp} (h : Alive S H) (e : ExB a H H') (p : PotAt H' a) : Alive S H' := fun s hs => by
  by_cases z : s = a
  · obtain ⟨x, y, hx, _⟩ := p
    exact ⟨_, z ▸ hx⟩
  · obtain ⟨o, ho⟩ := h s hs
    exact ⟨o, e s o z ho⟩
theorem Alive.none {S : List Addr} {H : Hp} {p : Addr} (h : Alive S H) (hp : H p = none) : p ∉ S := fun m => by
  obtain ⟨u, hu⟩ := h p m
  rw [hp] at hu
  cases hu
theorem holes_new {S : List Addr} {H H' : Hp} {p : Addr} {o : HO} (h : Alive S H) (hp : H p = none) (h2 : H' p = some o) : holes S H' p = some o := by
  rw [holes_ne (h.none hp)]
  exact h2
theorem TreeNew.holes {C : Addr} {H0 H : Hp} {t : Addr} {S : List Addr} {ps st : List Nat} (h : TreeNew C H0 H t ps st) (al : Alive S H0) : TreeAt C (holes S H) t ps st := by
  obtain ⟨dx, la, ls, q, q1, q2, q3⟩ := h
  exact ⟨dx, la, ls, ⟨holes_new al q1 q.ob, holes_new al q2 q.ab, holes_new al q3 q.sk⟩⟩
/-- a tree at t, its parents at u, its struck groups, as they were struck, at l -/
structure Ent (C : Addr) (G : Hp) (t u l : Addr) (ps ls : List Nat) : Prop where
  tr : TreeAt C G t ps (srt ls)
  up : G u = some (.lst (upsV ps))
  lo : G l = some (.lst (ls.map nV))
  gd : Good ps
  ok : StOk ps ls
theorem Ent.ex {C : Addr} {G G' : Hp} {t u l : Addr} {ps ls : List Nat} (h : Ent C G t u l ps ls) (e : Ex G G') : Ent C G' t u l ps ls := ⟨h.tr.ex e, e _ _ h.up, e _ _ h.lo, h.gd, h.ok⟩
theorem srt_ok {ps ls : List Nat} (ok : StOk ps ls) : StOk ps (srt ls) := ok.perm (srt_perm ls)
theorem srt_len (ls : List Nat) : (srt ls).length = ls.length := (srt_perm ls).length_eq
theorem srt_mem {ls : List Nat} {g : Nat} : g ∈ srt ls ↔ g ∈ ls := (srt_perm ls).mem_iff
theorem srt_pw (ls : List Nat) : (srt ls).Pairwise (· ≤ ·) := by
  have q := List.pairwise_mergeSort (le := fun a b : Nat => decide (a ≤ b)) (fun a b c h1 h2 => decide_eq_true (Nat.le_trans (of_decide_eq_true h1) (of_decide_eq_true h2))) (fun a b => by
    rcases Nat.le_total a b with z | z
    · rw [decide_eq_true z, Bool.true_or]
    · rw [decide_eq_true z, Bool.or_true]) ls
  exact q.imp fun {a b} z => of_decide_eq_true z
theorem srt_congr {l m : List Nat} (h : l.Perm m) : srt l = srt m := List.Perm.eq_of_pairwise (le := fun a b : Nat => a ≤ b) (fun x y _ _ h1 h2 => Nat.le_antisymm h1 h2) (srt_pw l) (srt_pw m) ((srt_perm l).trans (h.trans (srt_perm m).symm))
theorem srt_srt (l : List Nat) : srt (srt l) = srt l := srt_congr (srt_perm l)
def sp_Lpick : Sp := fun vs H Q _ => ∃ a l, ∃ xs : List V, vs = [.ref a, .ref l] ∧ PotAt H a ∧ l ≠ a ∧ H l = some (.lst xs) ∧ 1 ≤ xs.length ∧ xs.length ≤ 1000 ∧ ∀ H' v, ExB a H H' → PotAt H' a → v ∈ xs → Q v H'
def sp_Lshown : Sp := fun vs H Q _ => ∃ u l, ∃ ps ls : List Nat, vs = [.ref u, .ref l] ∧ H u = some (.lst (upsV ps)) ∧ H l = some (.lst (ls.map nV)) ∧ Good ps ∧ ps.length ≤ 40 ∧ StOk ps ls ∧ RetV (.str (tsh ps (srt ls))) H Q
def sp_Lis_so (K : PySem.W.Frag) (C : Addr) : Sp := fun vs H Q _ => ∃ t u l, ∃ ps ls : List Nat, vs = [.ref t, .ref u, .ref l] ∧ Ent C H t u l ps ls ∧ ps.length ≤ 30 ∧ RetV (.bl true) H Q
section
variable {P : Program} {w : World} {K : PySem.W.Frag} {mg : Str → Option Value} {base : Heap} {C : Addr} {H H' : Hp} {σ : L2.St} {te ta tb tx : TE} {tA : TA} {tz : TS} {D : Ends} {xs ys vs : List V} {a r l u t : Addr} {ps ls st : List Nat}
theorem el_srt (h : Ev te σ H (.ref l)) (hl : SqL K H l (ls.map nV)) (h64 : ls.length < 64) : EvL (tCB (rSortedU K) (tCons te tNil)) σ H ((srt ls).map nV) := fun H1 e Q q => h H1 e _ fun H2 e2 => ⟨l, ls.map fun g : Nat => (g : Int), rfl, .inl (by
  rw [nat_int]
  exact ex_l (e.trans e2) hl), by
  rw [List.length_map]
  exact h64, fun ns' r hperm hpw hr => by
  rw [srt_eq hperm hpw]
  exact q r _ (fresh_back e2 hr) (e2.trans (Ex.new hr)) upd_same⟩
theorem sv_shown (hu : H u = some (.lst (upsV ps))) (hl : H l = some (.lst (ls.map nV))) (hg : Good ps) (hn : ps.length ≤ 40) (ok : StOk ps ls) : SpV sp_Lshown [.ref u, .ref l] H (.str (tsh ps (srt ls))) := fun _ e _ q _ => ⟨u, l, ps, ls, rfl, e _ _ hu, e _ _ hl, hg, hn, ok, q⟩
theorem sv_is_so (h : Ent C H t u l ps ls) (hn : ps.length ≤ 30) : SpV (sp_Lis_so K C) [.ref t, .ref u, .ref l] H (.bl true) := fun _ e _ q _ => ⟨t, u, l, ps, ls, rfl, h.ex e, hn, q⟩
theorem ok_Lpick (T : Txt K mg) (G_Ldraw : FnG P w K mg base CX0 1 T.f_Ldraw T.fd_Ldraw ["_law_pot_here", "_law_sides"] sp_Ldraw) : FnG P w K mg base CX0 2 T.f_Lpick T.fd_Lpick ["_law_pot_here", "_law_some"] sp_Lpick := by
  refine okG T.F_Lpick sc_Lpick (fun vs H Q E h => ?_) (fun cdv A outer s H vs Q E gd hr h => ?_)
  · obtain ⟨_, _, _, rfl, _⟩ := h
    all_goals rfl
  · obtain ⟨a, l, xs, rfl, hp, nla, hl, h1, h2, q⟩ := h
    refine ⟨_, (pss_one (ps_ret (pe_ix ix_list (pv 1) (pc gd G_Ldraw (hr.mono (by decide)) (by rfl) T.m_Ldraw T.F_Ldraw.kp T.b_Ldraw .nil pass0 (pa_cons (pv 0) (pa_cons (pe_callB call_len_seq (by rfl) T.z_len PySem.boot_len (pa_cons (pv 1) pa_nil)) pa_nil))) (fun _ _ => rfl)))), ?_⟩
    refine s_retR (op_raw (ev_raw (ev_var (v := .ref l) rfl) fun H1 e1 => ?_))
    refine dr (n := xs.length) (ea_cons (ev_var rfl) (ea_cons (ev_len (ev_var rfl) (sq_of (e1 _ _ hl))) ea_nil)) (hp.ex e1) h1 h2 fun H2 d x2 p2 hd => ?_
    exact ⟨l, xs, (d : Int), xs[d], rfl, rfl, sq_of (x2 _ _ nla (e1 _ _ hl)), atI_nat (List.getElem?_eq_getElem hd), q H2 _ ((ExB.of e1).trans x2) p2 (List.getElem_mem hd)⟩


end
end My
namespace My
open PySem PySem.Spec PyProof.Rows L2 GL Evl StX SkE
theorem takes_never {X : Cx} : Takes X (fun _ _ _ _ => False) := fun _ _ ⟨_, _, _, _, _, _, _, _, _, _, _, _, _, _, _, _, w⟩ => w.elim
/-- all groups below it that hang on it are struck -/
def Bare (ps st : List Nat) (g : Nat) : Prop := ∀ c, 1 ≤ c → c ≤ ps.length → up ps c = g → c ∈ st
def loose (ps st : List Nat) (g : Nat) : Bool := (kids ps g).any fun c => !decide (c ∈ st)
theorem loose_no {ps st : List Nat} {g : Nat} : loose ps st g = false ↔ Bare ps st g := by
  unfold loose Bare
  rw [List.any_eq_false]
  constructor
  · intro h c h1 h2 h3
    have q := h c (h3 ▸ mem_kids h1 h2)
    by_cases m : c ∈ st
    · exact m
    · rw [decide_eq_false m] at q
      exact absurd rfl q
  · intro h c hc
    obtain ⟨k1, k2, k3⟩ := kids_mem hc
    rw [decide_eq_true (h c k1 k2 k3)]
    decide
theorem loose_yes {ps st : List Nat} {g : Nat} (h : loose ps st g = true) : ¬ Bare ps st g := fun z => by
  rw [loose_no.mpr z] at h
  cases h
def sp_TwsX (C cT cS cH : Addr) : Sp := fun vs H Q E => ∃ t ps st, ∃ g : Nat, vs = [.ref t, nV g] ∧ TreeAt C H t ps st ∧ Good ps ∧ ps.length ≤ 199 ∧ g ≤ ps.length ∧ StOk ps st ∧ st.length < 63 ∧
  (g = 0 → ∀ H', Ex H H' → E (.ref cT) none H') ∧
  (g ∈ st → ∀ H' d, H d = none → Ex H H' → H' d = some (.xd [("group", nV g)]) → E (.ref cS) (some d) H') ∧
  (1 ≤ g → g ∉ st → loose ps st g = true → ∀ H' d, H d = none → Ex H H' → H' d = some (.xd [("group", nV g)]) → E (.ref cH) (some d) H') ∧
  (1 ≤ g → g ∉ st → Bare ps st g → ∀ H' t', H t' = none → Ex H H' → TreeNew C H H' t' ps (srt (st ++ [g])) → Q (.ref t') H')
/-- what a strike of this group is told, "" if it is done -/
def due (ps st : List Nat) (g : Nat) : Str := if g = 0 then "top" else if g ∈ st then "struck" else if loose ps st g = true then "children" else ""
theorem due_srt (ps ls : List Nat) (g : Nat) : due ps (srt ls) g = due ps ls g := by
  have e : loose ps (srt ls) g = loose ps ls g := by
    unfold loose
    congr 1
    funext c
    rw [decide_eq_decide.mpr (srt_mem (ls := ls) (g := c))]
  unfold due
  rw [e]
  by_cases z : g ∈ ls
  · rw [if_pos z, if_pos (srt_mem.mpr z)]
  · rw [if_neg z, if_neg (fun q => z (srt_mem.mp q))]
theorem due_free {ps st : List Nat} {g : Nat} (h : due ps st g = "") : 1 ≤ g ∧ g ∉ st ∧ Bare ps st g := by
  unfold due at h
  split at h
  · exact absurd h (by decide)
  · rename_i h0
    split at h
    · exact absurd h (by decide)
    · rename_i h1
      split at h
      · exact absurd h (by decide)
      · rename_i h2
        exact ⟨by omega, h1, loose_no.mp (Bool.eq_false_iff.mpr h2)⟩
theorem due_is {ps st : List Nat} {g : Nat} (h1 : 1 ≤ g) (h2 : g ∉ st) (h3 : Bare ps st g) : due ps st g = "" := by
  unfold due
  rw [if_neg (by omega), if_neg h2, loose_no.mpr h3]
  rfl
theorem due_len (ps st : List Nat) (g : Nat) : (due ps st g).length ≤ 8 := by
  unfold due
  split
  · decide
  · split
    · decide
    · split <;> decide
def sp_Lgrown (C : Addr) : Sp := fun vs H Q _ => ∃ t ps st, ∃ g : Nat, vs = [.ref t, nV g] ∧ TreeAt C H t ps st ∧ Good ps ∧ ps.length ≤ 100 ∧ g ≤ ps.length ∧ g ∉ st ∧ StOk ps st ∧ st.length < 63 ∧ srt st = st ∧
  ∀ H' p t', H p = none → Ex H H' → H' p = some (.tup [.ref t', nV (ps.length + 1)]) → TreeNew C H H' t' (ps ++ [g]) st → Q (.ref p) H'
def sp_Lstruck (C : Addr) : Sp := fun vs H Q _ => ∃ t ps st, ∃ g : Nat, vs = [.ref t, nV g] ∧ TreeAt C H t ps st ∧ Good ps ∧ ps.length ≤ 100 ∧ g ≤ ps.length ∧ StOk ps st ∧ st.length < 63 ∧
  (due ps st g ≠ "" → ∀ H' p, H p = none → Ex H H' → H' p = some (.tup [.non, .str (due ps st g)]) → Q (.ref p) H') ∧
  (due ps st g = "" → ∀ H' p t', H p = none → Ex H H' → H' p = some (.tup [.ref t', .str ""]) → TreeNew C H H' t' ps (srt (st ++ [g])) → Q (.ref p) H')
def sp_Ldue16 : Sp := fun vs H Q _ => ∃ u l, ∃ ps ls : List Nat, ∃ g : Nat, vs = [.ref u, .ref l, nV g] ∧ H u = some (.lst (upsV ps)) ∧ H l = some (.lst (ls.map nV)) ∧ Good ps ∧ ps.length ≤ 100 ∧ g ≤ ps.length ∧ RetV (.str (due ps ls g)) H Q
section
variable {P : Program} {w : World} {K : PySem.W.Frag} {mg : Str → Option Value} {base : Heap} {C : Addr} {H H' : Hp} {σ : L2.St} {te ta tb tx : TE} {tA : TA} {tt tu : TT} {tz : TS} {D : Ends} {xs ys vs : List V} {a r l u t : Addr} {ps ls st : List Nat} {Q : VK} {v : V}
theorem ev_by {f : Str} {b d : Addr} {cE : Addr} (h : Ev te σ H (.ref b)) (hd : H d = some (.xd [(f, v)])) : Ev (tBy cE f b (.ref cE) (some d) te) σ H v := fun H1 e Q q => h H1 e _ fun H2 e2 => ⟨rfl, rfl, d, v, rfl, (e.trans e2) _ _ hd, q H2 e2⟩
theorem if_raw (h : EvT tt σ H true) (k : ∀ H1, Ex H H1 → ta σ H1 Q) : tIf tt ta tb σ H Q := h H (Ex.refl H) _ fun H1 e => k H1 e
theorem if_rawF (h : EvT tt σ H false) (k : ∀ H1, Ex H H1 → tb σ H1 Q) : tIf tt ta tb σ H Q := h H (Ex.refl H) _ fun H1 e => k H1 e
theorem tup_raw (h : EvA tA σ H vs) (hl : vs.length ≤ 100000) (k : ∀ p H1, H p = none → Ex H H1 → H1 p = some (.tup vs) → Q (.ref p) H1) : tTup tA σ H Q := h H (Ex.refl H) _ fun H1 e => ⟨sz_of hl, fun p hp => k p _ (fresh_back e hp) (e.trans (Ex.new hp)) upd_same⟩
theorem ret_tup2 (h : ta σ H fun x H1 => tb σ H1 fun y H2 => [x, y].length ≤ sizeLine ∧ ∀ p, H2 p = none → D.rt (.ref p) (upd H2 p (.tup [x, y]))) : tRet (tTup (tCons ta (tCons tb tNil))) D σ H := h
theorem q_try {m : Str} {sp : Sp} {i : Nat} {Eo : Ends → L2.St → XK} (h : tMethS C m sp vs (Eo { D with nx := tz D }) ta tA σ H fun x H1 => tz D (σ.set i (some x)) H1) : tSeq (fun D σ H => tAsg (tMethS C m sp vs (Eo D) ta tA) (gName i) D σ H) tz D σ H := h
theorem sv_due16 {g : Nat} (hu : H u = some (.lst (upsV ps))) (hl : H l = some (.lst (ls.map nV))) (hg : Good ps) (hn : ps.length ≤ 100) (hgl : g ≤ ps.length) : SpV sp_Ldue16 [.ref u, .ref l, nV g] H (.str (due ps ls g)) := fun _ e _ q _ => ⟨u, l, ps, ls, g, rfl, e _ _ hu, e _ _ hl, hg, hn, hgl, q⟩




end
end My
namespace My
open PySem PySem.Spec PyProof.Rows L2 GL Evl StX SkE
section
variable {P : Program} {w : World} {K : PySem.W.Frag} {mg : Str → Option Value} {base : Heap} {x qual : Str} {st : Stmt} {f : Addr} {fd : FuncData} {N ps : List Str} {k : Nat} {sp : Sp} {CX : CXT}
theorem okGDX {dvs : List V} {kws : List (Str × V)} (F : L2.FunD K x qual (defArgs st) (defBody st) (defScope st) dvs kws f fd) (S : FnScope N ps (defScope st)) (many : ∀ vs H Q E, sp vs H Q E → vs.length = ps.length)
    (hb : ∀ (cdv : Value) (A : Around) (outer : List Env) (s : Shared) (H : Hp) (vs : List V) (Q : VK) (E : XK), Fre (A.deeper (envOfC qual (defScope st) s.heap.objs.size f cdv)) → Room k (A.deeper (envOfC qual (defScope st) s.heap.objs.size f cdv)) → sp vs H Q E →
      ∃ t, PSs (cxOf CX P w K mg base N qual (defScope st) f cdv A outer s H E) (defBody st) t ∧ t { nx := fun _ H' => Q .non H', rt := Q } (start N vs) H) : FnG P w K mg base CX (k + 1) f fd ps sp := by
  obtain ⟨c0, o0, dV, kV, doc, pm, an, cdv, ct, s0, rfl, lk, hcd, _, _⟩ := F.ex
  exact bodied lk hcd S many fun A outer s H vs Q E g hr hsp => hb cdv A outer s H vs Q E g hr hsp
end
/-! ### what is no number -/
def Odd (K : PySem.W.Frag) (H : Hp) (x : V) : Prop := ∃ (t : Value) (b : Bool), (∀ H1, Ex H H1 → TyX K H1 x t) ∧ PySem.W.kitOne K t (.type "int") = some b ∧ (b = true → PySem.W.kitOne K t (.type "bool") = some true)
def isI : V → Bool
  | .int _ => true
  | _ => false
def Elem (K : PySem.W.Frag) (H : Hp) (x : V) : Prop := (∃ z : Int, x = .int z) ∨ (isI x = false ∧ Odd K H x)
theorem Odd.ex {K : PySem.W.Frag} {H H' : Hp} {x : V} (h : Odd K H x) (e : Ex H H') : Odd K H' x := by
  obtain ⟨t, b, h1, h2, h3⟩ := h
  exact ⟨t, b, fun H1 e1 => h1 H1 (e.trans e1), h2, h3⟩
theorem Elem.ex {K : PySem.W.Frag} {H H' : Hp} {x : V} (h : Elem K H x) (e : Ex H H') : Elem K H' x := h.imp id fun z => ⟨z.1, z.2.ex e⟩
def sp_isintX (K : PySem.W.Frag) : Sp := fun vs H Q _ => ∃ x, vs = [x] ∧ Elem K H x ∧ RetV (.bl (isI x)) H Q
def sp_islistX (K : PySem.W.Frag) : Sp := fun vs H Q _ => ∃ x t b, vs = [x] ∧ (∀ H1, Ex H H1 → TyX K H1 x t) ∧ PySem.W.kitAny K t [.type "list", .type "tuple"] = some b ∧ RetV (.bl b) H Q
/-- the item at i is a group below the top that does not stand ahead of it -/
def okAt (n : Nat) (xs : List V) (i : Nat) : Bool := match xs[i]? with
  | some (.int z) => decide (1 ≤ z) && decide (z ≤ (n : Int)) && !decide (V.int z ∈ xs.take i)
  | _ => false
def bad1 (n : Nat) (xs : List V) : Option Nat := (List.range xs.length).find? fun i => !okAt n xs i
def bad2 (ps gs : List Nat) : Option Nat := (List.range gs.length).find? fun i => loose ps gs (gs.getD i 0)
def natOf : V → Nat
  | .int z => z.toNat
  | _ => 0
def gsOf (xs : List V) : List Nat := xs.map natOf
def bad (ps : List Nat) (xs : List V) : Option Nat := match bad1 ps.length xs with
  | some i => some i
  | none => bad2 ps (gsOf xs)
theorem find_at {p : Nat → Bool} {m i : Nat} (hi : i < m) (h : p i = true) (hb : ∀ j, j < i → p j = false) : (List.range m).find? p = some i := by
  rw [List.find?_range_eq_some]
  exact ⟨h, List.mem_range.mpr hi, fun j hj => by rw [hb j hj]; rfl⟩
theorem find_no {p : Nat → Bool} {m : Nat} (hb : ∀ j, j < m → p j = false) : (List.range m).find? p = none := by
  rw [List.find?_eq_none]
  intro j hj z
  rw [hb j (List.mem_range.mp hj)] at z
  cases z
theorem take_isI {n : Nat} {xs : List V} {i : Nat} (hb : ∀ j, j < i → okAt n xs j = true) : ∀ x ∈ xs.take i, isI x = true := by
  intro x hx
  obtain ⟨j, hj, e⟩ := List.getElem_of_mem hx
  rw [List.length_take] at hj
  rw [List.getElem_take] at e
  have q := hb j (by omega)
  unfold okAt at q
  rw [List.getElem?_eq_getElem (by omega), e] at q
  cases x <;> first | rfl | cases q
theorem inV_mem (z : Int) : ∀ l : List V, (∀ x ∈ l, isI x = true) → inV (.int z) l = decide (V.int z ∈ l)
  | [], _ => rfl
  | y :: l, h => by
    have ih := inV_mem z l fun x hx => h x (List.mem_cons_of_mem _ hx)
    have hy := h y List.mem_cons_self
    cases y with
    | int b =>
      show ((b == z) || inV (.int z) l) = decide (V.int z ∈ V.int b :: l)
      rw [ih]
      by_cases e : z = b
      · subst e
        simp
      · have q : (b == z) = false := beq_eq_false_iff_ne.mpr (fun q => e q.symm)
        rw [q, Bool.false_or]
        by_cases m : V.int z ∈ l
        · rw [decide_eq_true m, decide_eq_true (List.mem_cons_of_mem _ m)]
        · rw [decide_eq_false m, decide_eq_false (fun q => (List.mem_cons.mp q).elim (fun z => e (V.int.inj z)) m)]
    | _ => cases hy
theorem flat_int {l : List V} (h : ∀ x ∈ l, isI x = true) : l.all flatV = true := by
  rw [List.all_eq_true]
  intro x hx
  have q := h x hx
  cases x <;> first | rfl | cases q
/-- all items are right, one by one -/
theorem all_ok {n : Nat} {xs : List V} (h : ∀ i, i < xs.length → okAt n xs i = true) : xs = (gsOf xs).map nV ∧ (gsOf xs).Nodup ∧ ∀ g ∈ gsOf xs, 1 ≤ g ∧ g ≤ n := by
  have each : ∀ i (hi : i < xs.length), ∃ z : Int, xs[i] = .int z ∧ 1 ≤ z ∧ z ≤ (n : Int) ∧ V.int z ∉ xs.take i := by
    intro i hi
    have q := h i hi
    unfold okAt at q
    rw [List.getElem?_eq_getElem hi] at q
    cases e : xs[i] with
    | int z =>
      rw [e] at q
      simp only [Bool.and_eq_true, decide_eq_true_eq, Bool.not_eq_true', decide_eq_false_iff_not] at q
      exact ⟨z, rfl, q.1.1, q.1.2, q.2⟩
    | _ =>
      rw [e] at q
      cases q
  have e1 : xs = (gsOf xs).map nV := by
    unfold gsOf
    rw [List.map_map]
    refine List.ext_getElem (by rw [List.length_map]) fun i h1 h2 => ?_
    obtain ⟨z, e, a, _⟩ := each i h1
    rw [List.getElem_map, e]
    show V.int z = V.int ((z.toNat : Nat) : Int)
    congr 1
    omega
  refine ⟨e1, ?_, fun g hg => ?_⟩
  · refine List.pairwise_iff_getElem.mpr fun i j hi hj hij e => ?_
    have hi' : i < xs.length := by unfold gsOf at hi; rw [List.length_map] at hi; exact hi
    have hj' : j < xs.length := by unfold gsOf at hj; rw [List.length_map] at hj; exact hj
    obtain ⟨z, e1, a1, _⟩ := each i hi'
    obtain ⟨y, e2, a2, _, nm⟩ := each j hj'
    have g1 : (gsOf xs)[i] = natOf xs[i] := List.getElem_map ..
    have g2 : (gsOf xs)[j] = natOf xs[j] := List.getElem_map ..
    rw [g1, g2, e1, e2] at e
    have e : z.toNat = y.toNat := e
    have zy : z = y := by omega
    refine nm ?_
    rw [← zy, ← e1]
    refine List.mem_iff_getElem.mpr ⟨i, by rw [List.length_take]; omega, ?_⟩
    rw [List.getElem_take]
  · obtain ⟨x, hx, e⟩ := List.mem_map.mp hg
    obtain ⟨i, hi, ei⟩ := List.getElem_of_mem hx
    obtain ⟨z, e1, a1, a2, _⟩ := each i hi
    rw [ei] at e1
    subst e1
    have e : z.toNat = g := e
    omega
theorem bad_1 {ps : List Nat} {xs : List V} {i : Nat} (hi : i < xs.length) (h : okAt ps.length xs i = false) (hb : ∀ j, j < i → okAt ps.length xs j = true) : bad ps xs = some i := by
  unfold bad
  rw [show bad1 ps.length xs = some i from find_at hi (by rw [h]; rfl) (fun j hj => by rw [hb j hj]; rfl)]
theorem bad_2 {ps : List Nat} {xs : List V} (hb : ∀ j, j < xs.length → okAt ps.length xs j = true) : bad ps xs = bad2 ps (gsOf xs) := by
  unfold bad
  rw [show bad1 ps.length xs = none from find_no (fun j hj => by rw [hb j hj]; rfl)]
theorem bad_is {ps gs : List Nat} {i : Nat} (hi : i < gs.length) (h : loose ps gs (gs.getD i 0) = true) (hb : ∀ j, j < i → loose ps gs (gs.getD j 0) = false) : bad2 ps gs = some i := find_at hi h hb
theorem bad_no {ps gs : List Nat} (hb : ∀ j, j < gs.length → loose ps gs (gs.getD j 0) = false) : bad2 ps gs = none := find_no hb
theorem gs_nat (l : List Nat) : gsOf (l.map nV) = l := by
  unfold gsOf
  rw [List.map_map]
  exact (List.map_congr_left (g := id) fun x _ => rfl).trans (List.map_id l)
/-- what is right as a whole -/
theorem right_of {ps : List Nat} {xs : List V} (h : bad ps xs = none) : xs = (gsOf xs).map nV ∧ StOk ps (gsOf xs) := by
  unfold bad at h
  cases e : bad1 ps.length xs with
  | some i =>
    rw [e] at h
    cases h
  | none =>
    rw [e] at h
    have a1 : ∀ i, i < xs.length → okAt ps.length xs i = true := fun i hi => by
      have q := List.find?_eq_none.mp e i (List.mem_range.mpr hi)
      cases z : okAt ps.length xs i with
      | true => rfl
      | false =>
        rw [z] at q
        exact absurd rfl q
    obtain ⟨e1, nd, bd⟩ := all_ok a1
    refine ⟨e1, nd, bd, fun c h1 h2 h3 => ?_⟩
    obtain ⟨i, hi, ei⟩ := List.getElem_of_mem h3
    have q := List.find?_eq_none.mp h i (List.mem_range.mpr hi)
    have q' : loose ps (gsOf xs) (up ps c) = false := by
      cases z : loose ps (gsOf xs) (up ps c) with
      | false => rfl
      | true =>
        rw [List.getD_eq_getElem?_getD, List.getElem?_eq_getElem hi, Option.getD_some, ei] at q
        exact absurd z q
    exact loose_no.mp q' c h1 h2 rfl
/-- a right list is told right -/
theorem right_is {ps gs : List Nat} (ok : StOk ps gs) : bad ps (gs.map nV) = none := by
  have a1 : ∀ j, j < (gs.map nV).length → okAt ps.length (gs.map nV) j = true := by
    intro j hj
    have hj' : j < gs.length := by rw [List.length_map] at hj; exact hj
    unfold okAt
    rw [at_nat hj']
    have hm : gs.getD j 0 ∈ gs := by
      rw [List.getD_eq_getElem?_getD, List.getElem?_eq_getElem hj']
      exact List.getElem_mem hj'
    have bd := ok.bd _ hm
    have nm : ¬ V.int ((gs.getD j 0 : Nat) : Int) ∈ (gs.map nV).take j := by
      intro z
      obtain ⟨i, hi, ei⟩ := List.getElem_of_mem z
      rw [List.length_take, List.length_map] at hi
      rw [List.getElem_take, List.getElem_map] at ei
      have ei' := V.int.inj ei
      have := List.pairwise_iff_getElem.mp ok.nd i j (by omega) hj' (by omega)
      rw [List.getD_eq_getElem?_getD, List.getElem?_eq_getElem hj', Option.getD_some] at ei'
      exact this (by omega)
    show (decide (1 ≤ ((gs.getD j 0 : Nat) : Int)) && decide (((gs.getD j 0 : Nat) : Int) ≤ (ps.length : Int)) && !decide _) = true
    rw [decide_eq_true (by omega), decide_eq_true (by omega), decide_eq_false nm]
    rfl
  rw [bad_2 a1, gs_nat]
  exact bad_no fun j hj => loose_no.mpr fun c h1 h2 h3 => ok.cl c h1 h2 (by
    rw [h3, List.getD_eq_getElem?_getD, List.getElem?_eq_getElem hj]
    exact List.getElem_mem hj)
end My
namespace My
open PySem PySem.Spec PyProof.Rows L2 GL Evl StX SkE
/-- the struck groups of a tree with these parents: any list, or what is none -/
def sp_csX (K : PySem.W.Frag) (w : World) (cV : Addr) : Sp := fun vs H Q E =>
  (∃ a b ps xs, vs = [.ref a, .ref b] ∧ Seq K H a (ps.map nV) ∧ Seq K H b xs ∧ (∀ x ∈ xs, Elem K H x) ∧ ps.length ≤ 199 ∧ xs.length ≤ 200 ∧
    (∀ i : Nat, bad ps xs = some i → ∀ H' d, H d = none → Ex H H' → H' d = some (.xd [("position", nV i)]) → E (.ref cV) (some d) H') ∧ (bad ps xs = none → ∀ H', Ex H H' → Q .non H')) ∨
  (∃ y x t, vs = [y, x] ∧ (∀ H1, Ex H H1 → TyX K H1 x t) ∧ PySem.W.kitAny K t [.type "list", .type "tuple"] = some false ∧
    ∀ H' d, H d = none → Ex H H' → H' d = some (.xd [("position", .non)]) → E (.ref cV) (some d) H')
theorem needed_is (ps gs : List Nat) (g : Nat) : decide (g ∈ ((List.range ps.length).filter fun n => !decide (n + 1 ∈ gs)).map fun n => ps.getD n 0) = loose ps gs g := by
  cases e : loose ps gs g with
  | false =>
    refine decide_eq_false fun m => ?_
    obtain ⟨n, hn, en⟩ := List.mem_map.mp m
    obtain ⟨h1, h2⟩ := List.mem_filter.mp hn
    have h1' := List.mem_range.mp h1
    have q := loose_no.mp e (n + 1) (by omega) (by omega) (by
      unfold up
      rw [Nat.add_sub_cancel]
      exact en)
    rw [decide_eq_true q] at h2
    cases h2
  | true =>
    refine decide_eq_true ?_
    unfold loose at e
    obtain ⟨c, hc, nc⟩ := List.any_eq_true.mp e
    obtain ⟨k1, k2, k3⟩ := kids_mem hc
    refine List.mem_map.mpr ⟨c - 1, List.mem_filter.mpr ⟨List.mem_range.mpr (by omega), ?_⟩, k3⟩
    rw [show c - 1 + 1 = c by omega]
    exact nc
section
variable {P : Program} {w : World} {K : PySem.W.Frag} {mg : Str → Option Value} {base : Heap} {C : Addr} {H : Hp}
theorem sv_intX {x : V} (h : Elem K H x) : SpV (sp_isintX K) [x] H (.bl (isI x)) := fun _ e _ q _ => ⟨x, rfl, h.ex e, q⟩
theorem sv_listX {x : V} {t : Value} {b : Bool} (h : ∀ H1, Ex H H1 → TyX K H1 x t) (k : PySem.W.kitAny K t [.type "list", .type "tuple"] = some b) : SpV (sp_islistX K) [x] H (.bl b) := fun _ e _ q _ => ⟨x, t, b, rfl, fun H1 e1 => h H1 (e.trans e1), k, q⟩
theorem Seq.tys {a : Addr} {xs : List V} (h : Seq K H a xs) : ∃ t, (∀ H1, Ex H H1 → TyX K H1 (.ref a) t) ∧ PySem.W.kitAny K t [.type "list", .type "tuple"] = some true := by
  cases h with
  | lst h => exact ⟨_, fun H1 e => .base (.lst (e _ _ h)), kitAny_cons (b := true) (kit_ty (by decide +kernel)) (fun z => nomatch z) (fun _ => rfl)⟩
  | tup h => exact ⟨_, fun H1 e => .base (.tup (e _ _ h)), kitAny_cons (b := false) (kit_ty (by decide +kernel)) (fun _ => kitAny_cons (b := true) (kit_ty (by decide +kernel)) (fun z => nomatch z) (fun _ => rfl)) (fun z => nomatch z)⟩
  | kst h y => exact ⟨_, fun H1 e => y H1, kitAny_cons (b := false) (kit_ty (by decide +kernel)) (fun _ => kitAny_cons (b := true) (kit_ty (by decide +kernel)) (fun z => nomatch z) (fun _ => rfl)) (fun z => nomatch z)⟩
theorem ok_is_an_integerX (T : Txt K mg)  : FnG P w K mg base CX0 1 T.f_is_an_integer T.fd_is_an_integer ["value"] (sp_isintX K) := by
  refine okG T.F_is_an_integer sc_is_an_integer (fun vs H Q E h => ?_) (fun cdv A outer s H vs Q E gd hr h => ?_)
  · obtain ⟨_, rfl, _⟩ := h
    all_goals rfl
  · obtain ⟨x, rfl, hx, q⟩ := h
    refine ⟨_, (pss_one (ps_ret (pe_and (pe_callB call_isi (by rfl) T.z_isinstance boot_isinstance (pa_cons (pv 0) (pa_cons (pe_bltn (v := .ty "int") (u := .type "int") (by rfl) T.z_int (by decide +kernel) rfl) pa_nil))) (pe_one (pe_not (pe_callB call_isi (by rfl) T.z_isinstance boot_isinstance (pa_cons (pv 0) (pa_cons (pe_bltn (v := .ty "bool") (u := .type "bool") (by rfl) T.z_bool (by decide +kernel) rfl) pa_nil)))))))), ?_⟩
    rcases hx with ⟨z, rfl⟩ | ⟨nx, t, b, ty, k1, k2⟩
    · refine s_ret (v := .bl true) (ev_andV (a := true) (b := true) (ev_cb (ea_cons (ev_var rfl) (ea_cons ev_c ea_nil)) (rc_isi (.ty "int") (fun _ => .base (.int z)) (kit_ty (by decide +kernel)))) fun _ => ?_) q
      exact ev_notV (a := false) (ev_cb (ea_cons (ev_var rfl) (ea_cons ev_c ea_nil)) (rc_isi (.ty "bool") (fun _ => .base (.int z)) (kit_ty (by decide +kernel))))
    · have rcX : ∀ {u : String} {b : Bool} {H0 : Hp}, Ex H H0 → PySem.W.kitOne K t (.type u) = some b → RC (rIsi K) [x, .ty u] H0 (.bl b) := fun {u b H0} e0 k H1 e Q q => ⟨x, _, t, _, b, rfl, .ty u, ty H1 (e0.trans e), k, q H1 (Ex.refl H1)⟩
      rw [nx] at q
      cases b with
      | false => exact s_ret (v := .bl false) (ev_andV (a := false) (b := false) (ev_cb (ea_cons (ev_var rfl) (ea_cons ev_c ea_nil)) (rcX (Ex.refl H) k1)) fun z => nomatch z) q
      | true => exact s_ret (v := .bl false) (ev_andV (a := true) (b := false) (ev_cb (ea_cons (ev_var rfl) (ea_cons ev_c ea_nil)) (rcX (Ex.refl H) k1)) fun _ => ev_notV (a := true) (ev_cb (ea_cons (ev_var rfl) (ea_cons ev_c ea_nil)) (rcX (Ex.refl H) (k2 rfl)))) q
theorem ok_is_listX (T : Txt K mg)  : FnG P w K mg base CX0 1 T.f_is_list T.fd_is_list ["value"] (sp_islistX K) := by
  refine okG T.F_is_list sc_is_list (fun vs H Q E h => ?_) (fun cdv A outer s H vs Q E gd hr h => ?_)
  · obtain ⟨_, _, _, rfl, _⟩ := h
    all_goals rfl
  · obtain ⟨x, t, b, rfl, ty, k, q⟩ := h
    refine ⟨_, (pss_one (ps_ret (pe_callB call_isiT (by rfl) T.z_isinstance boot_isinstance (pa_cons (pv 0) (pa_cons (pe_tup (pa_cons (pe_bltn (v := .ty "list") (u := .type "list") (by rfl) T.z_list (by decide +kernel) rfl) (pa_cons (pe_bltn (v := .ty "tuple") (u := .type "tuple") (by rfl) T.z_tuple (by decide +kernel) rfl) pa_nil))) pa_nil))))), ?_⟩
    refine ⟨_, rfl, (by show 2 ≤ sizeLine; decide), fun p hp => ?_⟩
    have e := Ex.new (o := .tup [.ty "list", .ty "tuple"]) hp
    exact ⟨x, p, _, _, _, b, rfl, upd_same, .cons (.ty "list") (.cons (.ty "tuple") .nil), ty _ e, k, q _ e⟩
theorem ok_check_struckX (T : Txt K mg) (G_is_listX : FnG P w K mg base CX0 1 T.f_is_list T.fd_is_list ["value"] (sp_islistX K)) (G_is_an_integerX : FnG P w K mg base CX0 1 T.f_is_an_integer T.fd_is_an_integer ["value"] (sp_isintX K)) : FnG P w K mg base (L2.CX P w) 2 T.f_check_struck T.fd_check_struck ["parents", "struck"] (sp_csX K w T.C_InvalidStruck) := by
  refine okGX T.F_check_struck sc_check_struck (fun vs H Q E h => ?_) (fun cdv A outer s H vs Q E gd hr h => ?_)
  · obtain (⟨_, _, _, _, rfl, _⟩ | ⟨_, _, _, rfl, _⟩) := h
    all_goals rfl
  · skip
    have tk : Takes (cxOf (L2.CX P w) P w K mg base N_check_struck "check_struck" (defScope s_check_struck) T.f_check_struck cdv A outer s H E) (fun cls d _ H => E cls d H) := takes_of rfl rfl rfl rfl
    refine ⟨_, (pss_cons (ps_if (PT.nox (pt_not (pt_val (pc gd G_is_listX (hr.mono (by decide)) (by rfl) T.m_is_list T.F_is_list.kp T.b_is_list .nil pass0 (pa_cons (pv 1) pa_nil))))) (pss_one (ps_raise rfl tk (pmk_position PySem.F.store_ValueError PySem.F.excBase_ValueError T.X_InvalidStruck hr (by rfl) T.m_InvalidStruck (pa_cons pe_non pa_nil)))) pss_nil) (pss_cons (ps_set (i := 2) sc_check_struck.nd rfl (Or.inr rfl) (pe_callTy0 cr_set0 (by rfl) T.z_set (by decide +kernel))) (pss_cons (ps_for (passes_of rfl) rfl (pi_or (pi_enum (by rfl) T.z_enumerate (pa_cons (pv 1) pa_nil)) (pi_enumT (by rfl) T.z_enumerate (pa_cons (pv 1) pa_nil))) (pg_tup rfl (pgs_cons (pg_name (i := 3) sc_check_struck.nd rfl (Or.inl rfl) (Or.inr rfl)) (pgs_cons (pg_name (i := 4) sc_check_struck.nd rfl (Or.inl rfl) (Or.inr rfl)) pgs_nil))) (pss_cons (ps_if (PT.nox ((pw_or (pt_not (pt_val (pc gd G_is_an_integerX (hr.mono (by decide)) (by rfl) T.m_is_an_integer T.F_is_an_integer.kp T.b_is_an_integer .nil pass0 (pa_cons (pv 4) pa_nil)))) (pw_or (pt_not (pt_chain op_le op_le pe_int (pv 4) (pe_callB call_len_seq (by rfl) T.z_len PySem.boot_len (pa_cons (pv 0) pa_nil)))) (pw_or1 (pt_cmpR or_sin (pv 4) (pv 2) (by rfl)))))).pt) (pss_one (ps_raise rfl tk (pmk_position PySem.F.store_ValueError PySem.F.excBase_ValueError T.X_InvalidStruck hr (by rfl) T.m_InvalidStruck (pa_cons (pv 3) pa_nil)))) pss_nil) (pss_one (ps_expr (PE.nox (pe_sadd (pv 2) (pa_cons (pv 4) pa_nil))))))) (pss_cons (ps_setLc (i := 5) (own := [("child", 6), ("parent", 7)]) (g := gTup K 2 (gCons (gName 6) (gCons (gName 7) gNil))) rfl sc_check_struck.nd rfl rfl (sw_true rfl rfl rfl (by decide +kernel)) (pi_or (pi_enumK (by rfl) T.z_enumerate (pa_cons (pv 0) pa_nil) (pk_cons pe_int pk_nil)) (pi_enumKT (by rfl) T.z_enumerate (pa_cons (pv 0) pa_nil) (pk_cons pe_int pk_nil))) (blkOk_by (N := N_check_struck) (sc := defScope s_check_struck) (by decide +kernel)) (fun _ _ _ _ _ => (pg_tup rfl (pgs_cons (pg_name (i := 6) sc_check_struck.nd rfl (Or.inl rfl) (Or.inr rfl)) (pgs_cons (pg_name (i := 7) sc_check_struck.nd rfl (Or.inl rfl) (Or.inr rfl)) pgs_nil)))) (fun _ _ _ _ _ => pts_one (pt_cmpR (show OpR _ (compareOp .NotIn) (rSNotIn w) from or_snotin) (pv 6) (pv 2) (by rfl))) (fun _ _ _ _ _ => (pv 7))) (pss_one (ps_for (passes_of rfl) rfl (pi_or (pi_enum (by rfl) T.z_enumerate (pa_cons (pv 1) pa_nil)) (pi_enumT (by rfl) T.z_enumerate (pa_cons (pv 1) pa_nil))) (pg_tup rfl (pgs_cons (pg_name (i := 3) sc_check_struck.nd rfl (Or.inl rfl) (Or.inr rfl)) (pgs_cons (pg_name (i := 4) sc_check_struck.nd rfl (Or.inl rfl) (Or.inr rfl)) pgs_nil))) (pss_one (ps_if (PT.nox (pt_cmpR op_in_seq (pv 4) (pv 5) (by rfl))) (pss_one (ps_raise rfl tk (pmk_position PySem.F.store_ValueError PySem.F.excBase_ValueError T.X_InvalidStruck hr (by rfl) T.m_InvalidStruck (pa_cons (pv 3) pa_nil)))) pss_nil)))))))), ?_⟩
    rcases h with ⟨a, b, ps, xs, rfl, ha, hb, el, hl, h200, qE, qN⟩ | ⟨y, x, t, rfl, ty, k, qE⟩
    rotate_left
    · refine q_when (b := true) (et_is (et_not (et_B (b := false) (ev_call (ea_cons (ev_var rfl) ea_nil) (sv_listX ty k)))) rfl) (fun _ H1 e1 => ?_) fun z => nomatch z
      exact ea_cons ev_c ea_nil H1 (Ex.refl H1) _ fun H4 e4 => ⟨.non, rfl, fun d hd => qE _ d (fresh_back (e1.trans e4) hd) ((e1.trans e4).trans (Ex.new hd)) upd_same⟩
    obtain ⟨tb, tyb, kb⟩ := hb.tys
    refine q_when (b := false) (et_is (et_not (et_B (b := true) (ev_call (ea_cons (ev_var rfl) ea_nil) (sv_listX tyb kb)))) rfl) (fun z => nomatch z) fun _ H1 e1 => ?_
    refine ⟨rfl, fun p hp => ?_⟩
    have ha1 := ha.ex e1
    have hb1 := hb.ex e1
    refine s_forE (D := { nx := _, rt := _ }) (Hb := H1) (ea_cons (ev_var rfl) ea_nil) hb1 (Ex.new hp)
      (fun n σ' H' => Ex H1 H' ∧ (∀ j, j < n → okAt ps.length xs j = true) ∧ H' p = some (SetO w p (fun k => decide (V.int k ∈ xs.take n)) n) ∧ ∃ y3 y4, σ' = [some (.ref a), some (.ref b), some (.ref p), y3, y4, none, none, none])
      (fun H2 e2 => ⟨(Ex.new hp).trans e2, (fun j hj => absurd hj (Nat.not_lt_zero j)), e2 _ _ (by rw [upd_same]; rfl), _, _, rfl⟩) (fun n σ' H' z => z.1) (fun n x σ' H' H2 hx z e2 => ?_) (fun σ' H' z => ?_)
    · obtain ⟨e', okb, hp', y3, y4, rfl⟩ := z
      have hn : n < xs.length := (List.getElem?_eq_some_iff.mp hx).1
      have hmem : x ∈ xs := List.mem_of_getElem? hx
      have x2 := e1.trans (e'.trans e2)
      have elx := (el x hmem).ex x2
      refine q_when (b := !okAt ps.length xs n) ?_ (fun hb H3 e3 => ?_) fun hb H3 e3 => ?_
      · rcases elx with ⟨z, rfl⟩ | ⟨nx, od⟩
        · have hok : okAt ps.length xs n = (decide (1 ≤ z) && decide (z ≤ (ps.length : Int)) && !decide (V.int z ∈ xs.take n)) := by
            unfold okAt
            rw [hx]
          refine et_is (et_or (a := false) (et_is (et_not (et_B (b := true) (ev_call (ea_cons (ev_var rfl) ea_nil) (sv_intX (.inl ⟨z, rfl⟩))))) rfl) fun _ => et_or (et_not (et_test (ev_chain ev_c (ev_var rfl) rv_I0 (fun _ => ev_cb (ea_cons (ev_var rfl) ea_nil) (rc_lenN ((ha1.ex e').ex e2))) (fun _ => rv_I0)))) fun _ => et_test (ev_op (ev_var rfl) (ev_var rfl) (rv_sin (e2 _ _ hp')))) ?_
          rw [hok]
          show (false || (!(decide (1 ≤ z) && decide (z ≤ (ps.length : Int))) || decide (V.int z ∈ xs.take n))) = _
          cases decide (1 ≤ z) <;> cases decide (z ≤ (ps.length : Int)) <;> cases decide (V.int z ∈ xs.take n) <;> rfl
        · have hok : okAt ps.length xs n = false := by
            unfold okAt
            rw [hx]
            cases x <;> first | rfl | cases nx
          rw [hok]
          exact et_is (et_or (a := true) (b := true) (et_is (et_not (et_B (b := isI x) (ev_call (ea_cons (ev_var rfl) ea_nil) (sv_intX (.inr ⟨nx, od⟩))))) (by rw [nx]; rfl)) fun z => nomatch z) rfl
      · have hbad : bad ps xs = some n := bad_1 hn (by cases q : okAt ps.length xs n with
          | false => rfl
          | true => rw [q] at hb; cases hb) okb
        have x3 := x2.trans e3
        exact ea_cons (ev_var rfl) ea_nil H3 (Ex.refl H3) _ fun H4 e4 => ⟨nV n, rfl, fun d hd => qE n hbad _ d (fresh_back (x3.trans e4) hd) ((x3.trans e4).trans (Ex.new hd)) upd_same⟩
      · have hok : okAt ps.length xs n = true := by
          cases q : okAt ps.length xs n with
          | true => rfl
          | false => rw [q] at hb; cases hb
        obtain ⟨z, rfl⟩ : ∃ z : Int, x = .int z := by
          unfold okAt at hok
          rw [hx] at hok
          cases x with
          | int z => exact ⟨z, rfl⟩
          | _ => cases hok
        have hnm : ¬ V.int z ∈ xs.take n := by
          unfold okAt at hok
          rw [hx] at hok
          simp only [Bool.and_eq_true, Bool.not_eq_true', decide_eq_false_iff_not] at hok
          exact hok.2
        refine ⟨.ref p, rfl, ⟨p, _, _, rfl, e3 _ _ (e2 _ _ hp')⟩, _, rfl, p, _, _, n, rfl, rfl, e3 _ _ (e2 _ _ hp'), (by show n + 1 < 4096; omega), ?_⟩
        refine ⟨Ex.mut (e'.trans (e2.trans e3)) hp, (fun j hj => by
          by_cases q : j = n
          · rw [q]
            exact hok
          · exact okb j (by omega)), ?_, _, _, rfl⟩
        rw [upd_same, decide_eq_false hnm]
        show some (SetO w p (fun j => decide (V.int j ∈ xs.take n) || decide (j = z)) (n + 1)) = _
        congr 2
        funext j
        rw [List.take_add_one, hx]
        show (decide (V.int j ∈ xs.take n) || decide (j = z)) = decide (V.int j ∈ xs.take n ++ [V.int z])
        have e9 : decide (j = z) = decide (V.int j = V.int z) := decide_eq_decide.mpr ⟨fun q => congrArg V.int q, fun q => V.int.inj q⟩
        rw [e9]
        simp only [List.mem_append, List.mem_singleton, Bool.decide_or]
    · obtain ⟨e', okb, hp', y3, y4, rfl⟩ := z
      obtain ⟨exs, gnd, gbd⟩ := all_ok okb
      have hbad := bad_2 okb
      have ha3 := ha1.ex e'
      rw [List.take_length] at hp'
      have hneed := el_lcEK (K := K) (σ := [some (.ref a), some (.ref b), some (.ref p), y3, y4, none, none, none]) (H := H') (a := a) (xs := ps.map nV) (i := 6) (j := 7) (vs := [6, 7]) (k := 1) (ta := tCons (tVar 0) tNil) (tk := tCons (tC (.int 1)) tNil) (te := tVar 7) (tt := tTest (tOp (rSNotIn w) (tVar 6) (tVar 2)))
        (fun n => !decide (n + 1 ∈ gsOf xs)) (fun n => nV (ps.getD n 0)) (ea_cons (ev_var rfl) ea_nil) (ea_cons ev_c ea_nil) (by omega) ha3 (by rw [List.length_map]; omega) (fun _ _ => rfl) (fun n x H1 e1 hx => ?_) (fun n x H1 e1 hx _ => ?_)
      · refine q_asgL (D := { nx := _, rt := _ }) hneed fun r H4 hr e4 hr4 => ?_
        rw [List.length_map, given_nat] at hr4
        refine s_forE (D := { nx := _, rt := _ }) (Hb := H4) (ea_cons (ev_var rfl) ea_nil) ((hb1.ex e').ex e4) (Ex.refl H4) (fun n σ2 H2 => Ex H4 H2 ∧ (∀ j, j < n → loose ps (gsOf xs) ((gsOf xs).getD j 0) = false) ∧ ∃ y3 y4, σ2 = [some (.ref a), some (.ref b), some (.ref p), y3, y4, some (.ref r), none, none]) (fun H2 e2 => ⟨e2, (fun j hj => absurd hj (Nat.not_lt_zero j)), _, _, rfl⟩) (fun n σ2 H2 z => z.1) (fun n x σ2 H2 H3 hx z e3 => ?_) (fun σ2 H2 z => ?_)
        · obtain ⟨e5, nl, y3, y4, rfl⟩ := z
          have hn : n < xs.length := (List.getElem?_eq_some_iff.mp hx).1
          have hn2 : n < (gsOf xs).length := by
            unfold gsOf
            rw [List.length_map]
            exact hn
          rw [exs, at_nat hn2] at hx
          cases hx
          have x5 := e1.trans (e'.trans (e4.trans (e5.trans e3)))
          refine s_when (b := loose ps (gsOf xs) ((gsOf xs).getD n 0)) (et_test (ev_op (ev_var rfl) (ev_var rfl) (rv_bl (rv_isL (sq_of ((e5.trans e3) _ _ hr4)) rfl (flat_nat _)) ((inV_nat _ _).trans (needed_is ps (gsOf xs) _))))) (fun hb H6 e6 => ?_) fun hb H6 e6 => ⟨e5.trans (e3.trans e6), (fun j hj => by
            by_cases q : j = n
            · rw [q]
              exact hb
            · exact nl j (by omega)), _, _, rfl⟩
          have hbd2 : bad ps xs = some n := hbad.trans (bad_is hn2 hb nl)
          exact ea_cons (ev_var rfl) ea_nil H6 (Ex.refl H6) _ fun H7 e7 => ⟨nV n, rfl, fun d hd => qE n hbd2 _ d (fresh_back ((x5.trans e6).trans e7) hd) (((x5.trans e6).trans e7).trans (Ex.new hd)) upd_same⟩
        · obtain ⟨e5, nl, _⟩ := z
          have hnone : bad ps xs = none := hbad.trans (bad_no fun j hj => nl j (by unfold gsOf at hj; rw [List.length_map] at hj; exact hj))
          exact qN hnone _ (e1.trans (e'.trans (e4.trans e5)))
      · refine et_test (ev_op (ev_var rfl) (ev_var rfl) (rv_bl (rv_snin (e1 _ _ hp')) ?_))
        congr 1
        have e0 : (1 : Int) + (n : Nat) = ((n + 1 : Nat) : Int) := by omega
        rw [e0, exs, gs_nat]
        refine decide_eq_decide.mpr ⟨fun z => ?_, fun z => List.mem_map.mpr ⟨n + 1, z, rfl⟩⟩
        obtain ⟨g, hg, eg⟩ := List.mem_map.mp z
        have : g = n + 1 := by have := V.int.inj eg; omega
        exact this ▸ hg
      · obtain ⟨hn, rfl⟩ := nat_item hx
        exact ev_var rfl
end
theorem q_dropR {te : TE} {tz : TS} {D : Ends} {σ : L2.St} {H : Hp} (h : te σ H fun _ H1 => tz D σ H1) : tSeq (tDrop te) tz D σ H := h
theorem call_rawX {sp : Sp} {E : XK} {ta : TA} {σ : L2.St} {H : Hp} {vs : List V} {Q : VK} (h : EvA ta σ H vs) (k : ∀ H1, Ex H H1 → sp vs H1 Q E) : tCall sp [] E ta σ H Q := h H (Ex.refl H) _ fun H1 e => by
  rw [List.append_nil]
  exact k H1 e
def sp_TinitX (K : PySem.W.Frag) (w : World) (C cV : Addr) : Sp := fun vs H Q E => ∃ H0 t dx a ps x, vs = [.ref t, .ref a, x] ∧ Ex H0 H ∧ H0 t = none ∧ H t = some (.ins C dx []) ∧ Seq K H0 a (ps.map nV) ∧ Good ps ∧ ps.length ≤ 199 ∧
  ((∃ b xs, x = .ref b ∧ Seq K H0 b xs ∧ (∀ x ∈ xs, Elem K H0 x) ∧ xs.length < 64 ∧
    (∀ i : Nat, bad ps xs = some i → ∀ H' d, H0 d = none → Ex H0 H' → H' d = some (.xd [("position", nV i)]) → E (.ref cV) (some d) H') ∧ (bad ps xs = none → ∀ H', Ex H0 H' → TreeNew C H0 H' t ps (srt (gsOf xs)) → Q .non H')) ∨
  (∃ ty, (∀ H1, Ex H0 H1 → TyX K H1 x ty) ∧ PySem.W.kitAny K ty [.type "list", .type "tuple"] = some false ∧
    ∀ H' d, H0 d = none → Ex H0 H' → H' d = some (.xd [("position", .non)]) → E (.ref cV) (some d) H'))
def sp_TwgX (C cS : Addr) : Sp := fun vs H Q E => ∃ t ps st, ∃ g : Nat, vs = [.ref t, nV g] ∧ TreeAt C H t ps st ∧ Good ps ∧ ps.length ≤ 198 ∧ g ≤ ps.length ∧ StOk ps st ∧ st.length < 64 ∧ srt st = st ∧
  (g ∈ st → ∀ H' d, H d = none → Ex H H' → H' d = some (.xd [("group", nV g)]) → E (.ref cS) (some d) H') ∧
  (g ∉ st → ∀ H' t', H t' = none → Ex H H' → TreeNew C H H' t' (ps ++ [g]) st → Q (.ref t') H')
section
variable {P : Program} {w : World} {K : PySem.W.Frag} {mg : Str → Option Value} {base : Heap} {C : Addr} {H : Hp}
theorem ok_TinitX (T : Txt K mg) (G_check_parents : FnG P w K mg base CX0 2 T.f_check_parents T.fd_check_parents ["parents"] (sp_check_parents K)) (G_check_struckX : FnG P w K mg base (L2.CX P w) 2 T.f_check_struck T.fd_check_struck ["parents", "struck"] (sp_csX K w T.C_InvalidStruck)) : FnG P w K mg base (L2.CX P w) 3 T.f_Tinit T.fd_Tinit ["self", "parents", "struck"] (sp_TinitX K w T.C T.C_InvalidStruck) := by
  refine okGDX T.F_Tinit sc_Tinit (fun vs H Q E h => ?_) (fun cdv A outer s H vs Q E gd hr h => ?_)
  · obtain ⟨_, _, _, _, _, _, rfl, _⟩ := h
    all_goals rfl
  · obtain ⟨H0, t, dx, a, ps, x, rfl, e0, ht0, ht, ha, hg, hl, hh⟩ := h
    have tk : Takes (cxOf (L2.CX P w) P w K mg base N_Tinit "Tree.__init__" (defScope s_Tinit) T.f_Tinit cdv A outer s H E) (fun cls d _ H => E cls d H) := takes_of rfl rfl rfl rfl
    refine ⟨_, (pss_cons (ps_expr (PE.nox (pc gd G_check_parents (hr.mono (by decide)) (by rfl) T.m_check_parents T.F_check_parents.kp T.b_check_parents .nil pass0 (pa_cons (pv 1) pa_nil)))) (pss_cons (ps_expr (pc gd G_check_struckX (hr.mono (by decide)) (by rfl) T.m_check_struck T.F_check_struck.kp T.b_check_struck .nil (passes_call tk fun _ _ _ _ z => z) (pa_cons (pv 1) (pa_cons (pv 2) pa_nil)))) (pss_cons (ps_fld (pv 0) (pe_lst (pa_cons pe_non (pa_star (pv 1) pa_nil))) rfl) (pss_one (ps_fld (pv 0) (pe_callB call_sortedU (by rfl) T.z_sorted boot_sorted (pa_cons (pv 2) pa_nil)) rfl))))), ?_⟩
    refine q_drop (ev_call (ea_cons (ev_var rfl) ea_nil) (sv_parents (ha.ex e0) hg hl)) fun H1 e1 => ?_
    have x1 := e0.trans e1
    have args : EvA (tCons (tVar 1) (tCons (tVar 2) tNil)) [some (.ref t), some (.ref a), some x] H1 [.ref a, x] := ea_cons (ev_var rfl) (ea_cons (ev_var rfl) ea_nil)
    refine q_dropR (call_rawX args fun H1b e1b => ?_)
    have x1 := x1.trans e1b
    rcases hh with ⟨b, xs, rfl, hb, el, h64, qE, q⟩ | ⟨ty, h1, h2, qE⟩
    rotate_left
    · exact .inr ⟨_, _, ty, rfl, fun H2 e2 => h1 H2 (x1.trans e2), h2, fun H' d hd e hx => qE H' d (fresh_back x1 hd) (x1.trans e) hx⟩
    refine .inl ⟨a, b, ps, xs, rfl, ha.ex x1, hb.ex x1, fun x hx => (el x hx).ex x1, hl, by omega, fun i hi H' d hd e hx => qE i hi H' d (fresh_back x1 hd) (x1.trans e) hx, fun hnb H2 e2 => ?_⟩
    obtain ⟨exs, ok⟩ := right_of hnb
    rw [exs] at hb
    have q := q hnb
    have x2 := x1.trans e2
    have lg : (gsOf xs).length = xs.length := List.length_map ..
    have ht2 : H2 t = some (.ins T.C dx []) := e2 _ _ (e1b _ _ (e1 _ _ ht))
    refine q_fldL (C := T.C) (fs := []) (dx := dx) (el_lst (ea_cons ev_c (ea_star (ev_var rfl) (ha.ex x2) ea_nil)) ?_) (ev_var rfl) ht2 T.c_Tree T.n_above (by show 0 < 1000; omega) fun la H3 hla e3 h3 => ?_
    · rw [List.append_nil, List.length_cons, List.length_map]
      omega
    · rw [List.append_nil] at h3
      have x3 : Ex H0 (upd H3 t (.ins T.C dx (putF "_above" (.ref la) []))) := Ex.mut (x2.trans e3) ht0
      have nla : la ≠ t := ne_of_none' ht2 hla
      refine ⟨_, rfl, b, (gsOf xs).map fun g : Nat => (g : Int), rfl, ?_, ?_, fun ns' ls hperm hpw hls => ?_⟩
      · rw [nat_int]
        exact (hb.ex x3).sq
      · rw [List.length_map, lg]
        exact h64
      · rw [srt_eq hperm hpw]
        have nls : t ≠ ls := ne_of_none upd_same hls
        have nls2 : la ≠ ls := ne_of_none (show (upd H3 t _) la = some _ by rw [upd_ne nla]; exact h3) hls
        have hls0 : H0 ls = none := fresh_back x3 hls
        refine ⟨_, rfl, t, T.C, dx, _, rfl, (by rw [upd_ne nls, upd_same]), T.c_Tree, T.n_struck, (by show 1 < 1000; omega), ?_⟩
        refine q _ (Ex.mut (Ex.mut x3 hls0) ht0) ⟨dx, la, ls, ⟨upd_same, ?_, ?_⟩, ht0, fresh_back x2 hla, hls0⟩
        · rw [upd_ne nla, upd_ne nls2, upd_ne nla]
          exact h3
        · rw [upd_ne nls.symm, upd_same]
theorem ok_Twith_groupX (T : Txt K mg) (G_Tis_struck : FnG P w K mg base CX0 4 T.f_Tis_struck T.fd_Tis_struck ["self", "group"] (sp_Tis_struck T.C)) (G_Tinit : FnG P w K mg base CX0 3 T.f_Tinit T.fd_Tinit ["self", "parents", "struck"] (sp_Tinit K T.C)) (G_Tparents : FnG P w K mg base CX0 1 T.f_Tparents T.fd_Tparents ["self"] (sp_Tparents T.C)) : FnG P w K mg base (L2.CX P w) 6 T.f_Twith_group T.fd_Twith_group ["self", "group"] (sp_TwgX T.C T.C_Struck) := by
  refine okGX T.F_Twith_group sc_Twith_group (fun vs H Q E h => ?_) (fun cdv A outer s H vs Q E gd hr h => ?_)
  · obtain ⟨_, _, _, _, rfl, _⟩ := h
    all_goals rfl
  · obtain ⟨t, ps, st, g, rfl, ht, hp, hl, hg, ok, h64, hsr, qE, q⟩ := h
    have tk : Takes (cxOf (L2.CX P w) P w K mg base N_Twith_group "Tree.with_group" (defScope s_Twith_group) T.f_Twith_group cdv A outer s H E) (fun cls d _ H => E cls d H) := takes_of rfl rfl rfl rfl
    refine ⟨_, (pss_cons (ps_if (PT.nox (pt_val (pm gd (pv 0) T.c_Tree T.M_Tis_struck G_Tis_struck (hr.mono (by decide)) T.b_Tis_struck .nil pass0 (pa_cons (pv 1) pa_nil)))) (pss_one (ps_raise rfl tk (pmk_group PySem.F.store_RuntimeError PySem.F.excBase_RuntimeError T.X_Struck hr (by rfl) T.m_Struck (pa_cons (pv 1) pa_nil)))) pss_nil) (pss_one (ps_ret (PE.nox (pk gd T.mk_Tree G_Tinit (hr.mono (by decide)) (by rfl) T.m_Tree T.b2_Tinit T.v2_Tinit pass0 (pa_cons (pe_op op_cat (pm0 gd (pv 0) T.c_Tree T.M_Tparents G_Tparents (hr.mono (by decide)) T.b_Tparents .nil pass0) (pe_lst (pa_cons (pv 1) pa_nil))) (pa_cons (pe_fld (pv 0) rfl) pa_nil))))))), ?_⟩
    obtain ⟨dx, la, ls, p⟩ := id ht
    have no : ∀ {m : Str}, ¬ m = "_struck" → ¬ m = "_above" → (tf la ls).lookup m = none := fun h1 h2 => tf_no la ls h1 h2
    refine q_when (b := decide (g ∈ st)) (et_B (ev_meth (ev_var rfl) p.ob (no (by decide +kernel) (by decide +kernel)) (ea_cons (ev_var rfl) ea_nil) (sv_isstruck ht (by omega) hg))) (fun hb H3 e3 => ?_) fun hb H1 e1 => ?_
    · exact ea_cons (ev_var rfl) ea_nil H3 (Ex.refl H3) _ fun H4 e4 => ⟨nV g, rfl, fun d hd => qE (of_decide_eq_true hb) _ d (fresh_back (e3.trans e4) hd) ((e3.trans e4).trans (Ex.new hd)) upd_same⟩
    have hns : g ∉ st := of_decide_eq_false hb
    have q := q hns
    have cat := el_cat (σ := [some (.ref t), some (nV g)]) (el_meth (ta := tVar 0) (m := "parents") (dvs := []) (Er := E0) (tb := tNil) (ev_var rfl) (e1 _ _ p.ob) (no (by decide +kernel) (by decide +kernel)) ea_nil (sl_parents (ht.ex e1))) (fun H2 e2 => el_lst (ta := tCons (tVar 1) tNil) (ea_cons (ev_var rfl) ea_nil) (by show 1 ≤ 100000; omega)) (by rw [List.length_map]; show ps.length + 1 ≤ 100000; omega)
    refine cat H1 (Ex.refl H1) _ fun r H2 hr e2 h2 => ?_
    have x2 := e1.trans e2
    refine ev_fld (ev_var rfl) (x2 _ _ p.ob) T.c_Tree T.n_struck (tf_struck la ls) H2 (Ex.refl H2) _ fun H3 e3 => ?_
    intro t2 dx2 ht2 hdx2 hne
    have x3 := x2.trans e3
    have e4 : Ex H3 (upd (upd H3 dx2 (.own t2)) t2 (.ins T.C dx2 [])) := Ex.mut (Ex.new hdx2) ht2
    refine ⟨H3, t2, dx2, r, ls, ps ++ [g], st, rfl, e4, ht2, upd_same, Seq.lst ?_, Seq.lst (x3 _ _ p.sk), hp.snoc hg, by rw [List.length_append, List.length_singleton]; omega, ?_, h64, fun H' e5 hT => ⟨rfl, ?_⟩⟩
    · rw [e3 _ _ h2, List.map_append]
      rfl
    · exact ok.snoc hns
    · rw [hsr] at hT
      exact q H' t2 (fresh_back x3 ht2) (x3.trans e5) (hT.back x3)
theorem ok_Twith_struckX (T : Txt K mg) (G_check_group : FnG P w K mg base CX0 3 T.f_check_group T.fd_check_group ["tree", "value"] (sp_check_group T.C)) (G_Tis_struck : FnG P w K mg base CX0 4 T.f_Tis_struck T.fd_Tis_struck ["self", "group"] (sp_Tis_struck T.C)) (G_Tchildren : FnG P w K mg base CX0 4 T.f_Tchildren T.fd_Tchildren ["self", "group"] (sp_Tchildren T.C)) (G_Tinit : FnG P w K mg base CX0 3 T.f_Tinit T.fd_Tinit ["self", "parents", "struck"] (sp_Tinit K T.C)) (G_Tparents : FnG P w K mg base CX0 1 T.f_Tparents T.fd_Tparents ["self"] (sp_Tparents T.C)) : FnG P w K mg base (L2.CX P w) 6 T.f_Twith_struck T.fd_Twith_struck ["self", "group"] (sp_TwsX T.C T.C_IsTop T.C_Struck T.C_HasChildren) := by
  refine okGX T.F_Twith_struck sc_Twith_struck (fun vs H Q E h => ?_) (fun cdv A outer s H vs Q E gd hr h => ?_)
  · obtain ⟨_, _, _, _, rfl, _⟩ := h
    all_goals rfl
  · obtain ⟨t, ps, st, g, rfl, ht, hp, hl, hg, ok, h64, qT, qS, qH, q⟩ := h
    have tk : Takes (cxOf (L2.CX P w) P w K mg base N_Twith_struck "Tree.with_struck" (defScope s_Twith_struck) T.f_Twith_struck cdv A outer s H E) (fun cls d _ H => E cls d H) := takes_of rfl rfl rfl rfl
    refine ⟨_, (pss_cons (ps_expr (PE.nox (pc gd G_check_group (hr.mono (by decide)) (by rfl) T.m_check_group T.F_check_group.kp T.b_check_group .nil pass0 (pa_cons (pv 0) (pa_cons (pv 1) pa_nil))))) (pss_cons (ps_if (PT.nox (pt_cmpR op_eq (pv 1) pe_int (nomark _))) (pss_one (ps_raise rfl tk (pmk_0 PySem.F.excBase_RuntimeError T.X_IsTop hr (by rfl) T.m_IsTop))) pss_nil) (pss_cons (ps_if (PT.nox (pt_val (pm gd (pv 0) T.c_Tree T.M_Tis_struck G_Tis_struck (hr.mono (by decide)) T.b_Tis_struck .nil pass0 (pa_cons (pv 1) pa_nil)))) (pss_one (ps_raise rfl tk (pmk_group PySem.F.store_RuntimeError PySem.F.excBase_RuntimeError T.X_Struck hr (by rfl) T.m_Struck (pa_cons (pv 1) pa_nil)))) pss_nil) (pss_cons (ps_if (PT.nox (pt_val (pe_callB (cr_any rfl) (by rfl) T.z_any (by decide +kernel) (pa_cons (pe_lc (own := [("child", 2)]) (g := gName 2) rfl sc_Twith_struck.nd (pi_list (pm gd (pv 0) T.c_Tree T.M_Tchildren G_Tchildren (hr.mono (by decide)) T.b_Tchildren .nil pass0 (pa_cons (pv 1) pa_nil))) (blkOk_by (N := N_Twith_struck) (sc := defScope s_Twith_struck) (by decide +kernel)) (fun _ _ _ _ _ => (pg_name (i := 2) sc_Twith_struck.nd rfl (Or.inl rfl) (Or.inr rfl))) (fun _ _ _ _ _ => pts_nil) (fun _ _ _ _ _ => (pe_not (pm gd (pv 0) T.c_Tree T.M_Tis_struck G_Tis_struck (hr.mono (by decide)) T.b_Tis_struck .nil pass0 (pa_cons (pv 2) pa_nil))))) pa_nil)))) (pss_one (ps_raise rfl tk (pmk_group PySem.F.store_RuntimeError PySem.F.excBase_RuntimeError T.X_HasChildren hr (by rfl) T.m_HasChildren (pa_cons (pv 1) pa_nil)))) pss_nil) (pss_one (ps_ret (PE.nox (pk gd T.mk_Tree G_Tinit (hr.mono (by decide)) (by rfl) T.m_Tree T.b2_Tinit T.v2_Tinit pass0 (pa_cons (pm0 gd (pv 0) T.c_Tree T.M_Tparents G_Tparents (hr.mono (by decide)) T.b_Tparents .nil pass0) (pa_cons (pe_op op_cat (pe_fld (pv 0) rfl) (pe_lst (pa_cons (pv 1) pa_nil))) pa_nil)))))))))), ?_⟩
    refine q_drop (ev_call (ea_cons (ev_var rfl) (ea_cons (ev_var rfl) ea_nil)) (sv_group ht hl hg)) fun H1 e1 => ?_
    obtain ⟨dx, la, ls, p⟩ := ht.ex e1
    have no : ∀ {m : Str}, ¬ m = "_struck" → ¬ m = "_above" → (tf la ls).lookup m = none := fun h1 h2 => tf_no la ls h1 h2
    refine q_when (b := decide (g = 0)) (et_test (ev_is (ev_op (ev_var rfl) ev_c (rv_eq rfl)) (congrArg V.bl (nV_eq g 0)))) (fun hb H2 e2 => ?_) fun hb H2 e2 => ?_
    · exact qT (of_decide_eq_true hb) H2 (e1.trans e2)
    have g1 : 1 ≤ g := by have := of_decide_eq_false hb; omega
    refine q_when (b := decide (g ∈ st)) (et_B (ev_meth (ev_var rfl) ((p.ex e2).ob) (no (by decide +kernel) (by decide +kernel)) (ea_cons (ev_var rfl) ea_nil) (sv_isstruck (ht.ex (e1.trans e2)) hl hg))) (fun hb H3 e3 => ?_) fun hb H3 e3 => ?_
    · have x3 := e1.trans (e2.trans e3)
      exact ea_cons (ev_var rfl) ea_nil H3 (Ex.refl H3) _ fun H4 e4 => ⟨nV g, rfl, fun d hd => qS (of_decide_eq_true hb) _ d (fresh_back (x3.trans e4) hd) ((x3.trans e4).trans (Ex.new hd)) upd_same⟩
    have hns : g ∉ st := of_decide_eq_false hb
    have x3 := e2.trans e3
    have lk : ((kids ps g).map nV).length ≤ 40000 := by
      have := kids_len' ps g
      rw [List.length_map]
      omega
    refine q_when (b := loose ps st g) (et_B (ev_is (ev_anyB (bs := (kids ps g).map fun c => !decide (c ∈ st)) (el_is (el_lcNL (xs := (kids ps g).map nV) (fun _ => true) (fun i => .bl (!decide ((kids ps g).getD i 0 ∈ st))) (el_meth (ev_var rfl) ((p.ex x3).ob) (no (by decide +kernel) (by decide +kernel)) (ea_cons (ev_var rfl) ea_nil) (sl_children (ht.ex (e1.trans x3)) hl hg)) lk (fun _ => rfl) (fun i x H4 e4 hx => et_yes) (fun i x H4 e4 hx _ => by
      obtain ⟨hi, rfl⟩ := nat_item hx
      have hm : (kids ps g).getD i 0 ∈ kids ps g := by
        rw [List.getD_eq_getElem?_getD, List.getElem?_eq_getElem hi]
        exact List.getElem_mem hi
      obtain ⟨k1, k2, k3⟩ := kids_mem hm
      exact ev_notV (ev_meth (ev_var rfl) ((p.ex (x3.trans e4)).ob) (no (by decide +kernel) (by decide +kernel)) (ea_cons (ev_var rfl) ea_nil) (sv_isstruck (ht.ex (e1.trans (x3.trans e4))) hl k2)))) (by rw [given_map (f := fun x => V.bl (!decide (x ∈ st))), List.map_map]; rfl))) (by rw [List.any_map]; rfl))) (fun hb H4 e4 => ?_) fun hb H4 e4 => ?_
    · have x4 := e1.trans (x3.trans e4)
      exact ea_cons (ev_var rfl) ea_nil H4 (Ex.refl H4) _ fun H5 e5 => ⟨nV g, rfl, fun d hd => qH g1 hns hb _ d (fresh_back (x4.trans e5) hd) ((x4.trans e5).trans (Ex.new hd)) upd_same⟩
    · have x4 := x3.trans e4
      have hk := loose_no.mp hb
      refine el_meth (ev_var rfl) ((p.ex x4).ob) (no (by decide +kernel) (by decide +kernel)) ea_nil (sl_parents (ht.ex (e1.trans x4))) H4 (Ex.refl H4) _ fun r H5 hr e5 h5 => ?_
      have x5 := x4.trans e5
      refine el_catV (xs := st.map nV) (ev_fld (ev_var rfl) ((p.ex x5).ob) T.c_Tree T.n_struck (tf_struck la ls)) ((p.ex x5).sk) (fun H9 _ => el_lst (ea_cons (ev_var rfl) ea_nil) (by show 1 ≤ 100000; omega)) (by rw [List.length_map]; show st.length + 1 ≤ 100000; omega) H5 (Ex.refl H5) _ fun r2 H6 hr2 e6 h6 => ?_
      have x6 := x5.trans e6
      intro t2 dx2 ht2 hdx2 hne
      have e7 : Ex H6 (upd (upd H6 dx2 (.own t2)) t2 (.ins T.C dx2 [])) := Ex.mut (Ex.new hdx2) ht2
      refine ⟨H6, t2, dx2, r, r2, ps, st ++ [g], rfl, e7, ht2, upd_same, Seq.lst (e6 _ _ h5), Seq.lst (by rw [h6, List.map_append]; rfl), hp, hl, ok.more g1 hg hns hk, by rw [List.length_append, List.length_singleton]; omega, fun H' e8 hT => ⟨rfl, ?_⟩⟩
      exact q g1 hns hk H' t2 (fresh_back (e1.trans x6) ht2) ((e1.trans x6).trans e8) (hT.back (e1.trans x6))
end
end My
namespace My
open PySem PySem.Spec PyProof.Rows L2 GL Evl StX SkE
theorem cr_or {X : Cx} {v : Value} {r1 r2 : List V → Hp → VK → Prop} (h1 : CallR X v r1) (h2 : CallR X v r2) : CallR X v fun xs H Q => r1 xs H Q ∨ r2 xs H Q := fun pins s σ H xs us Q I r h => h.elim (h1 pins s σ H xs us Q I r) (h2 pins s σ H xs us Q I r)
abbrev num (g : Nat) : V := .str (toString (g : Int))
def posT (v : V) : V := match v with
  | .int z => .str (toString z)
  | _ => .str "None"
/-- what an error is told as -/
def Told {K : PySem.W.Frag} {mg : Str → Option Value} (T : Txt K mg) (Q : VK) : XK := fun cls d H =>
  (cls = .ref T.C_IsTop ∧ d = none ∧ RetL [.str "top", .bl true] H Q) ∨
  (cls = .ref T.C_Struck ∧ ∃ dd, ∃ g : Nat, d = some dd ∧ g < 100000 ∧ H dd = some (.xd [("group", nV g)]) ∧ RetL [.str "struck", num g, .bl true] H Q) ∨
  (cls = .ref T.C_HasChildren ∧ ∃ dd, ∃ g : Nat, d = some dd ∧ g < 100000 ∧ H dd = some (.xd [("group", nV g)]) ∧ RetL [.str "children", num g, .bl true] H Q) ∨
  (cls = .ref T.C_InvalidStruck ∧ ∃ dd v, d = some dd ∧ (v = .non ∨ ∃ g : Nat, g < 100000 ∧ v = nV g) ∧ H dd = some (.xd [("position", v)]) ∧ RetL [.str "list", posT v, .bl true] H Q)
/-- what is heard of a lambda's reading -/
def Heard {K : PySem.W.Frag} {mg : Str → Option Value} (T : Txt K mg) : (XK → Hp → VK → Prop) → Hp → VK → Prop := fun tl H Q =>
  tl (Told T Q) H fun v H1 => [V.str "made", v].length ≤ sizeLine ∧ ∀ p, H1 p = none → Q (.ref p) (upd H1 p (.lst [.str "made", v]))
theorem log_nat {g : Nat} (h : g < 100000) : ((g : Int)).natAbs.log2 < 1920 := by
  rw [Int.natAbs_natCast]
  by_cases e : g = 0
  · rw [e]
    decide
  · have := (Nat.log2_lt e (k := 17)).mpr (by omega)
    omega
theorem ev_reprI {σ : L2.St} {H : Hp} {te : TE} {g : Nat} (hg : g < 100000) (h : Ev te σ H (nV g)) : Ev (tCB (fun xs H Q => ∃ i, xs = [V.int i] ∧ i.natAbs.log2 < 1920 ∧ Q (V.str (toString i)) H) (tCons te tNil)) σ H (num g) := fun H1 e Q q => h H1 e _ fun H2 e2 => ⟨(g : Int), rfl, log_nat hg, q H2 e2⟩
theorem ev_reprPos {σ : L2.St} {H : Hp} {te : TE} {v : V} (hv : v = .non ∨ ∃ g : Nat, g < 100000 ∧ v = nV g) (h : Ev te σ H v) : Ev (tCB (fun xs H Q => (∃ i, xs = [V.int i] ∧ i.natAbs.log2 < 1920 ∧ Q (V.str (toString i)) H) ∨ xs = [V.non] ∧ Q (V.str "None") H) (tCons te tNil)) σ H (posT v) := fun H1 e Q q => h H1 e _ fun H2 e2 => by
  rcases hv with rfl | ⟨g, hg, rfl⟩
  · exact .inr ⟨rfl, q H2 e2⟩
  · exact .inl ⟨(g : Int), rfl, log_nat hg, q H2 e2⟩
theorem ev_isX {K : PySem.W.Frag} {cls : Value} {d : Option Addr} {z D C : Addr} {σ : L2.St} {H : Hp} {i : Nat} (h : σ[i]? = some (some (.ref z))) (hc : cls = .ref D) (T : GX.ErrC K D) (k : PySem.W.kitOne K (.ref D) (.ref C) = some true) (hd : d = none ∨ ∃ dd fs, d = some dd ∧ H dd = some (.xd fs)) :
    Ev (tCB (rIsX K cls d z) (tCons (tVar i) (tCons (tC (.ref C)) tNil))) σ H (.bl true) :=
  ev_cb (ea_cons (ev_var h) (ea_cons ev_c ea_nil)) fun H1 e Q q => ⟨D, C, true, hc, T, rfl, k, hd.imp id (fun ⟨dd, fs, a, b⟩ => ⟨dd, fs, a, e _ _ b⟩), q H1 (Ex.refl H1)⟩
theorem heard_gives {X : Cx} {q : Str} {K : PySem.W.Frag} {mg : Str → Option Value} (T : Txt K mg) (hK : X.K = K) (hm : X.mg = mg) {k : Nat} : GivesG X N_Lheard "_law_heard" (defScope s_Lheard) T.f_Lheard (defBody s_Lheard) "_law_ask" q (k + 1) (Heard T) := by
  subst hK hm
  intro cd f c s H Q tl gd hr act hc h
  refine ⟨_, (pss_one (ps_try_any rfl rfl takes_never (fun W pn xe tkW po => (pss_one (show PS _ _ (fun D σ H => ∃ Ech : XK, (∀ cls d (σ1 : L2.St) H1, σ1.length = N_Lheard.length → Ech cls d H1 → W cls d σ1 H1) ∧ tRet (tLst (tCons (tC (.str "made")) (tCons (fun σZ HZ QZ => σZ[0]? = some (some (.ref f)) ∧ HZ c = some (LamX.CodeO c q) ∧ tl Ech HZ QZ) tNil))) D σ H) from ⟨fun pins s1 σ1 H1 D1 I1 ⟨Ech, hW, q1⟩ => (ps_ret (pe_lst (pa_cons pe_str (pa_cons (act W pn xe Ech _ _ tkW hW) pa_nil)))).run pins s1 σ1 H1 D1 I1 q1⟩))) (.named (i := 1) ⟨by rfl, by decide, .inl T.m_IsTop⟩ sc_Lheard.nd rfl rfl (fun a oe cls d pn hz hf => (pss_one (ps_ret (pe_lst (pa_cons pe_str (pa_cons (pe_callB (call_isX hz hf) (by rfl) T.z_isinstance boot_isinstance (pa_cons (pv 1) (pa_cons (pe_glob (v := .ref T.C_StandError) (by rfl) T.m_StandError rfl) pa_nil))) pa_nil)))))) (.named (i := 1) ⟨by rfl, by decide, .inl T.m_Struck⟩ sc_Lheard.nd rfl rfl (fun a oe cls d pn hz hf => (pss_one (ps_ret (pe_lst (pa_cons pe_str (pa_cons (pe_callB call_repr_int (by rfl) T.z_repr boot_repr (pa_cons (pe_by T.X_Struck.toErrT T.X_Struck.no hz hf (pv 1)) pa_nil)) (pa_cons (pe_callB (call_isX hz hf) (by rfl) T.z_isinstance boot_isinstance (pa_cons (pv 1) (pa_cons (pe_glob (v := .ref T.C_StandError) (by rfl) T.m_StandError rfl) pa_nil))) pa_nil))))))) (.named (i := 1) ⟨by rfl, by decide, .inl T.m_HasChildren⟩ sc_Lheard.nd rfl rfl (fun a oe cls d pn hz hf => (pss_one (ps_ret (pe_lst (pa_cons pe_str (pa_cons (pe_callB call_repr_int (by rfl) T.z_repr boot_repr (pa_cons (pe_by T.X_HasChildren.toErrT T.X_HasChildren.no hz hf (pv 1)) pa_nil)) (pa_cons (pe_callB (call_isX hz hf) (by rfl) T.z_isinstance boot_isinstance (pa_cons (pv 1) (pa_cons (pe_glob (v := .ref T.C_StandError) (by rfl) T.m_StandError rfl) pa_nil))) pa_nil))))))) (.named (i := 1) ⟨by rfl, by decide, .inl T.m_InvalidStruck⟩ sc_Lheard.nd rfl rfl (fun a oe cls d pn hz hf => (pss_one (ps_ret (pe_lst (pa_cons pe_str (pa_cons (pe_callB (cr_or call_repr_int call_repr_non) (by rfl) T.z_repr boot_repr (pa_cons (pe_by T.X_InvalidStruck.toErrT T.X_InvalidStruck.no hz hf (pv 1)) pa_nil)) (pa_cons (pe_callB (call_isX hz hf) (by rfl) T.z_isinstance boot_isinstance (pa_cons (pv 1) (pa_cons (pe_glob (v := .ref T.C_WayError) (by rfl) T.m_WayError rfl) pa_nil))) pa_nil))))))) .nil)))))), ?_⟩
  refine ⟨Told T Q, fun cls d σ1 H1 hl z => ?_, ?_⟩
  · obtain ⟨u0, u1, rfl⟩ : ∃ u0 u1, σ1 = [u0, u1] := by
      match σ1, hl with
      | [u0, u1], _ => exact ⟨u0, u1, rfl⟩
    rcases z with ⟨rfl, rfl, q⟩ | ⟨rfl, dd, g, rfl, hg, hd, q⟩ | ⟨rfl, dd, g, rfl, hg, hd, q⟩ | ⟨rfl, dd, v, rfl, hv, hd, q⟩
    · refine ⟨true, T.q_IsTop_IsTop, fun _ z hz => ?_, fun z => nomatch z⟩
      dsimp only
      exact s_retL (el_lst (ea_cons ev_c (ea_cons (ev_isX rfl rfl T.ec_IsTop T.ib_IsTop (.inl rfl)) ea_nil)) (by show 2 ≤ 100000; omega)) fun p H2 hp e2 h2 => q p H2 hp e2 h2
    · refine ⟨false, T.q_Struck_IsTop, (fun z => nomatch z), fun _ => ⟨true, T.q_Struck_Struck, fun _ z hz => ?_, fun z => nomatch z⟩⟩
      dsimp only
      exact s_retL (el_lst (ea_cons ev_c (ea_cons (ev_reprI hg (ev_by (ev_var rfl) hd)) (ea_cons (ev_isX rfl rfl T.ec_Struck T.ib_Struck (.inr ⟨dd, _, rfl, hd⟩)) ea_nil))) (by show 3 ≤ 100000; omega)) fun p H2 hp e2 h2 => q p H2 hp e2 h2
    · refine ⟨false, T.q_HasChildren_IsTop, (fun z => nomatch z), fun _ => ⟨false, T.q_HasChildren_Struck, (fun z => nomatch z), fun _ => ⟨true, T.q_HasChildren_HasChildren, fun _ z hz => ?_, fun z => nomatch z⟩⟩⟩
      dsimp only
      exact s_retL (el_lst (ea_cons ev_c (ea_cons (ev_reprI hg (ev_by (ev_var rfl) hd)) (ea_cons (ev_isX rfl rfl T.ec_HasChildren T.ib_HasChildren (.inr ⟨dd, _, rfl, hd⟩)) ea_nil))) (by show 3 ≤ 100000; omega)) fun p H2 hp e2 h2 => q p H2 hp e2 h2
    · refine ⟨false, T.q_InvalidStruck_IsTop, (fun z => nomatch z), fun _ => ⟨false, T.q_InvalidStruck_Struck, (fun z => nomatch z), fun _ => ⟨false, T.q_InvalidStruck_HasChildren, (fun z => nomatch z), fun _ => ⟨true, T.q_InvalidStruck_InvalidStruck, fun _ z hz => ?_, fun z => nomatch z⟩⟩⟩⟩
      dsimp only
      exact s_retL (el_lst (ea_cons ev_c (ea_cons (ev_reprPos hv (ev_by (ev_var rfl) hd)) (ea_cons (ev_isX rfl rfl T.ec_InvalidStruck T.ib_InvalidStruck (.inr ⟨dd, _, rfl, hd⟩)) ea_nil))) (by show 3 ≤ 100000; omega)) fun p H2 hp e2 h2 => q p H2 hp e2 h2
  · exact ⟨rfl, hc, h⟩
end My
namespace My
open PySem PySem.Spec PyProof.Rows L2 GL Evl StX SkE
/-- how a strike of g ends, if it isn't done -/
def dueL (ps st : List Nat) (g : Nat) : Option (List V) := if g = 0 then some [.str "top", .bl true] else if g ∈ st then some [.str "struck", num g, .bl true] else if loose ps st g = true then some [.str "children", num g, .bl true] else none
def adds (ps st : List Nat) (g : Nat) : List Nat := (List.range (ps.length + 1)).filter fun c => decide (c ∈ st) || decide (c = g)
def badV (ps : List Nat) (xs : List V) : V := match bad ps xs with
  | some i => nV i
  | none => .int (-1)
def sp_Lunder : Sp := fun vs H Q _ => ∃ u, ∃ ps : List Nat, ∃ g : Nat, vs = [.ref u, nV g] ∧ H u = some (.lst (upsV ps)) ∧ ps.length ≤ 199 ∧ RetL ((kids ps g).map nV) H Q
def sp_LdueH : Sp := fun vs H Q _ => ∃ u l, ∃ ps st : List Nat, ∃ g : Nat, vs = [.ref u, .ref l, nV g] ∧ H u = some (.lst (upsV ps)) ∧ H l = some (.lst (st.map nV)) ∧ ps.length ≤ 199 ∧ g ≤ ps.length ∧ (∀ xs, dueL ps st g = some xs → RetL xs H Q) ∧
  (dueL ps st g = none → ∀ H' p m, H p = none → H m = none → Ex H H' → H' p = some (.lst [.str "made", .ref m]) → H' m = some (.lst ((adds ps st g).map nV)) → Q (.ref p) H')
def sp_Lwrong (K : PySem.W.Frag) : Sp := fun vs H Q _ => ∃ u l, ∃ ps : List Nat, ∃ xs : List V, vs = [.ref u, .ref l] ∧ H u = some (.lst (upsV ps)) ∧ H l = some (.lst xs) ∧ (∀ x ∈ xs, Elem K H x) ∧ ps.length ≤ 199 ∧ xs.length ≤ 200 ∧ RetV (badV ps xs) H Q
theorem cut_take {xs : List V} {n : Nat} (h : n ≤ xs.length) : cutV xs none (some (n : Int)) = xs.take n := by
  unfold cutV
  rw [HT.sIx_nat, HT.sIx_none, List.drop_zero, Nat.sub_zero, Nat.min_eq_left h]
theorem cut_drop {xs : List V} {n : Nat} : cutV xs (some (n : Int)) none = xs.drop n := by
  unfold cutV
  rw [HT.sIx_nat, HT.sIx_none]
  by_cases h : n ≤ xs.length
  · rw [Nat.min_eq_left h]
    exact List.take_of_length_le (by rw [List.length_drop]; omega)
  · rw [Nat.min_eq_right (by omega), List.drop_eq_nil_of_le (Nat.le_refl _), List.drop_eq_nil_of_le (by omega), List.take_nil]
section
variable {P : Program} {w : World} {K : PySem.W.Frag} {mg : Str → Option Value} {base : Heap} {C : Addr} {H H' : Hp} {σ : L2.St} {te ta tb tl tx : TE} {tA : TA} {tz : TS} {D : Ends} {xs ys vs : List V} {x : V} {a r l u t : Addr} {ps ls st : List Nat}
theorem ev_inL (h : Ev te σ H x) (hl : EvL tl σ H xs) (fx : flatV x = true) (fl : xs.all flatV = true) : Ev (tOp (rIn K false) te tl) σ H (.bl (inV x xs)) := fun H1 e Q q => h H1 e _ fun H2 e2 => hl H2 (e.trans e2) _ fun p H3 hp e3 h3 => rv_isL (sq_of h3) fx fl H3 (Ex.refl H3) Q fun H4 e4 => q H4 ((e2.trans e3).trans e4)
theorem sl_under {g : Nat} (h : H u = some (.lst (upsV ps))) (hl : ps.length ≤ 199) : SpL sp_Lunder [.ref u, nV g] H ((kids ps g).map nV) := fun _ e _ q _ => ⟨u, ps, g, rfl, e _ _ h, hl, fun p H2 hp e2 h2 => q p H2 hp e2 h2⟩
theorem sv_wrong (hu : H u = some (.lst (upsV ps))) (hl : H l = some (.lst xs)) (el : ∀ x ∈ xs, Elem K H x) (h1 : ps.length ≤ 199) (h2 : xs.length ≤ 200) : SpV (sp_Lwrong K) [.ref u, .ref l] H (badV ps xs) := fun _ e _ q _ => ⟨u, l, ps, xs, rfl, e _ _ hu, e _ _ hl, fun x hx => (el x hx).ex e, h1, h2, q⟩
theorem made_raw {m : V} {Q : VK} (h : EvL te σ H xs) (k : ∀ p l H1, H p = none → H l = none → Ex H H1 → H1 p = some (.lst [m, .ref l]) → H1 l = some (.lst xs) → Q (.ref p) H1) : tLst (tCons (tC m) (tCons te tNil)) σ H Q := h H (Ex.refl H) _ fun l H1 hl e1 h1 => ⟨sz_of (by show 2 ≤ 100000; omega), fun p hp => k p l _ (fresh_back e1 hp) hl (e1.trans (Ex.new hp)) upd_same (Ex.new hp _ _ h1)⟩
/-- all([x in list for x in the groups below]) -/
theorem all_kids (g : Nat) : (((kids ps g).map fun c => decide (c ∈ st))).all id = !loose ps st g := by
  unfold loose
  rw [List.all_map, List.not_any_eq_all_not]
  congr 1
  funext c
  show decide (c ∈ st) = !!decide (c ∈ st)
  rw [Bool.not_not]
theorem ok_Lunder (T : Txt K mg)  : FnG P w K mg base CX0 1 T.f_Lunder T.fd_Lunder ["_law_ups_here", "_law_spot"] sp_Lunder := by
  refine okG T.F_Lunder sc_Lunder (fun vs H Q E h => ?_) (fun cdv A outer s H vs Q E gd hr h => ?_)
  · obtain ⟨_, _, _, rfl, _⟩ := h
    all_goals rfl
  · obtain ⟨u, ps, g, rfl, hu, hl, q⟩ := h
    refine ⟨_, (pss_one (ps_ret (pe_lc (own := [("_law_near", 2), ("_law_up", 3)]) (g := gTup K 2 (gCons (gName 2) (gCons (gName 3) gNil))) rfl sc_Lunder.nd (pi_enum (by rfl) T.z_enumerate (pa_cons (pv 0) pa_nil)) (blkOk_by (N := N_Lunder) (sc := defScope s_Lunder) (by decide +kernel)) (fun _ _ _ _ _ => (pg_tup rfl (pgs_cons (pg_name (i := 2) sc_Lunder.nd rfl (Or.inl rfl) (Or.inr rfl)) (pgs_cons (pg_name (i := 3) sc_Lunder.nd rfl (Or.inl rfl) (Or.inr rfl)) pgs_nil)))) (fun _ _ _ _ _ => pts_one (pt_cmpR op_eq (pv 3) (pv 1) (nomark _))) (fun _ _ _ _ _ => (pv 2))))), ?_⟩
    refine s_retL (el_is (el_lcE (a := u) (xs := upsV ps) (fun c => decide ((upsV ps)[c]? = some (nV g))) nV (ea_cons (ev_var rfl) ea_nil) hu (by rw [upsV_len]; omega) (fun _ _ => rfl) (fun n x H2 e2 hx => ?_) (fun n x H2 e2 hx _ => ev_var rfl)) (by rw [upsV_len]; rfl)) fun r H2 hr e2 h2 => q r H2 hr e2 h2
    have hn : n ≤ ps.length := by
      have := (List.getElem?_eq_some_iff.mp hx).1
      rw [upsV_len] at this
      omega
    have sc : scal x (nV g) = true := by
      by_cases e : n = 0
      · subst e
        rw [show x = V.non from (Option.some.inj hx).symm]
        rfl
      · rw [ups_at (by omega) hn] at hx
        rw [← Option.some.inj hx]
        rfl
    refine et_is (et_test (ev_op (ev_var rfl) (ev_var rfl) (rv_eq sc))) ?_
    rw [hx]
    exact decide_eq_decide.mpr ⟨fun z => congrArg some z, fun z => Option.some.inj z⟩
theorem ok_Ldue (T : Txt K mg) (G_Lunder : FnG P w K mg base CX0 1 T.f_Lunder T.fd_Lunder ["_law_ups_here", "_law_spot"] sp_Lunder) : FnG P w K mg base CX0 2 T.f_Ldue T.fd_Ldue ["_law_ups_here", "_law_marks", "_law_spot"] sp_LdueH := by
  refine okG T.F_Ldue sc_Ldue (fun vs H Q E h => ?_) (fun cdv A outer s H vs Q E gd hr h => ?_)
  · obtain ⟨_, _, _, _, _, rfl, _⟩ := h
    all_goals rfl
  · obtain ⟨u, l, ps, st, g, rfl, hu, hl, hn, hg, qS, qN⟩ := h
    refine ⟨_, (pss_cons (ps_if (pt_cmpR op_eq (pv 2) pe_int (nomark _)) (pss_one (ps_ret (pe_lst (pa_cons pe_str (pa_cons pe_bl pa_nil))))) pss_nil) (pss_cons (ps_if (pt_cmpR op_in_seq (pv 2) (pv 1) (by rfl)) (pss_one (ps_ret (pe_lst (pa_cons pe_str (pa_cons (pe_callB call_repr_int (by rfl) T.z_repr boot_repr (pa_cons (pv 2) pa_nil)) (pa_cons pe_bl pa_nil)))))) pss_nil) (pss_cons (ps_if (pt_not (pt_val (pe_callB (cr_all rfl) (by rfl) T.z_all boot_all (pa_cons (pe_lc (own := [("_law_near", 3)]) (g := gName 3) rfl sc_Ldue.nd (pi_list (pc gd G_Lunder (hr.mono (by decide)) (by rfl) T.m_Lunder T.F_Lunder.kp T.b_Lunder .nil pass0 (pa_cons (pv 0) (pa_cons (pv 2) pa_nil)))) (blkOk_by (N := N_Ldue) (sc := defScope s_Ldue) (by decide +kernel)) (fun _ _ _ _ _ => (pg_name (i := 3) sc_Ldue.nd rfl (Or.inl rfl) (Or.inr rfl))) (fun _ _ _ _ _ => pts_nil) (fun _ _ _ _ _ => (pe_cmpR (show OpR _ (compareOp .In) (rIn K false) from op_in_seq) (pv 3) (pv 1) (by rfl)))) pa_nil)))) (pss_one (ps_ret (pe_lst (pa_cons pe_str (pa_cons (pe_callB call_repr_int (by rfl) T.z_repr boot_repr (pa_cons (pv 2) pa_nil)) (pa_cons pe_bl pa_nil)))))) pss_nil) (pss_one (ps_ret (pe_lst (pa_cons pe_str (pa_cons (pe_lc (own := [("_law_near", 3)]) (g := gName 3) rfl sc_Ldue.nd (pi_range1 (by rfl) T.z_range (pa_cons (pe_callB call_len_seq (by rfl) T.z_len PySem.boot_len (pa_cons (pv 0) pa_nil)) pa_nil)) (blkOk_by (N := N_Ldue) (sc := defScope s_Ldue) (by decide +kernel)) (fun _ _ _ _ _ => (pg_name (i := 3) sc_Ldue.nd rfl (Or.inl rfl) (Or.inr rfl))) (fun _ _ _ _ _ => pts_one ((pw_or (pt_cmpR (show OpR _ (compareOp .In) (rIn K false) from op_in_seq) (pv 3) (pv 1) (by rfl)) (pw_or1 (pt_cmpR op_eq (pv 3) (pv 2) (nomark _))))).pt) (fun _ _ _ _ _ => (pv 3))) pa_nil)))))))), ?_⟩
    refine q_when (b := decide (g = 0)) (et_test (ev_is (ev_op (ev_var rfl) ev_c (rv_eq rfl)) (congrArg V.bl (nV_eq g 0)))) (fun hb H2 e2 => ?_) fun hb H2 e2 => ?_
    · have h0 := of_decide_eq_true hb
      exact s_retL (el_lst (ea_cons ev_c (ea_cons ev_c ea_nil)) (by show 2 ≤ 100000; omega)) fun p H3 hp e3 h3 => (qS _ (by unfold dueL; rw [if_pos h0])).go e2 hp e3 h3
    have h0 := of_decide_eq_false hb
    refine q_when (b := decide (g ∈ st)) (et_test (ev_is (ev_op (ev_var rfl) (ev_var rfl) (rv_isL (sq_of (e2 _ _ hl)) rfl (flat_nat _))) (congrArg V.bl (inV_nat g st)))) (fun hb H3 e3 => ?_) fun hb H3 e3 => ?_
    · have h1 := of_decide_eq_true hb
      exact s_retL (el_lst (ea_cons ev_c (ea_cons (ev_reprI (by omega) (ev_var rfl)) (ea_cons ev_c ea_nil))) (by show 3 ≤ 100000; omega)) fun p H4 hp e4 h4 => (qS _ (by unfold dueL; rw [if_neg h0, if_pos h1])).go (e2.trans e3) hp e4 h4
    have h1 := of_decide_eq_false hb
    have x3 := e2.trans e3
    have kl := kids_len' ps g
    refine q_when (b := loose ps st g) (et_is (et_not (et_B (ev_is (ev_allB (bs := (kids ps g).map fun c => decide (c ∈ st)) (el_is (el_lcNL (xs := (kids ps g).map nV) (fun _ => true) (fun j => .bl (decide ((kids ps g).getD j 0 ∈ st))) (el_call (ea_cons (ev_var rfl) (ea_cons (ev_var rfl) ea_nil)) (sl_under (x3 _ _ hu) hn)) (by rw [List.length_map]; omega) (fun _ => rfl) (fun j x H7 e7 hx => et_yes) (fun j x H7 e7 hx _ => ?_)) (by rw [given_map (f := fun x => V.bl (decide (x ∈ st))), List.map_map]; rfl))) (congrArg V.bl (all_kids g))))) (Bool.not_not _)) (fun hb H4 e4 => ?_) fun hb H4 e4 => ?_
    · obtain ⟨hi, rfl⟩ := nat_item hx
      exact ev_is (ev_op (ev_var rfl) (ev_var rfl) (rv_isL (sq_of ((x3.trans e7) _ _ hl)) rfl (flat_nat _))) (congrArg V.bl (inV_nat _ _))
    · exact s_retL (el_lst (ea_cons ev_c (ea_cons (ev_reprI (by omega) (ev_var rfl)) (ea_cons ev_c ea_nil))) (by show 3 ≤ 100000; omega)) fun p H5 hp e5 h5 => (qS _ (by unfold dueL; rw [if_neg h0, if_neg h1, if_pos hb])).go (x3.trans e4) hp e5 h5
    have x4 := x3.trans e4
    have hnone : dueL ps st g = none := by
      unfold dueL
      rw [if_neg h0, if_neg h1, hb]
      rfl
    refine s_retR (made_raw (el_is (el_lcR1 (n := ((ps.length + 1 : Nat) : Int)) (fun c => decide (c ∈ st) || decide (c = g)) nV (ea_cons (ea_len (ev_var rfl) (sq_of (x4 _ _ hu))) ea_nil) (by omega) (fun _ => rfl) (fun c H5 e5 hc => ?_) (fun c H5 e5 hc _ => ev_var rfl)) (show _ = (adds ps st g).map nV by rw [Int.toNat_natCast]; rfl)) fun p m H5 hp hm e5 h5 h6 => qN hnone _ p m (fresh_back x4 hp) (fresh_back x4 hm) (x4.trans e5) h5 h6)
    exact et_is (et_or (a := decide (c ∈ st)) (b := decide (c = g)) (et_test (ev_is (ev_op (ev_var rfl) (ev_var rfl) (rv_isL (sq_of ((x4.trans e5) _ _ hl)) rfl (flat_nat _))) (congrArg V.bl (inV_nat _ _)))) fun _ => et_test (ev_is (ev_op (ev_var rfl) (ev_var rfl) (rv_eq rfl)) (congrArg V.bl (nV_eq c g)))) rfl
theorem ok_Lwrong (T : Txt K mg) (G_Lunder : FnG P w K mg base CX0 1 T.f_Lunder T.fd_Lunder ["_law_ups_here", "_law_spot"] sp_Lunder) : FnG P w K mg base CX0 2 T.f_Lwrong T.fd_Lwrong ["_law_ups_here", "_law_some"] (sp_Lwrong K) := by
  refine okG T.F_Lwrong sc_Lwrong (fun vs H Q E h => ?_) (fun cdv A outer s H vs Q E gd hr h => ?_)
  · obtain ⟨_, _, _, _, rfl, _⟩ := h
    all_goals rfl
  · obtain ⟨u, l, ps, xs, rfl, hu, hl, el, hn, h200, q⟩ := h
    refine ⟨_, (pss_cons (ps_for PassesOwn.never rfl (pi_enum (by rfl) T.z_enumerate (pa_cons (pv 1) pa_nil)) (pg_tup rfl (pgs_cons (pg_name (i := 2) sc_Lwrong.nd rfl (Or.inl rfl) (Or.inr rfl)) (pgs_cons (pg_name (i := 3) sc_Lwrong.nd rfl (Or.inl rfl) (Or.inr rfl)) pgs_nil))) (pss_one (ps_if ((pw_or (pt_not (pt_val (pe_callB call_isi (by rfl) T.z_isinstance boot_isinstance (pa_cons (pv 3) (pa_cons (pe_bltn (v := .ty "int") (u := .type "int") (by rfl) T.z_int (by decide +kernel) rfl) pa_nil))))) (pw_or (pt_val (pe_callB call_isi (by rfl) T.z_isinstance boot_isinstance (pa_cons (pv 3) (pa_cons (pe_bltn (v := .ty "bool") (u := .type "bool") (by rfl) T.z_bool (by decide +kernel) rfl) pa_nil)))) (pw_or (pt_not (pt_chain op_lt op_lt pe_int (pv 3) (pe_callB call_len_seq (by rfl) T.z_len PySem.boot_len (pa_cons (pv 0) pa_nil)))) (pw_or1 (pt_cmpR op_in_seq (pv 3) (pe_slice sl_list (pv 1) po_none (po_some (pv 2))) (by rfl))))))).pt (pss_one (ps_ret (pv 2))) pss_nil))) (pss_cons (ps_for PassesOwn.never rfl (pi_enum (by rfl) T.z_enumerate (pa_cons (pv 1) pa_nil)) (pg_tup rfl (pgs_cons (pg_name (i := 2) sc_Lwrong.nd rfl (Or.inl rfl) (Or.inr rfl)) (pgs_cons (pg_name (i := 3) sc_Lwrong.nd rfl (Or.inl rfl) (Or.inr rfl)) pgs_nil))) (pss_one (ps_if (pt_not (pt_val (pe_callB (cr_all rfl) (by rfl) T.z_all boot_all (pa_cons (pe_lc (own := [("_law_near", 4)]) (g := gName 4) rfl sc_Lwrong.nd (pi_list (pc gd G_Lunder (hr.mono (by decide)) (by rfl) T.m_Lunder T.F_Lunder.kp T.b_Lunder .nil pass0 (pa_cons (pv 0) (pa_cons (pv 3) pa_nil)))) (blkOk_by (N := N_Lwrong) (sc := defScope s_Lwrong) (by decide +kernel)) (fun _ _ _ _ _ => (pg_name (i := 4) sc_Lwrong.nd rfl (Or.inl rfl) (Or.inr rfl))) (fun _ _ _ _ _ => pts_nil) (fun _ _ _ _ _ => (pe_cmpR (show OpR _ (compareOp .In) (rIn K false) from op_in_seq) (pv 4) (pv 1) (by rfl)))) pa_nil)))) (pss_one (ps_ret (pv 2))) pss_nil))) (pss_one (ps_ret (pe_un un_neg pe_int))))), ?_⟩
    refine q_forEn (a := l) (xs := xs) (ea_cons (ev_var rfl) ea_nil) hl (fun n σ' H' => Ex H H' ∧ (∀ j, j < n → okAt ps.length xs j = true) ∧ ∃ y2 y3, σ' = [some (.ref u), some (.ref l), y2, y3, none]) (fun H1 e1 => ⟨e1, (fun j hj => absurd hj (Nat.not_lt_zero j)), _, _, rfl⟩) (fun n σ' H' z => z.1 _ _ hl) (fun n x σ' H' H2 hx z e2 => ?_) (fun σ' H' z => ?_)
    · obtain ⟨e', okb, y2, y3, rfl⟩ := z
      have hn1 : n < xs.length := (List.getElem?_eq_some_iff.mp hx).1
      have x2 := e'.trans e2
      have elx := (el x (List.mem_of_getElem? hx)).ex x2
      have told : ∀ H3, Ex H2 H3 → okAt ps.length xs n = false → Q (nV n) H3 := fun H3 e3 hok => by
        have := q H3 (x2.trans e3)
        unfold badV at this
        rw [bad_1 hn1 hok okb] at this
        exact this
      refine s_when (b := !okAt ps.length xs n) ?_ (fun hb H3 e3 => s_ret (ev_var (i := 2) rfl) fun H4 e4 => told H4 (e3.trans e4) (by cases q : okAt ps.length xs n with
          | false => rfl
          | true => rw [q] at hb; cases hb)) fun hb H3 e3 => ⟨x2.trans e3, (fun j hj => by
            by_cases q : j = n
            · rw [q]
              cases z : okAt ps.length xs n with
              | true => rfl
              | false => rw [z] at hb; cases hb
            · exact okb j (by omega)), _, _, rfl⟩
      rcases elx with ⟨z, rfl⟩ | ⟨nx, tt, b, ty, k1, k2⟩
      · have hok : okAt ps.length xs n = (decide (1 ≤ z) && decide (z ≤ (ps.length : Int)) && !decide (V.int z ∈ xs.take n)) := by
          unfold okAt
          rw [hx]
        have c1 : decide (0 < z) = decide (1 ≤ z) := decide_eq_decide.mpr (by omega)
        have c2 : decide (z < ((ps.length + 1 : Nat) : Int)) = decide (z ≤ (ps.length : Int)) := decide_eq_decide.mpr (by omega)
        refine et_is (et_or (a := false) (et_is (et_not (et_B (b := true) (ev_cb (ea_cons (ev_var rfl) (ea_cons ev_c ea_nil)) (rc_isi (.ty "int") (fun _ => .base (.int z)) (kit_ty (by decide +kernel)))))) rfl) fun _ => et_or (a := false) (et_B (ev_cb (ea_cons (ev_var rfl) (ea_cons ev_c ea_nil)) (rc_isi (.ty "bool") (fun _ => .base (.int z)) (kit_ty (by decide +kernel))))) fun _ => et_or (et_not (et_test (ev_chain ev_c (ev_var rfl) rv_I0 (fun _ => ea_len (ev_var rfl) (sq_of (x2 _ _ hu))) (fun _ => rv_I0)))) fun _ => et_test (ev_inL (ev_var rfl) (el_is (el_sl (ev_var rfl) eo_none (eo_some (ev_var rfl)) (sq_of (x2 _ _ hl))) (cut_take (by omega))) rfl (flat_int (take_isI okb)))) ?_
        rw [hok, inV_mem z _ (take_isI okb), c1, c2]
        cases decide (1 ≤ z) <;> cases decide (z ≤ (ps.length : Int)) <;> cases decide (V.int z ∈ xs.take n) <;> rfl
      · have hok : okAt ps.length xs n = false := by
          unfold okAt
          rw [hx]
          cases x <;> first | rfl | cases nx
        have rcX : ∀ {u : String} {b : Bool} {H0 : Hp}, Ex H2 H0 → PySem.W.kitOne K tt (.type u) = some b → RC (rIsi K) [x, .ty u] H0 (.bl b) := fun {u b H0} e0 k H1 e Q q => ⟨x, _, tt, _, b, rfl, .ty u, ty H1 (e0.trans e), k, q H1 (Ex.refl H1)⟩
        rw [hok]
        cases b with
        | false => exact et_is (et_or (a := true) (b := true) (et_is (et_not (et_B (b := false) (ev_cb (ea_cons (ev_var rfl) (ea_cons ev_c ea_nil)) (rcX (Ex.refl H2) k1)))) rfl) fun z => nomatch z) rfl
        | true => exact et_is (et_or (a := false) (b := true) (et_is (et_not (et_B (b := true) (ev_cb (ea_cons (ev_var rfl) (ea_cons ev_c ea_nil)) (rcX (Ex.refl H2) k1)))) rfl) fun _ => et_is (et_or (a := true) (b := true) (et_B (ev_cb (ea_cons (ev_var rfl) (ea_cons ev_c ea_nil)) (rcX (Ex.refl H2) (k2 rfl)))) fun z => nomatch z) rfl) rfl
    · obtain ⟨e', okb, y2, y3, rfl⟩ := z
      obtain ⟨exs, gnd, gbd⟩ := all_ok okb
      have hbad := bad_2 okb
      have lg : (gsOf xs).length = xs.length := List.length_map ..
      refine q_forEn (a := l) (xs := xs) (ea_cons (ev_var rfl) ea_nil) (e' _ _ hl) (fun n σ' H' => Ex H H' ∧ (∀ j, j < n → loose ps (gsOf xs) ((gsOf xs).getD j 0) = false) ∧ ∃ y2 y3, σ' = [some (.ref u), some (.ref l), y2, y3, none]) (fun H1 e1 => ⟨e'.trans e1, (fun j hj => absurd hj (Nat.not_lt_zero j)), _, _, rfl⟩) (fun n σ' H' z => z.1 _ _ hl) (fun n x σ' H2 H3 hx z e3 => ?_) (fun σ' H2 z => ?_)
      · obtain ⟨e2, nl, y2, y3, rfl⟩ := z
        have hn1 : n < xs.length := (List.getElem?_eq_some_iff.mp hx).1
        have x3 := e2.trans e3
        rw [exs, at_nat (by rw [lg]; exact hn1)] at hx
        cases hx
        have kl := kids_len' ps ((gsOf xs).getD n 0)
        have hl3 : H3 l = some (.lst ((gsOf xs).map nV)) := by
          rw [← exs]
          exact x3 _ _ hl
        refine s_when (b := loose ps (gsOf xs) ((gsOf xs).getD n 0)) (et_is (et_not (et_B (ev_is (ev_allB (bs := (kids ps ((gsOf xs).getD n 0)).map fun c => decide (c ∈ gsOf xs)) (el_is (el_lcNL (xs := (kids ps ((gsOf xs).getD n 0)).map nV) (fun _ => true) (fun j => .bl (decide ((kids ps ((gsOf xs).getD n 0)).getD j 0 ∈ gsOf xs))) (el_call (ea_cons (ev_var rfl) (ea_cons (ev_var rfl) ea_nil)) (sl_under (x3 _ _ hu) hn)) (by rw [List.length_map]; omega) (fun _ => rfl) (fun j x H7 e7 hx => et_yes) (fun j x H7 e7 hx _ => ?_)) (by rw [given_map (f := fun x => V.bl (decide (x ∈ gsOf xs))), List.map_map]; rfl))) (congrArg V.bl (all_kids _))))) (Bool.not_not _)) (fun hb H4 e4 => ?_) fun hb H4 e4 => ⟨x3.trans e4, (fun j hj => by
            by_cases q : j = n
            · rw [q]
              exact hb
            · exact nl j (by omega)), _, _, rfl⟩
        · obtain ⟨hi, rfl⟩ := nat_item hx
          exact ev_is (ev_op (ev_var rfl) (ev_var rfl) (rv_isL (sq_of (e7 _ _ hl3)) rfl (flat_nat _))) (congrArg V.bl (inV_nat _ _))
        · refine s_ret (ev_var (i := 2) rfl) fun H5 e5 => ?_
          have := q H5 (x3.trans (e4.trans e5))
          unfold badV at this
          rw [hbad, bad_is (by rw [lg]; exact hn1) hb nl] at this
          exact this
      · obtain ⟨e2, nl, _, _, rfl⟩ := z
        refine s_ret (ev_un ev_c ru_neg) fun H5 e5 => ?_
        have := q H5 (e2.trans e5)
        unfold badV at this
        rw [hbad, bad_no (fun j hj => nl j (by rw [lg] at hj; exact hj))] at this
        exact this
end
end My
namespace My
open PySem PySem.Spec PyProof.Rows L2 GL Evl StX SkE
/-- all but the tables of code objects -/
def noT (H : Hp) : Hp := fun b => match H b with
  | some (.tbl _) => none
  | o => o
theorem noT_at {H : Hp} {b : Addr} {o : HO} (h : H b = some o) (n : ∀ ps, o ≠ .tbl ps) : noT H b = some o := by
  unfold noT
  rw [h]
  cases o <;> first | rfl | exact absurd rfl (n _)
theorem noT_is {H : Hp} {b : Addr} {o : HO} (h : noT H b = some o) : H b = some o ∧ ∀ ps, o ≠ .tbl ps := by
  unfold noT at h
  split at h
  · cases h
  · rename_i q
    exact ⟨h, fun ps z => q ps (by rw [h, z])⟩
theorem noT_ext {H H' : Hp} (e : LamX.ExtN H H') : Ex (noT H) (noT H') := fun b o h => by
  obtain ⟨h1, h2⟩ := noT_is h
  exact noT_at (e b o h1 h2) h2
theorem noT_mono {H H' : Hp} (e : Ex H H') : Ex (noT H) (noT H') := noT_ext fun b o h _ => e b o h
theorem noT_sub {H : Hp} : Ex (noT H) H := fun b o h => (noT_is h).1
theorem noT_to {H H' : Hp} (e : LamX.ExtN H H') : Ex (noT H) H' := fun b o h => by
  obtain ⟨h1, h2⟩ := noT_is h
  exact e b o h1 h2
def sp_Lspoilt (K : PySem.W.Frag) : Sp := fun vs H Q _ => ∃ a u l, ∃ ps st : List Nat, vs = [.ref a, .ref u, .ref l] ∧ PotAt H a ∧ H u = some (.lst (upsV ps)) ∧ u ≠ a ∧ H l = some (.lst (st.map nV)) ∧ l ≠ a ∧ ps.length ≤ 100 ∧ st.length ≤ 60 ∧
  ∀ H' p xs, H p = none → ExB a H H' → PotAt H' a → H' p = some (.lst xs) → (∀ x ∈ xs, Elem K (noT H') x) → xs.length ≤ 61 → Q (.ref p) H'
section
variable {P : Program} {w : World} {K : PySem.W.Frag} {mg : Str → Option Value} {base : Heap} {C : Addr} {H H' : Hp} {σ : L2.St} {te ta tb tl tx tB tC' : TE} {tA : TA} {tz : TS} {D : Ends} {xs ys vs : List V} {x : V} {a r l u t : Addr} {ps ls st : List Nat}
theorem pot_ne {p : Addr} (h : PotAt H a) (hp : H p = none) : p ≠ a := by
  obtain ⟨x, y, hx, _⟩ := h
  exact (ne_of_none hx hp).symm
/-- A + [x] + B, x drawn on the way -/
theorem mid_raw {Q : VK} (pa : PotAt H a) (hA : EvL tA' σ H xs) (hl : xs.length ≤ 1000) (hy : ys.length ≤ 1000) (hx : ∀ H1, Ex H H1 → ∀ Qx : VK, (∀ v H2, ExB a H1 H2 → PotAt H2 a → Elem K (noT H2) v → Qx v H2) → tx σ H1 Qx) (hB : ∀ H3, ExB a H H3 → EvL tB σ H3 ys)
    (k : ∀ v H4 r, H r = none → ExB a H H4 → PotAt H4 a → Elem K (noT H4) v → H4 r = some (.lst (xs ++ [v] ++ ys)) → Q (.ref r) H4) : tOp rCat (tOp rCat tA' (tLst (tCons tx tNil))) tB σ H Q :=
  hA H (Ex.refl H) _ fun p H1 hp e1 h1 => hx H1 e1 _ fun v H2 x2 p2 g2 => ⟨sz_of (by show 1 ≤ 100000; omega), fun q hq => by
    have npa := pot_ne pa hp
    have h2 : H2 p = some (.lst xs) := x2 _ _ npa h1
    refine ⟨p, q, xs, [v], rfl, rfl, Ex.new hq _ _ h2, upd_same, sz_of (by show xs.length + 1 ≤ 100000; omega), fun s hs => ?_⟩
    have e3 : Ex H2 (upd (upd H2 q (.lst [v])) s (.lst (xs ++ [v]))) := (Ex.new hq).trans (Ex.new hs)
    generalize hH3 : upd (upd H2 q (.lst [v])) s (.lst (xs ++ [v])) = H3 at e3
    have h3 : H3 s = some (.lst (xs ++ [v])) := by
      rw [← hH3]
      exact upd_same
    have x3 : ExB a H H3 := ((ExB.of e1).trans x2).trans (ExB.of e3)
    refine hB H3 x3 H3 (Ex.refl H3) _ fun b H4 hb e4 h4 => ⟨s, b, xs ++ [v], ys, rfl, rfl, e4 _ _ h3, h4, sz_of (by rw [List.length_append, List.length_singleton]; omega), fun z hz => ?_⟩
    have e5 : Ex H3 (upd H4 z (.lst (xs ++ [v] ++ ys))) := e4.trans (Ex.new hz)
    have x5 := x3.trans (ExB.of e5)
    obtain ⟨c, d, ha3, _⟩ := p2.ex (e3.trans e4)
    exact k v _ z (x3.trans (ExB.of e4) |>.free ha3 hz) x5 (p2.ex (e3.trans e5)) (g2.ex (noT_mono (e3.trans e5))) upd_same⟩
theorem pair_two {i j : Nat} (h : te σ H fun x H1 => tb σ H1 fun y H2 => [x, y].length ≤ sizeLine ∧ ∀ p, H2 p = none → gTup K 2 (gCons (gName i) (gCons (gName j) gNil)) (.ref p) σ (upd H2 p (.tup [x, y])) (tz D)) : tSeq (tAsg (tTup (tCons te (tCons tb tNil))) (gTup K 2 (gCons (gName i) (gCons (gName j) gNil)))) tz D σ H := h
theorem got_two {i j : Nat} {x y : V} (k : ∀ H3, Ex H H3 → tz D ((σ.set i (some x)).set j (some y)) H3) : [x, y].length ≤ sizeLine ∧ ∀ p, H p = none → gTup K 2 (gCons (gName i) (gCons (gName j) gNil)) (.ref p) σ (upd H p (.tup [x, y])) (tz D) :=
  ⟨sz_of (by show 2 ≤ 100000; omega), fun p hp => ⟨p, _, rfl, st_of upd_same, rfl, _, _, rfl, _, _, rfl, rfl, k _ (Ex.new hp)⟩⟩
theorem lst_raw {Q : VK} (h : tA σ H fun vs H1 => vs.length ≤ sizeLine ∧ ∀ p, H1 p = none → Q (.ref p) (upd H1 p (.lst vs))) : tLst tA σ H Q := h
theorem cons_ev {Q : List V → Hp → Prop} (h : Ev te σ H x) (k : ∀ H1, Ex H H1 → tA σ H1 fun xs H2 => Q (x :: xs) H2) : tCons te tA σ H Q := h H (Ex.refl H) _ k
theorem cons_el {Q : List V → Hp → Prop} (h : EvL te σ H xs) (k : ∀ p H1, H p = none → Ex H H1 → H1 p = some (.lst xs) → tA σ H1 fun ys H2 => Q (.ref p :: ys) H2) : tCons te tA σ H Q := h H (Ex.refl H) _ k
theorem cons_raw {Q : List V → Hp → Prop} (h : te σ H fun x H1 => tA σ H1 fun xs H2 => Q (x :: xs) H2) : tCons te tA σ H Q := h
theorem nil_raw {Q : List V → Hp → Prop} (h : Q [] H) : tNil σ H Q := h
theorem call_raw0 {sp : Sp} {E : XK} {Q : VK} (h : tA σ H fun vs H1 => sp (vs ++ []) H1 Q E) : tCall sp [] E tA σ H Q := h
theorem if_any {tt : TT} {b : Bool} {Q : VK} (h : EvT tt σ H b) (h1 : b = true → ∀ H1, Ex H H1 → ta σ H1 Q) (h2 : b = false → ∀ H1, Ex H H1 → tb σ H1 Q) : tIf tt ta tb σ H Q := by
  cases b with
  | true => exact if_raw h (h1 rfl)
  | false => exact if_rawF h (h2 rfl)
theorem elem_nat {n : Nat} : Elem K H (nV n) := .inl ⟨_, rfl⟩
theorem elem_map {l : List Nat} : ∀ x ∈ l.map nV, Elem K H x := fun x hx => by
  obtain ⟨n, _, rfl⟩ := List.mem_map.mp hx
  exact elem_nat
theorem odd_of {t : String} {b : Bool} (h : isI x = false) (ty : ∀ H1, Ex H H1 → TyX K H1 x (.type t)) (k1 : kitB t "int" = some b) (k2 : b = true → kitB t "bool" = some true) : Elem K H x := .inr ⟨h, _, b, ty, kit_ty k1, fun e => kit_ty (k2 e)⟩
theorem ok_Lspoilt (T : Txt K mg) (G_Ldraw : FnG P w K mg base CX0 1 T.f_Ldraw T.fd_Ldraw ["_law_pot_here", "_law_sides"] sp_Ldraw) (G_Lpick : FnG P w K mg base CX0 2 T.f_Lpick T.fd_Lpick ["_law_pot_here", "_law_some"] sp_Lpick) : FnG P w K mg base CX0 3 T.f_Lspoilt T.fd_Lspoilt ["_law_pot_here", "_law_ups_here", "_law_marks"] (sp_Lspoilt K) := by
  refine okG T.F_Lspoilt sc_Lspoilt (fun vs H Q E h => ?_) (fun cdv A outer s H vs Q E gd hr h => ?_)
  · obtain ⟨_, _, _, _, _, rfl, _⟩ := h
    all_goals rfl
  · obtain ⟨a, u, l, ps, st, rfl, pa, hu, nua, hl, nla, hn, h60, q⟩ := h
    refine ⟨_, (pss_cons (ps_asg (pe_tup (pa_cons (pe_callTy call_list_of (by rfl) T.z_list (by decide +kernel) (pa_cons (pv 2) pa_nil)) (pa_cons (pc gd G_Ldraw (hr.mono (by decide)) (by rfl) T.m_Ldraw T.F_Ldraw.kp T.b_Ldraw .nil pass0 (pa_cons (pv 0) (pa_cons pe_int pa_nil))) pa_nil))) (pg_tup rfl (pgs_cons (pg_name (i := 3) sc_Lspoilt.nd rfl (Or.inr rfl) (Or.inl rfl)) (pgs_cons (pg_name (i := 4) sc_Lspoilt.nd rfl (Or.inl rfl) (Or.inr rfl)) pgs_nil)))) (pss_cons (ps_set (i := 5) sc_Lspoilt.nd rfl (Or.inl rfl) (pc gd G_Ldraw (hr.mono (by decide)) (by rfl) T.m_Ldraw T.F_Ldraw.kp T.b_Ldraw .nil pass0 (pa_cons (pv 0) (pa_cons (pe_op op_add (pe_callB call_len_seq (by rfl) T.z_len PySem.boot_len (pa_cons (pv 3) pa_nil)) pe_int) pa_nil)))) (pss_cons (ps_if (pt_cmpR op_eq (pv 4) pe_int (nomark _)) (pss_one (ps_ret (pe_op op_cat (pe_slice sl_list (pv 3) po_none (po_some (pv 5))) (pe_slice sl_list (pv 3) (po_some (pe_op op_add (pv 5) pe_int)) po_none)))) pss_nil) (pss_cons (ps_if (pt_cmpR op_eq (pv 4) pe_int (nomark _)) (pss_one (ps_ret (pe_op op_cat (pe_op op_cat (pe_slice sl_list (pv 3) po_none (po_some (pv 5))) (pe_lst (pa_cons (pc gd G_Lpick (hr.mono (by decide)) (by rfl) T.m_Lpick T.F_Lpick.kp T.b_Lpick .nil pass0 (pa_cons (pv 0) (pa_cons (pe_lst (pa_cons pe_int (pa_cons (pe_un un_neg pe_int) (pa_cons (pe_callB call_len_seq (by rfl) T.z_len PySem.boot_len (pa_cons (pv 1) pa_nil)) (pa_cons pe_bl (pa_cons pe_non (pa_cons pe_str (pa_cons (pe_lst (pa_cons pe_int pa_nil)) (pa_cons (pe_op op_pow pe_int pe_int) pa_nil))))))))) pa_nil))) pa_nil))) (pe_slice sl_list (pv 3) (po_some (pv 5)) po_none)))) pss_nil) (pss_cons (ps_if ((pw_and (pt_cmpR op_eq (pv 4) pe_int (nomark _)) (pw_and1 (pt_cmpR (op_neD (roomU hr)) (pv 3) (pe_lst pa_nil) (nomark _))))).pt (pss_one (ps_ret (pe_op op_cat (pe_op op_cat (pe_slice sl_list (pv 3) po_none (po_some (pv 5))) (pe_lst (pa_cons (pc gd G_Lpick (hr.mono (by decide)) (by rfl) T.m_Lpick T.F_Lpick.kp T.b_Lpick .nil pass0 (pa_cons (pv 0) (pa_cons (pv 3) pa_nil))) pa_nil))) (pe_slice sl_list (pv 3) (po_some (pv 5)) po_none)))) pss_nil) (pss_cons (ps_if (pt_cmpR op_eq (pv 4) pe_int (nomark _)) (pss_one (ps_ret (pe_op op_cat (pe_op op_cat (pe_slice sl_list (pv 3) po_none (po_some (pv 5))) (pe_lst (pa_cons (pc gd G_Ldraw (hr.mono (by decide)) (by rfl) T.m_Ldraw T.F_Ldraw.kp T.b_Ldraw .nil pass0 (pa_cons (pv 0) (pa_cons (pe_callB call_len_seq (by rfl) T.z_len PySem.boot_len (pa_cons (pv 1) pa_nil)) pa_nil))) pa_nil))) (pe_slice sl_list (pv 3) (po_some (pv 5)) po_none)))) pss_nil) (pss_one (ps_ret (pe_ifExp (pt_cmpR op_eq (pv 4) pe_int (nomark _)) (pe_lc (own := [("_law_turn", 6)]) (g := gName 6) rfl sc_Lspoilt.nd (pi_range1 (by rfl) T.z_range (pa_cons (pe_callB call_len_seq (by rfl) T.z_len PySem.boot_len (pa_cons (pv 3) pa_nil)) pa_nil)) (blkOk_by (N := N_Lspoilt) (sc := defScope s_Lspoilt) (by decide +kernel)) (fun _ _ _ _ _ => (pg_name (i := 6) sc_Lspoilt.nd rfl (Or.inl rfl) (Or.inr rfl))) (fun _ _ _ _ _ => pts_nil) (fun _ _ _ _ _ => (pc gd G_Lpick (hr.mono (by decide)) (by rfl) T.m_Lpick T.F_Lpick.kp T.b_Lpick .nil pass0 (pa_cons (pv 0) (pa_cons (pv 3) pa_nil))))) (pe_revL (pv 3))))))))))), ?_⟩
    refine pair_two ((el_list (ev_var rfl) (sq_of hl)) H (Ex.refl H) _ fun s H1 hs e1 hs1 => dr (n := 6) (ea_cons (ev_var rfl) (ea_cons ev_c ea_nil)) (pa.ex e1) (by omega) (by omega) fun H2 o x2 p2 ho => got_two fun H3 e3 => ?_)
    have nsa := pot_ne pa hs
    have y3 : ExB a H1 H3 := x2.trans (ExB.of e3)
    have x3 : ExB a H H3 := (ExB.of e1).trans y3
    have hs3 : H3 s = some (.lst (st.map nV)) := y3 _ _ nsa hs1
    have p3 := p2.ex e3
    refine q_asgR (dr (n := st.length + 1) (ea_cons (ev_var rfl) (ea_cons (ev_is (ev_op (ev_len (ev_var rfl) (sq_of hs3)) ev_c rv_I0) (by rw [List.length_map]; exact congrArg V.int (by omega))) ea_nil)) p3 (by omega) (by omega) fun H4 at_ x4 p4 hat => ?_)
    have xx4 : ExB a H H4 := x3.trans x4
    have hs4 : H4 s = some (.lst (st.map nV)) := x4 _ _ nsa hs3
    have hu4 : H4 u = some (.lst (upsV ps)) := xx4 _ _ nua hu
    have lm : (st.map nV).length = st.length := List.length_map ..
    have ht : ((st.map nV).take at_).length = at_ := by rw [List.length_take, lm]; omega
    have hd : ((st.map nV).drop at_).length = st.length - at_ := by rw [List.length_drop, lm]
    show tSeq _ _ _ [some (.ref a), some (.ref u), some (.ref l), some (.ref s), some (nV o), some (nV at_), none] H4
    refine q_when (b := decide (o = 0)) (et_test (ev_is (ev_op (ev_var rfl) ev_c (rv_eq rfl)) (congrArg V.bl (nV_eq o 0)))) (fun hb H5 e5 => ?_) fun hb H5 e5 => ?_
    · refine s_retL (el_cat (el_is (el_sl (ev_var rfl) eo_none (eo_some (ev_var rfl)) (sq_of (e5 _ _ hs4))) (cut_take (by omega))) (fun H6 e6 => el_is (el_sl (ev_var rfl) (eo_some (ev_is (ev_op (ev_var rfl) ev_c rv_I0) (congrArg V.int (show (at_ : Int) + 1 = ((at_ + 1 : Nat) : Int) by omega)))) eo_none (sq_of ((e5.trans e6) _ _ hs4))) cut_drop) (by rw [ht, List.length_drop, lm]; omega)) fun p H6 hp e6 h6 => ?_
      have x6 := xx4.trans (ExB.of (e5.trans e6))
      obtain ⟨c, d, ha5, _⟩ := p4.ex e5
      refine q H6 p _ ((xx4.trans (ExB.of e5)).free ha5 hp) x6 (p4.ex (e5.trans e6)) h6 (fun x hx => ?_) (by rw [List.length_append, ht, List.length_drop, lm]; omega)
      rcases List.mem_append.mp hx with z | z
      · exact elem_map x (List.mem_of_mem_take z)
      · exact elem_map x (List.mem_of_mem_drop z)
    have mid : ∀ {Hm : Hp} {tx : TE} (em : Ex H4 Hm), (∀ H1, Ex Hm H1 → ∀ Qx : VK, (∀ v H2, ExB a H1 H2 → PotAt H2 a → Elem K (noT H2) v → Qx v H2) → tx [some (.ref a), some (.ref u), some (.ref l), some (.ref s), some (nV o), some (nV at_), none] H1 Qx) →
        tOp rCat (tOp rCat (tSl (rSlL K) (tVar 3) tNoPart (tPart (tVar 5))) (tLst (tCons tx tNil))) (tSl (rSlL K) (tVar 3) (tPart (tVar 5)) tNoPart) [some (.ref a), some (.ref u), some (.ref l), some (.ref s), some (nV o), some (nV at_), none] Hm Q := fun {Hm tx} em hx => by
      refine mid_raw (K := K) (xs := (st.map nV).take at_) (ys := (st.map nV).drop at_) (p4.ex em) (el_is (el_sl (ev_var rfl) eo_none (eo_some (ev_var rfl)) (sq_of (em _ _ hs4))) (cut_take (by omega))) (by omega) (by omega) hx (fun H6 x6 => el_is (el_sl (ev_var rfl) (eo_some (ev_var rfl)) eo_none (sq_of (x6 _ _ nsa (em _ _ hs4)))) cut_drop) fun v H7 r hr x7 p7 g7 h7 => ?_
      obtain ⟨c, d, ham, _⟩ := p4.ex em
      refine q H7 r _ ((xx4.trans (ExB.of em)).free ham hr) ((xx4.trans (ExB.of em)).trans x7) p7 h7 (fun x hx => ?_) (by rw [List.length_append, List.length_append, ht, hd]; show at_ + 1 + (st.length - at_) ≤ 61; omega)
      rcases List.mem_append.mp hx with z | z
      · rcases List.mem_append.mp z with z | z
        · exact elem_map x (List.mem_of_mem_take z)
        · rw [List.mem_singleton.mp z]
          exact g7
      · exact elem_map x (List.mem_of_mem_drop z)
    refine q_when (b := decide (o = 1)) (et_test (ev_is (ev_op (ev_var rfl) ev_c (rv_eq rfl)) (congrArg V.bl (nV_eq o 1)))) (fun hb H6 e6 => ?_) fun hb H6 e6 => ?_
    · refine s_retR (mid (e5.trans e6) fun H7 e7 Qx kx => call_raw0 (cons_ev (ev_var rfl) fun H8 e8 => ?_))
      have x8 : ExB a H4 H8 := ExB.of ((e5.trans e6).trans (e7.trans e8))
      have p8 := p4.ex ((e5.trans e6).trans (e7.trans e8))
      refine cons_raw (lst_raw (cons_ev ev_c fun G1 g1 => cons_ev (ev_un ev_c ru_neg) fun G2 g2 => cons_ev (ea_len (ev_var rfl) (sq_of (g2 _ _ (g1 _ _ (x8 _ _ nua hu4))))) fun G3 g3 => cons_ev ev_c fun G4 g4 => cons_ev ev_c fun G5 g5 => cons_ev ev_c fun G6 g6 => cons_el (el_lst (ea_cons ev_c ea_nil) (by show 1 ≤ 100000; omega)) fun y G7 hy g7 hy7 => cons_ev (ev_op ev_c ev_c (rv_I ⟨by decide, by decide, by decide⟩)) fun G8 g8 => nil_raw ⟨sz_of (by show 8 ≤ 100000; omega), fun p hp => nil_raw ?_⟩))
      have g07 : Ex H8 G6 := g1.trans (g2.trans (g3.trans (g4.trans (g5.trans g6))))
      have g08 : Ex H8 G8 := g07.trans (g7.trans g8)
      have nya := pot_ne (p8.ex g07) hy
      have npa := pot_ne (p8.ex g08) hp
      refine ⟨a, p, _, rfl, p8.ex (g08.trans (Ex.new hp)), npa, upd_same, by show 1 ≤ 8; omega, by show 8 ≤ 1000; omega, fun H' v x' p' hv => kx v H' ((ExB.of (e8.trans (g08.trans (Ex.new hp)))).trans x') p' ?_⟩
      have hyy : H' y = some (.lst [.int 1]) := x' _ _ nya ((g8.trans (Ex.new hp)) _ _ hy7)
      simp only [List.mem_cons, List.not_mem_nil, or_false] at hv
      rcases hv with rfl | rfl | rfl | rfl | rfl | rfl | rfl | rfl
      · exact .inl ⟨_, rfl⟩
      · exact .inl ⟨_, rfl⟩
      · exact .inl ⟨_, rfl⟩
      · exact odd_of (b := true) rfl (fun _ _ => .base (.bl true)) (by decide +kernel) (fun _ => by decide +kernel)
      · exact odd_of (b := false) rfl (fun _ _ => .base .non) (by decide +kernel) (fun z => nomatch z)
      · exact odd_of (b := false) rfl (fun _ _ => .base (.str _)) (by decide +kernel) (fun z => nomatch z)
      · exact odd_of (b := false) rfl (fun H1 e => .base (.lst (e _ _ (noT_at hyy fun _ z => nomatch z)))) (by decide +kernel) (fun z => nomatch z)
      · exact .inl ⟨_, rfl⟩
    have s6 := (e5.trans e6) _ _ hs4
    refine q_when (b := decide (o = 2) && !decide (st = [])) (et_and (et_test (ev_is (ev_op (ev_var rfl) ev_c (rv_eq rfl)) (congrArg V.bl (nV_eq o 2)))) fun _ => et_test (ev_is (ev_neE (ed_r (ev_var rfl) (das_nats (sq_of s6))) ed_emp (shaped_nats st) (shaped_nats [])) (by rw [eqv_nB]))) (fun hb H7 e7 => ?_) fun hb H7 e7 => ?_
    · have hne : st ≠ [] := by
        intro z
        rw [decide_eq_true z] at hb
        simp at hb
      have h1 : 1 ≤ st.length := List.length_pos_iff.mpr hne
      refine s_retR (mid ((e5.trans e6).trans e7) fun H8 e8 Qx kx => call_raw0 (cons_ev (ev_var rfl) fun H9 e9 => cons_ev (ev_var rfl) fun H10 e10 => nil_raw ?_))
      have g10 := (e5.trans e6).trans (e7.trans (e8.trans (e9.trans e10)))
      exact ⟨a, s, _, rfl, p4.ex g10, nsa, g10 _ _ hs4, by rw [lm]; exact h1, by rw [lm]; omega, fun H' v x' p' hv => kx v H' ((ExB.of (e9.trans e10)).trans x') p' (elem_map v hv)⟩
    have x7 := (e5.trans e6).trans e7
    refine q_when (b := decide (o = 3)) (et_test (ev_is (ev_op (ev_var rfl) ev_c (rv_eq rfl)) (congrArg V.bl (nV_eq o 3)))) (fun hb H8 e8 => ?_) fun hb H8 e8 => ?_
    · refine s_retR (mid (x7.trans e8) fun H9 e9 Qx kx => dr (n := ps.length + 1) (ea_cons (ev_var rfl) (ea_cons (ea_len (ev_var rfl) (sq_of ((ExB.of (x7.trans (e8.trans e9))) _ _ nua hu4))) ea_nil)) (p4.ex (x7.trans (e8.trans e9))) (by omega) (by omega) fun H10 d x10 p10 hd => kx _ _ x10 p10 elem_nat)
    have x8 := x7.trans e8
    have p8 := p4.ex x8
    have s8 := x8 _ _ hs4
    obtain ⟨c, d, ha8, _⟩ := id p8
    refine s_retR (if_any (b := decide (o = 4)) (et_test (ev_is (ev_op (ev_var rfl) ev_c (rv_eq rfl)) (congrArg V.bl (nV_eq o 4)))) (fun hb H9 e9 => ?_) fun hb H9 e9 => ?_)
    · have s9 := e9 _ _ s8
      refine lc_R1 (n := st.length) (fun Dl i H' => ∃ ds : List Nat, ExB a H9 H' ∧ PotAt H' a ∧ H' Dl = some (.lst (ds.map nV)) ∧ ds.length = i ∧ H9 Dl = none ∧ Dl ≠ a) (ea_cons (ev_is (ev_len (ev_var rfl) (sq_of s9)) (by rw [lm])) ea_nil) (by omega) (fun H10 Dl e10 hD => ?_) (fun Dl i H' hi z => ?_) (fun Dl H' z => ?_)
      · have hD0 := fresh_back e10 hD
        exact ⟨[], (ExB.of e10).mut hD0, (p8.ex (e9.trans e10)).ex (Ex.new hD), upd_same, rfl, hD0, pot_ne (p8.ex e9) hD0⟩
      · obtain ⟨ds, y5, p5, hD5, hlen, hD0, nDa⟩ := z
        have nsD : s ≠ Dl := ne_of_none s9 hD0
        refine ⟨rfl, yes_raw (call_raw0 (cons_ev (ev_var rfl) fun H10 e10 => cons_ev (ev_var rfl) fun H11 e11 => nil_raw ?_))⟩
        have e := e10.trans e11
        refine ⟨a, s, st.map nV, rfl, p5.ex e, nsa, e _ _ (y5 _ _ nsa s9), by rw [lm]; omega, by rw [lm]; omega, fun H' v x' p' hv => ?_⟩
        obtain ⟨m, hm, rfl⟩ := List.mem_map.mp hv
        refine ⟨ds.map nV, x' _ _ nDa (e _ _ hD5), (by rw [List.length_map, sizeLine_eq]; omega), ds ++ [m], ((y5.trans (ExB.of e)).trans x').mut hD0, PotAt.exB p' (ExB.set (a := Dl)) nDa.symm, by rw [upd_same, List.map_append]; rfl, by rw [List.length_append, List.length_singleton, hlen], hD0, nDa⟩
      · obtain ⟨ds, y5, p5, hD5, hlen, hD0, nDa⟩ := z
        exact q H' Dl _ ((xx4.trans (ExB.of (x8.trans e9))).free (p8.ex e9 |>.choose_spec.choose_spec.1) hD0) ((xx4.trans (ExB.of (x8.trans e9))).trans y5) p5 hD5 elem_map (by rw [List.length_map]; omega)
    · refine el_raw (el_rev (eq_v (ev_var rfl) (sq_of (e9 _ _ s8)))) fun p H10 hp e10 h10 => ?_
      refine q H10 p _ ((xx4.trans (ExB.of (x8.trans e9))).free (e9 _ _ ha8) hp) (xx4.trans (ExB.of (x8.trans (e9.trans e10)))) (p8.ex (e9.trans e10)) h10 (fun x hx => elem_map x (List.mem_reverse.mp hx)) (by rw [List.length_reverse, lm]; omega)
end
end My
namespace My
open PySem PySem.Spec PyProof.Rows L2 GL Evl StX SkE
abbrev rTupK (K : PySem.W.Frag) : List V → Hp → VK → Prop := fun xs H Q => ∃ p ys, xs = [V.ref p] ∧ ((SqL K H p ys ∧ ∀ l, H l = none → Q (.ref l) (upd H l (.tup ys))) ∨ (SqT K H p ys ∧ Q (.ref p) H))
/-! ### answers -/
inductive Ans
  | no (xs : List V)
  | yes (ps st : List Nat)
/-- the list at p tells this answer; t: the tree, if it tells one; both made behind G -/
def Met (C : Addr) (G H : Hp) (p t : Addr) : Ans → Prop
  | .no xs => G p = none ∧ H p = some (.lst xs)
  | .yes ps st => G p = none ∧ H p = some (.lst [.str "made", .ref t]) ∧ TreeNew C G H t ps st
theorem Met.ex {C : Addr} {G H H' : Hp} {p t : Addr} {an : Ans} (h : Met C G H p t an) (e : Ex H H') : Met C G H' p t an := by
  cases an with
  | no xs => exact ⟨h.1, e _ _ h.2⟩
  | yes ps st => exact ⟨h.1, e _ _ h.2.1, h.2.2.ex e⟩
theorem Met.back {C : Addr} {G G1 H : Hp} {p t : Addr} {an : Ans} (h : Met C G1 H p t an) (e : Ex G G1) : Met C G H p t an := by
  cases an with
  | no xs => exact ⟨fresh_back e h.1, h.2⟩
  | yes ps st => exact ⟨fresh_back e h.1, h.2.1, h.2.2.back e⟩
theorem Met.noT {C : Addr} {G H : Hp} {p t : Addr} {an : Ans} (h : Met C G H p t an) : Met C G (noT H) p t an := by
  cases an with
  | no xs => exact ⟨h.1, noT_at h.2 fun _ z => nomatch z⟩
  | yes ps st =>
    obtain ⟨h1, h2, dx, la, ls, q, r⟩ := h
    exact ⟨h1, noT_at h2 (fun _ z => nomatch z), dx, la, ls, ⟨noT_at q.ob (fun _ z => nomatch z), noT_at q.ab (fun _ z => nomatch z), noT_at q.sk (fun _ z => nomatch z)⟩, r⟩
/-- texts and truth values -/
def tell : V → Bool
  | .str s => PyData.strOk s
  | .bl _ => true
  | _ => false
theorem strOk_of (s : String) : PyData.strOk (Str.ofString s) = true := by
  unfold PyData.strOk
  rw [← Array.all_toList, signs_ofString, List.all_eq_true]
  intro c hc
  obtain ⟨x, _, rfl⟩ := List.mem_map.mp hc
  refine decide_eq_true ?_
  have h := x.valid
  have e : x.toNat = x.val.toNat := rfl
  rcases h with h | h
  · have : x.val.toNat < 0xd800 := h
    omega
  · have : x.val.toNat < 0x110000 := h.2
    omega
theorem tell_1 (a : String) : [V.str a, V.bl true].all tell = true := by
  show (PyData.strOk (Str.ofString a) && (true && true)) = true
  rw [strOk_of]
  rfl
theorem tell_2 (a b : String) : [V.str a, V.str b, V.bl true].all tell = true := by
  show (PyData.strOk (Str.ofString a) && (PyData.strOk (Str.ofString b) && (true && true))) = true
  rw [strOk_of, strOk_of]
  rfl
theorem tell_flat {xs : List V} (h : xs.all tell = true) : xs.all flatV = true := by
  rw [List.all_eq_true] at h ⊢
  intro x hx
  have q := h x hx
  cases x <;> first | rfl | cases q
theorem tell_eqv : ∀ {xs : List V}, xs.all tell = true → PyData.eqvAll (xs.map fd) (xs.map fd) = true
  | [], _ => rfl
  | x :: xs, h => by
    rw [List.all_cons, Bool.and_eq_true] at h
    simp only [List.map_cons, PyData.eqvAll, Bool.and_eq_true]
    refine ⟨?_, tell_eqv h.2⟩
    cases x with
    | str s => show PyData.eqv (.str s) (.str s) = true; simp only [PyData.eqv, beq_self_eq_true]
    | bl b => show PyData.eqv (.bool b) (.bool b) = true; simp only [PyData.eqv, beq_self_eq_true]
    | _ => cases h.1
def badAns (ps : List Nat) (xs : List V) : Ans := match bad ps xs with
  | some i => .no [.str "list", num i, .bl true]
  | none => .yes ps (srt (gsOf xs))
def strikeAns (ps st : List Nat) (g : Nat) : Ans := match dueL ps st g with
  | some xs => .no xs
  | none => .yes ps (srt (st ++ [g]))
def growAns (ps st : List Nat) (g : Nat) : Ans := if g ∈ st then .no [.str "struck", num g, .bl true] else .yes (ps ++ [g]) st
theorem bad_lt {ps : List Nat} {xs : List V} {i : Nat} (h : bad ps xs = some i) : i < xs.length := by
  unfold bad at h
  split at h
  · rename_i q
    cases h
    exact List.mem_range.mp (List.mem_of_find?_eq_some q)
  · have := List.mem_range.mp (List.mem_of_find?_eq_some h)
    unfold gsOf at this
    rwa [List.length_map] at this
/-- a lambda, heard -/
def EvH {K : PySem.W.Frag} {mg : Str → Option Value} (T : Txt K mg) (te : TE) (σ : L2.St) (H : Hp) (an : Ans) : Prop := ∀ H1, Ex (noT H) H1 → LamX.Tabs T.tabs H1 → ∀ Q : VK, (∀ p t H2, Ex (noT H1) H2 → LamX.Tabs T.tabs H2 → Met T.C (noT H1) H2 p t an → Q (.ref p) H2) → te σ H1 Q
/-- what is heard of one reading, at the heap of the body -/
def EvB {K : PySem.W.Frag} {mg : Str → Option Value} (T : Txt K mg) (t : XK → TE) (σ : L2.St) (H : Hp) (an : Ans) : Prop := ∀ H1, Ex H H1 → ∀ Q : VK, (∀ p t H2, Ex H1 H2 → Met T.C H1 H2 p t an → Q (.ref p) H2) →
  t (Told T Q) σ H1 fun v H2 => [V.str "made", v].length ≤ sizeLine ∧ ∀ p, H2 p = none → Q (.ref p) (upd H2 p (.lst [.str "made", v]))
section
variable {P : Program} {w : World} {K : PySem.W.Frag} {mg : Str → Option Value} {base : Heap} {C : Addr} {T : Txt K mg} {H H' : Hp} {σ : L2.St} {te ta tb tl tx : TE} {tA : TA} {t : XK → TE} {tz : TS} {D : Ends} {xs ys vs : List V} {x : V} {a r l u : Addr} {ps ls st : List Nat} {an : Ans} {g : Nat}
theorem noT_step {H1 H2 : Hp} (e : Ex (noT H) H1) (n : LamX.ExtN H1 H2) : Ex (noT H) H2 := fun b o hb => n b o (e b o hb) (noT_is hb).2
theorem eh_of (h : EvB T t σ (noT H) an) : EvH T (tLamG T.tabs (Heard T) t) σ H an := fun H1 e tb Q q => ⟨tb, fun H2 n2 T2 => h H2 (noT_step e n2) Q fun p t H3 e3 m => q p t H3 ((noT_to n2).trans e3) (T2.ext e3) (m.back (noT_to n2))⟩
theorem made_of {Q : VK} {H3 : Hp} {t : Addr} (e : Ex H H3) (hT : TreeNew T.C H H3 t ps st) (q : ∀ p t H2, Ex H H2 → Met T.C H H2 p t (.yes ps st) → Q (.ref p) H2) : [V.str "made", V.ref t].length ≤ sizeLine ∧ ∀ p, H3 p = none → Q (.ref p) (upd H3 p (.lst [.str "made", .ref t])) :=
  ⟨sz_of (by show 2 ≤ 100000; omega), fun p hp => q p t _ (e.trans (Ex.new hp)) ⟨fresh_back e hp, upd_same, hT.ex (Ex.new hp)⟩⟩
/-- a tree is being made, of struck groups right or wrong -/
theorem heard_tr {Q : VK} {x dx a b : Addr} (hx : H x = none) (hdx : H dx = none) (ha : Seq K H a (ps.map nV)) (hb : Seq K H b xs) (el : ∀ x ∈ xs, Elem K H x) (hg : Good ps) (hl : ps.length ≤ 199) (h64 : xs.length < 64)
    (q : ∀ p t H2, Ex H H2 → Met T.C H H2 p t (badAns ps xs) → Q (.ref p) H2) : sp_TinitX K w T.C T.C_InvalidStruck [.ref x, .ref a, .ref b] (upd (upd H dx (.own x)) x (.ins T.C dx []))
      (fun v H3 => v = .non ∧ ([V.str "made", V.ref x].length ≤ sizeLine ∧ ∀ p, H3 p = none → Q (.ref p) (upd H3 p (.lst [.str "made", .ref x])))) (Told T Q) := by
  refine ⟨H, x, dx, a, ps, _, rfl, Ex.mut (Ex.new hdx) hx, hx, upd_same, ha, hg, hl, .inl ⟨b, xs, rfl, hb, el, h64, fun i hi H' d hd e h => ?_, fun hn H' e hT => ⟨rfl, ?_⟩⟩⟩
  · have lt := bad_lt hi
    refine .inr (.inr (.inr ⟨rfl, d, nV i, rfl, .inr ⟨i, by omega, rfl⟩, h, fun p H2 hp e2 h2 => q p x H2 (e.trans e2) ?_⟩))
    unfold badAns
    rw [hi]
    exact ⟨fresh_back e hp, h2⟩
  · refine made_of e hT fun p t H2 e2 m => q p t H2 e2 ?_
    unfold badAns
    rw [hn]
    exact m
theorem eb_2 (ha : EvS K ta σ H (ps.map nV)) (hb : EvS K tb σ H xs) (el : ∀ x ∈ xs, Elem K H x) (hg : Good ps) (hl : ps.length ≤ 199) (h64 : xs.length < 64) : EvB T (fun E => tMake T.C (sp_TinitX K w T.C T.C_InvalidStruck) [] E (tCons ta (tCons tb tNil))) σ H (badAns ps xs) := fun H1 e Q q =>
  ha H1 e _ fun a H2 e2 h2 => hb H2 (e.trans e2) _ fun b H3 e3 h3 => fun x dx hx hdx hne => heard_tr hx hdx (h2.ex e3) h3 (fun x hx => (el x hx).ex ((e.trans e2).trans e3)) hg hl h64 fun p t H4 e4 m => q p t H4 ((e2.trans e3).trans e4) (m.back (e2.trans e3))
theorem eb_k {gV : List V → List V → List V} (hgV : ∀ x a b : V, gV [x] [b, a] = [x, a, b]) (hb : EvS K tb σ H xs) (ha : EvS K ta σ H (ps.map nV)) (el : ∀ x ∈ xs, Elem K H x) (hg : Good ps) (hl : ps.length ≤ 199) (h64 : xs.length < 64) : EvB T (fun E => tMakeK T.C 2 (sp_TinitX K w T.C T.C_InvalidStruck) gV E (tCons tb (tCons ta tNil))) σ H (badAns ps xs) := fun H1 e Q q =>
  hb H1 e _ fun b H2 e2 h2 => ha H2 (e.trans e2) _ fun a H3 e3 h3 => ⟨rfl, fun x dx hx hdx hne => by
    rw [hgV]
    exact heard_tr hx hdx h3 (h2.ex e3) (fun x hx => (el x hx).ex ((e.trans e2).trans e3)) hg hl h64 fun p t H4 e4 m => q p t H4 ((e2.trans e3).trans e4) (m.back (e2.trans e3))⟩
/-- no list at all -/
theorem eb_odd {v : V} {ty : Value} (ha : EvS K ta σ H (ps.map nV)) (hb : Ev tb σ H v) (hty : ∀ H1, Ex H H1 → TyX K H1 v ty) (hk : PySem.W.kitAny K ty [.type "list", .type "tuple"] = some false) (hg : Good ps) (hl : ps.length ≤ 199) : EvB T (fun E => tMake T.C (sp_TinitX K w T.C T.C_InvalidStruck) [] E (tCons ta (tCons tb tNil))) σ H (.no [.str "list", .str "None", .bl true]) := fun H1 e Q q =>
  ha H1 e _ fun a H2 e2 h2 => hb H2 (e.trans e2) _ fun H3 e3 => fun x dx hx hdx hne =>
    ⟨H3, x, dx, a, ps, _, rfl, Ex.mut (Ex.new hdx) hx, hx, upd_same, h2.ex e3, hg, hl, .inr ⟨ty, fun H4 e4 => hty H4 (((e.trans e2).trans e3).trans e4), hk, fun H' d hd e' h => .inr (.inr (.inr ⟨rfl, d, .non, rfl, .inl rfl, h, fun p H5 hp e5 h5 => q p x H5 ((e2.trans e3).trans (e'.trans e5)) ⟨fresh_back ((e2.trans e3).trans e') hp, h5⟩⟩))⟩⟩
/-- what a strike is told -/
theorem heard_ws {Q : VK} {t : Addr} (ht : TreeAt T.C H t ps st) (hg : Good ps) (hl : ps.length ≤ 199) (hgl : g ≤ ps.length) (ok : StOk ps st) (h63 : st.length < 63) (q : ∀ p t H2, Ex H H2 → Met T.C H H2 p t (strikeAns ps st g) → Q (.ref p) H2) :
    sp_TwsX T.C T.C_IsTop T.C_Struck T.C_HasChildren [.ref t, nV g] H (fun v H2 => [V.str "made", v].length ≤ sizeLine ∧ ∀ p, H2 p = none → Q (.ref p) (upd H2 p (.lst [.str "made", v]))) (Told T Q) := by
  refine ⟨t, ps, st, g, rfl, ht, hg, hl, hgl, ok, h63, fun h0 H' e => ?_, fun hs H' d hd e h => ?_, fun h1 hn hb H' d hd e h => ?_, fun h1 hn hb H' t' ht' e hT => ?_⟩
  · refine .inl ⟨rfl, rfl, fun p H2 hp e2 h2 => q p t H2 (e.trans e2) ?_⟩
    unfold strikeAns dueL
    rw [if_pos h0]
    exact ⟨fresh_back e hp, h2⟩
  · have hg0 : ¬ g = 0 := fun e => by have := ok.bd g hs; omega
    refine .inr (.inl ⟨rfl, d, g, rfl, by omega, h, fun p H2 hp e2 h2 => q p t H2 (e.trans e2) ?_⟩)
    unfold strikeAns dueL
    rw [if_neg hg0, if_pos hs]
    exact ⟨fresh_back e hp, h2⟩
  · refine .inr (.inr (.inl ⟨rfl, d, g, rfl, by omega, h, fun p H2 hp e2 h2 => q p t H2 (e.trans e2) ?_⟩))
    unfold strikeAns dueL
    rw [if_neg (by omega), if_neg hn, if_pos hb]
    exact ⟨fresh_back e hp, h2⟩
  · refine made_of e hT fun p t H2 e2 m => q p t H2 e2 ?_
    unfold strikeAns dueL
    rw [if_neg (by omega), if_neg hn, loose_no.mpr hb]
    exact m
theorem eb_ws {m : Str} {t0 dx : Addr} {fs : List (Str × V)} (hm : fs.lookup m = none) (ho : H t0 = some (.ins T.C dx fs)) (ht : TreeAt T.C H t0 ps st) (ha : Ev ta σ H (.ref t0)) (hb : Ev tb σ H (nV g)) (hg : Good ps) (hl : ps.length ≤ 199) (hgl : g ≤ ps.length) (ok : StOk ps st) (h63 : st.length < 63) :
    EvB T (fun E => tMeth T.C m (sp_TwsX T.C T.C_IsTop T.C_Struck T.C_HasChildren) [] E ta (tCons tb tNil)) σ H (strikeAns ps st g) := fun H1 e Q q =>
  ha H1 e _ fun H2 e2 => ⟨t0, dx, fs, rfl, (e.trans e2) _ _ ho, hm, hb H2 (e.trans e2) _ fun H3 e3 => heard_ws (ht.ex ((e.trans e2).trans e3)) hg hl hgl ok h63 fun p t H4 e4 m => q p t H4 ((e2.trans e3).trans e4) (m.back (e2.trans e3))⟩
theorem eb_wsK {m : Str} {t0 dx : Addr} {fs : List (Str × V)} {gV : List V → List V → List V} (hgV : ∀ x a : V, gV [x] [a] = [x, a]) (hm : fs.lookup m = none) (ho : H t0 = some (.ins T.C dx fs)) (ht : TreeAt T.C H t0 ps st) (ha : Ev ta σ H (.ref t0)) (hb : Ev tb σ H (nV g)) (hg : Good ps) (hl : ps.length ≤ 199) (hgl : g ≤ ps.length) (ok : StOk ps st) (h63 : st.length < 63) :
    EvB T (fun E => tMethK T.C m (sp_TwsX T.C T.C_IsTop T.C_Struck T.C_HasChildren) gV E ta (tCons tb tNil)) σ H (strikeAns ps st g) := fun H1 e Q q =>
  ha H1 e _ fun H2 e2 => ⟨t0, dx, fs, rfl, (e.trans e2) _ _ ho, hm, hb H2 (e.trans e2) _ fun H3 e3 => by
    refine nil_raw ?_
    show sp_TwsX T.C T.C_IsTop T.C_Struck T.C_HasChildren (gV [V.ref t0] [nV g]) H3 _ _
    rw [hgV]
    exact heard_ws (ht.ex ((e.trans e2).trans e3)) hg hl hgl ok h63 fun p t H4 e4 m => q p t H4 ((e2.trans e3).trans e4) (m.back (e2.trans e3))⟩
theorem eb_wg {m : Str} {t0 dx : Addr} {fs : List (Str × V)} (hm : fs.lookup m = none) (ho : H t0 = some (.ins T.C dx fs)) (ht : TreeAt T.C H t0 ps st) (ha : Ev ta σ H (.ref t0)) (hb : Ev tb σ H (nV g)) (hg : Good ps) (hl : ps.length ≤ 198) (hgl : g ≤ ps.length) (ok : StOk ps st) (h64 : st.length < 64) (hsr : srt st = st) :
    EvB T (fun E => tMeth T.C m (sp_TwgX T.C T.C_Struck) [] E ta (tCons tb tNil)) σ H (growAns ps st g) := fun H1 e Q q =>
  ha H1 e _ fun H2 e2 => ⟨t0, dx, fs, rfl, (e.trans e2) _ _ ho, hm, hb H2 (e.trans e2) _ fun H3 e3 => by
    have e13 := e2.trans e3
    refine ⟨t0, ps, st, g, rfl, ht.ex (e.trans e13), hg, hl, hgl, ok, h64, hsr, fun hs H' d hd e4 h => ?_, fun hn H' t' ht' e4 hT => ?_⟩
    · refine .inr (.inl ⟨rfl, d, g, rfl, by omega, h, fun p H5 hp e5 h5 => q p t0 H5 (e13.trans (e4.trans e5)) ?_⟩)
      unfold growAns
      rw [if_pos hs]
      exact ⟨fresh_back (e13.trans e4) hp, h5⟩
    · refine made_of e4 hT fun p t H5 e5 m => q p t H5 (e13.trans e5) ?_
      unfold growAns
      rw [if_neg hn]
      exact m.back e13⟩
/-! ### answers compared -/
theorem shaped_tell (h : xs.all tell = true) : SeqAt.shaped (.list (xs.map fd)) = true := by
  rw [List.all_eq_true] at h
  have c1 : ∀ l : List V, (∀ x ∈ l, tell x = true) → PyData.canLayAll0 (l.map fd) = true := by
    intro l
    induction l with
    | nil => intro _; simp only [List.map_nil, PyData.canLayAll0]
    | cons x l ih =>
      intro hx
      simp only [List.map_cons, PyData.canLayAll0, Bool.and_eq_true]
      refine ⟨?_, ih fun y hy => hx y (List.mem_cons_of_mem _ hy)⟩
      have q := hx x List.mem_cons_self
      cases x with
      | str s => show (PyData.str s).canLay0 = true; simp only [PyData.canLay0]; exact q
      | bl b => show (PyData.bool b).canLay0 = true; simp only [PyData.canLay0]
      | _ => cases q
  have c2 : PyData.depthAll (xs.map fd) ≤ 0 := depthAll_of fun d hd => by
    obtain ⟨x, hx, rfl⟩ := List.mem_map.mp hd
    have q := h x hx
    cases x with
    | str s => show (PyData.str s).depth ≤ 0; simp only [PyData.depth]; omega
    | bl b => show (PyData.bool b).depth ≤ 0; simp only [PyData.depth]; omega
    | _ => cases q
  show (PyData.canLay0 (.list (xs.map fd)) && decide (PyData.depth (.list (xs.map fd)) ≤ 64)) = true
  rw [Bool.and_eq_true]
  refine ⟨by simp only [PyData.canLay0]; exact c1 xs h, decide_eq_true ?_⟩
  simp only [PyData.depth]
  omega
theorem rv_tellE {p q : Addr} (hp : SqL K H p xs) (hq : SqL K H q xs) (h : xs.all tell = true) : RV (rEqD K) (.ref p) (.ref q) H (.bl true) := fun H1 e Q k => by
  refine ⟨.list (xs.map fd), .list (xs.map fd), .lst (ex_l e hp) (fd_all (tell_flat h)), .lst (ex_l e hq) (fd_all (tell_flat h)), shaped_tell h, shaped_tell h, ?_⟩
  simp only [PyData.eqv]
  rw [tell_eqv h]
  exact k H1 (Ex.refl H1)
theorem rv_tellN {p q : Addr} (hp : SqL K H p xs) (hq : SqL K H q xs) (h : xs.all tell = true) : RV (rNeD K) (.ref p) (.ref q) H (.bl false) := fun H1 e Q k => by
  refine ⟨.list (xs.map fd), .list (xs.map fd), .lst (ex_l e hp) (fd_all (tell_flat h)), .lst (ex_l e hq) (fd_all (tell_flat h)), shaped_tell h, shaped_tell h, ?_⟩
  simp only [PyData.eqv]
  rw [tell_eqv h]
  exact k H1 (Ex.refl H1)
def Ans.ok : Ans → Bool
  | .no xs => xs.all tell
  | .yes _ _ => true
theorem badAns_ok (ps : List Nat) (xs : List V) : (badAns ps xs).ok = true := by
  unfold badAns
  split
  · exact tell_2 _ _
  · rfl
theorem strikeAns_ok (ps st : List Nat) (g : Nat) : (strikeAns ps st g).ok = true := by
  unfold strikeAns dueL
  split
  · rename_i xs h
    split at h
    · cases h; exact tell_1 _
    · split at h
      · cases h; exact tell_2 _ _
      · split at h
        · cases h; exact tell_2 _ _
        · cases h
  · rfl
theorem growAns_ok (ps st : List Nat) (g : Nat) : (growAns ps st g).ok = true := by
  unfold growAns
  split
  · exact tell_2 _ _
  · rfl
theorem met_eqM {G G' : Hp} {p q t t' : Addr} {E : XK} {r : Bool} (hne : t ≠ t') (m : Met T.C G H p t (.yes ps st)) (m' : Met T.C G' H q t' (.yes ps st)) : RV (rEqM T.C (sp_Teq K T.C) E r) (.ref p) (.ref q) H (.bl r) := fun H1 e Q k => by
  obtain ⟨_, h1, n1⟩ := m.ex e
  obtain ⟨_, h2, n2⟩ := m'.ex e
  obtain ⟨dx, la, ls, q1, _⟩ := id n1
  obtain ⟨dx', la', ls', q2, _⟩ := id n2
  exact ⟨p, q, t, t', "made", dx, dx', _, _, rfl, rfl, h1, h2, hne, q1.ob, q2.ob, .inl ⟨t, t', ps, st, ps, st, rfl, n1.now, n2.now, fun H2 e2 => ⟨by rw [decide_eq_true rfl, decide_eq_true rfl]; rfl, e2 _ _ h1, e2 _ _ h2, k H2 e2⟩⟩⟩
theorem rv_orL {r1 r2 : R2} {x y v : V} (h : RV r1 x y H v) : RV (fun x y H Q => r1 x y H Q ∨ r2 x y H Q) x y H v := fun H1 e Q q => .inl (h H1 e Q q)
theorem rv_orR {r1 r2 : R2} {x y v : V} (h : RV r2 x y H v) : RV (fun x y H Q => r1 x y H Q ∨ r2 x y H Q) x y H v := fun H1 e Q q => .inr (h H1 e Q q)
theorem noT_both {A B : Hp} (e : Ex (noT A) B) : Ex (noT A) (noT B) := fun b o hb => noT_at (e b o hb) (noT_is hb).2
theorem met_new {G H2 H3 : Hp} {p t p2 t2 : Addr} (m : Met T.C G H2 p t an) (m2 : Met T.C (noT H2) H3 p2 t2 an) : ∀ ps st, an = .yes ps st → t ≠ t2 := fun ps st e => by
  subst e
  obtain ⟨_, _, dx, la, ls, q, _⟩ := m
  obtain ⟨_, _, dx2, la2, ls2, _, n2, _⟩ := m2
  exact ne_of_none (noT_at q.ob fun _ z => nomatch z) n2
/-- one answer, twice -/
theorem met_eq {G G' : Hp} {p q t t' : Addr} {E : XK} (ok : an.ok = true) (hne : ∀ ps st, an = .yes ps st → t ≠ t') (m : Met T.C G H p t an) (m' : Met T.C G' H q t' an) : RV (fun x y H Q => rEqD K x y H Q ∨ rEqM T.C (sp_Teq K T.C) E true x y H Q) (.ref p) (.ref q) H (.bl true) := by
  cases an with
  | no xs => exact rv_orL (rv_tellE (sq_of m.2) (sq_of m'.2) ok)
  | yes ps st => exact rv_orR (met_eqM (hne _ _ rfl) m m')
theorem met_ne {G G' : Hp} {p q t t' : Addr} {E : XK} (ok : an.ok = true) (hne : ∀ ps st, an = .yes ps st → t ≠ t') (m : Met T.C G H p t an) (m' : Met T.C G' H q t' an) : RV (fun x y H Q => rNeD K x y H Q ∨ rEqM T.C (sp_Teq K T.C) E false x y H Q) (.ref p) (.ref q) H (.bl false) := by
  cases an with
  | no xs => exact rv_orL (rv_tellN (sq_of m.2) (sq_of m'.2) ok)
  | yes ps st => exact rv_orR (met_eqM (hne _ _ rfl) m m')
/-- a list of texts and truth values, and a new one of the same -/
theorem tell_eqE {p : Addr} (h : H p = some (.lst xs)) (hx : Ev te σ H (.ref p)) (hb : EvL tb σ H xs) (ok : xs.all tell = true) : Ev (tOp (rEqD K) te tb) σ H (.bl true) := fun H1 e Q q => hx H1 e _ fun H2 e2 => hb H2 (e.trans e2) _ fun r H3 hr e3 h3 => rv_tellE (sq_of (((e.trans e2).trans e3) _ _ h)) (sq_of h3) ok H3 (Ex.refl H3) Q fun H4 e4 => q H4 ((e2.trans e3).trans e4)
theorem srt_filter {n : Nat} {l : List Nat} (nd : l.Nodup) (h : ∀ x ∈ l, x ≤ n) : (List.range (n + 1)).filter (fun c => decide (c ∈ l)) = srt l := by
  have pm : ((List.range (n + 1)).filter fun c => decide (c ∈ l)).Perm (srt l) := by
    rw [List.perm_ext_iff_of_nodup (List.Nodup.sublist List.filter_sublist List.nodup_range) ((srt_perm l).nodup_iff.mpr nd)]
    intro x
    rw [List.mem_filter, decide_eq_true_iff, srt_mem, List.mem_range]
    exact ⟨fun z => z.2, fun z => ⟨by have := h x z; omega, z⟩⟩
  exact List.Perm.eq_of_pairwise (le := fun a b : Nat => a ≤ b) (fun x y _ _ h1 h2 => Nat.le_antisymm h1 h2) ((List.pairwise_lt_range (n := n + 1)).sublist List.filter_sublist |>.imp fun {a b} z => Nat.le_of_lt z) (srt_pw l) pm
end
end My
namespace My
open PySem PySem.Spec PyProof.Rows L2 GL Evl StX SkE
def sp_Llr {K : PySem.W.Frag} {mg : Str → Option Value} (T : Txt K mg) : Sp := fun vs H Q _ => ∃ u l, ∃ ps : List Nat, ∃ xs : List V, vs = [.ref u, .ref l] ∧ H u = some (.lst (upsV ps)) ∧ H l = some (.lst xs) ∧ (∀ x ∈ xs, Elem K (noT H) x) ∧ Good ps ∧ ps.length ≤ 199 ∧ xs.length < 64 ∧ LamX.Tabs T.tabs H ∧
  ∀ H', Ex (noT H) H' → LamX.Tabs T.tabs H' → Q (.bl true) H'
section
variable {P : Program} {w : World} {K : PySem.W.Frag} {mg : Str → Option Value} {base : Heap} {C : Addr} {H H' : Hp} {σ : L2.St} {te ta tb tl tx : TE} {tA : TA} {tz : TS} {D : Ends} {xs ys vs : List V} {x : V} {a r l u : Addr} {ps ls st : List Nat} {an : Ans} {g : Nat}
theorem ev_eqLL {l : List Nat} (h : EvL te σ H (l.map nV)) (hb : Ev tb σ H (.ref r)) (hr : H r = some (.lst (l.map nV))) : Ev (tOp (rEqD K) te tb) σ H (.bl true) := ev_is (ev_eqE (ed_n h) (ed_r hb (das_nats (sq_of hr))) (shaped_nats l) (shaped_nats l)) (by rw [eqv_nB, decide_eq_true rfl])
theorem ok_Llist_right (T : Txt K mg) (G_Lwrong : FnG P w K mg base CX0 2 T.f_Lwrong T.fd_Lwrong ["_law_ups_here", "_law_some"] (sp_Lwrong K)) (G_TinitX : FnG P w K mg base (L2.CX P w) 3 T.f_Tinit T.fd_Tinit ["self", "parents", "struck"] (sp_TinitX K w T.C T.C_InvalidStruck)) (G_Teq : FnG P w K mg base CX0 1 T.f_Teq T.fd_Teq ["self", "other"] (sp_Teq K T.C)) (G_Tstruck : FnG P w K mg base CX0 1 T.f_Tstruck T.fd_Tstruck ["self"] (sp_Tstruck T.C)) (tb_Llist_right : LamX.TabB base mg T.c_Llist_right T.p_Llist_right) : FnG P w K mg base CX0 12 T.f_Llist_right T.fd_Llist_right ["_law_ups_here", "_law_some"] (sp_Llr T) := by
  refine okGT T.FT_Llist_right sc_Llist_right (fun vs H Q E h => ?_) (fun A outer s H vs Q E gd hr h => ?_)
  · obtain ⟨_, _, _, _, rfl, _⟩ := h
    all_goals rfl
  · obtain ⟨u, l, ps, xs, rfl, hu, hl, el, hg, hn, h64, hT, q⟩ := h
    refine ⟨_, (pss_cons (ps_set (i := 2) sc_Llist_right.nd rfl (Or.inl rfl) (pc gd G_Lwrong (hr.mono (by decide)) (by rfl) T.m_Lwrong T.F_Lwrong.kp T.b_Lwrong .nil pass0 (pa_cons (pv 0) (pa_cons (pv 1) pa_nil)))) (pss_cons (ps_set (i := 3) sc_Llist_right.nd rfl (Or.inl rfl) (pe_lamG (k := 8) gd (by rfl) T.m_Lheard T.F_Lheard T.b_Lheard sc_Lheard rfl (by first | exact Or.inl rfl | exact Or.inr (Or.inl rfl)) (heard_gives T rfl rfl) tb_Llist_right rfl T.tab_Llist_right T.one_Llist_right (hr.mono (by decide)) (show LamX.LamS (defScope s_Llist_right) _ from LamX.lamS_by (by decide +kernel)) rfl (fun _ _ _ _ _ => rfl) (fun A outer s H E f c gd hr => (pk gd T.mk_Tree G_TinitX (hr.mono (by decide)) (by rfl) T.m_Tree T.b2_Tinit T.v2_Tinit (passes_call (takes_of rfl rfl rfl rfl) fun _ _ _ _ z => z) (pa_cons (pe_slice (show SlR _ (rSlL K) from sl_list) (pv 0) (po_some pe_int) po_none) (pa_cons (pv 1) pa_nil)))))) (pss_cons (ps_set (i := 4) sc_Llist_right.nd rfl (Or.inl rfl) (pe_lamG (k := 8) gd (by rfl) T.m_Lheard T.F_Lheard T.b_Lheard sc_Lheard rfl (by first | exact Or.inl rfl | exact Or.inr (Or.inl rfl)) (heard_gives T rfl rfl) tb_Llist_right rfl T.tab_Llist_right T.one_Llist_right (hr.mono (by decide)) (show LamX.LamS (defScope s_Llist_right) _ from LamX.lamS_by (by decide +kernel)) rfl (fun _ _ _ _ _ => rfl) (fun A outer s H E f c gd hr => (pkK gd T.mk_Tree G_TinitX (hr.mono (by decide)) (by rfl) T.m_Tree T.k_Tinit_struck_parents (passes_call (takes_of rfl rfl rfl rfl) fun _ _ _ _ z => z) (pk_cons (pe_callTy (show CallR _ (.type "tuple") (rTupK K) from call_tuple_of) (by rfl) T.z_tuple (by decide +kernel) (pa_cons (pv 1) pa_nil)) (pk_cons (pe_slice (show SlR _ (rSlL K) from sl_list) (pv 0) (po_some pe_int) po_none) pk_nil)))))) (pss_cons (ps_if (pt_cmpR op_ge (pv 2) pe_int (nomark _)) (pss_one (ps_ret (pe_and (pe_cmpR (op_eqD (roomU hr)) (pv 3) (pe_lst (pa_cons pe_str (pa_cons (pe_callB call_repr_int (by rfl) T.z_repr boot_repr (pa_cons (pv 2) pa_nil)) (pa_cons pe_bl pa_nil)))) (nomark _)) (pe_one (pe_cmpR (op_or (op_eqD (roomU hr)) (op_eqM gd G_Teq (hr.mono (by decide)) (roomU hr) T.b_Teq T.M_Teq.at_ T.M_Teq.fn pass0)) (pv 4) (pv 3) (nomark _)))))) pss_nil) (pss_cons (ps_setLc (i := 5) (own := [("_law_spot", 6)]) (g := gName 6) rfl sc_Llist_right.nd rfl rfl (sw_true rfl rfl rfl (by decide +kernel)) (pi_range1 (by rfl) T.z_range (pa_cons (pe_callB call_len_seq (by rfl) T.z_len PySem.boot_len (pa_cons (pv 0) pa_nil)) pa_nil)) (blkOk_by (N := N_Llist_right) (sc := defScope s_Llist_right) (by decide +kernel)) (fun _ _ _ _ _ => (pg_name (i := 6) sc_Llist_right.nd rfl (Or.inl rfl) (Or.inr rfl))) (fun _ _ _ _ _ => pts_one (pt_cmpR (show OpR _ (compareOp .In) (rIn K false) from op_in_seq) (pv 6) (pv 1) (by rfl))) (fun _ _ _ _ _ => (pv 6))) (pss_one (ps_ret (pe_and (pe_cmpR op_eq (pe_ix ix_list (pv 3) pe_int (fun _ _ => rfl)) pe_str (nomark _)) (pe_and (pe_cmpR (op_eqD (roomU hr)) (pm0 gd (pe_ix ix_list (pv 3) pe_int (fun _ _ => rfl)) T.c_Tree T.M_Tstruck G_Tstruck (hr.mono (by decide)) T.b_Tstruck .nil pass0) (pv 5) (nomark _)) (pe_one (pe_cmpR (op_or (op_eqD (roomU hr)) (op_eqM gd G_Teq (hr.mono (by decide)) (roomU hr) T.b_Teq T.M_Teq.at_ T.M_Teq.fn pass0)) (pv 4) (pv 3) (nomark _)))))))))))), ?_⟩
    have hu0 := noT_at hu (fun _ z => nomatch z)
    have hl0 := noT_at hl (fun _ z => nomatch z)
    refine q_asg (ev_call (ea_cons (ev_var rfl) (ea_cons (ev_var rfl) ea_nil)) (sv_wrong hu hl (fun x hx => (el x hx).ex noT_sub) hn (by omega))) fun H1 e1 => ?_
    have x1 : Ex (noT H) H1 := noT_sub.trans e1
    refine q_asgR (eh_of (T := T) (an := badAns ps xs) (H := H) (eb_2 (es_l (el_tail (sq_of hu0) (ev_var rfl))) (es_v (ev_var rfl) (.lst hl0)) el hg hn h64) H1 x1 (hT.ext e1) _ fun p t H2 x2 T2 m => ?_)
    have y2 : Ex (noT H) (noT H2) := (noT_mono e1).trans (noT_both x2)
    refine q_asgR (eh_of (T := T) (an := badAns ps xs) (H := H2) (eb_k (fun _ _ _ => rfl) (es_tup (eq_v (ev_var rfl) (sq_of (y2 _ _ hl0)))) (es_l (el_tail (sq_of (y2 _ _ hu0)) (ev_var rfl))) (fun x hx => (el x hx).ex y2) hg hn h64) H2 noT_sub T2 _ fun p2 t2 H3 x3 T3 m2 => ?_)
    have y3 : Ex (noT H) H3 := y2.trans x3
    have m3 : Met T.C (noT H1) H3 p t (badAns ps xs) := m.noT.ex x3
    have ne := met_new m m2
    have okA := badAns_ok ps xs
    have fin : ∀ H4, Ex H3 H4 → Q (.bl true) H4 := fun H4 e4 => q H4 (y3.trans e4) (T3.ext e4)
    show tSeq _ _ _ [some (.ref u), some (.ref l), some (badV ps xs), some (.ref p), some (.ref p2), none, none] H3
    cases hb : bad ps xs with
    | some i =>
      have hv : badV ps xs = nV i := by
        unfold badV
        rw [hb]
      have ha : badAns ps xs = .no [.str "list", num i, .bl true] := by
        unfold badAns
        rw [hb]
      have li := bad_lt hb
      rw [ha] at m m2 m3 ne okA
      rw [hv]
      refine q_when (b := true) (et_is (et_test (ev_op (ev_var rfl) ev_c rv_I0)) (decide_eq_true (by omega))) (fun _ H4 e4 => ?_) fun z => nomatch z
      refine s_ret (v := .bl true) (ev_andV (a := true) (b := true) (tell_eqE ((m3.ex e4).2) (ev_var rfl) (el_lst (ea_cons ev_c (ea_cons (ev_reprI (by omega) (ev_var rfl)) (ea_cons ev_c ea_nil))) (by show 3 ≤ 100000; omega)) okA) fun _ => ev_op (ev_var rfl) (ev_var rfl) (met_eq okA (fun ps st z => (ne ps st z).symm) (m2.ex e4) (m3.ex e4))) fun H5 e5 => fin H5 (e4.trans e5)
    | none =>
      have hv : badV ps xs = .int (-1) := by
        unfold badV
        rw [hb]
      obtain ⟨exs, ok⟩ := right_of hb
      have ha : badAns ps xs = .yes ps (srt (gsOf xs)) := by
        unfold badAns
        rw [hb]
      rw [ha] at m m2 m3 ne okA
      rw [hv]
      refine q_when (b := false) (et_is (et_test (ev_op (ev_var rfl) ev_c rv_I0)) (by decide)) (fun z => nomatch z) fun _ H4 e4 => ?_
      have y4 := y3.trans e4
      have hl4 : H4 l = some (.lst ((gsOf xs).map nV)) := by
        rw [← exs]
        exact y4 _ _ hl0
      refine q_asgL (xs := (srt (gsOf xs)).map nV) (el_is (el_lcR1 (n := ((ps.length + 1 : Nat) : Int)) (fun c => decide (c ∈ gsOf xs)) nV (ea_cons (ea_len (ev_var rfl) (sq_of (y4 _ _ hu0))) ea_nil) (by omega) (fun _ => rfl) (fun c H5 e5 hc => et_test (ev_is (ev_op (ev_var rfl) (ev_var rfl) (rv_isL (sq_of (e5 _ _ hl4)) rfl (flat_nat _))) (congrArg V.bl (inV_nat _ _)))) (fun c H5 e5 hc _ => ev_var rfl)) (by
        rw [Int.toNat_natCast, ← srt_filter ok.nd (fun x hx => (ok.bd x hx).2)]
        rfl)) fun r H5 hr e5 h5 => ?_
      have e35 := e4.trans e5
      obtain ⟨_, hp5, hT5⟩ := m3.ex e35
      obtain ⟨dx, la, lst_, tp, _⟩ := id hT5
      refine s_ret (v := .bl true) (ev_andV (a := true) (b := true) (ev_is (ev_op (ev_op (ev_var rfl) ev_c (rv_ixL (sq_of hp5) rfl)) ev_c (rv_eq rfl)) (congrArg V.bl (decide_eq_true rfl))) fun _ => ev_andV (a := true) (b := true) (ev_eqLL (el_meth (ev_op (ev_var rfl) ev_c (rv_ixL (sq_of hp5) rfl)) tp.ob (tf_no la lst_ (by decide +kernel) (by decide +kernel)) ea_nil (sl_struck hT5.now)) (ev_var rfl) h5) fun _ => ev_op (ev_var rfl) (ev_var rfl) (met_eq okA (fun ps st z => (ne ps st z).symm) (m2.ex e35) (m3.ex e35))) fun H6 e6 => fin H6 (e35.trans e6)
end
end My
namespace My
open PySem PySem.Spec PyProof.Rows L2 GL Evl StX SkE
/-! ### what lasts: neither the pot nor the tables -/
def cor (a : Addr) (H : Hp) : Hp := holes [a] (noT H)
section
variable {K : PySem.W.Frag} {mg : Str → Option Value} {C : Addr} {T : Txt K mg} {H H' B : Hp} {a r t u l p : Addr} {ps st : List Nat} {σ : L2.St} {te ta tb : TE} {an : Ans} {xs : List V}
theorem cor_noT : Ex (cor a H) (noT H) := holes_ex _ _
theorem cor_sub : Ex (cor a H) H := (holes_ex _ _).trans noT_sub
theorem cor_ex (e : Ex H H') : Ex (cor a H) (cor a H') := holes_mono (noT_mono e)
theorem cor_lam (e : Ex (noT H) H') : Ex (cor a H) (cor a H') := holes_mono (noT_both e)
theorem cor_exB (e : ExB a H H') : Ex (cor a H) (cor a H') := fun b o h => by
  by_cases z : b ∈ [a]
  · rw [show cor a H b = none from holes_in z] at h
    cases h
  · have h' : noT H b = some o := (holes_ne z).symm.trans h
    obtain ⟨h1, h2⟩ := noT_is h'
    exact (holes_ne z).trans (noT_at (e b o (fun q => z (by rw [q]; exact List.mem_singleton.mpr rfl)) h1) h2)
theorem cor_at {b : Addr} {o : HO} (h : H b = some o) (n : ∀ ps, o ≠ .tbl ps) (ne : b ≠ a) : cor a H b = some o := (holes_ne fun z => ne (List.mem_singleton.mp z)).trans (noT_at h n)
theorem cor_none {b : Addr} (h : H b = none) : cor a H b = none := by
  by_cases z : b ∈ [a]
  · exact holes_in z
  · refine (holes_ne z).trans ?_
    unfold noT
    rw [h]
theorem cor_upd {b : Addr} {xs : List V} (ne : b ≠ a) : cor a (upd H b (.lst xs)) = upd (cor a H) b (.lst xs) := by
  funext c
  by_cases e : c = b
  · subst e
    rw [upd_same]
    exact cor_at upd_same (fun _ z => nomatch z) ne
  · rw [upd_ne e]
    unfold cor holes
    split
    · rfl
    · unfold noT
      rw [upd_ne e]
theorem tabs_but {r : Addr} {xs : List V} (tb : LamX.Tabs T.tabs H) (hr : H r = some (.lst xs)) (e : ∀ b o, b ≠ r → H b = some o → H' b = some o) : LamX.Tabs T.tabs H' := fun q hq => by
  obtain ⟨qs, h1, h2, h3⟩ := tb q hq
  have nt : ∀ {b : Addr} {o : HO}, H b = some o → (∀ ys, o ≠ .lst ys) → b ≠ r := fun {b o} hb n z => by
    rw [z, hr] at hb
    exact n xs (Option.some.inj hb).symm
  refine ⟨qs, e _ _ (nt h1 fun _ z => nomatch z) h1, h2, fun pos cv hc => ?_⟩
  obtain ⟨c, e1, e2⟩ := h3 pos cv hc
  refine ⟨c, e1, e _ _ (nt e2 fun ys z => ?_) e2⟩
  unfold LamX.CodeO at z
  cases z
/-- how things are: since B all has lasted, the pot is there, the tables are right -/
structure Sit (T : Txt K mg) (B : Hp) (a : Addr) (H : Hp) : Prop where
  x : Ex B (cor a H)
  pot : PotAt H a
  tb : LamX.Tabs T.tabs H
theorem Sit.ex (s : Sit T B a H) (e : Ex H H') : Sit T B a H' := ⟨s.x.trans (cor_ex e), s.pot.ex e, s.tb.ext e⟩
theorem Sit.exB (s : Sit T B a H) (e : ExB a H H') (p : PotAt H' a) : Sit T B a H' := by
  obtain ⟨x, y, hx, _⟩ := s.pot
  exact ⟨s.x.trans (cor_exB e), p, tabs_but s.tb hx e⟩
theorem Sit.lam (s : Sit T B a H) (e : Ex (noT H) H') (tb : LamX.Tabs T.tabs H') : Sit T B a H' := by
  refine ⟨s.x.trans (cor_lam e), ?_, tb⟩
  obtain ⟨x, y, hx, hh⟩ := s.pot
  exact ⟨x, y, e _ _ (noT_at hx fun _ z => nomatch z), hh⟩
theorem Sit.upd {D : Addr} {ys zs : List V} (s : Sit T B a H) (hD : B D = none) (hl : H D = some (.lst ys)) (ne : D ≠ a) : Sit T B a (upd H D (.lst zs)) := by
  refine ⟨by rw [cor_upd ne]; exact Ex.mut s.x hD, ?_, tabs_but s.tb hl fun b o hb h => by rw [upd_ne hb]; exact h⟩
  obtain ⟨x, y, hx, hh⟩ := s.pot
  exact ⟨x, y, by rw [upd_ne ne.symm]; exact hx, hh⟩
theorem Sit.at (s : Sit T B a H) {b : Addr} {o : HO} (h : B b = some o) : H b = some o := cor_sub _ _ (s.x _ _ h)
/-- one situation behind another -/
theorem Sit.lam' (s : Sit T B a H) (s' : Sit T (cor a H) a H') : Sit T B a H' := ⟨s.x.trans s'.x, s'.pot, s'.tb⟩
theorem Sit.now (s : Sit T B a H) : Sit T (cor a H) a H := ⟨Ex.refl _, s.pot, s.tb⟩
/-- the tree at t, its parents at u, its struck groups at l -/
structure Now (C : Addr) (G : Hp) (t u l : Addr) (ps st : List Nat) : Prop where
  tr : TreeAt C G t ps st
  up : G u = some (.lst (upsV ps))
  lo : G l = some (.lst (st.map nV))
  gd : Good ps
  ok : StOk ps st
  so : srt st = st
  le : ps.length ≤ 10
theorem Now.ex {G G' : Hp} (h : Now C G t u l ps st) (e : Ex G G') : Now C G' t u l ps st := ⟨h.tr.ex e, e _ _ h.up, e _ _ h.lo, h.gd, h.ok, h.so, h.le⟩
theorem Now.st_le {G : Hp} (h : Now C G t u l ps st) : st.length ≤ 10 := by
  have := h.ok.len
  have := h.le
  omega
/-- an answer that lasts -/
def MetC (C : Addr) (G : Hp) (p t : Addr) : Ans → Prop
  | .no xs => G p = some (.lst xs)
  | .yes ps st => G p = some (.lst [.str "made", .ref t]) ∧ TreeAt C G t ps st
theorem MetC.ex {G G' : Hp} (h : MetC C G p t an) (e : Ex G G') : MetC C G' p t an := by
  cases an with
  | no xs => exact e _ _ h
  | yes ps st => exact ⟨e _ _ h.1, h.2.ex e⟩
theorem met_c {G : Hp} (pa : PotAt G a) (m : Met C (noT G) H p t an) : MetC C (cor a H) p t an := by
  obtain ⟨c, d, hc, _⟩ := pa
  have ca : noT G a = some (.lst [.int c, .int d]) := noT_at hc fun _ z => nomatch z
  have ne : ∀ {b : Addr}, noT G b = none → b ≠ a := fun hb => (ne_of_none ca hb).symm
  cases an with
  | no xs => exact cor_at m.2 (fun _ z => nomatch z) (ne m.1)
  | yes ps st =>
    obtain ⟨h1, h2, dx, la, ls, q, r1, r2, r3⟩ := m
    exact ⟨cor_at h2 (fun _ z => nomatch z) (ne h1), dx, la, ls, ⟨cor_at q.ob (fun _ z => nomatch z) (ne r1), cor_at q.ab (fun _ z => nomatch z) (ne r2), cor_at q.sk (fun _ z => nomatch z) (ne r3)⟩⟩
theorem mc_eqM {t t' q : Addr} {E : XK} {r : Bool} (hne : t ≠ t') (m : MetC T.C H p t (.yes ps st)) (m' : MetC T.C H q t' (.yes ps st)) : RV (rEqM T.C (sp_Teq K T.C) E r) (.ref p) (.ref q) H (.bl r) := fun H1 e Q k => by
  obtain ⟨h1, n1⟩ := m.ex e
  obtain ⟨h2, n2⟩ := m'.ex e
  obtain ⟨dx, la, ls, q1⟩ := id n1
  obtain ⟨dx', la', ls', q2⟩ := id n2
  exact ⟨p, q, t, t', "made", dx, dx', _, _, rfl, rfl, h1, h2, hne, q1.ob, q2.ob, .inl ⟨t, t', ps, st, ps, st, rfl, n1, n2, fun H2 e2 => ⟨by rw [decide_eq_true rfl, decide_eq_true rfl]; rfl, e2 _ _ h1, e2 _ _ h2, k H2 e2⟩⟩⟩
theorem mc_ne {t t' q : Addr} {E : XK} (ok : an.ok = true) (hne : ∀ ps st, an = .yes ps st → t ≠ t') (m : MetC T.C H p t an) (m' : MetC T.C H q t' an) : RV (fun x y H Q => rNeD K x y H Q ∨ rEqM T.C (sp_Teq K T.C) E false x y H Q) (.ref p) (.ref q) H (.bl false) := by
  cases an with
  | no xs => exact rv_orL (rv_tellN (sq_of m) (sq_of m') ok)
  | yes ps st => exact rv_orR (mc_eqM (hne _ _ rfl) m m')
theorem ev_neLL {l : List Nat} (h : EvL te σ H (l.map nV)) (hb : Ev tb σ H (.ref r)) (hr : H r = some (.lst (l.map nV))) : Ev (tOp (rNeD K) te tb) σ H (.bl false) := ev_is (ev_neE (ed_n h) (ed_r hb (das_nats (sq_of hr))) (shaped_nats l) (shaped_nats l)) (by rw [eqv_nB, decide_eq_true rfl]; rfl)
theorem ev_neT {E : XK} (h : Ev te σ H (.ref t)) (ht : TreeAt C H t ps st) (hb : EvTr C tb σ H ps st) : Ev (tOp (rNeOwn K C (sp_Teq K C) E) te tb) σ H (.bl false) := fun H1 e Q q => h H1 e _ fun H2 e2 => hb H2 (e.trans e2) _ fun t' H3 e3 ht' => by
  have z := rv_neTr (K := K) (E := E) (ht.ex ((e.trans e2).trans e3)) ht'
  rw [decide_eq_true rfl, decide_eq_true rfl] at z
  exact z H3 (Ex.refl H3) Q fun H4 e4 => q H4 ((e2.trans e3).trans e4)
theorem dueL_head {g : Nat} (h : dueL ps st g = some xs) : ∃ (m : Str) (rest : List V), xs = .str m :: rest ∧ decide (V.str m = V.str "made") = false := by
  unfold dueL at h
  split at h
  · cases h; exact ⟨_, _, rfl, by decide⟩
  · split at h
    · cases h; exact ⟨_, _, rfl, by decide⟩
    · split at h
      · cases h; exact ⟨_, _, rfl, by decide⟩
      · cases h
theorem adds_is {g : Nat} (ok : StOk ps st) (hg : g ≤ ps.length) (hn : g ∉ st) : adds ps st g = srt (st ++ [g]) := by
  have nd : (st ++ [g]).Nodup := List.nodup_append.mpr ⟨ok.nd, List.nodup_cons.mpr ⟨List.not_mem_nil, List.nodup_nil⟩, fun a ha b hb e => hn (by rw [← List.mem_singleton.mp hb, ← e]; exact ha)⟩
  rw [← srt_filter (n := ps.length) nd fun x hx => by
    rcases List.mem_append.mp hx with z | z
    · exact (ok.bd x z).2
    · rw [List.mem_singleton.mp z]
      exact hg]
  unfold adds
  refine congrArg (fun f => List.filter f (List.range (ps.length + 1))) (funext fun c => ?_)
  rw [← Bool.decide_or]
  exact decide_eq_decide.mpr ⟨fun z => z.elim (List.mem_append_left _) fun e => List.mem_append_right _ (List.mem_singleton.mpr e), fun z => (List.mem_append.mp z).imp id List.mem_singleton.mp⟩
theorem due_none {g : Nat} (h : dueL ps st g = none) : 1 ≤ g ∧ g ∉ st ∧ Bare ps st g := by
  unfold dueL at h
  split at h
  · cases h
  · rename_i h0
    split at h
    · cases h
    · rename_i h1
      split at h
      · cases h
      · rename_i h2
        exact ⟨by omega, h1, loose_no.mp (Bool.eq_false_iff.mpr h2)⟩
end
section
variable {K : PySem.W.Frag} {mg : Str → Option Value} {C : Addr} {T : Txt K mg} {H H' B : Hp} {a r t u l p : Addr} {ps st : List Nat} {σ : L2.St} {te ta tb : TE} {tt : TT} {an : Ans} {xs : List V} {g : Nat} {Er : XK}
theorem cor_ne {b : Addr} {o : HO} (h : cor a H b = some o) : b ≠ a := fun z => by
  rw [show cor a H b = none from holes_in (by rw [z]; exact List.mem_singleton.mpr rfl)] at h
  cases h
/-- what the law wants -/
def Want (G : Hp) (p m : Addr) : Ans → Prop
  | .no xs => G p = some (.lst xs)
  | .yes _ st => G p = some (.lst [.str "made", .ref m]) ∧ G m = some (.lst (st.map nV))
theorem Want.ex {G G' : Hp} {m : Addr} (h : Want G p m an) (e : Ex G G') : Want G' p m an := by
  cases an with
  | no xs => exact e _ _ h
  | yes ps st => exact ⟨e _ _ h.1, e _ _ h.2⟩
theorem due_go {E : XK} {Q : VK} (pa : PotAt H a) (hu : H u = some (.lst (upsV ps))) (hl : H l = some (.lst (st.map nV))) (hn : ps.length ≤ 199) (hg : g ≤ ps.length) (ok : StOk ps st) (k : ∀ p m H8, Ex H H8 → Want (cor a H8) p m (strikeAns ps st g) → Q (.ref p) H8) : sp_LdueH [.ref u, .ref l, nV g] H Q E :=
  ⟨u, l, ps, st, g, rfl, hu, hl, hn, hg, fun xs hx p H8 hp e8 h8 => k p p H8 e8 (by
    unfold strikeAns
    rw [hx]
    exact cor_at h8 (fun _ z => nomatch z) (pot_ne pa hp)), fun hn' H8 p m hp hm e8 h8 h9 => k p m H8 e8 (by
    obtain ⟨h1, h2, h3⟩ := due_none hn'
    unfold strikeAns
    rw [hn']
    refine ⟨cor_at h8 (fun _ z => nomatch z) (pot_ne pa hp), ?_⟩
    rw [← adds_is ok hg h2]
    exact cor_at h9 (fun _ z => nomatch z) (pot_ne pa hm))⟩
theorem etr_is {st' : List Nat} (h : EvTr C te σ H ps st) (e : st = st') : EvTr C te σ H ps st' := by
  rw [← e]
  exact h
theorem el_ifT (h : EvT tt σ H true) (hb : EvL ta σ H xs) : EvL (tIf tt ta tb) σ H xs := fun H1 e Q q => if_raw (fun H2 e2 => h H2 (e.trans e2)) fun H2 e2 => hb H2 (e.trans e2) Q fun p H3 hp e3 h3 => q p H3 (fresh_back e2 hp) (e2.trans e3) h3
/-- a new answer -/
def EvMade (C : Addr) (te : TE) (σ : L2.St) (H : Hp) (ps st : List Nat) : Prop := ∀ H1, Ex H H1 → ∀ Q : VK, (∀ p t' H2, Ex H1 H2 → H1 t' = none → MetC C H2 p t' (.yes ps st) → Q (.ref p) H2) → te σ H1 Q
theorem em_new (h : EvTn C te σ H ps st) : EvMade C (tLst (tCons (tC (.str "made")) (tCons te tNil))) σ H ps st := fun H1 e Q q => h H1 e _ fun t H2 e2 hT => ⟨sz_of (by show 2 ≤ 100000; omega), fun p hp => q p t _ (e2.trans (Ex.new hp)) (by
  obtain ⟨dx, la, ls, _, r1, _⟩ := hT
  exact r1) ⟨upd_same, hT.now.ex (Ex.new hp)⟩⟩
theorem em_ifF (h : EvT tt σ H false) (hb : EvMade C tb σ H ps st) : EvMade C (tIf tt ta tb) σ H ps st := fun H1 e Q q => if_rawF (fun H2 e2 => h H2 (e.trans e2)) fun H2 e2 => hb H2 (e.trans e2) Q fun p t' H3 e3 n m => q p t' H3 (e2.trans e3) (fresh_back e2 n) m
theorem mc_neL {r' : R2} (hx : Ev te σ H (.ref p)) (h : H p = some (.lst xs)) (hb : EvL tb σ H xs) (ok : xs.all tell = true) : Ev (tOp (fun x y H Q => rNeD K x y H Q ∨ r' x y H Q) te tb) σ H (.bl false) := fun H1 e Q q => hx H1 e _ fun H2 e2 => hb H2 (e.trans e2) _ fun r H3 hr e3 h3 => .inl (rv_tellN (sq_of (((e.trans e2).trans e3) _ _ h)) (sq_of h3) ok H3 (Ex.refl H3) Q fun H4 e4 => q H4 ((e2.trans e3).trans e4))
theorem mc_neY (hx : Ev te σ H (.ref p)) (m : MetC T.C H p t (.yes ps st)) (hb : EvMade T.C tb σ H ps st) : Ev (tOp (fun x y H Q => rNeD K x y H Q ∨ rEqM T.C (sp_Teq K T.C) Er false x y H Q) te tb) σ H (.bl false) := fun H1 e Q q => hx H1 e _ fun H2 e2 => hb H2 (e.trans e2) _ fun p' t' H3 e3 n m3 => .inr (mc_eqM (ne_of_none (show H2 t = some _ from (by
    obtain ⟨_, dx, la, ls, q1⟩ := m.ex (e.trans e2)
    exact ⟨_, q1.ob⟩ : ∃ o, H2 t = some o).choose_spec) n) (m.ex ((e.trans e2).trans e3)) m3 H3 (Ex.refl H3) Q fun H4 e4 => q H4 ((e2.trans e3).trans e4))
theorem lc_Lr {j : Nat} {vs : List Nat} {tl : TE} {Q : VK} (Pv : Addr → Nat → Hp → Prop) (h : Ev tl σ H (.ref r)) (hx : SqL K H r xs) (h0 : ∀ H1 Dl, Ex H H1 → H1 Dl = none → Pv Dl 0 (upd H1 Dl (.lst []))) (hl : ∀ Dl i H', Pv Dl i H' → SqL K H' r xs)
    (hs : ∀ Dl i x H', xs[i]? = some x → Pv Dl i H' → wipe ((wipe σ vs).set j (some x)) vs = wipe σ vs ∧ tt ((wipe σ vs).set j (some x)) H' fun b H3 => if b = true then te ((wipe σ vs).set j (some x)) H3 fun y H4 => ∃ acc, H4 Dl = some (.lst acc) ∧ acc.length < sizeLine ∧ Pv Dl (i + 1) (upd H4 Dl (.lst (acc ++ [y]))) else Pv Dl (i + 1) H3)
    (hd : ∀ Dl H', Pv Dl xs.length H' → Q (.ref Dl) H') : tLc (iList K tl) (gName j) tt te vs σ H Q := h H (Ex.refl H) _ fun H1 e1 => ⟨r, rfl, ⟨xs, ex_l e1 hx⟩, fun Dl hD => lc_list (xs := xs) (Pv Dl) (h0 H1 Dl e1 hD) (fun i H' _ p => hl Dl i H' p) (fun i x H' hi p => hs Dl i x H' hi p) (fun H' p => hd Dl H' p)⟩
end
section
variable {K : PySem.W.Frag} {σ : L2.St} {H : Hp} {te tb : TE} {D : Ends} {tt : TT} {tu tw tz : TS}
theorem s_two {i j : Nat} (h : te σ H fun x H1 => tb σ H1 fun y H2 => [x, y].length ≤ sizeLine ∧ ∀ p, H2 p = none → gTup K 2 (gCons (gName i) (gCons (gName j) gNil)) (.ref p) σ (upd H2 p (.tup [x, y])) D.nx) : tAsg (tTup (tCons te (tCons tb tNil))) (gTup K 2 (gCons (gName i) (gCons (gName j) gNil))) D σ H := h
theorem got_N {i j : Nat} {x y : V} {N : L2.St → Hp → Prop} (k : ∀ H3, Ex H H3 → N ((σ.set i (some x)).set j (some y)) H3) : [x, y].length ≤ sizeLine ∧ ∀ p, H p = none → gTup K 2 (gCons (gName i) (gCons (gName j) gNil)) (.ref p) σ (upd H p (.tup [x, y])) N :=
  ⟨sz_of (by show 2 ≤ 100000; omega), fun p hp => ⟨p, _, rfl, st_of upd_same, rfl, _, _, rfl, _, _, rfl, rfl, k _ (Ex.new hp)⟩⟩
theorem q_ifRaw (h : tt σ H fun b H1 => if b = true then tu { D with nx := tz D } σ H1 else tw { D with nx := tz D } σ H1) : tSeq (tIfS tt tu tw) tz D σ H := h
theorem not_raw {Q : Bool → Hp → Prop} (h : tt σ H fun b H1 => Q (!b) H1) : tNot tt σ H Q := h
theorem B_raw {Q : Bool → Hp → Prop} (h : te σ H fun x H1 => ∃ b, x = .bl b ∧ Q b H1) : tB te σ H Q := h
theorem cb1_raw {r : List V → Hp → VK → Prop} {Q : VK} (h : te σ H fun x H1 => r [x] H1 Q) : tCB r (tCons te tNil) σ H Q := h
end
end My
namespace My
open PySem PySem.Spec PyProof.Rows L2 GL Evl StX SkE
def sp_LrightH {K : PySem.W.Frag} {mg : Str → Option Value} (T : Txt K mg) : Sp := fun vs H Q _ => ∃ a, vs = [.ref a] ∧ PotAt H a ∧ LamX.Tabs T.tabs H ∧ ∀ H', Ex (cor a H) H' → LamX.Tabs T.tabs H' → Q (.bl true) H'
section
variable {P : Program} {w : World} {K : PySem.W.Frag} {mg : Str → Option Value} {base : Heap} {C : Addr} {H H' : Hp} {σ : L2.St} {te ta tb tl tx : TE} {tA : TA} {tz : TS} {D : Ends} {xs ys vs : List V} {x : V} {a r l u t : Addr} {ps ls st : List Nat} {an : Ans} {g : Nat}
theorem tree_c {G : Hp} (pa : PotAt G a) (h : TreeNew C G H t ps st) : TreeAt C (cor a H) t ps st := by
  obtain ⟨dx, la, ls, q, r1, r2, r3⟩ := h
  exact ⟨dx, la, ls, ⟨cor_at q.ob (fun _ z => nomatch z) (pot_ne pa r1), cor_at q.ab (fun _ z => nomatch z) (pot_ne pa r2), cor_at q.sk (fun _ z => nomatch z) (pot_ne pa r3)⟩⟩
theorem par_raw {i j : Nat} {te tb : TE} (h : te σ H fun x H1 => tb σ H1 fun y H2 => ∃ u v, [x, y] = [u, v] ∧ tz D ((σ.set i (some u)).set j (some v)) H2) : tSeq (tPar i j (tCons te (tCons tb tNil))) tz D σ H := h
theorem cons_dnew {Q : List V → Hp → Prop} (k : ∀ p, H p = none → tA σ (upd H p (.dK [])) fun xs H2 => Q (.ref p :: xs) H2) : tCons tDNewK tA σ H Q := k
theorem cons_disp {Q : List V → Hp → Prop} (k : ∀ p, H p = none → tA σ (upd (upd H p (.dK [])) p (.dK (mergeK [] [(.inl 1, .int 1)]))) fun xs H2 => Q (.ref p :: xs) H2) : tCons (tDisp [(tC (.int 1), tC (.int 1))]) tA σ H Q := fun p hp => ⟨upd_same, [(.inl 1, .int 1)], rfl, by show 1 ≤ 15; omega, k p hp⟩
theorem ok_Lright (T : Txt K mg) (G_Lups : FnG P w K mg base CX0 2 T.f_Lups T.fd_Lups ["_law_pot_here", "_law_most"] sp_Lups) (G_Tinit : FnG P w K mg base CX0 3 T.f_Tinit T.fd_Tinit ["self", "parents", "struck"] (sp_Tinit K T.C)) (G_Ldraw : FnG P w K mg base CX0 1 T.f_Ldraw T.fd_Ldraw ["_law_pot_here", "_law_sides"] sp_Ldraw) (G_Trepr : FnG P w K mg base CX0 2 T.f_Trepr T.fd_Trepr ["self"] (sp_Trepr T.C)) (G_Ldue : FnG P w K mg base CX0 2 T.f_Ldue T.fd_Ldue ["_law_ups_here", "_law_marks", "_law_spot"] sp_LdueH) (G_Twith_struckX : FnG P w K mg base (L2.CX P w) 6 T.f_Twith_struck T.fd_Twith_struck ["self", "group"] (sp_TwsX T.C T.C_IsTop T.C_Struck T.C_HasChildren)) (G_Teq : FnG P w K mg base CX0 1 T.f_Teq T.fd_Teq ["self", "other"] (sp_Teq K T.C)) (G_Tstruck : FnG P w K mg base CX0 1 T.f_Tstruck T.fd_Tstruck ["self"] (sp_Tstruck T.C)) (G_Twith_groupX : FnG P w K mg base (L2.CX P w) 6 T.f_Twith_group T.fd_Twith_group ["self", "group"] (sp_TwgX T.C T.C_Struck)) (G_Llist_right : FnG P w K mg base CX0 12 T.f_Llist_right T.fd_Llist_right ["_law_ups_here", "_law_some"] (sp_Llr T)) (G_Lspoilt : FnG P w K mg base CX0 3 T.f_Lspoilt T.fd_Lspoilt ["_law_pot_here", "_law_ups_here", "_law_marks"] (sp_Lspoilt K)) (G_TinitX : FnG P w K mg base (L2.CX P w) 3 T.f_Tinit T.fd_Tinit ["self", "parents", "struck"] (sp_TinitX K w T.C T.C_InvalidStruck)) (tb_Lright : LamX.TabB base mg T.c_Lright T.p_Lright) : FnG P w K mg base CX0 14 T.f_Lright T.fd_Lright ["_law_pot_here"] (sp_LrightH T) := by
  refine okGT T.FT_Lright sc_Lright (fun vs H Q E h => ?_) (fun A outer s H vs Q E gd hr h => ?_)
  · obtain ⟨_, rfl, _⟩ := h
    all_goals rfl
  · obtain ⟨a, rfl, hp, hT, q⟩ := h
    refine ⟨_, (pss_cons (ps_set (i := 10) sc_Lright.nd rfl (Or.inr rfl) (pc gd G_Lups (hr.mono (by decide)) (by rfl) T.m_Lups T.F_Lups.kp T.b_Lups .nil pass0 (pa_cons (pv 0) (pa_cons pe_int pa_nil)))) (pss_cons (ps_asg (pe_tup (pa_cons (pk gd T.mk_Tree G_Tinit (hr.mono (by decide)) (by rfl) T.m_Tree T.b1_Tinit T.v1_Tinit pass0 (pa_cons (pe_slice sl_list (pv 10) (po_some pe_int) po_none) pa_nil)) (pa_cons (pe_lst pa_nil) pa_nil))) (pg_tup rfl (pgs_cons (pg_name (i := 8) sc_Lright.nd rfl (Or.inr rfl) (Or.inl rfl)) (pgs_cons (pg_name (i := 1) sc_Lright.nd rfl (Or.inr rfl) (Or.inl rfl)) pgs_nil)))) (pss_cons (ps_for PassesOwn.never rfl (pi_range1 (by rfl) T.z_range (pa_cons pe_int pa_nil)) (pg_name (i := 2) sc_Lright.nd rfl (Or.inl rfl) (Or.inr rfl)) (Evl.pss_cut (ps_asg (pe_tup (pa_cons (pc gd G_Ldraw (hr.mono (by decide)) (by rfl) T.m_Ldraw T.F_Ldraw.kp T.b_Ldraw .nil pass0 (pa_cons (pv 0) (pa_cons (pe_callB call_len_seq (by rfl) T.z_len PySem.boot_len (pa_cons (pv 10) pa_nil)) pa_nil))) (pa_cons (pe_callB (call_reprG gd G_Trepr (hr.mono (by decide)) (roomU hr) T.b_Trepr T.M_Trepr.at_ T.M_Trepr.fn pass0) (by rfl) T.z_repr boot_repr (pa_cons (pv 8) pa_nil)) pa_nil))) (pg_tup rfl (pgs_cons (pg_name (i := 9) sc_Lright.nd rfl (Or.inr rfl) (Or.inl rfl)) (pgs_cons (pg_name (i := 3) sc_Lright.nd rfl (Or.inl rfl) (Or.inr rfl)) pgs_nil)))) (pss_cons (ps_par (i := 4) (j := 5) rfl sc_Lright.nd rfl rfl (by decide) rfl rfl (pa_cons (pc gd G_Ldue (hr.mono (by decide)) (by rfl) T.m_Ldue T.F_Ldue.kp T.b_Ldue .nil pass0 (pa_cons (pv 10) (pa_cons (pv 1) (pa_cons (pv 9) pa_nil)))) (pa_cons (pe_lamG (k := 8) gd (by rfl) T.m_Lheard T.F_Lheard T.b_Lheard sc_Lheard rfl (by first | exact Or.inl rfl | exact Or.inr (Or.inl rfl)) (heard_gives T rfl rfl) tb_Lright rfl T.tab_Lright T.one_Lright (hr.mono (by decide)) (show LamX.LamS (defScope s_Lright) _ from LamX.lamS_by (by decide +kernel)) rfl (fun _ _ _ _ _ => rfl) (fun A outer s H E f c gd hr => (pm gd (pv 8) T.c_Tree T.M_Twith_struck G_Twith_struckX (hr.mono (by decide)) T.b_Twith_struck .nil (passes_call (takes_of rfl rfl rfl rfl) fun _ _ _ _ z => z) (pa_cons (pv 9) pa_nil)))) pa_nil)) (by rfl)) (pss_cons (ps_set (i := 6) sc_Lright.nd rfl (Or.inl rfl) (pe_lamG (k := 8) gd (by rfl) T.m_Lheard T.F_Lheard T.b_Lheard sc_Lheard rfl (by first | exact Or.inl rfl | exact Or.inr (Or.inl rfl)) (heard_gives T rfl rfl) tb_Lright rfl T.tab_Lright T.one_Lright (hr.mono (by decide)) (show LamX.LamS (defScope s_Lright) _ from LamX.lamS_by (by decide +kernel)) rfl (fun _ _ _ _ _ => rfl) (fun A outer s H E f c gd hr => (pmK gd (pv 8) T.c_Tree T.M_Twith_struck G_Twith_struckX (hr.mono (by decide)) T.k_Twith_struck_group (passes_call (takes_of rfl rfl rfl rfl) fun _ _ _ _ z => z) (pk_cons (pv 9) pk_nil))))) (pss_cons (ps_if ((pw_or (pt_cmpR (op_or (op_neD (roomU hr)) (op_neM gd G_Teq (hr.mono (by decide)) (roomU hr) T.b_Teq T.M_Teq.at_ T.M_Teq.fn pass0)) (pv 5) (pv 6) (nomark _)) (pw_or1 (pt_cmpR op_ne (pe_callB (call_reprG gd G_Trepr (hr.mono (by decide)) (roomU hr) T.b_Trepr T.M_Trepr.at_ T.M_Trepr.fn pass0) (by rfl) T.z_repr boot_repr (pa_cons (pv 8) pa_nil)) (pv 3) (nomark _))))).pt (pss_one (ps_ret pe_bl)) pss_nil) (Evl.pss_cut (ps_if (pt_cmpR op_eq (pe_ix ix_list (pv 4) pe_int (fun _ _ => rfl)) pe_str (nomark _)) (pss_cons (ps_if ((pw_or (pt_cmpR op_ne (pe_ix ix_list (pv 5) pe_int (fun _ _ => rfl)) pe_str (nomark _)) (pw_or (pt_cmpR (op_neD (roomU hr)) (pm0 gd (pe_ix ix_list (pv 5) pe_int (fun _ _ => rfl)) T.c_Tree T.M_Tstruck G_Tstruck (hr.mono (by decide)) T.b_Tstruck .nil pass0) (pe_ix ix_list (pv 4) pe_int (fun _ _ => rfl)) (nomark _)) (pw_or1 (pt_cmpR (show OpR _ (compareOp .NotEq) (rNeOwn K T.C (sp_Teq K T.C) E0) from (op_neOwn gd G_Teq (hr.mono (by decide)) (roomU hr) T.b_Teq T.M_Teq.at_ T.M_Teq.fn T.x_ne T.x_mro pass0)) (pe_ix ix_list (pv 5) pe_int (fun _ _ => rfl)) (pk gd T.mk_Tree G_Tinit (hr.mono (by decide)) (by rfl) T.m_Tree T.b2_Tinit T.v2_Tinit pass0 (pa_cons (pe_slice sl_list (pv 10) (po_some pe_int) po_none) (pa_cons (pe_revL (pe_ix ix_list (pv 4) pe_int (fun _ _ => rfl))) pa_nil))) (nomark _)))))).pt (pss_one (ps_ret pe_bl)) pss_nil) (pss_one (ps_asg (pe_tup (pa_cons (pe_ix ix_list (pv 5) pe_int (fun _ _ => rfl)) (pa_cons (pe_ix ix_list (pv 4) pe_int (fun _ _ => rfl)) pa_nil))) (pg_tup rfl (pgs_cons (pg_name (i := 8) sc_Lright.nd rfl (Or.inr rfl) (Or.inl rfl)) (pgs_cons (pg_name (i := 1) sc_Lright.nd rfl (Or.inr rfl) (Or.inl rfl)) pgs_nil)))))) (pss_one (ps_if (pt_cmpR (op_neD (roomU hr)) (pv 5) (pv 4) (nomark _)) (pss_one (ps_ret pe_bl)) pss_nil))) (pss_cons (ps_set (i := 5) sc_Lright.nd rfl (Or.inl rfl) (pe_lamG (k := 8) gd (by rfl) T.m_Lheard T.F_Lheard T.b_Lheard sc_Lheard rfl (by first | exact Or.inl rfl | exact Or.inr (Or.inl rfl)) (heard_gives T rfl rfl) tb_Lright rfl T.tab_Lright T.one_Lright (hr.mono (by decide)) (show LamX.LamS (defScope s_Lright) _ from LamX.lamS_by (by decide +kernel)) rfl (fun _ _ _ _ _ => rfl) (fun A outer s H E f c gd hr => (pm gd (pv 8) T.c_Tree T.M_Twith_group G_Twith_groupX (hr.mono (by decide)) T.b_Twith_group .nil (passes_call (takes_of rfl rfl rfl rfl) fun _ _ _ _ z => z) (pa_cons (pv 9) pa_nil))))) (pss_one (ps_if (pt_cmpR (op_or (op_neD (roomU hr)) (op_neM gd G_Teq (hr.mono (by decide)) (roomU hr) T.b_Teq T.M_Teq.at_ T.M_Teq.fn pass0)) (pv 5) (pe_ifExp (pt_cmpR op_in_seq (pv 9) (pv 1) (by rfl)) (pe_lst (pa_cons pe_str (pa_cons (pe_callB call_repr_int (by rfl) T.z_repr boot_repr (pa_cons (pv 9) pa_nil)) (pa_cons pe_bl pa_nil)))) (pe_lst (pa_cons pe_str (pa_cons (pk gd T.mk_Tree G_Tinit (hr.mono (by decide)) (by rfl) T.m_Tree T.b2_Tinit T.v2_Tinit pass0 (pa_cons (pe_op op_cat (pe_slice sl_list (pv 10) (po_some pe_int) po_none) (pe_lst (pa_cons (pv 9) pa_nil))) (pa_cons (pv 1) pa_nil))) pa_nil)))) (nomark _)) (pss_one (ps_ret pe_bl)) pss_nil))))))))) (pss_cons (ps_if (pt_not (pt_val (pe_callB (cr_all rfl) (by rfl) T.z_all boot_all (pa_cons (pe_lc (own := [("_law_turn", 2)]) (g := gName 2) rfl sc_Lright.nd (pi_range1 (by rfl) T.z_range (pa_cons pe_int pa_nil)) (blkOk_by (N := N_Lright) (sc := defScope s_Lright) (by decide +kernel)) (fun _ _ _ _ _ => (pg_name (i := 2) sc_Lright.nd rfl (Or.inl rfl) (Or.inr rfl))) (fun _ _ _ _ _ => pts_nil) (fun _ _ _ _ _ => (pc gd G_Llist_right (hr.mono (by decide)) (by rfl) T.m_Llist_right T.F_Llist_right.kp T.b_Llist_right .nil pass0 (pa_cons (pv 10) (pa_cons (pc gd G_Lspoilt (hr.mono (by decide)) (by rfl) T.m_Lspoilt T.F_Lspoilt.kp T.b_Lspoilt .nil pass0 (pa_cons (pv 0) (pa_cons (pv 10) (pa_cons (pv 1) pa_nil)))) pa_nil))))) pa_nil)))) (pss_one (ps_ret pe_bl)) pss_nil) (pss_cons (ps_set (i := 7) sc_Lright.nd rfl (Or.inl rfl) (pe_lst (pa_cons pe_non (pa_cons pe_int (pa_cons pe_str (pa_cons pe_dnewK (pa_cons (pe_disp (pps_cons pe_int pe_int pps_nil) rfl rfl (by simp) (by simp)) (pa_cons pe_bl (pa_cons (pv 8) pa_nil))))))))) (pss_one (ps_ret (pe_callB (cr_all rfl) (by rfl) T.z_all boot_all (pa_cons (pe_lc (own := [("_law_near", 11)]) (g := gName 11) rfl sc_Lright.nd (pi_list (pv 7)) (blkOk_by (N := N_Lright) (sc := defScope s_Lright) (by decide +kernel)) (fun _ _ _ _ _ => (pg_name (i := 11) sc_Lright.nd rfl (Or.inr rfl) (Or.inl rfl))) (fun _ _ _ _ _ => pts_nil) (fun _ _ _ _ _ => (pe_cmpR (show OpR _ (compareOp .Eq) (rEqD K) from op_eqD (roomU hr)) (pe_lamG (k := 8) gd (by rfl) T.m_Lheard T.F_Lheard T.b_Lheard sc_Lheard rfl (by first | exact Or.inl rfl | exact Or.inr (Or.inl rfl)) (heard_gives T rfl rfl) tb_Lright rfl T.tab_Lright T.one_Lright (hr.mono (by decide)) (⟨rfl, rfl, rfl, by decide +kernel, fun y hy e => (List.mem_cons.mp hy).elim (fun q => by subst q; exact Or.inl rfl) fun hy => (List.mem_cons.mp hy).elim (fun q => by subst q; exact Or.inl rfl) fun hy => (List.mem_cons.mp hy).elim (fun q => by subst q; cases e) fun hy => absurd hy List.not_mem_nil⟩ : LamX.LamS _ _) rfl (fun _ _ _ _ _ => rfl) (fun A outer s H E f c gd hr => (pk gd T.mk_Tree G_TinitX (hr.mono (by decide)) (by rfl) T.m_Tree T.b2_Tinit T.v2_Tinit (passes_call (takes_of rfl rfl rfl rfl) fun _ _ _ _ z => z) (pa_cons (pe_slice (show SlR _ (rSlL K) from sl_list) (pv 10) (po_some pe_int) po_none) (pa_cons (pv 11) pa_nil))))) (pe_lst (pa_cons pe_str (pa_cons pe_str (pa_cons pe_bl pa_nil)))) (nomark _)))) pa_nil))))))))), ?_⟩
    have d1 : ∀ H, Seq K H T.d1_Tinit [] := fun H => Seq.kst (fun H => T.e1_Tinit H) (fun H => T.y1_Tinit H)
    have no : ∀ {m : Str} {la ls : Addr}, ¬ m = "_struck" → ¬ m = "_above" → (tf la ls).lookup m = none := fun h1 h2 => tf_no _ _ h1 h2
    have s0 : Sit T (cor a H) a H := ⟨Ex.refl _, hp, hT⟩
    refine q_asgR (ea_cons (ev_var rfl) (ea_cons ev_c ea_nil) H (Ex.refl H) _ fun H0 e0 => ⟨a, 10, rfl, hp.ex e0, by omega, fun H1 u ps hu0 x1 p1 hu1 hg l10 => ?_⟩)
    have s1 := (s0.ex e0).exB x1 p1
    have nua : u ≠ a := by
      obtain ⟨x, y, hx, _⟩ := id p1
      intro e
      rw [e, hx] at hu1
      exact nomatch (List.cons.inj (HO.lst.inj (Option.some.inj hu1))).1
    refine pair_two (tn_1 (K := K) (ps := ps) d1 (es_l (el_tail (sq_of hu1) (ev_var rfl))) hg (by omega) H1 (Ex.refl H1) _ fun t H2 e2 hT2 => el_lst (vs := []) ea_nil (Nat.zero_le _) H2 (Ex.refl H2) _ fun l H3 hl3 e3 h3 => got_two fun H4 e4 => ?_)
    have s4 := s1.ex (e2.trans (e3.trans e4))
    have now4 : Now T.C (cor a H4) t u l ps [] := ⟨(tree_c p1 hT2).ex (cor_ex (e3.trans e4)), cor_ex (e2.trans (e3.trans e4)) _ _ (cor_at hu1 (fun _ z => nomatch z) nua), cor_ex e4 _ _ (cor_at h3 (fun _ z => nomatch z) (pot_ne (p1.ex e2) hl3)), hg, StOk.nil ps, srt_nil, l10⟩
    show tSeq _ _ _ [some (.ref a), some (.ref l), none, none, none, none, none, none, some (.ref t), none, some (.ref u), none] H4
    refine q_forR1 (n := 14) (ea_cons ev_c ea_nil) (by omega) (fun i σ' H' => ∃ t l st y2 y3 y4 y5 y6 y9, σ' = [some (.ref a), some (.ref l), y2, y3, y4, y5, y6, none, some (.ref t), y9, some (.ref u), none] ∧ Sit T (cor a H) a H' ∧ Now T.C (cor a H') t u l ps st) (fun H5 e5 => ⟨_, _, _, _, _, _, _, _, _, rfl, s4.ex e5, now4.ex (cor_ex e5)⟩) (fun i σ' H5 hi z => ?_) (fun σ' H5 z => ?_)
    · obtain ⟨t, l, st, y2, y3, y4, y5, y6, y9, rfl, s5, n5⟩ := z
      show tCut _ _ _ [some (.ref a), some (.ref l), some (.int (i : Int)), y3, y4, y5, y6, none, some (.ref t), y9, some (.ref u), none] H5
      have m5 := n5.ex cor_sub
      refine q_cut (M := fun σ' H' => ∃ g, g ≤ ps.length ∧ σ' = [some (.ref a), some (.ref l), some (.int (i : Int)), some (.str (tsh ps st)), y4, y5, y6, none, some (.ref t), some (nV g), some (.ref u), none] ∧ Sit T (cor a H) a H' ∧ Now T.C (cor a H') t u l ps st) ?_ fun σ' H6 z => ?_
      · refine s_two (dr (n := ps.length + 1) (ea_cons (ev_var rfl) (ea_cons (ea_len (ev_var rfl) (sq_of m5.up)) ea_nil)) s5.pot (by omega) (by omega) fun H6 g x6 p6 hg6 => ?_)
        have n6 := n5.ex (cor_exB x6)
        exact (ev_cb (ea_cons (ev_var rfl) ea_nil) (rc_reprT (n6.ex cor_sub).tr n6.gd (by have := n6.le; omega) n6.ok)) H6 (Ex.refl H6) _ fun H7 e7 => got_N fun H8 e8 => ⟨g, by omega, rfl, (s5.exB x6 p6).ex (e7.trans e8), n6.ex (cor_ex (e7.trans e8))⟩
      obtain ⟨g, hg6, rfl, s6, n6⟩ := z
      have le10 := n6.le
      have lst := n6.st_le
      have m6 := n6.ex cor_sub
      have okA := strikeAns_ok ps st g
      have z6 := n6.ex cor_noT
      obtain ⟨dx, la, ls, tp⟩ := id z6.tr
      -- wanted, met
      refine par_raw (ea_cons (ev_var rfl) (ea_cons (ev_var rfl) (ea_cons (ev_var rfl) ea_nil)) H6 (Ex.refl H6) _ fun H7 e7 => due_go (a := a) (s6.pot.ex e7) (e7 _ _ m6.up) (e7 _ _ m6.lo) (by omega) hg6 n6.ok fun p m H8 e8 w8 => ?_)
      have e68 := e7.trans e8
      refine eh_of (T := T) (an := strikeAns ps st g) (H := H6) (eb_ws (fs := tf la ls) (no (by decide +kernel) (by decide +kernel)) tp.ob z6.tr (ev_var rfl) (ev_var rfl) z6.gd (by omega) hg6 z6.ok (by omega)) H8 (noT_sub.trans e68) (s6.tb.ext e68) _ fun p2 t2 H9 x9 T9 m9 => ⟨_, _, rfl, ?_⟩
      have s8 := s6.ex e68
      have s9 := s8.lam x9 T9
      have c9 := met_c s8.pot m9
      have w9 := w8.ex (cor_lam x9)
      have n9 := (n6.ex (cor_ex e68)).ex (cor_lam x9)
      show tSeq _ _ _ [some (.ref a), some (.ref l), some (.int (i : Int)), some (.str (tsh ps st)), some (.ref p), some (.ref p2), y6, none, some (.ref t), some (nV g), some (.ref u), none] H9
      -- again
      have z9 := n9.ex cor_noT
      obtain ⟨dx9, la9, ls9, tp9⟩ := id z9.tr
      refine q_asgR (eh_of (T := T) (an := strikeAns ps st g) (H := H9) (eb_wsK (fs := tf la9 ls9) (fun _ _ => rfl) (no (by decide +kernel) (by decide +kernel)) tp9.ob z9.tr (ev_var rfl) (ev_var rfl) z9.gd (by omega) hg6 z9.ok (by omega)) H9 noT_sub s9.tb _ fun p3 t3 H10 x10 T10 m10 => ?_)
      have s10 := s9.lam x10 T10
      have c10 := c9.ex (cor_lam x10)
      have d10 := met_c s9.pot m10
      have w10 := w9.ex (cor_lam x10)
      have n10 := n9.ex (cor_lam x10)
      have ne10 := met_new m9 m10
      have o10 := n10.ex cor_sub
      show tSeq _ _ _ [some (.ref a), some (.ref l), some (.int (i : Int)), some (.str (tsh ps st)), some (.ref p), some (.ref p2), some (.ref p3), none, some (.ref t), some (nV g), some (.ref u), none] H10
      refine q_when (b := false) (et_or (a := false) (b := false) (et_test (ev_op (ev_var rfl) (ev_var rfl) (mc_ne okA ne10 (c10.ex cor_sub) (d10.ex cor_sub)))) fun _ => et_same (ev_cb (ea_cons (ev_var rfl) ea_nil) (rc_reprT o10.tr o10.gd (by omega) o10.ok)) (ev_var rfl)) (fun z => nomatch z) fun _ H11 e11 => ?_
      have s11 := s10.ex e11
      have n11 := n10.ex (cor_ex e11)
      have c11 := (c10.ex (cor_ex e11)).ex cor_sub
      have c11c := c10.ex (cor_ex e11)
      have w11c := w10.ex (cor_ex e11)
      have w11 := w11c.ex cor_sub
      refine q_cut (M := fun σ' H' => ∃ t l st y3 y4 y5 y6, σ' = [some (.ref a), some (.ref l), some (.int (i : Int)), y3, y4, y5, y6, none, some (.ref t), some (nV g), some (.ref u), none] ∧ Sit T (cor a H) a H' ∧ Now T.C (cor a H') t u l ps st) ?_ fun σ' H12 z => ?_
      · cases hd : dueL ps st g with
        | some xs =>
          have ha : strikeAns ps st g = .no xs := by
            unfold strikeAns
            rw [hd]
          rw [ha] at c11 w11 okA
          obtain ⟨m0, rest, rfl, hm0⟩ := dueL_head hd
          refine s_if (b := false) (et_test (ev_is (ev_op (ev_op (ev_var rfl) ev_c (rv_ixL (sq_of w11) (atI_nat (j := 0) rfl))) ev_c (rv_eq rfl)) (congrArg V.bl hm0))) (fun z => nomatch z) fun _ H12 e12 => ?_
          exact s_when (b := false) (et_test (ev_op (ev_var rfl) (ev_var rfl) (rv_tellN (sq_of (e12 _ _ c11)) (sq_of (e12 _ _ w11)) okA))) (fun z => nomatch z) fun _ H13 e13 => ⟨_, _, _, _, _, _, _, rfl, s11.ex (e12.trans e13), n11.ex (cor_ex (e12.trans e13))⟩
        | none =>
          have ha : strikeAns ps st g = .yes ps (srt (st ++ [g])) := by
            unfold strikeAns
            rw [hd]
          rw [ha] at c11 w11 c11c w11c
          obtain ⟨g1, hn, hbare⟩ := due_none hd
          have ok2 : StOk ps (srt (st ++ [g])) := srt_ok (n6.ok.more g1 hg6 hn hbare)
          have sl : (srt (st ++ [g])).length = st.length + 1 := by rw [srt_len, List.length_append, List.length_singleton]
          refine s_if (b := true) (et_test (ev_is (ev_op (ev_op (ev_var rfl) ev_c (rv_ixL (sq_of w11.1) rfl)) ev_c (rv_eq rfl)) (congrArg V.bl (decide_eq_true rfl)))) (fun _ H12 e12 => ?_) fun z => nomatch z
          have c12 := c11.ex e12
          have w12 := w11.ex e12
          have o12 := (n11.ex cor_sub).ex e12
          obtain ⟨dx2, la2, ls2, tp2⟩ := id c12.2
          refine q_when (b := false) (et_or (a := false) (b := false) (et_test (ev_is (ev_op (ev_op (ev_var rfl) ev_c (rv_ixL (sq_of c12.1) rfl)) ev_c (rv_ne rfl)) (congrArg V.bl (by rw [decide_eq_true rfl]; rfl)))) fun _ => et_or (a := false) (b := false) (et_test (ev_neLL (el_meth (ev_op (ev_var rfl) ev_c (rv_ixL (sq_of c12.1) rfl)) tp2.ob (no (by decide +kernel) (by decide +kernel)) ea_nil (sl_struck c12.2)) (ev_op (ev_var rfl) ev_c (rv_ixL (sq_of w12.1) rfl)) w12.2)) fun _ =>
            et_test (ev_neT (ev_op (ev_var rfl) ev_c (rv_ixL (sq_of c12.1) rfl)) c12.2 (etr_is (tr_2 (K := K) (st := (srt (st ++ [g])).reverse) (es_l (el_tail (sq_of o12.up) (ev_var rfl))) (es_l (el_is (el_rev (eq_v (ev_op (ev_var rfl) ev_c (rv_ixL (sq_of w12.1) rfl)) (sq_of w12.2))) (by rw [List.map_reverse]))) o12.gd (by omega) (ok2.perm (List.reverse_perm _)) (by rw [List.length_reverse]; omega)) ((srt_congr (List.reverse_perm _)).trans (srt_srt _))))) (fun z => nomatch z) fun _ H13 e13 => ?_
          have c13 := c12.ex e13
          have w13 := w12.ex e13
          refine s_two ((ev_op (ev_var rfl) ev_c (rv_ixL (v := .ref t2) (sq_of c13.1) rfl)) H13 (Ex.refl H13) _ fun H14 e14 => (ev_op (ev_var rfl) ev_c (rv_ixL (v := .ref m) (sq_of (w13.ex e14).1) rfl)) H14 (Ex.refl H14) _ fun H15 e15 => got_N fun H16 e16 => ?_)
          have e : Ex H11 H16 := (e12.trans e13).trans (e14.trans (e15.trans e16))
          exact ⟨t2, m, srt (st ++ [g]), _, _, _, _, rfl, s11.ex e, ⟨(c11c.ex (cor_ex e)).2, (n11.ex (cor_ex e)).up, (w11c.ex (cor_ex e)).2, n11.gd, ok2, srt_srt _, le10⟩⟩
      obtain ⟨t, l, st, y3, y4, y5, y6, rfl, s12, n12⟩ := z
      have lst := n12.st_le
      have z12 := n12.ex cor_noT
      obtain ⟨dx, la, ls, tp⟩ := id z12.tr
      refine q_asgR (eh_of (T := T) (an := growAns ps st g) (H := H12) (eb_wg (fs := tf la ls) (no (by decide +kernel) (by decide +kernel)) tp.ob z12.tr (ev_var rfl) (ev_var rfl) z12.gd (by omega) hg6 z12.ok (by omega) z12.so) H12 noT_sub s12.tb _ fun p t' H13 x13 T13 m13 => ?_)
      have s13 := s12.lam x13 T13
      have n13 := n12.ex (cor_lam x13)
      have c13 := (met_c s12.pot m13).ex cor_sub
      have o13 := n13.ex cor_sub
      have okG := growAns_ok ps st g
      have tin : ∀ {H' : Hp} {σ : L2.St}, Ex H13 H' → σ[9]? = some (some (nV g)) → σ[1]? = some (some (.ref l)) → EvT (tTest (tOp (rIn K false) (tVar 9) (tVar 1))) σ H' (decide (g ∈ st)) := fun e h1 h2 => et_test (ev_is (ev_op (ev_var h1) (ev_var h2) (rv_isL (sq_of (e _ _ o13.lo)) rfl (flat_nat _))) (congrArg V.bl (inV_nat _ _)))
      refine s_when (b := false) (et_test ?_) (fun z => nomatch z) fun _ H14 e14 => ⟨_, _, _, _, _, _, _, _, _, rfl, s13.ex e14, n13.ex (cor_ex e14)⟩
      by_cases hin : g ∈ st
      · have ha : growAns ps st g = .no [.str "struck", num g, .bl true] := by
          unfold growAns
          rw [if_pos hin]
        rw [ha] at c13 okG
        exact mc_neL (ev_var rfl) c13 (el_ifT (et_is (tin (Ex.refl H13) rfl rfl) (decide_eq_true hin)) (el_lst (ea_cons ev_c (ea_cons (ev_reprI (by omega) (ev_var rfl)) (ea_cons ev_c ea_nil))) (by show 3 ≤ 100000; omega))) okG
      · have ha : growAns ps st g = .yes (ps ++ [g]) st := by
          unfold growAns
          rw [if_neg hin]
        rw [ha] at c13
        exact mc_neY (ev_var rfl) c13 (em_ifF (et_is (tin (Ex.refl H13) rfl rfl) (decide_eq_false hin)) (em_new (tn_is (tn_2 (K := K) (ps := ps ++ [g]) (st := st) (es_l (el_is (el_cat (el_tail (sq_of o13.up) (ev_var rfl)) (fun H14 e14 => el_lst (ea_cons (ev_var rfl) ea_nil) (by show 1 ≤ 100000; omega)) (by rw [List.length_map]; show ps.length + 1 ≤ 100000; omega)) (by rw [List.map_append]; rfl))) (es_v (ev_var rfl) (.lst o13.lo)) (o13.gd.snoc hg6) (by rw [List.length_append, List.length_singleton]; omega) (o13.ok.snoc hin) (by omega)) o13.so)))
    · obtain ⟨t, l, st, y2, y3, y4, y5, y6, y9, rfl, s5, n5⟩ := z
      have le10 := n5.le
      have lst := n5.st_le
      have sB : Sit T (cor a H5) a H5 := s5.now
      have nua := cor_ne n5.up
      have nla := cor_ne n5.lo
      refine q_ifRaw (not_raw (B_raw (cb1_raw (lc_R1 (n := 8) (fun Dl i H' => Sit T (cor a H5) a H' ∧ H' Dl = some (.lst (List.replicate i (V.bl true))) ∧ cor a H5 Dl = none ∧ Dl ≠ a) (ea_cons ev_c ea_nil) (by omega) (fun H6 Dl e6 hD => ?_) (fun Dl i H' hi z => ?_) (fun Dl H' z => ?_)))))
      · have hD0 := fresh_back e6 hD
        exact ⟨(sB.ex e6).ex (Ex.new hD), upd_same, cor_none hD0, pot_ne s5.pot hD0⟩
      · obtain ⟨s6, hDl, hD0, nDa⟩ := z
        have n6 := n5.ex s6.x
        have o6 := n6.ex cor_sub
        refine ⟨rfl, yes_raw (call_raw0 (cons_ev (ev_var rfl) fun H7 e7 => cons_raw (call_raw0 (cons_ev (ev_var rfl) fun H8 e8 => cons_ev (ev_var rfl) fun H9 e9 => cons_ev (ev_var rfl) fun H10 e10 => nil_raw ?_))))⟩
        have e := e7.trans (e8.trans (e9.trans e10))
        have s10 := s6.ex e
        have o10 := o6.ex e
        refine ⟨a, u, l, ps, st, rfl, s10.pot, o10.up, nua, o10.lo, nla, by omega, by omega, fun H11 q' xs hq x11 p11 hq11 el h61 => nil_raw ?_⟩
        have s11 := s10.exB x11 p11
        have o11 := (n6.ex ((cor_ex e).trans (cor_exB x11))).ex cor_sub
        refine ⟨u, q', ps, xs, rfl, o11.up, hq11, el, o11.gd, by omega, by omega, s11.tb, fun H12 x12 T12 => ?_⟩
        have s12 := s11.lam x12 T12
        have hl : H12 Dl = some (.lst (List.replicate i (V.bl true))) := cor_sub _ _ (cor_lam x12 _ _ (cor_exB x11 _ _ (cor_ex e _ _ (cor_at hDl (fun _ z => nomatch z) nDa))))
        exact ⟨_, hl, (by rw [List.length_replicate, sizeLine_eq]; omega), s12.upd hD0 hl nDa, by rw [upd_same, ← List.replicate_succ'], hD0, nDa⟩
      obtain ⟨s6, hDl, hD0, nDa⟩ := z
      have n6 := n5.ex s6.x
      refine ⟨Dl, List.replicate 8 true, rfl, sq_of (by rw [hDl, List.map_replicate]), true, rfl, iteF (nx_raw ?_)⟩
      show tSeq _ _ _ [some (.ref a), some (.ref l), y2, y3, y4, y5, y6, none, some (.ref t), y9, some (.ref u), none] H'
      -- no lists at all
      refine q_asgR (lst_raw (cons_ev ev_c fun H7 e7 => cons_ev ev_c fun H8 e8 => cons_ev ev_c fun H9 e9 => cons_dnew fun d1 hd1 => cons_disp fun d2 hd2 => cons_ev ev_c fun H10 e10 => cons_ev (ev_var rfl) fun H11 e11 => nil_raw ⟨sz_of (by show 7 ≤ 100000; omega), fun r hr => ?_⟩))
      have g1 : Ex H9 (upd H9 d1 (.dK [])) := Ex.new hd1
      have hd1' : (upd H9 d1 (.dK [])) d1 = some (.dK []) := upd_same
      have nd1 := pot_ne (s6.pot.ex (e7.trans (e8.trans e9))) hd1
      have g2 : Ex (upd H9 d1 (.dK [])) (upd (upd (upd H9 d1 (.dK [])) d2 (.dK [])) d2 (.dK (mergeK [] [(.inl 1, .int 1)]))) := Ex.mut (Ex.new hd2) hd2
      have hd2' : (upd (upd (upd H9 d1 (.dK [])) d2 (.dK [])) d2 (.dK (mergeK [] [(.inl 1, .int 1)]))) d2 = some (.dK (mergeK [] [(.inl 1, .int 1)])) := upd_same
      have nd2 := pot_ne (s6.pot.ex (e7.trans (e8.trans (e9.trans g1)))) hd2
      generalize upd (upd (upd H9 d1 (.dK [])) d2 (.dK [])) d2 (.dK (mergeK [] [(.inl 1, .int 1)])) = G2 at g2 hd2' e10
      generalize upd H9 d1 (.dK []) = G1 at g1 hd1' g2 hd2
      have e11r : Ex H11 (upd H11 r (.lst [.non, .int 0, .str "12", .ref d1, .ref d2, .bl true, .ref t])) := Ex.new hr
      have hr' : (upd H11 r (.lst [.non, .int 0, .str "12", .ref d1, .ref d2, .bl true, .ref t])) r = some (.lst [.non, .int 0, .str "12", .ref d1, .ref d2, .bl true, .ref t]) := upd_same
      have eG2 : Ex H' G2 := e7.trans (e8.trans (e9.trans (g1.trans g2)))
      have nra := pot_ne (s6.pot.ex (eG2.trans (e10.trans e11))) hr
      show tRet _ _ [some (.ref a), some (.ref l), y2, y3, y4, y5, y6, some (.ref r), some (.ref t), y9, some (.ref u), none] (upd H11 r (.lst [.non, .int 0, .str "12", .ref d1, .ref d2, .bl true, .ref t]))
      generalize upd H11 r (.lst [.non, .int 0, .str "12", .ref d1, .ref d2, .bl true, .ref t]) = G3 at e11r hr'
      have eG3 : Ex G2 G3 := e10.trans (e11.trans e11r)
      have sG : Sit T (cor a H) a G3 := (s5.lam' s6).ex (eG2.trans eG3)
      have nG := n6.ex (cor_ex (eG2.trans eG3))
      have k1 : cor a G3 d1 = some (.dK []) := cor_at (eG3 _ _ (g2 _ _ hd1')) (fun _ z => nomatch z) nd1
      have k2 : cor a G3 d2 = some (.dK (mergeK [] [(.inl 1, .int 1)])) := cor_at (eG3 _ _ hd2') (fun _ z => nomatch z) nd2
      have kr := cor_at hr' (fun _ z => nomatch z) nra
      have odd : ∀ x ∈ ([.non, .int 0, .str "12", .ref d1, .ref d2, .bl true, .ref t] : List V), ∃ ty, (∀ H1, Ex (cor a G3) H1 → TyX K H1 x ty) ∧ PySem.W.kitAny K ty [.type "list", .type "tuple"] = some false := by
        have two : ∀ {s : String}, kitB s "list" = some false → kitB s "tuple" = some false → PySem.W.kitAny K (.type s) [.type "list", .type "tuple"] = some false := fun h1 h2 => kitAny_cons (b := false) (kit_ty h1) (fun _ => kitAny_cons (b := false) (kit_ty h2) (fun _ => rfl) (fun z => nomatch z)) (fun z => nomatch z)
        intro x hx
        simp only [List.mem_cons, List.not_mem_nil, or_false] at hx
        rcases hx with rfl | rfl | rfl | rfl | rfl | rfl | rfl
        · exact ⟨_, fun _ _ => .base .non, two (by decide +kernel) (by decide +kernel)⟩
        · exact ⟨_, fun _ _ => .base (.int _), two (by decide +kernel) (by decide +kernel)⟩
        · exact ⟨_, fun _ _ => .base (.str _), two (by decide +kernel) (by decide +kernel)⟩
        · exact ⟨_, fun _ e => .base (.dK (e _ _ k1)), two (by decide +kernel) (by decide +kernel)⟩
        · exact ⟨_, fun _ e => .base (.dK (e _ _ k2)), two (by decide +kernel) (by decide +kernel)⟩
        · exact ⟨_, fun _ _ => .base (.bl _), two (by decide +kernel) (by decide +kernel)⟩
        · exact ⟨_, nG.tr.insTy, T.t_list⟩
      have wl : ([.non, .int 0, .str "12", .ref d1, .ref d2, .bl true, .ref t] : List V).length ≤ 7 := Nat.le_refl _
      generalize ([.non, .int 0, .str "12", .ref d1, .ref d2, .bl true, .ref t] : List V) = ws at hr' kr odd wl
      have sN : Sit T (cor a G3) a G3 := sG.now
      refine s_retR (cb1_raw (lc_Lr (xs := ws) (fun Dl i H' => Sit T (cor a G3) a H' ∧ H' Dl = some (.lst (List.replicate i (V.bl true))) ∧ cor a G3 Dl = none ∧ Dl ≠ a) (ev_var rfl) (sq_of hr') (fun H6 Dl e6 hD => ?_) (fun Dl i H' z => sq_of (z.1.at kr)) (fun Dl i x H' hx z => ?_) (fun Dl H' z => ?_)))
      · have hD0 := fresh_back e6 hD
        exact ⟨(sN.ex e6).ex (Ex.new hD), upd_same, cor_none hD0, pot_ne sG.pot hD0⟩
      · obtain ⟨s6, hDl, hD0, nDa⟩ := z
        obtain ⟨ty, t1, t2⟩ := odd x (List.mem_of_getElem? hx)
        have n6 := (nG.ex s6.x).ex cor_noT
        refine ⟨rfl, yes_raw (op_raw (eh_of (T := T) (an := .no [.str "list", .str "None", .bl true]) (H := H') (eb_odd (es_l (el_tail (sq_of n6.up) (ev_var rfl))) (ev_var rfl) (fun H1 e1 => t1 H1 ((s6.x.trans cor_noT).trans e1)) t2 n6.gd (by omega)) H' noT_sub s6.tb _ fun p t' H7 x7 T7 m7 => el_lst (ea_cons ev_c (ea_cons ev_c (ea_cons ev_c ea_nil))) (by show 3 ≤ 100000; omega) H7 (Ex.refl H7) _ fun r2 H8 hr2 e8 h8 => rv_tellE (sq_of (e8 _ _ m7.2)) (sq_of h8) (tell_2 _ _) H8 (Ex.refl H8) _ fun H9 e9 => ?_))⟩
        have s9 := (s6.lam x7 T7).ex (e8.trans e9)
        have hl : H9 Dl = some (.lst (List.replicate i (V.bl true))) := cor_sub _ _ (cor_ex (e8.trans e9) _ _ (cor_lam x7 _ _ (cor_at hDl (fun _ z => nomatch z) nDa)))
        have hi := (List.getElem?_eq_some_iff.mp hx).1
        exact ⟨_, hl, (by rw [List.length_replicate, sizeLine_eq]; omega), s9.upd hD0 hl nDa, by rw [upd_same, ← List.replicate_succ'], hD0, nDa⟩
      · obtain ⟨s6, hDl, hD0, nDa⟩ := z
        refine ⟨Dl, List.replicate ws.length true, rfl, sq_of (by rw [hDl, List.map_replicate]), ?_⟩
        have all1 : (List.replicate ws.length true).all id = true := by
          rw [List.all_replicate]
          cases ws.length <;> rfl
        rw [all1]
        exact q H' ((sG.x.trans s6.x).trans cor_sub) s6.tb
end
end My
namespace My
open PySem PySem.Spec PyProof.Rows L2 GL Evl StX SkE
def sp_lawT (K : PySem.W.Frag) (ts : List (Addr × Addr)) : Sp := fun vs H Q _ => ∃ (a : Addr) (ns : List Int), vs = [.ref a] ∧ SqL K H a (ns.map V.int) ∧ ns.length ≤ 63 ∧ (∀ p ∈ ts, H p.2 = some (.tbl #[])) ∧ ∀ H', Q (.bl true) H'
section
variable {P : Program} {w : World} {K : PySem.W.Frag} {mg : Str → Option Value} {base : Heap} {H H' : Hp} {σ : L2.St} {te ta tb : TE} {a : Addr} {xs : List V}
theorem sq_noT (h : SqL K H a xs) : SqL K (noT H) a xs := by
  rcases h with (h | ⟨ob, h⟩) | h
  · exact .inl (.inl (noT_at h fun _ z => nomatch z))
  · exact .inl (.inr ⟨ob, noT_at h fun _ z => nomatch z⟩)
  · exact .inr h
theorem ok_law (T : Txt K mg) (G_Lright : FnG P w K mg base CX0 14 T.f_Lright T.fd_Lright ["_law_pot_here"] (sp_LrightH T)) (G_Lpot : FnG P w K mg base CX0 1 T.f_Lpot T.fd_Lpot ["_law_script", "_law_k"] (sp_Lpot K)) : FnG P w K mg base CX0 15 T.f_law T.fd_law ["_law_script"] (sp_lawT K [(T.c_Llist_right, T.p_Llist_right), (T.c_Lright, T.p_Lright)]) := by
  refine okG T.F_law sc_law (fun vs H Q E h => ?_) (fun cdv A outer s H vs Q E gd hr h => ?_)
  · obtain ⟨_, _, rfl, _⟩ := h
    all_goals rfl
  · obtain ⟨a, ns, rfl, hs, hl, hts, q⟩ := h
    refine ⟨_, (pss_one (ps_ret (pe_callB (cr_all rfl) (by rfl) T.z_all boot_all (pa_cons (pe_lc (own := [("_law_k", 1)]) (g := gName 1) rfl sc_law.nd (pi_range1 (by rfl) T.z_range (pa_cons (pe_callB (call_max2 rfl) (by rfl) T.z_max boot_max (pa_cons pe_int (pa_cons (pe_callB (call_min2 rfl) (by rfl) T.z_min boot_min (pa_cons (pe_callB call_len_seq (by rfl) T.z_len PySem.boot_len (pa_cons (pv 0) pa_nil)) (pa_cons pe_int pa_nil))) pa_nil))) pa_nil)) (blkOk_by (N := N_law) (sc := defScope s_law) (by decide +kernel)) (fun _ _ _ _ _ => (pg_name (i := 1) sc_law.nd rfl (Or.inl rfl) (Or.inr rfl))) (fun _ _ _ _ _ => pts_nil) (fun _ _ _ _ _ => (pc gd G_Lright (hr.mono (by decide)) (by rfl) T.m_Lright T.F_Lright.kp T.b_Lright .nil pass0 (pa_cons (pc gd G_Lpot (hr.mono (by decide)) (by rfl) T.m_Lpot T.F_Lpot.kp T.b_Lpot .nil pass0 (pa_cons (pv 0) (pa_cons (pv 1) pa_nil))) pa_nil)))) pa_nil)))), ?_⟩
    have hT : LamX.Tabs T.tabs H := fun p hp => by
      rcases List.mem_cons.mp hp with rfl | hp
      · exact LamX.TabS.nil (hts (T.c_Llist_right, T.p_Llist_right) List.mem_cons_self)
      · rw [List.mem_singleton.mp hp]
        exact LamX.TabS.nil (hts (T.c_Lright, T.p_Lright) (List.mem_cons_of_mem _ List.mem_cons_self))
    have hn : ∃ n : Nat, n ≤ 3 ∧ Ev (tCB (fun xs H Q => ∃ i j, xs = [V.int i, V.int j] ∧ Q (.int (if j > i then j else i)) H) (tCons (tC (.int 1)) (tCons (tCB (fun xs H Q => ∃ i j, xs = [V.int i, V.int j] ∧ Q (.int (if j < i then j else i)) H) (tCons (tCB (rLenS K) (tCons (tVar 0) tNil)) (tCons (tC (.int 3)) tNil))) tNil))) [some (.ref a), none] H (nV n) := by
      refine ⟨if ns.length < 3 then max 1 ns.length else 3, by split <;> omega, ev_is (ev_cb (ea_cons ev_c (ea_cons (ev_cb (ea_cons (ev_cb (ea_cons (ev_var rfl) ea_nil) (rc_lenL hs)) (ea_cons ev_c ea_nil)) rc_min2) ea_nil)) rc_max2) (congrArg V.int ?_)⟩
      rw [List.length_map]
      split <;> split <;> split <;> omega
    obtain ⟨n, hn2, hev⟩ := hn
    refine s_retR (cb1_raw (lc_R1 (n := n) (fun Dl i H' => Ex (noT H) H' ∧ LamX.Tabs T.tabs H' ∧ H' Dl = some (.lst (List.replicate i (V.bl true))) ∧ H Dl = none) (ea_cons hev ea_nil) (by omega) (fun H1 Dl e1 hD => ?_) (fun Dl i H' hi z => ?_) (fun Dl H' z => ?_)))
    · exact ⟨(noT_sub.trans e1).trans (Ex.new hD), (hT.ext e1).ext (Ex.new hD), upd_same, fresh_back e1 hD⟩
    · obtain ⟨x1, T1, hDl, hD0⟩ := z
      refine ⟨rfl, yes_raw (call_raw0 (cons_raw (call_raw0 (cons_ev (ev_var rfl) fun H2 e2 => cons_ev (ev_var rfl) fun H3 e3 => nil_raw ⟨a, ns, i, rfl, ex_l (x1.trans (e2.trans e3)) (sq_noT hs), hl, by omega, fun H4 p hp e4 p4 => nil_raw ⟨p, rfl, p4, T1.ext (e2.trans (e3.trans e4)), fun H5 x5 T5 => ?_⟩⟩))))⟩
      have e23 := e2.trans e3
      have keep : ∀ b o, H3 b = some o → (∀ ps, o ≠ .tbl ps) → H5 b = some o := fun b o hb n => x5 _ _ (cor_at (e4 _ _ hb) n (ne_of_none hb hp))
      have h5 : H5 Dl = some (.lst (List.replicate i (V.bl true))) := keep _ _ (e23 _ _ hDl) fun _ z => nomatch z
      have y5 : Ex (noT H) H5 := fun b o hb => keep b o (e23 _ _ (x1 _ _ hb)) (noT_is hb).2
      have hD1 : noT H Dl = none := by
        unfold noT
        rw [hD0]
      exact ⟨_, h5, (by rw [List.length_replicate, sizeLine_eq]; omega), Ex.mut y5 hD1, tabs_but T5 h5 (fun b o hb h => by rw [upd_ne hb]; exact h), by rw [upd_same, ← List.replicate_succ'], hD0⟩
    · obtain ⟨x1, T1, hDl, hD0⟩ := z
      refine ⟨Dl, List.replicate n true, rfl, sq_of (by rw [hDl, List.map_replicate]), ?_⟩
      have all1 : (List.replicate n true).all id = true := by
        rw [List.all_replicate]
        cases n <;> rfl
      rw [all1]
      exact q H'
theorem law_startT {K : PySem.W.Frag} {ts : List (Addr × Addr)} {H : Hp} {a : Addr} {ns : List Int} (h : SqL K H a (ns.map V.int)) (hl : ns.length ≤ 63) (ht : ∀ p ∈ ts, H p.2 = some (.tbl #[])) : sp_lawT K ts [.ref a] H (fun v _ => v = .bl true) fun _ _ _ => False := ⟨a, ns, rfl, h, hl, ht, fun _ => rfl⟩
end
end My
namespace My
open PySem PySem.Spec PyProof.Rows L2 GL Evl StX SkE
section
variable {P : Program} {w : World} {K : PySem.W.Frag} {mg : Str → Option Value} {base : Heap}
theorem ok_text (T : Txt K mg) (tb_Llist_right : LamX.TabB base mg T.c_Llist_right T.p_Llist_right) (tb_Lright : LamX.TabB base mg T.c_Lright T.p_Lright) : FnG P w K mg base CX0 15 T.f_law T.fd_law ["_law_script"] (sp_lawT K [(T.c_Llist_right, T.p_Llist_right), (T.c_Lright, T.p_Lright)]) := by
  have G_Ldraw : FnG P w K mg base CX0 1 T.f_Ldraw T.fd_Ldraw ["_law_pot_here", "_law_sides"] sp_Ldraw := ok_Ldraw T 
  have G_Lups : FnG P w K mg base CX0 2 T.f_Lups T.fd_Lups ["_law_pot_here", "_law_most"] sp_Lups := ok_Lups T G_Ldraw
  have G_is_list : FnG P w K mg base CX0 1 T.f_is_list T.fd_is_list ["value"] (sp_is_list K) := ok_is_list T 
  have G_is_an_integer : FnG P w K mg base CX0 1 T.f_is_an_integer T.fd_is_an_integer ["value"] sp_is_an_integer := ok_is_an_integer T 
  have G_check_parents : FnG P w K mg base CX0 2 T.f_check_parents T.fd_check_parents ["parents"] (sp_check_parents K) := ok_check_parents T G_is_list G_is_an_integer
  have G_check_struck : FnG P w K mg base CX0 2 T.f_check_struck T.fd_check_struck ["parents", "struck"] (sp_check_struck K w) := ok_check_struck T G_is_list G_is_an_integer
  have G_Tinit : FnG P w K mg base CX0 3 T.f_Tinit T.fd_Tinit ["self", "parents", "struck"] (sp_Tinit K T.C) := ok_Tinit T G_check_parents G_check_struck
  have G_Tparents : FnG P w K mg base CX0 1 T.f_Tparents T.fd_Tparents ["self"] (sp_Tparents T.C) := ok_Tparents T 
  have G_Trepr : FnG P w K mg base CX0 2 T.f_Trepr T.fd_Trepr ["self"] (sp_Trepr T.C) := ok_Trepr T G_Tparents
  have G_Lunder : FnG P w K mg base CX0 1 T.f_Lunder T.fd_Lunder ["_law_ups_here", "_law_spot"] sp_Lunder := ok_Lunder T 
  have G_Ldue : FnG P w K mg base CX0 2 T.f_Ldue T.fd_Ldue ["_law_ups_here", "_law_marks", "_law_spot"] sp_LdueH := ok_Ldue T G_Lunder
  have G_Tlen : FnG P w K mg base CX0 1 T.f_Tlen T.fd_Tlen ["self"] (sp_Tlen T.C) := ok_Tlen T 
  have G_check_group : FnG P w K mg base CX0 3 T.f_check_group T.fd_check_group ["tree", "value"] (sp_check_group T.C) := ok_check_group T G_is_an_integer G_Tlen
  have G_Tis_struck : FnG P w K mg base CX0 4 T.f_Tis_struck T.fd_Tis_struck ["self", "group"] (sp_Tis_struck T.C) := ok_Tis_struck T G_check_group
  have G_Tchildren : FnG P w K mg base CX0 4 T.f_Tchildren T.fd_Tchildren ["self", "group"] (sp_Tchildren T.C) := ok_Tchildren T G_check_group
  have G_Twith_struckX : FnG P w K mg base (L2.CX P w) 6 T.f_Twith_struck T.fd_Twith_struck ["self", "group"] (sp_TwsX T.C T.C_IsTop T.C_Struck T.C_HasChildren) := ok_Twith_struckX T G_check_group G_Tis_struck G_Tchildren G_Tinit G_Tparents
  have G_Teq : FnG P w K mg base CX0 1 T.f_Teq T.fd_Teq ["self", "other"] (sp_Teq K T.C) := ok_Teq T 
  have G_Tstruck : FnG P w K mg base CX0 1 T.f_Tstruck T.fd_Tstruck ["self"] (sp_Tstruck T.C) := ok_Tstruck T 
  have G_Twith_groupX : FnG P w K mg base (L2.CX P w) 6 T.f_Twith_group T.fd_Twith_group ["self", "group"] (sp_TwgX T.C T.C_Struck) := ok_Twith_groupX T G_Tis_struck G_Tinit G_Tparents
  have G_Lwrong : FnG P w K mg base CX0 2 T.f_Lwrong T.fd_Lwrong ["_law_ups_here", "_law_some"] (sp_Lwrong K) := ok_Lwrong T G_Lunder
  have G_is_listX : FnG P w K mg base CX0 1 T.f_is_list T.fd_is_list ["value"] (sp_islistX K) := ok_is_listX T 
  have G_is_an_integerX : FnG P w K mg base CX0 1 T.f_is_an_integer T.fd_is_an_integer ["value"] (sp_isintX K) := ok_is_an_integerX T 
  have G_check_struckX : FnG P w K mg base (L2.CX P w) 2 T.f_check_struck T.fd_check_struck ["parents", "struck"] (sp_csX K w T.C_InvalidStruck) := ok_check_struckX T G_is_listX G_is_an_integerX
  have G_TinitX : FnG P w K mg base (L2.CX P w) 3 T.f_Tinit T.fd_Tinit ["self", "parents", "struck"] (sp_TinitX K w T.C T.C_InvalidStruck) := ok_TinitX T G_check_parents G_check_struckX
  have G_Llist_right : FnG P w K mg base CX0 12 T.f_Llist_right T.fd_Llist_right ["_law_ups_here", "_law_some"] (sp_Llr T) := ok_Llist_right T G_Lwrong G_TinitX G_Teq G_Tstruck tb_Llist_right
  have G_Lpick : FnG P w K mg base CX0 2 T.f_Lpick T.fd_Lpick ["_law_pot_here", "_law_some"] sp_Lpick := ok_Lpick T G_Ldraw
  have G_Lspoilt : FnG P w K mg base CX0 3 T.f_Lspoilt T.fd_Lspoilt ["_law_pot_here", "_law_ups_here", "_law_marks"] (sp_Lspoilt K) := ok_Lspoilt T G_Ldraw G_Lpick
  have G_Lright : FnG P w K mg base CX0 14 T.f_Lright T.fd_Lright ["_law_pot_here"] (sp_LrightH T) := ok_Lright T G_Lups G_Tinit G_Ldraw G_Trepr G_Ldue G_Twith_struckX G_Teq G_Tstruck G_Twith_groupX G_Llist_right G_Lspoilt G_TinitX tb_Lright
  have G_Lpot : FnG P w K mg base CX0 1 T.f_Lpot T.fd_Lpot ["_law_script", "_law_k"] (sp_Lpot K) := ok_Lpot T 
  have G_law : FnG P w K mg base CX0 15 T.f_law T.fd_law ["_law_script"] (sp_lawT K [(T.c_Llist_right, T.p_Llist_right), (T.c_Lright, T.p_Lright)]) := ok_law T G_Lright G_Lpot
  exact G_law
end
theorem kbt1 {s : Shared} {fd : FuncData} {ps : List Str} {k : Str} (h : ∀ a b : Value, BindsTo s fd ⟨[a], [(k, b)]⟩ (ps.zip [a, b])) (hp : ps.length = 2) : ∀ us ws : List Value, (kb1 us ws).length = ps.length → BindsTo s fd ⟨us, [k].zip ws⟩ (ps.zip (kb1 us ws))
  | [a], [b], _ => h a b
  | [], [], e => by rw [hp] at e; cases e
  | [], _ :: _, e => by rw [hp] at e; cases e
  | [_], [], e => by rw [hp] at e; cases e
  | [_], _ :: _ :: _, e => by rw [hp] at e; cases e
  | _ :: _ :: _, [], e => by rw [hp] at e; cases e
  | _ :: _ :: _, _ :: _, e => by rw [hp] at e; cases e
theorem kbt2 {s : Shared} {fd : FuncData} {ps : List Str} {k j : Str} (h : ∀ a b c : Value, BindsTo s fd ⟨[a], [(k, b), (j, c)]⟩ (ps.zip [a, c, b])) (hp : ps.length = 3) : ∀ us ws : List Value, (kb2 us ws).length = ps.length → BindsTo s fd ⟨us, [k, j].zip ws⟩ (ps.zip (kb2 us ws))
  | [a], [b, c], _ => h a b c
  | [], [], e => by rw [hp] at e; cases e
  | [], _ :: _, e => by rw [hp] at e; cases e
  | [_], [], e => by rw [hp] at e; cases e
  | [_], [_], e => by rw [hp] at e; cases e
  | [_], _ :: _ :: _ :: _, e => by rw [hp] at e; cases e
  | _ :: _ :: _, [], e => by rw [hp] at e; cases e
  | _ :: _ :: _, _ :: _, e => by rw [hp] at e; cases e
theorem tabIn_mk {K : PySem.W.Frag} {x : Str} {f c P : Addr} {o1 p1 : Value} {o2 p2 : Option Addr} {o3 p3 : Array (Option Value)} {fd : FuncData} {vs : Array Value} (h1 : PySem.W.nsIn K mainGlobals x = some (some (.ref f))) (h2 : K.lookup f = some ⟨o1, o2, .func fd, o3⟩) (h3 : fd.code = .ref c) (h4 : K.lookup c = some ⟨p1, p2, .fields vs, p3⟩) (h5 : vs[11]? = some (.ref P)) : PySem.W.tabIn K x = some (c, P) := by
  unfold PySem.W.tabIn
  rw [h1]
  simp only [h2, h3, h4, h5]
theorem all_mk {l : PySem.W.OpenLaw} {w : World} {K : PySem.W.Frag} {h : Heap} {mg : Str → Option Value} {fa : Addr} (X : K.In h) (G : h.Ns mainGlobals mg) (hfa : mg "law" = some (.ref fa))
    {C f1 f2 f3 f4 f5 f6 T6 d6_0 d6_1 f7 f8 f9 f10 f11 f12 f13 f14 f15 f16 f17 f18 f19 f20 f21 f22 f23 f24 f25 cc25 pp25 f26 cc26 pp26 f27 cx1 ix1 cx2 ix2 cx3 ix3 cx4 ix4 cb_StandError cb_WayError : Addr} {od1 an1 od2 an2 od3 an3 od4 an4 od5 an5 od6 an6 td6 ud6_0 ud6_1 od7 an7 od8 an8 od9 an9 od10 an10 od11 an11 od12 an12 od13 an13 od14 an14 od15 an15 od16 an16 od17 an17 od18 an18 od19 an19 od20 an20 od21 an21 od22 an22 od23 an23 od24 an24 od25 an25 tod25 od26 an26 tod26 od27 an27 xod1 xan1 xod2 xan2 xod3 xan3 xod4 xan4 : Option Addr} {sl1 sl2 sl3 sl4 sl5 sl6 tl6 ul6_0 ul6_1 sl7 sl8 sl9 sl10 sl11 sl12 sl13 sl14 sl15 sl16 sl17 sl18 sl19 sl20 sl21 sl22 sl23 sl24 sl25 tsl25 sl26 tsl26 sl27 xsl1 xsl2 xsl3 xsl4 : Array (Option Value)} {oc1 kV1 dc1 pm1 cd1 ct1 oc2 kV2 dc2 pm2 cd2 ct2 oc3 kV3 dc3 pm3 cd3 ct3 oc4 kV4 dc4 pm4 cd4 ct4 oc5 kV5 dc5 pm5 cd5 ct5 oc6 kV6 dc6 pm6 cd6 ct6 tc6 oc7 kV7 dc7 pm7 cd7 ct7 oc8 kV8 dc8 pm8 cd8 ct8 oc9 kV9 dc9 pm9 cd9 ct9 oc10 kV10 dc10 pm10 cd10 ct10 oc11 kV11 dc11 pm11 cd11 ct11 oc12 kV12 dc12 pm12 cd12 ct12 oc13 kV13 dc13 pm13 cd13 ct13 oc14 kV14 dc14 pm14 cd14 ct14 oc15 kV15 dc15 pm15 cd15 ct15 oc16 kV16 dc16 pm16 cd16 ct16 oc17 kV17 dc17 pm17 cd17 ct17 oc18 kV18 dc18 pm18 cd18 ct18 oc19 kV19 dc19 pm19 cd19 ct19 oc20 kV20 dc20 pm20 cd20 ct20 oc21 kV21 dc21 pm21 cd21 ct21 oc22 kV22 dc22 pm22 cd22 ct22 oc23 kV23 dc23 pm23 cd23 ct23 oc24 kV24 dc24 pm24 cd24 ct24 oc25 kV25 dc25 pm25 ct25 toc25 oc26 kV26 dc26 pm26 ct26 toc26 oc27 kV27 dc27 pm27 cd27 ct27 xoc1 xdc1 xpm1 xcd1 xct1 xoc2 xdc2 xpm2 xcd2 xct2 xoc3 xdc3 xpm3 xcd3 xct3 xoc4 xdc4 xpm4 xcd4 xct4 : Value} {tn6 un6_0 un6_1 : Nat} {t_MOST_GROUPS : Tok} {tvs25 tvs26 : Array Value}
    (aC : PySem.W.nsIn K mainGlobals "Tree" = some (some (.ref C)))
    (pg : PySem.W.plainGet K C Str.empty = true)
    (hd : PySem.W.hasDictIn K C = true)
    (po : PySem.W.plainOver K C = true)
    (sa : PySem.W.findIn K (.ref C) "__setattr__" = some (some (.builtin "object.__setattr__")))
    (mk : PySem.W.makesIn K C = true)
    (kc : PySem.W.keepIn K (.ref C) = true)
    (n_above : PySem.W.findIn K (.ref C) "_above" = some none)
    (n_struck : PySem.W.findIn K (.ref C) "_struck" = some none)
    (x_class : PySem.W.findIn K (.ref C) "__class__" = some (some (.builtin "object.__class__")))
    (x_get : PySem.W.specialIn K (.builtin "object.__class__") "__get__" = some (some (.builtin "getset_descriptor.__get__")))
    (x_tk : PySem.W.takesIn K (.builtin "object.__class__") = some true)
    (x_mro : PySem.W.mroIn K C (.type "object") = some true)
    (x_ne : PySem.W.findIn K (.ref C) "__ne__" = some (some (.builtin "object.__ne__")))
    (x_cls : PySem.W.isClsIn K C = true)
    (x_ty : PySem.W.typeIn K (.ref C) = some (.type "type"))
    (a1 : PySem.W.nsIn K mainGlobals "is_an_integer" = some (some (.ref f1)))
    (l1 : K.lookup f1 = some ⟨oc1, od1, .func (PySem.W.fnOf "is_an_integer" "is_an_integer" (defArgs s_is_an_integer) (defBody s_is_an_integer) (defScope s_is_an_integer) .none kV1 dc1 pm1 an1 cd1 ct1), sl1⟩)
    (c1 : PySem.W.codeIn K cd1 "is_an_integer" = true)
    (k1 : PySem.W.keepIn K (.ref f1) = true)
    (a2 : PySem.W.nsIn K mainGlobals "is_list" = some (some (.ref f2)))
    (l2 : K.lookup f2 = some ⟨oc2, od2, .func (PySem.W.fnOf "is_list" "is_list" (defArgs s_is_list) (defBody s_is_list) (defScope s_is_list) .none kV2 dc2 pm2 an2 cd2 ct2), sl2⟩)
    (c2 : PySem.W.codeIn K cd2 "is_list" = true)
    (k2 : PySem.W.keepIn K (.ref f2) = true)
    (a3 : PySem.W.nsIn K mainGlobals "check_group" = some (some (.ref f3)))
    (l3 : K.lookup f3 = some ⟨oc3, od3, .func (PySem.W.fnOf "check_group" "check_group" (defArgs s_check_group) (defBody s_check_group) (defScope s_check_group) .none kV3 dc3 pm3 an3 cd3 ct3), sl3⟩)
    (c3 : PySem.W.codeIn K cd3 "check_group" = true)
    (k3 : PySem.W.keepIn K (.ref f3) = true)
    (a4 : PySem.W.nsIn K mainGlobals "check_parents" = some (some (.ref f4)))
    (l4 : K.lookup f4 = some ⟨oc4, od4, .func (PySem.W.fnOf "check_parents" "check_parents" (defArgs s_check_parents) (defBody s_check_parents) (defScope s_check_parents) .none kV4 dc4 pm4 an4 cd4 ct4), sl4⟩)
    (c4 : PySem.W.codeIn K cd4 "check_parents" = true)
    (k4 : PySem.W.keepIn K (.ref f4) = true)
    (a5 : PySem.W.nsIn K mainGlobals "check_struck" = some (some (.ref f5)))
    (l5 : K.lookup f5 = some ⟨oc5, od5, .func (PySem.W.fnOf "check_struck" "check_struck" (defArgs s_check_struck) (defBody s_check_struck) (defScope s_check_struck) .none kV5 dc5 pm5 an5 cd5 ct5), sl5⟩)
    (c5 : PySem.W.codeIn K cd5 "check_struck" = true)
    (k5 : PySem.W.keepIn K (.ref f5) = true)
    (a6 : PySem.W.findIn K (.ref C) "__init__" = some (some (.ref f6)))
    (i6 : PySem.W.isFn K (.ref f6) = true)
    (l6 : K.lookup f6 = some ⟨oc6, od6, .func (PySem.W.fnOf "__init__" "Tree.__init__" (defArgs s_Tinit) (defBody s_Tinit) (defScope s_Tinit) (.ref T6) kV6 dc6 pm6 an6 cd6 ct6), sl6⟩)
    (c6 : PySem.W.codeIn K cd6 "Tree.__init__" = true)
    (k6 : PySem.W.keepIn K (.ref f6) = true)
    (t6 : K.lookup T6 = some ⟨tc6, td6, .seq #[.ref d6_0, .ref d6_1] tn6, tl6⟩)
    (u6_0 : K.lookup d6_0 = some ⟨.type "tuple", ud6_0, .seq #[] un6_0, ul6_0⟩)
    (u6_1 : K.lookup d6_1 = some ⟨.type "tuple", ud6_1, .seq #[] un6_1, ul6_1⟩)
    (a7 : PySem.W.findIn K (.ref C) "__len__" = some (some (.ref f7)))
    (i7 : PySem.W.isFn K (.ref f7) = true)
    (l7 : K.lookup f7 = some ⟨oc7, od7, .func (PySem.W.fnOf "__len__" "Tree.__len__" (defArgs s_Tlen) (defBody s_Tlen) (defScope s_Tlen) .none kV7 dc7 pm7 an7 cd7 ct7), sl7⟩)
    (c7 : PySem.W.codeIn K cd7 "Tree.__len__" = true)
    (k7 : PySem.W.keepIn K (.ref f7) = true)
    (a8 : PySem.W.findIn K (.ref C) "__eq__" = some (some (.ref f8)))
    (i8 : PySem.W.isFn K (.ref f8) = true)
    (l8 : K.lookup f8 = some ⟨oc8, od8, .func (PySem.W.fnOf "__eq__" "Tree.__eq__" (defArgs s_Teq) (defBody s_Teq) (defScope s_Teq) .none kV8 dc8 pm8 an8 cd8 ct8), sl8⟩)
    (c8 : PySem.W.codeIn K cd8 "Tree.__eq__" = true)
    (k8 : PySem.W.keepIn K (.ref f8) = true)
    (a9 : PySem.W.findIn K (.ref C) "__repr__" = some (some (.ref f9)))
    (i9 : PySem.W.isFn K (.ref f9) = true)
    (l9 : K.lookup f9 = some ⟨oc9, od9, .func (PySem.W.fnOf "__repr__" "Tree.__repr__" (defArgs s_Trepr) (defBody s_Trepr) (defScope s_Trepr) .none kV9 dc9 pm9 an9 cd9 ct9), sl9⟩)
    (c9 : PySem.W.codeIn K cd9 "Tree.__repr__" = true)
    (k9 : PySem.W.keepIn K (.ref f9) = true)
    (a10 : PySem.W.findIn K (.ref C) "parents" = some (some (.ref f10)))
    (i10 : PySem.W.isFn K (.ref f10) = true)
    (l10 : K.lookup f10 = some ⟨oc10, od10, .func (PySem.W.fnOf "parents" "Tree.parents" (defArgs s_Tparents) (defBody s_Tparents) (defScope s_Tparents) .none kV10 dc10 pm10 an10 cd10 ct10), sl10⟩)
    (c10 : PySem.W.codeIn K cd10 "Tree.parents" = true)
    (k10 : PySem.W.keepIn K (.ref f10) = true)
    (a11 : PySem.W.findIn K (.ref C) "struck" = some (some (.ref f11)))
    (i11 : PySem.W.isFn K (.ref f11) = true)
    (l11 : K.lookup f11 = some ⟨oc11, od11, .func (PySem.W.fnOf "struck" "Tree.struck" (defArgs s_Tstruck) (defBody s_Tstruck) (defScope s_Tstruck) .none kV11 dc11 pm11 an11 cd11 ct11), sl11⟩)
    (c11 : PySem.W.codeIn K cd11 "Tree.struck" = true)
    (k11 : PySem.W.keepIn K (.ref f11) = true)
    (a12 : PySem.W.findIn K (.ref C) "children" = some (some (.ref f12)))
    (i12 : PySem.W.isFn K (.ref f12) = true)
    (l12 : K.lookup f12 = some ⟨oc12, od12, .func (PySem.W.fnOf "children" "Tree.children" (defArgs s_Tchildren) (defBody s_Tchildren) (defScope s_Tchildren) .none kV12 dc12 pm12 an12 cd12 ct12), sl12⟩)
    (c12 : PySem.W.codeIn K cd12 "Tree.children" = true)
    (k12 : PySem.W.keepIn K (.ref f12) = true)
    (a13 : PySem.W.findIn K (.ref C) "is_struck" = some (some (.ref f13)))
    (i13 : PySem.W.isFn K (.ref f13) = true)
    (l13 : K.lookup f13 = some ⟨oc13, od13, .func (PySem.W.fnOf "is_struck" "Tree.is_struck" (defArgs s_Tis_struck) (defBody s_Tis_struck) (defScope s_Tis_struck) .none kV13 dc13 pm13 an13 cd13 ct13), sl13⟩)
    (c13 : PySem.W.codeIn K cd13 "Tree.is_struck" = true)
    (k13 : PySem.W.keepIn K (.ref f13) = true)
    (a14 : PySem.W.findIn K (.ref C) "with_group" = some (some (.ref f14)))
    (i14 : PySem.W.isFn K (.ref f14) = true)
    (l14 : K.lookup f14 = some ⟨oc14, od14, .func (PySem.W.fnOf "with_group" "Tree.with_group" (defArgs s_Twith_group) (defBody s_Twith_group) (defScope s_Twith_group) .none kV14 dc14 pm14 an14 cd14 ct14), sl14⟩)
    (c14 : PySem.W.codeIn K cd14 "Tree.with_group" = true)
    (k14 : PySem.W.keepIn K (.ref f14) = true)
    (a15 : PySem.W.findIn K (.ref C) "with_struck" = some (some (.ref f15)))
    (i15 : PySem.W.isFn K (.ref f15) = true)
    (l15 : K.lookup f15 = some ⟨oc15, od15, .func (PySem.W.fnOf "with_struck" "Tree.with_struck" (defArgs s_Twith_struck) (defBody s_Twith_struck) (defScope s_Twith_struck) .none kV15 dc15 pm15 an15 cd15 ct15), sl15⟩)
    (c15 : PySem.W.codeIn K cd15 "Tree.with_struck" = true)
    (k15 : PySem.W.keepIn K (.ref f15) = true)
    (a16 : PySem.W.nsIn K mainGlobals "_law_pot" = some (some (.ref f16)))
    (l16 : K.lookup f16 = some ⟨oc16, od16, .func (PySem.W.fnOf "_law_pot" "_law_pot" (defArgs s_Lpot) (defBody s_Lpot) (defScope s_Lpot) .none kV16 dc16 pm16 an16 cd16 ct16), sl16⟩)
    (c16 : PySem.W.codeIn K cd16 "_law_pot" = true)
    (k16 : PySem.W.keepIn K (.ref f16) = true)
    (a17 : PySem.W.nsIn K mainGlobals "_law_draw" = some (some (.ref f17)))
    (l17 : K.lookup f17 = some ⟨oc17, od17, .func (PySem.W.fnOf "_law_draw" "_law_draw" (defArgs s_Ldraw) (defBody s_Ldraw) (defScope s_Ldraw) .none kV17 dc17 pm17 an17 cd17 ct17), sl17⟩)
    (c17 : PySem.W.codeIn K cd17 "_law_draw" = true)
    (k17 : PySem.W.keepIn K (.ref f17) = true)
    (a18 : PySem.W.nsIn K mainGlobals "_law_pick" = some (some (.ref f18)))
    (l18 : K.lookup f18 = some ⟨oc18, od18, .func (PySem.W.fnOf "_law_pick" "_law_pick" (defArgs s_Lpick) (defBody s_Lpick) (defScope s_Lpick) .none kV18 dc18 pm18 an18 cd18 ct18), sl18⟩)
    (c18 : PySem.W.codeIn K cd18 "_law_pick" = true)
    (k18 : PySem.W.keepIn K (.ref f18) = true)
    (a19 : PySem.W.nsIn K mainGlobals "_law_ups" = some (some (.ref f19)))
    (l19 : K.lookup f19 = some ⟨oc19, od19, .func (PySem.W.fnOf "_law_ups" "_law_ups" (defArgs s_Lups) (defBody s_Lups) (defScope s_Lups) .none kV19 dc19 pm19 an19 cd19 ct19), sl19⟩)
    (c19 : PySem.W.codeIn K cd19 "_law_ups" = true)
    (k19 : PySem.W.keepIn K (.ref f19) = true)
    (a20 : PySem.W.nsIn K mainGlobals "_law_under" = some (some (.ref f20)))
    (l20 : K.lookup f20 = some ⟨oc20, od20, .func (PySem.W.fnOf "_law_under" "_law_under" (defArgs s_Lunder) (defBody s_Lunder) (defScope s_Lunder) .none kV20 dc20 pm20 an20 cd20 ct20), sl20⟩)
    (c20 : PySem.W.codeIn K cd20 "_law_under" = true)
    (k20 : PySem.W.keepIn K (.ref f20) = true)
    (a21 : PySem.W.nsIn K mainGlobals "_law_heard" = some (some (.ref f21)))
    (l21 : K.lookup f21 = some ⟨oc21, od21, .func (PySem.W.fnOf "_law_heard" "_law_heard" (defArgs s_Lheard) (defBody s_Lheard) (defScope s_Lheard) .none kV21 dc21 pm21 an21 cd21 ct21), sl21⟩)
    (c21 : PySem.W.codeIn K cd21 "_law_heard" = true)
    (k21 : PySem.W.keepIn K (.ref f21) = true)
    (a22 : PySem.W.nsIn K mainGlobals "_law_due" = some (some (.ref f22)))
    (l22 : K.lookup f22 = some ⟨oc22, od22, .func (PySem.W.fnOf "_law_due" "_law_due" (defArgs s_Ldue) (defBody s_Ldue) (defScope s_Ldue) .none kV22 dc22 pm22 an22 cd22 ct22), sl22⟩)
    (c22 : PySem.W.codeIn K cd22 "_law_due" = true)
    (k22 : PySem.W.keepIn K (.ref f22) = true)
    (a23 : PySem.W.nsIn K mainGlobals "_law_wrong" = some (some (.ref f23)))
    (l23 : K.lookup f23 = some ⟨oc23, od23, .func (PySem.W.fnOf "_law_wrong" "_law_wrong" (defArgs s_Lwrong) (defBody s_Lwrong) (defScope s_Lwrong) .none kV23 dc23 pm23 an23 cd23 ct23), sl23⟩)
    (c23 : PySem.W.codeIn K cd23 "_law_wrong" = true)
    (k23 : PySem.W.keepIn K (.ref f23) = true)
    (a24 : PySem.W.nsIn K mainGlobals "_law_spoilt" = some (some (.ref f24)))
    (l24 : K.lookup f24 = some ⟨oc24, od24, .func (PySem.W.fnOf "_law_spoilt" "_law_spoilt" (defArgs s_Lspoilt) (defBody s_Lspoilt) (defScope s_Lspoilt) .none kV24 dc24 pm24 an24 cd24 ct24), sl24⟩)
    (c24 : PySem.W.codeIn K cd24 "_law_spoilt" = true)
    (k24 : PySem.W.keepIn K (.ref f24) = true)
    (a25 : PySem.W.nsIn K mainGlobals "_law_list_right" = some (some (.ref f25)))
    (l25 : K.lookup f25 = some ⟨oc25, od25, .func (PySem.W.fnOf "_law_list_right" "_law_list_right" (defArgs s_Llist_right) (defBody s_Llist_right) (defScope s_Llist_right) .none kV25 dc25 pm25 an25 (.ref cc25) ct25), sl25⟩)
    (c25 : PySem.W.codeIn K (.ref cc25) "_law_list_right" = true)
    (tl25 : K.lookup cc25 = some ⟨toc25, tod25, .fields tvs25, tsl25⟩)
    (tv25 : tvs25[11]? = some (.ref pp25))
    (tn25 : K.lookup pp25 = none)
    (k25 : PySem.W.keepIn K (.ref f25) = true)
    (a26 : PySem.W.nsIn K mainGlobals "_law_right" = some (some (.ref f26)))
    (l26 : K.lookup f26 = some ⟨oc26, od26, .func (PySem.W.fnOf "_law_right" "_law_right" (defArgs s_Lright) (defBody s_Lright) (defScope s_Lright) .none kV26 dc26 pm26 an26 (.ref cc26) ct26), sl26⟩)
    (c26 : PySem.W.codeIn K (.ref cc26) "_law_right" = true)
    (tl26 : K.lookup cc26 = some ⟨toc26, tod26, .fields tvs26, tsl26⟩)
    (tv26 : tvs26[11]? = some (.ref pp26))
    (tn26 : K.lookup pp26 = none)
    (k26 : PySem.W.keepIn K (.ref f26) = true)
    (a27 : PySem.W.nsIn K mainGlobals "law" = some (some (.ref f27)))
    (l27 : K.lookup f27 = some ⟨oc27, od27, .func (PySem.W.fnOf "law" "law" (defArgs s_law) (defBody s_law) (defScope s_law) .none kV27 dc27 pm27 an27 cd27 ct27), sl27⟩)
    (c27 : PySem.W.codeIn K cd27 "law" = true)
    (k27 : PySem.W.keepIn K (.ref f27) = true)
    (xa1 : PySem.W.nsIn K mainGlobals "IsTop" = some (some (.ref cx1)))
    (xi1 : PySem.W.excInitIn K cx1 bm_RuntimeError "RuntimeError.__new__" = true)
    (xo1 : PySem.W.excOver K cx1 bm_RuntimeError = true)
    (xs1 : PySem.W.findIn K (.ref cx1) "__setattr__" = some (some (.builtin "object.__setattr__")))
    (xg1 : PySem.W.findIn K (.ref cx1) "__getattribute__" = some (some (.builtin "BaseException.__getattribute__")))
    (xh1 : PySem.W.findIn K (.ref cx1) "__getattr__" = some none)
    (xc1 : PySem.W.findIn K (.ref cx1) "__init__" = some (some (.ref ix1)))
    (xf1 : PySem.W.isFn K (.ref ix1) = true)
    (xk1 : PySem.W.keepIn K (.ref cx1) = true)
    (xb1 : PySem.W.subIn K (.ref cx1) (.type "BaseException") = some true)
    (xt1 : PySem.W.typeIn K (.ref cx1) = some (.type "type"))
    (xd1 : PySem.W.hasDictIn K cx1 = true)
    (xl1 : K.lookup ix1 = some ⟨xoc1, xod1, .func (PySem.W.fnOf "__init__" "IsTop.__init__" (defArgs s_E_IsTop) (defBody s_E_IsTop) (defScope s_E_IsTop) .none .none xdc1 xpm1 xan1 xcd1 xct1), xsl1⟩)
    (xe1 : PySem.W.codeIn K xcd1 "IsTop.__init__" = true)
    (xa2 : PySem.W.nsIn K mainGlobals "Struck" = some (some (.ref cx2)))
    (xi2 : PySem.W.excInitIn K cx2 bm_RuntimeError "RuntimeError.__new__" = true)
    (xo2 : PySem.W.excOver K cx2 bm_RuntimeError = true)
    (xs2 : PySem.W.findIn K (.ref cx2) "__setattr__" = some (some (.builtin "object.__setattr__")))
    (xg2 : PySem.W.findIn K (.ref cx2) "__getattribute__" = some (some (.builtin "BaseException.__getattribute__")))
    (xh2 : PySem.W.findIn K (.ref cx2) "__getattr__" = some none)
    (xc2 : PySem.W.findIn K (.ref cx2) "__init__" = some (some (.ref ix2)))
    (xf2 : PySem.W.isFn K (.ref ix2) = true)
    (xk2 : PySem.W.keepIn K (.ref cx2) = true)
    (xb2 : PySem.W.subIn K (.ref cx2) (.type "BaseException") = some true)
    (xt2 : PySem.W.typeIn K (.ref cx2) = some (.type "type"))
    (xd2 : PySem.W.hasDictIn K cx2 = true)
    (xl2 : K.lookup ix2 = some ⟨xoc2, xod2, .func (PySem.W.fnOf "__init__" "Struck.__init__" (defArgs s_E_Struck) (defBody s_E_Struck) (defScope s_E_Struck) .none .none xdc2 xpm2 xan2 xcd2 xct2), xsl2⟩)
    (xe2 : PySem.W.codeIn K xcd2 "Struck.__init__" = true)
    (xn2 : PySem.W.takerIn K cx2 "group" = some none)
    (xm2 : PySem.W.findIn K (.ref cx2) "group" = some none)
    (xa3 : PySem.W.nsIn K mainGlobals "HasChildren" = some (some (.ref cx3)))
    (xi3 : PySem.W.excInitIn K cx3 bm_RuntimeError "RuntimeError.__new__" = true)
    (xo3 : PySem.W.excOver K cx3 bm_RuntimeError = true)
    (xs3 : PySem.W.findIn K (.ref cx3) "__setattr__" = some (some (.builtin "object.__setattr__")))
    (xg3 : PySem.W.findIn K (.ref cx3) "__getattribute__" = some (some (.builtin "BaseException.__getattribute__")))
    (xh3 : PySem.W.findIn K (.ref cx3) "__getattr__" = some none)
    (xc3 : PySem.W.findIn K (.ref cx3) "__init__" = some (some (.ref ix3)))
    (xf3 : PySem.W.isFn K (.ref ix3) = true)
    (xk3 : PySem.W.keepIn K (.ref cx3) = true)
    (xb3 : PySem.W.subIn K (.ref cx3) (.type "BaseException") = some true)
    (xt3 : PySem.W.typeIn K (.ref cx3) = some (.type "type"))
    (xd3 : PySem.W.hasDictIn K cx3 = true)
    (xl3 : K.lookup ix3 = some ⟨xoc3, xod3, .func (PySem.W.fnOf "__init__" "HasChildren.__init__" (defArgs s_E_HasChildren) (defBody s_E_HasChildren) (defScope s_E_HasChildren) .none .none xdc3 xpm3 xan3 xcd3 xct3), xsl3⟩)
    (xe3 : PySem.W.codeIn K xcd3 "HasChildren.__init__" = true)
    (xn3 : PySem.W.takerIn K cx3 "group" = some none)
    (xm3 : PySem.W.findIn K (.ref cx3) "group" = some none)
    (xa4 : PySem.W.nsIn K mainGlobals "InvalidStruck" = some (some (.ref cx4)))
    (xi4 : PySem.W.excInitIn K cx4 bm_ValueError "ValueError.__new__" = true)
    (xo4 : PySem.W.excOver K cx4 bm_ValueError = true)
    (xs4 : PySem.W.findIn K (.ref cx4) "__setattr__" = some (some (.builtin "object.__setattr__")))
    (xg4 : PySem.W.findIn K (.ref cx4) "__getattribute__" = some (some (.builtin "BaseException.__getattribute__")))
    (xh4 : PySem.W.findIn K (.ref cx4) "__getattr__" = some none)
    (xc4 : PySem.W.findIn K (.ref cx4) "__init__" = some (some (.ref ix4)))
    (xf4 : PySem.W.isFn K (.ref ix4) = true)
    (xk4 : PySem.W.keepIn K (.ref cx4) = true)
    (xb4 : PySem.W.subIn K (.ref cx4) (.type "BaseException") = some true)
    (xt4 : PySem.W.typeIn K (.ref cx4) = some (.type "type"))
    (xd4 : PySem.W.hasDictIn K cx4 = true)
    (xl4 : K.lookup ix4 = some ⟨xoc4, xod4, .func (PySem.W.fnOf "__init__" "InvalidStruck.__init__" (defArgs s_E_InvalidStruck) (defBody s_E_InvalidStruck) (defScope s_E_InvalidStruck) .none .none xdc4 xpm4 xan4 xcd4 xct4), xsl4⟩)
    (xe4 : PySem.W.codeIn K xcd4 "InvalidStruck.__init__" = true)
    (xn4 : PySem.W.takerIn K cx4 "position" = some none)
    (xm4 : PySem.W.findIn K (.ref cx4) "position" = some none)
    (ab_StandError : PySem.W.nsIn K mainGlobals "StandError" = some (some (.ref cb_StandError)))
    (ab_WayError : PySem.W.nsIn K mainGlobals "WayError" = some (some (.ref cb_WayError)))
    (xw1 : PySem.W.findIn K (.ref cx1) "__class__" = some (some (.builtin "object.__class__")))
    (xv1 : PySem.W.mroIn K cx1 (.type "object") = some true)
    (xu1 : PySem.W.kitOne K (.ref cx1) (.ref cb_StandError) = some true)
    (xw2 : PySem.W.findIn K (.ref cx2) "__class__" = some (some (.builtin "object.__class__")))
    (xv2 : PySem.W.mroIn K cx2 (.type "object") = some true)
    (xu2 : PySem.W.kitOne K (.ref cx2) (.ref cb_StandError) = some true)
    (xw3 : PySem.W.findIn K (.ref cx3) "__class__" = some (some (.builtin "object.__class__")))
    (xv3 : PySem.W.mroIn K cx3 (.type "object") = some true)
    (xu3 : PySem.W.kitOne K (.ref cx3) (.ref cb_StandError) = some true)
    (xw4 : PySem.W.findIn K (.ref cx4) "__class__" = some (some (.builtin "object.__class__")))
    (xv4 : PySem.W.mroIn K cx4 (.type "object") = some true)
    (xu4 : PySem.W.kitOne K (.ref cx4) (.ref cb_WayError) = some true)
    (t_list : PySem.W.kitAny K (.ref C) [.type "list", .type "tuple"] = some false)
    (t_Tree : PySem.W.kitOne K (.ref C) (.ref C) = some true)
    (pne : pp25 ≠ pp26)
    (xy1 : PySem.W.isClsIn K cx1 = true)
    (xz1_1 : PySem.W.subIn K (.ref cx1) (.ref cx1) = some true)
    (xz2_1 : PySem.W.subIn K (.ref cx2) (.ref cx1) = some false)
    (xy2 : PySem.W.isClsIn K cx2 = true)
    (xz2_2 : PySem.W.subIn K (.ref cx2) (.ref cx2) = some true)
    (xz3_1 : PySem.W.subIn K (.ref cx3) (.ref cx1) = some false)
    (xz3_2 : PySem.W.subIn K (.ref cx3) (.ref cx2) = some false)
    (xy3 : PySem.W.isClsIn K cx3 = true)
    (xz3_3 : PySem.W.subIn K (.ref cx3) (.ref cx3) = some true)
    (xz4_1 : PySem.W.subIn K (.ref cx4) (.ref cx1) = some false)
    (xz4_2 : PySem.W.subIn K (.ref cx4) (.ref cx2) = some false)
    (xz4_3 : PySem.W.subIn K (.ref cx4) (.ref cx3) = some false)
    (xy4 : PySem.W.isClsIn K cx4 = true)
    (xz4_4 : PySem.W.subIn K (.ref cx4) (.ref cx4) = some true)
    (z_abs : PySem.W.nsIn K mainGlobals "abs" = some none)
    (z_all : PySem.W.nsIn K mainGlobals "all" = some none)
    (z_any : PySem.W.nsIn K mainGlobals "any" = some none)
    (z_bool : PySem.W.nsIn K mainGlobals "bool" = some none)
    (z_divmod : PySem.W.nsIn K mainGlobals "divmod" = some none)
    (z_enumerate : PySem.W.nsIn K mainGlobals "enumerate" = some none)
    (z_int : PySem.W.nsIn K mainGlobals "int" = some none)
    (z_isinstance : PySem.W.nsIn K mainGlobals "isinstance" = some none)
    (z_len : PySem.W.nsIn K mainGlobals "len" = some none)
    (z_list : PySem.W.nsIn K mainGlobals "list" = some none)
    (z_max : PySem.W.nsIn K mainGlobals "max" = some none)
    (z_min : PySem.W.nsIn K mainGlobals "min" = some none)
    (z_range : PySem.W.nsIn K mainGlobals "range" = some none)
    (z_repr : PySem.W.nsIn K mainGlobals "repr" = some none)
    (z_set : PySem.W.nsIn K mainGlobals "set" = some none)
    (z_sorted : PySem.W.nsIn K mainGlobals "sorted" = some none)
    (z_tuple : PySem.W.nsIn K mainGlobals "tuple" = some none)
    (g_MOST_GROUPS : PySem.W.nsIn K mainGlobals "MOST_GROUPS" = some (some (.int 200 t_MOST_GROUPS)))
    : ∃ (fd : FuncData) (ts : List (Addr × Addr)), (∀ p ∈ ts, ∃ y ∈ (["_law_list_right", "_law_right"] : List Str), PySem.W.tabIn K y = some p) ∧ (∀ p ∈ ts, K.lookup p.2 = none) ∧ (∀ (s : Shared) (v : Value), BindsTo s fd ⟨[v], []⟩ [("_law_script", v)]) ∧ ∀ base : Heap, K.In base → base.Ns mainGlobals mg → (∀ p ∈ ts, LamX.TabB base mg p.1 p.2) → FnG l.prog w K mg base CX0 15 fa fd ["_law_script"] (sp_lawT K ts) := by
  cases hfa.symm.trans (PySem.W.mg_of X G a27)
  have F1 := fun_mk (st := s_is_an_integer) l1 c1 k1
  have B1 := F1.binds (ps := ["value"]) fun _ _ _ _ _ _ us hl => match us, hl with | [_], _ => rfl
  have F2 := fun_mk (st := s_is_list) l2 c2 k2
  have B2 := F2.binds (ps := ["value"]) fun _ _ _ _ _ _ us hl => match us, hl with | [_], _ => rfl
  have F3 := fun_mk (st := s_check_group) l3 c3 k3
  have B3 := F3.binds (ps := ["tree", "value"]) fun _ _ _ _ _ _ us hl => match us, hl with | [_, _], _ => rfl
  have F4 := fun_mk (st := s_check_parents) l4 c4 k4
  have B4 := F4.binds (ps := ["parents"]) fun _ _ _ _ _ _ us hl => match us, hl with | [_], _ => rfl
  have F5 := fun_mk (st := s_check_struck) l5 c5 k5
  have B5 := F5.binds (ps := ["parents", "struck"]) fun _ _ _ _ _ _ us hl => match us, hl with | [_, _], _ => rfl
  have D6 : L2.FunD K "__init__" "Tree.__init__" (defArgs s_Tinit) (defBody s_Tinit) (defScope s_Tinit) [.ref d6_0, .ref d6_1] [] f6 (PySem.W.fnOf "__init__" "Tree.__init__" (defArgs s_Tinit) (defBody s_Tinit) (defScope s_Tinit) (.ref T6) kV6 dc6 pm6 an6 cd6 ct6) := ⟨⟨_, _, _, _, _, _, _, _, _, _, rfl, l6, c6, .inr ⟨(fun z => nomatch z), T6, _, [.ref d6_0, .ref d6_1], _, rfl, t6, rfl, .cons rfl (.cons rfl (.nil))⟩, .inl rfl⟩, k6⟩
  obtain ⟨w6_0, v6_0, b6_0⟩ := D6.binds1 (ps := ["self", "parents", "struck"]) 1 0 (fun z => nomatch z) rfl (fun _ _ _ _ _ _ _ us its hl hi => match us, hl, its, hi with | [_], _, [_, _], _ => ⟨_, rfl, rfl⟩)
  obtain ⟨w6_1, v6_1, b6_1⟩ := D6.binds1 (ps := ["self", "parents", "struck"]) 2 1 (fun z => nomatch z) rfl (fun _ _ _ _ _ _ _ us its hl hi => match us, hl, its, hi with | [_, _], _, [_, _], _ => ⟨_, rfl, rfl⟩)
  obtain ⟨w6_2, v6_2, b6_2⟩ := D6.binds1 (ps := ["self", "parents", "struck"]) 3 2 (fun z => nomatch z) rfl (fun _ _ _ _ _ _ _ us its hl hi => match us, hl, its, hi with | [_, _, _], _, [_, _], _ => ⟨_, rfl, rfl⟩)
  obtain ⟨wk6_Tinit_struck_parents, kk6_Tinit_struck_parents⟩ := D6.kbindsD (ps := ["self", "parents", "struck"]) 1 ["struck", "parents"] (fun {α} us ds ws => sel us ds ws [(0, 0), (2, 1), (2, 0)]) (fun z => nomatch z) (fun r1 r2 r3 => sel_rel r1 r2 r3 _) (fun _ _ _ _ _ _ _ us its ws l1 l2 l3 => match us, l1, its, l2, ws, l3 with | [_], _, [_, _], _, [_, _], _ => ⟨_, rfl, rfl⟩)
  have F7 := fun_mk (st := s_Tlen) l7 c7 k7
  have B7 := F7.binds (ps := ["self"]) fun _ _ _ _ _ _ us hl => match us, hl with | [_], _ => rfl
  have F8 := fun_mk (st := s_Teq) l8 c8 k8
  have B8 := F8.binds (ps := ["self", "other"]) fun _ _ _ _ _ _ us hl => match us, hl with | [_, _], _ => rfl
  have F9 := fun_mk (st := s_Trepr) l9 c9 k9
  have B9 := F9.binds (ps := ["self"]) fun _ _ _ _ _ _ us hl => match us, hl with | [_], _ => rfl
  have F10 := fun_mk (st := s_Tparents) l10 c10 k10
  have B10 := F10.binds (ps := ["self"]) fun _ _ _ _ _ _ us hl => match us, hl with | [_], _ => rfl
  have F11 := fun_mk (st := s_Tstruck) l11 c11 k11
  have B11 := F11.binds (ps := ["self"]) fun _ _ _ _ _ _ us hl => match us, hl with | [_], _ => rfl
  have F12 := fun_mk (st := s_Tchildren) l12 c12 k12
  have B12 := F12.binds (ps := ["self", "group"]) fun _ _ _ _ _ _ us hl => match us, hl with | [_, _], _ => rfl
  have F13 := fun_mk (st := s_Tis_struck) l13 c13 k13
  have B13 := F13.binds (ps := ["self", "group"]) fun _ _ _ _ _ _ us hl => match us, hl with | [_, _], _ => rfl
  have F14 := fun_mk (st := s_Twith_group) l14 c14 k14
  have B14 := F14.binds (ps := ["self", "group"]) fun _ _ _ _ _ _ us hl => match us, hl with | [_, _], _ => rfl
  have F15 := fun_mk (st := s_Twith_struck) l15 c15 k15
  have B15 := F15.binds (ps := ["self", "group"]) fun _ _ _ _ _ _ us hl => match us, hl with | [_, _], _ => rfl
  have F16 := fun_mk (st := s_Lpot) l16 c16 k16
  have B16 := F16.binds (ps := ["_law_script", "_law_k"]) fun _ _ _ _ _ _ us hl => match us, hl with | [_, _], _ => rfl
  have F17 := fun_mk (st := s_Ldraw) l17 c17 k17
  have B17 := F17.binds (ps := ["_law_pot_here", "_law_sides"]) fun _ _ _ _ _ _ us hl => match us, hl with | [_, _], _ => rfl
  have F18 := fun_mk (st := s_Lpick) l18 c18 k18
  have B18 := F18.binds (ps := ["_law_pot_here", "_law_some"]) fun _ _ _ _ _ _ us hl => match us, hl with | [_, _], _ => rfl
  have F19 := fun_mk (st := s_Lups) l19 c19 k19
  have B19 := F19.binds (ps := ["_law_pot_here", "_law_most"]) fun _ _ _ _ _ _ us hl => match us, hl with | [_, _], _ => rfl
  have F20 := fun_mk (st := s_Lunder) l20 c20 k20
  have B20 := F20.binds (ps := ["_law_ups_here", "_law_spot"]) fun _ _ _ _ _ _ us hl => match us, hl with | [_, _], _ => rfl
  have F21 := fun_mk (st := s_Lheard) l21 c21 k21
  have B21 := F21.binds (ps := ["_law_ask"]) fun _ _ _ _ _ _ us hl => match us, hl with | [_], _ => rfl
  have F22 := fun_mk (st := s_Ldue) l22 c22 k22
  have B22 := F22.binds (ps := ["_law_ups_here", "_law_marks", "_law_spot"]) fun _ _ _ _ _ _ us hl => match us, hl with | [_, _, _], _ => rfl
  have F23 := fun_mk (st := s_Lwrong) l23 c23 k23
  have B23 := F23.binds (ps := ["_law_ups_here", "_law_some"]) fun _ _ _ _ _ _ us hl => match us, hl with | [_, _], _ => rfl
  have F24 := fun_mk (st := s_Lspoilt) l24 c24 k24
  have B24 := F24.binds (ps := ["_law_pot_here", "_law_ups_here", "_law_marks"]) fun _ _ _ _ _ _ us hl => match us, hl with | [_, _, _], _ => rfl
  have tb25 := tabIn_mk (x := "_law_list_right") a25 l25 rfl tl25 tv25
  have F25 := fun_mk (st := s_Llist_right) l25 c25 k25
  have B25 := F25.binds (ps := ["_law_ups_here", "_law_some"]) fun _ _ _ _ _ _ us hl => match us, hl with | [_, _], _ => rfl
  have tb26 := tabIn_mk (x := "_law_right") a26 l26 rfl tl26 tv26
  have F26 := fun_mk (st := s_Lright) l26 c26 k26
  have B26 := F26.binds (ps := ["_law_pot_here"]) fun _ _ _ _ _ _ us hl => match us, hl with | [_], _ => rfl
  have F27 := fun_mk (st := s_law) l27 c27 k27
  have B27 := F27.binds (ps := ["_law_script"]) fun _ _ _ _ _ _ us hl => match us, hl with | [_], _ => rfl
  obtain ⟨xp1_1, xq1_1, xr1_1, xr2_1, xr3_1⟩ := sh_IsTop
  rw [xr1_1, xr2_1, xr3_1] at xl1
  obtain ⟨xp1_2, xp2_2, xq1_2, xq2_2, xq3_2, xq4_2, xr1_2, xr2_2, xr3_2⟩ := sh_Struck
  rw [xr1_2, xr2_2, xr3_2] at xl2
  obtain ⟨xp1_3, xp2_3, xq1_3, xq2_3, xq3_3, xq4_3, xr1_3, xr2_3, xr3_3⟩ := sh_HasChildren
  rw [xr1_3, xr2_3, xr3_3] at xl3
  obtain ⟨xp1_4, xp2_4, xq1_4, xq2_4, xq3_4, xq4_4, xr1_4, xr2_4, xr3_4⟩ := sh_InvalidStruck
  rw [xr1_4, xr2_4, xr3_4] at xl4
  let T : Txt K mg := {
    C := C,
    c_Tree := ⟨pg, hd, po, sa⟩,
    m_Tree := PySem.W.mg_of X G aC,
    n_above := n_above,
    n_struck := n_struck,
    x_class := x_class,
    x_get := x_get,
    x_tk := x_tk,
    x_mro := x_mro,
    x_ne := x_ne,
    x_cls := x_cls,
    x_ty := x_ty,
    f_is_an_integer := f1,
    fd_is_an_integer := PySem.W.fnOf "is_an_integer" "is_an_integer" (defArgs s_is_an_integer) (defBody s_is_an_integer) (defScope s_is_an_integer) .none kV1 dc1 pm1 an1 cd1 ct1,
    F_is_an_integer := F1,
    b_is_an_integer := B1,
    m_is_an_integer := PySem.W.mg_of X G a1,
    f_is_list := f2,
    fd_is_list := PySem.W.fnOf "is_list" "is_list" (defArgs s_is_list) (defBody s_is_list) (defScope s_is_list) .none kV2 dc2 pm2 an2 cd2 ct2,
    F_is_list := F2,
    b_is_list := B2,
    m_is_list := PySem.W.mg_of X G a2,
    f_check_group := f3,
    fd_check_group := PySem.W.fnOf "check_group" "check_group" (defArgs s_check_group) (defBody s_check_group) (defScope s_check_group) .none kV3 dc3 pm3 an3 cd3 ct3,
    F_check_group := F3,
    b_check_group := B3,
    m_check_group := PySem.W.mg_of X G a3,
    f_check_parents := f4,
    fd_check_parents := PySem.W.fnOf "check_parents" "check_parents" (defArgs s_check_parents) (defBody s_check_parents) (defScope s_check_parents) .none kV4 dc4 pm4 an4 cd4 ct4,
    F_check_parents := F4,
    b_check_parents := B4,
    m_check_parents := PySem.W.mg_of X G a4,
    f_check_struck := f5,
    fd_check_struck := PySem.W.fnOf "check_struck" "check_struck" (defArgs s_check_struck) (defBody s_check_struck) (defScope s_check_struck) .none kV5 dc5 pm5 an5 cd5 ct5,
    F_check_struck := F5,
    b_check_struck := B5,
    m_check_struck := PySem.W.mg_of X G a5,
    f_Tinit := f6,
    fd_Tinit := PySem.W.fnOf "__init__" "Tree.__init__" (defArgs s_Tinit) (defBody s_Tinit) (defScope s_Tinit) (.ref T6) kV6 dc6 pm6 an6 cd6 ct6,
    d0_Tinit := d6_0,
    e0_Tinit := fun H => .inr ⟨_, #[], _, u6_0, rfl, rfl, by decide, .nil⟩,
    y0_Tinit := fun H => .kTuple u6_0 rfl,
    d1_Tinit := d6_1,
    e1_Tinit := fun H => .inr ⟨_, #[], _, u6_1, rfl, rfl, by decide, .nil⟩,
    y1_Tinit := fun H => .kTuple u6_1 rfl,
    F_Tinit := D6,
    w0_Tinit := w6_0,
    v0_Tinit := v6_0,
    b0_Tinit := b6_0,
    w1_Tinit := w6_1,
    v1_Tinit := v6_1,
    b1_Tinit := b6_1,
    w2_Tinit := w6_2,
    v2_Tinit := v6_2,
    b2_Tinit := b6_2,
    mk_Tree := ⟨mk, a6, i6, kc⟩,
    wk_Tinit_struck_parents := wk6_Tinit_struck_parents,
    k_Tinit_struck_parents := kk6_Tinit_struck_parents,
    f_Tlen := f7,
    fd_Tlen := PySem.W.fnOf "__len__" "Tree.__len__" (defArgs s_Tlen) (defBody s_Tlen) (defScope s_Tlen) .none kV7 dc7 pm7 an7 cd7 ct7,
    F_Tlen := F7,
    b_Tlen := B7,
    M_Tlen := ⟨a7, i7, k7⟩,
    f_Teq := f8,
    fd_Teq := PySem.W.fnOf "__eq__" "Tree.__eq__" (defArgs s_Teq) (defBody s_Teq) (defScope s_Teq) .none kV8 dc8 pm8 an8 cd8 ct8,
    F_Teq := F8,
    b_Teq := B8,
    M_Teq := ⟨a8, i8, k8⟩,
    f_Trepr := f9,
    fd_Trepr := PySem.W.fnOf "__repr__" "Tree.__repr__" (defArgs s_Trepr) (defBody s_Trepr) (defScope s_Trepr) .none kV9 dc9 pm9 an9 cd9 ct9,
    F_Trepr := F9,
    b_Trepr := B9,
    M_Trepr := ⟨a9, i9, k9⟩,
    f_Tparents := f10,
    fd_Tparents := PySem.W.fnOf "parents" "Tree.parents" (defArgs s_Tparents) (defBody s_Tparents) (defScope s_Tparents) .none kV10 dc10 pm10 an10 cd10 ct10,
    F_Tparents := F10,
    b_Tparents := B10,
    M_Tparents := ⟨a10, i10, k10⟩,
    f_Tstruck := f11,
    fd_Tstruck := PySem.W.fnOf "struck" "Tree.struck" (defArgs s_Tstruck) (defBody s_Tstruck) (defScope s_Tstruck) .none kV11 dc11 pm11 an11 cd11 ct11,
    F_Tstruck := F11,
    b_Tstruck := B11,
    M_Tstruck := ⟨a11, i11, k11⟩,
    f_Tchildren := f12,
    fd_Tchildren := PySem.W.fnOf "children" "Tree.children" (defArgs s_Tchildren) (defBody s_Tchildren) (defScope s_Tchildren) .none kV12 dc12 pm12 an12 cd12 ct12,
    F_Tchildren := F12,
    b_Tchildren := B12,
    M_Tchildren := ⟨a12, i12, k12⟩,
    f_Tis_struck := f13,
    fd_Tis_struck := PySem.W.fnOf "is_struck" "Tree.is_struck" (defArgs s_Tis_struck) (defBody s_Tis_struck) (defScope s_Tis_struck) .none kV13 dc13 pm13 an13 cd13 ct13,
    F_Tis_struck := F13,
    b_Tis_struck := B13,
    M_Tis_struck := ⟨a13, i13, k13⟩,
    f_Twith_group := f14,
    fd_Twith_group := PySem.W.fnOf "with_group" "Tree.with_group" (defArgs s_Twith_group) (defBody s_Twith_group) (defScope s_Twith_group) .none kV14 dc14 pm14 an14 cd14 ct14,
    F_Twith_group := F14,
    b_Twith_group := B14,
    M_Twith_group := ⟨a14, i14, k14⟩,
    f_Twith_struck := f15,
    fd_Twith_struck := PySem.W.fnOf "with_struck" "Tree.with_struck" (defArgs s_Twith_struck) (defBody s_Twith_struck) (defScope s_Twith_struck) .none kV15 dc15 pm15 an15 cd15 ct15,
    F_Twith_struck := F15,
    b_Twith_struck := B15,
    M_Twith_struck := ⟨a15, i15, k15⟩,
    k_Twith_struck_group := ⟨fun s us ws _ hl => kbt1 (fun _ _ => .of_eq rfl) rfl us ws hl, kb1_rel⟩,
    f_Lpot := f16,
    fd_Lpot := PySem.W.fnOf "_law_pot" "_law_pot" (defArgs s_Lpot) (defBody s_Lpot) (defScope s_Lpot) .none kV16 dc16 pm16 an16 cd16 ct16,
    F_Lpot := F16,
    b_Lpot := B16,
    m_Lpot := PySem.W.mg_of X G a16,
    f_Ldraw := f17,
    fd_Ldraw := PySem.W.fnOf "_law_draw" "_law_draw" (defArgs s_Ldraw) (defBody s_Ldraw) (defScope s_Ldraw) .none kV17 dc17 pm17 an17 cd17 ct17,
    F_Ldraw := F17,
    b_Ldraw := B17,
    m_Ldraw := PySem.W.mg_of X G a17,
    f_Lpick := f18,
    fd_Lpick := PySem.W.fnOf "_law_pick" "_law_pick" (defArgs s_Lpick) (defBody s_Lpick) (defScope s_Lpick) .none kV18 dc18 pm18 an18 cd18 ct18,
    F_Lpick := F18,
    b_Lpick := B18,
    m_Lpick := PySem.W.mg_of X G a18,
    f_Lups := f19,
    fd_Lups := PySem.W.fnOf "_law_ups" "_law_ups" (defArgs s_Lups) (defBody s_Lups) (defScope s_Lups) .none kV19 dc19 pm19 an19 cd19 ct19,
    F_Lups := F19,
    b_Lups := B19,
    m_Lups := PySem.W.mg_of X G a19,
    f_Lunder := f20,
    fd_Lunder := PySem.W.fnOf "_law_under" "_law_under" (defArgs s_Lunder) (defBody s_Lunder) (defScope s_Lunder) .none kV20 dc20 pm20 an20 cd20 ct20,
    F_Lunder := F20,
    b_Lunder := B20,
    m_Lunder := PySem.W.mg_of X G a20,
    f_Lheard := f21,
    fd_Lheard := PySem.W.fnOf "_law_heard" "_law_heard" (defArgs s_Lheard) (defBody s_Lheard) (defScope s_Lheard) .none kV21 dc21 pm21 an21 cd21 ct21,
    F_Lheard := F21,
    b_Lheard := B21,
    m_Lheard := PySem.W.mg_of X G a21,
    f_Ldue := f22,
    fd_Ldue := PySem.W.fnOf "_law_due" "_law_due" (defArgs s_Ldue) (defBody s_Ldue) (defScope s_Ldue) .none kV22 dc22 pm22 an22 cd22 ct22,
    F_Ldue := F22,
    b_Ldue := B22,
    m_Ldue := PySem.W.mg_of X G a22,
    f_Lwrong := f23,
    fd_Lwrong := PySem.W.fnOf "_law_wrong" "_law_wrong" (defArgs s_Lwrong) (defBody s_Lwrong) (defScope s_Lwrong) .none kV23 dc23 pm23 an23 cd23 ct23,
    F_Lwrong := F23,
    b_Lwrong := B23,
    m_Lwrong := PySem.W.mg_of X G a23,
    f_Lspoilt := f24,
    fd_Lspoilt := PySem.W.fnOf "_law_spoilt" "_law_spoilt" (defArgs s_Lspoilt) (defBody s_Lspoilt) (defScope s_Lspoilt) .none kV24 dc24 pm24 an24 cd24 ct24,
    F_Lspoilt := F24,
    b_Lspoilt := B24,
    m_Lspoilt := PySem.W.mg_of X G a24,
    c_Llist_right := cc25,
    p_Llist_right := pp25,
    FT_Llist_right := ⟨⟨_, _, _, _, _, _, _, _, rfl, l25, c25⟩⟩,
    f_Llist_right := f25,
    fd_Llist_right := PySem.W.fnOf "_law_list_right" "_law_list_right" (defArgs s_Llist_right) (defBody s_Llist_right) (defScope s_Llist_right) .none kV25 dc25 pm25 an25 (.ref cc25) ct25,
    F_Llist_right := F25,
    b_Llist_right := B25,
    m_Llist_right := PySem.W.mg_of X G a25,
    c_Lright := cc26,
    p_Lright := pp26,
    FT_Lright := ⟨⟨_, _, _, _, _, _, _, _, rfl, l26, c26⟩⟩,
    f_Lright := f26,
    fd_Lright := PySem.W.fnOf "_law_right" "_law_right" (defArgs s_Lright) (defBody s_Lright) (defScope s_Lright) .none kV26 dc26 pm26 an26 (.ref cc26) ct26,
    F_Lright := F26,
    b_Lright := B26,
    m_Lright := PySem.W.mg_of X G a26,
    f_law := fa,
    fd_law := PySem.W.fnOf "law" "law" (defArgs s_law) (defBody s_law) (defScope s_law) .none kV27 dc27 pm27 an27 cd27 ct27,
    F_law := F27,
    b_law := B27,
    m_law := PySem.W.mg_of X G a27,
    C_IsTop := cx1,
    I_IsTop := ix1,
    X_IsTop := ⟨⟨xi1, xo1, xs1, xg1, xh1, xc1, xf1, xk1, xb1, xt1, xd1⟩, ⟨_, _, _, _, _, _, _, _, _, _, _, xl1, xe1⟩⟩,
    m_IsTop := PySem.W.mg_of X G xa1,
    C_Struck := cx2,
    I_Struck := ix2,
    X_Struck := ⟨⟨xi2, xo2, xs2, xg2, xh2, xc2, xf2, xk2, xb2, xt2, xd2⟩, xn2, xm2, ⟨_, _, _, _, _, _, _, _, _, _, _, _, _, _, _, xl2, xe2⟩⟩,
    m_Struck := PySem.W.mg_of X G xa2,
    C_HasChildren := cx3,
    I_HasChildren := ix3,
    X_HasChildren := ⟨⟨xi3, xo3, xs3, xg3, xh3, xc3, xf3, xk3, xb3, xt3, xd3⟩, xn3, xm3, ⟨_, _, _, _, _, _, _, _, _, _, _, _, _, _, _, xl3, xe3⟩⟩,
    m_HasChildren := PySem.W.mg_of X G xa3,
    C_InvalidStruck := cx4,
    I_InvalidStruck := ix4,
    X_InvalidStruck := ⟨⟨xi4, xo4, xs4, xg4, xh4, xc4, xf4, xk4, xb4, xt4, xd4⟩, xn4, xm4, ⟨_, _, _, _, _, _, _, _, _, _, _, _, _, _, _, xl4, xe4⟩⟩,
    m_InvalidStruck := PySem.W.mg_of X G xa4,
    C_StandError := cb_StandError,
    m_StandError := PySem.W.mg_of X G ab_StandError,
    C_WayError := cb_WayError,
    m_WayError := PySem.W.mg_of X G ab_WayError,
    ec_IsTop := ⟨xg1, xh1, xb1, xd1, xw1, x_get, x_tk, xv1⟩,
    ib_IsTop := xu1,
    ec_Struck := ⟨xg2, xh2, xb2, xd2, xw2, x_get, x_tk, xv2⟩,
    ib_Struck := xu2,
    ec_HasChildren := ⟨xg3, xh3, xb3, xd3, xw3, x_get, x_tk, xv3⟩,
    ib_HasChildren := xu3,
    ec_InvalidStruck := ⟨xg4, xh4, xb4, xd4, xw4, x_get, x_tk, xv4⟩,
    ib_InvalidStruck := xu4,
    t_list := t_list,
    t_Tree := t_Tree,
    pne := pne,
    q_IsTop_IsTop := exm_is xb1 xy1 xt1 xz1_1,
    q_Struck_IsTop := exm_is xb1 xy1 xt1 xz2_1,
    q_Struck_Struck := exm_is xb2 xy2 xt2 xz2_2,
    q_HasChildren_IsTop := exm_is xb1 xy1 xt1 xz3_1,
    q_HasChildren_Struck := exm_is xb2 xy2 xt2 xz3_2,
    q_HasChildren_HasChildren := exm_is xb3 xy3 xt3 xz3_3,
    q_InvalidStruck_IsTop := exm_is xb1 xy1 xt1 xz4_1,
    q_InvalidStruck_Struck := exm_is xb2 xy2 xt2 xz4_2,
    q_InvalidStruck_HasChildren := exm_is xb3 xy3 xt3 xz4_3,
    q_InvalidStruck_InvalidStruck := exm_is xb4 xy4 xt4 xz4_4,
    z_abs := PySem.W.mg_none_of X G z_abs,
    z_all := PySem.W.mg_none_of X G z_all,
    z_any := PySem.W.mg_none_of X G z_any,
    z_bool := PySem.W.mg_none_of X G z_bool,
    z_divmod := PySem.W.mg_none_of X G z_divmod,
    z_enumerate := PySem.W.mg_none_of X G z_enumerate,
    z_int := PySem.W.mg_none_of X G z_int,
    z_isinstance := PySem.W.mg_none_of X G z_isinstance,
    z_len := PySem.W.mg_none_of X G z_len,
    z_list := PySem.W.mg_none_of X G z_list,
    z_max := PySem.W.mg_none_of X G z_max,
    z_min := PySem.W.mg_none_of X G z_min,
    z_range := PySem.W.mg_none_of X G z_range,
    z_repr := PySem.W.mg_none_of X G z_repr,
    z_set := PySem.W.mg_none_of X G z_set,
    z_sorted := PySem.W.mg_none_of X G z_sorted,
    z_tuple := PySem.W.mg_none_of X G z_tuple,
    t_MOST_GROUPS := t_MOST_GROUPS,
    m_MOST_GROUPS := PySem.W.mg_of X G g_MOST_GROUPS }
  refine ⟨T.fd_law, [(cc25, pp25), (cc26, pp26)], fun p hp => ?_, fun p hp => ?_, fun s v => .of_eq rfl, fun base _ _ tb => ok_text T (tb _ List.mem_cons_self) (tb _ (List.mem_cons_of_mem _ List.mem_cons_self))⟩
  · rcases List.mem_cons.mp hp with rfl | hp
    · exact ⟨_, List.mem_cons_self, tb25⟩
    · rw [List.mem_singleton.mp hp]
      exact ⟨_, List.mem_cons_of_mem _ List.mem_cons_self, tb26⟩
  · rcases List.mem_cons.mp hp with rfl | hp
    · exact tn25
    · rw [List.mem_singleton.mp hp]
      exact tn26
end My
open PySem PySem.W PyProof.Rows in
set_option maxRecDepth 100000 in
set_option maxHeartbeats 0 in
theorem PySem.Challenge.cw_chargeways_k13_groups_struck_one_by_one_holds : PySem.Challenge.rw_chargeways_k13_groups_struck_one_by_one.Holds := by
  w_on; o_law; k_head; (case hw => w_witness2)
  k_fill
  refine GL.walkGT (l := PySem.Challenge.rw_chargeways_k13_groups_struck_one_by_one) (k := 15) (x := "_law_script") (sp := My.sp_lawT) (xs := ["_law_list_right", "_law_right"]) rfl rfl ⟨rfl, by decide, by decide⟩ (fun w h Y => PySem.W.km_in_of Y) ?hx ?F (fun K ts H a ns hl ht hS => My.law_startT hS hl ht)
  case hx =>
    intro y hy
    rcases List.mem_cons.mp hy with rfl | hy
    · exact ⟨_, rfl⟩
    · rw [List.mem_singleton.mp hy]
      exact ⟨_, rfl⟩
  case F =>
    intro w mg fa h KX G hmg
    refine' My.all_mk KX G hmg ?aC ?pg ?hd ?po ?sa ?mk ?kc ?n_above ?n_struck ?x_class ?x_get ?x_tk ?x_mro ?x_ne ?x_cls ?x_ty ?a1 ?l1 ?c1 ?k1 ?a2 ?l2 ?c2 ?k2 ?a3 ?l3 ?c3 ?k3 ?a4 ?l4 ?c4 ?k4 ?a5 ?l5 ?c5 ?k5 ?a6 ?i6 ?l6 ?c6 ?k6 ?t6 ?u6_0 ?u6_1 ?a7 ?i7 ?l7 ?c7 ?k7 ?a8 ?i8 ?l8 ?c8 ?k8 ?a9 ?i9 ?l9 ?c9 ?k9 ?a10 ?i10 ?l10 ?c10 ?k10 ?a11 ?i11 ?l11 ?c11 ?k11 ?a12 ?i12 ?l12 ?c12 ?k12 ?a13 ?i13 ?l13 ?c13 ?k13 ?a14 ?i14 ?l14 ?c14 ?k14 ?a15 ?i15 ?l15 ?c15 ?k15 ?a16 ?l16 ?c16 ?k16 ?a17 ?l17 ?c17 ?k17 ?a18 ?l18 ?c18 ?k18 ?a19 ?l19 ?c19 ?k19 ?a20 ?l20 ?c20 ?k20 ?a21 ?l21 ?c21 ?k21 ?a22 ?l22 ?c22 ?k22 ?a23 ?l23 ?c23 ?k23 ?a24 ?l24 ?c24 ?k24 ?a25 ?l25 ?c25 ?tl25 ?tv25 ?tn25 ?k25 ?a26 ?l26 ?c26 ?tl26 ?tv26 ?tn26 ?k26 ?a27 ?l27 ?c27 ?k27 ?xa1 ?xi1 ?xo1 ?xs1 ?xg1 ?xh1 ?xc1 ?xf1 ?xk1 ?xb1 ?xt1 ?xd1 ?xl1 ?xe1 ?xa2 ?xi2 ?xo2 ?xs2 ?xg2 ?xh2 ?xc2 ?xf2 ?xk2 ?xb2 ?xt2 ?xd2 ?xl2 ?xe2 ?xn2 ?xm2 ?xa3 ?xi3 ?xo3 ?xs3 ?xg3 ?xh3 ?xc3 ?xf3 ?xk3 ?xb3 ?xt3 ?xd3 ?xl3 ?xe3 ?xn3 ?xm3 ?xa4 ?xi4 ?xo4 ?xs4 ?xg4 ?xh4 ?xc4 ?xf4 ?xk4 ?xb4 ?xt4 ?xd4 ?xl4 ?xe4 ?xn4 ?xm4 ?ab_StandError ?ab_WayError ?xw1 ?xv1 ?xu1 ?xw2 ?xv2 ?xu2 ?xw3 ?xv3 ?xu3 ?xw4 ?xv4 ?xu4 ?t_list ?t_Tree ?pne ?xy1 ?xz1_1 ?xz2_1 ?xy2 ?xz2_2 ?xz3_1 ?xz3_2 ?xy3 ?xz3_3 ?xz4_1 ?xz4_2 ?xz4_3 ?xy4 ?xz4_4 ?z_abs ?z_all ?z_any ?z_bool ?z_divmod ?z_enumerate ?z_int ?z_isinstance ?z_len ?z_list ?z_max ?z_min ?z_range ?z_repr ?z_set ?z_sorted ?z_tuple ?g_MOST_GROUPS
    (case aC => k_is)
    (case pg => k_is)
    (case hd => k_is)
    (case po => k_is)
    (case sa => k_is)
    (case mk => k_is)
    (case kc => k_is)
    (case n_above => k_is)
    (case n_struck => k_is)
    (case x_class => k_is)
    (case x_get => k_is)
    (case x_tk => k_is)
    (case x_mro => k_is)
    (case x_ne => k_is)
    (case x_cls => k_is)
    (case x_ty => k_is)
    (case a1 => k_is)
    (case l1 => k_is)
    (case c1 => k_is)
    (case k1 => k_is)
    (case a2 => k_is)
    (case l2 => k_is)
    (case c2 => k_is)
    (case k2 => k_is)
    (case a3 => k_is)
    (case l3 => k_is)
    (case c3 => k_is)
    (case k3 => k_is)
    (case a4 => k_is)
    (case l4 => k_is)
    (case c4 => k_is)
    (case k4 => k_is)
    (case a5 => k_is)
    (case l5 => k_is)
    (case c5 => k_is)
    (case k5 => k_is)
    (case a6 => k_is)
    (case i6 => k_is)
    (case l6 => k_is)
    (case c6 => k_is)
    (case k6 => k_is)
    (case t6 => k_is)
    (case u6_0 => k_is)
    (case u6_1 => k_is)
    (case a7 => k_is)
    (case i7 => k_is)
    (case l7 => k_is)
    (case c7 => k_is)
    (case k7 => k_is)
    (case a8 => k_is)
    (case i8 => k_is)
    (case l8 => k_is)
    (case c8 => k_is)
    (case k8 => k_is)
    (case a9 => k_is)
    (case i9 => k_is)
    (case l9 => k_is)
    (case c9 => k_is)
    (case k9 => k_is)
    (case a10 => k_is)
    (case i10 => k_is)
    (case l10 => k_is)
    (case c10 => k_is)
    (case k10 => k_is)
    (case a11 => k_is)
    (case i11 => k_is)
    (case l11 => k_is)
    (case c11 => k_is)
    (case k11 => k_is)
    (case a12 => k_is)
    (case i12 => k_is)
    (case l12 => k_is)
    (case c12 => k_is)
    (case k12 => k_is)
    (case a13 => k_is)
    (case i13 => k_is)
    (case l13 => k_is)
    (case c13 => k_is)
    (case k13 => k_is)
    (case a14 => k_is)
    (case i14 => k_is)
    (case l14 => k_is)
    (case c14 => k_is)
    (case k14 => k_is)
    (case a15 => k_is)
    (case i15 => k_is)
    (case l15 => k_is)
    (case c15 => k_is)
    (case k15 => k_is)
    (case a16 => k_is)
    (case l16 => k_is)
    (case c16 => k_is)
    (case k16 => k_is)
    (case a17 => k_is)
    (case l17 => k_is)
    (case c17 => k_is)
    (case k17 => k_is)
    (case a18 => k_is)
    (case l18 => k_is)
    (case c18 => k_is)
    (case k18 => k_is)
    (case a19 => k_is)
    (case l19 => k_is)
    (case c19 => k_is)
    (case k19 => k_is)
    (case a20 => k_is)
    (case l20 => k_is)
    (case c20 => k_is)
    (case k20 => k_is)
    (case a21 => k_is)
    (case l21 => k_is)
    (case c21 => k_is)
    (case k21 => k_is)
    (case a22 => k_is)
    (case l22 => k_is)
    (case c22 => k_is)
    (case k22 => k_is)
    (case a23 => k_is)
    (case l23 => k_is)
    (case c23 => k_is)
    (case k23 => k_is)
    (case a24 => k_is)
    (case l24 => k_is)
    (case c24 => k_is)
    (case k24 => k_is)
    (case a25 => k_is)
    (case l25 => k_is)
    (case c25 => k_is)
    (case tl25 => k_is)
    (case tv25 => (first | rfl | kernel_rfl))
    (case tn25 => (first | kernel_rfl | rfl))
    (case k25 => k_is)
    (case a26 => k_is)
    (case l26 => k_is)
    (case c26 => k_is)
    (case tl26 => k_is)
    (case tv26 => (first | rfl | kernel_rfl))
    (case tn26 => (first | kernel_rfl | rfl))
    (case k26 => k_is)
    (case a27 => k_is)
    (case l27 => k_is)
    (case c27 => k_is)
    (case k27 => k_is)
    (case xa1 => k_is)
    (case xi1 => kx_is)
    (case xo1 => kx_is)
    (case xs1 => k_is)
    (case xg1 => k_is)
    (case xh1 => k_is)
    (case xc1 => k_is)
    (case xf1 => k_is)
    (case xk1 => k_is)
    (case xb1 => k_is)
    (case xt1 => k_is)
    (case xd1 => k_is)
    (case xl1 => k_is)
    (case xe1 => k_is)
    (case xa2 => k_is)
    (case xi2 => kx_is)
    (case xo2 => kx_is)
    (case xs2 => k_is)
    (case xg2 => k_is)
    (case xh2 => k_is)
    (case xc2 => k_is)
    (case xf2 => k_is)
    (case xk2 => k_is)
    (case xb2 => k_is)
    (case xt2 => k_is)
    (case xd2 => k_is)
    (case xl2 => k_is)
    (case xe2 => k_is)
    (case xn2 => k_is)
    (case xm2 => k_is)
    (case xa3 => k_is)
    (case xi3 => kx_is)
    (case xo3 => kx_is)
    (case xs3 => k_is)
    (case xg3 => k_is)
    (case xh3 => k_is)
    (case xc3 => k_is)
    (case xf3 => k_is)
    (case xk3 => k_is)
    (case xb3 => k_is)
    (case xt3 => k_is)
    (case xd3 => k_is)
    (case xl3 => k_is)
    (case xe3 => k_is)
    (case xn3 => k_is)
    (case xm3 => k_is)
    (case xa4 => k_is)
    (case xi4 => kx_is)
    (case xo4 => kx_is)
    (case xs4 => k_is)
    (case xg4 => k_is)
    (case xh4 => k_is)
    (case xc4 => k_is)
    (case xf4 => k_is)
    (case xk4 => k_is)
    (case xb4 => k_is)
    (case xt4 => k_is)
    (case xd4 => k_is)
    (case xl4 => k_is)
    (case xe4 => k_is)
    (case xn4 => k_is)
    (case xm4 => k_is)
    (case ab_StandError => k_is)
    (case ab_WayError => k_is)
    (case xw1 => k_is)
    (case xv1 => k_is)
    (case xu1 => kernel_rfl)
    (case xw2 => k_is)
    (case xv2 => k_is)
    (case xu2 => kernel_rfl)
    (case xw3 => k_is)
    (case xv3 => k_is)
    (case xu3 => kernel_rfl)
    (case xw4 => k_is)
    (case xv4 => k_is)
    (case xu4 => kernel_rfl)
    (case t_list => kernel_rfl)
    (case t_Tree => kernel_rfl)
    (case pne => (first | decide | decide +kernel))
    (case xy1 => k_is)
    (case xz1_1 => k_is)
    (case xz2_1 => k_is)
    (case xy2 => k_is)
    (case xz2_2 => k_is)
    (case xz3_1 => k_is)
    (case xz3_2 => k_is)
    (case xy3 => k_is)
    (case xz3_3 => k_is)
    (case xz4_1 => k_is)
    (case xz4_2 => k_is)
    (case xz4_3 => k_is)
    (case xy4 => k_is)
    (case xz4_4 => k_is)
    (case z_abs => k_is)
    (case z_all => k_is)
    (case z_any => k_is)
    (case z_bool => k_is)
    (case z_divmod => k_is)
    (case z_enumerate => k_is)
    (case z_int => k_is)
    (case z_isinstance => k_is)
    (case z_len => k_is)
    (case z_list => k_is)
    (case z_max => k_is)
    (case z_min => k_is)
    (case z_range => k_is)
    (case z_repr => k_is)
    (case z_set => k_is)
    (case z_sorted => k_is)
    (case z_tuple => k_is)
    (case g_MOST_GROUPS => k_is)
#print axioms PySem.Challenge.cw_chargeways_k13_groups_struck_one_by_one_holds
