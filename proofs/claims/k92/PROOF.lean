import PyProof.Rows.All
import Wide.All
import OpenK.AllK
import Wide.FinOn
import HandS.ForMost
import HandS.Strs
import HandS.IsInst
import HandS.Evl
import HandS.MakeKw
import HandS.WideBits
import HandS.Star
import HandS.Walk
import HandS.Conv
import HandS.RaiseMore
import HandS.FStr
import HandS.Style
import HandS.More
import HandS.OwnEq
import PyProof.InstNe
import KE.KExcInit
import HandS.Exc
import HandS.ExcOwn
import HandS.ExcInit
import HandS.TryMany
import KE.KExcLine
import PyProof.EqAt
import PyProof.MeetsIn
import HandS.ExcIs
import HandS.IsInst
import HandS.ExcField
import HandS.ExcValue
import HandS.Text
import HandS.Small
import HandS.Lambda
import HandS.EndTab
import HandS.TupAny
import HandS.Replace
import KE.KUnpackStar
import HandS.ListItems
import HandS.Defaults
import HandS.Comp
import HandS.CallLocal
import PyProof.P3Eq
import PyProof.MeetsIn
import PyProof.FString4
import PyProof.EqKinds
import PyProof.EqAt
import PyProof.DictUpdate
import PyProof.DictDisplay
import PyProof.DictCopy
import KE.KStar
import KE.KExcInit
import HandS.Zip
import HandS.TupAny
import HandS.TryMany
import HandS.Text
import HandS.Property
import HandS.MakeKwOnly
import HandS.Lambda
import HandS.Iter
import HandS.ExcOwn
import HandS.ExcIs
import HandS.ExcInit
import HandS.Exc
import HandS.EndTab
import HandS.DictEq
import HandS.Deep
import KE.GoesEnumKw
import PySem.Challenge.RW_chargeways_k92_lines_of_deeds
import KE.KStateDown
import HandS.Base
import HandS.Call
import HandS.Ends
import HandS.Words
import HandS.Dict
import HandS.Head0
import HandS.Head1
import HandS.Head2
import HandS.HeadEnd
import HandS.HeadHook1
import HandS.HeadHook2
import HandS.HeadHook3
import HandS.HeadHook4
set_option Elab.async false
set_option linter.all false
set_option maxRecDepth 100000
set_option maxHeartbeats 4000000
/-! Promises kept where no repr is under way (the guards are empty): calls, methods, makings, bodies. -/
namespace GL
open PySem PySem.Spec PyProof.Rows L2
abbrev Fre (A : Around) : Prop := A.guards = some []
/-- as FnOk, where nothing is being shown -/
structure FnG (P : Program) (w : World) (K : PySem.W.Frag) (mg : Str → Option Value) (base : Heap) (CX : CXT) (k : Nat) (f : Addr) (fd : FuncData) (ps : List Str) (sp : Sp) : Prop where
  many : ∀ vs H Q E, sp vs H Q E → vs.length = ps.length
  goes : ∀ {A : Around} {outer : List Env} {s : Shared} {H : Hp} {args : Args} {us : List Value} {vs : List V} {Q : VK} {E : XK}, Fre A → Room k A →
    Env0 P w K mg base A outer s H → BindsTo s fd args (ps.zip us) → Vals vs us → sp vs H Q E → codeAny (model P w) A (.call (.ref f) args) (CR CX outer P w H s Q E) s
section
variable {X : Cx} {CX : CXT} {k : Nat} {f C : Addr} {fd : FuncData} {ps ks : List Str} {sp : Sp} {dvs : List V} {ds : List Value} {E : XK} {x m : Str} {p pos apos : Pos} {e o : Expr} {es : List Expr} {kws : List Keyword} {ta : TE} {t tk : TA}
  {g : List Value → List Value → List Value} {gV : List V → List V → List V} {pins : List (Addr × Obj)} {σ : L2.St} {H : Hp} {s : Shared} {Q : VK} {us ws : List Value} {vs zs : List V}
/-- a call's result, taken into the caller's frame -/
theorem landed {code : Code} (hx : Passes CX X E) (I : Inv X pins σ H s) (h : codeAny (model X.prog X.w) X.A code (CR CX X.stack X.prog X.w H s Q E) s) :
    codeAny (model X.prog X.w) X.A code (fun r s' => match r with
      | .ok (.ret u) => EP X pins σ Q u s'
      | .ok _ => False
      | .error e => X.xe e s') s := by
  refine codeAny_mono h ?_
  intro r s' hq
  match r, hq with
  | .error e, hq => exact hx pins σ H s e s' I hq
  | .ok (.ret u), hq => exact I.after hq
  | .ok .next, hq => exact hq
  | .ok .brk, hq => exact hq
  | .ok .cont, hq => exact hq
theorem ran {v : Value} {args : List Value} {kw : List (Str × Value)} (h : codeAny (model X.prog X.w) X.A (.call v ⟨args, kw⟩) (fun r s' => match r with
      | .ok (.ret u) => EP X pins σ Q u s'
      | .ok _ => False
      | .error e => X.xe e s') s) : wpAny (model X.prog X.w) X.A (call v args kw) (EP X pins σ Q) X.xe s := by
  refine wpAny_call (codeAny_mono h ?_)
  intro r s' hq
  match r, hq with
  | .error e, hq => exact hq
  | .ok (.ret u), hq => exact hq
theorem ranF (G : Fre X.A) (F : FnG X.prog X.w X.K X.mg X.base CX k f fd ps sp) (hr : Room k X.A) (hb : Binds X.K fd ps ds) (hd : Vals dvs ds) (hx : Passes CX X E) (I : Inv X pins σ H s) (r : Vals vs us) (h : sp (vs ++ dvs) H Q E) :
    wpAny (model X.prog X.w) X.A (call (.ref f) us) (EP X pins σ Q) X.xe s :=
  have ra := r.append hd
  ran (landed hx I (F.goes G hr I.env0 (hb s us I.kIn (ra.length.symm.trans (F.many _ _ _ _ h))) ra h))
/-- f(e, ..) -/
theorem pc (G : Fre X.A) (F : FnG X.prog X.w X.K X.mg X.base CX k f fd ps sp) (hr : Room k X.A) (hg : Gl X x) (hm : X.mg x = some (.ref f)) (hk : PySem.W.keepIn X.K (.ref f) = true) (hb : Binds X.K fd ps ds) (hd : Vals dvs ds) (hx : Passes CX X E)
    (ha : PA X (e :: es) t) (ndb : (x == ("__debug__" : Str)) = false := by decide) (he : starEach (e :: es) X.env = (false, eval e X.env) :: starEach es X.env := by rfl) (hpl : (backTo pos (starEach es X.env)).any (·.1) = false := by rfl) :
    PE X (.Call (.Name x p) (e :: es) [] pos) (tCall sp dvs E t) where
  run := fun pins s σ H Q I h => wpAny_Call_Name_kw (ld_glob I hg hm
    (PySem.W.callWith_K I.ok.mod.kin hk (thn (ha.run pos pins s σ H _ I h) fun us s1 ⟨vs, H1, I1, r, q⟩ => ⟨I1.kIn, ranF G F hr hb hd hx I1 r q⟩) he hpl) ndb)
theorem pc0 (G : Fre X.A) (F : FnG X.prog X.w X.K X.mg X.base CX k f fd ps sp) (hr : Room k X.A) (hg : Gl X x) (hm : X.mg x = some (.ref f)) (hk : PySem.W.keepIn X.K (.ref f) = true) (hb : Binds X.K fd ps ds) (hd : Vals dvs ds) (hx : Passes CX X E)
    (ndb : (x == ("__debug__" : Str)) = false := by decide) : PE X (.Call (.Name x p) [] [] pos) (tCall sp dvs E tNil) where
  run := fun pins s σ H Q I h => wpAny_Call_Name_kw (ld_glob I hg hm (PySem.W.callWith_K0 I.kIn hk (ranF (us := []) G F hr hb hd hx I .nil h)) ndb)
/-- o.m(e, ..) -/
theorem pm {pl : Sem Bool} (G : Fre X.A) (he : PE X o ta) (c : Cls X.K C) (hm : Meth X.K C m f) (F : FnG X.prog X.w X.K X.mg X.base CX k f fd ps sp) (hr : Room k X.A) (hb : Binds X.K fd ps ds) (hd : Vals dvs ds) (hx : Passes CX X E) (ha : PA X (e :: es) t)
    (hse : starEach (e :: es) X.env = (false, eval e X.env) :: starEach es X.env := by rfl) (hpl : (backTo pos (starEach es X.env)).any (·.1) = false := by rfl)
    (hev : eval (.Call (.Attribute o m apos) (e :: es) [] pos) X.env = (do
      let ov ← eval o X.env
      standAt apos.atName
      let (fn, frst) ← holding [ov] (getMethod ov m pl)
      callWith pos fn frst (backTo pos (starEach (e :: es) X.env)) (backToKw pos (keywordEach [] X.env))) := by rfl) : PE X (.Call (.Attribute o m apos) (e :: es) [] pos) (tMeth C m sp dvs E ta t) := by
  constructor
  intro pins s σ H Q I h
  refine PySem.W.methodCall_KW (pl := pl) (thn (he.run pins s σ H _ I h) ?_) hev
  rintro u s1 ⟨v, H1, I1, rv, a, dx, fs, rfl, ea, l, q⟩
  cases rv
  refine getmeth_ok I1 ea c hm l (PySem.W.callWith_K (first := [.ref a]) (h₀ := X.base) I.ok.mod.kin hm.kp (thn (ha.run pos pins s1 σ H1 _ I1 q) ?_) hse hpl)
  rintro us s2 ⟨vs, H2, I2, r, q2⟩
  exact ⟨I2.kIn, ranF (us := .ref a :: us) (vs := .ref a :: vs) G F hr hb hd hx I2 (.cons rfl r) q2⟩
end
/-- a body keeps its promise -/
theorem bodied {CX : CXT} {P : Program} {w : World} {K : PySem.W.Frag} {mg : Str → Option Value} {base : Heap} {k : Nat} {f : Addr} {name qual : Str} {params : Arguments} {body : List Stmt} {scope : Scope} {dV kV doc pm cdv ct oc : Value} {an od : Option Addr}
    {sl0 : Array (Option Value)} {N ps : List Str} {sp : Sp} (lk : K.lookup f = some ⟨oc, od, .func (PySem.W.fnOf name qual params body scope dV kV doc pm an cdv ct), sl0⟩) (hcd : PySem.W.codeIn K cdv qual = true) (S : FnScope N ps scope)
    (many : ∀ vs H Q E, sp vs H Q E → vs.length = ps.length)
    (hb : ∀ (A : Around) (outer : List Env) (s : Shared) (H : Hp) (vs : List V) (Q : VK) (E : XK), Fre (A.deeper (envOfC qual scope s.heap.objs.size f cdv)) → Room k (A.deeper (envOfC qual scope s.heap.objs.size f cdv)) → sp vs H Q E →
      ∃ tr, PSs (cxOf CX P w K mg base N qual scope f cdv A outer s H E) body tr ∧ tr { nx := fun _ H' => Q .non H', rt := Q } (start N vs) H) :
    FnG P w K mg base CX (k + 1) f (PySem.W.fnOf name qual params body scope dV kV doc pm an cdv ct) ps sp := by
  refine ⟨many, ?_⟩
  intro A outer s H args us vs Q E hgd hr e0 hbd r hsp
  have KI : K.In s.heap := e0.mod.kin.keeps fun b o e => (e0.bs b o e).1
  have kinds : ∀ y ∈ ps.zip us, scope.names.lookup y.1 = some .local ∨ (scope.names.lookup y.1 = some .cell ∧ ((cellsFrom (s.heap.objs.size + 1) scope.names []).lookup y.1).isSome = true) := by
    rintro ⟨n, v⟩ hy
    exact (S.par n (List.of_mem_zip hy).1).imp id fun q => ⟨q, PySem.W.cellsFrom_some _ _ _ (.inl q)⟩
  refine codeAny_call_function hr.depth (KI _ _ lk) rfl S.co S.gen rfl (PySem.W.codeRec_of KI hcd) (hbd _ _ _ _ (wpAny_newFunctionEnv_cells S.kind kinds ?_))
  rintro env rfl s1 x
  refine ⟨(e0.mod.nolimit.keeps fun b o e => (e0.bs b o e).1).keeps x.toInCall.keep, codeAny_func ?_⟩
  obtain ⟨t, ht, hq⟩ := hb A outer s H vs Q E hgd (hr.deeper _) hsp
  have I := inv_start (CX := CX) (E := E) S hr.hd e0 (many _ _ _ _ hsp) r x
  refine wpAny_mono (ht.run [] s1 (start N vs) H _ I hq) ?_ (fun _ _ z => z)
  intro fl s' z
  match fl, z with
  | .ret u, z =>
    obtain ⟨v, σ', H', J, rv, q⟩ := z
    exact ⟨v, H', J.os, J.bare, J.base, J.hok, rv, q⟩
  | .next, z =>
    obtain ⟨σ', H', J, q⟩ := z
    exact ⟨V.non, H', J.os, J.bare, J.base, J.hok, rfl, q⟩
  | .brk, z => exact z.elim fun _ z => z.elim fun _ z => z.2.elim
  | .cont, z => exact z.elim fun _ z => z.elim fun _ z => z.2.elim
section
variable {P : Program} {w : World} {K : PySem.W.Frag} {mg : Str → Option Value} {base : Heap} {x qual : Str} {st : Stmt} {f : Addr} {fd : FuncData} {N ps : List Str} {k : Nat} {sp : Sp} {CX : CXT}
theorem okG (F : L2.Fun K x qual st f fd) (S : FnScope N ps (defScope st)) (many : ∀ vs H Q E, sp vs H Q E → vs.length = ps.length)
    (hb : ∀ (cdv : Value) (A : Around) (outer : List Env) (s : Shared) (H : Hp) (vs : List V) (Q : VK) (E : XK), Fre (A.deeper (envOfC qual (defScope st) s.heap.objs.size f cdv)) → Room k (A.deeper (envOfC qual (defScope st) s.heap.objs.size f cdv)) → sp vs H Q E →
      ∃ t, PSs (cxOf CX0 P w K mg base N qual (defScope st) f cdv A outer s H E).nox (defBody st) t ∧ t { nx := fun _ H' => Q .non H', rt := Q } (start N vs) H) : FnG P w K mg base CX0 (k + 1) f fd ps sp := by
  obtain ⟨c0, o0, kV, doc, pm, an, cdv, ct, s0, rfl, lk, hcd⟩ := F.ex
  exact bodied lk hcd S many fun A outer s H vs Q E g hr hsp => (hb cdv A outer s H vs Q E g hr hsp).imp fun t z => ⟨z.1.nox, z.2⟩
end
end GL
namespace GL
open PySem PySem.Spec PyProof.Rows L2
/-! ### enumerate from any start, over lists and tuples -/
/-! ### sorted(t), t a tuple of ints -/
end GL
namespace GL
open PySem PySem.Spec PyProof.Rows L2
/-! ### enumerate(t, start=k), t a tuple -/
end GL
namespace GL
open PySem PySem.Spec PyProof.Rows L2
/-- of three lists (those by place, the defaults, those by name), which go where -/
def sel {α : Type} (us ds ws : List α) : List (Nat × Nat) → List α
  | [] => []
  | (0, i) :: r => (us[i]?).toList ++ sel us ds ws r
  | (1, i) :: r => (ds[i]?).toList ++ sel us ds ws r
  | (_, i) :: r => (ws[i]?).toList ++ sel us ds ws r
theorem vals_at {vs : List V} {us : List Value} (h : Vals vs us) (i : Nat) : Vals (vs[i]?).toList (us[i]?).toList := by
  cases e : vs[i]? with
  | none =>
    have : us[i]? = none := List.getElem?_eq_none (by rw [← h.length]; exact List.getElem?_eq_none_iff.mp e)
    rw [this]
    exact .nil
  | some x =>
    obtain ⟨u, hu, r⟩ := h.get e
    rw [hu]
    exact .cons r .nil
theorem sel_rel {vs ds zs : List V} {us its ws : List Value} (h1 : Vals vs us) (h2 : Vals ds its) (h3 : Vals zs ws) : ∀ l : List (Nat × Nat), Vals (sel vs ds zs l) (sel us its ws l)
  | [] => .nil
  | (0, i) :: r => (vals_at h1 i).append (sel_rel h1 h2 h3 r)
  | (1, i) :: r => (vals_at h2 i).append (sel_rel h1 h2 h3 r)
  | (n + 2, i) :: r => (vals_at h3 i).append (sel_rel h1 h2 h3 r)
end GL
namespace GL
open PySem PySem.Spec PyProof.Rows L2
theorem looks_is {M : Model} {u : Value} {T : String} {s : Shared} (h : s.TypeIs u T) : PySem.W.Looks M s.heap (typeOf u) (.type T) := fun A Q E s' k q => by
  have h' : s'.TypeIs u T := by
    cases u <;> first | exact h | (obtain ⟨o, e, c⟩ := h; exact ⟨o, k _ _ e, c⟩)
  exact wpAny_typeOf h' q
def kinds : List String := ["NoneType", "bool", "int", "str", "list", "tuple", "dict"]
theorem sub_kind {K : PySem.W.Frag} {C : Addr} : ∀ {T : String}, T ∈ kinds → PySem.W.subIn K (.type T) (.ref C) = some false := by
  have go : ∀ T l, fastBuiltinMro T = some l → l.contains (.ref C) = false → PySem.W.subIn K (.type T) (.ref C) = some false := fun T l h1 h2 => by
    show (fastBuiltinMro T).map (·.contains (.ref C)) = some false
    rw [h1]
    exact congrArg some h2
  intro T hT
  simp only [kinds, List.mem_cons, List.not_mem_nil, or_false] at hT
  rcases hT with rfl | rfl | rfl | rfl | rfl | rfl | rfl
  · exact go _ [.type "NoneType", .type "object"] (by decide +kernel) (by simp)
  · exact go _ [.type "bool", .type "int", .type "object"] (by decide +kernel) (by simp)
  · exact go _ [.type "int", .type "object"] (by decide +kernel) (by simp)
  · exact go _ [.type "str", .type "object"] (by decide +kernel) (by simp)
  · exact go _ [.type "list", .type "object"] (by decide +kernel) (by simp)
  · exact go _ [.type "tuple", .type "object"] (by decide +kernel) (by simp)
  · exact go _ [.type "dict", .type "object"] (by decide +kernel) (by simp)
/-- the other side of ==: one of the same class, or of a kind of Python's -/
inductive Oth (K : PySem.W.Frag) (H : Hp) (C : Addr) : V → Prop where
  | ins {b dy : Addr} {gs : List (Str × V)} (h : H b = some (.ins C dy gs)) : Oth K H C (.ref b)
  | oth {y : V} {T : String} (h : TyB K H y T) (hT : T ∈ kinds) : Oth K H C y
section
variable {X : Cx} {CX : CXT} {k : Nat} {f C : Addr} {fd : FuncData} {sp : Sp} {E : XK}
theorem Oth.go {pins : List (Addr × Obj)} {σ : L2.St} {H : Hp} {s : Shared} {y : V} {u : Value} (h : Oth X.K H C y) (I : Inv X pins σ H s) (r : RelV y u) : ∃ tb, PySem.W.Looks (model X.prog X.w) s.heap (typeOf u) tb ∧ PySem.W.notFirst X.K C tb = true := by
  cases h with
  | ins h =>
    cases r
    obtain ⟨mB, J', _⟩ := ins_get I.hok h
    obtain ⟨od', J', _⟩ := J'.look
    exact ⟨_, J'.type, by simp [PySem.W.notFirst]⟩
  | oth h hT => exact ⟨_, looks_is (h.is I r), by
      unfold PySem.W.notFirst
      rw [sub_kind hT]
      simp⟩
end
/-! ### != by the own == -/
end GL
/-! Own errors, over any of Python's classes, with an __init__ that keeps one value or nothing: made, raised, read. -/
namespace PySem
namespace GX
open PySem.W PySem.Calls PyProof.Rows PySem.HandSPX Builtin Builtin.ObjectAttr
/-- an error's class at C, its __init__ at fI, over the class that newId makes -/
structure ErrT (K : Frag) (C fI : Addr) (bmB : List Value) (newId : String) : Prop where
  ini : excInitIn K C bmB newId = true
  ov : excOver K C bmB = true
  sa : findIn K (.ref C) "__setattr__" = some (some (.builtin "object.__setattr__"))
  ga : findIn K (.ref C) "__getattribute__" = some (some (.builtin "BaseException.__getattribute__"))
  gg : findIn K (.ref C) "__getattr__" = some none
  iC : findIn K (.ref C) "__init__" = some (some (.ref fI))
  fn : isFn K (.ref fI) = true
  kp : keepIn K (.ref C) = true
  exC : subIn K (.ref C) (.type "BaseException") = some true
  ty : typeIn K (.ref C) = some (.type "type")
  hd : hasDictIn K C = true
section
variable {prog : Program} {w : World} {A : Around} {E : Value → Shared → Prop} {R : Result → Shared → Prop} {K : Frag} {C fI x t : Addr} {bmB : List Value} {B newId initId : String}
/-- the first thing that an error keeps: its dict is made -/
theorem keeps_first {hp : Heap} {g : Array GenState} {dr : Drawn} {tt : Nat} {os : OsState} {name : Str} {tk : Tok} {v : Value} (SF : StoreFacts B bmB "object.__setattr__" "object") (X : K.In hp) (T : ErrT K C fI bmB newId) (ht : takerIn K C name = some none) (hx : hp.get? x = some (excObj C t none .none))
    (hq : ∀ h' tk' dx, (∀ b o, b ≠ x → hp.get? b = some o → h'.get? b = some o) → hp.objs.size ≤ dx → dx ≠ x → h'.get? x = some (excObj C t (some dx) .none) → h'.Ns1 dx (fun y => if y = name then some v else none) → R (.ok (.ret .none)) ⟨h', g, dr, tk', os⟩) :
    codeAny (model prog w) A (.call (.builtin "object.__setattr__") ⟨[.ref x, .str name tk, v], []⟩) R ⟨hp, g, dr, tt, os⟩ := by
  refine osa_openX (s := ⟨hp, g, dr, tt, os⟩) (od := none) SF X ⟨hx, rfl, rfl, trivial⟩ T.ov ht fun b => ?_
  obtain ⟨cd, hc, hdct⟩ := any_some T.hd
  have hlt : x < hp.objs.size := Heap.lt_size hx
  refine wpAny_bind (wpAny_pure (wpAny_bind (instanceDict_exc hx (looks_clsIn X hc) hdct ?_)))
  show wpAny _ _ (storeInDict hp.objs.size (.str name tk) name v) _ _ _
  have hnew : ((hp.push (dictOf [] 0)).update x fun o => { o with dict := some hp.objs.size }).get? hp.objs.size = some (dictOf [] 0) := (Heap.get?_update_ne _ _ _ _ (Nat.ne_of_gt hlt)).trans (Heap.get?_push_at rfl rfl)
  refine store_in_new ⟨dictOf [] 0, #[], _, hnew, rfl, fun e he => absurd he (by simp), fun _ => rfl⟩ fun h' tk' hns hsame => ?_
  have hx1 : (hp.push (dictOf [] 0)).get? x = some (excObj C t none .none) := Heap.get?_push_of_some _ hx
  refine hq h' tk' hp.objs.size (fun b o hb ho => ?_) (Nat.le_refl _) (Nat.ne_of_gt hlt) ?_ hns
  · exact (hsame.2 b (Nat.ne_of_lt (Heap.lt_size ho))).trans ((Heap.get?_update_ne _ _ _ _ hb).trans (Heap.get?_push_of_some _ ho))
  · exact (hsame.2 x (Nat.ne_of_lt hlt)).trans (Heap.get?_update_self _ hx1 rfl)
theorem ld_par {M : Model} {s : Shared} {name : Str} {scope : Scope} {L a : Addr} {cd : Value} {m : Str → Option Value} {y : Str} {pos : Pos} {v : Value} {Q : Value → Shared → Prop} (hn : s.heap.Ns L m) (hv : m y = some v) (h : Q v s)
    (hk : scope.kind = .function) (hl : (envOfC name scope L a cd).kindOf y = some .local) (hd : (y == ("__debug__" : Str)) = false) :
    wpAny M A (eval (.Name y pos) (envOfC name scope L a cd)) Q E s := wpAny_Name (wpAny_loadName_local hk hl hn hv h) hd
theorem one_fits {v : Value} : [v].length ≤ sizeLine := by
  rw [sizeLine_eq]
  exact (by decide : 1 ≤ 16777216)
/-- an error was made at e, its dict at d (or none) -/
structure Kept (h h' : Heap) (e C : Addr) (d : Option Addr) : Prop where
  keep : ∀ b o, h.get? b = some o → h'.get? b = some o
  new : h.objs.size ≤ e
  obj : ∃ oe vs, h'.get? e = some oe ∧ oe.cls = .ref C ∧ oe.dict = d ∧ oe.data = .fields vs ∧ vs[1]? = some .none
end
def inivalueA (p1 p2 : Pos) : Arguments := { posonlyargs := [], args := [{ arg := "self", annotation := none, pos := p1 }, { arg := "value", annotation := none, pos := p2 }], vararg := none, kwonlyargs := [], kw_defaults := [], kwarg := none, defaults := [] }
def inivalueB (q1 q2 q3 q4 : Pos) : List Stmt := [.Assign [.Attribute (.Name "self" q1) "value" q2] (.Name "value" q3) q4]
def inivalueS : Scope := { kind := .function, names := [(PySem.Str.ofString "self", .local), (PySem.Str.ofString "value", .local)], isGenerator := false, isCoroutine := false, more := [] }
/-- it keeps one value, as value -/
structure Errvalue (K : Frag) (C fI : Addr) (bmB : List Value) (newId : String) : Prop extends ErrT K C fI bmB newId where
  tk : takerIn K C "value" = some none
  no : findIn K (.ref C) "value" = some none
  code : ∃ (oc : Value) (od : Option Addr) (doc pm : Value) (an : Option Addr) (cdv ct : Value) (osl : Array (Option Value)) (qual : Str) (p1 p2 q1 q2 q3 q4 : Pos),
    K.lookup fI = some ⟨oc, od, .func (fnOf "__init__" qual (inivalueA p1 p2) (inivalueB q1 q2 q3 q4) inivalueS .none .none doc pm an cdv ct), osl⟩ ∧ codeIn K cdv qual = true
section
variable {prog : Program} {w : World} {A : Around} {E : Value → Shared → Prop} {R : Result → Shared → Prop} {K : Frag} {C fI x t : Addr} {bmB : List Value} {B newId initId : String}
theorem init_value {s : Shared} {v : Value} (SF : StoreFacts B bmB "object.__setattr__" "object") (T : Errvalue K C fI bmB newId) (X : K.In s.heap) (hlim : s.heap.NoLimit) (hx : s.heap.get? x = some (excObj C t none .none)) (hroom : A.depth < recursionLimit)
    (hq : ∀ h' tk dx, (∀ b o, b ≠ x → s.heap.get? b = some o → h'.get? b = some o) → s.heap.objs.size ≤ dx → dx ≠ x → h'.get? x = some (excObj C t (some dx) .none) → h'.Ns1 dx (fun y => if y = "value" then some v else none) → R (.ok (.ret .none)) { s with heap := h', toks := tk }) :
    codeAny (model prog w) A (.call (.ref fI) ⟨[.ref x, v], []⟩) R s := by
  obtain ⟨oc, od, doc, pm, an, cdv, ct, osl, qual, p1, p2, q1, q2, q3, q4, ho, hcd⟩ := T.code
  refine Att.call_fn (binds := [("self", .ref x), ("value", v)]) X hlim ho hcd hroom (.of_eq rfl) rfl (fun s₁ IC => ?_) rfl rfl rfl
  obtain ⟨h₁, tk₁, rfl⟩ := IC.toInCall.same
  have kk : ∀ b o, s.heap.get? b = some o → h₁.get? b = some o := IC.toInCall.keep
  have hn := IC.toInCall.ns
  show wpAny _ _ (execs _ _) _ _ _
  refine wpAny_execs_cons (plainObj_wpAny_Assign_Attribute ?_)
  refine ld_par (v := v) hn rfl (ld_par (v := .ref x) hn rfl ?_ rfl rfl (by decide)) rfl rfl (by decide)
  refine set_plain (X.keeps kk) (ox := excObj C t none .none) (od := none) ⟨kk _ _ hx, rfl, rfl, trivial⟩ T.sa ?_
  refine keeps_first SF (X.keeps kk) T.toErrT T.tk (kk _ _ hx) fun h₃ tk₃ dx k₃ dn dne hx₃ hn₃ => ?_
  show wpAny _ _ (execs _ _) _ _ _
  have z : s.heap.objs.size < h₁.objs.size := hn.lt
  exact wpAny_execs_nil (hq h₃ tk₃ dx (fun b o hb e => k₃ b o hb (kk b o e)) (Nat.le_of_lt (Nat.lt_of_lt_of_le z dn)) dne hx₃ hn₃)
theorem made_value {s : Shared} {v : Value} (SF : StoreFacts B bmB "object.__setattr__" "object") (FB : ExcBaseFacts B newId initId bmB) (T : Errvalue K C fI bmB newId) (X : K.In s.heap) (hlim : s.heap.NoLimit) (hroom : A.depth + 1 < recursionLimit)
    (hq : ∀ h' tk e d, Kept s.heap h' e C (some d) → s.heap.objs.size ≤ d → d ≠ e → h'.Ns1 d (fun y => if y = "value" then some v else none) → R (.ok (.ret (.ref e))) { s with heap := h', toks := tk }) :
    codeAny (model prog w) A (.call (.ref C) ⟨[v], []⟩) R s := by
  obtain ⟨nm, N, qn, bs, bm, hdct, sn, sub, ab, col, dd, k0, k1, k2, k3, k5, hC, hT⟩ := excInit_of X T.ini
  obtain ⟨hp, g, dr, tk, os⟩ := s
  have kk : ∀ b o, hp.get? b = some o → ((hp.push (kdv_tup [v])).push (excO C hp.objs.size)).get? b = some o := fun b o e => Heap.get?_push_of_some _ (Heap.get?_push_of_some _ e)
  have hget : ((hp.push (kdv_tup [v])).push (excO C hp.objs.size)).get? (hp.objs.size + 1) = some (excO C hp.objs.size) := by heap_get
  refine call_own FB hT hC (looks_findIn X T.iC) (fun self => bind_fn X self (beq_iff_eq.mp T.fn)) one_fits ?_
  refine init_value (s := ⟨(hp.push (kdv_tup [v])).push (excO C hp.objs.size), g, dr, tk, os⟩) SF T (X.keeps kk) (hlim.keeps kk) hget hroom fun h' tk' dx k' dn dne hx hns => ?_
  have old : ∀ b o, hp.get? b = some o → h'.get? b = some o := fun b o e => k' b o (Nat.ne_of_lt (Nat.lt_succ_of_lt (Heap.lt_size e))) (kk b o e)
  have z : hp.objs.size + 1 + 1 ≤ dx := by
    have q := dn
    rw [Heap.size_push, Heap.size_push] at q
    exact q
  exact ⟨rfl, hq h' tk' (hp.objs.size + 1) dx ⟨old, Nat.le_succ _, _, _, hx, rfl, rfl, rfl, rfl⟩ (Nat.le_trans (Nat.le_trans (Nat.le_succ _) (Nat.le_succ _)) z) dne hns⟩
end
end GX
end PySem
/-! try with several except clauses, each with a name or without. -/
namespace GL
open PySem PySem.Spec PyProof.Rows L2
/-- a clause: the class, its suite, the slot of its name -/
structure Cl where
  c : Value
  ts : Addr → Value → Option Addr → TS
  i : Option Nat
/-- the ends of a suite whose name stands in slot i: the name is gone behind it -/
def goneD (D : Ends) (i : Nat) : Ends := { nx := fun σ H => D.nx (σ.set i none) H, rt := D.rt, bk := fun σ H => D.bk (σ.set i none) H, ct := fun σ H => D.ct (σ.set i none) H }
def runCl (k : Cl) (D : Ends) (cls : Value) (d : Option Addr) (σ : L2.St) (H : Hp) : Prop := ∀ a, H a = none → match k.i with
  | none => k.ts a cls d D σ H
  | some i => k.ts a cls d (goneD D i) (σ.set i (some (.ref a))) H
/-- what the clauses wish of an error of the body -/
def wAny (K : PySem.W.Frag) (Wout : WX) (D : Ends) : List Cl → WX
  | [] => Wout
  | k :: r => fun cls d σ H => ∃ b, PySem.W.exmOne K cls k.c = some b ∧ (b = true → runCl k D cls d σ H) ∧ (b = false → wAny K Wout D r cls d σ H)
def SuiteOk (X : Cx) (sts : List Stmt) (ts : Addr → Value → Option Addr → TS) : Prop := ∀ (a : Addr) (oe : Obj) (cls : Value) (d : Option Addr) (pn : List (Addr × Obj)), Zc cls d oe → (∃ vs, oe.data = .fields vs) → PSs (X.suite a ((a, oe) :: pn)) sts (ts a cls d)
inductive Cls' (X : Cx) : List ExceptHandler → List Cl → Prop
  | nil : Cls' X [] []
  | plain {x : Str} {c : Value} {ts : Addr → Value → Option Addr → TS} {s₀ : Stmt} {sts : List Stmt} {p1 p2 : Pos} {hs : List ExceptHandler} {l : List Cl} (hc : Names X x c) (ok : SuiteOk X (s₀ :: sts) ts) (r : Cls' X hs l) :
      Cls' X (.ExceptHandler (some (.Name x p1)) none (s₀ :: sts) p2 :: hs) (⟨c, ts, none⟩ :: l)
  | named {x n : Str} {i : Nat} {c : Value} {ts : Addr → Value → Option Addr → TS} {s₀ : Stmt} {sts : List Stmt} {p1 p2 : Pos} {hs : List ExceptHandler} {l : List Cl} (hc : Names X x c) (hN : X.N.Nodup) (hi : X.N[i]? = some n) (hn : X.env.kindOf n = some .local) (ok : SuiteOk X (s₀ :: sts) ts) (r : Cls' X hs l) :
      Cls' X (.ExceptHandler (some (.Name x p1)) (some n) (s₀ :: sts) p2 :: hs) (⟨c, ts, some i⟩ :: l)
section
variable {X : Cx} {body : List Stmt} {h₁ : ExceptHandler} {hs' : List ExceptHandler} {l : List Cl} {pos : Pos} {tb : WX → TS} {Wout : WX}
/-- an error of the body on its way to the clauses -/
def caught (X : Cx) (pins : List (Addr × Obj)) (D : Ends) (hl : List ExceptHandler) (e : Value) (s1 : Shared) : Prop :=
  wpAny (model X.prog X.w) X.A (noteFrame e X.env) (fun _ s2 => wpAny (model X.prog X.w) X.A (setFlight e none) (fun _ s3 => wpAny (model X.prog X.w) X.A (handleBy e X.env hl) (SP X pins D) X.xe s3) X.xe s2) X.xe s1
theorem ps_try_any (est : X.stack = X.env :: X.outer) (efr : X.env.frame = some X.env.locals) (tk : Takes X Wout)
    (hbody : ∀ (W : WX) (pn : List (Addr × Obj)) (xe : Value → Shared → Prop), Takes (X.tr pn xe) W → PassesOwn (model X.prog X.w) X.A X.env xe → PSs (X.tr pn xe) body (tb W)) (hcl : Cls' X (h₁ :: hs') l) :
    PS X (.Try body (h₁ :: hs') [] [] pos) (fun D σ H => tb (wAny X.K Wout D l) D σ H) := by
  constructor
  intro pins s σ H D I hb0
  have okX := I.ok
  have frA : X.A.frames = some (X.env :: X.outer) := by
    rw [okX.frames, est]
  have land : Takes (X.tr (X.pn ++ pins) (caught X pins D (h₁ :: hs'))) (wAny X.K Wout D l) := by
    rintro u t1 ⟨e, Bz, sz, pz, σ1, H1, cls, d, rfl, Jt, nbz, upz, skz, hnone, eos, bare, wish⟩
    have J : Inv X pins σ1 H1 sz := Jt.ofTry okX
    have sk1 : Sky Bz (X.env :: X.outer) e (Zc cls d) X.env.locals t1.heap := by
      rw [← est]
      exact skz
    show wpAny (model X.prog X.w) X.A (noteFrame (.ref e) X.env) _ _ _
    refine Sky.land Zc.steady frA efr sk1 fun g1 fly1 u1 => ?_
    have J1 : Inv X pins σ1 H1 { t1 with heap := g1 } := J.landed nbz fly1.1 (upz.trans u1) eos bare
    obtain ⟨oz, vz, ez, zz, dz⟩ := fly1.there
    have outF : e ∉ frs (X.env :: X.outer) := fun hm => by
      obtain ⟨_, o2, e2, hno⟩ := fly1.2.2.1.mem hm
      rw [ez] at e2
      cases e2
      exact hno _ dz
    have outL : e ≠ X.env.locals := fun z => outF (List.mem_filterMap.mpr ⟨X.env, List.mem_cons_self, by rw [efr, z]⟩)
    have outS : e ∉ X.fs := fun hm => by
      obtain ⟨v, hv, q⟩ := List.mem_filterMap.mp hm
      exact outF (List.mem_filterMap.mpr ⟨v, List.mem_cons_of_mem _ hv, q⟩)
    have S1 := J1.suite ez dz hnone outL outS
    have kind : PySem.W.Looks (model X.prog X.w) g1 (typeOf (.ref e)) cls := fun A' Q' E' s3 k3 q3 => wpAny_typeOf_ref (k3 _ _ ez) (by
      rw [zz.1]
      exact q3)
    -- the class that a clause names
    have named : ∀ {x : Str} {c : Value} {p1 : Pos}, Names X x c → ∀ {Q' E' : Value → Shared → Prop}, Q' c { t1 with heap := g1 } → wpAny (model X.prog X.w) (X.A.mark (some (.ref e))) (eval (.Name x p1) X.env) Q' E' { t1 with heap := g1 } := fun {x c p1} nm {Q' E'} q3 => by
      obtain ⟨g3, d3, m3 | ⟨m3, b3, n3⟩⟩ := nm
      · exact ld_glob (X := X.suite e ((e, oz) :: (X.pn ++ pins))) S1 g3 m3 q3 d3
      · exact ld_blt (X := X.suite e ((e, oz) :: (X.pn ++ pins))) S1 g3 m3 b3 q3 n3 d3
    have walk : ∀ {hl : List ExceptHandler} {kl : List Cl}, Cls' X hl kl → wAny X.K Wout D kl cls d σ1 H1 → wpAny (model X.prog X.w) X.A (handleBy (.ref e) X.env hl) (SP X pins D) X.xe { t1 with heap := g1 } := by
      intro hl kl hk
      induction hk with
      | nil =>
        intro w0
        refine wpAny_handleBy_nil ?_
        obtain ⟨a1, a2, a3, oe, ve, Ta, oTa, tsa, b1, b2, b3, b4, b5⟩ := id fly1
        have up : wpAny (model X.prog X.w) X.A (setFlight (.ref e) X.env.frame) (fun _ s4 => wpAny (model X.prog X.w) X.A (throw (.ref e) : Sem Flow) (SP X pins D) X.xe s4) X.xe { t1 with heap := g1 } := by
          rw [efr]
          refine HandSPX.setFlight_upZ fly1 fun g4 fly4 u4 => wpAny_throw (tk _ _ ⟨e, Bz, sz, pins, σ1, H1, cls, d, rfl, J, nbz, (upz.trans u1).trans u4, .inr (.inr ?_), hnone, eos, bare, w0⟩)
          rw [est]
          exact fly4
        unfold PySem.passOn
        refine wpAny_bind (wpAny_field b1 b3 b4 ?_)
        rw [if_neg (show ¬ ((Value.ref Ta == Value.none) = true) from by simp)]
        first
          | exact wpAny_bind (wpAny_pure (wpAny_bind up))
          | exact wpAny_bind up
      | @plain x c ts s₀ sts p1 p2 hl' kl' hc ok r ih =>
        rintro ⟨b, hb, yes, no⟩
        refine wpAny_handleBy_cons (codeAny_handlers_test ?_) (by intro q; cases q)
        refine named hc ((PySem.W.exm_one (M := model X.prog X.w) J1.kIn kind hb).here ?_)
        cases b with
        | false =>
          show wpAny _ X.A (handleBy (.ref e) X.env hl') _ _ _
          exact ih (no rfl)
        | true =>
          refine codeAny_handlers_suite (HandSPX.lands_againZ fly1 fun g4 fly4 u4 => ?_)
          have J4 : Inv X pins σ1 H1 { t1 with heap := g4 } := J.landed nbz fly4.1 ((upz.trans u1).trans u4) eos bare
          obtain ⟨o4, v4, e4, z4, d4⟩ := fly4.there
          refine wpAny_mono ((ok e o4 cls d (X.pn ++ pins) z4 ⟨_, d4⟩).run [] _ _ H1 _ (J4.suite e4 d4 hnone outL outS) (yes rfl e hnone)) (fun fl t6 q => ?_) (fun _ _ z => False.elim z)
          match fl, q with
          | .next, ⟨σ6, H6, S6, q6⟩ => exact ⟨_, _, S6.unsuite okX, q6⟩
          | .brk, ⟨σ6, H6, S6, q6⟩ => exact ⟨_, _, S6.unsuite okX, q6⟩
          | .cont, ⟨σ6, H6, S6, q6⟩ => exact ⟨_, _, S6.unsuite okX, q6⟩
          | .ret u, ⟨v6, σ6, H6, S6, r6, q6⟩ => exact ⟨_, _, _, S6.unsuite okX, r6, q6⟩
      | @named x n i c ts s₀ sts p1 p2 hl' kl' hc hN hi hn ok r ih =>
        rintro ⟨b, hb, yes, no⟩
        refine wpAny_handleBy_cons (codeAny_handlers_test ?_) (by intro q; cases q)
        refine named hc ((PySem.W.exm_one (M := model X.prog X.w) J1.kIn kind hb).here ?_)
        cases b with
        | false =>
          show wpAny _ X.A (handleBy (.ref e) X.env hl') _ _ _
          exact ih (no rfl)
        | true =>
          refine codeAny_handlers_suite_as (HandSPX.lands_againZ fly1 fun g4 fly4 u4 => ?_)
          have J4 : Inv X pins σ1 H1 { t1 with heap := g4 } := J.landed nbz fly4.1 ((upz.trans u1).trans u4) eos bare
          obtain ⟨o4, v4, e4, z4, d4⟩ := fly4.there
          have S4 := J4.suite e4 d4 hnone outL outS
          refine store_ok (X := X.suite e ((e, o4) :: (X.pn ++ pins))) (v := .ref e) S4 hN hi (.inl hn) rfl (fun s5 S5 => ?_) (.inr hn)
          refine wpAny_mono ((ok e o4 cls d (X.pn ++ pins) z4 ⟨_, d4⟩).run [] s5 _ H1 _ S5 (yes rfl e hnone)) (fun fl t6 q => ?_) (fun _ _ z => False.elim z)
          have behind : ∀ {σ6 : L2.St} {H6 : Hp} {Q6 : Shared → Prop}, Inv (X.suite e ((e, o4) :: (X.pn ++ pins))) [] σ6 H6 t6 → (∀ s7, Inv X pins (σ6.set i none) H6 s7 → Q6 s7) →
              wpAny (model X.prog X.w) X.A (do bindName X.env n .none; unbindBehindTheSuite X.env n p2) (fun _ s7 => Q6 s7) X.xe t6 := fun {σ6 H6 Q6} S6 kk => gone_ok (S6.unsuite okX) hN hi hn kk
          match fl, q with
          | .next, ⟨σ6, H6, S6, q6⟩ => exact behind S6 fun s7 J7 => ⟨_, _, J7, q6⟩
          | .brk, ⟨σ6, H6, S6, q6⟩ => exact behind S6 fun s7 J7 => ⟨_, _, J7, q6⟩
          | .cont, ⟨σ6, H6, S6, q6⟩ => exact behind S6 fun s7 J7 => ⟨_, _, J7, q6⟩
          | .ret u, ⟨v6, σ6, H6, S6, r6, q6⟩ => exact behind S6 fun s7 J7 => ⟨_, _, _, J7, r6, q6⟩
    exact walk hcl wish
  refine wpAny_Try_except ?_
  refine wpAny_mono ((hbody (wAny X.K Wout D l) (X.pn ++ pins) (caught X pins D (h₁ :: hs')) land PassesOwn.looking).run [] s σ H D (I.toTry _) hb0) (fun fl t1 q => ?_) (fun _ _ z => z)
  match fl, q with
  | .next, ⟨σ1, H1, J, q1⟩ => exact wpAny_execs_nil ⟨σ1, H1, J.ofTry okX, q1⟩
  | .brk, ⟨σ1, H1, J, q1⟩ => exact ⟨σ1, H1, J.ofTry okX, q1⟩
  | .cont, ⟨σ1, H1, J, q1⟩ => exact ⟨σ1, H1, J.ofTry okX, q1⟩
  | .ret u, ⟨v1, σ1, H1, J, rv, q1⟩ => exact ⟨v1, σ1, H1, J.ofTry okX, rv, q1⟩
end
end GL
/-! own errors: made, raised, caught, read -/
namespace GL
open PySem PySem.Spec PyProof.Rows L2
theorem relO_one {v : V} {v' : Value} (r : RelV v v') (g f : Str) : RelO (List.lookup f [(g, v)]) (if f = g then some v' else none) := by
  by_cases hw : f = g
  · rw [if_pos hw, hw]
    simp only [List.lookup, beq_self_eq_true]
    exact r
  · rw [if_neg hw]
    have qw : (f == g) = false := by simpa using hw
    simp only [List.lookup, qw]
    trivial
section
variable {X : Cx} {C fI : Addr} {bmB : List Value} {B newId initId : String} {x : Str} {p pos : Pos} {k : Nat}
/-- C(e): an error whose own dict, new, holds the value -/
def tMk1 (C : Addr) (g : Str) (ta : TA) : L2.St → Hp → XK → Prop := fun σ H Q => ta σ H fun vs H1 => ∃ v, vs = [v] ∧ ∀ d, H1 d = none → Q (.ref C) (some d) (upd H1 d (.xd [(g, v)]))
/-- a made error, taken out of the heap that is known -/
theorem out_of {pins : List (Addr × Obj)} {σ : L2.St} {H1 : Hp} {Q : XK} {hp h' : Heap} {g : Array GenState} {dr : Drawn} {tk tk' : Nat} {os : OsState} {e d : Addr} {f : Str} {v : V} {v' : Value} (T : GX.ErrT X.K C fI bmB newId) (I1 : Inv X pins σ H1 ⟨hp, g, dr, tk, os⟩) (M : GX.Kept hp h' e C (some d)) (hd : hp.objs.size ≤ d) (dne : d ≠ e)
    (hns : h'.Ns1 d (fun y => if y = f then some v' else none)) (rv : RelV v v') (q1 : ∀ d, H1 d = none → Q (.ref C) (some d) (upd H1 d (.xd [(f, v)]))) : MkP X pins σ Q (.ref e) ⟨h', g, dr, tk', os⟩ := by
  obtain ⟨oe, fv, hoe, hc, hdc, hdat, h1⟩ := M.obj
  obtain ⟨G', g1, g2⟩ := restrict h' fun b => decide (b ≠ e)
  have same : ∀ b, b ≠ e → G'.get? b = h'.get? b := fun b hb => g1 b (decide_eq_true hb)
  have gone : G'.get? e = none := g2 e (by simp)
  have old : ∀ b o, hp.get? b = some o → G'.get? b = some o := fun b o q => (same b (Nat.ne_of_lt (Nat.lt_of_lt_of_le (Heap.lt_size q) M.new))).trans (M.keep b o q)
  have dictOk : ObjOk X.prog X.w (upd H1 d (.xd [(f, v)])) G' d (.xd [(f, v)]) := ⟨_, hns.at (fun o q => (same d dne).trans q), fun y => relO_one rv f y⟩
  have J : Inv X pins σ (upd H1 d (.xd [(f, v)])) ⟨G', g, dr, tk', os⟩ := I1.laid (t' := tk') old hd dictOk
  refine ⟨e, oe, fv, ⟨G', g, dr, tk', os⟩, _, .ref C, some d, rfl, J, fun b o q => ?_, gone, hoe, ⟨hc, hdc⟩, hdat, h1, ?_, rfl, I1.bare, raises_own T.exC T.ty, q1 d (I1.hok.fresh hd)⟩
  · by_cases hb : b = e
    · rw [hb] at q
      cases gone.symm.trans q
    · exact (same b hb).symm.trans q
  · rw [upd_ne dne.symm]
    exact I1.hok.fresh M.new
theorem pmk_value {a : Expr} {ta : TA} (SF : StoreFacts B bmB "object.__setattr__" "object") (FB : ExcBaseFacts B newId initId bmB) (T : GX.Errvalue X.K C fI bmB newId) (hr : Room k X.A) (hg : Gl X x) (hm : X.mg x = some (.ref C)) (ha : PA X [a] ta) (ndb : (x == ("__debug__" : Str)) = false := by decide)
    (he : starEach (a :: []) X.env = (false, eval a X.env) :: starEach [] X.env := by rfl) (hpl : (backTo pos (starEach [] X.env)).any (·.1) = false := by rfl) : PMk X (.Call (.Name x p) [a] [] pos) (tMk1 C "value" ta) := by
  intro pins s σ H Q I h
  refine wpAny_Call_Name_kw (ld_glob I hg hm ?_ ndb)
  refine PySem.W.callWith_K (h₀ := X.base) I.ok.mod.kin T.kp (thn (ha.run pos pins s σ H _ I h) fun us s1 hh => ?_) he hpl
  obtain ⟨vs, H1, I1, r1, v, rfl, q1⟩ := hh
  refine ⟨I1.kIn, ?_⟩
  cases r1 with
  | cons rv rn =>
    rename_i v' us'
    cases rn
    have hlim := I1.nolimit
    obtain ⟨hp, g, dr, tk, os⟩ := s1
    exact wpAny_call (GX.made_value SF FB T I1.kIn hlim (by have := hr.dp; omega) fun h' tk' e d M hd dne hns => out_of T.toErrT I1 M hd dne hns rv q1)
/-- e.f, e the error that the suite holds (at a; its class cls, its dict d) -/
def tBy (C : Addr) (f : Str) (a : Addr) (cls : Value) (d : Option Addr) (te : TE) : TE := fun σ H Q => te σ H fun x H1 => x = .ref a ∧ cls = .ref C ∧ ∃ (dd : Addr) (v : V), d = some dd ∧ H1 dd = some (.xd [(f, v)]) ∧ Q v H1
theorem pe_by {a : Addr} {oe : Obj} {cls : Value} {d : Option Addr} {pn : List (Addr × Obj)} {e : Expr} {te : TE} {f : Str} (T : GX.ErrT X.K C fI bmB newId) (hno : PySem.W.findIn X.K (.ref C) f = some none) (hz : Zc cls d oe) (hf : ∃ vs, oe.data = .fields vs) (he : PE (X.suite a ((a, oe) :: pn)) e te)
    (hb : attributeBase e f X.env (eval e X.env) = eval e X.env := by rfl) : PE (X.suite a ((a, oe) :: pn)) (.Attribute e f pos) (tBy C f a cls d te) := by
  constructor
  intro pins s σ H Q I h
  refine attr_of hb (thn (he.run pins s σ H _ I h) fun u s1 hh => ?_)
  obtain ⟨x1, H1, I1, rx, rfl, rfl, dd, v, rfl, ea, q⟩ := hh
  cases (show u = Value.ref a from rx)
  obtain ⟨ha, _⟩ := I1.pin (a, oe) (List.mem_append_left _ List.mem_cons_self)
  obtain ⟨vs, hd⟩ := hf
  obtain ⟨mA, hns, hr⟩ := (show ObjOk X.prog X.w H1 s1.heap dd (.xd [(f, v)]) from I1.hok dd _ ea)
  obtain ⟨od, ho, hl⟩ := lookIn_ns hns
  have l : List.lookup f [(f, v)] = some v := by simp [List.lookup]
  obtain ⟨u, hu, ru⟩ := RelO.some_of (v := v) (o := mA f) (by rw [← l]; exact hr f)
  have J : PySem.W.InstAt s1.heap a oe C (some od) := ⟨ha, hz.1, by unfold PySem.W.notCls; rw [hd] <;> rfl, by rw [hz.2]; exact ho⟩
  exact HandSPX.exc_get I1.kIn J T.ga T.gg T.exC (PySem.W.findObj_own T.hd hno rfl (by rw [hl, hu])) (handed_of ru) ⟨v, H1, I1.tok _, ru, q⟩
end
/-! ### which clause takes which error -/
theorem exm_is {K : PySem.W.Frag} {S D : Addr} {b : Bool} (h1 : PySem.W.subIn K (.ref D) (.type "BaseException") = some true) (h2 : PySem.W.isClsIn K D = true) (h3 : PySem.W.typeIn K (.ref D) = some (.type "type")) (h4 : PySem.W.subIn K (.ref S) (.ref D) = some b) : PySem.W.exmOne K (.ref S) (.ref D) = some b := by
  have e2 : (PySem.W.clsIn K D).isSome = true := h2
  have e1 : (PySem.W.subIn K (.ref D) (.type "BaseException") == some true) = true := by rw [h1]; rfl
  have e3 : ((PySem.W.clsIn K D).isSome && PySem.W.typeIn K (.ref D) == some (.type "type")) = true := by rw [e2, h3]; rfl
  show (if (PySem.W.subIn K (.ref D) (.type "BaseException") == some true) = true then (if ((PySem.W.clsIn K D).isSome && PySem.W.typeIn K (.ref D) == some (.type "type")) = true then PySem.W.subIn K (.ref S) (.ref D) else none) else none) = some b
  rw [if_pos e1, if_pos e3]
  exact h4
/-! ### defs that may raise -/
section
variable {P : Program} {w : World} {K : PySem.W.Frag} {mg : Str → Option Value} {base : Heap} {x qual : Str} {st : Stmt} {f : Addr} {fd : FuncData} {N ps : List Str} {k : Nat} {sp : Sp} {CX : CXT}
theorem okGX (F : L2.Fun K x qual st f fd) (S : FnScope N ps (defScope st)) (many : ∀ vs H Q E, sp vs H Q E → vs.length = ps.length)
    (hb : ∀ (cdv : Value) (A : Around) (outer : List Env) (s : Shared) (H : Hp) (vs : List V) (Q : VK) (E : XK), Fre (A.deeper (envOfC qual (defScope st) s.heap.objs.size f cdv)) → Room k (A.deeper (envOfC qual (defScope st) s.heap.objs.size f cdv)) → sp vs H Q E →
      ∃ t, PSs (cxOf CX P w K mg base N qual (defScope st) f cdv A outer s H E) (defBody st) t ∧ t { nx := fun _ H' => Q .non H', rt := Q } (start N vs) H) : FnG P w K mg base CX (k + 1) f fd ps sp := by
  obtain ⟨c0, o0, kV, doc, pm, an, cdv, ct, s0, rfl, lk, hcd⟩ := F.ex
  exact bodied lk hcd S many fun A outer s H vs Q E g hr hsp => hb cdv A outer s H vs Q E g hr hsp
end
end GL
/-! == and != of two lists of a text and an instance, by the instances' own == -/
namespace PySem
end PySem
namespace GL
open PySem PySem.Spec PyProof.Rows L2
end GL
/-! isinstance(e, C), e an error of ours that a suite holds, with a dict of its own or without -/
namespace PySem
namespace GX
open PySem.W PySem.Calls PyProof.Rows PySem.HandSPX Builtin Builtin.ObjectAttr
/-- what isinstance asks of the error's class -/
structure ErrC (K : Frag) (D : Addr) : Prop where
  ga : findIn K (.ref D) "__getattribute__" = some (some (.builtin "BaseException.__getattribute__"))
  gg : findIn K (.ref D) "__getattr__" = some none
  sb : subIn K (.ref D) (.type "BaseException") = some true
  hd : hasDictIn K D = true
  cl : findIn K (.ref D) "__class__" = some (some (.builtin "object.__class__"))
  cg : specialIn K (.builtin "object.__class__") "__get__" = some (some (.builtin "getset_descriptor.__get__"))
  tk : takesIn K (.builtin "object.__class__") = some true
  mo : mroIn K D (.type "object") = some true
theorem ErrC.find {K : Frag} {D : Addr} (T : ErrC K D) : ∀ od : Option Obj, findObj K D od "__class__" = some (.bind (.builtin "getset_descriptor.__get__") (.builtin "object.__class__")) := fun od => by
  obtain ⟨cd, hc, _⟩ := any_some T.hd
  have hs : (clsIn K D).isSome = true := by rw [hc]; rfl
  cases od with
  | none => exact findObj_dataN hs T.cl T.cg T.tk
  | some od => exact findObj_data hs T.cl T.cg T.tk
section
variable {prog : Program} {w : World} {A : Around} {E : Value → Shared → Prop} {s : Shared} {K : Frag} {x D : Addr} {ox : Obj} {od : Option Obj}
theorem class_of_err {Q : Option Value → Shared → Prop} (T : ErrC K D) (X : K.In s.heap) (I : InstAt s.heap x ox D od) (h : Q (some (.ref D)) { s with toks := s.toks + 1 }) : wpAny (model prog w) A (getAttr? (.ref x) "__class__") Q E s := by
  obtain ⟨hp, gn, dr, tt, so⟩ := s
  have tyL := I.type (M := model prog w); have gaL := looks_findIn (M := model prog w) X T.ga
  have ggL := looks_findIn (M := model prog w) X T.gg; have fL := looks_find (M := model prog w) X I (T.find od)
  have subL : Looks (model prog w) hp (isInstance (.ref x) (.type "BaseException")) true := tyL.andThen (looks_subIn X T.sb)
  have ne : (Value.builtin "BaseException.__getattribute__" == Value.builtin "object.__getattribute__") = false := by decide +kernel
  have c1 : (onTheHeap (Value.ref D) && Value.builtin "BaseException.__getattribute__" == Value.builtin "object.__getattribute__") = false := by rw [ne]; rfl
  unfold getAttr? getAttrBy? getAttrBy
  refine wpAny_bind (wpAny_mkText (wpAny_bind (wpAny_attempt (wpAny_holding (wpAny_bind (tyL.at (wpAny_bind (gaL.at ?_))))))))
  show wpAny _ _ (if (onTheHeap (Value.ref D) && Value.builtin "BaseException.__getattribute__" == Value.builtin "object.__getattribute__") = true then _ else _) _ _ _
  rw [c1, if_neg Bool.false_ne_true]; unfold getAttrByItsOwn hookBefore
  refine wpAny_bind ?_; rw [if_pos (show onTheHeap (Value.ref D) = true from rfl)]; refine ggL.at ?_
  refine wpAny_bind (wpAny_attempt (wpAny_holding ?_)); unfold callGetattribute
  rw [show (false && onTheHeap (Value.builtin "BaseException.__getattribute__")) = false from rfl, if_neg Bool.false_ne_true]; unfold boundAndCalled
  rw [PySem.F.excAttr_ValueError.ga.bind (.ref x)]; refine wpAny_bind (wpAny_pure ?_)
  show wpAny _ _ (call (.builtin "BaseException.__getattribute__") [.ref x, .str "__class__" tt]) _ _ _
  refine wpAny_call (codeAny_call_builtin PySem.F.excAttr_ValueError.ga.plain PySem.F.entry_bexc_ga (@check_slot (model prog w) _ _ ⟨hp, gn, dr, tt + 1, so⟩ "BaseException.__getattribute__" "BaseException" "__getattribute__" (.ref x) [.str "__class__" tt] [] _ (by decide +kernel) (by decide +kernel) subL (PySem.F.args_bexc_ga (.ref x) (.str "__class__" tt)) ?_))
  unfold Builtin.«object.__getattribute__»
  refine wpAny_bind (wpAny_of_eq (a := ((Value.ref x : Value), [Value.str "__class__" tt])) (by first | rfl | (simp only [slotArgs]; rfl)) (wpAny_bind (wpAny_pure (wpAny_bind (tyL.at (wpAny_bind (fL.at ?_)))))))
  show wpAny _ _ (holding [Value.builtin "object.__class__"] (call (.builtin "getset_descriptor.__get__") [.builtin "object.__class__", .ref x, .ref D]) >>= ret) _ _ _
  refine wpAny_bind (wpAny_holding (wpAny_call (class_get (s := ⟨hp, gn, dr, tt + 1, so⟩) (ox := ox) (od := od) X I T.mo (wpAny_pure ?_))))
  show wpAny _ _ (handedOut (.ref D)) _ _ _
  rw [handedOut_of (v := .ref D) rfl]
  first
    | exact wpAny_pure (wpAny_pure h)
    | exact wpAny_pure h
    | exact wpAny_pure (wpAny_bind (wpAny_pure (wpAny_pure h)))
theorem kit_err (T : ErrC K D) : KitX K (.ref x) (.ref D) (fun h => InstAt h x ox D od) := by
  obtain ⟨cdD, hcD, _⟩ := any_some T.hd
  have at_ : ∃ c' d' sl', K.lookup D = some ⟨c', d', .cls cdD, sl'⟩ := by
    unfold clsIn at hcD
    split at hcD
    · rename_i c' d' cd' sl' ho
      cases hcD
      exact ⟨_, _, _, ho⟩
    · cases hcD
  obtain ⟨c', d', sl', ho⟩ := at_
  refine ⟨fun _ _ _ I => I.type, fun _ _ X _ => ?_, fun h tp dd its n sl X htp => ?_, fun X I k => class_of_err T X I k⟩
  · intro A' Q' E' s' k q
    unfold isType loadHead
    exact wpAny_bind (wpAny_loadPart (k _ _ (X _ _ ho)) (wpAny_pure q))
  · refine Bool.eq_false_iff.mpr fun q => ?_
    have e : D = tp := Value.ref.inj (beq_iff_eq.mp q)
    subst e
    have z := (X _ _ ho).symm.trans htp
    cases z
end
end GX
end PySem
namespace GL
open PySem PySem.Spec PyProof.Rows L2
end GL
/-! a lambda handed to a def, where nothing is being shown; defs whose code object has a table -/
namespace GL
open PySem PySem.Spec PyProof.Rows L2
/-- the def st stands at f, its code object at c -/
structure FunT (K : PySem.W.Frag) (x qual : Str) (st : Stmt) (f : Addr) (fd : FuncData) (c : Addr) : Prop where
  ex : ∃ (oc : Value) (od : Option Addr) (kV doc pm : Value) (an : Option Addr) (ct : Value) (osl : Array (Option Value)),
    fd = PySem.W.fnOf x qual (defArgs st) (defBody st) (defScope st) .none kV doc pm an (.ref c) ct ∧ K.lookup f = some ⟨oc, od, .func fd, osl⟩ ∧ PySem.W.codeIn K (.ref c) qual = true
section
variable {P : Program} {w : World} {K : PySem.W.Frag} {mg : Str → Option Value} {base : Heap} {x qual : Str} {st : Stmt} {f c : Addr} {fd : FuncData} {N ps : List Str} {k : Nat} {sp : Sp} {CX : CXT}
theorem okGT (F : FunT K x qual st f fd c) (S : FnScope N ps (defScope st)) (many : ∀ vs H Q E, sp vs H Q E → vs.length = ps.length)
    (hb : ∀ (A : Around) (outer : List Env) (s : Shared) (H : Hp) (vs : List V) (Q : VK) (E : XK), Fre (A.deeper (envOfC qual (defScope st) s.heap.objs.size f (.ref c))) → Room k (A.deeper (envOfC qual (defScope st) s.heap.objs.size f (.ref c))) → sp vs H Q E →
      ∃ t, PSs (cxOf CX0 P w K mg base N qual (defScope st) f (.ref c) A outer s H E).nox (defBody st) t ∧ t { nx := fun _ H' => Q .non H', rt := Q } (start N vs) H) : FnG P w K mg base CX0 (k + 1) f fd ps sp := by
  obtain ⟨c0, o0, kV, doc, pm, an, ct, s0, rfl, lk, hcd⟩ := F.ex
  exact bodied lk hcd S many fun A outer s H vs Q E g hr hsp => (hb A outer s H vs Q E g hr hsp).imp fun t z => ⟨z.1.nox, z.2⟩
end
/-- what the def at g makes of a lambda's reading, that it calls under the name a -/
def GivesG (X : Cx) (Ng : List Str) (x : Str) (sg : Scope) (g : Addr) (bg : List Stmt) (a : Str) (q : Str) (k : Nat) (TT : (XK → Hp → VK → Prop) → Hp → VK → Prop) : Prop :=
  ∀ (cd : Value) (f c' : Addr) (s : Shared) (H : Hp) (Q : VK) (tl : XK → Hp → VK → Prop),
    Fre (X.A.deeper (envOfC x sg s.heap.objs.size g cd)) → Room (k + 1) (X.A.deeper (envOfC x sg s.heap.objs.size g cd)) →
    (∀ (W : WX) (pn : List (Addr × Obj)) (xe : Value → Shared → Prop) (E : XK) (p1 p2 : Pos), Takes ((cxOf CX0 X.prog X.w X.K X.mg X.base Ng x sg g cd X.A X.stack s H E0).nox.tr pn xe) W → (∀ cls d (σ' : L2.St) H', σ'.length = Ng.length → E cls d H' → W cls d σ' H') →
      PE ((cxOf CX0 X.prog X.w X.K X.mg X.base Ng x sg g cd X.A X.stack s H E0).nox.tr pn xe) (.Call (.Name a p1) [] [] p2) (fun σZ HZ Q => σZ[0]? = some (some (.ref f)) ∧ HZ c' = some (LamX.CodeO c' q) ∧ tl E HZ Q)) →
    H c' = some (LamX.CodeO c' q) → TT tl H Q →
    ∃ t, PSs (cxOf CX0 X.prog X.w X.K X.mg X.base Ng x sg g cd X.A X.stack s H E0).nox bg t ∧ t { nx := fun _ H' => Q .non H', rt := Q } (L2.start Ng [.ref f]) H
section
variable {X : Cx} {pins : List (Addr × Obj)} {σ : L2.St} {H : Hp} {s : Shared}
theorem fre_deeper {A : Around} {e : Env} (h : Fre A) : Fre (A.deeper e) := by
  first | exact h | simpa [Around.deeper] using h
/-- the lambda that stands at f, made at s, is called in a def that runs from s on -/
theorem act_G {Ng : List Str} {qg : Str} {sg : Scope} {g f c' : Addr} {cdg pm ctv : Value} {params : Arguments} {body : Expr} {scope : Scope} {k i : Nat} {a : Str} {pn : List (Addr × Obj)} {xe : Value → Shared → Prop} {W : WX} {E : XK} {tb : TE} {p1 p2 : Pos}
    (I : Inv X pins σ H s) (L : LamX.LamS X.env.scope scope) (hf : s.heap.get? f = some (PySem.W.kla_obj "<lambda>" (X.env.qual ++ "<lambda>") params body scope (cloFrom X.env.cells scope.names []) pm c' ctv)) (hfn : H f = none) (hfr : f ∉ frs X.stack)
    (hbind : bindArgs (PySem.W.kla_fn "<lambda>" (X.env.qual ++ "<lambda>") params body scope (cloFrom X.env.cells scope.names []) pm (.ref c') ctv) ⟨[], []⟩ = pure [])
    (G : Fre (X.A.deeper (envOfC qg sg s.heap.objs.size g cdg))) (hr : Room (k + 1) (X.A.deeper (envOfC qg sg s.heap.objs.size g cdg))) (tk : Takes ((cxOf CX0 X.prog X.w X.K X.mg X.base Ng qg sg g cdg X.A X.stack s H E0).nox.tr pn xe) W) (hW : ∀ cls d (σ' : L2.St) H', σ'.length = Ng.length → E cls d H' → W cls d σ' H')
    (hbody : ∀ (A : Around) (outer : List Env) (s : Shared) (H : Hp), Fre (A.deeper (LamX.lamEnv X scope s.heap.objs.size f c')) → Room k (A.deeper (LamX.lamEnv X scope s.heap.objs.size f c')) → PE (LamX.lamCx X A outer s H E scope f c') body tb)
    (hN : Ng[i]? = some a) (hv : Vis sg a) (hd : (a == ("__debug__" : Str)) = false := by decide) (hcd : (a == ("__classdict__" : Str)) = false := by decide) :
    PE ((cxOf CX0 X.prog X.w X.K X.mg X.base Ng qg sg g cdg X.A X.stack s H E0).nox.tr pn xe) (.Call (.Name a p1) [] [] p2) (fun σZ HZ Q => σZ[i]? = some (some (.ref f)) ∧ HZ c' = some (LamX.CodeO c' (X.env.qual ++ "<lambda>")) ∧ tb σ HZ Q) := by
  constructor
  intro pinsZ sZ σZ HZ Q IZ ⟨hs, hc, ht⟩
  have look := (pe_var (X := (cxOf CX0 X.prog X.w X.K X.mg X.base Ng qg sg g cdg X.A X.stack s H E0).nox.tr pn xe) (pos := p1) (i := i) hN hv hd hcd).run pinsZ sZ σZ HZ (fun v H1 => v = .ref f ∧ H1 = HZ) IZ ⟨.ref f, hs, rfl, rfl⟩
  refine wpAny_Call_Name_kw (thn look ?_)
  rintro u s1 ⟨v, H1, I1, r1, q1, q2⟩
  rw [q2] at I1
  rw [q1] at r1
  cases (show u = Value.ref f from r1)
  have there : s1.heap.get? f = some (PySem.W.kla_obj "<lambda>" (X.env.qual ++ "<lambda>") params body scope (cloFrom X.env.cells scope.names []) pm c' ctv) := I1.base.keep f _ hf hfn hfr List.not_mem_nil
  have un : Un (frs X.stack) [] H HZ s.heap s1.heap := I1.base
  refine PySem.W.callWith_F0 ⟨_, _, _, _, there⟩ ?_
  obtain ⟨⟨oc, us, tc, g1, g2, g3⟩, _, _⟩ := I1.hok c' _ hc
  have run : codeAny (model X.prog X.w) (X.A.deeper (envOfC qg sg s.heap.objs.size g cdg)) (.call (.ref f) ⟨[], []⟩) (CR (L2.CX X.prog X.w) (envOfC qg sg s.heap.objs.size g cdg :: X.stack) X.prog X.w HZ s1 Q E) s1 := by
    refine PySem.W.kla_callFunE hr.depth there rfl L.co L.gen rfl ⟨c', oc, us, tc, rfl, g1, g2, g3⟩ ?_
    rw [hbind]
    refine wpAny_pure (wpAny_newFunctionEnv (fun y hy => (L.own y hy).2) (fun y hy => absurd hy List.not_mem_nil) (fun h1 hns hsb => ⟨I1.nolimit.fresh _ hsb, ?_⟩) L.kind)
    show codeAny _ _ (.expr body (LamX.lamEnv X scope s1.heap.objs.size f c')) _ _
    have stay : ∀ b o, s1.heap.get? b = some o → h1.get? b = some o := fun b o e => hsb.extBut b o (Nat.ne_of_lt (Heap.lt_size e)) (Heap.get?_push_of_some _ e)
    have J := LamX.lam_start2 (tk := s1.toks + ([] : List (Str × Value)).length) (A := X.A.deeper (envOfC qg sg s.heap.objs.size g cdg)) (outer := envOfC qg sg s.heap.objs.size g cdg :: X.stack) (E := E) (f := f) (c' := c') I L I1.env0 hr.hd un hns stay
    refine PySem.W.kla_codeExpr (wpAny_mono ((hbody _ _ s1 HZ (fre_deeper G) (hr.deeper _)).run [] _ _ HZ Q J ht) ?_ fun _ _ z => z)
    rintro y s2 ⟨y', H', J', ry, q⟩
    exact ⟨y', H', J'.os, J'.bare, J'.base, J'.hok, ry, q⟩
  refine wpAny_call (codeAny_mono run ?_)
  intro r s2 q
  match r, q with
  | .error e, q => exact tk e s2 (XE.of_call I1 (fun cls d H' h => hW cls d σZ H' I1.len h) q)
  | .ok (.ret y), q => exact I1.after q
  | .ok .next, q => exact q
  | .ok .brk, q => exact q
  | .ok .cont, q => exact q
end
section
variable {X : Cx}
def tLamG (T : List (Addr × Str)) (TT : (XK → Hp → VK → Prop) → Hp → VK → Prop) (t : XK → TE) : TE := fun σ H Q => LamX.Tabs T H ∧ ∀ H1, LamX.ExtN H H1 → LamX.Tabs T H1 → TT (fun E H' Q' => t E σ H' Q') H1 Q
/-- x(lambda: body) -/
theorem pe_lamG {T : List (Addr × Str)} {TT : (XK → Hp → VK → Prop) → Hp → VK → Prop} {x a : Str} {g c P : Addr} {k : Nat} {st : Stmt} {fd : FuncData} {Ng : List Str} {params : Arguments} {body : Expr} {scope : Scope} {t : XK → TE} {p lpos pos : Pos}
    (G : Fre X.A) (hg : Gl X x) (hm : X.mg x = some (.ref g)) (FG : L2.Fun X.K x x st g fd) (hb : L2.Binds X.K fd [a] []) (Sg : FnScope Ng [a] (defScope st)) (hNg : Ng[0]? = some a) (hva : Vis (defScope st) a)
    (hG : GivesG X Ng x (defScope st) g (defBody st) a (X.env.qual ++ "<lambda>") k TT)
    (TB : LamX.TabB X.base X.mg c P) (hcode : X.env.code = .ref c) (hmT : (P, X.env.qual ++ "<lambda>") ∈ T) (hu : ∀ p ∈ T, p.1 = P → p.2 = X.env.qual ++ "<lambda>") (hr : Room (k + 2) X.A) (L : LamX.LamS X.env.scope scope) (hdef : defaultsOf params X.env = ([], []))
    (hbind : ∀ (q : Str) (cl : List (Str × Addr)) (pm cv ctv : Value), bindArgs (PySem.W.kla_fn "<lambda>" q params body scope cl pm cv ctv) ⟨[], []⟩ = pure [])
    (hbody : ∀ (A : Around) (outer : List Env) (s : Shared) (H : Hp) (E : XK) (f c' : Addr), Fre (A.deeper (LamX.lamEnv X scope s.heap.objs.size f c')) → Room k (A.deeper (LamX.lamEnv X scope s.heap.objs.size f c')) → PE (LamX.lamCx X A outer s H E scope f c') body (t E))
    (hdb : (x == ("__debug__" : Str)) = false := by decide) (hd : (a == ("__debug__" : Str)) = false := by decide) (hcd : (a == ("__classdict__" : Str)) = false := by decide) :
    PE X (.Call (.Name x p) [.Lambda params body scope lpos] [] pos) (tLamG T TT t) := by
  constructor
  intro pins s σ H Q I ⟨hT, h⟩
  obtain ⟨oc, od, kV, doc, pm, an, cdv, ct, osl, rfl, lk, hcg⟩ := FG.ex
  refine wpAny_Call_Name_kw (ld_glob I hg hm (PySem.W.callWith_K (h₀ := X.base) I.ok.mod.kin FG.kp ?_ (by rfl) (by rfl)) hdb)
  show wpAny _ _ (spliced ((false, eval (.Lambda params body scope lpos) X.env) :: backTo pos (starEach [] X.env))) _ _ s
  refine Calls.spliced_cons (LamX.lam_make2 I TB hcode hmT hu hT hdef (L.has I.ok) fun f c' pm' ctv H1 s' I1 eN T1 hf hfn hfr hco => Calls.spliced_nil ⟨I1.kIn, ?_⟩)
  have rc : codeAny (model X.prog X.w) X.A (.call (.ref g) ⟨[.ref f], []⟩) (CR CX0 X.stack X.prog X.w H1 s' Q E0) s' := by
    refine LamX.run_ofS (N := Ng) (ps := [a]) (us := [.ref f]) (vs := [.ref f]) lk hcg Sg hr I1.env0 (hb s' [.ref f] I1.kIn rfl) (.cons rfl .nil) rfl fun hr' => ?_
    have gz : Fre (X.A.deeper (envOfC x (defScope st) s'.heap.objs.size g cdv)) := fre_deeper G
    obtain ⟨tz, h1, h2⟩ := hG cdv f c' s' H1 Q (fun E H' Q' => t E σ H' Q') gz hr' (fun W pn xe E p1 p2 tk hW => act_G (i := 0) I1 L hf hfn hfr (hbind _ _ _ _ _) gz hr' tk hW (fun A outer s H g2 hr2 => hbody A outer s H E f c' g2 hr2) hNg hva hd hcd) hco (h H1 eN T1)
    exact ⟨tz, h1.nox, h2⟩
  refine wpAny_call (codeAny_mono rc ?_)
  intro r s2 q
  match r, q with
  | .error e, q => exact (show False from q).elim
  | .ok (.ret y), q => exact I1.after q
  | .ok .next, q => exact q
  | .ok .brk, q => exact q
  | .ok .cont, q => exact q
end
end GL
/-! properties of own classes, calls of a local that holds a def, where nothing is being shown -/
namespace GL
open PySem PySem.Spec PyProof.Rows L2
end GL
/-! a dict laid into another one: {**d, ..} -/
namespace PySem
end PySem
namespace PySem
end PySem
namespace GL
open PySem PySem.Spec PyProof.Rows L2
end GL
/-! C(**d): what a call's mapping is read as -/
namespace PySem
end PySem
/-! C(**d) -/
namespace PySem
end PySem
namespace PySem
end PySem
namespace GL
open PySem PySem.Spec PyProof.Rows L2
end GL
/-! == and != of two dicts with the same keys, whose values are data -/
namespace GL
open PySem PySem.Spec PyProof.Rows L2
end GL
/-! {x!r}, x a text, a number, a truth value, a list or a tuple of data -/
namespace GL
open PySem PySem.Spec PyProof.Rows L2
end GL
/-! ### len(set(t)), t a tuple of texts, each once -/
namespace GL
open PySem PySem.Spec PyProof.Rows L2
/-! ### t in ts, data of any depth, ts a tuple -/
end GL
/-! x == o: x of a kind of Python's, o of an own class: o is asked -/
namespace PySem
end PySem
namespace GL
open PySem PySem.Spec PyProof.Rows L2
end GL
namespace GL
open PySem PySem.Spec PyProof.Rows L2
/-! ### != of two dicts -/
end GL
/-! ### tuples that are told with their object: no dict of their own -/
namespace GL
open PySem PySem.Spec PyProof.Rows L2
/-- a tuple's object as it is made -/
def Bare (o : Obj) : Prop := o.dict = none ∧ o.cls = .type "tuple"
/-- a display -/
def tTupX (t : TA) : TE := fun σ H Q => t σ H fun xs H1 => xs.length ≤ sizeLine ∧ ∀ p o, H1 p = none → Bare o → Q (.ref p) (upd H1 p (.frz o (.tup xs)))
section
variable {X : Cx} {es : List Expr} {t : TA} {pos : Pos} {pins : List (Addr × Obj)} {σ : L2.St} {H : Hp} {s : Shared}
theorem bare_laid {xs : List V} {us : List Value} (I : Inv X pins σ H s) (r : Vals xs us) (z : xs.length ≤ sizeLine) : Inv X pins σ (upd H s.heap.objs.size (.frz { cls := .type "tuple", data := .seq us.toArray } (.tup xs))) { s with heap := s.heap.push { cls := .type "tuple", data := .seq us.toArray } } :=
  I.laid (t' := s.toks) (fun b u e => Heap.get?_push_of_some _ e) (Nat.le_refl _) ⟨Heap.get?_push_size _ rfl, z, us, r, ⟨_, Heap.get?_push_size _ rfl, rfl, _, rfl⟩⟩
theorem pe_tupX {x1} (h : PA X es t) : PE X (.Tuple es x1 pos) (tTupX t) := by
  constructor
  intro pins s σ H Q I hq
  refine wpAny_Tuple_spliced (thn (h.run pos pins s σ H _ I hq) fun us s1 ⟨xs, H1, I1, r, z, q⟩ => ⟨by rw [← r.length]; exact z, ?_⟩)
  exact ⟨.ref s1.heap.objs.size, _, bare_laid I1 r z, rfl, q _ _ (I1.hok.fresh (Nat.le_refl _)) ⟨rfl, rfl⟩⟩
end
end GL
namespace My
open PySem PySem.Spec PyProof.Rows L2 GL
/-! ### words, rows, rules: no Python here -/
inductive Wd where
  | look | add | tri | live | home | off | fin | set | both | take | give | move | lift | settle | undo | leave | wait
deriving DecidableEq
def Wd.s : Wd → Str
  | .look => "look" | .add => "add" | .tri => "try" | .live => "live" | .home => "home" | .off => "off" | .fin => "end" | .set => "set" | .both => "both"
  | .take => "take" | .give => "give" | .move => "move" | .lift => "lift" | .settle => "settle" | .undo => "undo" | .leave => "leave" | .wait => "wait"
def allW : List Wd := [.look, .add, .tri, .live, .home, .off, .fin, .set, .both, .take, .give, .move, .lift, .settle, .undo, .leave, .wait]
theorem allW_mem (w : Wd) : w ∈ allW := by cases w <;> decide
theorem Wd.inj {a b : Wd} (h : a.s = b.s) : a = b := by
  have go : (allW.all fun a => allW.all fun b => decide (a.s = b.s → a = b)) = true := by decide +kernel
  have h1 := List.all_eq_true.mp (List.all_eq_true.mp go a (allW_mem a)) b (allW_mem b)
  exact of_decide_eq_true h1 h
theorem Wd.len (w : Wd) : w.s.length ≤ 6 := by cases w <;> decide +kernel
abbrev wV (w : Wd) : V := .str w.s
/-! rows as the program looks at them -/
abbrev Rw := List Wd
/-! rows as the law has them -/
def ext (ws : Rw) (us : Rw) : List Rw := (ws.filter fun w => !decide (w ∈ us)).map fun w => us ++ [w]
/-! rules of a book -/
inductive Pt where
  | take | give | move | lift | fails | shared | holds | batch | settles
deriving DecidableEq
def Pt.s : Pt → Str
  | .take => "take" | .give => "give" | .move => "move" | .lift => "lift" | .fails => "fails" | .shared => "shared" | .holds => "holds" | .batch => "batch" | .settles => "settles"
def allP : List Pt := [.take, .give, .move, .lift, .fails, .shared, .holds, .batch, .settles]
theorem allP_mem (p : Pt) : p ∈ allP := by cases p <;> decide
theorem Pt.inj {a b : Pt} (h : a.s = b.s) : a = b := by
  have go : (allP.all fun a => allP.all fun b => decide (a.s = b.s → a = b)) = true := by decide +kernel
  exact of_decide_eq_true (List.all_eq_true.mp (List.all_eq_true.mp go a (allP_mem a)) b (allP_mem b)) h
inductive Pv where
  | row (us : Rw) | hold (us : Rw) | wd (w : Wd) | bl (b : Bool) | int (n : Nat)
deriving DecidableEq
structure Ru where
  take : Rw
  give : Rw
  move : Rw
  lift : Rw
  fails : Wd
  shared : Bool
  holds : Rw
  batch : Nat
  settles : Bool
deriving DecidableEq
def Ru.get (r : Ru) : Pt → Pv
  | .take => .row r.take | .give => .row r.give | .move => .row r.move | .lift => .row r.lift | .fails => .wd r.fails | .shared => .bl r.shared | .holds => .hold r.holds | .batch => .int r.batch | .settles => .bl r.settles
end My
namespace My
open PySem PySem.Spec PyProof.Rows L2 GL Evl StX SkE
abbrev nV (n : Nat) : V := .int (n : Int)
def ExB (a : Addr) (H H' : Hp) : Prop := ∀ b o, b ≠ a → H b = some o → H' b = some o
theorem ExB.of {a : Addr} {H H' : Hp} (e : Ex H H') : ExB a H H' := fun b o _ h => e b o h
theorem ExB.refl (a : Addr) (H : Hp) : ExB a H H := fun _ _ _ h => h
theorem ExB.trans {a : Addr} {H H1 H2 : Hp} (x : ExB a H H1) (y : ExB a H1 H2) : ExB a H H2 := fun b o n h => y b o n (x b o n h)
theorem ExB.set {a : Addr} {H : Hp} {o : HO} : ExB a H (upd H a o) := fun b u n h => by
  rw [upd_ne n]
  exact h
theorem ExB.mut {a b : Addr} {H H' : Hp} {o : HO} (e : ExB a H H') (h : H b = none) : ExB a H (upd H' b o) := fun c u n hc => by
  rw [upd_ne (ne_of_none hc h)]
  exact e c u n hc
theorem ExB.free {a : Addr} {H H' : Hp} {p : Addr} {o : HO} (e : ExB a H H') (ha : H' a = some o) (h : H' p = none) : H p = none := by
  cases q : H p with
  | none => rfl
  | some u =>
    have n : p ≠ a := fun z => by rw [z, ha] at h; cases h
    rw [e p u n q] at h
    cases h
theorem ExB.all {a : Addr} {H0 H H' : Hp} (e0 : Ex H0 H) (h : H0 a = none) (e : ExB a H H') : Ex H0 H' := fun b o hb => e b o (ne_of_none hb h) (e0 b o hb)
def PotAt (H : Hp) (a : Addr) : Prop := ∃ x y : Int, H a = some (.lst [.int x, .int y]) ∧ 0 ≤ x ∧ 0 ≤ y ∧ y < 2147483600
theorem PotAt.ex {H H' : Hp} {a : Addr} (h : PotAt H a) (e : Ex H H') : PotAt H' a := by
  obtain ⟨x, y, h1, h2⟩ := h
  exact ⟨x, y, e _ _ h1, h2⟩
theorem PotAt.exB {H H' : Hp} {a b : Addr} (h : PotAt H a) (e : ExB b H H') (n : a ≠ b) : PotAt H' a := by
  obtain ⟨x, y, h1, h2⟩ := h
  exact ⟨x, y, e _ _ n h1, h2⟩
def sp_Lpot (K : PySem.W.Frag) : Sp := fun vs H Q _ => ∃ (a : Addr) (ns : List Int) (k : Nat), vs = [.ref a, .int (k : Int)] ∧ SqL K H a (ns.map V.int) ∧ ns.length ≤ 63 ∧ k < 3 ∧ ∀ H' p, H p = none → Ex H H' → PotAt H' p → Q (.ref p) H'
def sp_Ldraw : Sp := fun vs H Q _ => ∃ a, ∃ n : Nat, vs = [.ref a, nV n] ∧ PotAt H a ∧ 1 ≤ n ∧ n ≤ 1000 ∧ ∀ H' (d : Nat), ExB a H H' → PotAt H' a → d < n → Q (nV d) H'
theorem ev_raw {te : TE} {σ : L2.St} {H : Hp} {v : V} {Q : VK} (h : Ev te σ H v) (k : ∀ H1, Ex H H1 → Q v H1) : te σ H Q := h H (Ex.refl H) Q k
theorem cb_raw {r : List V → Hp → VK → Prop} {ta : TA} {σ : L2.St} {H : Hp} {vs : List V} {Q : VK} (h : EvA ta σ H vs) (k : ∀ H1, Ex H H1 → r vs H1 Q) : tCB r ta σ H Q := h H (Ex.refl H) _ k
theorem q_asgR {te : TE} {g : TG} {tz : TS} {D : Ends} {σ : L2.St} {H : Hp} (h : te σ H fun x H1 => g x σ H1 (tz D)) : tSeq (tAsg te g) tz D σ H := h
theorem s_retR {te : TE} {D : Ends} {σ : L2.St} {H : Hp} (h : te σ H D.rt) : tRet te D σ H := h
theorem no_pylong {x : Int} {n : Nat} (h : n ≤ 1000) : Builtin.divisionGoesByPylong x (n : Int) = false := by
  have hl : n.log2 < 10 := by
    by_cases e : n = 0
    · subst e
      decide
    · exact (Nat.log2_lt e).mpr (by omega)
  have hd : ¬ ((if ((n : Int) == 0) = true then 0 else (n : Int).natAbs.log2 / 30 + 1) > 300) := by
    rw [Int.natAbs_natCast]
    split <;> omega
  show (decide ((if ((n : Int) == 0) = true then 0 else (n : Int).natAbs.log2 / 30 + 1) > 300) && _) = false
  rw [decide_eq_false hd, Bool.false_and]
section
variable {K : PySem.W.Frag} {H : Hp}
theorem rc_lenL {a : Addr} {xs : List V} (h : SqL K H a xs) : RC (rLenS K) [.ref a] H (.int (xs.length : Int)) := fun H1 e Q q => ⟨a, xs, rfl, .inl (ex_l e h), q H1 (Ex.refl H1)⟩
theorem rc_max2 {i j : Int} : RC rMax2 [.int i, .int j] H (.int (if j > i then j else i)) := fun H1 _ Q q => ⟨i, j, rfl, q H1 (Ex.refl H1)⟩
theorem rc_int {i : Int} : RC (fun xs H Q => (∃ i, xs = [V.int i] ∧ Q (.int i) H) ∨ ∃ k, xs = [V.bl k] ∧ Q (.int (if k then 1 else 0)) H) [.int i] H (.int i) := fun H1 _ Q q => .inl ⟨i, rfl, q H1 (Ex.refl H1)⟩
theorem rc_abs {i : Int} : RC (fun xs H Q => ∃ i, xs = [V.int i] ∧ Q (.int (if i < 0 then -i else i)) H) [.int i] H (.int (if i < 0 then -i else i)) := fun H1 _ Q q => ⟨i, rfl, q H1 (Ex.refl H1)⟩
end
section
variable {P : Program} {w : World} {K : PySem.W.Frag} {mg : Str → Option Value} {base : Heap} {C : Addr} {H : Hp}
theorem dr {t : TA} {σ : L2.St} {Er : XK} {Q : VK} {a : Addr} {n : Nat} (h : EvA t σ H [.ref a, nV n]) (p : PotAt H a) (h1 : 1 ≤ n) (h2 : n ≤ 1000) (k : ∀ H' (d : Nat), ExB a H H' → PotAt H' a → d < n → Q (nV d) H') : tCall sp_Ldraw [] Er t σ H Q :=
  h H (Ex.refl H) _ fun H1 e1 => ⟨a, n, rfl, p.ex e1, h1, h2, fun H' d x p' hd => k H' d ((ExB.of e1).trans x) p' hd⟩
theorem yes_raw {σ : L2.St} {A B : Hp → Prop} (h : A H) : tYes σ H fun b H3 => if b = true then A H3 else B H3 := by
  show if true = true then A H else B H
  exact iteT h
theorem op_raw {r : R2} {ta tb : TE} {σ : L2.St} {Q : VK} (h : ta σ H fun x H1 => tb σ H1 fun y H2 => r x y H2 Q) : tOp r ta tb σ H Q := h
theorem test_raw {te : TE} {σ : L2.St} {Q : Bool → Hp → Prop} (h : te σ H fun x H' => ∃ k, x = .bl k ∧ Q k H') : tTest te σ H Q := h
end
theorem roomU {k : Nat} {A : Around} (h : Room k A) : A.units + 64 < cLine := by
  have := h.un
  omega
section
variable {K : PySem.W.Frag} {σ : L2.St} {H : Hp} {te tb : TE} {ta : TA} {t tu : TT} {D : Ends} {tz : TS} {xs ys : List V} {b : Bool}
theorem et_yes : EvT tYes σ H true := fun H1 _ _ q => q H1 (Ex.refl H1)
theorem el_is (h : EvL te σ H xs) (e : xs = ys) : EvL te σ H ys := by
  rw [← e]
  exact h
theorem nx_raw (h : D.nx σ H) : tNext D σ H := h
theorem rc_all {p : Addr} {bs : List Bool} (h : H p = some (.lst (bs.map V.bl))) : RC (rAll K) [.ref p] H (.bl (bs.all id)) := fun H1 e Q q => ⟨p, bs, rfl, sq_of (e _ _ h), q H1 (Ex.refl H1)⟩
theorem ev_allB {bs : List Bool} (h : EvL te σ H (bs.map V.bl)) : Ev (tCB (rAll K) (tCons te tNil)) σ H (.bl (bs.all id)) := fun H1 e Q q => h H1 e _ fun p H2 hp e2 h2 => rc_all h2 H2 (Ex.refl H2) Q fun H3 e3 => q H3 (e2.trans e3)
end
end My
namespace My
open PySem PySem.Spec PyProof.Rows L2 GL Evl StX SkE
/-! ### rows and rules in the heap -/
def isTup : HO → Bool
  | .tup _ => true
  | .frz _ (.tup _) => true
  | _ => false
/-- no tuple stands at b -/
def NoTup (H : Hp) (b : Addr) : Prop := ∀ u, H b = some u → isTup u = false
inductive RowAt (K : PySem.W.Frag) (H : Hp) (a : Addr) (us : Rw) : Prop where
  | tup (h : H a = some (.tup (us.map wV)))
  | fx {o : Obj} (h : H a = some (.frz o (.tup (us.map wV)))) (b : Bare o)
  | kst (h : ∀ H, SqT K H a (us.map wV)) (y : ∀ H, TyX K H (.ref a) (.type "tuple"))
section
variable {K : PySem.W.Frag} {H H' : Hp} {a b : Addr} {us ws : Rw}
theorem NoTup.lst {xs : List V} (h : H b = some (.lst xs)) : NoTup H b := fun u e => by
  rw [h] at e
  cases e
  rfl
theorem NoTup.dK {xs : List (Key × V)} (h : H b = some (.dK xs)) : NoTup H b := fun u e => by
  rw [h] at e
  cases e
  rfl
theorem NoTup.ins {C dx : Addr} {xs : List (Str × V)} (h : H b = some (.ins C dx xs)) : NoTup H b := fun u e => by
  rw [h] at e
  cases e
  rfl
theorem NoTup.none (h : H b = .none) : NoTup H b := fun u e => by
  rw [h] at e
  cases e
theorem RowAt.sq (h : RowAt K H a us) : SqT K H a (us.map wV) := by
  cases h with
  | tup h => exact st_of h
  | fx h _ => exact .inl (.inr ⟨_, h⟩)
  | kst h _ => exact h H
theorem RowAt.ty (h : RowAt K H a us) : TyX K H (.ref a) (.type "tuple") := by
  cases h with
  | tup h => exact .base (.tup h)
  | fx h _ => exact .fTuple h
  | kst _ y => exact y H
theorem RowAt.ex (h : RowAt K H a us) (e : Ex H H') : RowAt K H' a us := by
  cases h with
  | tup h => exact .tup (e _ _ h)
  | fx h b => exact .fx (e _ _ h) b
  | kst h y => exact .kst h y
/-- a place where no tuple stands may change -/
theorem RowAt.exB (h : RowAt K H a us) (e : ExB b H H') (n : NoTup H b) : RowAt K H' a us := by
  cases h with
  | tup h => exact .tup (e _ _ (fun q => Bool.noConfusion (n _ (q ▸ h))) h)
  | fx h c => exact .fx (e _ _ (fun q => Bool.noConfusion (n _ (q ▸ h))) h) c
  | kst h y => exact .kst h y
/-- a row: a tuple without a dict -/
inductive RowX (K : PySem.W.Frag) (H : Hp) (a : Addr) (us : Rw) : Prop where
  | fx {o : Obj} (h : H a = some (.frz o (.tup (us.map wV)))) (b : Bare o)
  | kst (h : ∀ H, SqT K H a (us.map wV)) (y : ∀ H, TyX K H (.ref a) (.type "tuple")) (t : ∃ o, K.lookup a = some o ∧ Bare o)
theorem RowX.at_ (h : RowX K H a us) : RowAt K H a us := by
  cases h with
  | fx h b => exact .fx h b
  | kst h y t => exact .kst h y
theorem RowX.sq (h : RowX K H a us) : SqT K H a (us.map wV) := h.at_.sq
theorem RowX.ex (h : RowX K H a us) (e : Ex H H') : RowX K H' a us := by
  cases h with
  | fx h b => exact .fx (e _ _ h) b
  | kst h y t => exact .kst h y t
theorem RowX.exB (h : RowX K H a us) (e : ExB b H H') (n : NoTup H b) : RowX K H' a us := by
  cases h with
  | fx h c => exact .fx (e _ _ (fun q => Bool.noConfusion (n _ (q ▸ h))) h) c
  | kst h y t => exact .kst h y t
def dW (w : Wd) : PyData := .str w.s
def dRow (us : Rw) : PyData := .tuple (us.map dW)
theorem dp_ws (H : Hp) : ∀ us : Rw, DpAll K H (us.map wV) (us.map dW)
  | [] => .nil
  | u :: us => .cons (.str _) (dp_ws H us)
theorem RowAt.dp (h : RowAt K H a us) : Dp K H (.ref a) (dRow us) := .tup h.sq (dp_ws H us)
theorem RowX.dp (h : RowX K H a us) : Dp K H (.ref a) (dRow us) := h.at_.dp
theorem shaped_of {d : PyData} (h1 : d.canLay0 = true) (h2 : d.depth ≤ 64) : SeqAt.shaped d = true := by
  show (d.canLay0 && decide (d.depth ≤ 64)) = true
  rw [h1, decide_eq_true h2]
  rfl
theorem w_ok (w : Wd) : PyData.strOk w.s = true := by cases w <;> decide +kernel
theorem lay_ws : ∀ us : Rw, PyData.canLayAll0 (us.map dW) = true
  | [] => rfl
  | u :: us => by
    show ((PyData.str u.s).canLay0 && PyData.canLayAll0 (us.map dW)) = true
    rw [lay_ws us]
    simp only [PyData.canLay0, w_ok, Bool.and_self]
theorem depth_ws : ∀ us : Rw, PyData.depthAll (us.map dW) ≤ 0
  | [] => Nat.le_refl _
  | u :: us => by
    show max (dW u).depth (PyData.depthAll (us.map dW)) ≤ 0
    exact Nat.max_le.mpr ⟨Nat.le_refl _, depth_ws us⟩
theorem row_lay (us : Rw) : (dRow us).canLay0 = true := lay_ws us
theorem row_depth (us : Rw) : (dRow us).depth ≤ 1 := by
  have := depth_ws us
  show (PyData.tuple (us.map dW)).depth ≤ 1
  simp only [PyData.depth]
  omega
theorem row_shaped (us : Rw) : SeqAt.shaped (dRow us) = true := shaped_of (row_lay us) (Nat.le_trans (row_depth us) (by decide))
end
/-! lists of rows -/
inductive RowsAt (K : PySem.W.Frag) (H : Hp) : List V → List Rw → Prop where
  | nil : RowsAt K H [] []
  | cons {a : Addr} {us : Rw} {vs : List V} {rs : List Rw} (h : RowX K H a us) (t : RowsAt K H vs rs) : RowsAt K H (.ref a :: vs) (us :: rs)
section
variable {K : PySem.W.Frag} {H H' : Hp} {vs ws : List V} {rs qs : List Rw}
theorem RowsAt.ex (h : RowsAt K H vs rs) (e : Ex H H') : RowsAt K H' vs rs := by
  induction h with
  | nil => exact .nil
  | cons h _ ih => exact .cons (h.ex e) ih
theorem RowsAt.len (h : RowsAt K H vs rs) : vs.length = rs.length := by
  induction h with
  | nil => rfl
  | cons _ _ ih => rw [List.length_cons, List.length_cons, ih]
theorem RowsAt.at (h : RowsAt K H vs rs) {i : Nat} {v : V} (hv : vs[i]? = some v) : ∃ a us, v = .ref a ∧ rs[i]? = some us ∧ RowX K H a us := by
  induction h generalizing i with
  | nil => simp at hv
  | @cons a us vs rs h _ ih =>
    cases i with
    | zero =>
      rw [List.getElem?_cons_zero] at hv
      exact ⟨a, us, (Option.some.inj hv).symm, rfl, h⟩
    | succ i =>
      rw [List.getElem?_cons_succ] at hv
      obtain ⟨b, ws, e, e2, hb⟩ := ih hv
      exact ⟨b, ws, e, by rw [List.getElem?_cons_succ]; exact e2, hb⟩
theorem RowsAt.mem (h : RowsAt K H vs rs) {v : V} (hv : v ∈ vs) : ∃ a us, v = .ref a ∧ us ∈ rs ∧ RowX K H a us := by
  obtain ⟨i, hi⟩ := List.getElem?_of_mem hv
  obtain ⟨a, us, e, e2, h2⟩ := h.at hi
  exact ⟨a, us, e, List.mem_of_getElem? e2, h2⟩
theorem RowsAt.dp (h : RowsAt K H vs rs) : DpAll K H vs (rs.map dRow) := by
  induction h with
  | nil => exact .nil
  | cons h _ ih => exact .cons h.dp ih
end
/-! parts -/
def Pv.At (K : PySem.W.Frag) (H : Hp) : Pv → V → Prop
  | .row us, v => ∃ a, v = .ref a ∧ RowX K H a us
  | .hold us, v => ∃ a, v = .ref a ∧ RowAt K H a us
  | .wd w, v => v = wV w
  | .bl b, v => v = .bl b
  | .int n, v => v = nV n
def Pv.d : Pv → PyData
  | .row us => dRow us
  | .hold us => dRow us
  | .wd w => dW w
  | .bl b => .bool b
  | .int n => .int n
section
variable {K : PySem.W.Frag} {H H' : Hp} {p q : Pv} {v : V} {b : Addr}
theorem Pv.At.ex (h : p.At K H v) (e : Ex H H') : p.At K H' v := by
  cases p with
  | row us =>
    obtain ⟨a, rfl, h⟩ := h
    exact ⟨a, rfl, h.ex e⟩
  | hold us =>
    obtain ⟨a, rfl, h⟩ := h
    exact ⟨a, rfl, h.ex e⟩
  | _ => exact h
theorem Pv.At.exB (h : p.At K H v) (e : ExB b H H') (n : NoTup H b) : p.At K H' v := by
  cases p with
  | row us =>
    obtain ⟨a, rfl, h⟩ := h
    exact ⟨a, rfl, h.exB e n⟩
  | hold us =>
    obtain ⟨a, rfl, h⟩ := h
    exact ⟨a, rfl, h.exB e n⟩
  | _ => exact h
theorem Pv.At.dp (h : p.At K H v) : Dp K H v p.d := by
  cases p with
  | row us =>
    obtain ⟨a, rfl, h⟩ := h
    exact h.dp
  | hold us =>
    obtain ⟨a, rfl, h⟩ := h
    exact h.dp
  | wd w =>
    cases h
    exact .str _
  | bl b =>
    cases h
    exact .bl b
  | int n =>
    cases h
    exact .int _
theorem Pv.shaped (p : Pv) : SeqAt.shaped p.d = true := by
  cases p with
  | row us => exact row_shaped us
  | hold us => exact row_shaped us
  | wd w => exact shaped_of (d := .str w.s) (by simp only [PyData.canLay0, w_ok]) (by simp only [PyData.depth]; omega)
  | bl b => exact shaped_of (d := .bool b) (by simp only [PyData.canLay0]) (by simp only [PyData.depth]; omega)
  | int n => exact shaped_of (d := .int n) (by simp only [PyData.canLay0]) (by simp only [PyData.depth]; omega)
end
/-! dicts of rules -/
abbrev kvs (ks : List Pt) (f : Pt → V) : List (Key × V) := ks.map fun p => (.inr p.s, f p)
/-- at d a dict with these keys, whose values are r's parts -/
def DictAt (K : PySem.W.Frag) (H : Hp) (d : Addr) (ks : List Pt) (r : Ru) : Prop := ∃ f : Pt → V, H d = some (.dK (kvs ks f)) ∧ ∀ p ∈ ks, (r.get p).At K H (f p)
section
variable {K : PySem.W.Frag} {H H' : Hp} {d b : Addr} {ks : List Pt} {r : Ru}
theorem DictAt.ex (h : DictAt K H d ks r) (e : Ex H H') : DictAt K H' d ks r := by
  obtain ⟨f, h1, h2⟩ := h
  exact ⟨f, e _ _ h1, fun p hp => (h2 p hp).ex e⟩
theorem DictAt.exB (h : DictAt K H d ks r) (e : ExB b H H') (nd : d ≠ b) (n : NoTup H b) : DictAt K H' d ks r := by
  obtain ⟨f, h1, h2⟩ := h
  exact ⟨f, e _ _ nd h1, fun p hp => (h2 p hp).exB e n⟩
end
end My
namespace My
open PySem PySem.Spec PyProof.Rows L2 GL Evl StX SkE
def fd : V → PyData
  | .int i => .int i
  | .str x => .str x
  | .bl b => .bool b
  | _ => .none
theorem fd_dp {K : PySem.W.Frag} {H : Hp} : ∀ {x : V}, flatV x = true → Dp K H x (fd x)
  | .non, _ => .non
  | .bl b, _ => .bl b
  | .int i, _ => .int i
  | .str x, _ => .str x
  | .byt _, h => by cases h
  | .flt _, h => by cases h
  | .ref _, h => by cases h
  | .ty _, h => by cases h
theorem fd_all {K : PySem.W.Frag} {H : Hp} : ∀ {xs : List V}, xs.all flatV = true → DpAll K H xs (xs.map fd)
  | [], _ => .nil
  | x :: xs, h => by
    rw [List.all_cons, Bool.and_eq_true] at h
    exact .cons (fd_dp h.1) (fd_all h.2)
theorem text_len (B : Nat) : ∀ (ts : List Str) (k : Nat) (acc : Str), (∀ t ∈ ts, t.length ≤ B) → (textFrom k acc ts).length ≤ acc.length + ts.length * (B + 2)
  | [], k, acc, _ => by
    show acc.length ≤ acc.length + 0 * (B + 2)
    omega
  | t :: r, k, acc, h => by
    have ih := text_len B r (k + 1) (acc ++ (if k > 0 then ", " else "" : String) ++ t) fun y hy => h y (List.mem_cons_of_mem _ hy)
    have ht := h t List.mem_cons_self
    have e2 : (Str.ofString (if k > 0 then ", " else "")).length ≤ 2 := by
      split <;> decide
    rw [Str.length_append, Str.length_append] at ih
    show (textFrom (k + 1) (acc ++ (if k > 0 then ", " else "" : String) ++ t) r).length ≤ acc.length + (r.length + 1) * (B + 2)
    rw [Nat.add_mul, Nat.one_mul]
    omega
theorem list_text_len {B : Nat} {ts : List Str} (h : ∀ t ∈ ts, t.length ≤ B) : (listText ts).length ≤ ts.length * (B + 2) + 2 := by
  have q := text_len B ts 0 "[" h
  have e1 : (Str.ofString "[").length = 1 := by decide
  have e2 : (Str.ofString "]").length = 1 := by decide
  unfold listText
  rw [Str.length_append, e2]
  omega
theorem shownAll_mem : ∀ {ds : List PyData} {t : Str}, t ∈ PyData.shownAll ds → ∃ d ∈ ds, t = d.shown
  | [], t, h => by
    simp only [PyData.shownAll] at h
    cases h
  | d :: ds, t, h => by
    simp only [PyData.shownAll] at h
    rcases List.mem_cons.mp h with z | z
    · exact ⟨d, List.mem_cons_self, z⟩
    · obtain ⟨e, he, q⟩ := shownAll_mem z
      exact ⟨e, List.mem_cons_of_mem _ he, q⟩
theorem shownAll_len : ∀ ds : List PyData, (PyData.shownAll ds).length = ds.length
  | [] => by simp only [PyData.shownAll, List.length_nil]
  | d :: ds => by
    simp only [PyData.shownAll, List.length_cons]
    rw [shownAll_len ds]
theorem showableAll_of : ∀ {ds : List PyData}, (∀ d ∈ ds, d.showable = true) → PyData.showableAll ds = true
  | [], _ => by simp only [PyData.showableAll]
  | d :: ds, h => by
    simp only [PyData.showableAll, Bool.and_eq_true]
    exact ⟨h d List.mem_cons_self, showableAll_of fun e he => h e (List.mem_cons_of_mem _ he)⟩
theorem depthAll_of : ∀ {ds : List PyData} {k : Nat}, (∀ d ∈ ds, d.depth ≤ k) → PyData.depthAll ds ≤ k
  | [], _, _ => by
    simp only [PyData.depthAll]
    omega
  | d :: ds, k, h => by
    simp only [PyData.depthAll]
    have h1 := h d List.mem_cons_self
    have h2 := depthAll_of (ds := ds) (k := k) fun e he => h e (List.mem_cons_of_mem _ he)
    omega
def shw (xs : List V) : Str := (PyData.list (xs.map fd)).shown
structure Sm (d : PyData) (k B : Nat) : Prop where
  sh : d.showable = true
  nd : d.hasDict = false
  de : d.depth ≤ k
  ln : d.shown.length ≤ B
theorem Sm.mono {d : PyData} {k B k' B' : Nat} (h : Sm d k B) (hk : k ≤ k') (hB : B ≤ B') : Sm d k' B' := ⟨h.sh, h.nd, Nat.le_trans h.de hk, Nat.le_trans h.ln hB⟩
/-! texts of tuples, of parts -/
theorem join_len {B : Nat} : ∀ {ts : List Str}, (∀ t ∈ ts, t.length ≤ B) → (Str.join ", " ts).length ≤ ts.length * (B + 2)
  | [], _ => by
    rw [List.length_nil, Nat.zero_mul]
    decide
  | t :: ts, h => by
    have e := join_length_add (t :: ts) (by simp)
    have p : ∀ {us : List Str}, (∀ u ∈ us, u.length ≤ B) → piled us ≤ us.length * (B + 2) := by
      intro us
      induction us with
      | nil => intro _; simp [piled]
      | cons u us ih =>
        intro hu
        have h1 := hu u List.mem_cons_self
        have h2 := ih fun x hx => hu x (List.mem_cons_of_mem _ hx)
        rw [List.length_cons, Nat.add_mul, Nat.one_mul, piled_cons]
        omega
    have := p h
    omega
theorem tuple_text_len {B : Nat} {ts : List Str} (h : ∀ t ∈ ts, t.length ≤ B) : (tupleText ts).length ≤ ts.length * (B + 2) + 3 := by
  have q := join_len h
  unfold tupleText
  rw [Str.length_append, Str.length_append]
  have e1 : (Str.ofString "(").length = 1 := by decide
  have e2 : (Str.ofString (if ts.length == 1 then ",)" else ")" : String)).length ≤ 2 := by split <;> decide
  omega
end My
/-! ### tuple(list), told with its object -/
namespace GL
open PySem PySem.Spec PyProof.Rows L2
section
variable {X : Cx}
def rTupX (K : PySem.W.Frag) : List V → Hp → VK → Prop := fun xs H Q => ∃ p ys, xs = [.ref p] ∧ SqL K H p ys ∧ ∀ l o, H l = none → Bare o → Q (.ref l) (upd H l (.frz o (.tup ys)))
theorem call_tupleX : CallR X (.type "tuple") (rTupX X.K) := by
  intro pins s σ H xs us Q I r h
  obtain ⟨p, ys, rfl, hq, q⟩ := h
  obtain ⟨u, rfl, rx⟩ := vals1 r
  cases rx
  obtain ⟨its, r', pl, hz⟩ := I.list hq
  have hlen := r'.length
  refine call_tuple_list pl.isList (fun h' kp => ?_) (by simp only [List.size_toArray] <;> omega)
  have I1 : Inv X pins σ H { s with heap := h' } := I.kept (t' := s.toks) kp
  exact ⟨.ref h'.objs.size, _, bare_laid I1 r' hz, rfl, q _ _ (I1.hok.fresh (Nat.le_refl _)) ⟨rfl, rfl⟩⟩
end
end GL
namespace My
open PySem PySem.Spec PyProof.Rows L2 GL Evl StX SkE
/-! ### the laws' menus of rows -/
end My
/-! ### f(k = v, ..), by names alone -/
namespace GL
open PySem PySem.Spec PyProof.Rows L2
section
variable {X : Cx} {CX : CXT} {k : Nat} {f : Addr} {fd : FuncData} {ps ks : List Str} {sp : Sp} {E : XK} {x : Str} {p pos : Pos} {kws : List Keyword} {tk : TA} {g : List Value → List Value → List Value} {gV : List V → List V → List V} {pins : List (Addr × Obj)} {σ : L2.St} {H : Hp} {s : Shared} {Q : VK} {ws : List Value} {zs : List V}
theorem ranKn (G : Fre X.A) (F : FnG X.prog X.w X.K X.mg X.base CX k f fd ps sp) (hr : Room k X.A) (hb : KBn X.K fd ps 0 ks g gV) (hx : Passes CX X E) (I : Inv X pins σ H s) (rz : Vals zs ws) (l2 : zs.length = ks.length) (h : sp (gV [] zs) H Q E) :
    wpAny (model X.prog X.w) X.A (call (.ref f) [] (ks.zip ws)) (EP X pins σ Q) X.xe s :=
  ran (landed hx I (F.goes G hr I.env0 (hb.to s [] ws I.kIn rfl (rz.length.symm.trans l2)) (hb.rel .nil rz) h))
def tCallK (m : Nat) (sp : Sp) (gV : List V → List V → List V) (E : XK) (tk : TA) : TE := fun σ H Q => tk σ H fun zs H2 => zs.length = m ∧ sp (gV [] zs) H2 Q E
theorem pcK (G : Fre X.A) (F : FnG X.prog X.w X.K X.mg X.base CX k f fd ps sp) (hr : Room k X.A) (hg : Gl X x) (hm : X.mg x = some (.ref f)) (hk : PySem.W.keepIn X.K (.ref f) = true) (hb : KBn X.K fd ps 0 ks g gV) (hx : Passes CX X E)
    (hkw : PK X kws tk) (ndb : (x == ("__debug__" : Str)) = false := by decide) (hall : (backToKw pos (keywordEach kws X.env)).all (·.1.isSome) = true := by rfl) (hks : (backToKw pos (keywordEach kws X.env)).filterMap (·.1) = ks := by rfl)
    (hpl : (backToKw pos (keywordEach kws X.env)).any (·.1.isNone) = false := by rfl) :
    PE X (.Call (.Name x p) [] kws pos) (tCallK ks.length sp gV E tk) where
  run := fun pins s σ H Q I h => wpAny_Call_Name_kw (ld_glob I hg hm
    (PySem.W.callWith_KW0 (first := []) (h₀ := X.base) I.ok.mod.kin hk hall (thn (hkw.run pos pins s σ H _ I h) fun ws s2 ⟨zs, H2, I2, rz, l2, q2⟩ => by
      rw [hks]
      exact ⟨I2.kIn, ranKn G F hr hb hx I2 rz l2 q2⟩) hpl) ndb)
end
end GL
/-! isinstance(e, C), C a class of ours or a built-in one -/
namespace GL
open PySem PySem.Spec PyProof.Rows L2
def rIsY (K : PySem.W.Frag) (cls : Value) (d : Option Addr) (a : Addr) : List V → Hp → VK → Prop := fun xs H Q => ∃ (D : Addr) (c : V) (u : Value) (b : Bool), cls = .ref D ∧ PySem.GX.ErrC K D ∧ xs = [.ref a, c] ∧ ClsV c u ∧ PySem.W.kitOne K (.ref D) u = some b ∧ (d = none ∨ ∃ dd fs, d = some dd ∧ H dd = some (.xd fs)) ∧ Q (.bl b) H
theorem call_isY {X : Cx} {a : Addr} {cls : Value} {d : Option Addr} {oe : Obj} {pn : List (Addr × Obj)} (hz : Zc cls d oe) (hf : ∃ vs, oe.data = .fields vs) : CallR (X.suite a ((a, oe) :: pn)) (.builtin "isinstance") (rIsY X.K cls d a) := by
  intro pins s σ H xs us Q I r h
  obtain ⟨D, c, u, b, rfl, T, rfl, kc, e, hd, q⟩ := h
  cases r with
  | cons rx rr => cases rr with
    | cons rt rr =>
      cases rr
      cases rx
      cases kc.eq rt
      obtain ⟨hget, _⟩ := I.pin (a, oe) (List.mem_append_left _ List.mem_cons_self)
      obtain ⟨vs, hv⟩ := hf
      have J : ∃ od, PySem.W.InstAt s.heap a oe D od := by
        rcases hd with e0 | ⟨dd, fs, e0, hdd⟩
        · refine ⟨none, hget, hz.1, by unfold PySem.W.notCls; rw [hv], ?_⟩
          rw [hz.2, e0]
          trivial
        · obtain ⟨mA, hns, _⟩ := (show ObjOk X.prog X.w H s.heap dd (.xd fs) from I.hok dd _ hdd)
          obtain ⟨od, ho, _⟩ := lookIn_ns hns
          refine ⟨some od, hget, hz.1, by unfold PySem.W.notCls; rw [hv], ?_⟩
          rw [hz.2, e0]
          exact ho
      obtain ⟨od, J⟩ := J
      exact PySem.W.kia_one (PySem.GX.kit_err T) I.kIn J e (fun z => nomatch z) fun tk => ⟨.bl b, H, I.kept (t' := tk) fun _ _ z => z, rfl, q⟩
end GL
/-! promises kept where lists with instances are being shown: what stands in the way (the guards) are the addresses L -/
namespace GL
open PySem PySem.Spec PyProof.Rows L2 Evl StX SkE
def Gu (L : List Addr) (g : List Code) : Prop := ∀ id v rest kw, Code.builtin id ⟨v :: rest, kw⟩ ∈ g → ∃ l ∈ L, v = .ref l
def FreL (L : List Addr) (A : Around) : Prop := ∃ g, A.guards = some g ∧ Gu L g
theorem FreL.of {A : Around} (h : Fre A) : FreL [] A := ⟨[], h, fun _ _ _ _ q => nomatch q⟩
structure FnL (L : List Addr) (P : Program) (w : World) (K : PySem.W.Frag) (mg : Str → Option Value) (base : Heap) (CX : CXT) (k : Nat) (f : Addr) (fd : FuncData) (ps : List Str) (sp : Sp) : Prop where
  many : ∀ vs H Q E, sp vs H Q E → vs.length = ps.length
  goes : ∀ {A : Around} {outer : List Env} {s : Shared} {H : Hp} {args : Args} {us : List Value} {vs : List V} {Q : VK} {E : XK}, FreL L A → Room k A →
    Env0 P w K mg base A outer s H → BindsTo s fd args (ps.zip us) → Vals vs us → sp vs H Q E → codeAny (model P w) A (.call (.ref f) args) (CR CX outer P w H s Q E) s
theorem FnL.g {P : Program} {w : World} {K : PySem.W.Frag} {mg : Str → Option Value} {base : Heap} {CX : CXT} {k : Nat} {f : Addr} {fd : FuncData} {ps : List Str} {sp : Sp} (F : FnL [] P w K mg base CX k f fd ps sp) : FnG P w K mg base CX k f fd ps sp :=
  ⟨F.many, fun h r e b v q => F.goes (FreL.of h) r e b v q⟩
/-! what is no data -/
def Odd (K : PySem.W.Frag) (H : Hp) (l : Addr) : Prop := ∃ xs a C dx fs, (SqL K H l xs ∨ SqT K H l xs) ∧ V.ref a ∈ xs ∧ H a = some (.ins C dx fs)
theorem Odd.ex {K : PySem.W.Frag} {H H' : Hp} {l : Addr} (h : Odd K H l) (e : Ex H H') : Odd K H' l := by
  obtain ⟨xs, a, C, dx, fs, h1, h2, h3⟩ := h
  exact ⟨xs, a, C, dx, fs, h1.imp (ex_l e) (ex_t e), h2, e _ _ h3⟩
end GL
/-! {x!r} of data where the guards are L; repr of a list whose members are instances with an own text, or data -/
namespace GL
open PySem PySem.Spec PyProof.Rows L2 Evl StX SkE
/-! ### members with a text -/
end GL
namespace GL
open PySem PySem.Spec PyProof.Rows L2 Evl StX SkE
end GL
namespace GL
open PySem PySem.Spec PyProof.Rows L2 Evl StX SkE
end GL
/-! data with dicts in it, as it is shown -/
namespace GL
open PySem PySem.Spec PyProof.Rows L2 Evl StX SkE
def keyD : Key → PyData
  | .inl i => .int i
  | .inr x => .str x
mutual
inductive Dx (K : PySem.W.Frag) (H : Hp) : V → PyData → Prop
  | non : Dx K H .non .none
  | bl (b : Bool) : Dx K H (.bl b) (.bool b)
  | int (i : Int) : Dx K H (.int i) (.int i)
  | str (x : Str) : Dx K H (.str x) (.str x)
  | lst {a : Addr} {xs : List V} {ds : List PyData} : SqL K H a xs → DxAll K H xs ds → Dx K H (.ref a) (.list ds)
  | tup {a : Addr} {xs : List V} {ds : List PyData} : SqT K H a xs → DxAll K H xs ds → Dx K H (.ref a) (.tuple ds)
  | dct {a : Addr} {kvs : List (Key × V)} {ds : List PyData} : H a = some (.dK kvs) → DxAll K H (kvs.map (·.2)) ds → Dx K H (.ref a) (.dict ((kvs.map fun p => keyD p.1).zip ds))
inductive DxAll (K : PySem.W.Frag) (H : Hp) : List V → List PyData → Prop
  | nil : DxAll K H [] []
  | cons {v : V} {vs : List V} {d : PyData} {ds : List PyData} : Dx K H v d → DxAll K H vs ds → DxAll K H (v :: vs) (d :: ds)
end
section
variable {K : PySem.W.Frag} {H H' : Hp}
theorem DxAll.len {vs : List V} {ds : List PyData} : DxAll K H vs ds → ds.length = vs.length
  | .nil => rfl
  | .cons _ t => by rw [List.length_cons, List.length_cons, DxAll.len t]
mutual
theorem Dx.ex (e : Ex H H') : ∀ {v : V} {d : PyData}, Dx K H v d → Dx K H' v d
  | _, _, .non => .non
  | _, _, .bl b => .bl b
  | _, _, .int i => .int i
  | _, _, .str x => .str x
  | _, _, .lst h t => .lst (ex_l e h) (DxAll.ex e t)
  | _, _, .tup h t => .tup (ex_t e h) (DxAll.ex e t)
  | _, _, .dct h t => .dct (e _ _ h) (DxAll.ex e t)
theorem DxAll.ex (e : Ex H H') : ∀ {vs : List V} {ds : List PyData}, DxAll K H vs ds → DxAll K H' vs ds
  | _, _, .nil => .nil
  | _, _, .cons h t => .cons (Dx.ex e h) (DxAll.ex e t)
end
end
section
variable {X : Cx} {pins : List (Addr × Obj)} {σ : L2.St} {H : Hp} {s : Shared}
/-- a value is read, and shown so -/
def Shw (X : Cx) (s : Shared) (u : Value) (d : PyData) : Prop := ∃ as bs, Reads s.heap u d as ∧ ReadAtMost s.heap d.depth bs ∧ ReprK X.prog X.w bs s.heap d.depth u d.shown
theorem shw_all {n : Nat} (one : ∀ d v u, d.depth ≤ n → Dx X.K H v d → RelV v u → d.showable = true → d.shown.length ≤ sizeLine → Shw X s u d) : ∀ ds vs us, DxAll X.K H vs ds → Vals vs us → PyData.depthAll ds ≤ n → PyData.showableAll ds = true → (∀ t ∈ PyData.shownAll ds, t.length ≤ sizeLine) →
    ∃ as bs, ReadsAll s.heap us ds as ∧ ReadAtMost s.heap (PyData.depthAll ds) bs ∧ ReprAllK X.prog X.w bs s.heap (PyData.depthAll ds) us (PyData.shownAll ds)
  | [], _, _, h, r, _, _, _ => by
    cases h
    cases r
    exact ⟨_, [], .nil, (fun _ z => nomatch z), .nil⟩
  | d :: ds, _, _, h, r, hd, hs, hz => by
    cases h with
    | cons h1 h2 =>
      cases r with
      | cons r1 r2 =>
        simp only [PyData.depthAll] at hd
        simp only [PyData.showableAll, Bool.and_eq_true] at hs
        simp only [PyData.shownAll] at hz ⊢
        simp only [PyData.depthAll]
        obtain ⟨a1, b1, q1, q2, q3⟩ := one d _ _ (by omega) h1 r1 hs.1 (hz _ List.mem_cons_self)
        obtain ⟨a2, b2, p1, p2, p3⟩ := shw_all one ds _ _ h2 r2 (by omega) hs.2 fun t ht => hz t (List.mem_cons_of_mem _ ht)
        exact ⟨_, b1 ++ b2, .cons q1 p1, (q2.mono (by omega)).append (p2.mono (by omega)), .cons ((q3.more fun b hb => List.mem_append_left _ hb).level_le (by omega)) (p3.more_le (fun b hb => List.mem_append_right _ hb) (by omega))⟩
theorem keys_read {prog : Program} {w : World} {es : List DictEntry} {ks : List (Key × Value)} {n : Nat} (p : Pairs (mixKind prog w) es ks) (hs : PyData.showableAll (ks.map fun p => keyD p.1) = true) (hz : ∀ t ∈ PyData.shownAll (ks.map fun p => keyD p.1), t.length ≤ sizeLine) :
    ∃ as, ReadsAll s.heap (es.map (·.key)) (ks.map fun p => keyD p.1) as ∧ ReprAllK X.prog X.w [] s.heap n (es.map (·.key)) (PyData.shownAll (ks.map fun p => keyD p.1)) := by
  induction p with
  | nil => exact ⟨_, .nil, .nil⟩
  | @cons e kv es ks h1 h2 _ ih =>
    simp only [List.map_cons, PyData.showableAll, Bool.and_eq_true] at hs
    simp only [List.map_cons, PyData.shownAll] at hz
    obtain ⟨as, i1, i2⟩ := ih hs.2 fun t ht => hz t (List.mem_cons_of_mem _ ht)
    have z1 := hz _ List.mem_cons_self
    rcases keyIs_shape (show keyIs kv.1 e.key = true from h1) with ⟨i, t, e1, e2⟩ | ⟨x, t, e1, e2⟩
    · rw [e1] at hs z1
      simp only [List.map_cons, PyData.shownAll, e1, e2]
      refine ⟨_, .cons (.int i t) i1, .cons ?_ i2⟩
      simp only [keyD, PyData.shown]
      exact .of_is (ReprIs.int t (by simpa [keyD, PyData.showable] using hs.1)) _ _ _
    · rw [e1] at hs z1
      simp only [List.map_cons, PyData.shownAll, e1, e2]
      refine ⟨_, .cons (.str x t) i1, .cons ?_ i2⟩
      simp only [keyD, PyData.shown]
      exact .of_is (ReprIs.str x t (by simpa only [keyD, PyData.shown] using z1)) _ _ _
theorem vals_pairs {prog : Program} {w : World} {kvs : List (Key × V)} {vs : List (Key × Value)} {es : List DictEntry} (r : KV kvs vs) (p : Pairs (mixKind prog w) es vs) : Vals (kvs.map (·.2)) (es.map (·.val)) := by
  induction p generalizing kvs with
  | nil =>
    cases r
    exact .nil
  | cons h1 h2 _ ih =>
    cases r with
    | cons q rt =>
      rw [List.map_cons, List.map_cons, h2]
      exact .cons q.2 (ih rt)
theorem zip_fst {α β : Type} : ∀ {xs : List α} {ys : List β}, xs.length = ys.length → (xs.zip ys).map (·.1) = xs
  | [], _, _ => rfl
  | x :: xs, y :: ys, h => by
    rw [List.zip_cons_cons, List.map_cons, zip_fst (by simpa using h)]
theorem zip_snd {α β : Type} : ∀ {xs : List α} {ys : List β}, xs.length = ys.length → (xs.zip ys).map (·.2) = ys
  | [], [], _ => rfl
  | x :: xs, y :: ys, h => by
    rw [List.zip_cons_cons, List.map_cons, zip_snd (by simpa using h)]
theorem shw (I : Inv X pins σ H s) : ∀ n d v u, d.depth ≤ n → Dx X.K H v d → RelV v u → d.showable = true → d.shown.length ≤ sizeLine → Shw X s u d := by
  have flat : ∀ d v u, Dx X.K H v d → RelV v u → d.showable = true → d.shown.length ≤ sizeLine → (∀ a, v ≠ .ref a) → Shw X s u d := by
    intro d v u h r hs hz nr
    cases h with
    | non =>
      cases r
      exact ⟨_, [], .none, (fun _ z => nomatch z), by simp only [PyData.shown]; exact .of_is ReprIs.none _ _ _⟩
    | bl b =>
      cases r
      exact ⟨_, [], .bool b, (fun _ z => nomatch z), by simp only [PyData.shown]; exact .of_is (ReprIs.bool b) _ _ _⟩
    | int i =>
      obtain ⟨t, rfl⟩ := r
      exact ⟨_, [], .int i t, (fun _ z => nomatch z), by simp only [PyData.shown]; exact .of_is (ReprIs.int t (by simpa [PyData.showable] using hs)) _ _ _⟩
    | str x =>
      obtain ⟨t, rfl⟩ := r
      exact ⟨_, [], .str x t, (fun _ z => nomatch z), by simp only [PyData.shown]; exact .of_is (ReprIs.str x t (by simpa only [PyData.shown] using hz)) _ _ _⟩
    | lst _ _ => exact absurd rfl (nr _)
    | tup _ _ => exact absurd rfl (nr _)
    | dct _ _ => exact absurd rfl (nr _)
  intro n
  induction n with
  | zero =>
    intro d v u hd h r hs hz
    cases h with
    | lst _ _ => simp only [PyData.depth] at hd; omega
    | tup _ _ => simp only [PyData.depth] at hd; omega
    | dct _ _ => simp only [PyData.depth] at hd; omega
    | non => exact flat _ _ _ .non r hs hz fun _ z => nomatch z
    | bl b => exact flat _ _ _ (.bl b) r hs hz fun _ z => nomatch z
    | int i => exact flat _ _ _ (.int i) r hs hz fun _ z => nomatch z
    | str x => exact flat _ _ _ (.str x) r hs hz fun _ z => nomatch z
  | succ n ih =>
    intro d v u hd h r hs hz
    cases h with
    | non => exact flat _ _ _ .non r hs hz fun _ z => nomatch z
    | bl b => exact flat _ _ _ (.bl b) r hs hz fun _ z => nomatch z
    | int i => exact flat _ _ _ (.int i) r hs hz fun _ z => nomatch z
    | str x => exact flat _ _ _ (.str x) r hs hz fun _ z => nomatch z
    | @lst a xs ds hq ha =>
      cases r
      simp only [PyData.depth] at hd
      simp only [PyData.showable] at hs
      have hz2 : (listText (PyData.shownAll ds)).length ≤ sizeLine := by simpa only [PyData.shown] using hz
      obtain ⟨its, rv, ⟨o, m, ho, hc, _, hdat⟩, _⟩ := I.list hq
      obtain ⟨as, bs, q1, q2, q3⟩ := shw_all ih ds _ _ ha rv (by omega) hs fun t ht => Nat.le_trans (listText_mem_le ht) hz2
      have rd : Reads s.heap (.ref a) (.list ds) _ := .list ho hc hdat q1
      have hna : a ∉ bs := not_mem_of_deeper rd (by simp only [PyData.depth]; omega) q2
      refine ⟨_, a :: bs, rd, ReadAtMost.cons rd (by simp only [PyData.depth]; omega) q2, ?_⟩
      simp only [PyData.depth, PyData.shown]
      cases its with
      | nil =>
        cases q1
        simp only [PyData.shownAll, listText_nil]
        exact ReprK.listEmpty ho hc hdat
      | cons x l => exact ReprK.list ho hc hdat hna (by simpa using q3.length_eq) fun i y e => q3.item i y (by simpa using e)
    | @tup a xs ds hq ha =>
      cases r
      simp only [PyData.depth] at hd
      simp only [PyData.showable] at hs
      have hz2 : (tupleText (PyData.shownAll ds)).length ≤ sizeLine := by simpa only [PyData.shown] using hz
      obtain ⟨its, rv, p, _⟩ := I.tuple hq
      obtain ⟨o, ho, hc, m, hdat⟩ := p
      obtain ⟨as, bs, q1, q2, q3⟩ := shw_all ih ds _ _ ha rv (by omega) hs fun t ht => Nat.le_trans (tupleText_mem_le ht) hz2
      have rd : Reads s.heap (.ref a) (.tuple ds) _ := .tuple ho hc hdat (by simpa using q1)
      have hna : a ∉ bs := not_mem_of_deeper rd (by simp only [PyData.depth]; omega) q2
      refine ⟨_, a :: bs, rd, ReadAtMost.cons rd (by simp only [PyData.depth]; omega) q2, ?_⟩
      simp only [PyData.depth, PyData.shown]
      exact ReprK.tuple ho hc hdat hna (by simpa using q3)
    | @dct a kvs ds hq ha =>
      cases r
      obtain ⟨_, hsys, vs, kv, o, es, ep, ho, hx, hdat, _, pr, _⟩ := dk_of I.hok hq
      have hc : o.cls = .type "dict" := hx.1
      have le := ha.len
      rw [List.length_map] at le
      have f1 := zip_fst (xs := kvs.map fun p => keyD p.1) (ys := ds) (by rw [List.length_map, le])
      have f2 := zip_snd (xs := kvs.map fun p => keyD p.1) (ys := ds) (by rw [List.length_map, le])
      have ek : (kvs.map fun p => keyD p.1) = vs.map fun p => keyD p.1 := by
        have z := congrArg (List.map keyD) kv.keys
        rw [List.map_map, List.map_map] at z
        exact z
      generalize hkv : (kvs.map fun p => keyD p.1).zip ds = kd at *
      simp only [PyData.depth] at hd
      simp only [PyData.showable] at hs
      have hz2 : (dictText (PyData.shownKv kd)).length ≤ sizeLine := by simpa only [PyData.shown] using hz
      obtain ⟨hs1, hs2⟩ := PyData.showableKv_split kd hs
      have d1 := PyData.depthAll_keys_le kd
      have d2 := PyData.depthAll_vals_le kd
      rw [f1] at hs1 d1
      rw [f2] at hs2 d2
      obtain ⟨as1, k1, k2⟩ := keys_read (X := X) (s := s) (n := PyData.depthKv kd) pr (by rw [← ek]; exact hs1) (fun t ht => by
        obtain ⟨p, hp, hl⟩ := PyData.shownKv_key_le kd t (by rw [f1, ek]; exact ht)
        exact Nat.le_trans hl (Nat.le_trans (dictText_mem_le hp) hz2))
      obtain ⟨as2, bs, q1, q2, q3⟩ := shw_all ih ds _ _ ha (vals_pairs kv pr) (by omega) hs2 fun t ht => by
        obtain ⟨p, hp, hl⟩ := PyData.shownKv_val_le kd t (by rw [f2]; exact ht)
        exact Nat.le_trans hl (Nat.le_trans (dictText_mem_le hp) hz2)
      have rd : Reads s.heap (.ref a) (.dict kd) _ := .dict ho hc hdat (by rw [f1, ek]; exact k1) (by rw [f2]; exact q1)
      have q2' := q2.mono d2
      have hna : a ∉ bs := not_mem_of_deeper rd (by simp only [PyData.depth]; omega) q2'
      refine ⟨_, a :: bs, rd, ReadAtMost.cons rd (by simp only [PyData.depth]; omega) q2', ?_⟩
      simp only [PyData.depth, PyData.shown, PyData.shownKv_eq]
      rw [f1, f2, ek]
      exact ReprK.dict ho hc hdat hsys hna (ReprEntriesK.of_two es.toList _ _ (k2.more_le (fun b hb => absurd hb List.not_mem_nil) (Nat.le_refl _)) (q3.more_le (fun _ h => h) d2))
/-- the text of such data behind an address -/
theorem shown_ref (I : Inv X pins σ H s) {a : Addr} {d : PyData} (h : Dx X.K H (.ref a) d) (hs : d.showable = true) (hz : d.shown.length ≤ sizeLine) : ∃ T idr, ShowsBy X.prog X.w s.heap a d T idr := by
  have ih := shw I d.depth
  cases h with
  | @lst _ xs ds hq ha =>
    simp only [PyData.showable] at hs
    have hz2 : (listText (PyData.shownAll ds)).length ≤ sizeLine := by simpa only [PyData.shown] using hz
    obtain ⟨its, rv, ⟨o, m, ho, hc, _, hdat⟩, _⟩ := I.list hq
    obtain ⟨as, bs, q1, q2, q3⟩ := shw_all ih ds _ _ ha rv (by simp only [PyData.depth]; omega) hs fun t ht => Nat.le_trans (listText_mem_le ht) hz2
    have rd : Reads s.heap (.ref a) (.list ds) _ := .list ho hc hdat q1
    have hna : a ∉ bs := not_mem_of_deeper rd (by simp only [PyData.depth]; omega) q2
    refine ⟨"list", "list.__repr__", F.slot_list_repr.toG, F.slot_list_str, F.slot_list_format, fun s' hk => ⟨o, hk _ _ ho, hc⟩, fun A E s' Q hg hu hk hQ => ?_⟩
    simp only [PyData.depth] at hu
    simp only [PyData.shown] at hQ
    cases its with
    | nil =>
      cases q1
      simp only [PyData.shownAll, listText_nil] at hQ
      exact call_list_repr_empty ⟨o, hk _ _ ho, hc⟩ (hk _ _ ho) hdat (hQ s'.heap _ _ fun _ _ e => e)
    | cons x l => exact call_list_reprK ho hc hdat hna (by simpa using q3.length_eq) (fun i y e => q3.item i y (by simpa using e)) hg (fun b _ => Clear.nil b) hu hk hQ hz2
  | @tup _ xs ds hq ha =>
    simp only [PyData.showable] at hs
    have hz2 : (tupleText (PyData.shownAll ds)).length ≤ sizeLine := by simpa only [PyData.shown] using hz
    obtain ⟨its, rv, p, _⟩ := I.tuple hq
    obtain ⟨o, ho, hc, m, hdat⟩ := p
    obtain ⟨as, bs, q1, q2, q3⟩ := shw_all ih ds _ _ ha rv (by simp only [PyData.depth]; omega) hs fun t ht => Nat.le_trans (tupleText_mem_le ht) hz2
    have rd : Reads s.heap (.ref a) (.tuple ds) _ := .tuple ho hc hdat (by simpa using q1)
    have hna : a ∉ bs := not_mem_of_deeper rd (by simp only [PyData.depth]; omega) q2
    refine ⟨"tuple", "tuple.__repr__", F.slot_tuple_repr, F.slot_tuple_str, F.slot_tuple_format, fun s' hk => ⟨o, hk _ _ ho, hc⟩, fun A E s' Q hg hu hk hQ => ?_⟩
    simp only [PyData.depth] at hu
    simp only [PyData.shown] at hQ
    exact call_tuple_reprK ho hc hdat hna (by simpa using q3) hg (fun b _ => Clear.nil b) hu hk hQ hz2
  | @dct _ kvs ds hq ha =>
    obtain ⟨_, hsys, vs, kv, o, es, ep, ho, hx, hdat, _, pr, _⟩ := dk_of I.hok hq
    have hc : o.cls = .type "dict" := hx.1
    have le := ha.len
    rw [List.length_map] at le
    have f1 := zip_fst (xs := kvs.map fun p => keyD p.1) (ys := ds) (by rw [List.length_map, le])
    have f2 := zip_snd (xs := kvs.map fun p => keyD p.1) (ys := ds) (by rw [List.length_map, le])
    have ek : (kvs.map fun p => keyD p.1) = vs.map fun p => keyD p.1 := by
      have z := congrArg (List.map keyD) kv.keys
      rw [List.map_map, List.map_map] at z
      exact z
    generalize hkv : (kvs.map fun p => keyD p.1).zip ds = kd at *
    simp only [PyData.showable] at hs
    have hz2 : (dictText (PyData.shownKv kd)).length ≤ sizeLine := by simpa only [PyData.shown] using hz
    obtain ⟨hs1, hs2⟩ := PyData.showableKv_split kd hs
    have d1 := PyData.depthAll_keys_le kd
    have d2 := PyData.depthAll_vals_le kd
    rw [f1] at hs1 d1
    rw [f2] at hs2 d2
    obtain ⟨as1, k1, k2⟩ := keys_read (X := X) (s := s) (n := PyData.depthKv kd) pr (by rw [← ek]; exact hs1) (fun t ht => by
      obtain ⟨p, hp, hl⟩ := PyData.shownKv_key_le kd t (by rw [f1, ek]; exact ht)
      exact Nat.le_trans hl (Nat.le_trans (dictText_mem_le hp) hz2))
    obtain ⟨as2, bs, q1, q2, q3⟩ := shw_all ih ds _ _ ha (vals_pairs kv pr) (by simp only [PyData.depth]; omega) hs2 fun t ht => by
      obtain ⟨p, hp, hl⟩ := PyData.shownKv_val_le kd t (by rw [f2]; exact ht)
      exact Nat.le_trans hl (Nat.le_trans (dictText_mem_le hp) hz2)
    have rd : Reads s.heap (.ref a) (.dict kd) _ := .dict ho hc hdat (by rw [f1, ek]; exact k1) (by rw [f2]; exact q1)
    have hna : a ∉ bs := not_mem_of_deeper rd (by simp only [PyData.depth]; omega) (q2.mono d2)
    refine ⟨"dict", "dict.__repr__", F.slot_dict_repr, F.slot_dict_str, F.slot_dict_format, fun s' hk => ⟨o, hk _ _ ho, hc⟩, fun A E s' Q hg hu hk hQ => ?_⟩
    simp only [PyData.depth] at hu
    simp only [PyData.shown, PyData.shownKv_eq] at hQ
    rw [f1, f2, ek] at hQ
    have hz3 := hz2
    rw [PyData.shownKv_eq, f1, f2, ek] at hz3
    exact call_dict_reprK ho hc hdat hsys hna (ReprEntriesK.of_two es.toList _ _ (k2.more_le (fun b hb => absurd hb List.not_mem_nil) (Nat.le_refl _)) (q3.more_le (fun _ h => h) d2)) hg (fun b _ => Clear.nil b) hu hk hQ hz3
/-- repr(x), x any such data -/
def rReprX (K : PySem.W.Frag) : List V → Hp → VK → Prop := fun xs H Q => ∃ v d, xs = [v] ∧ Dx K H v d ∧ d.showable = true ∧ d.depth ≤ 60 ∧ d.shown.length ≤ sizeLine ∧ Q (.str d.shown) H
theorem call_reprX (G : Fre X.A) (hu : X.A.units + 64 < cLine) : CallR X (.builtin "repr") (rReprX X.K) := by
  intro pins s σ H xs us Q I r h
  obtain ⟨v, d, rfl, hd, h2, h4, h5, q⟩ := h
  cases r with
  | cons r rt =>
    cases rt
    cases v with
    | ref a =>
      cases r
      obtain ⟨T, idr, S⟩ := shown_ref I hd h2 h5
      refine call_repr_slot (by omega) (S.typeIs s fun _ _ e => e) S.slotRepr (S.call X.A.in1 _ s _ G (by show X.A.units + 1 + d.depth < cLine; omega) (fun _ _ e => e) fun h' u tk hk => ⟨_, _, rfl, ⟨.str d.shown, H, I.kept hk, ⟨u, rfl⟩, q⟩⟩)
    | int i =>
      obtain ⟨t, rfl⟩ := r
      cases hd
      exact PySem.P.repr_of_int (by simpa [PyData.showable] using h2) ⟨.str (toString i), H, I.tok _, ⟨_, rfl⟩, by simpa only [PyData.shown] using q⟩
    | str x =>
      obtain ⟨t, rfl⟩ := r
      cases hd
      exact PySem.P.repr_of_str ⟨.str (reprText x), H, I.tok _, ⟨_, rfl⟩, by simpa only [PyData.shown] using q⟩ (by simpa only [PyData.shown] using h5)
    | non =>
      cases r
      cases hd
      exact PySem.P.repr_of_none ⟨.str "None", H, I.tok _, ⟨_, rfl⟩, by simpa only [PyData.shown] using q⟩
    | bl b =>
      cases r
      cases hd
      exact PySem.P.repr_of_bool ⟨.str (if b then "True" else "False"), H, I.tok _, ⟨_, rfl⟩, by simpa only [PyData.shown] using q⟩
    | _ => cases hd
end
end GL
/-! own errors that keep two values: kind, value -/
namespace PySem
end PySem
namespace GL
open PySem PySem.Spec PyProof.Rows L2
end GL
/-! a tuple of one member that has a text -/
namespace GL
open PySem PySem.Spec PyProof.Rows L2 Evl StX SkE
end GL
/-! own errors made as values, by place and by keywords -/
namespace PySem
end PySem
namespace GL
open PySem PySem.Spec PyProof.Rows L2 Evl StX SkE
/-- an error at a, its class at C, its dict at d (or none) -/
def exi (C : Addr) (d : Option Addr) (a : Addr) : HO := .ext fun h => ∃ (oe : Obj) (vs : Array Value), h.get? a = some oe ∧ oe.cls = .ref C ∧ oe.dict = d ∧ oe.data = .fields vs
/-- at a an error of the class at C that keeps fs -/
def ExAt (H : Hp) (a C : Addr) (fs : List (Str × V)) : Prop := (fs = [] ∧ H a = some (exi C none a)) ∨ ∃ d, H a = some (exi C (some d) a) ∧ H d = some (.xd fs)
theorem ExAt.ex {H H' : Hp} {a C : Addr} {fs : List (Str × V)} (h : ExAt H a C fs) (e : Ex H H') : ExAt H' a C fs := by
  rcases h with ⟨h1, h2⟩ | ⟨d, h1, h2⟩
  · exact .inl ⟨h1, e _ _ h2⟩
  · exact .inr ⟨d, e _ _ h1, e _ _ h2⟩
/-! such an error, read, asked -/
end GL
/-! tables of facts about own errors -/
namespace GL
open PySem PySem.Spec PyProof.Rows L2 Evl StX SkE
end GL
/-! what evaluates to data, also with dicts; its text -/
namespace My
open PySem PySem.Spec PyProof.Rows L2 GL Evl StX SkE
/-- short, also with dicts -/
structure SmX (d : PyData) (k B : Nat) : Prop where
  sh : d.showable = true
  de : d.depth ≤ k
  ln : d.shown.length ≤ B
theorem smX_list {ds : List PyData} {k B : Nat} (h : ∀ d ∈ ds, SmX d k B) : SmX (.list ds) (k + 1) (ds.length * (B + 2) + 2) := by
  refine ⟨?_, ?_, ?_⟩
  · simp only [PyData.showable]
    exact showableAll_of fun d hd => (h d hd).sh
  · simp only [PyData.depth]
    have := depthAll_of (ds := ds) (k := k) fun d hd => (h d hd).de
    omega
  · simp only [PyData.shown]
    have := list_text_len (B := B) (ts := PyData.shownAll ds) fun t ht => by
      obtain ⟨d, hd, rfl⟩ := shownAll_mem ht
      exact (h d hd).ln
    rw [shownAll_len] at this
    exact this
theorem SmX.mono {d : PyData} {k B k' B' : Nat} (h : SmX d k B) (hk : k ≤ k') (hB : B ≤ B') : SmX d k' B' := ⟨h.sh, Nat.le_trans h.de hk, Nat.le_trans h.ln hB⟩
def smXb (d : PyData) (k B : Nat) : Bool := d.showable && decide (d.depth ≤ k) && decide (d.shown.length ≤ B)
theorem smX_b {d : PyData} {k B : Nat} (h : smXb d k B = true) : SmX d k B := by
  unfold smXb at h
  simp only [Bool.and_eq_true, decide_eq_true_eq] at h
  exact ⟨h.1.1, h.1.2, h.2⟩
section
variable {K : PySem.W.Frag} {σ : L2.St} {H H' : Hp} {te ta tb : TE} {tA : TA} {t : TT} {D : Ends} {tz : TS} {xs ys zs : List V} {v x : V} {d : PyData} {ds : List PyData} {l : Addr} {Q : VK}
theorem el_cat (ha : EvL ta σ H xs) (hb : ∀ H1, Ex H H1 → EvL tb σ H1 zs) (hl : xs.length + zs.length ≤ 100000) : EvL (tOp rCat ta tb) σ H (xs ++ zs) := fun H1 e Q q =>
  ha H1 e _ fun p H2 hp e2 h2 => hb H2 (e.trans e2) H2 (Ex.refl H2) _ fun r H3 hr e3 h3 => ⟨p, r, xs, zs, rfl, rfl, e3 _ _ h2, h3, sz_of hl, fun l hl2 => q l _ (fresh_back (e2.trans e3) hl2) ((e2.trans e3).trans (Ex.new hl2)) upd_same⟩
/-- evaluates to data -/
def EvX (K : PySem.W.Frag) (te : TE) (σ : L2.St) (H : Hp) (d : PyData) : Prop := ∀ H1, Ex H H1 → ∀ Q : VK, (∀ v H2, Ex H1 H2 → Dx K H2 v d → Q v H2) → te σ H1 Q
theorem EvX.mono (e : Ex H H') (h : EvX K te σ H d) : EvX K te σ H' d := fun H1 a Q q => h H1 (e.trans a) Q q
end
end My
namespace PySem
end PySem
namespace GL
open PySem PySem.Spec PyProof.Rows L2
end GL
namespace L2
open PySem PySem.Spec PyProof.Rows
section
variable {X : Cx} {o e : Expr} {to te : TE}
def rSW : V → List V → Hp → VK → Prop := fun x xs H Q => ∃ a b, x = .str a ∧ xs = [.str b] ∧ Q (.bl (Txt.startswith a b)) H
theorem pe_startswith {apos pos : Pos} (ho : PE X o to) (he : PE X e te) (hs : starEach [e] X.env = [(false, eval e X.env)] := by rfl) (hbase : attributeBase o "startswith" X.env (eval o X.env) = eval o X.env := by rfl) (hline : (apos.endLine == pos.line) = true := by rfl) :
    PE X (.Call (.Attribute o "startswith" apos) [e] [] pos) (tM1 rSW to te) :=
  pe_m1 F.slot_str_startswith F.type_str_startswith mt_startswith ho he hs hbase hline
/-- str of a number or of a text -/
def rStrIS : List V → Hp → VK → Prop := fun xs H Q => (∃ i, xs = [.int i] ∧ i.natAbs.log2 < 1920 ∧ Q (.str (toString i)) H) ∨ (∃ a, xs = [.str a] ∧ Q (.str a) H)
theorem call_strIS : CallR X (.type "str") rStrIS := fun pins s σ H xs us Q I r q => by
  rcases q with q | q
  · exact call_str_int pins s σ H xs us Q I r q
  · exact SkE.call_str_str pins s σ H xs us Q I r q
end
end L2
/-! whole numbers in decimal, of any sign: which words tell one, which it is, its own text -/
namespace My
open PySem PySem.Spec PyProof.Rows L2 GL
def dgB (l : List Nat) : Bool := l.all fun c => decide (48 ≤ c) && decide (c ≤ 57)
def bodyL : List Nat → List Nat
  | 45 :: r => r
  | l => l
def isNumL (l : List Nat) : Bool := !(bodyL l).isEmpty && dgB (bodyL l) && (decide (l = [48]) || !decide ((bodyL l).head? = some 48))
def valL : List Nat → Int
  | 45 :: r => -((NumText.digitsVal r : Nat) : Int)
  | l => ((NumText.digitsVal l : Nat) : Int)
theorem dg_of {l : List Nat} (h : dgB l = true) : NumText.AllDigits l := fun c hc => by
  have := List.all_eq_true.mp h c hc
  rw [Bool.and_eq_true] at this
  exact ⟨of_decide_eq_true this.1, of_decide_eq_true this.2⟩
theorem of_dg {l : List Nat} (h : NumText.AllDigits l) : dgB l = true := List.all_eq_true.mpr fun c hc => by
  have := h c hc
  rw [Bool.and_eq_true]
  exact ⟨decide_eq_true this.1, decide_eq_true this.2⟩
/-- what int(..) makes of a word that tells a number -/
theorem num_int {x : Str} (h : isNumL x.cps.toList = true) (hl : x.length ≤ 4300) : intText? x = some (valL x.cps.toList) := by
  unfold isNumL at h
  rw [Bool.and_eq_true, Bool.and_eq_true] at h
  obtain ⟨⟨h1, h2⟩, _⟩ := h
  have d := dg_of h2
  have ne : bodyL x.cps.toList ≠ [] := fun e => by
    rw [e] at h1
    cases h1
  cases e : x.cps.toList with
  | nil =>
    rw [e] at ne
    exact absurd rfl ne
  | cons c r =>
    by_cases hc : c = 45
    · subst hc
      rw [e] at d ne
      exact intText_neg e d ne hl
    · have eb : bodyL (c :: r) = c :: r := by
        unfold bodyL
        split
        · rename_i r' h'
          exact absurd (List.cons.inj h').1 hc
        · rfl
      have ev : valL (c :: r) = ((NumText.digitsVal (c :: r) : Nat) : Int) := by
        unfold valL
        split
        · rename_i r' h'
          exact absurd (List.cons.inj h').1 hc
        · rfl
      rw [e, eb] at d
      rw [ev, ← e]
      exact intText_digits (by rw [e]; exact d) (by rw [e]; simp) hl
theorem numL_head : ∀ n : Nat, n ≠ 0 → ¬ (TL.numL n).head? = some 48 := by
  intro n
  induction n using Nat.strongRecOn with
  | ind n ih =>
    intro h0
    by_cases h : n < 10
    · rw [TL.numL_lt h]
      intro e
      have := Option.some.inj e
      omega
    · rw [TL.numL_step (by omega)]
      have z := ih (n / 10) (by omega) (by omega)
      have ne := TL.numL_ne (n / 10)
      cases e : TL.numL (n / 10) with
      | nil => exact absurd e ne
      | cons c r =>
        rw [e] at z
        exact z
def numZ (i : Int) : Str := Str.ofString (toString i)
theorem tl_numZ (n : Nat) : TL.tl (numZ (n : Int)) = TL.numL n := TL.tl_num n
theorem tl_numZn (n : Nat) : TL.tl (numZ (Int.negSucc n)) = 45 :: TL.numL (n + 1) := by
  unfold numZ
  rw [TL.tl_ofString]
  show List.map Char.toNat ("-" ++ Nat.repr (n + 1)).toList = _
  rw [String.toList_append, List.map_append]
  have := TL.tl_num (n + 1)
  rw [TL.tl_ofString] at this
  show _ ++ List.map Char.toNat (Nat.repr (n + 1)).toList = _
  rw [show (toString (((n + 1 : Nat)) : Int) : String) = Nat.repr (n + 1) from rfl] at this
  rw [this]
  rfl
theorem numL_c45 {n : Nat} : ∀ c ∈ TL.numL n, c ≠ 45 := fun c hc e => by
  have := TL.numL_digits n c hc
  omega
theorem numL_cases {l : List Nat} (h : ∀ c ∈ l, c ≠ 45) : bodyL l = l ∧ valL l = ((NumText.digitsVal l : Nat) : Int) := by
  cases l with
  | nil => exact ⟨rfl, rfl⟩
  | cons c r =>
    have hc := h c List.mem_cons_self
    constructor
    · unfold bodyL
      split
      · rename_i r' h'
        exact absurd (List.cons.inj h').1 hc
      · rfl
    · unfold valL
      split
      · rename_i r' h'
        exact absurd (List.cons.inj h').1 hc
      · rfl
theorem numZ_is (i : Int) : isNumL (TL.tl (numZ i)) = true := by
  have ne : ∀ n, (TL.numL n).isEmpty = false := fun n => by
    cases e : TL.numL n with
    | nil => exact absurd e (TL.numL_ne n)
    | cons => rfl
  cases i with
  | ofNat n =>
    rw [show TL.tl (numZ (Int.ofNat n)) = TL.numL n from tl_numZ n]
    unfold isNumL
    rw [(numL_cases numL_c45).1, ne, of_dg (TL.numL_digits n)]
    by_cases h : n = 0
    · subst h
      rfl
    · rw [decide_eq_false (numL_head n h), Bool.not_false, Bool.or_true]
      rfl
  | negSucc n =>
    rw [tl_numZn]
    unfold isNumL
    show (!(TL.numL (n + 1)).isEmpty && dgB (TL.numL (n + 1)) && (decide (45 :: TL.numL (n + 1) = [48]) || !decide ((TL.numL (n + 1)).head? = some 48))) = true
    rw [ne, of_dg (TL.numL_digits _), decide_eq_false (numL_head (n + 1) (by omega)), Bool.not_false, Bool.or_true]
    rfl
theorem numZ_val (i : Int) : valL (TL.tl (numZ i)) = i := by
  cases i with
  | ofNat n =>
    rw [show TL.tl (numZ (Int.ofNat n)) = TL.numL n from tl_numZ n, (numL_cases numL_c45).2, TL.numL_val]
    rfl
  | negSucc n =>
    rw [tl_numZn]
    show -((NumText.digitsVal (TL.numL (n + 1)) : Nat) : Int) = _
    rw [TL.numL_val]
    rfl
theorem numZ_free (i : Int) {s : Nat} (h : s < 45 ∨ 57 < s) : s ∉ TL.tl (numZ i) := fun hm => by
  cases i with
  | ofNat n =>
    rw [show TL.tl (numZ (Int.ofNat n)) = TL.numL n from tl_numZ n] at hm
    have := TL.numL_digits n s hm
    omega
  | negSucc n =>
    rw [tl_numZn] at hm
    rcases List.mem_cons.mp hm with e | hm
    · omega
    · have := TL.numL_digits _ s hm
      omega
end My
/-! lines of deeds: as the program reads them, as the law reads them (k92) -/
namespace My
open PySem PySem.Spec PyProof.Rows L2 GL
abbrev Dd := Str × List (Option Int)
def sizes : List (Str × Nat) := [("group", 1), ("limit", 2), ("strike", 1), ("take", 2), ("give", 2), ("move", 3), ("lift", 2), ("settle", 2), ("step", 1)]
def sizeD (w : Str) : Option Nat := sizes.lookup w
def intD (w : Str) : Option Int := if isNumL (TL.tl w) = true then some (valL (TL.tl w)) else none
/-- a word behind the first: none, a number, or neither -/
def partD (w : Str) : Option (Option Int) := if w = "none" then some none else (intD w).map some
def isDd (d : Dd) : Bool := match sizeD d.1 with
  | some n => decide (d.2.length = n) && (if d.1 = "limit" ∧ d.2[1]? = some none then (match d.2 with | some _ :: _ => true | _ => false) else d.2.all Option.isSome)
  | none => false
/-- by the program -/
def fromL : List Str → Option Dd
  | [] => none
  | w :: ns => (ns.mapM partD).bind fun ps => if isDd (w, ps) = true then some (w, ps) else none
/-- by the law -/
def readL : List Str → Option Dd
  | [] => none
  | w :: ns => match sizeD w with
    | none => none
    | some n => if ns.length ≠ n then none else
      if w = "limit" ∧ ns[1]? = some ("none" : Str) then (match ns with | x :: _ => (intD x).map fun i => (w, [some i, none]) | [] => none)
      else if (ns.map intD).all Option.isSome = true then some (w, ns.map intD) else none
theorem intD_none : intD "none" = none := by decide +kernel
theorem mapM_len : ∀ {ns : List Str} {ps : List (Option Int)}, ns.mapM partD = some ps → ps.length = ns.length
  | [], ps, h => by
    cases h
    rfl
  | x :: ns, ps, h => by
    rw [List.mapM_cons] at h
    cases e : partD x with
    | none => rw [e] at h; cases h
    | some p =>
      rw [e] at h
      cases e2 : ns.mapM partD with
      | none => rw [e2] at h; cases h
      | some qs =>
        rw [e2] at h
        cases h
        rw [List.length_cons, List.length_cons, mapM_len e2]
theorem all_some : ∀ {ns : List Str}, (ns.map intD).all Option.isSome = true → ns.mapM partD = some (ns.map intD)
  | [], _ => rfl
  | x :: ns, h => by
    rw [List.map_cons, List.all_cons, Bool.and_eq_true] at h
    obtain ⟨h1, h2⟩ := h
    rw [List.mapM_cons]
    have hx : partD x = some (intD x) := by
      unfold partD
      by_cases e : x = "none"
      · rw [e, intD_none] at h1
        cases h1
      · rw [if_neg e]
        cases z : intD x with
        | none => rw [z] at h1; cases h1
        | some i => rfl
    rw [hx, all_some h2]
    rfl
theorem all_back : ∀ {ns : List Str} {ps : List (Option Int)}, ns.mapM partD = some ps → ps.all Option.isSome = true → ps = ns.map intD
  | [], ps, h, _ => by
    cases h
    rfl
  | x :: ns, ps, h, ha => by
    rw [List.mapM_cons] at h
    cases e : partD x with
    | none => rw [e] at h; cases h
    | some p =>
      rw [e] at h
      cases e2 : ns.mapM partD with
      | none => rw [e2] at h; cases h
      | some qs =>
        rw [e2] at h
        cases h
        rw [List.all_cons, Bool.and_eq_true] at ha
        rw [List.map_cons, ← all_back e2 ha.2]
        congr 1
        unfold partD at e
        by_cases n : x = "none"
        · rw [if_pos n] at e
          cases e
          cases ha.1
        · rw [if_neg n] at e
          cases z : intD x with
          | none => rw [z] at e; cases e
          | some i => rw [z] at e; cases e; rfl
theorem read_eq (ws : List Str) : fromL ws = readL ws := by
  cases ws with
  | nil => rfl
  | cons w ns =>
    unfold fromL readL
    dsimp only
    cases hs : sizeD w with
    | none =>
      dsimp only
      cases e : ns.mapM partD with
      | none => rfl
      | some ps =>
        have : isDd (w, ps) = false := by
          unfold isDd
          dsimp only
          rw [hs]
        show (if isDd (w, ps) = true then some (w, ps) else none) = none
        rw [this]
        rfl
    | some n =>
      dsimp only
      by_cases hl : ns.length = n
      · rw [if_neg (fun z : ns.length ≠ n => z hl)]
        by_cases hm : w = "limit" ∧ ns[1]? = some ("none" : Str)
        · rw [if_pos hm]
          obtain ⟨rfl, h1⟩ := hm
          have e2 : n = 2 := by
            have : sizeD "limit" = some 2 := by decide +kernel
            rw [this] at hs
            exact (Option.some.inj hs).symm
          subst e2
          match ns, hl, h1 with
          | [x, y], _, h1 =>
            have ey : y = "none" := Option.some.inj h1
            subst ey
            have pn : partD "none" = some none := by decide +kernel
            have goal : ∀ o : Option (Option Int), partD x = o → (([x, ("none" : Str)].mapM partD).bind fun ps => if isDd (("limit" : Str), ps) = true then some (("limit" : Str), ps) else none) = (intD x).map fun i => (("limit" : Str), [some i, none]) := fun o ho => by
              rw [List.mapM_cons, List.mapM_cons, List.mapM_nil, pn, ho]
              unfold partD at ho
              by_cases ex : x = "none"
              · rw [if_pos ex] at ho
                subst ho
                rw [ex, intD_none]
                have : isDd (("limit" : Str), [none, none]) = false := by decide +kernel
                show (if isDd (("limit" : Str), [none, none]) = true then some (("limit" : Str), [none, none]) else none) = none
                rw [this]
                rfl
              · rw [if_neg ex] at ho
                subst ho
                cases z : intD x with
                | none => rfl
                | some i =>
                  have : isDd (("limit" : Str), [some i, none]) = true := by
                    unfold isDd
                    have : sizeD "limit" = some 2 := by decide +kernel
                    dsimp only
                    rw [this]
                    rfl
                  show (if isDd (("limit" : Str), [some i, none]) = true then some (("limit" : Str), [some i, none]) else none) = _
                  rw [if_pos this]
                  rfl
            exact goal _ rfl
        · rw [if_neg hm]
          by_cases ha : (ns.map intD).all Option.isSome = true
          · rw [if_pos ha, all_some ha]
            have : isDd (w, ns.map intD) = true := by
              unfold isDd
              dsimp only
              rw [hs]
              dsimp only
              rw [decide_eq_true (by rw [List.length_map]; exact hl), Bool.true_and]
              have h2 : ¬ (w = "limit" ∧ (ns.map intD)[1]? = some none) := fun z => by
                have := List.all_eq_true.mp ha none (List.mem_of_getElem? z.2)
                cases this
              rw [if_neg h2]
              exact ha
            show (if isDd (w, ns.map intD) = true then some (w, ns.map intD) else none) = _
            rw [if_pos this]
          · rw [if_neg ha]
            cases e : ns.mapM partD with
            | none => rfl
            | some ps =>
              have : isDd (w, ps) = false := by
                rw [Bool.eq_false_iff]
                intro hd
                unfold isDd at hd
                dsimp only at hd
                rw [hs] at hd
                dsimp only at hd
                rw [Bool.and_eq_true] at hd
                by_cases h2 : w = "limit" ∧ ps[1]? = some none
                · have l2 := mapM_len e
                  obtain ⟨rfl, h2⟩ := h2
                  have e2 : n = 2 := by
                    have : sizeD "limit" = some 2 := by decide +kernel
                    rw [this] at hs
                    exact (Option.some.inj hs).symm
                  subst e2
                  refine hm ⟨rfl, ?_⟩
                  match ns, hl with
                  | [x, y], _ =>
                    rw [List.mapM_cons, List.mapM_cons] at e
                    cases ex : partD x with
                    | none => rw [ex] at e; cases e
                    | some p =>
                      cases ey : partD y with
                      | none => rw [ex, ey] at e; cases e
                      | some q =>
                        rw [ex, ey] at e
                        cases e
                        have eq : q = none := Option.some.inj h2
                        subst eq
                        unfold partD at ey
                        by_cases n : y = "none"
                        · rw [n]
                          rfl
                        · rw [if_neg n] at ey
                          cases z : intD y with
                          | none => rw [z] at ey; cases ey
                          | some i => rw [z] at ey; cases ey
                · rw [if_neg h2] at hd
                  exact ha ((all_back e hd.2) ▸ hd.2)
              show (if isDd (w, ps) = true then some (w, ps) else none) = none
              rw [this]
              rfl
      · rw [if_pos hl]
        cases e : ns.mapM partD with
        | none => rfl
        | some ps =>
          have : isDd (w, ps) = false := by
            unfold isDd
            dsimp only
            rw [hs]
            dsimp only
            rw [decide_eq_false (by rw [mapM_len e]; exact hl), Bool.false_and]
          show (if isDd (w, ps) = true then some (w, ps) else none) = none
          rw [this]
          rfl
end My
/-! x, *y = a list or a tuple; a written dict of numbers -/
namespace SU
open PySem PySem.Spec PySem.Calls PyProof.Rows PySem.W
section
variable {prog : Program} {w : World} {A : Around} {E : Value → Shared → Prop} {s : Shared} {env : Env}
theorem starL {l : Addr} {items : Array Value} {x : Value} {r : List Value} {Q : List Value → Shared → Prop} (hl : s.heap.IsList l items) (hh : A.handled = none) (hi : items.toList = x :: r) (hz : items.size ≤ 16384)
    (h : ∀ (h2 : Heap) tk, (∀ b o, s.heap.get? b = some o → h2.get? b = some o) → Q [x, .ref h2.objs.size] { s with heap := h2.push { cls := .type "list", data := .seq r.toArray }, toks := tk }) : wpAny (model prog w) A (unpackItems (.ref l) 2 (some 1)) Q E s := by
  have hlt : l ≠ s.heap.objs.size := by obtain ⟨o, ho, _⟩ := hl; exact Nat.ne_of_lt (Heap.lt_size ho)
  have hll : l < s.heap.objs.size := by obtain ⟨o, ho, _⟩ := hl; exact Heap.lt_size ho
  have hsz : items.size = r.length + 1 := by rw [← Array.length_toList, hi, List.length_cons]
  unfold unpackItems
  refine wpAny_bind ?_
  unfold notIterableAtAll
  refine wpAny_bind (wpAny_specialOf hl.typeIs slot_list_iter.lookup ?_)
  refine wpAny_pure ?_
  simp only [Bool.false_eq_true, if_false]
  refine wpAny_bind (wpAny_holding (wpAny_pyIter_list hl ?_))
  refine wpAny_bind (wpAny_holding (kun_draw hlt 1 0 _ _ ⟨_, Heap.get?_push_size _ rfl, rfl, rfl⟩ (hl.push _) (by omega) fun h₁ hit₁ hs₁ => ?_))
  have hl₁ : h₁.IsList l items := (hl.push _).extBut hs₁.extBut hlt
  rw [Nat.zero_add] at hit₁
  have hit₁' := hit₁
  obtain ⟨oi, hoi, _⟩ := hit₁'
  have hl₁' := hl₁
  obtain ⟨ol, hol, _⟩ := hl₁'
  rw [List.drop_zero, hi]
  show wpAny _ _ (if (1 : Nat) < 1 then _ else _) _ _ _
  rw [if_neg (by omega)]
  refine wpAny_bind (wpAny_holding (kun_collect (s := { s with heap := h₁ }) (T := "list_iterator") (.inr (.inr (.inl rfl))) (Walks.list (A := A.in1) hh s.heap.objs.size l hlt items) (fun j u st => st.1.typeIs) (k := 1) (by omega) ⟨hit₁, hl₁⟩ (Heap.lt_size hoi) (Heap.lt_size hol) (fun h₂ tk hk => ?_) (by rw [sizeLine_eq]; omega)))
  rw [hi]
  show wpAny _ _ (if r.length < 2 - 1 - 1 then _ else _) _ _ _
  rw [if_neg (by omega)]
  show wpAny _ _ (newList (r.take (r.length - (2 - 1 - 1))) >>= fun d => pure ([x] ++ [d] ++ r.drop (r.length - (2 - 1 - 1)))) _ _ _
  have e1 : r.take (r.length - (2 - 1 - 1)) = r := List.take_of_length_le (by omega)
  have e2 : r.drop (r.length - (2 - 1 - 1)) = [] := List.drop_of_length_le (by omega)
  rw [e1, e2]
  have he : ∀ b o, s.heap.get? b = some o → h₂.get? b = some o := fun b o e => hk b o (Nat.ne_of_lt (Heap.lt_size e)) (hs₁.extBut b o (Nat.ne_of_lt (Heap.lt_size e)) (Heap.get?_push_of_some _ e))
  exact wpAny_bind (wpAny_newList (wpAny_pure (h h₂ tk he)) (by rw [sizeLine_eq]; omega))
theorem starT {l : Addr} {items : Array Value} {x : Value} {r : List Value} {Q : List Value → Shared → Prop} (hl : IsTup s.heap l items) (hh : A.handled = none) (hi : items.toList = x :: r) (hz : items.size ≤ 16384)
    (h : ∀ (h2 : Heap) tk, (∀ b o, s.heap.get? b = some o → h2.get? b = some o) → Q [x, .ref h2.objs.size] { s with heap := h2.push { cls := .type "list", data := .seq r.toArray }, toks := tk }) : wpAny (model prog w) A (unpackItems (.ref l) 2 (some 1)) Q E s := by
  have hlt : l ≠ s.heap.objs.size := by obtain ⟨o, ho, _⟩ := hl; exact Nat.ne_of_lt (Heap.lt_size ho)
  have hll : l < s.heap.objs.size := by obtain ⟨o, ho, _⟩ := hl; exact Heap.lt_size ho
  have hsz : items.size = r.length + 1 := by rw [← Array.length_toList, hi, List.length_cons]
  unfold unpackItems
  refine wpAny_bind ?_
  unfold notIterableAtAll
  refine wpAny_bind (wpAny_specialOf hl.typeIs slot_tuple_iter.lookup ?_)
  refine wpAny_pure ?_
  simp only [Bool.false_eq_true, if_false]
  refine wpAny_bind (wpAny_holding (iter_tuple hl ?_))
  refine wpAny_bind (wpAny_holding (draw_tuple hlt 1 0 _ _ ⟨_, Heap.get?_push_size _ rfl, rfl, rfl⟩ (hl.push _) (by omega) fun h₁ hit₁ hs₁ => ?_))
  have hl₁ : IsTup h₁ l items := (hl.push _).extBut hs₁.extBut hlt
  rw [Nat.zero_add] at hit₁
  have hit₁' := hit₁
  obtain ⟨oi, hoi, _⟩ := hit₁'
  have hl₁' := hl₁
  obtain ⟨ol, hol, _⟩ := hl₁'
  rw [List.drop_zero, hi]
  show wpAny _ _ (if (1 : Nat) < 1 then _ else _) _ _ _
  rw [if_neg (by omega)]
  refine wpAny_bind (wpAny_holding (kun_collect (s := { s with heap := h₁ }) (T := "tuple_iterator") (.inr (.inr (.inr rfl))) (Walks.tuple (A := A.in1) hh s.heap.objs.size l hlt items) (fun j u st => st.1.typeIs) (k := 1) (by omega) ⟨hit₁, hl₁⟩ (Heap.lt_size hoi) (Heap.lt_size hol) (fun h₂ tk hk => ?_) (by rw [sizeLine_eq]; omega)))
  rw [hi]
  show wpAny _ _ (if r.length < 2 - 1 - 1 then _ else _) _ _ _
  rw [if_neg (by omega)]
  show wpAny _ _ (newList (r.take (r.length - (2 - 1 - 1))) >>= fun d => pure ([x] ++ [d] ++ r.drop (r.length - (2 - 1 - 1)))) _ _ _
  have e1 : r.take (r.length - (2 - 1 - 1)) = r := List.take_of_length_le (by omega)
  have e2 : r.drop (r.length - (2 - 1 - 1)) = [] := List.drop_of_length_le (by omega)
  rw [e1, e2]
  have he : ∀ b o, s.heap.get? b = some o → h₂.get? b = some o := fun b o e => hk b o (Nat.ne_of_lt (Heap.lt_size e)) (hs₁.extBut b o (Nat.ne_of_lt (Heap.lt_size e)) (Heap.get?_push_of_some _ e))
  exact wpAny_bind (wpAny_newList (wpAny_pure (h h₂ tk he)) (by rw [sizeLine_eq]; omega))
end
end SU
namespace GL
open PySem PySem.Spec PyProof.Rows L2
/-- a, *b = a list or a tuple of at least one -/
def gStar (K : PySem.W.Frag) (t u : TG) : TG := fun v σ H Q => ∃ a x xs, v = .ref a ∧ (SqL K H a (x :: xs) ∨ SqT K H a (x :: xs)) ∧ xs.length ≤ 10000 ∧ ∀ D, H D = none → t x σ (upd H D (.lst xs)) fun σ' H' => u (.ref D) σ' H' Q
theorem pg_star {X : Cx} {e1 e2 : Expr} {t u : TG} {k : Nat} {p pos : Pos} (hc : X.calm = true) (h1 : PG X e1 t) (h2 : PG X e2 u)
    (hl : (assignEach [e1, .Starred e2 p] X.env).length = 2 := by rfl) (hst : (assignEach [e1, .Starred e2 p] X.env).findIdx? (·.1) = some 1 := by rfl)
    (hm : (assignEach [e1, .Starred e2 p] X.env).map (·.2) = [assign e1 X.env, assign e2 X.env] := by rfl) : PG X (.Tuple [e1, .Starred e2 p] k pos) (gStar X.K t u) := by
  refine ⟨fun pins s σ H v uu Q I r hw => ?_⟩
  obtain ⟨a, x, xs, rfl, hq, hz, hw⟩ := hw
  cases r
  rw [assign_Tuple]
  refine wpAny_bind (wpAny_standAt ?_)
  unfold unpack
  rw [hl, hst, hm]
  have go : ∀ (vx : Value) (r : List Value), RelV x vx → Vals xs r → ∀ (h2' : Heap) tk, (∀ b o, s.heap.get? b = some o → h2'.get? b = some o) →
      wpAny (model X.prog X.w) X.A (assignInOrder [assign e1 X.env, assign e2 X.env] [vx, .ref h2'.objs.size]) (fun _ s1 => ∃ σ' H', Inv X pins σ' H' s1 ∧ Q σ' H') X.xe { s with heap := h2'.push { cls := .type "list", data := .seq r.toArray }, toks := tk } := fun vx r rx rr h2' tk hk => by
    have I0 : Inv X pins σ H { s with heap := h2', toks := tk } := I.kept hk
    have hf : H h2'.objs.size = none := I0.hok.fresh (Nat.le_refl _)
    have I1 : Inv X pins σ (upd H h2'.objs.size (.lst xs)) { s with heap := h2'.push { cls := .type "list", data := .seq r.toArray }, toks := tk } := I0.laid (t' := tk) (fun b o e => Heap.get?_push_of_some _ e) (Nat.le_refl _) ⟨by rw [sizeLine_eq]; omega, r, 0, rr, Heap.get?_push_size _ rfl⟩
    refine assignInOrder_cons (thn (h1.run pins _ σ _ _ _ _ I1 rx (hw _ hf)) fun _ s1 ⟨σ1, H1, I2, q1⟩ => ?_)
    refine assignInOrder_cons (thn (h2.run pins s1 σ1 H1 (.ref h2'.objs.size) _ Q I2 (show RelV (.ref h2'.objs.size) (Value.ref h2'.objs.size) from rfl) q1) fun _ s2 q => ?_)
    exact assignInOrder_nil q
  rcases hq with hq | hq
  · obtain ⟨its, rv, ht, _⟩ := I.list hq
    cases rv with
    | cons rx rr => exact wpAny_bind (wpAny_holding (SU.starL ht.isList (I.ok.hd hc) rfl (by rw [List.size_toArray, List.length_cons, ← rr.length]; omega) fun h2' tk hk => go _ _ rx rr h2' tk hk))
  · obtain ⟨its, rv, ht, _⟩ := I.tuple hq
    cases rv with
    | cons rx rr => exact wpAny_bind (wpAny_holding (SU.starT ht (I.ok.hd hc) rfl (by rw [List.size_toArray, List.length_cons, ← rr.length]; omega) fun h2' tk hk => go _ _ rx rr h2' tk hk))
/-! ### a written dict: texts to numbers -/
def dkB (K : PySem.W.Frag) (a : Addr) (l : List (Str × Int)) : Bool := match K.lookup a with
  | some ⟨_, _, .dict es _, _⟩ => decide (es.toList.map (fun e => match e.key, e.val with
      | .str x _, .int i _ => some (x, i)
      | _, _ => none) = l.map some) && !(a == sysModules)
  | _ => false
theorem dk_get {l : List (Str × Int)} : ∀ {es : List DictEntry}, es.map (fun e => match e.key, e.val with
      | .str x _, .int i _ => some (x, i)
      | _, _ => none) = l.map some → ∀ z : Str, (∀ i, l.lookup z = some i → ∃ e t, es.find? (·.key.isStr z) = some e ∧ e.val = .int i t) ∧ (l.lookup z = none → es.find? (·.key.isStr z) = none ∧ es.any (·.refKey) = false) := by
  induction l with
  | nil =>
    intro es h z
    cases es with
    | nil => exact ⟨fun i h => by (cases h), fun _ => ⟨rfl, rfl⟩⟩
    | cons => cases h
  | cons p l ih =>
    intro es h z
    cases es with
    | nil => cases h
    | cons e es =>
      rw [List.map_cons, List.map_cons, List.cons.injEq] at h
      obtain ⟨h1, h2⟩ := h
      obtain ⟨i1, i2⟩ := ih h2 z
      obtain ⟨x, i⟩ := p
      split at h1
      · rename_i x' t i' t' k1 k2
        cases h1
        have ke : e.key.isStr z = (z == x) := by
          rw [k1]
          show (x == z) = _
          by_cases q : x = z
          · rw [q]
          · rw [beq_eq_false_iff_ne.mpr q, beq_eq_false_iff_ne.mpr (Ne.symm q)]
        by_cases q : z = x
        · subst q
          refine ⟨fun j hj => ?_, fun hj => ?_⟩
          · rw [List.lookup_cons, beq_self_eq_true] at hj
            cases hj
            exact ⟨e, t', by rw [List.find?_cons, ke, beq_self_eq_true], k2⟩
          · rw [List.lookup_cons, beq_self_eq_true] at hj
            cases hj
        · have q' : (z == x) = false := beq_eq_false_iff_ne.mpr q
          refine ⟨fun j hj => ?_, fun hj => ?_⟩
          · rw [List.lookup_cons, q'] at hj
            obtain ⟨e', t', a1, a2⟩ := i1 j hj
            exact ⟨e', t', by rw [List.find?_cons, ke, q']; exact a1, a2⟩
          · rw [List.lookup_cons, q'] at hj
            obtain ⟨a1, a2⟩ := i2 hj
            refine ⟨by rw [List.find?_cons, ke, q']; exact a1, ?_⟩
            rw [List.any_cons, a2, Bool.or_false]
            unfold DictEntry.refKey
            rw [k1]
      · cases h1
/-- what such a dict tells -/
structure KNum (K : PySem.W.Frag) (w : World) (a : Addr) (l : List (Str × Int)) : Prop where
  d : ∃ es n, KDict K w a es n
  get : ∀ z i, l.lookup z = some i → ∃ t, PySem.W.nsIn K a z = some (some (.int i t))
  no : ∀ z, l.lookup z = none → PySem.W.nsIn K a z = some none
theorem kNum_of {K : PySem.W.Frag} {w : World} {a : Addr} {es : Array DictEntry} {n : Nat} {l : List (Str × Int)} (h1 : K.lookup a = some ⟨.type "dict", none, .dict es n, #[]⟩) (h2 : PySem.W.KeysLit w.params es.toList) (h3 : dkB K a l = true) : KNum K w a l := by
  unfold dkB at h3
  rw [h1] at h3
  simp only [Bool.and_eq_true, decide_eq_true_eq, Bool.not_eq_true'] at h3
  obtain ⟨h3, h4⟩ := h3
  refine ⟨⟨es, n, h1, h2, h4⟩, fun z i hz => ?_, fun z hz => ?_⟩
  · obtain ⟨e, t, a1, a2⟩ := (dk_get h3 z).1 i hz
    refine ⟨t, ?_⟩
    unfold PySem.W.nsIn
    rw [h1]
    simp only [a1, a2]
  · obtain ⟨a1, a2⟩ := (dk_get h3 z).2 hz
    unfold PySem.W.nsIn
    rw [h1]
    simp only [a1, a2, Bool.false_eq_true, if_false]
def rNotInN (K : PySem.W.Frag) (w : World) : R2 := fun x y H Q => ∃ z : Str, ∃ a l, x = .str z ∧ y = .ref a ∧ KNum K w a l ∧ Q (.bl (!(l.lookup z).isSome)) H
def rIxN (K : PySem.W.Frag) (w : World) : R2 := fun x y H Q => ∃ z : Str, ∃ a l i, x = .ref a ∧ y = .str z ∧ KNum K w a l ∧ l.lookup z = some i ∧ Q (.int i) H
theorem op_notInN {X : Cx} : OpR X (compareOp .NotIn) (rNotInN X.K X.w) := by
  intro pins s σ H x y v u Q I rx ry h
  obtain ⟨z, a, l, rfl, rfl, D, q⟩ := h
  obtain ⟨es, n, d⟩ := D.d
  cases e : l.lookup z with
  | none => exact op_notIn_kd d pins s σ H _ _ v u Q I rx ry ⟨z, none, rfl, rfl, D.no z e, by rw [e] at q; exact q⟩
  | some i =>
    obtain ⟨t, ht⟩ := D.get z i e
    exact op_notIn_kd d pins s σ H _ _ v u Q I rx ry ⟨z, some (.int i t), rfl, rfl, ht, by rw [e] at q; exact q⟩
theorem ix_num {X : Cx} : IxR X (rIxN X.K X.w) := by
  intro value slice pins s σ H x y v u Q I rx ry h hs
  obtain ⟨z, a, l, i, rfl, rfl, D, hz, q⟩ := h
  obtain ⟨es, n, d⟩ := D.d
  obtain ⟨t, ht⟩ := D.get z i hz
  exact ix_kdict value slice pins s σ H _ _ v u Q I rx ry ⟨a, z, .int i, rfl, rfl, ⟨es, n, _, d.at_, d.lit, ht, ⟨t, rfl⟩⟩, q⟩ hs
end GL
/-! an own error that keeps a line; .. not in a dict -/
namespace PySem
namespace GX
open PySem.W PySem.Calls PyProof.Rows PySem.HandSPX Builtin Builtin.ObjectAttr
def inilineA (p1 p2 : Pos) : Arguments := { posonlyargs := [], args := [{ arg := "self", annotation := none, pos := p1 }, { arg := "line", annotation := none, pos := p2 }], vararg := none, kwonlyargs := [], kw_defaults := [], kwarg := none, defaults := [] }
def inilineB (q1 q2 q3 q4 : Pos) : List Stmt := [.Assign [.Attribute (.Name "self" q1) "line" q2] (.Name "line" q3) q4]
def inilineS : Scope := { kind := .function, names := [(PySem.Str.ofString "self", .local), (PySem.Str.ofString "line", .local)], isGenerator := false, isCoroutine := false, more := [] }
/-- it keeps one value, as line -/
structure Errline (K : Frag) (C fI : Addr) (bmB : List Value) (newId : String) : Prop extends ErrT K C fI bmB newId where
  tk : takerIn K C "line" = some none
  no : findIn K (.ref C) "line" = some none
  code : ∃ (oc : Value) (od : Option Addr) (doc pm : Value) (an : Option Addr) (cdv ct : Value) (osl : Array (Option Value)) (qual : Str) (p1 p2 q1 q2 q3 q4 : Pos),
    K.lookup fI = some ⟨oc, od, .func (fnOf "__init__" qual (inilineA p1 p2) (inilineB q1 q2 q3 q4) inilineS .none .none doc pm an cdv ct), osl⟩ ∧ codeIn K cdv qual = true
section
variable {prog : Program} {w : World} {A : Around} {E : Value → Shared → Prop} {R : Result → Shared → Prop} {K : Frag} {C fI x t : Addr} {bmB : List Value} {B newId initId : String}
theorem init_line {s : Shared} {v : Value} (SF : StoreFacts B bmB "object.__setattr__" "object") (T : Errline K C fI bmB newId) (X : K.In s.heap) (hlim : s.heap.NoLimit) (hx : s.heap.get? x = some (excObj C t none .none)) (hroom : A.depth < recursionLimit)
    (hq : ∀ h' tk dx, (∀ b o, b ≠ x → s.heap.get? b = some o → h'.get? b = some o) → s.heap.objs.size ≤ dx → dx ≠ x → h'.get? x = some (excObj C t (some dx) .none) → h'.Ns1 dx (fun y => if y = "line" then some v else none) → R (.ok (.ret .none)) { s with heap := h', toks := tk }) :
    codeAny (model prog w) A (.call (.ref fI) ⟨[.ref x, v], []⟩) R s := by
  obtain ⟨oc, od, doc, pm, an, cdv, ct, osl, qual, p1, p2, q1, q2, q3, q4, ho, hcd⟩ := T.code
  refine Att.call_fn (binds := [("self", .ref x), ("line", v)]) X hlim ho hcd hroom (.of_eq rfl) rfl (fun s₁ IC => ?_) rfl rfl rfl
  obtain ⟨h₁, tk₁, rfl⟩ := IC.toInCall.same
  have kk : ∀ b o, s.heap.get? b = some o → h₁.get? b = some o := IC.toInCall.keep
  have hn := IC.toInCall.ns
  show wpAny _ _ (execs _ _) _ _ _
  refine wpAny_execs_cons (plainObj_wpAny_Assign_Attribute ?_)
  refine ld_par (v := v) hn rfl (ld_par (v := .ref x) hn rfl ?_ rfl rfl (by decide)) rfl rfl (by decide)
  refine set_plain (X.keeps kk) (ox := excObj C t none .none) (od := none) ⟨kk _ _ hx, rfl, rfl, trivial⟩ T.sa ?_
  refine keeps_first SF (X.keeps kk) T.toErrT T.tk (kk _ _ hx) fun h₃ tk₃ dx k₃ dn dne hx₃ hn₃ => ?_
  show wpAny _ _ (execs _ _) _ _ _
  have z : s.heap.objs.size < h₁.objs.size := hn.lt
  exact wpAny_execs_nil (hq h₃ tk₃ dx (fun b o hb e => k₃ b o hb (kk b o e)) (Nat.le_of_lt (Nat.lt_of_lt_of_le z dn)) dne hx₃ hn₃)
theorem made_line {s : Shared} {v : Value} (SF : StoreFacts B bmB "object.__setattr__" "object") (FB : ExcBaseFacts B newId initId bmB) (T : Errline K C fI bmB newId) (X : K.In s.heap) (hlim : s.heap.NoLimit) (hroom : A.depth + 1 < recursionLimit)
    (hq : ∀ h' tk e d, Kept s.heap h' e C (some d) → s.heap.objs.size ≤ d → d ≠ e → h'.Ns1 d (fun y => if y = "line" then some v else none) → R (.ok (.ret (.ref e))) { s with heap := h', toks := tk }) :
    codeAny (model prog w) A (.call (.ref C) ⟨[v], []⟩) R s := by
  obtain ⟨nm, N, qn, bs, bm, hdct, sn, sub, ab, col, dd, k0, k1, k2, k3, k5, hC, hT⟩ := excInit_of X T.ini
  obtain ⟨hp, g, dr, tk, os⟩ := s
  have kk : ∀ b o, hp.get? b = some o → ((hp.push (kdv_tup [v])).push (excO C hp.objs.size)).get? b = some o := fun b o e => Heap.get?_push_of_some _ (Heap.get?_push_of_some _ e)
  have hget : ((hp.push (kdv_tup [v])).push (excO C hp.objs.size)).get? (hp.objs.size + 1) = some (excO C hp.objs.size) := by heap_get
  refine call_own FB hT hC (looks_findIn X T.iC) (fun self => bind_fn X self (beq_iff_eq.mp T.fn)) one_fits ?_
  refine init_line (s := ⟨(hp.push (kdv_tup [v])).push (excO C hp.objs.size), g, dr, tk, os⟩) SF T (X.keeps kk) (hlim.keeps kk) hget hroom fun h' tk' dx k' dn dne hx hns => ?_
  have old : ∀ b o, hp.get? b = some o → h'.get? b = some o := fun b o e => k' b o (Nat.ne_of_lt (Nat.lt_succ_of_lt (Heap.lt_size e))) (kk b o e)
  have z : hp.objs.size + 1 + 1 ≤ dx := by
    have q := dn
    rw [Heap.size_push, Heap.size_push] at q
    exact q
  exact ⟨rfl, hq h' tk' (hp.objs.size + 1) dx ⟨old, Nat.le_succ _, _, _, hx, rfl, rfl, rfl, rfl⟩ (Nat.le_trans (Nat.le_trans (Nat.le_succ _) (Nat.le_succ _)) z) dne hns⟩
end
end GX
end PySem
namespace GL
open PySem PySem.Spec PyProof.Rows L2
section
variable {X : Cx} {C fI : Addr} {bmB : List Value} {B newId initId : String} {x : Str} {p pos : Pos} {k : Nat}
theorem pmk_line {a : Expr} {ta : TA} (SF : StoreFacts B bmB "object.__setattr__" "object") (FB : ExcBaseFacts B newId initId bmB) (T : GX.Errline X.K C fI bmB newId) (hr : Room k X.A) (hg : Gl X x) (hm : X.mg x = some (.ref C)) (ha : PA X [a] ta) (ndb : (x == ("__debug__" : Str)) = false := by decide)
    (he : starEach (a :: []) X.env = (false, eval a X.env) :: starEach [] X.env := by rfl) (hpl : (backTo pos (starEach [] X.env)).any (·.1) = false := by rfl) : PMk X (.Call (.Name x p) [a] [] pos) (tMk1 C "line" ta) := by
  intro pins s σ H Q I h
  refine wpAny_Call_Name_kw (ld_glob I hg hm ?_ ndb)
  refine PySem.W.callWith_K (h₀ := X.base) I.ok.mod.kin T.kp (thn (ha.run pos pins s σ H _ I h) fun us s1 hh => ?_) he hpl
  obtain ⟨vs, H1, I1, r1, v, rfl, q1⟩ := hh
  refine ⟨I1.kIn, ?_⟩
  cases r1 with
  | cons rv rn =>
    rename_i v' us'
    cases rn
    have hlim := I1.nolimit
    obtain ⟨hp, g, dr, tk, os⟩ := s1
    exact wpAny_call (GX.made_line SF FB T I1.kIn hlim (by have := hr.dp; omega) fun h' tk' e d M hd dne hns => out_of T.toErrT I1 M hd dne hns rv q1)
end
def rNotInDk : R2 := fun x y H Q => ∃ a o, y = .ref a ∧ DGet H a x o ∧ Q (.bl (!o.isSome)) H
theorem op_notInDk {X : Cx} (hu : X.A.units + 1 < cLine) : OpR X (compareOp .NotIn) rNotInDk := by
  intro pins s σ H x y v u Q I rx ry h
  obtain ⟨a, o, rfl, g, q⟩ := h
  obtain rfl : u = Value.ref a := ry
  exact d_notIn hu I g rx fun s3 I3 => ⟨.bl (!o.isSome), H, I3, rfl, q⟩
end GL
namespace L2
open PySem PySem.Spec PyProof.Rows
def rSIdx : V → List V → Hp → VK → Prop := fun x xs H Q => ∃ a b i rest, x = .str a ∧ xs = [.str b] ∧ Builtin.Str.occurrences a b 0 a.length 1 = i :: rest ∧ Q (.int (i : Nat)) H
theorem pe_sindex {X : Cx} {o e : Expr} {to te : TE} {apos pos : Pos} (ho : PE X o to) (he : PE X e te) (hs : starEach [e] X.env = [(false, eval e X.env)] := by rfl) (hbase : attributeBase o "index" X.env (eval o X.env) = eval o X.env := by rfl) (hline : (apos.endLine == pos.line) = true := by rfl) :
    PE X (.Call (.Attribute o "index" apos) [e] [] pos) (tM1 rSIdx to te) :=
  pe_m1 F.slot_str_index F.type_str_index mt_sindex ho he hs hbase hline
end L2
namespace GL
open PySem PySem.Spec PyProof.Rows L2
section
variable {P : Program} {w : World} {K : PySem.W.Frag} {mg mb : Str → Option Value} {k : Nat} {fa a : Addr} {fd : FuncData} {x : Str} {sp : Sp} {s₁ : Shared} {vs : List Value} {ns : List Int}
/-- a heap that tracks one object -/
def one (a : Addr) (o : HO) : Hp := fun b => if b = a then some o else none
end
end GL
namespace GL
open PySem PySem.Spec PyProof.Rows L2
/-- the pairs of a code object and its table, at the law's call -/
structure TabsIn (ts : List (Addr × Addr)) (K : PySem.W.Frag) (h : Heap) : Prop where
  code : ∀ p ∈ ts, PySem.W.CodeHd h p.1 p.2
  emp : ∀ p ∈ ts, h.get? p.2 = some (PySem.W.tabObj #[])
  out : ∀ p ∈ ts, K.lookup p.2 = none
def isTab (ts : List (Addr × Addr)) (b : Addr) : Prop := ∃ p ∈ ts, p.2 = b
section
variable {P : Program} {w : World} {K : PySem.W.Frag} {mg mb : Str → Option Value} {k : Nat} {fa a : Addr} {fd : FuncData} {x : Str} {sp : Sp} {s₁ : Shared} {vs : List Value} {ns : List Int} {ts : List (Addr × Addr)}
theorem tab_at (TI : TabsIn ts K s₁.heap) {b : Addr} (hb : isTab ts b) : s₁.heap.get? b = some (PySem.W.tabObj #[]) := by
  obtain ⟨p, hp, rfl⟩ := hb
  exact TI.emp p hp
/-- the law's call, where code objects have tables -/
theorem law_coreT {H : Hp} (KX : K.In s₁.heap) (hns : s₁.heap.Ns mainGlobals mg) (hb : s₁.heap.Ns builtinsNs mb) (hbb : ∀ x : Str, x ≠ "__name__" → mb x = bootBuiltins x) (hlim : s₁.heap.NoLimit) (hg : s₁.gens = #[])
    (hbm : ∃ (bm : Addr) (ob : Obj), mg "__builtins__" = some (.ref bm) ∧ bm ≠ builtinsNs ∧ s₁.heap.get? bm = some ob ∧ ob.cls = .type "module" ∧ ob.dict = some builtinsNs ∧ ob.data = .plain)
    (TI : TabsIn ts K s₁.heap) (ha : s₁.heap.get? a = some { cls := .type "list", data := .seq vs.toArray }) (hr : Room k callerA)
    (F : ∀ base : Heap, K.In base → base.Ns mainGlobals mg → (∀ p ∈ ts, LamX.TabB base mg p.1 p.2) → FnG P w K mg base CX0 k fa fd [x] sp) (hbind : ∀ (s : Shared) (u : Value), BindsTo s fd ⟨[u], []⟩ [(x, u)])
    (hH : ∀ b, isTab ts b → H b = some (.tbl #[])) (hO : ∀ b, H b = none ∨ isTab ts b ∨ ∃ ob xs, H b = some (.frz ob (.lst xs))) (hok : HOk P w H s₁.heap) (hA : ∀ b, H b ≠ none → b = a ∨ isTab ts b) (hK : H a ≠ none → K.lookup a = none)
    (hsp : sp [.ref a] H (fun v _ => v = .bl true) fun _ _ _ => False) :
    codeAny (model P w) callerA (.call (.ref fa) ⟨[.ref a], []⟩) (fun r s' => r = .ok (.ret (.bool true)) ∧ OldK s₁.heap s'.heap ∧ s'.os = s₁.os ∧ AllBare s'.gens) s₁ := by
  -- what is neither a list nor a record without words isn't tracked
  have off : ∀ {b : Addr} {o : Obj}, s₁.heap.get? b = some o → (∀ its n, o.data ≠ .seq its n) → o.data ≠ .fields #[] → H b = none := by
    intro b o e d1 d2
    by_cases q : H b = none
    · exact q
    · rcases hA b q with rfl | t
      · rw [ha] at e
        cases e
        exact absurd rfl (d1 _ _)
      · rw [tab_at TI t] at e
        cases e
        exact absurd rfl d2
  have offD : ∀ {b : Addr} {o : Obj} {es : Array DictEntry} {ep : Nat}, s₁.heap.get? b = some o → o.data = .dict es ep → H b = none := fun e d => off e (fun _ _ z => by rw [d] at z; cases z) (fun z => by rw [d] at z; cases z)
  have hid : ∀ {b : Addr} {m : Str → Option Value}, s₁.heap.Ns b m → (hidT s₁.heap H).Ns b m := fun ⟨o, es, ep, e, d, r⟩ => ⟨o, es, ep, hidT_get e (offD e d), d, r⟩
  have inK : K.In (hidT s₁.heap H) := by
    intro b o e
    refine hidT_get (KX b o e) ?_
    by_cases q : H b = none
    · exact q
    · rcases hA b q with z | ⟨p, hp, z⟩
      · rw [z] at e q
        rw [hK q] at e
        cases e
      · rw [← z, TI.out p hp] at e
        cases e
  have lim : (hidT s₁.heap H).NoLimit := by
    obtain ⟨mc, h1, h2⟩ := hlim
    exact ⟨mc, hid h1, h2⟩
  have tabs : ∀ p ∈ ts, LamX.TabB (hidT s₁.heap H) mg p.1 p.2 := by
    intro p hp
    have hPt := TI.emp p hp
    refine ⟨?_, ?_, ?_⟩
    · obtain ⟨o, us, file, tf, flags, tg, inF, text, tt, e1, r1, r2, r3, rest⟩ := TI.code p hp
      refine ⟨o, us, file, tf, flags, tg, inF, text, tt, hidT_get e1 (off e1 (fun _ _ z => ?_) fun z => ?_), r1, r2, r3, rest⟩
      · rw [r2] at z
        cases z
      · rw [r2] at z
        cases z
        simp at r3
    · obtain ⟨bm, ob, b1, b2, b3, b4, b5, b6⟩ := hbm
      refine ⟨bm, ob, b1, b2, fun z => ?_, fun z => ?_, hidT_get b3 (off b3 (fun _ _ z => ?_) fun z => ?_), b4, b5, b6⟩
      · obtain ⟨o, es, ep, e, d, _⟩ := hns
        rw [z, e] at b3
        cases b3
        rw [d] at b6
        cases b6
      · rw [z, hPt] at b3
        cases b3
        cases b6
      · rw [b6] at z
        cases z
      · rw [b6] at z
        cases z
    · intro z
      obtain ⟨o, es, ep, e, d, _⟩ := hns
      rw [z, hPt] at e
      cases e
      cases d
  have e0 : Env0 P w K mg (hidT s₁.heap H) callerA [] s₁ H := by
    refine ⟨rfl, ⟨inK, hid hns, ⟨mb, hid hb, hbb⟩, lim⟩, fun b o e => of_hidT e, Nat.le_of_eq (hidT_size _ _), trivial, fun b z => ?_, hok, .of_eq hg⟩
    cases (show b ∈ ([] : List Addr) from z)
  have run := (F _ inK (hid hns) tabs).goes (A := callerA) (outer := []) (vs := [.ref a]) (us := [.ref a]) rfl hr e0 (hbind s₁ (.ref a)) (.cons rfl .nil) hsp
  refine codeAny_mono run ?_
  intro r s' z
  match r, z with
  | .error e, z => exact z.elim
  | .ok .next, z => exact z.elim
  | .ok .brk, z => exact z.elim
  | .ok .cont, z => exact z.elim
  | .ok (.ret u), z =>
    obtain ⟨v, H', os, bare, un, hok', r', q⟩ := z
    cases (show v = .bl true from q)
    obtain rfl : u = Value.bool true := r'
    have same : ∀ b o, ¬ isTab ts b → s₁.heap.get? b = some o → s'.heap.get? b = some o := by
      intro b o nt e
      rcases hO b with q | q | ⟨ob, xs, q⟩
      · exact un.keep b o e q (List.not_mem_nil) (List.not_mem_nil)
      · exact absurd q nt
      · obtain ⟨e1, _⟩ := hok b _ q
        obtain ⟨e2, _⟩ := hok' b _ (un.frzs b ob _ q)
        rw [e] at e1
        cases e1
        exact e2
    have more : ∀ b, isTab ts b → ∃ ps : Array Value, s'.heap.get? b = some (PySem.W.tabObj ps) := by
      intro b t
      obtain ⟨ps, z⟩ := un.tbls b #[] (hH b t)
      exact ⟨_, hok' b _ z⟩
    refine ⟨rfl, ⟨fun b o e => ?_, fun b o e => ?_⟩, os, bare⟩
    · by_cases t : isTab ts b
      · obtain ⟨ps, m⟩ := more b t
        have e' := e
        rw [tab_at TI t] at e'
        cases e'
        obtain ⟨p, hp, rfl⟩ := t
        exact .inr (.inl ⟨((TI.code p hp).tab (TI.emp p hp)).isCodeTable, rfl, #[], ps, rfl, by simpa using m⟩)
      · exact .inl (same b o t e)
    · by_cases t : isTab ts b
      · obtain ⟨ps, m⟩ := more b t
        exact ⟨_, m⟩
      · exact ⟨o, same b o t e⟩
theorem law_atT (KX : K.In s₁.heap) (hns : s₁.heap.Ns mainGlobals mg) (hb : s₁.heap.Ns builtinsNs mb) (hbb : ∀ x : Str, x ≠ "__name__" → mb x = bootBuiltins x) (hlim : s₁.heap.NoLimit) (hg : s₁.gens = #[])
    (hbm : ∃ (bm : Addr) (ob : Obj), mg "__builtins__" = some (.ref bm) ∧ bm ≠ builtinsNs ∧ s₁.heap.get? bm = some ob ∧ ob.cls = .type "module" ∧ ob.dict = some builtinsNs ∧ ob.data = .plain)
    (TI : TabsIn ts K s₁.heap) (ha : s₁.heap.get? a = some { cls := .type "list", data := .seq vs.toArray }) (hi : IntsAre vs ns) (hl : ns.length ≤ sizeLine) (hr : Room k callerA)
    (F : ∀ base : Heap, K.In base → base.Ns mainGlobals mg → (∀ p ∈ ts, LamX.TabB base mg p.1 p.2) → FnG P w K mg base CX0 k fa fd [x] sp) (hbind : ∀ (s : Shared) (u : Value), BindsTo s fd ⟨[u], []⟩ [(x, u)])
    (hsp : ∀ H : Hp, (∀ p ∈ ts, H p.2 = some (.tbl #[])) → SqL K H a (ns.map V.int) → sp [.ref a] H (fun v _ => v = .bl true) fun _ _ _ => False) :
    codeAny (model P w) callerA (.call (.ref fa) ⟨[.ref a], []⟩) (fun r s' => r = .ok (.ret (.bool true)) ∧ OldK s₁.heap s'.heap ∧ s'.os = s₁.os ∧ AllBare s'.gens) s₁ := by
  have rv := vals_ints hi
  have lenV := hi.length
  have na : ¬ isTab ts a := fun t => by
    have e := tab_at TI t
    rw [ha] at e
    exact nomatch congrArg Obj.data (Option.some.inj e)
  have go : ∀ H : Hp, (∀ b, isTab ts b → H b = some (.tbl #[])) → (∀ b, ¬ isTab ts b → b ≠ a → H b = none) → (H a = none ∨ (H a = some (.frz { cls := .type "list", data := .seq vs.toArray } (.lst (ns.map V.int))) ∧ K.lookup a = none)) → SqL K H a (ns.map V.int) →
      codeAny (model P w) callerA (.call (.ref fa) ⟨[.ref a], []⟩) (fun r s' => r = .ok (.ret (.bool true)) ∧ OldK s₁.heap s'.heap ∧ s'.os = s₁.os ∧ AllBare s'.gens) s₁ := by
    intro H h1 h2 h3 h4
    refine law_coreT (H := H) KX hns hb hbb hlim hg hbm TI ha hr F hbind h1 (fun b => ?_) (fun b u z => ?_) (fun b z => ?_) (fun z => ?_) (hsp H (fun p hp => h1 _ ⟨p, hp, rfl⟩) h4)
    · by_cases t : isTab ts b
      · exact .inr (.inl t)
      · by_cases e : b = a
        · subst e
          exact h3.imp id fun q => .inr ⟨_, _, q.1⟩
        · exact .inl (h2 b t e)
    · by_cases t : isTab ts b
      · cases (h1 b t).symm.trans z
        exact tab_at TI t
      · by_cases e : b = a
        · subst e
          rcases h3 with q | ⟨q, _⟩
          · cases q.symm.trans z
          · cases q.symm.trans z
            exact ⟨ha, by rw [List.length_map]; exact hl, vs, _, rv, ha⟩
        · cases (h2 b t e).symm.trans z
    · by_cases e : b = a
      · exact .inl e
      · by_cases t : isTab ts b
        · exact .inr t
        · exact absurd (h2 b t e) z
    · rcases h3 with q | ⟨_, q⟩
      · exact absurd q z
      · exact q
  classical
  cases hk : K.lookup a with
  | some o =>
    have e := KX a o hk
    rw [ha] at e
    cases e
    exact go (fun b => if isTab ts b then some (.tbl #[]) else none) (fun b t => if_pos t) (fun b t _ => if_neg t) (.inl (if_neg na)) (.inr ⟨_, vs.toArray, _, hk, rfl, rfl, rfl, by rw [List.size_toArray, lenV]; exact hl, by simpa using rv⟩)
  | none =>
    have at_ : (fun b => if isTab ts b then some (HO.tbl #[]) else if b = a then some (.frz { cls := .type "list", data := .seq vs.toArray } (.lst (ns.map V.int))) else none : Hp) a = some (.frz { cls := .type "list", data := .seq vs.toArray } (.lst (ns.map V.int))) := (if_neg na).trans (if_pos rfl)
    exact go _ (fun b t => if_pos t) (fun b t e => (if_neg t).trans (if_neg e)) (.inr ⟨at_, hk⟩) (.inl (.inr ⟨_, at_⟩))
end
end GL
/-! the head by one observation: facts of the heap behind the top, each a Bool -/
namespace HK
open PySem PySem.Spec PyProof.Rows L2 He
abbrev At : Type := PySem.W.Frag → Addr
/-- what stands at an address, if a function -/
def fnAt (K : PySem.W.Frag) (a : Addr) : FnW := match K.lookup a with
  | some ⟨_, _, .func fd, _⟩ => some (fd.name, fd.qualname, fd.params, fd.body, fd.scope, fd.globals, fd.closure, fd.builtins)
  | _ => none
def codeAt (K : PySem.W.Frag) (a : Addr) : Addr := match K.lookup a with
  | some ⟨_, _, .func fd, _⟩ => (match fd.code with
    | .ref c => c
    | _ => 0)
  | _ => 0
abbrev Al : Type := Bool × List FnW × List (Option (List (Option (Str × Int))))
def obsK (at_ : List At) (ts : List Tab) (ex : List (PySem.W.Frag → Bool)) (K : PySem.W.Frag) : Al := (ex.all fun b => b K, at_.map (fun p => fnAt K (p K)), ts.map fun t => dicW K (t.1 K))
def obsM (as : List Addr) (at_ : List At) (ts : List Tab) (ex : List (PySem.W.Frag → Bool)) (g : Addr → Option Obj) : Al := obsK at_ ts ex (frT g as)
def valM (fv : List FnW) (ts : List Tab) (w : World) : Al := (true, fv, ts.map fun t => some (keysIn w.params t.2))
/-- what is told -/
def Says (at_ : List At) (fv : List FnW) (ts : List Tab) (ex : List (PySem.W.Frag → Bool)) (w : World) (K : PySem.W.Frag) : Prop := obsK at_ ts ex K = valM fv ts w
def hook (as : List Addr) (at_ : List At) (fv : List FnW) (ts : List Tab) (ex : List (PySem.W.Frag → Bool)) : PySem.W.Hook where
  α := Al
  obs := fun s => obsM as at_ ts ex s.heap.get?
  val := fun w => valM fv ts w
  says := fun w h => ∃ K : PySem.W.Frag, K.In h ∧ Says at_ fv ts ex w K
  of := fun _ _ e => ⟨_, frT_in, e⟩
  keeps := fun _ _ _ ⟨K, hK, c⟩ k => ⟨K, PySem.W.Frag.In.keeps hK k, c⟩
theorem obs_eq {as : List Addr} {at_ : List At} {fv : List FnW} {ts : List Tab} {ex : List (PySem.W.Frag → Bool)} {g : Addr → Option Obj} {s : Shared} (h : ∀ a, g a = s.heap.get? a) : obsM as at_ ts ex g = (hook as at_ fv ts ex).obs s := by
  have e : g = s.heap.get? := funext h
  rw [e] <;> rfl
section
variable {at_ : List At} {fv : List FnW} {ts : List Tab} {ex : List (PySem.W.Frag → Bool)} {w : World} {K : PySem.W.Frag}
theorem Says.fact (c : Says at_ fv ts ex w K) (i : Nat) {b : PySem.W.Frag → Bool} (h : ex[i]? = some b := by rfl) : b K = true := by
  have c1 : (ex.all fun b => b K) = true := congrArg (fun z : Al => z.1) c
  exact List.all_eq_true.mp c1 b (List.mem_of_getElem? h)
theorem Says.fn (c : Says at_ fv ts ex w K) (i : Nat) {p : At} {v : FnW} (h : at_[i]? = some p := by rfl) (hv : fv[i]? = some v := by rfl) : fnAt K (p K) = v := by
  have e : at_.map (fun p => fnAt K (p K)) = fv := congrArg (fun z : Al => z.2.1) c
  have e2 : (at_.map (fun p => fnAt K (p K)))[i]? = fv[i]? := by rw [e]
  rw [List.getElem?_map, h, hv] at e2
  exact Option.some.inj e2
theorem Says.tab (c : Says at_ fv ts ex w K) (i : Nat) {t : Tab} (h : ts[i]? = some t := by rfl) : dicW K (t.1 K) = some (keysIn w.params t.2) := by
  have e : ts.map (fun t => dicW K (t.1 K)) = ts.map fun t => some (keysIn w.params t.2) := congrArg (fun z : Al => z.2.2) c
  have e2 : (ts.map fun t => dicW K (t.1 K))[i]? = (ts.map fun t => some (keysIn w.params t.2))[i]? := by rw [e]
  rw [List.getElem?_map, List.getElem?_map, h] at e2
  exact Option.some.inj e2
end
/-! ### facts of forms -/
def eqB {α : Type} [DecidableEq α] (a b : α) : Bool := decide (a = b)
theorem eqB_ok {α : Type} [DecidableEq α] {a b : α} (h : eqB a b = true) : a = b := of_decide_eq_true h
def fB (K : PySem.W.Frag) (f : Addr) (q : Str) (dv : Value) : Bool := match K.lookup f with
  | some ⟨_, _, .func fd, _⟩ => decide (fd.defaults = dv) && PySem.W.codeIn K fd.code q
  | _ => false
theorem f_ok {K : PySem.W.Frag} {p : Addr} {n q : Str} {ps : Arguments} {bd : List Stmt} {sc : Scope} {dv : Value} (e : fnAt K p = some (n, q, ps, .stmts bd, sc, mainGlobals, [], builtinsNs)) (c : fB K p q dv = true) :
    ∃ (oc : Value) (od : Option Addr) (kV dc pm : Value) (an : Option Addr) (cd ct : Value) (sl : Array (Option Value)), K.lookup p = some ⟨oc, od, .func (PySem.W.fnOf n q ps bd sc dv kV dc pm an cd ct), sl⟩ ∧ PySem.W.codeIn K cd q = true := by
  unfold fnAt at e
  unfold fB at c
  cases z : K.lookup p with
  | none =>
    rw [z] at c
    cases c
  | some o =>
    obtain ⟨oc, od, dt, osl⟩ := o
    rw [z] at c e
    cases dt with
    | func fd =>
      obtain ⟨n1, n2, n3, n4, n5, n6, n7, n8, n9, n10, n11, n12, n13, n14, n15⟩ := fd
      have e2 : (some (n1, n2, n3, n4, n5, n6, n7, n15) : FnW) = some (n, q, ps, .stmts bd, sc, mainGlobals, [], builtinsNs) := e
      simp only [Option.some.injEq, Prod.mk.injEq] at e2
      obtain ⟨h1, h2, h3, h4, h5, h6, h7, h8⟩ := e2
      subst h1 h2 h3 h4 h5 h6 h7 h8
      obtain ⟨k1, k2⟩ := ba (show (decide (n8 = dv) && PySem.W.codeIn K n13 _) = true from c)
      have k3 := of_decide_eq_true k1
      subst k3
      exact ⟨oc, od, n9, n10, n11, n12, n13, n14, osl, rfl, k2⟩
    | _ => cases c
def fBN (K : PySem.W.Frag) (f : Addr) (q : Str) (dv : Value) : Bool := match K.lookup f with
  | some ⟨_, _, .func fd, _⟩ => decide (fd.defaults = dv) && (decide (fd.kwdefaults = .none) && PySem.W.codeIn K fd.code q)
  | _ => false
theorem f_okN {K : PySem.W.Frag} {p : Addr} {n q : Str} {ps : Arguments} {bd : List Stmt} {sc : Scope} {dv : Value} (e : fnAt K p = some (n, q, ps, .stmts bd, sc, mainGlobals, [], builtinsNs)) (c : fBN K p q dv = true) :
    ∃ (oc : Value) (od : Option Addr) (dc pm : Value) (an : Option Addr) (cd ct : Value) (sl : Array (Option Value)), K.lookup p = some ⟨oc, od, .func (PySem.W.fnOf n q ps bd sc dv .none dc pm an cd ct), sl⟩ ∧ PySem.W.codeIn K cd q = true := by
  unfold fnAt at e
  unfold fBN at c
  cases z : K.lookup p with
  | none =>
    rw [z] at c
    cases c
  | some o =>
    obtain ⟨oc, od, dt, osl⟩ := o
    rw [z] at c e
    cases dt with
    | func fd =>
      obtain ⟨n1, n2, n3, n4, n5, n6, n7, n8, n9, n10, n11, n12, n13, n14, n15⟩ := fd
      have e2 : (some (n1, n2, n3, n4, n5, n6, n7, n15) : FnW) = some (n, q, ps, .stmts bd, sc, mainGlobals, [], builtinsNs) := e
      simp only [Option.some.injEq, Prod.mk.injEq] at e2
      obtain ⟨h1, h2, h3, h4, h5, h6, h7, h8⟩ := e2
      subst h1 h2 h3 h4 h5 h6 h7 h8
      obtain ⟨k1, k2⟩ := ba (show (decide (n8 = dv) && (decide (n9 = .none) && PySem.W.codeIn K n13 _)) = true from c)
      obtain ⟨k4, k2⟩ := ba k2
      have k3 := of_decide_eq_true k1
      have k5 := of_decide_eq_true k4
      subst k3 k5
      exact ⟨oc, od, n10, n11, n12, n13, n14, osl, rfl, k2⟩
    | _ => cases c
theorem f_okT {K : PySem.W.Frag} {p : Addr} {n q : Str} {ps : Arguments} {bd : List Stmt} {sc : Scope} {dv : Value} (e : fnAt K p = some (n, q, ps, .stmts bd, sc, mainGlobals, [], builtinsNs)) (c : fB K p q dv = true) :
    ∃ (oc : Value) (od : Option Addr) (kV dc pm : Value) (an : Option Addr) (ct : Value) (sl : Array (Option Value)), K.lookup p = some ⟨oc, od, .func (PySem.W.fnOf n q ps bd sc dv kV dc pm an (.ref (codeAt K p)) ct), sl⟩ ∧ PySem.W.codeIn K (.ref (codeAt K p)) q = true := by
  obtain ⟨oc, od, kV, dc, pm, an, cd, ct, sl, h, k⟩ := f_ok e c
  obtain ⟨x, rfl⟩ := codeIn_ref k
  have hx : codeAt K p = x := by
    unfold codeAt
    rw [h]
  rw [hx]
  exact ⟨oc, od, kV, dc, pm, an, ct, sl, h, k⟩
def tbB (K : PySem.W.Frag) (c : Addr) : Bool := match K.lookup c with
  | some ⟨_, _, .fields vs, _⟩ => decide (vs[11]? = some (.ref (tabOf K c)))
  | _ => false
theorem tb_ok {K : PySem.W.Frag} {c : Addr} (h : tbB K c = true) : ∃ (oc : Value) (od : Option Addr) (vs : Array Value) (sl : Array (Option Value)), K.lookup c = some ⟨oc, od, .fields vs, sl⟩ ∧ vs[11]? = some (.ref (tabOf K c)) := by
  unfold tbB at h
  cases z : K.lookup c with
  | none =>
    rw [z] at h
    cases h
  | some o =>
    obtain ⟨oc, od, dt, osl⟩ := o
    rw [z] at h
    cases dt with
    | fields vs => exact ⟨oc, od, vs, osl, rfl, of_decide_eq_true h⟩
    | _ => cases h
theorem no_ok {K : PySem.W.Frag} {c : Addr} (h : (K.lookup c).isNone = true) : K.lookup c = none := Option.isNone_iff_eq_none.mp h
/-- values, some of whose parts are not asked -/
inductive VP where
  | val (v : Value) | str (s : Str) | int (i : Int) | any
def VP.ok : VP → Value → Bool
  | .val v, u => decide (u = v)
  | .str s, .str z _ => decide (z = s)
  | .int i, .int j _ => decide (j = i)
  | .any, _ => true
  | _, _ => false
def VP.ex : List VP → (List Value → Prop) → Prop
  | [], k => k []
  | .val v :: ps, k => VP.ex ps fun vs => k (v :: vs)
  | .str s :: ps, k => ∃ t, VP.ex ps fun vs => k (.str s t :: vs)
  | .int i :: ps, k => ∃ t, VP.ex ps fun vs => k (.int i t :: vs)
  | .any :: ps, k => ∃ v, VP.ex ps fun vs => k (v :: vs)
/-- a name of the module with a value, a part of which is not asked -/
def nsB (K : PySem.W.Frag) (x : Str) (p : VP) : Bool := match PySem.W.nsIn K mainGlobals x with
  | some (some v) => p.ok v
  | _ => false
theorem ns_str {K : PySem.W.Frag} {x i : Str} (c : nsB K x (.str i) = true) : ∃ t, PySem.W.nsIn K mainGlobals x = some (some (.str i t)) := by
  unfold nsB at c
  cases z : PySem.W.nsIn K mainGlobals x with
  | none =>
    rw [z] at c
    cases c
  | some o =>
    rw [z] at c
    cases o with
    | none => cases c
    | some v =>
      cases v with
      | str j t =>
        have e : j = i := of_decide_eq_true c
        subst e
        exact ⟨t, rfl⟩
      | _ => cases c
theorem dic_ok {K : PySem.W.Frag} {w : World} {a : Addr} {ks : List Str} (h : dicW K a = some (keysIn w.params ks)) : ∃ (es : Array DictEntry) (n : Nat), K.lookup a = some ⟨.type "dict", none, .dict es n, #[]⟩ ∧ PySem.W.KeysLit w.params es.toList ∧ True := by
  obtain ⟨es, n, k⟩ := dicW_ok h
  exact ⟨es, n, k.at_, k.lit, trivial⟩
end HK
/-! the end of a law whose defs make lambdas, over such a head -/
namespace HK
open PySem PySem.Spec PyProof.Rows L2 He GL
theorem walkHT {l : PySem.W.OpenLaw} {k : Nat} {q : Program} {loose : List Str} {XP : (Str → Option Value) → Heap → Prop} {YP : World → Heap → Prop} {d : DefRec} {sp : PySem.W.Frag → List (Addr × Addr) → Sp} {x : Str} {xs : List Str}
    (hn : l.most = some 63) (hdf : d.params.defaults = []) (hr : Room k callerA)
    (hx : ∀ y ∈ xs, ∃ e : DefRec, (recsOf q).find? (fun e => e.name == y) = some e)
    (F : ∀ (w : World) (mg : Str → Option Value) (fa : Addr) (h : Heap), YP w h → h.Ns mainGlobals mg → mg d.name = some (.ref fa) →
      ∃ (K : PySem.W.Frag) (fd : FuncData) (ts : List (Addr × Addr)), K.In h ∧ (∀ p ∈ ts, ∃ y ∈ xs, PySem.W.tabIn K y = some p) ∧ (∀ p ∈ ts, K.lookup p.2 = none) ∧ (∀ (s : Shared) (u : Value), BindsTo s fd ⟨[u], []⟩ [(x, u)]) ∧
        (∀ base : Heap, K.In base → base.Ns mainGlobals mg → (∀ p ∈ ts, LamX.TabB base mg p.1 p.2) → FnG l.prog w K mg base CX0 k fa fd [x] (sp K ts)))
    (hsp : ∀ (K : PySem.W.Frag) (ts : List (Addr × Addr)) (H : Hp) (a : Addr) (ns : List Int), ns.length ≤ 63 → (∀ p ∈ ts, H p.2 = some (.tbl #[])) → SqL K H a (ns.map V.int) → sp K ts [.ref a] H (fun v _ => v = .bl true) fun _ _ _ => False) :
    PySem.W.WalkO q loose XP YP l.row.toRowW d [] (fun f vs => PySem.call f vs) := by
  refine Att.attach_call hn hdf fun w s₀ s₁ mg mb fa o pm cd doc a vs ns G Y ho hd hcd hmg hobj hints hlen hg => ?_
  obtain ⟨K, fd, ts, KX, h1, h2, h3, h4⟩ := F w mg fa _ Y G.T.g hmg
  have TI : TabsIn ts K s₁.heap := by
    have both : ∀ p ∈ ts, PySem.W.CodeHd s₁.heap p.1 p.2 ∧ s₁.heap.get? p.2 = some (PySem.W.tabObj #[]) := fun p hp => by
      obtain ⟨y, hy, ht⟩ := h1 p hp
      obtain ⟨e, he⟩ := hx y hy
      exact PySem.W.tab_of G.T KX he ht
    exact ⟨fun p hp => (both p hp).1, fun p hp => (both p hp).2, h2⟩
  exact law_atT KX G.T.g G.T.b G.T.builtins G.T.nolimit hg G.T.bmain TI hobj hints (Nat.le_trans hlen (by decide)) hr h4 h3 fun H hH hS => hsp _ ts H a ns hlen hH hS
theorem ne_ok {α : Type} [DecidableEq α] {a b : α} (h : (!eqB a b) = true) : a ≠ b := fun z => by
  rw [show eqB a b = true from decide_eq_true z] at h
  exact Bool.noConfusion h
end HK
namespace My
open PySem PySem.Spec PyProof.Rows L2 GL
def topS (i : Nat) : Stmt := PySem.Challenge.pw_chargeways_k92_lines_of_deeds.main.body.getD i (.Pass ⟨0, 0, 0, 0⟩)
abbrev s_is_an_integer : Stmt := topS 1
abbrev N_is_an_integer : List Str := ["value"]
theorem sc_is_an_integer : FnScope N_is_an_integer ["value"] (defScope s_is_an_integer) := ⟨rfl, rfl, rfl, by decide +kernel, rfl, by decide +kernel, by decide +kernel⟩
abbrev s_is_deed : Stmt := topS 8
abbrev N_is_deed : List Str := ["value", "word", "numbers", "number"]
theorem sc_is_deed : FnScope N_is_deed ["value"] (defScope s_is_deed) := ⟨rfl, rfl, rfl, by decide +kernel, rfl, by decide +kernel, by decide +kernel⟩
abbrev s_is_numeral : Stmt := topS 11
abbrev N_is_numeral : List Str := ["word", "digits", "digit"]
theorem sc_is_numeral : FnScope N_is_numeral ["word"] (defScope s_is_numeral) := ⟨rfl, rfl, rfl, by decide +kernel, rfl, by decide +kernel, by decide +kernel⟩
abbrev s_line_from : Stmt := topS 12
abbrev N_line_from : List Str := ["parts", "part"]
theorem sc_line_from : FnScope N_line_from ["parts"] (defScope s_line_from) := ⟨rfl, rfl, rfl, by decide +kernel, rfl, by decide +kernel, by decide +kernel⟩
abbrev s_line_of : Stmt := topS 14
abbrev N_line_of : List Str := ["deed", "part"]
theorem sc_line_of : FnScope N_line_of ["deed"] (defScope s_line_of) := ⟨rfl, rfl, rfl, by decide +kernel, rfl, by decide +kernel, by decide +kernel⟩
abbrev s_deed_from : Stmt := topS 15
abbrev N_deed_from : List Str := ["value", "word", "numerals", "numbers", "numeral", "deed"]
theorem sc_deed_from : FnScope N_deed_from ["value"] (defScope s_deed_from) := ⟨rfl, rfl, rfl, by decide +kernel, rfl, by decide +kernel, by decide +kernel⟩
abbrev s_read_deed : Stmt := topS 16
abbrev N_read_deed : List Str := ["line", "deed"]
theorem sc_read_deed : FnScope N_read_deed ["line"] (defScope s_read_deed) := ⟨rfl, rfl, rfl, by decide +kernel, rfl, by decide +kernel, by decide +kernel⟩
abbrev s_Lpot : Stmt := topS 18
abbrev N_Lpot : List Str := ["_law_script", "_law_k", "_law_cell"]
theorem sc_Lpot : FnScope N_Lpot ["_law_script", "_law_k"] (defScope s_Lpot) := ⟨rfl, rfl, rfl, by decide +kernel, rfl, by decide +kernel, by decide +kernel⟩
abbrev s_Ldraw : Stmt := topS 19
abbrev N_Ldraw : List Str := ["_law_pot_here", "_law_sides", "_law_digit"]
theorem sc_Ldraw : FnScope N_Ldraw ["_law_pot_here", "_law_sides"] (defScope s_Ldraw) := ⟨rfl, rfl, rfl, by decide +kernel, rfl, by decide +kernel, by decide +kernel⟩
abbrev s_Lpick : Stmt := topS 20
abbrev N_Lpick : List Str := ["_law_pot_here", "_law_some"]
theorem sc_Lpick : FnScope N_Lpick ["_law_pot_here", "_law_some"] (defScope s_Lpick) := ⟨rfl, rfl, rfl, by decide +kernel, rfl, by decide +kernel, by decide +kernel⟩
abbrev s_Llots : Stmt := topS 21
abbrev N_Llots : List Str := []
theorem sc_Llots : FnScope N_Llots [] (defScope s_Llots) := ⟨rfl, rfl, rfl, by decide +kernel, rfl, by decide +kernel, by decide +kernel⟩
abbrev s_Lnumber : Stmt := topS 22
abbrev N_Lnumber : List Str := ["_law_pot_here", "_law_far", "_law_near"]
theorem sc_Lnumber : FnScope N_Lnumber ["_law_pot_here"] (defScope s_Lnumber) := ⟨rfl, rfl, rfl, by decide +kernel, rfl, by decide +kernel, by decide +kernel⟩
abbrev s_Lact : Stmt := topS 23
abbrev N_Lact : List Str := ["_law_pot_here", "_law_word", "_law_found", "_law_turn"]
theorem sc_Lact : FnScope N_Lact ["_law_pot_here"] (defScope s_Lact) := ⟨rfl, rfl, rfl, by decide +kernel, rfl, by decide +kernel, by decide +kernel⟩
abbrev s_Lspelled : Stmt := topS 24
abbrev N_Lspelled : List Str := ["_law_act_here", "_law_part"]
theorem sc_Lspelled : FnScope N_Lspelled ["_law_act_here"] (defScope s_Lspelled) := ⟨rfl, rfl, rfl, by decide +kernel, rfl, by decide +kernel, by decide +kernel⟩
abbrev s_Linteger : Stmt := topS 25
abbrev N_Linteger : List Str := ["_law_word", "_law_digits", "_law_sign", "_law_total"]
theorem sc_Linteger : FnScope N_Linteger ["_law_word"] (defScope s_Linteger) := ⟨rfl, rfl, rfl, by decide +kernel, rfl, by decide +kernel, by decide +kernel⟩
abbrev s_Lread : Stmt := topS 26
abbrev N_Lread : List Str := ["_law_spelled_here", "_law_words", "_law_found", "_law_word"]
theorem sc_Lread : FnScope N_Lread ["_law_spelled_here"] (defScope s_Lread) := ⟨rfl, rfl, rfl, by decide +kernel, rfl, by decide +kernel, by decide +kernel⟩
abbrev s_Lbent : Stmt := topS 27
abbrev N_Lbent : List Str := ["_law_pot_here", "_law_spelled_here", "_law_words", "_law_option", "_law_at", "_law_fresh"]
theorem sc_Lbent : FnScope N_Lbent ["_law_pot_here", "_law_spelled_here"] (defScope s_Lbent) := ⟨rfl, rfl, rfl, by decide +kernel, rfl, by decide +kernel, by decide +kernel⟩
abbrev s_Lheard : Stmt := topS 28
abbrev N_Lheard : List Str := ["_law_ask", "e"]
theorem sc_Lheard : FnScope N_Lheard ["_law_ask"] (defScope s_Lheard) := ⟨rfl, rfl, rfl, by decide +kernel, rfl, by decide +kernel, by decide +kernel⟩
abbrev s_Lodd_acts : Stmt := topS 29
abbrev N_Lodd_acts : List Str := ["_law_pot_here", "_law_act_here", "_law_at", "_law_found", "_law_part"]
theorem sc_Lodd_acts : FnScope N_Lodd_acts ["_law_pot_here", "_law_act_here"] (defScope s_Lodd_acts) := ⟨rfl, rfl, rfl, by decide +kernel, rfl, by decide +kernel, by decide +kernel⟩
abbrev s_Lact_right : Stmt := topS 30
abbrev N_Lact_right : List Str := ["_law_pot_here", "_law_act_here", "_law_spelled_here", "_law_odd"]
theorem sc_Lact_right : FnScope N_Lact_right ["_law_pot_here", "_law_act_here"] (defScope s_Lact_right) := ⟨rfl, rfl, rfl, by decide +kernel, rfl, by decide +kernel, by decide +kernel⟩
abbrev s_Lline_right : Stmt := topS 31
abbrev N_Lline_right : List Str := ["_law_spelled_here", "_law_act_here", "_law_wanted"]
theorem sc_Lline_right : FnScope N_Lline_right ["_law_spelled_here"] (defScope s_Lline_right) := ⟨rfl, rfl, rfl, by decide +kernel, rfl, by decide +kernel, by decide +kernel⟩
abbrev s_Lright : Stmt := topS 32
abbrev N_Lright : List Str := ["_law_pot_here", "_law_acts", "_law_act_here", "_law_odd", "_law_turn"]
theorem sc_Lright : FnScope N_Lright ["_law_pot_here"] (defScope s_Lright) := ⟨rfl, rfl, rfl, by decide +kernel, rfl, by decide +kernel, by decide +kernel⟩
abbrev s_law : Stmt := topS 33
abbrev N_law : List Str := ["_law_script", "_law_k"]
theorem sc_law : FnScope N_law ["_law_script"] (defScope s_law) := ⟨rfl, rfl, rfl, by decide +kernel, rfl, by decide +kernel, by decide +kernel⟩
abbrev s_E_InvalidDeed : Stmt := inClass (topS 4) 0
theorem sh_InvalidDeed : ∃ p1 p2 q1 q2 q3 q4, defArgs s_E_InvalidDeed = GX.inivalueA p1 p2 ∧ defBody s_E_InvalidDeed = GX.inivalueB q1 q2 q3 q4 ∧ defScope s_E_InvalidDeed = GX.inivalueS := ⟨_, _, _, _, _, _, rfl, rfl, rfl⟩
abbrev s_E_InvalidText : Stmt := inClass (topS 5) 0
theorem sh_InvalidText : ∃ p1 p2 q1 q2 q3 q4, defArgs s_E_InvalidText = GX.inilineA p1 p2 ∧ defBody s_E_InvalidText = GX.inilineB q1 q2 q3 q4 ∧ defScope s_E_InvalidText = GX.inilineS := ⟨_, _, _, _, _, _, rfl, rfl, rfl⟩
abbrev bm_ValueError : List Value := [.type "ValueError", .type "Exception", .type "BaseException", .type "object"]
set_option genInjectivity false in
set_option genSizeOf false in
structure Txt (K : PySem.W.Frag) (mg : Str → Option Value) (w : World) where
  f_is_an_integer : Addr
  fd_is_an_integer : FuncData
  F_is_an_integer : L2.Fun K "is_an_integer" "is_an_integer" s_is_an_integer f_is_an_integer fd_is_an_integer
  b_is_an_integer : Binds K fd_is_an_integer ["value"] []
  m_is_an_integer : mg "is_an_integer" = some (.ref f_is_an_integer)
  f_is_deed : Addr
  fd_is_deed : FuncData
  F_is_deed : L2.Fun K "is_deed" "is_deed" s_is_deed f_is_deed fd_is_deed
  b_is_deed : Binds K fd_is_deed ["value"] []
  m_is_deed : mg "is_deed" = some (.ref f_is_deed)
  f_is_numeral : Addr
  fd_is_numeral : FuncData
  F_is_numeral : L2.Fun K "is_numeral" "is_numeral" s_is_numeral f_is_numeral fd_is_numeral
  b_is_numeral : Binds K fd_is_numeral ["word"] []
  m_is_numeral : mg "is_numeral" = some (.ref f_is_numeral)
  f_line_from : Addr
  fd_line_from : FuncData
  F_line_from : L2.Fun K "line_from" "line_from" s_line_from f_line_from fd_line_from
  b_line_from : Binds K fd_line_from ["parts"] []
  m_line_from : mg "line_from" = some (.ref f_line_from)
  f_line_of : Addr
  fd_line_of : FuncData
  F_line_of : L2.Fun K "line_of" "line_of" s_line_of f_line_of fd_line_of
  b_line_of : Binds K fd_line_of ["deed"] []
  m_line_of : mg "line_of" = some (.ref f_line_of)
  k_line_of_deed : KBn K fd_line_of ["deed"] 0 ["deed"] (fun us ws => sel us [] ws [(2, 0)]) (fun vs zs => sel vs [] zs [(2, 0)])
  f_deed_from : Addr
  fd_deed_from : FuncData
  F_deed_from : L2.Fun K "deed_from" "deed_from" s_deed_from f_deed_from fd_deed_from
  b_deed_from : Binds K fd_deed_from ["value"] []
  m_deed_from : mg "deed_from" = some (.ref f_deed_from)
  f_read_deed : Addr
  fd_read_deed : FuncData
  F_read_deed : L2.Fun K "read_deed" "read_deed" s_read_deed f_read_deed fd_read_deed
  b_read_deed : Binds K fd_read_deed ["line"] []
  m_read_deed : mg "read_deed" = some (.ref f_read_deed)
  k_read_deed_line : KBn K fd_read_deed ["line"] 0 ["line"] (fun us ws => sel us [] ws [(2, 0)]) (fun vs zs => sel vs [] zs [(2, 0)])
  f_Lpot : Addr
  fd_Lpot : FuncData
  F_Lpot : L2.Fun K "_law_pot" "_law_pot" s_Lpot f_Lpot fd_Lpot
  b_Lpot : Binds K fd_Lpot ["_law_script", "_law_k"] []
  m_Lpot : mg "_law_pot" = some (.ref f_Lpot)
  f_Ldraw : Addr
  fd_Ldraw : FuncData
  F_Ldraw : L2.Fun K "_law_draw" "_law_draw" s_Ldraw f_Ldraw fd_Ldraw
  b_Ldraw : Binds K fd_Ldraw ["_law_pot_here", "_law_sides"] []
  m_Ldraw : mg "_law_draw" = some (.ref f_Ldraw)
  f_Lpick : Addr
  fd_Lpick : FuncData
  F_Lpick : L2.Fun K "_law_pick" "_law_pick" s_Lpick f_Lpick fd_Lpick
  b_Lpick : Binds K fd_Lpick ["_law_pot_here", "_law_some"] []
  m_Lpick : mg "_law_pick" = some (.ref f_Lpick)
  f_Llots : Addr
  fd_Llots : FuncData
  F_Llots : L2.Fun K "_law_lots" "_law_lots" s_Llots f_Llots fd_Llots
  b_Llots : Binds K fd_Llots [] []
  m_Llots : mg "_law_lots" = some (.ref f_Llots)
  f_Lnumber : Addr
  fd_Lnumber : FuncData
  F_Lnumber : L2.Fun K "_law_number" "_law_number" s_Lnumber f_Lnumber fd_Lnumber
  b_Lnumber : Binds K fd_Lnumber ["_law_pot_here"] []
  m_Lnumber : mg "_law_number" = some (.ref f_Lnumber)
  f_Lact : Addr
  fd_Lact : FuncData
  F_Lact : L2.Fun K "_law_act" "_law_act" s_Lact f_Lact fd_Lact
  b_Lact : Binds K fd_Lact ["_law_pot_here"] []
  m_Lact : mg "_law_act" = some (.ref f_Lact)
  f_Lspelled : Addr
  fd_Lspelled : FuncData
  F_Lspelled : L2.Fun K "_law_spelled" "_law_spelled" s_Lspelled f_Lspelled fd_Lspelled
  b_Lspelled : Binds K fd_Lspelled ["_law_act_here"] []
  m_Lspelled : mg "_law_spelled" = some (.ref f_Lspelled)
  f_Linteger : Addr
  fd_Linteger : FuncData
  F_Linteger : L2.Fun K "_law_integer" "_law_integer" s_Linteger f_Linteger fd_Linteger
  b_Linteger : Binds K fd_Linteger ["_law_word"] []
  m_Linteger : mg "_law_integer" = some (.ref f_Linteger)
  f_Lread : Addr
  fd_Lread : FuncData
  F_Lread : L2.Fun K "_law_read" "_law_read" s_Lread f_Lread fd_Lread
  b_Lread : Binds K fd_Lread ["_law_spelled_here"] []
  m_Lread : mg "_law_read" = some (.ref f_Lread)
  f_Lbent : Addr
  fd_Lbent : FuncData
  F_Lbent : L2.Fun K "_law_bent" "_law_bent" s_Lbent f_Lbent fd_Lbent
  b_Lbent : Binds K fd_Lbent ["_law_pot_here", "_law_spelled_here"] []
  m_Lbent : mg "_law_bent" = some (.ref f_Lbent)
  f_Lheard : Addr
  fd_Lheard : FuncData
  F_Lheard : L2.Fun K "_law_heard" "_law_heard" s_Lheard f_Lheard fd_Lheard
  b_Lheard : Binds K fd_Lheard ["_law_ask"] []
  m_Lheard : mg "_law_heard" = some (.ref f_Lheard)
  f_Lodd_acts : Addr
  fd_Lodd_acts : FuncData
  F_Lodd_acts : L2.Fun K "_law_odd_acts" "_law_odd_acts" s_Lodd_acts f_Lodd_acts fd_Lodd_acts
  b_Lodd_acts : Binds K fd_Lodd_acts ["_law_pot_here", "_law_act_here"] []
  m_Lodd_acts : mg "_law_odd_acts" = some (.ref f_Lodd_acts)
  f_Lact_right : Addr
  fd_Lact_right : FuncData
  F_Lact_right : L2.Fun K "_law_act_right" "_law_act_right" s_Lact_right f_Lact_right fd_Lact_right
  b_Lact_right : Binds K fd_Lact_right ["_law_pot_here", "_law_act_here"] []
  m_Lact_right : mg "_law_act_right" = some (.ref f_Lact_right)
  f_Lline_right : Addr
  fd_Lline_right : FuncData
  F_Lline_right : L2.Fun K "_law_line_right" "_law_line_right" s_Lline_right f_Lline_right fd_Lline_right
  b_Lline_right : Binds K fd_Lline_right ["_law_spelled_here"] []
  m_Lline_right : mg "_law_line_right" = some (.ref f_Lline_right)
  f_Lright : Addr
  fd_Lright : FuncData
  F_Lright : L2.Fun K "_law_right" "_law_right" s_Lright f_Lright fd_Lright
  b_Lright : Binds K fd_Lright ["_law_pot_here"] []
  m_Lright : mg "_law_right" = some (.ref f_Lright)
  f_law : Addr
  fd_law : FuncData
  F_law : L2.Fun K "law" "law" s_law f_law fd_law
  b_law : Binds K fd_law ["_law_script"] []
  m_law : mg "law" = some (.ref f_law)
  C_InvalidDeed : Addr
  I_InvalidDeed : Addr
  X_InvalidDeed : GX.Errvalue K C_InvalidDeed I_InvalidDeed bm_ValueError "ValueError.__new__"
  m_InvalidDeed : mg "InvalidDeed" = some (.ref C_InvalidDeed)
  C_InvalidText : Addr
  I_InvalidText : Addr
  X_InvalidText : GX.Errline K C_InvalidText I_InvalidText bm_ValueError "ValueError.__new__"
  m_InvalidText : mg "InvalidText" = some (.ref C_InvalidText)
  C_WayError : Addr
  m_WayError : mg "WayError" = some (.ref C_WayError)
  ec_InvalidDeed : GX.ErrC K C_InvalidDeed
  ib_InvalidDeed : PySem.W.kitOne K (.ref C_InvalidDeed) (.ref C_WayError) = some true
  ec_InvalidText : GX.ErrC K C_InvalidText
  ib_InvalidText : PySem.W.kitOne K (.ref C_InvalidText) (.ref C_WayError) = some true
  c_Lact_right : Addr
  p_Lact_right : Addr
  FT_Lact_right : GL.FunT K "_law_act_right" "_law_act_right" s_Lact_right f_Lact_right fd_Lact_right c_Lact_right
  c_Lline_right : Addr
  p_Lline_right : Addr
  FT_Lline_right : GL.FunT K "_law_line_right" "_law_line_right" s_Lline_right f_Lline_right fd_Lline_right c_Lline_right
  c_Lright : Addr
  p_Lright : Addr
  FT_Lright : GL.FunT K "_law_right" "_law_right" s_Lright f_Lright fd_Lright c_Lright
  q_InvalidDeed_InvalidDeed : PySem.W.exmOne K (.ref C_InvalidDeed) (.ref C_InvalidDeed) = some true
  q_InvalidText_InvalidDeed : PySem.W.exmOne K (.ref C_InvalidText) (.ref C_InvalidDeed) = some false
  q_InvalidText_InvalidText : PySem.W.exmOne K (.ref C_InvalidText) (.ref C_InvalidText) = some true
  z_abs : mg "abs" = none
  z_all : mg "all" = none
  z_bool : mg "bool" = none
  z_divmod : mg "divmod" = none
  z_int : mg "int" = none
  z_isinstance : mg "isinstance" = none
  z_len : mg "len" = none
  z_list : mg "list" = none
  z_max : mg "max" = none
  z_min : mg "min" = none
  z_range : mg "range" = none
  z_repr : mg "repr" = none
  z_str : mg "str" = none
  z_tuple : mg "tuple" = none
  t_DIGITS : Tok
  m_DIGITS : mg "DIGITS" = some (.str "0123456789" t_DIGITS)
  g_DEED_SIZES : Addr
  m_DEED_SIZES : mg "DEED_SIZES" = some (.ref g_DEED_SIZES)
  k_DEED_SIZES : KNum K w g_DEED_SIZES [("group", 1), ("limit", 2), ("strike", 1), ("take", 2), ("give", 2), ("move", 3), ("lift", 2), ("settle", 2), ("step", 1)]
  pne_0_1 : p_Lact_right ≠ p_Lline_right
  pne_0_2 : p_Lact_right ≠ p_Lright
  pne_1_2 : p_Lline_right ≠ p_Lright
abbrev q_Lact_right : Str := (("_law_act_right" : Str) ++ Str.ofString ".<locals>.") ++ "<lambda>"
abbrev q_Lline_right : Str := (("_law_line_right" : Str) ++ Str.ofString ".<locals>.") ++ "<lambda>"
abbrev q_Lright : Str := (("_law_right" : Str) ++ Str.ofString ".<locals>.") ++ "<lambda>"
section
variable {K : PySem.W.Frag} {mg : Str → Option Value} {w : World}
def Txt.tabs (T : Txt K mg w) : List (Addr × Str) := [(T.p_Lact_right, q_Lact_right), (T.p_Lline_right, q_Lline_right), (T.p_Lright, q_Lright)]
theorem Txt.tab_Lact_right (T : Txt K mg w) : (T.p_Lact_right, q_Lact_right) ∈ T.tabs := List.mem_cons_self
theorem Txt.one_Lact_right (T : Txt K mg w) : ∀ p ∈ T.tabs, p.1 = T.p_Lact_right → p.2 = q_Lact_right := by
  intro p hp e
  simp only [Txt.tabs, List.mem_cons, List.not_mem_nil, or_false] at hp
  rcases hp with rfl | rfl | rfl
  · rfl
  · exact absurd e.symm T.pne_0_1
  · exact absurd e.symm T.pne_0_2
theorem Txt.tab_Lline_right (T : Txt K mg w) : (T.p_Lline_right, q_Lline_right) ∈ T.tabs := (List.mem_cons_of_mem _ List.mem_cons_self)
theorem Txt.one_Lline_right (T : Txt K mg w) : ∀ p ∈ T.tabs, p.1 = T.p_Lline_right → p.2 = q_Lline_right := by
  intro p hp e
  simp only [Txt.tabs, List.mem_cons, List.not_mem_nil, or_false] at hp
  rcases hp with rfl | rfl | rfl
  · exact absurd e T.pne_0_1
  · rfl
  · exact absurd e.symm T.pne_1_2
theorem Txt.tab_Lright (T : Txt K mg w) : (T.p_Lright, q_Lright) ∈ T.tabs := (List.mem_cons_of_mem _ (List.mem_cons_of_mem _ List.mem_cons_self))
theorem Txt.one_Lright (T : Txt K mg w) : ∀ p ∈ T.tabs, p.1 = T.p_Lright → p.2 = q_Lright := by
  intro p hp e
  simp only [Txt.tabs, List.mem_cons, List.not_mem_nil, or_false] at hp
  rcases hp with rfl | rfl | rfl
  · exact absurd e T.pne_0_2
  · exact absurd e T.pne_1_2
  · rfl
end
end My
namespace Hd
open PySem PySem.Spec PyProof.Rows L2 GL My
def aa_f1 (K : PySem.W.Frag) : Addr := He.ga K "is_an_integer"
def aa_f2 (K : PySem.W.Frag) : Addr := He.ga K "is_deed"
def aa_f3 (K : PySem.W.Frag) : Addr := He.ga K "is_numeral"
def aa_f4 (K : PySem.W.Frag) : Addr := He.ga K "line_from"
def aa_f5 (K : PySem.W.Frag) : Addr := He.ga K "line_of"
def aa_f6 (K : PySem.W.Frag) : Addr := He.ga K "deed_from"
def aa_f7 (K : PySem.W.Frag) : Addr := He.ga K "read_deed"
def aa_f8 (K : PySem.W.Frag) : Addr := He.ga K "_law_pot"
def aa_f9 (K : PySem.W.Frag) : Addr := He.ga K "_law_draw"
def aa_f10 (K : PySem.W.Frag) : Addr := He.ga K "_law_pick"
def aa_f11 (K : PySem.W.Frag) : Addr := He.ga K "_law_lots"
def aa_f12 (K : PySem.W.Frag) : Addr := He.ga K "_law_number"
def aa_f13 (K : PySem.W.Frag) : Addr := He.ga K "_law_act"
def aa_f14 (K : PySem.W.Frag) : Addr := He.ga K "_law_spelled"
def aa_f15 (K : PySem.W.Frag) : Addr := He.ga K "_law_integer"
def aa_f16 (K : PySem.W.Frag) : Addr := He.ga K "_law_read"
def aa_f17 (K : PySem.W.Frag) : Addr := He.ga K "_law_bent"
def aa_f18 (K : PySem.W.Frag) : Addr := He.ga K "_law_heard"
def aa_f19 (K : PySem.W.Frag) : Addr := He.ga K "_law_odd_acts"
def aa_f20 (K : PySem.W.Frag) : Addr := He.ga K "_law_act_right"
def aa_cc20 (K : PySem.W.Frag) : Addr := HK.codeAt K (aa_f20 K)
def aa_pp20 (K : PySem.W.Frag) : Addr := He.tabOf K (aa_cc20 K)
def aa_f21 (K : PySem.W.Frag) : Addr := He.ga K "_law_line_right"
def aa_cc21 (K : PySem.W.Frag) : Addr := HK.codeAt K (aa_f21 K)
def aa_pp21 (K : PySem.W.Frag) : Addr := He.tabOf K (aa_cc21 K)
def aa_f22 (K : PySem.W.Frag) : Addr := He.ga K "_law_right"
def aa_cc22 (K : PySem.W.Frag) : Addr := HK.codeAt K (aa_f22 K)
def aa_pp22 (K : PySem.W.Frag) : Addr := He.tabOf K (aa_cc22 K)
def aa_f23 (K : PySem.W.Frag) : Addr := He.ga K "law"
def aa_cx1 (K : PySem.W.Frag) : Addr := He.ga K "InvalidDeed"
def aa_ix1 (K : PySem.W.Frag) : Addr := He.ma K (aa_cx1 K) "__init__"
def aa_cx2 (K : PySem.W.Frag) : Addr := He.ga K "InvalidText"
def aa_ix2 (K : PySem.W.Frag) : Addr := He.ma K (aa_cx2 K) "__init__"
def aa_cb_WayError (K : PySem.W.Frag) : Addr := He.ga K "WayError"
def aa_T_DEED_SIZES (K : PySem.W.Frag) : Addr := He.ga K "DEED_SIZES"
def ex0 : List (PySem.W.Frag → Bool) := [
  fun K => HK.eqB (PySem.W.nsIn K mainGlobals "is_an_integer") (some (some (.ref (aa_f1 K)))),
  fun K => HK.fB K (aa_f1 K) "is_an_integer" .none,
  fun K => PySem.W.keepIn K (.ref (aa_f1 K)),
  fun K => HK.eqB (PySem.W.nsIn K mainGlobals "is_deed") (some (some (.ref (aa_f2 K)))),
  fun K => HK.fB K (aa_f2 K) "is_deed" .none,
  fun K => PySem.W.keepIn K (.ref (aa_f2 K)),
  fun K => HK.eqB (PySem.W.nsIn K mainGlobals "is_numeral") (some (some (.ref (aa_f3 K)))),
  fun K => HK.fB K (aa_f3 K) "is_numeral" .none,
  fun K => PySem.W.keepIn K (.ref (aa_f3 K)),
  fun K => HK.eqB (PySem.W.nsIn K mainGlobals "line_from") (some (some (.ref (aa_f4 K)))),
  fun K => HK.fB K (aa_f4 K) "line_from" .none,
  fun K => PySem.W.keepIn K (.ref (aa_f4 K)),
  fun K => HK.eqB (PySem.W.nsIn K mainGlobals "line_of") (some (some (.ref (aa_f5 K)))),
  fun K => HK.fB K (aa_f5 K) "line_of" .none,
  fun K => PySem.W.keepIn K (.ref (aa_f5 K)),
  fun K => HK.eqB (PySem.W.nsIn K mainGlobals "deed_from") (some (some (.ref (aa_f6 K)))),
  fun K => HK.fB K (aa_f6 K) "deed_from" .none,
  fun K => PySem.W.keepIn K (.ref (aa_f6 K)),
  fun K => HK.eqB (PySem.W.nsIn K mainGlobals "read_deed") (some (some (.ref (aa_f7 K)))),
  fun K => HK.fB K (aa_f7 K) "read_deed" .none,
  fun K => PySem.W.keepIn K (.ref (aa_f7 K)),
  fun K => HK.eqB (PySem.W.nsIn K mainGlobals "_law_pot") (some (some (.ref (aa_f8 K)))),
  fun K => HK.fB K (aa_f8 K) "_law_pot" .none,
  fun K => PySem.W.keepIn K (.ref (aa_f8 K)),
  fun K => HK.eqB (PySem.W.nsIn K mainGlobals "_law_draw") (some (some (.ref (aa_f9 K)))),
  fun K => HK.fB K (aa_f9 K) "_law_draw" .none,
  fun K => PySem.W.keepIn K (.ref (aa_f9 K)),
  fun K => HK.eqB (PySem.W.nsIn K mainGlobals "_law_pick") (some (some (.ref (aa_f10 K)))),
  fun K => HK.fB K (aa_f10 K) "_law_pick" .none,
  fun K => PySem.W.keepIn K (.ref (aa_f10 K))]
def ex1 : List (PySem.W.Frag → Bool) := [
  fun K => HK.eqB (PySem.W.nsIn K mainGlobals "_law_lots") (some (some (.ref (aa_f11 K)))),
  fun K => HK.fB K (aa_f11 K) "_law_lots" .none,
  fun K => PySem.W.keepIn K (.ref (aa_f11 K)),
  fun K => HK.eqB (PySem.W.nsIn K mainGlobals "_law_number") (some (some (.ref (aa_f12 K)))),
  fun K => HK.fB K (aa_f12 K) "_law_number" .none,
  fun K => PySem.W.keepIn K (.ref (aa_f12 K)),
  fun K => HK.eqB (PySem.W.nsIn K mainGlobals "_law_act") (some (some (.ref (aa_f13 K)))),
  fun K => HK.fB K (aa_f13 K) "_law_act" .none,
  fun K => PySem.W.keepIn K (.ref (aa_f13 K)),
  fun K => HK.eqB (PySem.W.nsIn K mainGlobals "_law_spelled") (some (some (.ref (aa_f14 K)))),
  fun K => HK.fB K (aa_f14 K) "_law_spelled" .none,
  fun K => PySem.W.keepIn K (.ref (aa_f14 K)),
  fun K => HK.eqB (PySem.W.nsIn K mainGlobals "_law_integer") (some (some (.ref (aa_f15 K)))),
  fun K => HK.fB K (aa_f15 K) "_law_integer" .none,
  fun K => PySem.W.keepIn K (.ref (aa_f15 K)),
  fun K => HK.eqB (PySem.W.nsIn K mainGlobals "_law_read") (some (some (.ref (aa_f16 K)))),
  fun K => HK.fB K (aa_f16 K) "_law_read" .none,
  fun K => PySem.W.keepIn K (.ref (aa_f16 K)),
  fun K => HK.eqB (PySem.W.nsIn K mainGlobals "_law_bent") (some (some (.ref (aa_f17 K)))),
  fun K => HK.fB K (aa_f17 K) "_law_bent" .none,
  fun K => PySem.W.keepIn K (.ref (aa_f17 K)),
  fun K => HK.eqB (PySem.W.nsIn K mainGlobals "_law_heard") (some (some (.ref (aa_f18 K)))),
  fun K => HK.fB K (aa_f18 K) "_law_heard" .none,
  fun K => PySem.W.keepIn K (.ref (aa_f18 K)),
  fun K => HK.eqB (PySem.W.nsIn K mainGlobals "_law_odd_acts") (some (some (.ref (aa_f19 K)))),
  fun K => HK.fB K (aa_f19 K) "_law_odd_acts" .none,
  fun K => PySem.W.keepIn K (.ref (aa_f19 K)),
  fun K => HK.eqB (PySem.W.nsIn K mainGlobals "_law_act_right") (some (some (.ref (aa_f20 K)))),
  fun K => HK.fB K (aa_f20 K) "_law_act_right" .none,
  fun K => HK.tbB K (aa_cc20 K)]
def ex2 : List (PySem.W.Frag → Bool) := [
  fun K => (K.lookup (aa_pp20 K)).isNone,
  fun K => PySem.W.keepIn K (.ref (aa_f20 K)),
  fun K => HK.eqB (PySem.W.nsIn K mainGlobals "_law_line_right") (some (some (.ref (aa_f21 K)))),
  fun K => HK.fB K (aa_f21 K) "_law_line_right" .none,
  fun K => HK.tbB K (aa_cc21 K),
  fun K => (K.lookup (aa_pp21 K)).isNone,
  fun K => PySem.W.keepIn K (.ref (aa_f21 K)),
  fun K => HK.eqB (PySem.W.nsIn K mainGlobals "_law_right") (some (some (.ref (aa_f22 K)))),
  fun K => HK.fB K (aa_f22 K) "_law_right" .none,
  fun K => HK.tbB K (aa_cc22 K),
  fun K => (K.lookup (aa_pp22 K)).isNone,
  fun K => PySem.W.keepIn K (.ref (aa_f22 K)),
  fun K => HK.eqB (PySem.W.nsIn K mainGlobals "law") (some (some (.ref (aa_f23 K)))),
  fun K => HK.fB K (aa_f23 K) "law" .none,
  fun K => PySem.W.keepIn K (.ref (aa_f23 K)),
  fun K => HK.eqB (PySem.W.nsIn K mainGlobals "InvalidDeed") (some (some (.ref (aa_cx1 K)))),
  fun K => PySem.W.excInitIn K (aa_cx1 K) bm_ValueError "ValueError.__new__",
  fun K => PySem.W.excOver K (aa_cx1 K) bm_ValueError,
  fun K => HK.eqB (PySem.W.findIn K (.ref (aa_cx1 K)) "__setattr__") (some (some (.builtin "object.__setattr__"))),
  fun K => HK.eqB (PySem.W.findIn K (.ref (aa_cx1 K)) "__getattribute__") (some (some (.builtin "BaseException.__getattribute__"))),
  fun K => HK.eqB (PySem.W.findIn K (.ref (aa_cx1 K)) "__getattr__") (some none),
  fun K => HK.eqB (PySem.W.findIn K (.ref (aa_cx1 K)) "__init__") (some (some (.ref (aa_ix1 K)))),
  fun K => PySem.W.isFn K (.ref (aa_ix1 K)),
  fun K => PySem.W.keepIn K (.ref (aa_cx1 K)),
  fun K => HK.eqB (PySem.W.subIn K (.ref (aa_cx1 K)) (.type "BaseException")) (some true),
  fun K => HK.eqB (PySem.W.typeIn K (.ref (aa_cx1 K))) (some (.type "type")),
  fun K => PySem.W.hasDictIn K (aa_cx1 K),
  fun K => HK.fBN K (aa_ix1 K) "InvalidDeed.__init__" .none,
  fun K => HK.eqB (PySem.W.takerIn K (aa_cx1 K) "value") (some none),
  fun K => HK.eqB (PySem.W.findIn K (.ref (aa_cx1 K)) "value") (some none)]
def ex3 : List (PySem.W.Frag → Bool) := [
  fun K => HK.eqB (PySem.W.nsIn K mainGlobals "InvalidText") (some (some (.ref (aa_cx2 K)))),
  fun K => PySem.W.excInitIn K (aa_cx2 K) bm_ValueError "ValueError.__new__",
  fun K => PySem.W.excOver K (aa_cx2 K) bm_ValueError,
  fun K => HK.eqB (PySem.W.findIn K (.ref (aa_cx2 K)) "__setattr__") (some (some (.builtin "object.__setattr__"))),
  fun K => HK.eqB (PySem.W.findIn K (.ref (aa_cx2 K)) "__getattribute__") (some (some (.builtin "BaseException.__getattribute__"))),
  fun K => HK.eqB (PySem.W.findIn K (.ref (aa_cx2 K)) "__getattr__") (some none),
  fun K => HK.eqB (PySem.W.findIn K (.ref (aa_cx2 K)) "__init__") (some (some (.ref (aa_ix2 K)))),
  fun K => PySem.W.isFn K (.ref (aa_ix2 K)),
  fun K => PySem.W.keepIn K (.ref (aa_cx2 K)),
  fun K => HK.eqB (PySem.W.subIn K (.ref (aa_cx2 K)) (.type "BaseException")) (some true),
  fun K => HK.eqB (PySem.W.typeIn K (.ref (aa_cx2 K))) (some (.type "type")),
  fun K => PySem.W.hasDictIn K (aa_cx2 K),
  fun K => HK.fBN K (aa_ix2 K) "InvalidText.__init__" .none,
  fun K => HK.eqB (PySem.W.takerIn K (aa_cx2 K) "line") (some none),
  fun K => HK.eqB (PySem.W.findIn K (.ref (aa_cx2 K)) "line") (some none),
  fun K => HK.eqB (PySem.W.nsIn K mainGlobals "WayError") (some (some (.ref (aa_cb_WayError K)))),
  fun K => HK.eqB (PySem.W.specialIn K (.builtin "object.__class__") "__get__") (some (some (.builtin "getset_descriptor.__get__"))),
  fun K => HK.eqB (PySem.W.takesIn K (.builtin "object.__class__")) (some true),
  fun K => HK.eqB (PySem.W.findIn K (.ref (aa_cx1 K)) "__class__") (some (some (.builtin "object.__class__"))),
  fun K => HK.eqB (PySem.W.mroIn K (aa_cx1 K) (.type "object")) (some true),
  fun K => HK.eqB (PySem.W.kitOne K (.ref (aa_cx1 K)) (.ref (aa_cb_WayError K))) (some true),
  fun K => HK.eqB (PySem.W.findIn K (.ref (aa_cx2 K)) "__class__") (some (some (.builtin "object.__class__"))),
  fun K => HK.eqB (PySem.W.mroIn K (aa_cx2 K) (.type "object")) (some true),
  fun K => HK.eqB (PySem.W.kitOne K (.ref (aa_cx2 K)) (.ref (aa_cb_WayError K))) (some true),
  fun K => PySem.W.isClsIn K (aa_cx1 K),
  fun K => HK.eqB (PySem.W.subIn K (.ref (aa_cx1 K)) (.ref (aa_cx1 K))) (some true),
  fun K => HK.eqB (PySem.W.subIn K (.ref (aa_cx2 K)) (.ref (aa_cx1 K))) (some false),
  fun K => PySem.W.isClsIn K (aa_cx2 K),
  fun K => HK.eqB (PySem.W.subIn K (.ref (aa_cx2 K)) (.ref (aa_cx2 K))) (some true),
  fun K => HK.eqB (PySem.W.nsIn K mainGlobals "abs") (some none)]
def ex4 : List (PySem.W.Frag → Bool) := [
  fun K => HK.eqB (PySem.W.nsIn K mainGlobals "all") (some none),
  fun K => HK.eqB (PySem.W.nsIn K mainGlobals "bool") (some none),
  fun K => HK.eqB (PySem.W.nsIn K mainGlobals "divmod") (some none),
  fun K => HK.eqB (PySem.W.nsIn K mainGlobals "int") (some none),
  fun K => HK.eqB (PySem.W.nsIn K mainGlobals "isinstance") (some none),
  fun K => HK.eqB (PySem.W.nsIn K mainGlobals "len") (some none),
  fun K => HK.eqB (PySem.W.nsIn K mainGlobals "list") (some none),
  fun K => HK.eqB (PySem.W.nsIn K mainGlobals "max") (some none),
  fun K => HK.eqB (PySem.W.nsIn K mainGlobals "min") (some none),
  fun K => HK.eqB (PySem.W.nsIn K mainGlobals "range") (some none),
  fun K => HK.eqB (PySem.W.nsIn K mainGlobals "repr") (some none),
  fun K => HK.eqB (PySem.W.nsIn K mainGlobals "str") (some none),
  fun K => HK.eqB (PySem.W.nsIn K mainGlobals "tuple") (some none),
  fun K => HK.nsB K "DIGITS" (.str "0123456789"),
  fun K => HK.eqB (PySem.W.nsIn K mainGlobals "DEED_SIZES") (some (some (.ref (aa_T_DEED_SIZES K)))),
  fun K => dkB K (aa_T_DEED_SIZES K) [("group", 1), ("limit", 2), ("strike", 1), ("take", 2), ("give", 2), ("move", 3), ("lift", 2), ("settle", 2), ("step", 1)],
  fun K => !HK.eqB ((aa_pp20 K)) ((aa_pp21 K)),
  fun K => !HK.eqB ((aa_pp20 K)) ((aa_pp22 K)),
  fun K => !HK.eqB ((aa_pp21 K)) ((aa_pp22 K))]
def ex : List (PySem.W.Frag → Bool) := ex0 ++ (ex1 ++ (ex2 ++ (ex3 ++ (ex4))))
def ats0 : List HK.At := [
  fun K => (aa_f1 K),
  fun K => (aa_f2 K),
  fun K => (aa_f3 K),
  fun K => (aa_f4 K),
  fun K => (aa_f5 K),
  fun K => (aa_f6 K),
  fun K => (aa_f7 K),
  fun K => (aa_f8 K),
  fun K => (aa_f9 K),
  fun K => (aa_f10 K),
  fun K => (aa_f11 K),
  fun K => (aa_f12 K),
  fun K => (aa_f13 K),
  fun K => (aa_f14 K),
  fun K => (aa_f15 K),
  fun K => (aa_f16 K),
  fun K => (aa_f17 K),
  fun K => (aa_f18 K),
  fun K => (aa_f19 K),
  fun K => (aa_f20 K),
  fun K => (aa_f21 K),
  fun K => (aa_f22 K),
  fun K => (aa_f23 K),
  fun K => (aa_ix1 K),
  fun K => (aa_ix2 K)]
def ats : List HK.At := ats0
def fvs0 : List He.FnW := [
  some ("is_an_integer", "is_an_integer", defArgs s_is_an_integer, .stmts (defBody s_is_an_integer), defScope s_is_an_integer, mainGlobals, [], builtinsNs),
  some ("is_deed", "is_deed", defArgs s_is_deed, .stmts (defBody s_is_deed), defScope s_is_deed, mainGlobals, [], builtinsNs),
  some ("is_numeral", "is_numeral", defArgs s_is_numeral, .stmts (defBody s_is_numeral), defScope s_is_numeral, mainGlobals, [], builtinsNs),
  some ("line_from", "line_from", defArgs s_line_from, .stmts (defBody s_line_from), defScope s_line_from, mainGlobals, [], builtinsNs),
  some ("line_of", "line_of", defArgs s_line_of, .stmts (defBody s_line_of), defScope s_line_of, mainGlobals, [], builtinsNs),
  some ("deed_from", "deed_from", defArgs s_deed_from, .stmts (defBody s_deed_from), defScope s_deed_from, mainGlobals, [], builtinsNs),
  some ("read_deed", "read_deed", defArgs s_read_deed, .stmts (defBody s_read_deed), defScope s_read_deed, mainGlobals, [], builtinsNs),
  some ("_law_pot", "_law_pot", defArgs s_Lpot, .stmts (defBody s_Lpot), defScope s_Lpot, mainGlobals, [], builtinsNs),
  some ("_law_draw", "_law_draw", defArgs s_Ldraw, .stmts (defBody s_Ldraw), defScope s_Ldraw, mainGlobals, [], builtinsNs),
  some ("_law_pick", "_law_pick", defArgs s_Lpick, .stmts (defBody s_Lpick), defScope s_Lpick, mainGlobals, [], builtinsNs),
  some ("_law_lots", "_law_lots", defArgs s_Llots, .stmts (defBody s_Llots), defScope s_Llots, mainGlobals, [], builtinsNs),
  some ("_law_number", "_law_number", defArgs s_Lnumber, .stmts (defBody s_Lnumber), defScope s_Lnumber, mainGlobals, [], builtinsNs),
  some ("_law_act", "_law_act", defArgs s_Lact, .stmts (defBody s_Lact), defScope s_Lact, mainGlobals, [], builtinsNs),
  some ("_law_spelled", "_law_spelled", defArgs s_Lspelled, .stmts (defBody s_Lspelled), defScope s_Lspelled, mainGlobals, [], builtinsNs),
  some ("_law_integer", "_law_integer", defArgs s_Linteger, .stmts (defBody s_Linteger), defScope s_Linteger, mainGlobals, [], builtinsNs),
  some ("_law_read", "_law_read", defArgs s_Lread, .stmts (defBody s_Lread), defScope s_Lread, mainGlobals, [], builtinsNs),
  some ("_law_bent", "_law_bent", defArgs s_Lbent, .stmts (defBody s_Lbent), defScope s_Lbent, mainGlobals, [], builtinsNs),
  some ("_law_heard", "_law_heard", defArgs s_Lheard, .stmts (defBody s_Lheard), defScope s_Lheard, mainGlobals, [], builtinsNs),
  some ("_law_odd_acts", "_law_odd_acts", defArgs s_Lodd_acts, .stmts (defBody s_Lodd_acts), defScope s_Lodd_acts, mainGlobals, [], builtinsNs),
  some ("_law_act_right", "_law_act_right", defArgs s_Lact_right, .stmts (defBody s_Lact_right), defScope s_Lact_right, mainGlobals, [], builtinsNs),
  some ("_law_line_right", "_law_line_right", defArgs s_Lline_right, .stmts (defBody s_Lline_right), defScope s_Lline_right, mainGlobals, [], builtinsNs),
  some ("_law_right", "_law_right", defArgs s_Lright, .stmts (defBody s_Lright), defScope s_Lright, mainGlobals, [], builtinsNs),
  some ("law", "law", defArgs s_law, .stmts (defBody s_law), defScope s_law, mainGlobals, [], builtinsNs),
  some ("__init__", "InvalidDeed.__init__", defArgs s_E_InvalidDeed, .stmts (defBody s_E_InvalidDeed), defScope s_E_InvalidDeed, mainGlobals, [], builtinsNs),
  some ("__init__", "InvalidText.__init__", defArgs s_E_InvalidText, .stmts (defBody s_E_InvalidText), defScope s_E_InvalidText, mainGlobals, [], builtinsNs)]
def fvs : List He.FnW := fvs0
def tbs : List He.Tab := [(fun K => (aa_T_DEED_SIZES K), ["group", "limit", "strike", "take", "give", "move", "lift", "settle", "step"])]
def ls0 : List Str := ["is_an_integer", "WayError", "InvalidDeed", "InvalidText", "DEED_SIZES", "is_deed", "DIGITS", "is_numeral", "line_from", "line_of", "deed_from", "read_deed", "_law_pot", "_law_draw", "_law_pick", "_law_lots", "_law_number", "_law_act", "_law_spelled", "_law_integer", "_law_read", "_law_bent", "_law_heard", "_law_odd_acts"]
def loose : List Str := ls0
abbrev R : PySem.W.OpenRow := PySem.W.OpenLaw.row PySem.Challenge.rw_chargeways_k92_lines_of_deeds
def as : List Addr := (List.range 1000).reverse
abbrev hk : PySem.W.Hook := HK.hook as ats fvs tbs ex
def ob (s : PySem.W.SharedT) : HK.Al := HK.obsM as ats tbs ex (HandSHeadRun.getT s)
theorem ob_eq (s : PySem.W.SharedT) : ob s = hk.obs s.abs := HK.obs_eq (HandSHeadRun.getT_eq s)
set_option maxHeartbeats 0 in
theorem run_f (w : World) : HandSHeadRun.RunEq R (PySem.W.view R.prog [30, 31, 32, 33]) hk ob 20000 loose (w.withFollow "special-get-raises" false) := by
  intro os
  kernel_rfl
set_option maxHeartbeats 0 in
theorem run_t (w : World) : HandSHeadRun.RunEq R (PySem.W.view R.prog [30, 31, 32, 33]) hk ob 20000 loose (w.withFollow "special-get-raises" true) := by
  intro os
  kernel_rfl
theorem run : ∀ w : World, HandSHeadRun.RunEq R (PySem.W.view R.prog [30, 31, 32, 33]) hk ob 20000 loose w := PySem.W.byRow2 "special-get-raises" (P := fun w => HandSHeadRun.RunEq R (PySem.W.view R.prog [30, 31, 32, 33]) hk ob 20000 loose w) run_f run_t
end Hd
/-! parents, ways, zones -/
namespace My
/-- the parents of the groups 1, 2, .. : each one ahead of its child -/
def Good (ps : List Nat) : Prop := ∀ i, i < ps.length → ps.getD i 0 ≤ i
def up (ps : List Nat) (g : Nat) : Nat := ps.getD (g - 1) 0
theorem Good.nil : Good [] := fun i h => absurd h (Nat.not_lt_zero i)
theorem Good.range (n : Nat) : Good (List.range n) := by
  intro i hi
  rw [List.length_range] at hi
  rw [List.getD_eq_getElem?_getD, List.getElem?_range hi]
  exact Nat.le_refl _
end My
namespace My
open PySem PySem.Spec PyProof.Rows L2 GL Evl StX SkE
/-! ### draws -/
def sp_Lpick : Sp := fun vs H Q _ => ∃ a l, ∃ xs : List V, vs = [.ref a, .ref l] ∧ PotAt H a ∧ l ≠ a ∧ H l = some (.lst xs) ∧ 1 ≤ xs.length ∧ xs.length ≤ 1000 ∧ ∀ H' v, ExB a H H' → PotAt H' a → v ∈ xs → Q v H'
section
variable {P : Program} {w : World} {K : PySem.W.Frag} {mg : Str → Option Value} {base : Heap} {C : Addr} {H H' : Hp} {σ : L2.St} {te tb ta : TE} {tA : TA} {E : XK} {D : Ends} {tz : TS} {a b d : Addr} {xs ys : List V}
theorem ok_Ldraw (T : Txt K mg w)  : FnG P w K mg base CX0 1 T.f_Ldraw T.fd_Ldraw ["_law_pot_here", "_law_sides"] sp_Ldraw := by
  skip
  refine okG T.F_Ldraw sc_Ldraw (fun vs H Q E h => ?_) (fun cdv A outer s H vs Q E gd hr h => ?_)
  · obtain ⟨_, _, rfl, _⟩ := h
    all_goals rfl
  · obtain ⟨a, n, rfl, ⟨x, y, hx, hx0, hy0, hy1⟩, hn, hn2, q⟩ := h
    refine ⟨_, (pss_cons (ps_if (pt_cmpR op_gt (pe_ix ix_list (pv 0) pe_int (fun _ _ => rfl)) pe_int (nomark _)) (pss_cons (ps_asg (pe_callB call_divmodW (by rfl) T.z_divmod boot_divmod (pa_cons (pe_ix ix_list (pv 0) pe_int (fun _ _ => rfl)) (pa_cons (pv 1) pa_nil))) (pg_tup rfl (pgs_cons (pg_sub (pv 0) pe_int set_list) (pgs_cons (pg_name (i := 2) sc_Ldraw.nd rfl (Or.inl rfl) (Or.inr rfl)) pgs_nil)))) (pss_one (ps_ret (pv 2)))) pss_nil) (pss_cons (ps_asg (pe_op op_mod (pe_callTy call_int1 (by rfl) T.z_int (by decide +kernel) (pa_cons (pe_op op_add (pe_op op_mul (pe_ix ix_list (pv 0) pe_int (fun _ _ => rfl)) pe_int) pe_int) pa_nil)) pe_int) (pg_sub (pv 0) pe_int set_list)) (pss_one (ps_ret (pe_op op_mod (pe_callTy call_int1 (by rfl) T.z_int (by decide +kernel) (pa_cons (pe_op op_fdiv (pe_op op_mod (pe_callTy call_int1 (by rfl) T.z_int (by decide +kernel) (pa_cons (pe_op op_mul (pe_ix ix_list (pv 0) pe_int (fun _ _ => rfl)) (pe_ix ix_list (pv 0) pe_int (fun _ _ => rfl))) pa_nil)) pe_int) pe_int) pa_nil)) (pv 1)))))), ?_⟩
    have at0 : ∀ H1, H1 a = some (.lst [.int x, .int y]) → Ev (tOp (rIxL K) (tVar 0) (tC (.int 0))) [some (.ref a), some (nV n), none] H1 (.int x) := fun H1 h => ev_op (ev_var rfl) ev_c (rv_ixL (sq_of h) (atI_nat (j := 0) rfl))
    refine q_when (et_test (ev_op (at0 _ hx) ev_c rv_I0)) (fun hb H1 e1 => ?_) fun hb H1 e1 => ?_
    · refine q_asgR (cb_raw (ea_cons (at0 _ (e1 _ _ hx)) (ea_cons (ev_var rfl) ea_nil)) fun H2 e2 => ⟨x, n, rfl, ⟨by omega, no_pylong hn2⟩, fun p hp => ?_⟩)
      have hx2 := e2 _ _ (e1 _ _ hx)
      have nap : a ≠ p := ne_of_none hx2 hp
      have hx3 : (upd H2 p (.tup [.int (x / n), .int (x % n)])) a = some (.lst [.int x, .int y]) := by
        rw [upd_ne nap]
        exact hx2
      refine ⟨p, _, rfl, st_of upd_same, rfl, _, _, rfl, _, rfl, a, _, 0, 0, rfl, rfl, hx3, rfl, _, _, rfl, rfl, ?_⟩
      have hlo := Int.emod_nonneg x (show (n : Int) ≠ 0 by omega)
      have hhi := Int.emod_lt_of_pos x (show (0 : Int) < n by omega)
      have hq := Int.ediv_nonneg hx0 (show (0 : Int) ≤ n by omega)
      refine s_ret (v := nV (x % n).toNat) (ev_is (ev_var rfl) (by show V.int _ = V.int _; congr 1; omega)) fun H4 e4 => q H4 _ ?_ ?_ (by omega)
      · exact (((ExB.of (e1.trans e2)).trans (ExB.of (Ex.new hp))).trans ExB.set).trans (ExB.of e4)
      · exact ⟨_, _, e4 _ _ upd_same, hq, hy0, hy1⟩
    · have at1 : ∀ H1 z, H1 a = some (.lst [.int x, .int z]) → Ev (tOp (rIxL K) (tVar 0) (tC (.int 1))) [some (.ref a), some (nV n), none] H1 (.int z) := fun H1 z h => ev_op (ev_var rfl) ev_c (rv_ixL (sq_of h) (atI_nat (j := 1) rfl))
      have h1 := e1 _ _ hx
      refine q_asgR (ev_raw (ev_op (ev_cb (ea_cons (ev_op (ev_op (at1 H1 y h1) ev_c (rv_I (.inl ⟨by omega, by omega⟩))) ev_c rv_I0) ea_nil) rc_int) ev_c (rv_I (by show (0 : Int) < 2147483549; omega))) fun H2 e2 => ?_)
      refine ⟨_, rfl, a, _, 1, 1, rfl, rfl, e2 _ _ h1, rfl, ?_⟩
      have b0 := Int.emod_nonneg (y * 40009 + 17011) (show (2147483549 : Int) ≠ 0 by omega)
      have b1 := Int.emod_lt_of_pos (y * 40009 + 17011) (show (0 : Int) < 2147483549 by omega)
      generalize (y * 40009 + 17011) % 2147483549 = z at b0 b1
      have h3 : (upd H2 a (.lst [.int x, .int z])) a = some (.lst [.int x, .int z]) := upd_same
      have x3 : ExB a H (upd H2 a (.lst [.int x, .int z])) := (ExB.of (e1.trans e2)).trans ExB.set
      show tRet _ _ _ _
      refine s_ret (v := nV ((z * z % 2147483587 / 11) % n).toNat) (ev_is (ev_op (ev_cb (ea_cons (ev_op (ev_op (ev_cb (ea_cons (ev_op (at1 _ z h3) (at1 _ z h3) (rv_I (.inl ⟨by omega, by omega⟩))) ea_nil) rc_int) ev_c (rv_I (by show (0 : Int) < 2147483587; omega))) ev_c (rv_I ⟨by decide, by decide⟩)) ea_nil) rc_int) (ev_var rfl) (rv_I (by show (0 : Int) < n; omega))) ?_) fun H4 e4 => q H4 _ (x3.trans (ExB.of e4)) ⟨x, z, e4 _ _ h3, hx0, b0, by omega⟩ ?_
      · have := Int.emod_nonneg (z * z % 2147483587 / 11) (show (n : Int) ≠ 0 by omega)
        show V.int _ = V.int _
        congr 1
        omega
      · have := Int.emod_lt_of_pos (z * z % 2147483587 / 11) (show (0 : Int) < n by omega)
        have := Int.emod_nonneg (z * z % 2147483587 / 11) (show (n : Int) ≠ 0 by omega)
        omega
theorem ok_Lpot (T : Txt K mg w)  : FnG P w K mg base CX0 1 T.f_Lpot T.fd_Lpot ["_law_script", "_law_k"] (sp_Lpot K) := by
  skip
  refine okG T.F_Lpot sc_Lpot (fun vs H Q E h => ?_) (fun cdv A outer s H vs Q E gd hr h => ?_)
  · obtain ⟨_, _, _, rfl, _⟩ := h
    all_goals rfl
  · obtain ⟨a, ns, k, rfl, hs, hl, hk, q⟩ := h
    refine ⟨_, (pss_cons (ps_set (i := 2) sc_Lpot.nd rfl (Or.inl rfl) (pe_op op_add (pe_op op_mul pe_int (pv 1)) pe_int)) (Evl.pss_cut (ps_if (pt_cmpR op_lt (pv 1) (pe_callB call_len_seq (by rfl) T.z_len PySem.boot_len (pa_cons (pv 0) pa_nil)) (nomark _)) (pss_one (ps_set (i := 2) sc_Lpot.nd rfl (Or.inl rfl) (pe_callB call_abs (by rfl) T.z_abs boot_abs (pa_cons (pe_ix ix_list (pv 0) (pv 1) (fun _ _ => rfl)) pa_nil)))) pss_nil) (pss_one (ps_ret (pe_lst (pa_cons (pe_callB (call_max2 rfl) (by rfl) T.z_max boot_max (pa_cons pe_int (pa_cons (pe_op op_sub (pv 2) (pe_op op_pow pe_int pe_int)) pa_nil))) (pa_cons (pe_op op_add (pe_op op_mod (pe_op op_mul (pe_callTy call_int1 (by rfl) T.z_int (by decide +kernel) (pa_cons (pe_op op_add (pe_op op_mod (pe_callTy call_int1 (by rfl) T.z_int (by decide +kernel) (pa_cons (pv 2) pa_nil)) pe_int) pe_int) pa_nil)) (pe_op op_pow (pe_op op_add (pe_op op_mul pe_int (pv 1)) pe_int) pe_int)) pe_int) pe_int) pa_nil))))))), ?_⟩
    refine q_asg (ev_op (ev_op ev_c (ev_var rfl) (rv_I (.inl ⟨by omega, by omega⟩))) ev_c rv_I0) fun H1 e1 => ?_
    refine q_cut (M := fun σ' H' => Ex H H' ∧ ∃ c : Int, 0 ≤ c ∧ σ' = [some (.ref a), some (.int (k : Int)), some (.int c)]) ?_ fun σ' H' z => ?_
    · refine s_when (et_test (ev_op (ev_var rfl) (ev_cb (ea_cons (ev_var rfl) ea_nil) (rc_lenL (ex_l e1 hs))) rv_I0)) (fun hb H2 e2 => ?_) fun hb H2 e2 => ⟨e1.trans e2, _, ?_, rfl⟩
      · have hlt : k < ns.length := by
          have := of_decide_eq_true hb
          rw [List.length_map] at this
          omega
        refine s_asg (ev_cb (ea_cons (ev_op (ev_var rfl) (ev_var rfl) (rv_ixL (ex_l (e1.trans e2) hs) (atI_nat (v := .int ns[k]) (by rw [List.getElem?_map, List.getElem?_eq_getElem hlt]; rfl)))) ea_nil) rc_abs) fun H3 e3 => ⟨e1.trans (e2.trans e3), _, ?_, rfl⟩
        split <;> omega
      · omega
    · obtain ⟨x2, c, hc, rfl⟩ := z
      have m0 := Int.emod_nonneg c (show (2147483543 : Int) ≠ 0 by omega)
      have m1 := Int.emod_lt_of_pos c (show (0 : Int) < 2147483543 by omega)
      refine s_retL (xs := [.int (if c - 10 ^ (18 : Int).toNat > 0 then c - 10 ^ (18 : Int).toNat else 0), .int ((c % 2147483543 + 7) * (2 * (k : Int) + 3) ^ (3 : Int).toNat % 2147483489 + 1)])
        (el_lst (ea_cons (ev_cb (ea_cons ev_c (ea_cons (ev_op (ev_var rfl) (ev_op ev_c ev_c (rv_I ⟨by decide, by decide, by decide⟩)) rv_I0) ea_nil)) rc_max2) (ea_cons (ev_op (ev_op (ev_op (ev_cb (ea_cons (ev_op (ev_op (ev_cb (ea_cons (ev_var rfl) ea_nil) rc_int) ev_c (rv_I (by show (0 : Int) < 2147483543; omega))) ev_c rv_I0) ea_nil) rc_int)
          (ev_op (ev_op (ev_op ev_c (ev_var rfl) (rv_I (.inl ⟨by omega, by omega⟩))) ev_c rv_I0) ev_c (rv_I ⟨by decide, by decide, by omega⟩)) (rv_I (.inl ⟨by omega, by omega⟩))) ev_c (rv_I (by show (0 : Int) < 2147483489; omega))) ev_c rv_I0) ea_nil)) (by show 2 ≤ 100000; omega)) fun p H3 hp e3 h3 => q H3 p (fresh_back x2 hp) (x2.trans e3) ⟨_, _, h3, ?_, ?_, ?_⟩
      · split <;> omega
      · have := Int.emod_nonneg ((c % 2147483543 + 7) * (2 * (k : Int) + 3) ^ (3 : Int).toNat) (show (2147483489 : Int) ≠ 0 by omega)
        omega
      · have := Int.emod_lt_of_pos ((c % 2147483543 + 7) * (2 * (k : Int) + 3) ^ (3 : Int).toNat) (show (0 : Int) < 2147483489 by omega)
        omega
theorem ok_Lpick (T : Txt K mg w) (G_Ldraw : FnG P w K mg base CX0 1 T.f_Ldraw T.fd_Ldraw ["_law_pot_here", "_law_sides"] sp_Ldraw) : FnG P w K mg base CX0 2 T.f_Lpick T.fd_Lpick ["_law_pot_here", "_law_some"] sp_Lpick := by
  skip
  refine okG T.F_Lpick sc_Lpick (fun vs H Q E h => ?_) (fun cdv A outer s H vs Q E gd hr h => ?_)
  · obtain ⟨_, _, _, rfl, _⟩ := h
    all_goals rfl
  · obtain ⟨a, l, xs, rfl, hp, nla, hl, h1, h2, q⟩ := h
    refine ⟨_, (pss_one (ps_ret (pe_ix ix_list (pv 1) (pc gd G_Ldraw (hr.mono (by decide)) (by rfl) T.m_Ldraw T.F_Ldraw.kp T.b_Ldraw .nil pass0 (pa_cons (pv 0) (pa_cons (pe_callB call_len_seq (by rfl) T.z_len PySem.boot_len (pa_cons (pv 1) pa_nil)) pa_nil))) (fun _ _ => rfl)))), ?_⟩
    refine s_retR (op_raw (ev_raw (ev_var (v := .ref l) rfl) fun H1 e1 => ?_))
    refine dr (n := xs.length) (ea_cons (ev_var rfl) (ea_cons (ev_len (ev_var rfl) (sq_of (e1 _ _ hl))) ea_nil)) (hp.ex e1) h1 h2 fun H2 d x2 p2 hd => ?_
    exact ⟨l, xs, (d : Int), xs[d], rfl, rfl, sq_of (x2 _ _ nla (e1 _ _ hl)), atI_nat (List.getElem?_eq_getElem hd), q H2 _ ((ExB.of e1).trans x2) p2 (List.getElem_mem hd)⟩
end
end My
namespace My
open PySem PySem.Spec PyProof.Rows L2 GL Evl StX SkE
theorem given_take {α : Type} (l : List α) (p : α → Bool) (g : α → V) : ∀ n, n ≤ l.length → given n (fun i => (l[i]?.map p).getD false) (fun i => (l[i]?.map g).getD .non) = ((l.take n).filter p).map g
  | 0, _ => rfl
  | n + 1, h => by
    have ih := given_take l p g n (by omega)
    have e2 : l[n]? = some l[n] := List.getElem?_eq_getElem (by omega)
    rw [List.take_add_one, e2, List.filter_append, List.map_append, ← ih]
    by_cases hp : p l[n] = true
    · rw [given_yes (by rw [e2]; exact hp)]
      congr 1
      · rw [e2]
        show _ = List.map g (List.filter p [l[n]])
        rw [List.filter_cons_of_pos hp]
        rfl
    · have hp' : p l[n] = false := by simpa using hp
      rw [given_no (by rw [e2]; exact hp')]
      show _ = _ ++ List.map g (List.filter p [l[n]])
      rw [List.filter_cons_of_neg hp]
      simp
theorem given_of {α : Type} (l : List α) (p : α → Bool) (g : α → V) : given l.length (fun i => (l[i]?.map p).getD false) (fun i => (l[i]?.map g).getD .non) = (l.filter p).map g := by
  rw [given_take l p g l.length (Nat.le_refl _), List.take_length]
theorem filter_yes {α : Type} (l : List α) : l.filter (fun _ => true) = l := List.filter_eq_self.mpr fun _ _ => rfl
theorem cbl {a b : Bool} (h : a = b) : V.bl a = V.bl b := congrArg V.bl h
theorem sum_len {ts : List Str} {B : Nat} (h : ∀ t ∈ ts, t.length ≤ B) : (ts.map (·.length)).sum ≤ ts.length * B := by
  induction ts with
  | nil => simp
  | cons t ts ih =>
    have h1 := h t List.mem_cons_self
    have h2 := ih fun x hx => h x (List.mem_cons_of_mem _ hx)
    rw [List.map_cons, List.sum_cons, List.length_cons, Nat.add_mul, Nat.one_mul]
    omega
section
variable {K : PySem.W.Frag} {σ : L2.St} {H H' : Hp} {te tl tb ta : TE} {t tt : TT} {a : Addr} {j : Nat} {vs : List Nat} {xs : List V} {v x : V} {D : Ends} {tz : TS} {tA : TA} {Q : VK}
theorem el_lcT (f : Nat → Bool) (g : Nat → V) (h : Ev tl σ H (.ref a)) (hx : SqT K H a xs) (hz : xs.length ≤ 40000) (hw : ∀ x, wipe ((wipe σ vs).set j (some x)) vs = wipe σ vs)
    (ht : ∀ (i : Nat) (x : V) H1, Ex H H1 → xs[i]? = some x → EvT t ((wipe σ vs).set j (some x)) H1 (f i)) (he : ∀ (i : Nat) (x : V) H1, Ex H H1 → xs[i]? = some x → f i = true → Ev te ((wipe σ vs).set j (some x)) H1 (g i)) :
    EvL (tLc (iTup K tl) (gName j) t te vs) σ H (given xs.length f g) := fun H0 e Q q => h H0 e _ fun H1 e1 => ⟨a, rfl, ⟨xs, ex_t (e.trans e1) hx⟩, fun Dl hD =>
  lc_it (walk_tup (K := K) (a := a) (xs := xs)) (Cw H1 f g Dl) ⟨hD, Ex.new hD, upd_same⟩ (fun i H' _ p => ex_t ((e.trans e1).trans p.2.1) hx) (fun i x H' H2 hi p y => by
    obtain ⟨rfl, hx'⟩ := y
    exact ⟨hw x, cw_turn p (by omega) (ht i x H1 (e.trans e1) hx') (fun hf => he i x H1 (e.trans e1) hx' hf)⟩)
    (fun H' p => q Dl H' (fresh_back e1 p.1) (e1.trans p.2.1) p.2.2)⟩
theorem lc_R1 {j : Nat} {vs : List Nat} {n : Nat} {Q : VK} (Pv : Addr → Nat → Hp → Prop) (h : EvA tA σ H [nV n]) (hn : n ≤ 40000) (h0 : ∀ H1 Dl, Ex H H1 → H1 Dl = none → Pv Dl 0 (upd H1 Dl (.lst [])))
    (hs : ∀ Dl (i : Nat) H', i < n → Pv Dl i H' → wipe ((wipe σ vs).set j (some (nV i))) vs = wipe σ vs ∧ t ((wipe σ vs).set j (some (nV i))) H' fun b H3 => if b = true then te ((wipe σ vs).set j (some (nV i))) H3 fun y H4 => ∃ acc, H4 Dl = some (.lst acc) ∧ acc.length < sizeLine ∧ Pv Dl (i + 1) (upd H4 Dl (.lst (acc ++ [y]))) else Pv Dl (i + 1) H3)
    (hd : ∀ Dl H', Pv Dl n H' → Q (.ref Dl) H') : tLc (iRng1 tA) (gName j) t te vs σ H Q := h H (Ex.refl H) _ fun H1 e1 => ⟨(n : Int), rfl, by omega, by omega, fun Dl hD =>
  lc_range (lo := 0) (n := (n : Int).toNat) (Pv Dl) (h0 H1 Dl e1 hD) (fun i H' hi p => by
    have e0 : (0 : Int) + (i : Int) = (i : Int) := Int.zero_add _
    rw [e0]
    exact hs Dl i H' (by omega) p) (fun H' p => hd Dl H' (by rwa [Int.toNat_natCast] at p))⟩
theorem cons_raw {QA : List V → Hp → Prop} (h : Ev te σ H x) (k : ∀ H1, Ex H H1 → tA σ H1 fun vs H2 => QA (x :: vs) H2) : tCons te tA σ H QA := h H (Ex.refl H) _ k
theorem cb1_raw {rr : List V → Hp → VK → Prop} (h : te σ H fun v H1 => rr [v] H1 Q) : tCB rr (tCons te tNil) σ H Q := h
theorem lst_raw (h : tA σ H fun xs H1 => xs.length ≤ sizeLine ∧ ∀ p, H1 p = none → Q (.ref p) (upd H1 p (.lst xs))) : tLst tA σ H Q := h
theorem cons1_raw {QA : List V → Hp → Prop} (h : te σ H fun x H1 => QA [x] H1) : tCons te tNil σ H QA := h
theorem cons_rw {QA : List V → Hp → Prop} (h : te σ H fun x H1 => tA σ H1 fun vs H2 => QA (x :: vs) H2) : tCons te tA σ H QA := h
theorem tupx_rawX (h : tA σ H fun xs H1 => xs.length ≤ sizeLine ∧ ∀ p o, H1 p = none → Bare o → Q (.ref p) (upd H1 p (.frz o (.tup xs)))) : tTupX tA σ H Q := h
theorem frz_t {r : Addr} {ob : Obj} (h : H r = some (.frz ob (.tup xs))) : SqT K H r xs := .inl (.inr ⟨ob, h⟩)
theorem call_raw0 {sp : Sp} {E : XK} (h : tA σ H fun vs H1 => sp (vs ++ []) H1 Q E) : tCall sp [] E tA σ H Q := h
theorem q_ifRM {tu tw : TS} (h : tt σ H fun b H1 => if b = true then tu { D with nx := tz D } σ H1 else tw { D with nx := tz D } σ H1) : tSeq (tIfS tt tu tw) tz D σ H := h
theorem ifs_raw {tu tw : TS} (h : tt σ H fun b H1 => if b = true then tu D σ H1 else tw D σ H1) : tIfS tt tu tw D σ H := h
theorem not_raw {QB : Bool → Hp → Prop} (h : t σ H fun c H1 => QB (!c) H1) : tNot t σ H QB := h
theorem B_raw {QB : Bool → Hp → Prop} (h : te σ H fun x H1 => ∃ c, x = .bl c ∧ QB c H1) : tB te σ H QB := h
theorem or_raw {u : TT} {QB : Bool → Hp → Prop} (h : t σ H fun c H1 => if c = true then QB true H1 else u σ H1 QB) : tOr t u σ H QB := h
theorem and_rawX {u : TT} {QB : Bool → Hp → Prop} (h : t σ H fun c H1 => if c = true then u σ H1 QB else QB false H1) : tAnd t u σ H QB := h
theorem nil_raw {QA : List V → Hp → Prop} (h : QA [] H) : tNil σ H QA := h
theorem if_rawF (h : EvT tt σ H false) (k : ∀ H1, Ex H H1 → tb σ H1 Q) : tIf tt ta tb σ H Q := h H (Ex.refl H) _ fun H1 e => k H1 e
theorem rc_lenT {p : Addr} (h : SqT K H p xs) : RC (rLenS K) [.ref p] H (.int (xs.length : Int)) := fun H1 e Q q => ⟨p, xs, rfl, .inr (ex_t e h), q H1 (Ex.refl H1)⟩
end
end My
namespace My
open PySem PySem.Spec PyProof.Rows L2 GL Evl StX SkE
/-! ### numbers in decimal, lines of words -/
theorem joinL_len (S : List Nat) : ∀ ps : List (List Nat), (TL.joinL S ps).length ≤ (ps.map List.length).sum + ps.length * S.length
  | [] => Nat.zero_le _
  | [p] => by
    show p.length ≤ _
    simp
  | p :: q :: r => by
    have ih := joinL_len S (q :: r)
    show (p ++ (S ++ TL.joinL S (q :: r))).length ≤ _
    rw [List.length_append, List.length_append, List.map_cons, List.sum_cons, List.length_cons (a := p), Nat.add_mul, Nat.one_mul]
    omega
theorem joinS_len {y : Str} {B : Nat} {ts : List Str} (h : ∀ t ∈ ts, t.length ≤ B) : (Str.join y ts).length ≤ ts.length * (B + y.length) := by
  have e : (Str.join y ts).length = (TL.joinL (TL.tl y) (ts.map TL.tl)).length := by rw [TL.len_tl, TL.tl_join]
  have h1 := joinL_len (TL.tl y) (ts.map TL.tl)
  have h2 := sum_len h
  have e2 : ((ts.map TL.tl).map List.length) = ts.map (·.length) := by
    rw [List.map_map]
    exact List.map_congr_left fun t _ => (TL.len_tl t).symm
  rw [e2, List.length_map, ← TL.len_tl] at h1
  rw [e, Nat.mul_add]
  omega
def lineT (ts : List Str) : Str := Str.join " " ts
section
variable {P : Program} {w : World} {K : PySem.W.Frag} {mg : Str → Option Value} {base : Heap} {C : Addr} {H H' H0 H1 G : Hp} {σ : L2.St} {te tb ta tc tl : TE} {t tt : TT} {tA : TA} {E Er : XK} {D : Ends} {tz : TS} {a b d p : Addr} {us : Rw} {xs ys : List V} {rs qs : List Rw} {ks : List Pt} {r l : Ru} {v : V} {Q : VK} {j : Nat} {vs : List Nat} {s1 s2 z : Str}
theorem ev_sw (ha : Ev ta σ H (.str s1)) (hb : Ev tb σ H (.str s2)) : Ev (tM1 rSW ta tb) σ H (.bl (Txt.startswith s1 s2)) := fun H1 e Q q => ha H1 e _ fun H2 e2 => ⟨⟨s1, rfl⟩, hb H2 (e.trans e2) _ fun H3 e3 => ⟨s1, s2, rfl, rfl, q H3 (e2.trans e3)⟩⟩
theorem ev_joinN {zs : List Str} (ha : Ev ta σ H (.str s1)) (hb : EvL tb σ H (zs.map V.str)) (hz : (zs.map (·.length)).sum + zs.length * s1.length ≤ 16777216) :
    Ev (tM1 (fun x xs H Q => ∃ a p, ∃ ys : List Str, x = .str a ∧ xs = [.ref p] ∧ (SqL K H p (ys.map V.str) ∨ SqT K H p (ys.map V.str)) ∧ (ys.map (·.length)).sum + ys.length * a.length ≤ 16777216 ∧ Q (.str (Txt.join a ys)) H) ta tb) σ H (.str (Str.join s1 zs)) := fun H1 e Q q =>
  ha H1 e _ fun H2 e2 => ⟨⟨s1, rfl⟩, hb H2 (e.trans e2) _ fun p H3 hp e3 h3 => ⟨s1, p, zs, rfl, rfl, .inl (sq_of h3), hz, by rw [TL.join_eq]; exact q H3 (e2.trans e3)⟩⟩
theorem el_lcS (f : Nat → Bool) (g : Nat → V) (h : Ev tl σ H (.str z)) (hz : z.cps.size ≤ 40000) (hw : ∀ x, wipe ((wipe σ vs).set j (some x)) vs = wipe σ vs)
    (ht : ∀ (i c : Nat) H1, Ex H H1 → z.cps[i]? = some c → EvT t ((wipe σ vs).set j (some (.str ⟨#[c]⟩))) H1 (f i)) (he : ∀ (i c : Nat) H1, Ex H H1 → z.cps[i]? = some c → f i = true → Ev te ((wipe σ vs).set j (some (.str ⟨#[c]⟩))) H1 (g i)) :
    EvL (tLc (iStr tl) (gName j) t te vs) σ H (given z.cps.size f g) := fun H0 e Q q => h H0 e _ fun H1 e1 => ⟨z, rfl, fun Dl hD =>
  lc_it (walk_str (z := z)) (Cw H1 f g Dl) ⟨hD, Ex.new hD, upd_same⟩ (fun _ _ _ _ => True.intro) (fun i x H' H2 hi p y => by
    obtain ⟨rfl, c, hc, rfl⟩ := y
    exact ⟨hw _, cw_turn p (by omega) (ht i c H1 (e.trans e1) hc) (fun hf => he i c H1 (e.trans e1) hc hf)⟩)
    (fun H' p => q Dl H' (fresh_back e1 p.1) (e1.trans p.2.1) p.2.2)⟩
theorem rv_ixS {c : Nat} {i : Int} (hz : z.length ≤ 1000) (h : atI z.cps.toList i = some c) : RV rIxS (.str z) (.int i) H (.str ⟨#[c]⟩) := fun H1 _ Q q => ⟨z, i, c, rfl, rfl, by rw [sizeLine_eq]; omega, h, q H1 (Ex.refl H1)⟩
theorem atI_zero {α : Type} {c : α} {r : List α} : atI (c :: r) 0 = some c := by
  unfold atI
  rw [show ixN (c :: r).length 0 = some 0 from ixN_nat (j := 0) (by rw [List.length_cons]; omega)]
  rfl
end
end My
namespace My
open PySem PySem.Spec PyProof.Rows L2 GL Evl StX SkE
/-! ### which words tell a number: any word (k91, k92) -/
def sp_isnumG : Sp := fun vs H Q _ => ∃ x : Str, vs = [.str x] ∧ x.length ≤ 1000 ∧ RetV (.bl (isNumL (TL.tl x))) H Q
theorem sw_dash (x : Str) : Txt.startswith x "-" = decide (x.cps.toList.head? = some 45) := by
  have h := PySem.StrLaws.subAt_one x 45 0
  have e : (Str.ofString "-") = (⟨#[45]⟩ : Str) := by decide +kernel
  unfold Txt.startswith
  rw [e, List.head?_eq_getElem?]
  by_cases z : x.cps.toList[0]? = some 45
  · obtain ⟨h1, h2⟩ := h.mpr z
    rw [decide_eq_true h1, decide_eq_true z, h2]
    rfl
  · rw [decide_eq_false z]
    cases h1 : decide (0 + (⟨#[45]⟩ : Str).length ≤ x.length) with
    | false => rfl
    | true =>
      cases h2 : Builtin.Str.subAt x ⟨#[45]⟩ 0 with
      | false => rfl
      | true => exact absurd (h.mp ⟨of_decide_eq_true h1, h2⟩) z
theorem tl_cut1 (x : Str) : TL.tl (cutS x (some ((1 : Nat) : Int)) none) = (TL.tl x).drop 1 := by
  show ((x.cps.toList.drop (HT.sIx x.length 0 (some ((1 : Nat) : Int)))).take (HT.sIx x.length x.length none - HT.sIx x.length 0 (some ((1 : Nat) : Int)))) = _
  rw [HT.sIx_nat, HT.sIx_none]
  have hl : x.cps.toList.length = x.length := Array.length_toList
  cases e : x.cps.toList with
  | nil =>
    have : TL.tl x = [] := e
    rw [this]
    simp
  | cons c r =>
    have h2 : TL.tl x = c :: r := e
    rw [e, List.length_cons] at hl
    rw [h2, Nat.min_eq_left (by omega), List.take_of_length_le (by rw [List.length_drop, List.length_cons]; omega)]
theorem body_is (x : Str) : TL.tl (if decide (x.cps.toList.head? = some 45) = true then cutS x (some ((1 : Nat) : Int)) none else x) = bodyL (TL.tl x) := by
  cases e : x.cps.toList with
  | nil =>
    have h : TL.tl x = [] := e
    show TL.tl x = _
    rw [h]
    rfl
  | cons c r =>
    have h : TL.tl x = c :: r := e
    by_cases hc : c = 45
    · subst hc
      rw [if_pos (decide_eq_true (show (45 :: r).head? = some 45 from rfl)), tl_cut1, h]
      rfl
    · rw [if_neg (by simpa using hc), h]
      unfold bodyL
      split
      · rename_i r' h'
        exact absurd (List.cons.inj h').1 hc
      · rfl
theorem dg_iff (c : Nat) : decide (c ∈ (Str.ofString "0123456789").cps.toList) = (decide (48 ≤ c) && decide (c ≤ 57)) := by
  have e : (Str.ofString "0123456789").cps.toList = [48, 49, 50, 51, 52, 53, 54, 55, 56, 57] := by decide +kernel
  rw [e, ← Bool.decide_and]
  refine decide_eq_decide.mpr ⟨fun h => ?_, fun h => ?_⟩
  · simp only [List.mem_cons, List.not_mem_nil, or_false] at h
    omega
  · simp only [List.mem_cons, List.not_mem_nil, or_false]
    omega
section
variable {P : Program} {w : World} {K : PySem.W.Frag} {mg : Str → Option Value} {base : Heap} {C : Addr} {H H' H0 H1 G : Hp} {σ : L2.St} {te tb ta tc tl : TE} {t tt : TT} {tA : TA} {E Er : XK} {D : Ends} {tz : TS} {a b d p : Addr} {v : V} {Q : VK} {j : Nat} {vs : List Nat} {s1 s2 z : Str}
theorem ev_cutS {tl th : TO} {lo hi : Option Int} (h : Ev te σ H (.str z)) (h1 : EvO tl σ H lo) (h2 : EvO th σ H hi) (hz : z.length ≤ 100000) : Ev (tSl rSlS te tl th) σ H (.str (cutS z lo hi)) := fun H1 e1 Q q =>
  h H1 e1 _ fun H2 e2 => h1 H2 (e1.trans e2) _ fun H3 e3 => h2 H3 ((e1.trans e2).trans e3) _ fun H4 e4 => ⟨z, rfl, by rw [sizeLine_eq]; omega, q H4 ((e2.trans e3).trans e4)⟩
theorem rv_signD {c : Nat} : RV (fun x y H Q => ∃ (c : Nat) (z : Str), x = .str ⟨#[c]⟩ ∧ y = .str z ∧ Q (.bl (decide (c ∈ z.cps.toList))) H) (.str ⟨#[c]⟩) (.str "0123456789") H (.bl (decide (48 ≤ c) && decide (c ≤ 57))) := fun H1 _ Q q => ⟨c, _, rfl, rfl, by rw [dg_iff]; exact q H1 (Ex.refl H1)⟩
theorem given_list (l : List Nat) (g : Nat → Bool) : given l.length (fun _ => true) (fun i => (l[i]?.map fun c => V.bl (g c)).getD .non) = (l.map g).map V.bl := by
  have h := given_of l (fun _ => true) (fun c => V.bl (g c))
  rw [filter_yes] at h
  rw [List.map_map]
  refine Eq.trans ?_ h
  have go : ∀ n, n ≤ l.length → given n (fun _ => true) (fun i => (l[i]?.map fun c => V.bl (g c)).getD .non) = given n (fun i => (l[i]?.map fun _ => true).getD false) (fun i => (l[i]?.map fun c => V.bl (g c)).getD .non) := by
    intro n
    induction n with
    | zero => intro _; rfl
    | succ n ih =>
      intro hn
      have e2 : l[n]? = some l[n] := List.getElem?_eq_getElem (by omega)
      rw [given_yes rfl, given_yes (by rw [e2]; rfl), ih (by omega)]
  exact go _ (Nat.le_refl _)
theorem ok_is_numeral (T : Txt K mg w)  : FnG P w K mg base CX0 1 T.f_is_numeral T.fd_is_numeral ["word"] sp_isnumG := by
  skip
  refine okG T.F_is_numeral sc_is_numeral (fun vs H Q E h => ?_) (fun cdv A outer s H vs Q E gd hr h => ?_)
  · obtain ⟨_, rfl, _⟩ := h
    all_goals rfl
  · obtain ⟨x, rfl, hl, q⟩ := h
    refine ⟨_, (pss_cons (ps_set (i := 1) sc_is_numeral.nd rfl (Or.inl rfl) (pe_ifExp (pt_val (pe_startswith (pv 0) pe_str)) (pe_slice sl_str (pv 0) (po_some pe_int) po_none) (pv 0))) (pss_cons (ps_if ((pw_or (pt_cmpR op_eq (pv 1) pe_str (nomark _)) (pw_or1 (pt_not (pt_val (pe_callB (cr_all rfl) (by rfl) T.z_all boot_all (pa_cons (pe_lc (own := [("digit", 2)]) (g := gName 2) rfl sc_is_numeral.nd (show PI _ _ _ (iStr _) from pi_str (pv 1)) (blkOk_by (N := N_is_numeral) (sc := defScope s_is_numeral) (by decide +kernel)) (fun _ _ _ _ _ => (pg_name (i := 2) sc_is_numeral.nd rfl (Or.inl rfl) (Or.inr rfl))) (fun _ _ _ _ _ => pts_nil) (fun _ _ _ _ _ => (pe_cmpR op_in_sign (pv 2) (pe_glob (v := .str "0123456789") (by rfl) T.m_DIGITS ⟨_, rfl⟩) (by rfl)))) pa_nil))))))).pt (pss_one (ps_ret pe_bl)) pss_nil) (pss_one (ps_ret (pe_or (pe_cmpR op_eq (pv 0) pe_str (nomark _)) (pe_one (pe_cmpR op_ne (pe_ix ix_str (pv 1) pe_int (fun _ _ => rfl)) pe_str (nomark _)))))))), ?_⟩
    have hb := body_is x
    generalize hy : (if decide (x.cps.toList.head? = some 45) = true then cutS x (some ((1 : Nat) : Int)) none else x) = y at hb
    have ly : y.length ≤ 1000 := by
      rw [← hy]
      split
      · exact Nat.le_trans (cutS_length _ _ _) hl
      · exact hl
    refine q_asg (v := .str y) (ev_if (b := decide (x.cps.toList.head? = some 45)) (et_B (ev_is (ev_sw (ev_var rfl) ev_c) (cbl (sw_dash x)))) (fun z => ?_) fun z => ?_) fun H1 e1 => ?_
    · rw [if_pos z] at hy
      rw [← hy]
      exact ev_cutS (ev_var rfl) (eo_some ev_c) eo_none (by omega)
    · rw [if_neg (by rw [z]; exact Bool.false_ne_true)] at hy
      rw [← hy]
      exact ev_var rfl
    show tSeq _ _ _ [some (.str x), some (.str y), none] H1
    have yl : y.cps.toList = bodyL (TL.tl x) := hb
    have ey : decide (V.str y = V.str "") = (bodyL (TL.tl x)).isEmpty := by
      rw [← yl]
      cases e : y.cps.toList with
      | nil =>
        refine decide_eq_true ?_
        have : y = Str.ofString "" := TL.ext_tl (show y.cps.toList = _ by rw [e]; rfl)
        rw [this]
      | cons c r =>
        refine decide_eq_false fun z => ?_
        have := V.str.inj z
        have e0 : (Str.ofString "").cps.toList = [] := by decide +kernel
        rw [this, e0] at e
        cases e
    have hall : ∀ {G : Hp}, Ev (tCB (rAll K) (tCons (tLc (iStr (tVar 1)) (gName 2) tYes (tOp (fun x y H Q => ∃ (c : Nat) (z : Str), x = .str ⟨#[c]⟩ ∧ y = .str z ∧ Q (.bl (decide (c ∈ z.cps.toList))) H) (tVar 2) (tC (.str "0123456789"))) [2]) tNil)) [some (.str x), some (.str y), none] G (.bl (dgB (bodyL (TL.tl x)))) := fun {G} => ev_is (ev_allB (bs := (bodyL (TL.tl x)).map fun c => decide (48 ≤ c) && decide (c ≤ 57)) (el_is (el_lcS (z := y) (fun _ => true) (fun i => ((bodyL (TL.tl x))[i]?.map fun c => V.bl (decide (48 ≤ c) && decide (c ≤ 57))).getD .non) (ev_var rfl) (by have : y.cps.size ≤ 1000 := ly; omega) (fun _ => rfl) (fun _ _ _ _ _ => et_yes) (fun i c G2 e2 hc _ => by
      have : (bodyL (TL.tl x))[i]? = some c := by
        rw [← yl]
        simpa using hc
      rw [this]
      exact ev_op (ev_var rfl) ev_c rv_signD)) (by
        have : y.cps.size = (bodyL (TL.tl x)).length := by rw [← yl, Array.length_toList]
        rw [this]
        exact given_list _ _))) (cbl (by
          unfold dgB
          rw [List.all_map]
          rfl))
    refine q_when (b := (bodyL (TL.tl x)).isEmpty || !dgB (bodyL (TL.tl x))) (et_or (et_test (ev_is (ev_op (ev_var rfl) ev_c (rv_eq rfl)) (cbl ey))) fun _ => et_not (et_B hall)) (fun hc H2 e2 => s_ret ev_c fun H3 e3 => ?_) fun hc H2 e2 => ?_
    · have : isNumL (TL.tl x) = false := by
        unfold isNumL
        rw [Bool.or_eq_true] at hc
        rcases hc with h | h
        · rw [h]
          rfl
        · have h' : dgB (bodyL (TL.tl x)) = false := by simpa using h
          rw [h', Bool.and_false, Bool.false_and]
      rw [this] at q
      exact q H3 ((e1.trans e2).trans e3)
    · rw [Bool.or_eq_false_iff] at hc
      obtain ⟨h1, h2⟩ := hc
      have h2' : dgB (bodyL (TL.tl x)) = true := by simpa using h2
      cases eb : bodyL (TL.tl x) with
      | nil =>
        rw [eb] at h1
        cases h1
      | cons c r =>
        have hx : isNumL (TL.tl x) = (decide (V.str x = V.str "0") || !decide (V.str ⟨#[c]⟩ = V.str "0")) := by
          unfold isNumL
          rw [h2', eb]
          have a1 : decide (TL.tl x = [48]) = decide (V.str x = V.str "0") := decide_eq_decide.mpr ⟨fun z => by
            have : x = Str.ofString "0" := TL.ext_tl (z.trans (by decide +kernel))
            rw [this], fun z => by
            rw [V.str.inj z]
            decide +kernel⟩
          have a2 : decide (some c = some 48) = decide (V.str ⟨#[c]⟩ = V.str "0") := decide_eq_decide.mpr ⟨fun z => by
            rw [Option.some.inj z]
            rfl, fun z => by
            have := congrArg TL.tl (V.str.inj z)
            have e0 : TL.tl (Str.ofString "0") = [48] := by decide +kernel
            rw [e0] at this
            exact congrArg some (List.cons.inj this).1⟩
          show (true && true && (decide (TL.tl x = [48]) || !decide ((c :: r).head? = some 48))) = _
          rw [a1, show (c :: r).head? = some c from rfl, a2]
          rfl
        rw [hx] at q
        refine s_ret (ev_orV (ev_op (ev_var rfl) ev_c (rv_eq rfl)) fun _ => ev_op (ev_op (ev_var rfl) ev_c (rv_ixS (c := c) ly (by rw [yl, eb]; exact atI_zero))) ev_c (rv_ne rfl)) fun H3 e3 => q H3 ((e1.trans e2).trans e3)
end
end My
namespace My
open PySem PySem.Spec PyProof.Rows L2 GL Evl StX SkE
/-! ### values of any kind; which of them tell a deed -/
def isI : V → Bool
  | .int _ => true
  | _ => false
def isS : V → Bool
  | .str _ => true
  | _ => false
def Kn (K : PySem.W.Frag) (H : Hp) (x : V) : Prop := ∃ T, TyB K H x T
section
variable {K : PySem.W.Frag} {H H' : Hp} {x v : V} {T : String} {a : Addr} {xs : List V}
theorem tyB_ex (e : Ex H H') (h : TyB K H x T) : TyB K H' x T := by
  cases h with
  | non => exact .non
  | bl b => exact .bl b
  | int i => exact .int i
  | str s => exact .str s
  | byt b => exact .byt b
  | lst h => exact .lst (ex_l e h)
  | tup h => exact .tup (ex_t e h)
  | dK h => exact .dK (e _ _ h)
theorem Kn.ex (h : Kn K H x) (e : Ex H H') : Kn K H' x := h.imp fun T t => tyB_ex e t
theorem tyB_int (h : TyB K H x T) : (PySem.W.kitOne K (.type T) (.type "int") = some true ∧ PySem.W.kitOne K (.type T) (.type "bool") = some (!isI x)) ∨ (PySem.W.kitOne K (.type T) (.type "int") = some false ∧ isI x = false) := by
  cases h with
  | bl b => exact .inl ⟨kit_ty (by decide +kernel), (show _ = some true from kit_ty (by decide +kernel))⟩
  | int i => exact .inl ⟨kit_ty (by decide +kernel), (show _ = some false from kit_ty (by decide +kernel))⟩
  | non => exact .inr ⟨kit_ty (by decide +kernel), rfl⟩
  | str i => exact .inr ⟨kit_ty (by decide +kernel), rfl⟩
  | byt i => exact .inr ⟨kit_ty (by decide +kernel), rfl⟩
  | lst i => exact .inr ⟨kit_ty (by decide +kernel), rfl⟩
  | tup i => exact .inr ⟨kit_ty (by decide +kernel), rfl⟩
  | dK i => exact .inr ⟨kit_ty (by decide +kernel), rfl⟩
theorem tyB_str (h : TyB K H x T) : PySem.W.kitOne K (.type T) (.type "str") = some (isS x) := by
  cases h with
  | str z => exact (show _ = some true from kit_ty (by decide +kernel))
  | _ => exact (show _ = some false from kit_ty (by decide +kernel))
theorem tyX_of (h : TyB K H x T) : TyX K H x (.type T) := by
  cases h with
  | non => exact .base .non
  | bl b => exact .base (.bl b)
  | int i => exact .base (.int i)
  | str z => exact .base (.str z)
  | byt b => exact .byt b
  | lst h =>
    rcases h with (h | ⟨o, h⟩) | ⟨o, its, n, hk, hc, _⟩
    · exact .base (.lst h)
    · exact .base (.frz h)
    · exact .kList hk hc
  | tup h =>
    rcases h with (h | ⟨o, h⟩) | ⟨o, its, n, hk, hc, _⟩
    · exact .base (.tup h)
    · exact .fTuple h
    · exact .kTuple hk hc
  | dK h => exact .base (.dK h)
theorem tyB_tup (h : TyB K H x T) (n : T ≠ "tuple") : PySem.W.kitOne K (.type T) (.type "tuple") = some false := by
  cases h
  all_goals first
    | exact kit_ty (by decide +kernel)
    | exact absurd rfl n
theorem rc_isiE {t u : Value} {b : Bool} {c : V} (k : ClsV c u) (ty : ∀ H1, Ex H H1 → TyX K H1 x t) (h : PySem.W.kitOne K t u = some b) : RC (rIsi K) [x, c] H (.bl b) := fun H1 e Q q => ⟨x, c, t, u, b, rfl, k, ty H1 e, h, q H1 (Ex.refl H1)⟩
theorem rc_isiB {u : Value} {b : Bool} {c : V} (k : ClsV c u) (ty : TyB K H x T) (h : PySem.W.kitOne K (.type T) u = some b) : RC (rIsi K) [x, c] H (.bl b) := rc_isiE k (fun H1 e => tyX_of (tyB_ex e ty)) h
end
def ddB : List V → Bool
  | .str z :: ns => (match sizeD z with
    | some n => decide (ns.length = n) && (if z = "limit" ∧ ns[1]? = some V.non then isI (ns.headD V.non) else ns.all isI)
    | none => false)
  | _ => false
theorem ddB_no {x : V} {ns : List V} (h : isS x = false) : ddB (x :: ns) = false := by
  cases x <;> first | rfl | cases h
inductive DeedQ (K : PySem.W.Frag) (H : Hp) : V → Bool → Prop
  | no {v : V} {T : String} (h : TyB K H v T) (n : T ≠ "tuple") : DeedQ K H v false
  | tup {a : Addr} {xs : List V} (h : SqT K H a xs) (k : ∀ x ∈ xs, Kn K H x) (l : xs.length ≤ 1000) : DeedQ K H (.ref a) (ddB xs)
theorem DeedQ.ex {K : PySem.W.Frag} {H H' : Hp} {v : V} {b : Bool} (h : DeedQ K H v b) (e : Ex H H') : DeedQ K H' v b := by
  cases h with
  | no h n => exact .no (tyB_ex e h) n
  | tup h k l => exact .tup (ex_t e h) (fun x hx => (k x hx).ex e) l
/-! deeds -/
def oV : Option Int → V
  | none => .non
  | some i => .int i
def dV (d : Dd) : List V := .str d.1 :: d.2.map oV
def oT : Option Int → Str
  | none => "none"
  | some i => numZ i
def lineD (d : Dd) : Str := lineT (d.1 :: d.2.map oT)
def NumOk (i : Int) : Prop := i.natAbs < 10 ^ 40
structure GoodD (d : Dd) : Prop where
  is : isDd d = true
  nm : ∀ i, some i ∈ d.2 → NumOk i
def DdAt (K : PySem.W.Frag) (H : Hp) (v : V) (d : Dd) : Prop := ∃ a, v = .ref a ∧ SqT K H a (dV d)
theorem DdAt.ex {K : PySem.W.Frag} {H H' : Hp} {v : V} {d : Dd} (h : DdAt K H v d) (e : Ex H H') : DdAt K H' v d := by
  obtain ⟨a, rfl, h⟩ := h
  exact ⟨a, rfl, ex_t e h⟩
theorem isI_oV (p : Option Int) : isI (oV p) = p.isSome := by cases p <;> rfl
theorem ddB_dV (d : Dd) : ddB (dV d) = isDd d := by
  obtain ⟨z, ps⟩ := d
  show (match sizeD z with
    | some n => decide ((ps.map oV).length = n) && (if z = "limit" ∧ (ps.map oV)[1]? = some V.non then isI ((ps.map oV).headD V.non) else (ps.map oV).all isI)
    | none => false) = _
  unfold isDd
  dsimp only
  cases sizeD z with
  | none => rfl
  | some n =>
    dsimp only
    rw [List.length_map]
    congr 1
    have e1 : ((ps.map oV)[1]? = some V.non) = (ps[1]? = some none) := by
      rw [List.getElem?_map]
      cases ps[1]? with
      | none => simp
      | some p => cases p <;> simp [oV]
    simp only [e1]
    split
    · cases ps with
      | nil => rfl
      | cons p r => cases p <;> rfl
    · rw [List.all_map]
      congr 1
      funext p
      exact isI_oV p
theorem kn_oV {K : PySem.W.Frag} {H : Hp} (p : Option Int) : Kn K H (oV p) := by
  cases p
  · exact ⟨_, .non⟩
  · exact ⟨_, .int _⟩
theorem DdAt.q {K : PySem.W.Frag} {H : Hp} {v : V} {d : Dd} (h : DdAt K H v d) (l : d.2.length ≤ 900) : DeedQ K H v (isDd d) := by
  obtain ⟨a, rfl, h⟩ := h
  rw [← ddB_dV]
  refine .tup h (fun x hx => ?_) (by show (d.2.map oV).length + 1 ≤ 1000; rw [List.length_map]; omega)
  rcases List.mem_cons.mp hx with rfl | hx
  · exact ⟨_, .str _⟩
  · obtain ⟨p, _, rfl⟩ := List.mem_map.mp hx
    exact kn_oV p
theorem numZ_len {i : Int} (h : NumOk i) : (numZ i).length ≤ 41 := by
  have e : (numZ i).length = (TL.tl (numZ i)).length := (TL.len_tl _)
  rw [e]
  unfold NumOk at h
  cases i with
  | ofNat n =>
    rw [show TL.tl (numZ (Int.ofNat n)) = TL.numL n from tl_numZ n]
    have h : n < 10 ^ 40 := h
    exact Nat.le_trans (TL.numL_len (k := 40) (by omega) h) (by omega)
  | negSucc n =>
    rw [tl_numZn, List.length_cons]
    have h : n + 1 < 10 ^ 40 := h
    have := TL.numL_len (k := 40) (by omega) h
    omega
theorem numOk_log {i : Int} (h : NumOk i) : i.natAbs.log2 < 1920 := by
  unfold NumOk at h
  by_cases e : i.natAbs = 0
  · rw [e]
    decide
  · exact (Nat.log2_lt e).mpr (Nat.lt_of_lt_of_le h (by decide +kernel))
inductive SpkZ : V → Str → Prop where
  | s (t : Str) : SpkZ (.str t) t
  | z (i : Int) (h : NumOk i) : SpkZ (.int i) (numZ i)
def sizesI : List (Str × Int) := [("group", 1), ("limit", 2), ("strike", 1), ("take", 2), ("give", 2), ("move", 3), ("lift", 2), ("settle", 2), ("step", 1)]
theorem look_map (z : Str) : ∀ l : List (Str × Nat), (l.map fun p => (p.1, (p.2 : Int))).lookup z = (l.lookup z).map fun n => (n : Int)
  | [] => rfl
  | p :: l => by
    rw [List.map_cons, List.lookup_cons, List.lookup_cons, look_map z l]
    cases (z == p.1) <;> rfl
theorem sizesI_get (z : Str) : sizesI.lookup z = (sizeD z).map fun n => (n : Int) := look_map z sizes
def sp_isint (K : PySem.W.Frag) : Sp := fun vs H Q _ => ∃ x, vs = [x] ∧ Kn K H x ∧ RetV (.bl (isI x)) H Q
def sp_isdeed (K : PySem.W.Frag) : Sp := fun vs H Q _ => ∃ v b, vs = [v] ∧ DeedQ K H v b ∧ RetV (.bl b) H Q
def sp_lineZ (K : PySem.W.Frag) : Sp := fun vs H Q _ => ∃ a, ∃ ts : List Str, ∃ xs : List V, vs = [.ref a] ∧ SqL K H a xs ∧ xs.length = ts.length ∧ (∀ (i : Nat) (x : V), xs[i]? = some x → ∃ t : Str, ts[i]? = some t ∧ SpkZ x t) ∧ ts.length ≤ 10 ∧ (∀ t ∈ ts, t.length ≤ 50) ∧ RetV (.str (lineT ts)) H Q
theorem given_map {α : Type} (l : List α) (g : α → V) : given l.length (fun _ => true) (fun i => (l[i]?.map g).getD .non) = l.map g := by
  have h := given_of l (fun _ => true) g
  rw [filter_yes] at h
  refine Eq.trans ?_ h
  have go : ∀ n, n ≤ l.length → given n (fun _ => true) (fun i => (l[i]?.map g).getD .non) = given n (fun i => (l[i]?.map fun _ => true).getD false) (fun i => (l[i]?.map g).getD .non) := by
    intro n
    induction n with
    | zero => intro _; rfl
    | succ n ih =>
      intro hn
      have e2 : l[n]? = some l[n] := List.getElem?_eq_getElem (by omega)
      rw [given_yes rfl, given_yes (by rw [e2]; rfl), ih (by omega)]
  exact go _ (Nat.le_refl _)
section
variable {P : Program} {w : World} {K : PySem.W.Frag} {mg : Str → Option Value} {base : Heap} {C : Addr} {H H' H0 H1 G : Hp} {σ : L2.St} {te tb ta tc tl : TE} {t tt : TT} {tA : TA} {E Er : XK} {D : Ends} {tz : TS} {a b d p : Addr} {v x : V} {Q : VK} {j : Nat} {vs : List Nat} {s1 s2 z : Str} {xs : List V}
theorem rv_notInN {z : Str} {a : Addr} {l : List (Str × Int)} (k : KNum K w a l) : RV (rNotInN K w) (.str z) (.ref a) H (.bl (!(l.lookup z).isSome)) := fun H1 _ Q q => ⟨z, a, l, rfl, rfl, k, q H1 (Ex.refl H1)⟩
theorem rv_ixN {z : Str} {a : Addr} {l : List (Str × Int)} {i : Int} (k : KNum K w a l) (h : l.lookup z = some i) : RV (rIxN K w) (.ref a) (.str z) H (.int i) := fun H1 _ Q q => ⟨z, a, l, i, rfl, rfl, k, h, q H1 (Ex.refl H1)⟩
theorem rv_isN {x : V} {b : Bool} (h : decide (x = V.non) = b) : RV (fun x y H Q => y = V.non ∧ Q (.bl (decide (x = .non))) H) x .non H (.bl b) := fun H1 _ _ q => ⟨rfl, by rw [h]; exact q H1 (Ex.refl H1)⟩
theorem rc_strZ {x : V} {t : Str} (h : SpkZ x t) : RC rStrIS [x] H (.str t) := fun H1 _ Q q => by
  cases h with
  | s t => exact .inr ⟨t, rfl, q H1 (Ex.refl H1)⟩
  | z i hk => exact .inl ⟨i, rfl, numOk_log hk, q H1 (Ex.refl H1)⟩
theorem ok_is_an_integer (T : Txt K mg w)  : FnG P w K mg base CX0 1 T.f_is_an_integer T.fd_is_an_integer ["value"] (sp_isint K) := by
  skip
  refine okG T.F_is_an_integer sc_is_an_integer (fun vs H Q E h => ?_) (fun cdv A outer s H vs Q E gd hr h => ?_)
  · obtain ⟨_, rfl, _⟩ := h
    all_goals rfl
  · obtain ⟨x, rfl, ⟨T', ht⟩, q⟩ := h
    refine ⟨_, (pss_one (ps_ret (pe_and (pe_callB call_isi (by rfl) T.z_isinstance boot_isinstance (pa_cons (pv 0) (pa_cons (pe_bltn (v := .ty "int") (u := .type "int") (by rfl) T.z_int (by decide +kernel) rfl) pa_nil))) (pe_one (pe_not (pe_callB call_isi (by rfl) T.z_isinstance boot_isinstance (pa_cons (pv 0) (pa_cons (pe_bltn (v := .ty "bool") (u := .type "bool") (by rfl) T.z_bool (by decide +kernel) rfl) pa_nil)))))))), ?_⟩
    rcases tyB_int ht with ⟨h1, h2⟩ | ⟨h1, h2⟩
    · exact s_ret (ev_is (ev_andV (a := true) (b := !(!isI x)) (ev_cb (ea_cons (ev_var rfl) (ea_cons ev_c ea_nil)) (rc_isiB (.ty "int") ht h1)) fun _ => ev_notV (ev_cb (ea_cons (ev_var rfl) (ea_cons ev_c ea_nil)) (rc_isiB (.ty "bool") ht h2))) (cbl (by rw [Bool.not_not, Bool.true_and]))) q
    · exact s_ret (ev_is (ev_andV (a := false) (b := false) (ev_cb (ea_cons (ev_var rfl) (ea_cons ev_c ea_nil)) (rc_isiB (.ty "int") ht h1)) fun z => nomatch z) (cbl h2.symm)) q
theorem ok_line_from (T : Txt K mg w)  : FnG P w K mg base CX0 1 T.f_line_from T.fd_line_from ["parts"] (sp_lineZ K) := by
  skip
  refine okG T.F_line_from sc_line_from (fun vs H Q E h => ?_) (fun cdv A outer s H vs Q E gd hr h => ?_)
  · obtain ⟨_, _, _, rfl, _⟩ := h
    all_goals rfl
  · obtain ⟨a, ts, xs, rfl, hs, hl, hx, h10, hb, q⟩ := h
    refine ⟨_, (pss_one (ps_ret (pe_join pe_str (pe_lc (own := [("part", 1)]) (g := gName 1) rfl sc_line_from.nd (pi_list (pv 0)) (blkOk_by (N := N_line_from) (sc := defScope s_line_from) (by decide +kernel)) (fun _ _ _ _ _ => (pg_name (i := 1) sc_line_from.nd rfl (Or.inl rfl) (Or.inr rfl))) (fun _ _ _ _ _ => pts_nil) (fun _ _ _ _ _ => (pe_callTy (show CallR _ (.type "str") rStrIS from call_strIS) (by rfl) T.z_str (by decide +kernel) (pa_cons (pv 1) pa_nil))))))), ?_⟩
    have sl := sum_len hb
    have c1 : (Str.ofString " ").length = 1 := by decide
    refine s_ret (ev_joinN (zs := ts) ev_c (el_is (el_lcL (xs := xs) (fun i => (ts[i]?.map fun _ => true).getD false) (fun i => (ts[i]?.map V.str).getD .non) (ev_var rfl) hs (by omega) (fun _ => rfl) (fun i x H1 e1 hi => ?_) (fun i x H1 e1 hi hp => ?_)) (by rw [hl, given_of ts (fun _ => true) V.str, filter_yes])) (by rw [c1]; omega)) q
    · obtain ⟨t, ht, hk⟩ := hx i x hi
      rw [ht]
      exact et_yes
    · obtain ⟨t, ht, hk⟩ := hx i x hi
      rw [ht]
      exact ev_cb (ea_cons (ev_var rfl) ea_nil) (rc_strZ hk)
theorem ok_is_deed (T : Txt K mg w) (G_is_an_integer : FnG P w K mg base CX0 1 T.f_is_an_integer T.fd_is_an_integer ["value"] (sp_isint K)) : FnG P w K mg base CX0 2 T.f_is_deed T.fd_is_deed ["value"] (sp_isdeed K) := by
  skip
  refine okG T.F_is_deed sc_is_deed (fun vs H Q E h => ?_) (fun cdv A outer s H vs Q E gd hr h => ?_)
  · obtain ⟨_, _, rfl, _⟩ := h
    all_goals rfl
  · obtain ⟨v, b, rfl, dq, q⟩ := h
    refine ⟨_, (pss_cons (ps_if ((pw_or (pt_not (pt_val (pe_callB call_isi (by rfl) T.z_isinstance boot_isinstance (pa_cons (pv 0) (pa_cons (pe_bltn (v := .ty "tuple") (u := .type "tuple") (by rfl) T.z_tuple (by decide +kernel) rfl) pa_nil))))) (pw_or1 (pt_cmpR op_eq (pe_callB call_len_seq (by rfl) T.z_len PySem.boot_len (pa_cons (pv 0) pa_nil)) pe_int (nomark _))))).pt (pss_one (ps_ret pe_bl)) pss_nil) (pss_cons (ps_asg (pv 0) (pg_star rfl (pg_name (i := 1) sc_is_deed.nd rfl (Or.inl rfl) (Or.inr rfl)) (pg_name (i := 2) sc_is_deed.nd rfl (Or.inl rfl) (Or.inr rfl)))) (pss_cons (ps_if ((pw_or (pt_not (pt_val (pe_callB call_isi (by rfl) T.z_isinstance boot_isinstance (pa_cons (pv 1) (pa_cons (pe_bltn (v := .ty "str") (u := .type "str") (by rfl) T.z_str (by decide +kernel) rfl) pa_nil))))) (pw_or (pt_cmpR op_notInN (pv 1) (pe_glob (v := .ref T.g_DEED_SIZES) (by rfl) T.m_DEED_SIZES rfl) (by rfl)) (pw_or1 (pt_cmpR op_ne (pe_callB call_len_seq (by rfl) T.z_len PySem.boot_len (pa_cons (pv 2) pa_nil)) (pe_ix ix_num (pe_glob (v := .ref T.g_DEED_SIZES) (by rfl) T.m_DEED_SIZES rfl) (pv 1) (fun _ _ => rfl)) (nomark _)))))).pt (pss_one (ps_ret pe_bl)) pss_nil) (pss_cons (ps_if ((pw_and (pt_cmpR op_eq (pv 1) pe_str (nomark _)) (pw_and1 (pt_cmpR op_isN (pe_ix ix_list (pv 2) pe_int (fun _ _ => rfl)) pe_non (nomark _))))).pt (pss_one (ps_ret (pc gd G_is_an_integer (hr.mono (by decide)) (by rfl) T.m_is_an_integer T.F_is_an_integer.kp T.b_is_an_integer .nil pass0 (pa_cons (pe_ix ix_list (pv 2) pe_int (fun _ _ => rfl)) pa_nil)))) pss_nil) (pss_one (ps_ret (pe_callB (cr_all rfl) (by rfl) T.z_all boot_all (pa_cons (pe_lc (own := [("number", 3)]) (g := gName 3) rfl sc_is_deed.nd (pi_list (pv 2)) (blkOk_by (N := N_is_deed) (sc := defScope s_is_deed) (by decide +kernel)) (fun _ _ _ _ _ => (pg_name (i := 3) sc_is_deed.nd rfl (Or.inl rfl) (Or.inr rfl))) (fun _ _ _ _ _ => pts_nil) (fun _ _ _ _ _ => (pc gd G_is_an_integer (hr.mono (by decide)) (by rfl) T.m_is_an_integer T.F_is_an_integer.kp T.b_is_an_integer .nil pass0 (pa_cons (pv 3) pa_nil)))) pa_nil)))))))), ?_⟩
    cases dq with
    | no h n => exact q_when (b := true) (et_or (a := true) (b := false) (et_not (a := false) (et_B (ev_cb (ea_cons (ev_var rfl) (ea_cons ev_c ea_nil)) (rc_isiB (.ty "tuple") h (tyB_tup h n))))) (fun z => nomatch z)) (fun _ H1 e1 => s_ret ev_c fun H2 e2 => q H2 (e1.trans e2)) (fun z => nomatch z)
    | @tup a xs h k l =>
      have isT : EvT (tNot (tB (tCB (rIsi K) (tCons (tVar 0) (tCons (tC (.ty "tuple")) tNil))))) [some (.ref a), none, none, none] H false := et_not (a := true) (et_B (ev_cb (ea_cons (ev_var rfl) (ea_cons ev_c ea_nil)) (rc_isiB (.ty "tuple") (.tup h) (kit_ty (by decide +kernel)))))
      cases xs with
      | nil => exact q_when (b := true) (et_or (a := false) (b := true) isT fun _ => et_test (ev_is (ev_op (ev_cb (ea_cons (ev_var rfl) ea_nil) (rc_lenT h)) ev_c (rv_eq rfl)) (cbl (decide_eq_true rfl)))) (fun _ H1 e1 => s_ret ev_c fun H2 e2 => q H2 (e1.trans e2)) (fun z => nomatch z)
      | cons x ns =>
        have l : ns.length + 1 ≤ 1000 := l
        refine q_when (b := false) (et_or (a := false) (b := false) isT fun _ => et_test (ev_is (ev_op (ev_cb (ea_cons (ev_var rfl) ea_nil) (rc_lenT h)) ev_c (rv_eq rfl)) (cbl (decide_eq_false fun z => by
          have := V.int.inj z
          rw [List.length_cons] at this
          omega)))) (fun z => nomatch z) fun _ H1 e1 => ?_
        refine q_asgR (ev_raw (ev_var (v := .ref a) rfl) fun H2 e2 => ⟨a, x, ns, rfl, .inr (ex_t (e1.trans e2) h), by omega, fun Dn hD => ?_⟩)
        show tSeq _ _ _ [some (.ref a), some x, some (.ref Dn), none] _
        have e3 : Ex H (upd H2 Dn (.lst ns)) := (e1.trans e2).trans (Ex.new hD)
        have h3 : (upd H2 Dn (.lst ns)) Dn = some (.lst ns) := upd_same
        generalize upd H2 Dn (.lst ns) = H3 at e3 h3
        obtain ⟨T', ht⟩ := (k x List.mem_cons_self).ex e3
        have kn : ∀ y ∈ ns, Kn K H3 y := fun y hy => (k y (List.mem_cons_of_mem _ hy)).ex e3
        have hS := tyB_str ht
        cases hx : isS x with
        | false =>
          rw [hx] at hS
          rw [ddB_no hx] at q
          exact q_when (b := true) (et_or (a := true) (b := false) (et_not (a := false) (et_B (ev_cb (ea_cons (ev_var rfl) (ea_cons ev_c ea_nil)) (rc_isiB (.ty "str") ht hS)))) (fun z => nomatch z)) (fun _ H4 e4 => s_ret ev_c fun H5 e5 => q H5 ((e3.trans e4).trans e5)) (fun z => nomatch z)
        | true =>
          rw [hx] at hS
          obtain ⟨z, rfl⟩ : ∃ z, x = .str z := by
            cases x <;> first | exact ⟨_, rfl⟩ | cases hx
          have isS' : EvT (tNot (tB (tCB (rIsi K) (tCons (tVar 1) (tCons (tC (.ty "str")) tNil))))) [some (.ref a), some (.str z), some (.ref Dn), none] H3 false := et_not (a := true) (et_B (ev_cb (ea_cons (ev_var rfl) (ea_cons ev_c ea_nil)) (rc_isiB (.ty "str") ht hS)))
          have kd : KNum K w T.g_DEED_SIZES sizesI := T.k_DEED_SIZES
          have nin := sizesI_get z
          cases hz : sizeD z with
          | none =>
            rw [hz] at nin
            have hq : ddB (.str z :: ns) = false := by
              unfold ddB
              dsimp only
              rw [hz]
            rw [hq] at q
            exact q_when (b := true) (et_or (a := false) (b := true) isS' fun _ => et_or (a := true) (b := false) (et_test (ev_is (ev_op (ev_var rfl) ev_c (rv_notInN kd)) (by rw [nin]; rfl))) (fun z => nomatch z)) (fun _ H4 e4 => s_ret ev_c fun H5 e5 => q H5 ((e3.trans e4).trans e5)) (fun z => nomatch z)
          | some n =>
            rw [hz] at nin
            have hq : ddB (.str z :: ns) = (decide (ns.length = n) && (if z = "limit" ∧ ns[1]? = some V.non then isI (ns.headD V.non) else ns.all isI)) := by
              unfold ddB
              dsimp only
              rw [hz]
            rw [hq] at q
            refine q_when (b := !decide (ns.length = n)) (et_is (et_or (a := false) (b := !decide (ns.length = n)) isS' fun _ => et_is (et_or (a := false) (b := !decide (ns.length = n)) (et_test (ev_is (ev_op (ev_var rfl) ev_c (rv_notInN kd)) (by rw [nin]; rfl))) fun _ => et_test (ev_is (ev_op (ev_cb (ea_cons (ev_var rfl) ea_nil) (rc_lenL (sq_of h3))) (ev_op ev_c (ev_var rfl) (rv_ixN kd nin)) (rv_ne rfl)) (cbl (by
              congr 1
              refine decide_eq_decide.mpr ⟨fun z => ?_, fun z => by rw [z]⟩
              have := V.int.inj z
              exact Int.ofNat.inj this)))) (by rw [Bool.false_or])) (by rw [Bool.false_or])) (fun hb H4 e4 => ?_) fun hb H4 e4 => ?_
            · rw [Bool.not_eq_true'] at hb
              rw [hb, Bool.false_and] at q
              exact s_ret ev_c fun H5 e5 => q H5 ((e3.trans e4).trans e5)
            · rw [Bool.not_eq_false'] at hb
              rw [hb, Bool.true_and] at q
              have hn : ns.length = n := of_decide_eq_true hb
              have h4 := e4 _ _ h3
              have kn4 : ∀ y ∈ ns, Kn K H4 y := fun y hy => (kn y hy).ex e4
              have fin : ∀ {H5 : Hp}, Ex H4 H5 → (¬ (z = "limit" ∧ ns[1]? = some V.non)) → tRet (tCB (rAll K) (tCons (tLc (iList K (tVar 2)) (gName 3) tYes (tCall (sp_isint K) [] E0 (tCons (tVar 3) tNil)) [3]) tNil)) ⟨fun _ _ => False, fun v H' => Q v H', fun _ _ => False, fun _ _ => False⟩ [some (.ref a), some (.str z), some (.ref Dn), none] H5 := fun {H5} e5 hno => by
                rw [if_neg hno] at q
                refine s_ret (ev_is (ev_allB (bs := ns.map isI) (el_is (el_lcL (xs := ns) (fun _ => true) (fun i => (ns[i]?.map fun y => V.bl (isI y)).getD .non) (ev_var rfl) (sq_of (e5 _ _ h4)) (by omega) (fun _ => rfl) (fun _ _ _ _ _ => et_yes) (fun i y H6 e6 hi _ => by
                  rw [hi]
                  exact ev_call (ea_cons (ev_var rfl) ea_nil) fun H7 e7 Q7 q7 E7 => ⟨y, rfl, (kn4 y (List.mem_of_getElem? hi)).ex ((e5.trans e6).trans e7), q7⟩)) (by rw [given_map ns fun y => V.bl (isI y), List.map_map]; rfl))) (cbl (by rw [List.all_map]; rfl))) fun H6 e6 => q H6 ((e3.trans e4).trans (e5.trans e6))
              by_cases hlim : z = "limit"
              · have n2 : ns.length = 2 := by
                  rw [hlim] at hz
                  have : sizeD "limit" = some 2 := by decide +kernel
                  rw [this] at hz
                  rw [hn, ← Option.some.inj hz]
                obtain ⟨y0, y1, rfl⟩ : ∃ y0 y1, ns = [y0, y1] := by
                  match ns, n2 with
                  | [y0, y1], _ => exact ⟨y0, y1, rfl⟩
                refine q_when (b := decide (y1 = .non)) (et_is (et_and (a := true) (b := decide (y1 = .non)) (et_test (ev_is (ev_op (ev_var rfl) ev_c (rv_eq rfl)) (cbl (decide_eq_true (by rw [hlim]))))) fun _ => et_test (ev_op (ev_op (ev_var rfl) ev_c (rv_ixL (sq_of h4) (atI_nat (j := 1) rfl))) ev_c (rv_isN rfl))) (by rw [Bool.true_and])) (fun hc H5 e5 => ?_) fun hc H5 e5 => ?_
                · have hy : y1 = .non := of_decide_eq_true hc
                  rw [if_pos ⟨hlim, by rw [hy]; rfl⟩] at q
                  exact s_ret (ev_call (ea_cons (ev_op (ev_var rfl) ev_c (rv_ixL (sq_of (e5 _ _ h4)) (atI_nat (j := 0) rfl))) ea_nil) fun H6 e6 Q6 q6 E6 => ⟨y0, rfl, (kn4 y0 List.mem_cons_self).ex (e5.trans e6), q6⟩) fun H6 e6 => q H6 ((e3.trans e4).trans (e5.trans e6))
                · refine fin e5 fun hh => ?_
                  have : y1 = .non := Option.some.inj hh.2
                  rw [this] at hc
                  exact absurd hc (by decide)
              · refine q_when (b := false) (et_and (a := false) (b := false) (et_test (ev_is (ev_op (ev_var rfl) ev_c (rv_eq rfl)) (cbl (decide_eq_false fun zz => hlim (V.str.inj zz))))) fun zz => nomatch zz) (fun zz => nomatch zz) fun _ H5 e5 => fin e5 fun hh => hlim hh.1
end
end My
namespace My
open PySem PySem.Spec PyProof.Rows L2 GL Evl StX SkE
/-! ### lines of deeds: told and read by the program -/
def ws (x : Str) : List Str := Txt.split x " "
theorem spl_ne (S : List Nat) : ∀ (l : List Nat) (k : Nat) (acc : List Nat), TL.spl S k acc l ≠ []
  | [], k, acc => by
    rw [TL.spl_nil]
    exact List.cons_ne_nil _ _
  | c :: r, 0, acc => by
    show (if TL.pre S (c :: r) = true then acc :: TL.spl S (S.length - 1) [] r else TL.spl S 0 (acc ++ [c]) r) ≠ []
    split
    · exact List.cons_ne_nil _ _
    · exact spl_ne S r 0 _
  | c :: r, k + 1, acc => spl_ne S r k acc
theorem ws_ne (x : Str) : ws x ≠ [] := fun e => by
  have h := TL.split_spl x " " (by decide +kernel) (TL.kind_ok (by decide +kernel))
  rw [show Txt.split x " " = ws x from rfl, e] at h
  exact spl_ne _ _ _ _ h.symm
theorem joinL_sum (S : List Nat) : ∀ ps : List (List Nat), ps ≠ [] → (TL.joinL S ps).length + S.length = (ps.map List.length).sum + ps.length * S.length
  | [], h => absurd rfl h
  | [p], _ => by
    show p.length + S.length = _
    simp
  | p :: q :: r, _ => by
    have ih := joinL_sum S (q :: r) (List.cons_ne_nil _ _)
    show (p ++ (S ++ TL.joinL S (q :: r))).length + S.length = _
    rw [List.length_append, List.length_append, List.map_cons, List.sum_cons, List.length_cons (a := p), Nat.add_mul, Nat.one_mul]
    omega
theorem mem_sum : ∀ {l : List Nat} {n : Nat}, n ∈ l → n ≤ l.sum
  | [], _, h => absurd h List.not_mem_nil
  | m :: l, n, h => by
    rw [List.sum_cons]
    rcases List.mem_cons.mp h with rfl | h
    · omega
    · have := mem_sum h
      omega
theorem ws_len (x : Str) : (ws x).length ≤ x.length + 1 ∧ ∀ w ∈ ws x, w.length ≤ x.length := by
  have h := PySem.StrLaws.join_split x " "
  have h2 := joinL_sum (TL.tl " ") ((ws x).map TL.tl) (fun e => ws_ne x (List.map_eq_nil_iff.mp e))
  rw [← TL.tl_join, show Str.join " " (ws x) = x from h, List.length_map, List.map_map] at h2
  have e1 : (TL.tl (Str.ofString " ")).length = 1 := by decide +kernel
  have e2 : (TL.tl x).length = x.length := (TL.len_tl x).symm
  rw [show TL.tl " " = TL.tl (Str.ofString " ") from rfl, e1, e2, Nat.mul_one] at h2
  refine ⟨by omega, fun w hw => ?_⟩
  have : (TL.tl w).length ∈ (ws x).map (List.length ∘ TL.tl) := List.mem_map.mpr ⟨w, hw, rfl⟩
  have m := mem_sum this
  rw [TL.len_tl]
  have : 1 ≤ (ws x).length := by
    cases e : ws x with
    | nil => exact absurd e (ws_ne x)
    | cons => simp
  omega
theorem fromL_cons (z : Str) (ns : List Str) : fromL (z :: ns) = (ns.mapM partD).bind fun ps => if isDd (z, ps) = true then some (z, ps) else none := rfl
theorem mapM_snoc {y : Str} {p : Option Int} : ∀ {l : List Str} {ps : List (Option Int)}, l.mapM partD = some ps → partD y = some p → (l ++ [y]).mapM partD = some (ps ++ [p])
  | [], ps, h, hy => by
    cases h
    show List.mapM partD [y] = _
    rw [List.mapM_cons, hy]
    rfl
  | x :: l, ps, h, hy => by
    rw [List.mapM_cons] at h
    cases e : partD x with
    | none => rw [e] at h; cases h
    | some p1 =>
      rw [e] at h
      cases e2 : l.mapM partD with
      | none => rw [e2] at h; cases h
      | some qs =>
        rw [e2] at h
        cases h
        rw [List.cons_append, List.mapM_cons, e, mapM_snoc e2 hy]
        rfl
theorem mapM_bad {y : Str} : ∀ {l : List Str}, y ∈ l → partD y = none → l.mapM partD = none
  | [], h, _ => absurd h List.not_mem_nil
  | x :: l, h, hy => by
    rw [List.mapM_cons]
    rcases List.mem_cons.mp h with rfl | h
    · rw [hy]
      rfl
    · rw [mapM_bad h hy]
      cases partD x <;> rfl
theorem dg_lt : ∀ (cs : List Nat) (a : Nat), NumText.AllDigits cs → cs.foldl (fun acc c => acc * 10 + (c - 48)) a < (a + 1) * 10 ^ cs.length
  | [], a, _ => by
    show a < (a + 1) * 10 ^ 0
    omega
  | c :: cs, a, h => by
    have ih := dg_lt cs (a * 10 + (c - 48)) fun z hz => h z (List.mem_cons_of_mem _ hz)
    have hc := h c List.mem_cons_self
    refine Nat.lt_of_lt_of_le ih ?_
    rw [List.length_cons, Nat.pow_succ, Nat.mul_comm (10 ^ cs.length) 10, ← Nat.mul_assoc]
    refine Nat.mul_le_mul_right _ ?_
    omega
theorem val_lt {x : Str} (h : isNumL (TL.tl x) = true) : (valL (TL.tl x)).natAbs < 10 ^ x.length := by
  rw [TL.len_tl]
  unfold isNumL at h
  rw [Bool.and_eq_true, Bool.and_eq_true] at h
  have d := dg_of h.1.2
  cases e : TL.tl x with
  | nil => exact Nat.pow_pos (by decide)
  | cons c r =>
    by_cases hc : c = 45
    · subst hc
      rw [e] at d
      have := dg_lt r 0 d
      show (-((NumText.digitsVal r : Nat) : Int)).natAbs < _
      rw [Int.natAbs_neg, Int.natAbs_natCast, List.length_cons, Nat.pow_succ]
      have hd : NumText.digitsVal r < 10 ^ r.length := by
        have z := this
        rw [Nat.zero_add, Nat.one_mul] at z
        exact z
      omega
    · have eb : bodyL (c :: r) = c :: r := by
        unfold bodyL
        split
        · rename_i r' h'
          exact absurd (List.cons.inj h').1 hc
        · rfl
      have ev : valL (c :: r) = ((NumText.digitsVal (c :: r) : Nat) : Int) := by
        unfold valL
        split
        · rename_i r' h'
          exact absurd (List.cons.inj h').1 hc
        · rfl
      rw [e, eb] at d
      have := dg_lt (c :: r) 0 d
      rw [Nat.zero_add, Nat.one_mul] at this
      rw [ev, Int.natAbs_natCast]
      exact this
def WrongF (cI : Addr) (f : Str) (x : V) (H : Hp) (E : XK) : Prop := ∀ H' d, H d = none → Ex H H' → H' d = some (.xd [(f, x)]) → E (.ref cI) (some d) H'
theorem WrongF.ex {cI : Addr} {f : Str} {x : V} {H H' : Hp} {E : XK} (h : WrongF cI f x H E) (e : Ex H H') : WrongF cI f x H' E := fun H2 d hd e2 hx => h H2 d (fresh_back e hd) (e.trans e2) hx
def sp_lineofX (K : PySem.W.Frag) (C : Addr) : Sp := fun vs H Q E => ∃ v, vs = [v] ∧ ((∃ d, DdAt K H v d ∧ GoodD d ∧ RetV (.str (lineD d)) H Q) ∨ (DeedQ K H v false ∧ WrongF C "value" v H E))
/-- a deed at some place -/
def RetD (K : PySem.W.Frag) (d : Dd) (H : Hp) (Q : VK) : Prop := ∀ H' u, Ex H H' → DdAt K H' u d → Q u H'
theorem RetD.ex {K : PySem.W.Frag} {d : Dd} {H H' : Hp} {Q : VK} (h : RetD K d H Q) (e : Ex H H') : RetD K d H' Q := fun H2 u e2 hu => h H2 u (e.trans e2) hu
def sp_dfrom (K : PySem.W.Frag) : Sp := fun vs H Q _ => ∃ v, vs = [v] ∧ ((∃ T, TyB K H v T ∧ isS v = false ∧ RetV .non H Q) ∨ (∃ x : Str, v = .str x ∧ x.length ≤ 500 ∧ (∀ d, fromL (ws x) = some d → RetD K d H Q) ∧ (fromL (ws x) = none → RetV .non H Q)))
def sp_rdeedX (K : PySem.W.Frag) (C : Addr) : Sp := fun vs H Q E => ∃ v, vs = [v] ∧ ((∃ T, TyB K H v T ∧ isS v = false ∧ WrongF C "line" (.int 1) H E) ∨ (∃ x : Str, v = .str x ∧ x.length ≤ 500 ∧ (∀ d, fromL (ws x) = some d → RetD K d H Q) ∧ (fromL (ws x) = none → WrongF C "line" (.int 1) H E)))
theorem look_mem {z : Str} {n : Nat} : ∀ {l : List (Str × Nat)}, l.lookup z = some n → (z, n) ∈ l
  | [], h => by cases h
  | p :: l, h => by
    rw [List.lookup_cons] at h
    cases e : (z == p.1) with
    | true =>
      rw [e] at h
      cases h
      rw [eq_of_beq e]
      exact List.mem_cons_self
    | false =>
      rw [e] at h
      exact List.mem_cons_of_mem _ (look_mem h)
def sizeOk (p : Str × Nat) : Bool := decide (p.1.length ≤ 6) && decide (1 ≤ p.2) && decide (p.2 ≤ 3) && !decide (32 ∈ TL.tl p.1) && decide (p.1.length ≥ 4)
theorem size_ok {z : Str} {n : Nat} (h : sizeD z = some n) : z.length ≤ 6 ∧ 1 ≤ n ∧ n ≤ 3 ∧ 32 ∉ TL.tl z ∧ 4 ≤ z.length := by
  have all : sizes.all sizeOk = true := by decide +kernel
  have := List.all_eq_true.mp all _ (look_mem h)
  unfold sizeOk at this
  simp only [Bool.and_eq_true, Bool.not_eq_true', decide_eq_true_eq, decide_eq_false_iff_not] at this
  obtain ⟨⟨⟨⟨h1, h2⟩, h3⟩, h4⟩, h5⟩ := this
  exact ⟨h1, h2, h3, h4, h5⟩
theorem dd_size {d : Dd} (h : isDd d = true) : sizeD d.1 = some d.2.length := by
  unfold isDd at h
  split at h
  · rename_i n hn
    rw [Bool.and_eq_true] at h
    rw [of_decide_eq_true h.1]
    exact hn
  · cases h
theorem oT_len {d : Dd} (g : GoodD d) : ∀ t ∈ d.1 :: d.2.map oT, t.length ≤ 41 := fun t ht => by
  rcases List.mem_cons.mp ht with rfl | ht
  · have := (size_ok (dd_size g.is)).1
    omega
  · obtain ⟨p, hp, rfl⟩ := List.mem_map.mp ht
    cases p with
    | none =>
      have : (Str.ofString "none").length = 4 := by decide +kernel
      show (Str.ofString "none").length ≤ 41
      omega
    | some i => exact numZ_len (g.nm i hp)
def noneT (x : V) : V := if x = .non then .str "none" else x
section
variable {P : Program} {w : World} {K : PySem.W.Frag} {mg : Str → Option Value} {base : Heap} {C : Addr} {H H' H0 H1 G : Hp} {σ : L2.St} {te tb ta tc tl : TE} {t tt : TT} {tA : TA} {E Er : XK} {D : Ends} {tz : TS} {a b d p : Addr} {v x : V} {Q : VK} {j : Nat} {vs : List Nat} {s1 s2 z : Str} {xs : List V}
theorem el_split {zs : List Str} (ha : Ev ta σ H (.str s1)) (hb : Ev tb σ H (.str s2)) (h : Txt.split s1 s2 = zs) (h0 : (s2.length == 0) = false) (hl : s1.length ≤ 100000) :
    EvL (tM1 (fun x xs H Q => ∃ a b, x = .str a ∧ xs = [.str b] ∧ (b.length == 0) = false ∧ a.length + 2 ≤ sizeLine ∧ rNewStrs (Txt.split a b) H Q) ta tb) σ H (zs.map V.str) := fun H1 e Q q =>
  ha H1 e _ fun H2 e2 => ⟨⟨s1, rfl⟩, hb H2 (e.trans e2) _ fun H3 e3 => ⟨s1, s2, rfl, rfl, h0, by rw [sizeLine_eq]; omega, fun p hp => by
    rw [h]
    exact q p _ (fresh_back (e2.trans e3) hp) ((e2.trans e3).trans (Ex.new hp)) upd_same⟩⟩
theorem rc_intS {x : Str} {i : Int} (h : intText? x = some i) (hl : x.length ≤ 640) : RC (fun xs H Q => ∃ a n, xs = [V.str a] ∧ PySem.intText? a = some n ∧ a.length ≤ 640 ∧ Q (.int n) H) [.str x] H (.int i) := fun H1 _ Q q => ⟨x, i, rfl, h, hl, q H1 (Ex.refl H1)⟩
theorem spk_line {d : Dd} (g : GoodD d) : ∀ (i : Nat) (x : V), ((dV d).map noneT)[i]? = some x → ∃ t : Str, (d.1 :: d.2.map oT)[i]? = some t ∧ SpkZ x t := fun i x hx => by
  cases i with
  | zero =>
    have : V.str d.1 = x := Option.some.inj hx
    rw [← this]
    exact ⟨_, rfl, .s _⟩
  | succ i =>
    have hx : ((d.2.map oV).map noneT)[i]? = some x := hx
    rw [List.map_map, List.getElem?_map] at hx
    obtain ⟨p, hp, rfl⟩ := Option.map_eq_some_iff.mp hx
    refine ⟨oT p, by rw [List.getElem?_cons_succ, List.getElem?_map, hp]; rfl, ?_⟩
    cases p with
    | none => exact .s _
    | some i' => exact .z i' (g.nm i' (List.mem_of_getElem? hp))
theorem ok_line_ofX (T : Txt K mg w) (G_is_deed : FnG P w K mg base CX0 2 T.f_is_deed T.fd_is_deed ["value"] (sp_isdeed K)) (G_line_from : FnG P w K mg base CX0 1 T.f_line_from T.fd_line_from ["parts"] (sp_lineZ K)) : FnG P w K mg base (L2.CX P w) 4 T.f_line_of T.fd_line_of ["deed"] (sp_lineofX K T.C_InvalidDeed) := by
  skip
  refine okGX T.F_line_of sc_line_of (fun vs H Q E h => ?_) (fun cdv A outer s H vs Q E gd hr h => ?_)
  · obtain ⟨_, rfl, _⟩ := h
    all_goals rfl
  · obtain ⟨v, rfl, h⟩ := h
    have tk : Takes (cxOf (L2.CX P w) P w K mg base N_line_of "line_of" (defScope s_line_of) T.f_line_of cdv A outer s H E) (fun cls d _ H => E cls d H) := takes_of rfl rfl rfl rfl
    refine ⟨_, (pss_cons (ps_if (PT.nox (pt_not (pt_val (pc gd G_is_deed (hr.mono (by decide)) (by rfl) T.m_is_deed T.F_is_deed.kp T.b_is_deed .nil pass0 (pa_cons (pv 0) pa_nil))))) (pss_one (ps_raise rfl tk (pmk_value PySem.F.store_ValueError PySem.F.excBase_ValueError T.X_InvalidDeed hr (by rfl) T.m_InvalidDeed (pa_cons (pv 0) pa_nil)))) pss_nil) (pss_one (ps_ret (PE.nox (pc gd G_line_from (hr.mono (by decide)) (by rfl) T.m_line_from T.F_line_from.kp T.b_line_from .nil pass0 (pa_cons (pe_lc (own := [("part", 1)]) (g := gName 1) rfl sc_line_of.nd (show PI _ _ _ (iTup K _) from pi_tup (pv 0)) (blkOk_by (N := N_line_of) (sc := defScope s_line_of) (by decide +kernel)) (fun _ _ _ _ _ => (pg_name (i := 1) sc_line_of.nd rfl (Or.inl rfl) (Or.inr rfl))) (fun _ _ _ _ _ => pts_nil) (fun _ _ _ _ _ => (pe_ifExp (pt_cmpR op_isN (pv 1) pe_non (nomark _)) pe_str (pv 1)))) pa_nil)))))), ?_⟩
    rcases h with ⟨dd, hd, g, q⟩ | ⟨dq, we⟩
    · have sz := size_ok (dd_size g.is)
      have isd : EvT (tB (tCall (sp_isdeed K) [] E0 (tCons (tVar 0) tNil))) [some v, none] H true := et_B (ev_call (ea_cons (ev_var rfl) ea_nil) fun H1 e Q q _ => ⟨v, true, rfl, g.is ▸ ((hd.q (by omega)).ex e), q⟩)
      obtain ⟨a, rfl, ha⟩ := hd
      refine q_when (b := false) (et_not (a := true) isd) (fun z => nomatch z) fun _ H1 e1 => ?_
      refine s_retR (call_raw0 (cons1_raw ((el_is (el_lcT (a := a) (xs := dV dd) (fun _ => true) (fun i => ((dV dd)[i]?.map noneT).getD .non) (ev_var rfl) (ex_t e1 ha) (by show (dd.2.map oV).length + 1 ≤ 40000; rw [List.length_map]; omega) (fun _ => rfl) (fun _ _ _ _ _ => et_yes) (fun i x H2 e2 hi _ => ?_)) (given_map (dV dd) noneT) : EvL _ _ H1 ((dV dd).map noneT)) H1 (Ex.refl H1) _ fun p H2 hp e2 h2 => ⟨p, dd.1 :: dd.2.map oT, (dV dd).map noneT, rfl, sq_of h2, ?_, spk_line g, ?_, fun t ht => Nat.le_trans (oT_len g t ht) (by omega), q.go (e1.trans e2) |> fun z => fun H3 e3 => q H3 ((e1.trans e2).trans e3)⟩)))
      · rw [hi]
        by_cases hx : x = .non
        · subst hx
          exact ev_if (b := true) (et_test (ev_op (ev_var rfl) ev_c (rv_isN rfl))) (fun _ => ev_c) (fun z => nomatch z)
        · show Ev _ _ _ (noneT x)
          unfold noneT
          rw [if_neg hx]
          exact ev_if (b := false) (et_test (ev_op (ev_var rfl) ev_c (rv_isN (decide_eq_false hx)))) (fun z => nomatch z) (fun _ => ev_var rfl)
      · show ((V.str dd.1 :: dd.2.map oV).map noneT).length = (dd.1 :: dd.2.map oT).length
        simp
      · rw [List.length_cons, List.length_map]
        omega
    · have isd : EvT (tB (tCall (sp_isdeed K) [] E0 (tCons (tVar 0) tNil))) [some v, none] H false := et_B (ev_call (ea_cons (ev_var rfl) ea_nil) fun H1 e Q q _ => ⟨v, false, rfl, dq.ex e, q⟩)
      exact q_when (b := true) (et_not (a := false) isd) (fun _ H1 e1 => (ea_cons (ev_var rfl) ea_nil : EvA _ _ _ [v]) H1 (Ex.refl H1) _ fun H2 e2 => ⟨v, rfl, fun dd hd => we _ dd (fresh_back (e1.trans e2) hd) ((e1.trans e2).trans (Ex.new hd)) upd_same⟩) (fun z => nomatch z)
theorem ok_deed_from (T : Txt K mg w) (G_is_numeral : FnG P w K mg base CX0 1 T.f_is_numeral T.fd_is_numeral ["word"] sp_isnumG) (G_is_deed : FnG P w K mg base CX0 2 T.f_is_deed T.fd_is_deed ["value"] (sp_isdeed K)) : FnG P w K mg base CX0 4 T.f_deed_from T.fd_deed_from ["value"] (sp_dfrom K) := by
  skip
  refine okG T.F_deed_from sc_deed_from (fun vs H Q E h => ?_) (fun cdv A outer s H vs Q E gd hr h => ?_)
  · obtain ⟨_, rfl, _⟩ := h
    all_goals rfl
  · obtain ⟨v, rfl, h⟩ := h
    refine ⟨_, (pss_cons (ps_if (pt_not (pt_val (pe_callB call_isi (by rfl) T.z_isinstance boot_isinstance (pa_cons (pv 0) (pa_cons (pe_bltn (v := .ty "str") (u := .type "str") (by rfl) T.z_str (by decide +kernel) rfl) pa_nil))))) (pss_one (ps_ret pe_non)) pss_nil) (pss_cons (ps_asg (pe_split (pv 0) pe_str) (pg_star rfl (pg_name (i := 1) sc_deed_from.nd rfl (Or.inl rfl) (Or.inr rfl)) (pg_name (i := 2) sc_deed_from.nd rfl (Or.inl rfl) (Or.inr rfl)))) (pss_cons (ps_set (i := 3) sc_deed_from.nd rfl (Or.inl rfl) (pe_lst pa_nil)) (pss_cons (ps_for PassesOwn.never rfl (pi_list (pv 2)) (pg_name (i := 4) sc_deed_from.nd rfl (Or.inl rfl) (Or.inr rfl)) (pss_cons (ps_if ((pw_and (pt_cmpR op_ne (pv 4) pe_str (nomark _)) (pw_and1 (pt_not (pt_val (pc gd G_is_numeral (hr.mono (by decide)) (by rfl) T.m_is_numeral T.F_is_numeral.kp T.b_is_numeral .nil pass0 (pa_cons (pv 4) pa_nil))))))).pt (pss_one (ps_ret pe_non)) pss_nil) (pss_one (ps_expr (pe_bm PySem.F.plainAttrs_list PySem.F.slot_list_append PySem.F.type_list_append mt_append (pv 3) (pa_cons (pe_ifExp (pt_cmpR op_eq (pv 4) pe_str (nomark _)) pe_non (pe_callTy call_int_str (by rfl) T.z_int (by decide +kernel) (pa_cons (pv 4) pa_nil))) pa_nil)))))) (pss_cons (ps_set (i := 5) sc_deed_from.nd rfl (Or.inl rfl) (pe_tupX (pa_cons (pv 1) (pa_star (pv 3) pa_nil)))) (pss_one (ps_ret (pe_ifExp (pt_val (pc gd G_is_deed (hr.mono (by decide)) (by rfl) T.m_is_deed T.F_is_deed.kp T.b_is_deed .nil pass0 (pa_cons (pv 5) pa_nil))) (pv 5) pe_non)))))))), ?_⟩
    rcases h with ⟨T', ht, hs, q⟩ | ⟨x, rfl, hl, q1, q2⟩
    · have hS := tyB_str ht
      rw [hs] at hS
      exact q_when (b := true) (et_not (a := false) (et_B (ev_cb (ea_cons (ev_var rfl) (ea_cons ev_c ea_nil)) (rc_isiB (.ty "str") ht hS)))) (fun _ H1 e1 => s_ret ev_c fun H2 e2 => q H2 (e1.trans e2)) (fun z => nomatch z)
    · refine q_when (b := false) (et_not (a := true) (et_B (ev_cb (ea_cons (ev_var rfl) (ea_cons ev_c ea_nil)) (rc_isiB (.ty "str") (.str x) (kit_ty (by decide +kernel)))))) (fun z => nomatch z) fun _ H1 e1 => ?_
      obtain ⟨w0, ns, hws⟩ : ∃ w0 ns, ws x = w0 :: ns := by
        cases e : ws x with
        | nil => exact absurd e (ws_ne x)
        | cons w0 ns => exact ⟨w0, ns, rfl⟩
      have wl := ws_len x
      rw [hws] at wl q1 q2
      have wl1 : ns.length ≤ 501 := by
        have := wl.1
        rw [List.length_cons] at this
        omega
      refine q_asgR ((el_split (ev_var rfl) ev_c (show Txt.split x " " = w0 :: ns from hws) (by decide +kernel) (by omega)) H1 (Ex.refl H1) _ fun ls H2 hls e2 h2 => ⟨ls, .str w0, ns.map V.str, rfl, .inl (sq_of h2), by rw [List.length_map]; omega, fun Dn hD => ?_⟩)
      show tSeq _ _ _ [some (.str x), some (.str w0), some (.ref Dn), none, none, none] _
      have e3 : Ex H (upd H2 Dn (.lst (ns.map V.str))) := (e1.trans e2).trans (Ex.new hD)
      have h3 : (upd H2 Dn (.lst (ns.map V.str))) Dn = some (.lst (ns.map V.str)) := upd_same
      generalize upd H2 Dn (.lst (ns.map V.str)) = H3 at e3 h3
      refine q_asgL (el_lst ea_nil (by show 0 ≤ 100000; omega)) fun pn H4 hpn e4 h4 => ?_
      have nDp : Dn ≠ pn := ne_of_none h3 hpn
      refine q_forLn (a := Dn) (xs := ns.map V.str) (ev_var rfl) (sq_of (e4 _ _ h3)) (fun i σ' H' => ∃ ps x4, (ns.take i).mapM partD = some ps ∧ σ' = [some (.str x), some (.str w0), some (.ref Dn), some (.ref pn), x4, none] ∧ Ex H3 H' ∧ H' pn = some (.lst (ps.map oV))) (fun H5 e5 => ⟨[], none, rfl, rfl, e4.trans e5, e5 _ _ h4⟩) (fun i σ' H' _ z => ?_) (fun i y' σ' H' hi z => ?_) (fun σ' H' z => ?_)
      · obtain ⟨_, _, _, _, z, _⟩ := z
        exact sq_of (z _ _ h3)
      · obtain ⟨ps, x4, hm, rfl, x5, hp5⟩ := z
        rw [List.getElem?_map] at hi
        obtain ⟨y, hy, rfl⟩ := Option.map_eq_some_iff.mp hi
        have ym : y ∈ ns := List.mem_of_getElem? hy
        have yl : y.length ≤ 500 := Nat.le_trans (wl.2 y (List.mem_cons_of_mem _ ym)) hl
        have il : i < ns.length := (List.getElem?_eq_some_iff.mp hy).1
        have pl : ps.length = (ns.take i).length := mapM_len hm
        rw [List.length_take] at pl
        show tSeq _ _ _ [some (.str x), some (.str w0), some (.ref Dn), some (.ref pn), some (.str y), none] H'
        refine q_when (b := !decide (V.str y = V.str "none") && !isNumL (TL.tl y)) (et_and (et_test (ev_op (ev_var rfl) ev_c (rv_ne rfl))) fun _ => et_not (et_B (ev_call (ea_cons (ev_var rfl) ea_nil) fun H6 e6 Q6 q6 E6 => ⟨y, rfl, by omega, q6⟩))) (fun hb H6 e6 => ?_) fun hb H6 e6 => ?_
        · rw [Bool.and_eq_true, Bool.not_eq_true', Bool.not_eq_true', decide_eq_false_iff_not] at hb
          have bad : partD y = none := by
            unfold partD intD
            rw [if_neg (fun z => hb.1 (by rw [z])), if_neg (by rw [hb.2]; exact Bool.false_ne_true)]
            rfl
          have nf : fromL (w0 :: ns) = none := by
            rw [fromL_cons, mapM_bad ym bad]
            rfl
          exact s_ret ev_c fun H7 e7 => q2 nf H7 ((e3.trans x5).trans (e6.trans e7))
        · have hp6 := e6 _ _ hp5
          obtain ⟨p, hpp, hev⟩ : ∃ p, partD y = some p ∧ Ev (tIf (tTest (tOp rEq (tVar 4) (tC (.str "none")))) (tC .non) (tCB (fun xs H Q => ∃ a n, xs = [V.str a] ∧ PySem.intText? a = some n ∧ a.length ≤ 640 ∧ Q (.int n) H) (tCons (tVar 4) tNil))) [some (.str x), some (.str w0), some (.ref Dn), some (.ref pn), some (.str y), none] H6 (oV p) := by
            by_cases hn : y = "none"
            · refine ⟨none, by unfold partD; rw [if_pos hn], ev_if (b := true) (et_test (ev_is (ev_op (ev_var rfl) ev_c (rv_eq rfl)) (cbl (decide_eq_true (by rw [hn]))))) (fun _ => ev_c) fun z => nomatch z⟩
            · have hne : ¬ V.str y = V.str "none" := fun z => hn (V.str.inj z)
              rw [decide_eq_false hne, Bool.not_false, Bool.true_and, Bool.not_eq_false'] at hb
              refine ⟨some (valL (TL.tl y)), by unfold partD intD; rw [if_neg hn, if_pos hb]; rfl, ev_if (b := false) (et_test (ev_is (ev_op (ev_var rfl) ev_c (rv_eq rfl)) (cbl (decide_eq_false hne)))) (fun z => nomatch z) fun _ => ev_cb (ea_cons (ev_var rfl) ea_nil) (rc_intS (num_int hb (by omega)) (by omega))⟩
          refine s_app (xs := ps.map oV) hp6 (ev_var rfl) hev (by rw [List.length_map]; omega) fun H7 e7 => ⟨ps ++ [p], some (.str y), ?_, rfl, ?_, ?_⟩
          · rw [List.take_add_one, hy]
            exact mapM_snoc hm hpp
          · exact (x5.trans (e6.trans e7)).mut hpn
          · rw [upd_same, List.map_append]
            rfl
      · obtain ⟨ps, x4, hm, rfl, x5, hp5⟩ := z
        rw [List.length_map, List.take_length] at hm
        have pl : ps.length = ns.length := mapM_len hm
        have fr : fromL (w0 :: ns) = if isDd (w0, ps) = true then some (w0, ps) else none := by
          rw [fromL_cons, hm]
          rfl
        refine q_asgR (tupx_rawX (cons_raw (ev_var (v := .str w0) rfl) fun H6 e6 => ev_raw (ev_var (v := .ref pn) rfl) fun H7 e7 => ⟨pn, ps.map oV, rfl, .inr (sq_of ((e6.trans e7) _ _ hp5)), nil_raw ⟨sz_of (by rw [List.length_cons, List.append_nil, List.length_map]; omega), fun tp o htp bo => ?_⟩⟩))
        have e8 : Ex H7 (upd H7 tp (.frz o (.tup (.str w0 :: (ps.map oV ++ []))))) := Ex.new htp
        have h8 : (upd H7 tp (.frz o (.tup (.str w0 :: (ps.map oV ++ []))))) tp = some (.frz o (.tup (.str w0 :: (ps.map oV ++ [])))) := upd_same
        rw [List.append_nil] at e8 h8 ⊢
        generalize upd H7 tp (.frz o (.tup (.str w0 :: ps.map oV))) = H8 at e8 h8
        have d8 : DdAt K H8 (.ref tp) (w0, ps) := ⟨tp, rfl, frz_t h8⟩
        have x8 : Ex H H8 := (e3.trans x5).trans ((e6.trans e7).trans e8)
        show tRet _ _ [some (.str x), some (.str w0), some (.ref Dn), some (.ref pn), x4, some (.ref tp)] H8
        have isd : EvT (tB (tCall (sp_isdeed K) [] E0 (tCons (tVar 5) tNil))) [some (.str x), some (.str w0), some (.ref Dn), some (.ref pn), x4, some (.ref tp)] H8 (isDd (w0, ps)) := et_B (ev_call (ea_cons (ev_var rfl) ea_nil) fun H9 e9 Q9 q9 _ => ⟨.ref tp, isDd (w0, ps), rfl, (d8.ex e9).q (by show ps.length ≤ 900; omega), q9⟩)
        cases hb : isDd (w0, ps) with
        | true =>
          rw [hb] at isd
          rw [if_pos hb] at fr
          exact s_ret (ev_if (b := true) isd (fun _ => ev_var (v := .ref tp) rfl) fun z => nomatch z) fun H9 e9 => q1 _ fr H9 _ (x8.trans e9) (d8.ex e9)
        | false =>
          rw [hb] at isd
          rw [if_neg (by rw [hb]; exact Bool.false_ne_true)] at fr
          exact s_ret (ev_if (b := false) isd (fun z => nomatch z) fun _ => ev_c) fun H9 e9 => q2 fr H9 (x8.trans e9)
theorem ok_read_deedX (T : Txt K mg w) (G_deed_from : FnG P w K mg base CX0 4 T.f_deed_from T.fd_deed_from ["value"] (sp_dfrom K)) : FnG P w K mg base (L2.CX P w) 5 T.f_read_deed T.fd_read_deed ["line"] (sp_rdeedX K T.C_InvalidText) := by
  skip
  refine okGX T.F_read_deed sc_read_deed (fun vs H Q E h => ?_) (fun cdv A outer s H vs Q E gd hr h => ?_)
  · obtain ⟨_, rfl, _⟩ := h
    all_goals rfl
  · obtain ⟨v, rfl, h⟩ := h
    have tk : Takes (cxOf (L2.CX P w) P w K mg base N_read_deed "read_deed" (defScope s_read_deed) T.f_read_deed cdv A outer s H E) (fun cls d _ H => E cls d H) := takes_of rfl rfl rfl rfl
    refine ⟨_, (pss_cons (ps_set (i := 1) sc_read_deed.nd rfl (Or.inl rfl) (pc gd G_deed_from (hr.mono (by decide)) (by rfl) T.m_deed_from T.F_deed_from.kp T.b_deed_from .nil pass0 (pa_cons (pv 0) pa_nil))) (pss_cons (ps_if (PT.nox (pt_cmpR op_isN (pv 1) pe_non (nomark _))) (pss_one (ps_raise rfl tk (pmk_line PySem.F.store_ValueError PySem.F.excBase_ValueError T.X_InvalidText hr (by rfl) T.m_InvalidText (pa_cons pe_int pa_nil)))) pss_nil) (pss_one (ps_ret (PE.nox (pv 1)))))), ?_⟩
    have bad : ∀ {H2 : Hp}, Ex H H2 → WrongF T.C_InvalidText "line" (.int 1) H E → tSeq (tIfS (tTest (tOp (fun x y H Q => y = V.non ∧ Q (.bl (decide (x = .non))) H) (tVar 1) (tC .non))) (fun _ σ H => tMk1 T.C_InvalidText "line" (tCons (tC (.int 1)) tNil) σ H fun cls d H' => E cls d H') tNext) (tRet (tVar 1)) ⟨fun _ _ => False, fun v H' => Q v H', fun _ _ => False, fun _ _ => False⟩ [some v, some .non] H2 := fun {H2} e2 we =>
      q_when (b := true) (et_test (ev_op (ev_var rfl) ev_c (rv_isN rfl))) (fun _ H3 e3 => (ea_cons ev_c ea_nil : EvA _ _ _ [.int 1]) H3 (Ex.refl H3) _ fun H4 e4 => ⟨.int 1, rfl, fun dd hd => we _ dd (fresh_back (e2.trans (e3.trans e4)) hd) ((e2.trans (e3.trans e4)).trans (Ex.new hd)) upd_same⟩) (fun z => nomatch z)
    refine q_asgR ((ea_cons (ev_var rfl) ea_nil : EvA _ _ _ [v]) H (Ex.refl H) _ fun H1 e1 => ⟨v, rfl, ?_⟩)
    rcases h with ⟨T', ht, hs, we⟩ | ⟨x, rfl, hl, q1, we⟩
    · exact .inl ⟨T', tyB_ex e1 ht, hs, fun H2 e2 => bad (e1.trans e2) we⟩
    · refine .inr ⟨x, rfl, hl, fun dd hd H2 u e2 du => ?_, fun hn H2 e2 => bad (e1.trans e2) (we hn)⟩
      obtain ⟨a, rfl, ha⟩ := id du
      exact q_when (b := false) (et_test (ev_op (ev_var rfl) ev_c (rv_isN rfl))) (fun z => nomatch z) fun _ H3 e3 => s_ret (ev_var (v := .ref a) rfl) fun H4 e4 => q1 dd hd H4 _ ((e1.trans e2).trans (e3.trans e4)) (du.ex (e3.trans e4))
end
end My
namespace My
open PySem PySem.Spec PyProof.Rows L2 GL Evl StX SkE
/-! ### drawn deeds, their lines by the law -/
def lotsK : List (Key × V) := sizes.map fun p => (Sum.inr p.1, V.int (p.2 : Int))
theorem lots_merge : mergeK [] lotsK = lotsK := by decide +kernel
theorem lots_get (z : Str) : valV lotsK (.inr z) = (sizeD z).map fun n : Nat => V.int (n : Int) := by
  have go : ∀ l : List (Str × Nat), valV (l.map fun p => ((Sum.inr p.1 : Key), V.int (p.2 : Int))) (.inr z) = (l.lookup z).map fun n : Nat => V.int (n : Int) := by
    intro l
    induction l with
    | nil => rfl
    | cons p l ih =>
      rw [List.map_cons, List.lookup_cons]
      by_cases h : z = p.1
      · rw [valV_pos (by rw [h]), h, beq_self_eq_true]
        rfl
      · rw [beq_eq_false_iff_ne.mpr h, ← ih]
        unfold valV
        rw [List.find?_cons, decide_eq_false (fun e => h (Sum.inr.inj e).symm)]
  exact go sizes
theorem sizes_self : ∀ p ∈ sizes, sizeD p.1 = some p.2 := by decide +kernel
def sp_Llots : Sp := fun vs H Q _ => vs = [] ∧ ∀ H' p, H p = none → Ex H H' → H' p = some (.dK lotsK) → Q (.ref p) H'
def sp_Lnumber : Sp := fun vs H Q _ => ∃ a, vs = [.ref a] ∧ PotAt H a ∧ ∀ H' i, ExB a H H' → PotAt H' a → NumOk i → Q (.int i) H'
def sp_Lact (K : PySem.W.Frag) : Sp := fun vs H Q _ => ∃ a, vs = [.ref a] ∧ PotAt H a ∧ ∀ H' v d, ExB a H H' → PotAt H' a → DdAt K H' v d → GoodD d → Q v H'
def sp_Lspelled (K : PySem.W.Frag) : Sp := fun vs H Q _ => ∃ v d, vs = [v] ∧ DdAt K H v d ∧ GoodD d ∧ RetV (.str (lineD d)) H Q
def spV : V → V
  | .non => .str "none"
  | .str t => .str t
  | .int i => .str (numZ i)
  | _ => .non
theorem spV_dV (d : Dd) : (dV d).map spV = (d.1 :: d.2.map oT).map V.str := by
  show V.str d.1 :: (d.2.map oV).map spV = V.str d.1 :: (d.2.map oT).map V.str
  rw [List.map_map, List.map_map]
  congr 1
  exact List.map_congr_left fun p _ => by cases p <;> rfl
theorem limit_two : sizeD "limit" = some 2 := by decide +kernel
theorem good_of {z : Str} {n : Nat} {is : List Int} (h : sizeD z = some n) (hl : is.length = n) (ok : ∀ i ∈ is, NumOk i) : GoodD (z, is.map some) := by
  refine ⟨?_, fun i hi => ?_⟩
  · unfold isDd
    dsimp only
    rw [h]
    dsimp only
    rw [List.length_map, decide_eq_true hl, Bool.true_and, if_neg, List.all_map]
    · exact List.all_eq_true.mpr fun _ _ => rfl
    · rintro ⟨_, h2⟩
      rw [List.getElem?_map] at h2
      cases e : is[1]? with
      | none => rw [e] at h2; cases h2
      | some i => rw [e] at h2; cases h2
  · obtain ⟨j, hj, e⟩ := List.mem_map.mp hi
    rw [← Option.some.inj e]
    exact ok j hj
theorem good_set {i0 : Int} (ok : NumOk i0) : GoodD ("limit", [some i0, none]) := by
  refine ⟨?_, fun i hi => ?_⟩
  · unfold isDd
    dsimp only
    rw [limit_two]
    rfl
  · simp only [List.mem_cons, List.not_mem_nil, or_false] at hi
    rcases hi with h | h
    · rw [Option.some.inj h]
      exact ok
    · cases h
def farL : List V := [.int (10 ^ 38), .int (10 ^ 39 - 1), .int (10 ^ 12 + 7), .int 100, .int 10]
theorem far_ok : ∀ v ∈ farL, ∃ f : Int, v = .int f ∧ 0 ≤ f ∧ f < 10 ^ 39 := by
  intro v hv
  unfold farL at hv
  simp only [List.mem_cons, List.not_mem_nil, or_false] at hv
  rcases hv with rfl | rfl | rfl | rfl | rfl
  · exact ⟨_, rfl, by decide, by decide⟩
  · exact ⟨_, rfl, by decide, by decide⟩
  · exact ⟨_, rfl, by decide, by decide⟩
  · exact ⟨_, rfl, by decide, by decide⟩
  · exact ⟨_, rfl, by decide, by decide⟩
section
variable {P : Program} {w : World} {K : PySem.W.Frag} {mg : Str → Option Value} {base : Heap} {C : Addr} {H H' H0 H1 G : Hp} {σ : L2.St} {te tb ta tc tl : TE} {t tt : TT} {tA : TA} {E Er : XK} {D : Ends} {tz : TS} {a b d p : Addr} {v x : V} {Q : VK} {j : Nat} {vs : List Nat} {s1 s2 z : Str} {xs : List V}
theorem pick_raw (ha : Ev ta σ H (.ref a)) (hp : PotAt H a) (h : EvL te σ H xs) (h1 : 1 ≤ xs.length) (h2 : xs.length ≤ 1000) (k : ∀ H' v, ExB a H H' → PotAt H' a → v ∈ xs → Q v H') : tCall sp_Lpick [] Er (tCons ta (tCons te tNil)) σ H Q :=
  call_raw0 (cons_raw ha fun H1 e1 => cons1_raw (h H1 e1 _ fun p H2 hp2 e2 h3 => ⟨a, p, xs, rfl, hp.ex (e1.trans e2), (fun z => by
    obtain ⟨x, y, hx, _⟩ := hp.ex e1
    rw [z, hx] at hp2
    cases hp2), h3, h1, h2, fun H' v x' p' m => k H' v ((ExB.of (e1.trans e2)).trans x') p' m⟩))
theorem el_lots : EvL (tCB (fun xs H Q => ∃ (a : Addr) (kvs : List (Key × V)), xs = [.ref a] ∧ Rd H a (.dK kvs) ∧ ∀ p, H p = none → Q (.ref p) (upd H p (.lst (kvs.map fun kv => kV kv.1)))) (tCons (tCall sp_Llots [] Er tNil) tNil)) σ H (sizes.map fun p => V.str p.1) := fun H1 e Q q =>
  cb1_raw (call_raw0 (nil_raw ⟨rfl, fun H2 d hd e2 h2 => ⟨d, lotsK, rfl, .inl h2, fun p hp => q p _ (fresh_back e2 hp) (e2.trans (Ex.new hp)) (by
    rw [upd_same]
    unfold lotsK
    rw [List.map_map]
    rfl)⟩⟩))
theorem ev_lotsGet {n : Nat} (h : ∀ H1, Ex H H1 → Ev te σ H1 (.str z)) (hz : sizeD z = some n) : Ev (tDGet (tCall sp_Llots [] Er tNil) te) σ H (nV n) := fun H1 e Q q =>
  call_raw0 (nil_raw ⟨rfl, fun H2 d hd e2 h2 => h H2 (e.trans e2) H2 (Ex.refl H2) _ fun H3 e3 => ⟨d, nV n, rfl, (by
    have := DGet.k (k := .inr z) (e3 _ _ h2)
    rw [lots_get, hz] at this
    exact this), q H3 (e2.trans e3)⟩⟩)
theorem ok_Llots (T : Txt K mg w)  : FnG P w K mg base CX0 1 T.f_Llots T.fd_Llots [] sp_Llots := by
  skip
  refine okG T.F_Llots sc_Llots (fun vs H Q E h => ?_) (fun cdv A outer s H vs Q E gd hr h => ?_)
  · obtain ⟨rfl, _⟩ := h
    all_goals rfl
  · obtain ⟨rfl, q⟩ := h
    refine ⟨_, (pss_one (ps_ret (pe_disp (pps_cons pe_str pe_int (pps_cons pe_str pe_int (pps_cons pe_str pe_int (pps_cons pe_str pe_int (pps_cons pe_str pe_int (pps_cons pe_str pe_int (pps_cons pe_str pe_int (pps_cons pe_str pe_int (pps_cons pe_str pe_int pps_nil))))))))) rfl rfl (by simp) (by simp)))), ?_⟩
    exact s_retR fun dn hd => ⟨upd_same, lotsK, rfl, by decide, by
      rw [lots_merge]
      exact q _ dn hd ((Ex.new hd).mut hd) upd_same⟩
theorem ok_Lnumber (T : Txt K mg w) (G_Lpick : FnG P w K mg base CX0 2 T.f_Lpick T.fd_Lpick ["_law_pot_here", "_law_some"] sp_Lpick) (G_Ldraw : FnG P w K mg base CX0 1 T.f_Ldraw T.fd_Ldraw ["_law_pot_here", "_law_sides"] sp_Ldraw) : FnG P w K mg base CX0 3 T.f_Lnumber T.fd_Lnumber ["_law_pot_here"] sp_Lnumber := by
  skip
  refine okG T.F_Lnumber sc_Lnumber (fun vs H Q E h => ?_) (fun cdv A outer s H vs Q E gd hr h => ?_)
  · obtain ⟨_, rfl, _⟩ := h
    all_goals rfl
  · obtain ⟨a, rfl, hp, q⟩ := h
    refine ⟨_, (pss_cons (ps_set (i := 1) sc_Lnumber.nd rfl (Or.inl rfl) (pc gd G_Lpick (hr.mono (by decide)) (by rfl) T.m_Lpick T.F_Lpick.kp T.b_Lpick .nil pass0 (pa_cons (pv 0) (pa_cons (pe_lst (pa_cons (pe_op op_pow pe_int pe_int) (pa_cons (pe_op op_sub (pe_op op_pow pe_int pe_int) pe_int) (pa_cons (pe_op op_add (pe_op op_pow pe_int pe_int) pe_int) (pa_cons pe_int (pa_cons pe_int pa_nil)))))) pa_nil)))) (pss_cons (ps_set (i := 2) sc_Lnumber.nd rfl (Or.inl rfl) (pc gd G_Ldraw (hr.mono (by decide)) (by rfl) T.m_Ldraw T.F_Ldraw.kp T.b_Ldraw .nil pass0 (pa_cons (pv 0) (pa_cons pe_int pa_nil)))) (pss_one (ps_ret (pc gd G_Lpick (hr.mono (by decide)) (by rfl) T.m_Lpick T.F_Lpick.kp T.b_Lpick .nil pass0 (pa_cons (pv 0) (pa_cons (pe_lst (pa_cons pe_int (pa_cons pe_int (pa_cons pe_int (pa_cons pe_int (pa_cons pe_int (pa_cons pe_int (pa_cons (pe_un un_neg pe_int) (pa_cons (pe_un un_neg pe_int) (pa_cons (pv 1) (pa_cons (pe_op op_sub pe_int (pv 1)) (pa_cons (pv 2) (pa_cons (pe_op op_sub pe_int (pe_op op_mul (pv 2) (pe_op op_pow pe_int pe_int))) pa_nil))))))))))))) pa_nil))))))), ?_⟩
    refine q_asgR (pick_raw (xs := farL) (ev_var rfl) hp (el_lst (ea_cons (ev_is (ev_op ev_c ev_c (rv_I ⟨by decide, by decide, by decide⟩)) rfl) (ea_cons (ev_is (ev_op (ev_op ev_c ev_c (rv_I ⟨by decide, by decide, by decide⟩)) ev_c rv_I0) rfl) (ea_cons (ev_is (ev_op (ev_op ev_c ev_c (rv_I ⟨by decide, by decide, by decide⟩)) ev_c rv_I0) rfl) (ea_cons ev_c (ea_cons ev_c ea_nil))))) (by show 5 ≤ 100000; omega)) (by decide) (by decide) fun H1 v x1 p1 hv => ?_)
    obtain ⟨f, rfl, f0, f1⟩ := far_ok v hv
    show tSeq _ _ _ [some (.ref a), some (.int f), none] H1
    refine q_asgR (dr (n := 1000) (ea_cons (ev_var rfl) (ea_cons (ev_is ev_c rfl) ea_nil)) p1 (by omega) (by omega) fun H2 nr x2 p2 hn => ?_)
    show tRet _ _ [some (.ref a), some (.int f), some (nV nr)] H2
    refine s_retR (pick_raw (xs := [.int 0, .int 0, .int 1, .int 2, .int 7, .int 10, .int (-1), .int (-10), .int f, .int (0 - f), .int (nr : Int), .int (0 - (nr : Int) * 10 ^ (6 : Int).toNat)]) (ev_var rfl) p2 (el_lst (ea_cons ev_c (ea_cons ev_c (ea_cons ev_c (ea_cons ev_c (ea_cons ev_c (ea_cons ev_c (ea_cons (ev_un ev_c ru_neg) (ea_cons (ev_un ev_c ru_neg) (ea_cons (ev_var rfl) (ea_cons (ev_op ev_c (ev_var rfl) rv_I0) (ea_cons (ev_var rfl) (ea_cons (ev_op ev_c (ev_op (ev_var rfl) (ev_op ev_c ev_c (rv_I ⟨by decide, by decide, by decide⟩)) (rv_I (by rw [show (10 : Int) ^ (6 : Int).toNat = 1000000 by decide]; exact .inl ⟨by omega, by omega⟩))) rv_I0) ea_nil)))))))))))) (by show 12 ≤ 100000; omega)) (by show 1 ≤ 12; omega) (by show 12 ≤ 1000; omega) fun H3 v x3 p3 hv => ?_)
    have e6 : (10 : Int) ^ (6 : Int).toNat = 1000000 := by decide
    rw [e6] at hv
    have X := (x1.trans x2).trans x3
    have h40 : (10 : Nat) ^ 40 = 10 * 10 ^ 39 := by decide +kernel
    have big : (1000000000 : Nat) < 10 ^ 39 := by decide +kernel
    have fa : f.natAbs < 10 ^ 39 := by
      have : ((f.natAbs : Nat) : Int) < ((10 ^ 39 : Nat) : Int) := by
        rw [Int.natAbs_of_nonneg f0]
        exact f1
      exact Int.ofNat_lt.mp this
    simp only [List.mem_cons, List.not_mem_nil, or_false] at hv
    have go : ∀ i : Int, v = .int i → i.natAbs < 10 ^ 40 → Q v H3 := fun i hi ok => by
      rw [hi]
      exact q H3 i X p3 ok
    generalize (10 : Nat) ^ 40 = M at h40 go
    generalize (10 : Nat) ^ 39 = L at h40 big fa
    rcases hv with h | h | h | h | h | h | h | h | h | h | h | h
    all_goals refine go _ h ?_
    all_goals omega
theorem ok_Lact (T : Txt K mg w) (G_Lpick : FnG P w K mg base CX0 2 T.f_Lpick T.fd_Lpick ["_law_pot_here", "_law_some"] sp_Lpick) (G_Llots : FnG P w K mg base CX0 1 T.f_Llots T.fd_Llots [] sp_Llots) (G_Lnumber : FnG P w K mg base CX0 3 T.f_Lnumber T.fd_Lnumber ["_law_pot_here"] sp_Lnumber) (G_Ldraw : FnG P w K mg base CX0 1 T.f_Ldraw T.fd_Ldraw ["_law_pot_here", "_law_sides"] sp_Ldraw) : FnG P w K mg base CX0 4 T.f_Lact T.fd_Lact ["_law_pot_here"] (sp_Lact K) := by
  skip
  refine okG T.F_Lact sc_Lact (fun vs H Q E h => ?_) (fun cdv A outer s H vs Q E gd hr h => ?_)
  · obtain ⟨_, rfl, _⟩ := h
    all_goals rfl
  · obtain ⟨a, rfl, hp, q⟩ := h
    refine ⟨_, (pss_cons (ps_set (i := 1) sc_Lact.nd rfl (Or.inl rfl) (pc gd G_Lpick (hr.mono (by decide)) (by rfl) T.m_Lpick T.F_Lpick.kp T.b_Lpick .nil pass0 (pa_cons (pv 0) (pa_cons (pe_callTy (call_listD rfl) (by rfl) T.z_list (by decide +kernel) (pa_cons (pc0 gd G_Llots (hr.mono (by decide)) (by rfl) T.m_Llots T.F_Llots.kp T.b_Llots .nil pass0) pa_nil)) pa_nil)))) (pss_cons (ps_set (i := 2) sc_Lact.nd rfl (Or.inl rfl) (pe_op op_cat (pe_lst (pa_cons (pv 1) pa_nil)) (pe_lc (own := [("_law_turn", 3)]) (g := gName 3) rfl sc_Lact.nd (pi_range1 (by rfl) T.z_range (pa_cons (pe_dget (hu_of hr) (pc0 gd G_Llots (hr.mono (by decide)) (by rfl) T.m_Llots T.F_Llots.kp T.b_Llots .nil pass0) (pv 1) (fun _ _ => rfl)) pa_nil)) (blkOk_by (N := N_Lact) (sc := defScope s_Lact) (by decide +kernel)) (fun _ _ _ _ _ => (pg_name (i := 3) sc_Lact.nd rfl (Or.inl rfl) (Or.inr rfl))) (fun _ _ _ _ _ => pts_nil) (fun _ _ _ _ _ => (pc gd G_Lnumber (hr.mono (by decide)) (by rfl) T.m_Lnumber T.F_Lnumber.kp T.b_Lnumber .nil pass0 (pa_cons (pv 0) pa_nil)))))) (pss_cons (ps_if ((pw_and (pt_cmpR op_eq (pv 1) pe_str (nomark _)) (pw_and1 (pt_cmpR op_eq (pc gd G_Ldraw (hr.mono (by decide)) (by rfl) T.m_Ldraw T.F_Ldraw.kp T.b_Ldraw .nil pass0 (pa_cons (pv 0) (pa_cons pe_int pa_nil))) pe_int (nomark _))))).pt (pss_one (ps_asg pe_non (pg_sub (pv 2) pe_int set_list))) pss_nil) (pss_one (ps_ret (pe_callTy (show CallR _ (.type "tuple") (rTupX K) from call_tupleX) (by rfl) T.z_tuple (by decide +kernel) (pa_cons (pv 2) pa_nil))))))), ?_⟩
    refine q_asgR (pick_raw (xs := sizes.map fun p => V.str p.1) (ev_var rfl) hp el_lots (by decide) (by decide) fun H1 v x1 p1 hv => ?_)
    obtain ⟨⟨z, n⟩, hm, rfl⟩ := List.mem_map.mp hv
    have hz : sizeD z = some n := sizes_self _ hm
    have sz := size_ok hz
    show tSeq _ _ _ [some (.ref a), some (.str z), none, none] H1
    have fin : ∀ {G : Hp} {pf : Addr} {d : Dd} {x3 : Option V}, ExB a H G → PotAt G a → G pf = some (.lst (dV d)) → GoodD d → tRet (tCB (rTupX K) (tCons (tVar 2) tNil)) ⟨fun _ _ => False, fun v H' => Q v H', fun _ _ => False, fun _ _ => False⟩ [some (.ref a), some (.str z), some (.ref pf), x3] G := fun {G pf d x3} xG pG hf gd => s_retR (cb1_raw (ev_raw (ev_var (v := .ref pf) rfl) fun G1 e1 => ⟨pf, dV d, rfl, sq_of (e1 _ _ hf), fun l o hl bo => q _ _ d ((xG.trans (ExB.of e1)).trans (ExB.of (Ex.new hl))) ((pG.ex e1).ex (Ex.new hl)) ⟨l, rfl, frz_t upd_same⟩ gd⟩))
    refine q_asgR (op_raw ((el_lst (ea_cons (ev_var rfl) ea_nil) (by show 1 ≤ 100000; omega) : EvL _ _ _ [.str z]) H1 (Ex.refl H1) _ fun p1' H2 hp1 e2 h2 => ?_))
    have p2 := p1.ex e2
    have n1a : p1' ≠ a := by
      obtain ⟨x, y, hx, _⟩ := p2
      intro e
      rw [e, hx] at h2
      have := HO.lst.inj (Option.some.inj h2)
      cases this
    refine lc_R1 (n := n) (fun Dl i H' => ∃ is : List Int, ExB a H2 H' ∧ PotAt H' a ∧ H' Dl = some (.lst (is.map V.int)) ∧ is.length = i ∧ (∀ k ∈ is, NumOk k) ∧ H2 Dl = none) (ea_cons (ev_lotsGet (fun _ _ => ev_var rfl) hz) ea_nil) (by omega) (fun H3 Dl e3 hD => ?_) (fun Dl i H' hi zz => ?_) (fun Dl H' zz => ?_)
    · exact ⟨[], (ExB.of e3).trans (ExB.of (Ex.new hD)), (p2.ex e3).ex (Ex.new hD), upd_same, rfl, fun k hk => absurd hk List.not_mem_nil, fresh_back e3 hD⟩
    · obtain ⟨is, x5, p5, h5, hl, ok, hD⟩ := zz
      refine ⟨rfl, yes_raw (call_raw0 (cons1_raw (ev_raw (ev_var (v := .ref a) rfl) fun H6 e6 => ⟨a, rfl, p5.ex e6, fun H7 k x7 p7 okk => ?_⟩)))⟩
      have nDa : Dl ≠ a := by
        obtain ⟨x, y, hx, _⟩ := p2
        exact (ne_of_none hx hD).symm
      refine ⟨is.map V.int, x7 _ _ nDa (e6 _ _ h5), by rw [List.length_map, sizeLine_eq]; omega, is ++ [k], ?_, ?_, ?_, by rw [List.length_append, hl]; rfl, fun k' hk' => ?_, hD⟩
      · exact ((x5.trans (ExB.of e6)).trans x7).mut hD
      · obtain ⟨u, v, hu, hh⟩ := p7
        exact ⟨u, v, by rw [upd_ne nDa.symm]; exact hu, hh⟩
      · rw [upd_same, List.map_append]
        rfl
      · rcases List.mem_append.mp hk' with h | h
        · exact ok k' h
        · rw [List.mem_singleton.mp h]
          exact okk
    · obtain ⟨is, x5, p5, h5, hl, ok, hD⟩ := zz
      have h25 := x5 _ _ n1a h2
      obtain ⟨px, py, hpx, _⟩ := id p5
      refine ⟨p1', Dl, [.str z], is.map V.int, rfl, rfl, h25, h5, by rw [List.length_map, sizeLine_eq]; show 1 + is.length ≤ _; omega, fun pf hpf => ?_⟩
      have e6 : Ex H' (upd H' pf (.lst ([.str z] ++ is.map V.int))) := Ex.new hpf
      have h6 : (upd H' pf (.lst ([.str z] ++ is.map V.int))) pf = some (.lst ([.str z] ++ is.map V.int)) := upd_same
      generalize upd H' pf (.lst ([.str z] ++ is.map V.int)) = H6 at e6 h6
      have x6 : ExB a H H6 := ((x1.trans (ExB.of e2)).trans x5).trans (ExB.of e6)
      have p6 := p5.ex e6
      have d6 : H6 pf = some (.lst (dV (z, is.map some))) := by
        rw [h6]
        show some (HO.lst (V.str z :: is.map V.int)) = some (HO.lst (V.str z :: (is.map some).map oV))
        rw [List.map_map]
        rfl
      have g6 := good_of hz hl ok
      show tSeq _ _ _ [some (.ref a), some (.str z), some (.ref pf), none] H6
      refine q_ifRM (and_rawX ((et_test (ev_is (ev_op (ev_var rfl) ev_c (rv_eq rfl)) (cbl rfl)) : EvT _ _ _ (decide (V.str z = V.str "limit"))) H6 (Ex.refl H6) _ fun H7 e7 => ?_))
      by_cases hlim : z = "limit"
      · rw [if_pos (decide_eq_true (by rw [hlim]))]
        refine test_raw (op_raw (dr (n := 3) (ea_cons (ev_var rfl) (ea_cons (ev_is ev_c rfl) ea_nil)) (p6.ex e7) (by omega) (by omega) fun H8 k x8 p8 hk => ev_raw ev_c fun H9 e9 => (rv_eq rfl : RV rEq (nV k) (.int 0) H9 _) H9 (Ex.refl H9) _ fun H10 e10 => ⟨_, rfl, ?_⟩))
        have npa : pf ≠ a := by
          obtain ⟨x, y, hx, _⟩ := p6
          intro e
          rw [e, hx] at d6
          have := HO.lst.inj (Option.some.inj d6)
          cases this
        have xT : ExB a H H10 := x6.trans (((ExB.of e7).trans x8).trans (ExB.of (e9.trans e10)))
        have pT := p8.ex (e9.trans e10)
        have dT : H10 pf = some (.lst (dV (z, is.map some))) := (e9.trans e10) _ _ (x8 _ _ npa (e7 _ _ d6))
        by_cases hb : decide (nV k = .int 0) = true
        · rw [if_pos hb]
          have n2 : is.length = 2 := by
            rw [hlim, limit_two] at hz
            rw [hl, ← Option.some.inj hz]
          obtain ⟨i0, i1, rfl⟩ : ∃ i0 i1, is = [i0, i1] := by
            match is, n2 with
            | [i0, i1], _ => exact ⟨i0, i1, rfl⟩
          refine s_setL (j := 2) (xs := dV (z, [i0, i1].map some)) dT ev_c (ev_var rfl) (ev_is ev_c rfl) (by show 2 < 3; omega) fun H11 e11 => ?_
          subst hlim
          refine fin (d := ("limit", [some i0, none])) ?_ ?_ upd_same (good_set (ok i0 List.mem_cons_self))
          · intro b o hb' hbo
            have := e11 _ _ (xT b o hb' hbo)
            by_cases hbp : b = pf
            · subst hbp
              have h0 : H b = none := ((x1.trans (ExB.of e2)).trans x5).free hpx hpf
              rw [h0] at hbo
              cases hbo
            · rw [upd_ne hbp]
              exact this
          · obtain ⟨u, v, hu, hh⟩ := pT.ex e11
            exact ⟨u, v, by rw [upd_ne npa.symm]; exact hu, hh⟩
        · rw [if_neg hb]
          exact fin xT pT dT g6
      · rw [if_neg (by rw [decide_eq_false fun zz => hlim (V.str.inj zz)]; exact Bool.false_ne_true), if_neg Bool.false_ne_true]
        exact fin (x6.trans (ExB.of e7)) (p6.ex e7) (e7 _ _ d6) g6
theorem ok_Lspelled (T : Txt K mg w)  : FnG P w K mg base CX0 1 T.f_Lspelled T.fd_Lspelled ["_law_act_here"] (sp_Lspelled K) := by
  skip
  refine okG T.F_Lspelled sc_Lspelled (fun vs H Q E h => ?_) (fun cdv A outer s H vs Q E gd hr h => ?_)
  · obtain ⟨_, _, rfl, _⟩ := h
    all_goals rfl
  · obtain ⟨v, dd, rfl, ⟨u, rfl, hu⟩, g, q⟩ := h
    refine ⟨_, (pss_one (ps_ret (pe_join pe_str (pe_lc (own := [("_law_part", 1)]) (g := gName 1) rfl sc_Lspelled.nd (pi_tup (pv 0)) (blkOk_by (N := N_Lspelled) (sc := defScope s_Lspelled) (by decide +kernel)) (fun _ _ _ _ _ => (pg_name (i := 1) sc_Lspelled.nd rfl (Or.inl rfl) (Or.inr rfl))) (fun _ _ _ _ _ => pts_nil) (fun _ _ _ _ _ => (pe_ifExp (pt_cmpR op_isN (pv 1) pe_non (nomark _)) pe_str (pe_callTy (show CallR _ (.type "str") rStrIS from call_strIS) (by rfl) T.z_str (by decide +kernel) (pa_cons (pv 1) pa_nil)))))))), ?_⟩
    have sz := size_ok (dd_size g.is)
    have sl := sum_len (oT_len g)
    have l4 : (dd.1 :: dd.2.map oT).length ≤ 4 := by
      rw [List.length_cons, List.length_map]
      omega
    have c1 : (Str.ofString " ").length = 1 := by decide
    refine s_ret (ev_joinN (zs := dd.1 :: dd.2.map oT) ev_c (el_is (el_lcT (a := u) (xs := dV dd) (fun _ => true) (fun i => ((dV dd)[i]?.map spV).getD .non) (ev_var rfl) hu (by show (dd.2.map oV).length + 1 ≤ 40000; rw [List.length_map]; omega) (fun _ => rfl) (fun _ _ _ _ _ => et_yes) (fun i x H2 e2 hi _ => ?_)) ((given_map (dV dd) spV).trans (spV_dV dd))) (by rw [c1]; omega)) q
    rw [hi]
    rcases List.mem_cons.mp (List.mem_of_getElem? hi) with rfl | hm
    · exact ev_if (b := false) (et_test (ev_op (ev_var rfl) ev_c (rv_isN rfl))) (fun z => nomatch z) fun _ => ev_cb (ea_cons (ev_var rfl) ea_nil) (rc_strZ (.s _))
    · obtain ⟨po, hpo, rfl⟩ := List.mem_map.mp hm
      cases po with
      | none => exact ev_if (b := true) (et_test (ev_op (ev_var rfl) ev_c (rv_isN rfl))) (fun _ => ev_c) fun z => nomatch z
      | some i' => exact ev_if (b := false) (et_test (ev_op (ev_var rfl) ev_c (rv_isN rfl))) (fun z => nomatch z) fun _ => ev_cb (ea_cons (ev_var rfl) ea_nil) (rc_strZ (.z i' (g.nm i' hpo)))
end
end My
namespace My
open PySem PySem.Spec PyProof.Rows L2 GL Evl StX SkE
/-! ### lines, read by the law -/
def sp_Linteger : Sp := fun vs H Q _ => ∃ x : Str, vs = [.str x] ∧ x.length ≤ 1000 ∧ RetV (oV (intD x)) H Q
def sp_Lread (K : PySem.W.Frag) : Sp := fun vs H Q _ => ∃ x : Str, vs = [.str x] ∧ x.length ≤ 500 ∧ (∀ d, readL (ws x) = some d → RetD K d H Q) ∧ (readL (ws x) = none → RetV .non H Q)
theorem readL_cons (w0 : Str) (ns : List Str) : readL (w0 :: ns) = match sizeD w0 with
      | none => none
      | some n => if ns.length ≠ n then none else
        if w0 = "limit" ∧ ns[1]? = some ("none" : Str) then (match ns with | x :: _ => (intD x).map fun i => (w0, [some i, none]) | [] => none)
        else if (ns.map intD).all Option.isSome = true then some (w0, ns.map intD) else none := rfl
theorem tl_first (x : Str) : TL.tl (cutS x none (some ((1 : Nat) : Int))) = (TL.tl x).take 1 := by
  show ((x.cps.toList.drop (HT.sIx x.length 0 none)).take (HT.sIx x.length x.length (some ((1 : Nat) : Int)) - HT.sIx x.length 0 none)) = _
  rw [HT.sIx_nat, HT.sIx_none, List.drop_zero, Nat.sub_zero]
  have hl : x.cps.toList.length = x.length := Array.length_toList
  show x.cps.toList.take _ = x.cps.toList.take 1
  by_cases h : x.length = 0
  · have h0 : x.cps.toList = [] := List.eq_nil_of_length_eq_zero (by rw [hl]; exact h)
    rw [h0, List.take_nil, List.take_nil]
  · rw [Nat.min_eq_left (by omega)]
theorem dash_is (x : Str) : decide (V.str (cutS x none (some ((1 : Nat) : Int))) = V.str "-") = decide (x.cps.toList.head? = some 45) := by
  have e0 : TL.tl (Str.ofString "-") = [45] := by decide +kernel
  refine decide_eq_decide.mpr ⟨fun z => ?_, fun z => ?_⟩
  · have h := congrArg TL.tl (V.str.inj z)
    rw [tl_first, show TL.tl (Str.ofString "-") = [45] from e0] at h
    show (TL.tl x).head? = some 45
    cases e : TL.tl x with
    | nil => rw [e] at h; cases h
    | cons c r =>
      rw [e] at h
      have h : [c] = [45] := h
      rw [(List.cons.inj h).1]
      rfl
  · congr 1
    refine TL.ext_tl ?_
    rw [tl_first, show TL.tl (Str.ofString "-") = [45] from e0]
    have z : (TL.tl x).head? = some 45 := z
    cases e : TL.tl x with
    | nil => rw [e] at z; cases z
    | cons c r =>
      rw [e] at z
      rw [Option.some.inj z]
      rfl
theorem digit_at {c : Nat} (h1 : 48 ≤ c) (h2 : c ≤ 57) : Builtin.Str.occurrences (Str.ofString "0123456789") ⟨#[c]⟩ 0 (Str.ofString "0123456789").length 1 = [c - 48] := by
  have h : ∀ k : Fin 10, Builtin.Str.occurrences (Str.ofString "0123456789") ⟨#[48 + k.val]⟩ 0 (Str.ofString "0123456789").length 1 = [k.val] := by decide +kernel
  have hk := h ⟨c - 48, by omega⟩
  have e : 48 + (c - 48) = c := by omega
  rw [show (⟨c - 48, by omega⟩ : Fin 10).val = c - 48 from rfl, e] at hk
  exact hk
theorem inV_none : ∀ ps : List (Option Int), inV .non (ps.map oV) = !ps.all Option.isSome
  | [] => rfl
  | p :: ps => by
    have ih := inV_none ps
    unfold inV at ih ⊢
    rw [List.map_cons, List.any_cons, ih, List.all_cons]
    cases p <;> rfl
theorem inV_dV (d : Dd) : inV .non (dV d) = !d.2.all Option.isSome := by
  rw [← inV_none]
  rfl
theorem flat_dV (d : Dd) : (dV d).all flatV = true := by
  refine List.all_eq_true.mpr fun x hx => ?_
  rcases List.mem_cons.mp hx with rfl | hx
  · rfl
  · obtain ⟨p, _, rfl⟩ := List.mem_map.mp hx
    cases p <;> rfl
section
variable {P : Program} {w : World} {K : PySem.W.Frag} {mg : Str → Option Value} {base : Heap} {C : Addr} {H H' H0 H1 G : Hp} {σ : L2.St} {te tb ta tc tl : TE} {t tt : TT} {tu : TS} {tA : TA} {E Er : XK} {D : Ends} {tz : TS} {a b d p : Addr} {v x : V} {Q : VK} {j : Nat} {vs : List Nat} {s1 s2 z : Str} {xs : List V}
theorem q_forStr (h : Ev tl σ H (.str z)) (Pv : Nat → L2.St → Hp → Prop) (h0 : ∀ H1, Ex H H1 → Pv 0 σ H1) (step : ∀ n c σ' H', z.cps[n]? = some c → Pv n σ' H' → tu { D with nx := Pv (n + 1), ct := Pv (n + 1), bk := tz D } (σ'.set j (some (.str ⟨#[c]⟩))) H') (hd : ∀ σ' H', Pv z.cps.size σ' H' → tz D σ' H') : tSeq (tFor (iStr tl) (gName j) tu) tz D σ H :=
  h H (Ex.refl H) _ fun H1 e => ⟨z, rfl, for_it (D := { D with nx := tz D }) (walk_str (z := z)) Pv (h0 H1 e) (fun _ _ _ _ _ => True.intro) (by
    rintro n v σ' H' H2 hn p ⟨rfl, c, hc, rfl⟩
    exact step n c σ' _ hc p) hd⟩
theorem ev_sidx {s1 s2 : Str} {i : Nat} (ha : Ev ta σ H (.str s1)) (hb : Ev tb σ H (.str s2)) (h : Builtin.Str.occurrences s1 s2 0 s1.length 1 = [i]) : Ev (tM1 rSIdx ta tb) σ H (nV i) := fun H1 e Q q => ha H1 e _ fun H2 e2 => ⟨⟨s1, rfl⟩, hb H2 (e.trans e2) _ fun H3 e3 => ⟨s1, s2, i, [], rfl, rfl, h, q H3 (e2.trans e3)⟩⟩
theorem ok_Linteger (T : Txt K mg w)  : FnG P w K mg base CX0 1 T.f_Linteger T.fd_Linteger ["_law_word"] sp_Linteger := by
  skip
  refine okG T.F_Linteger sc_Linteger (fun vs H Q E h => ?_) (fun cdv A outer s H vs Q E gd hr h => ?_)
  · obtain ⟨_, rfl, _⟩ := h
    all_goals rfl
  · obtain ⟨x, rfl, hl, q⟩ := h
    refine ⟨_, (pss_cons (ps_set (i := 1) sc_Linteger.nd rfl (Or.inl rfl) (pe_ifExp (pt_cmpR op_eq (pe_slice sl_str (pv 0) po_none (po_some pe_int)) pe_str (nomark _)) (pe_slice sl_str (pv 0) (po_some pe_int) po_none) (pv 0))) (pss_cons (ps_if ((pw_or (pt_cmpR op_eq (pv 1) pe_str (nomark _)) (pw_or1 (pt_not (pt_val (pe_callB (cr_all rfl) (by rfl) T.z_all boot_all (pa_cons (pe_lc (own := [("_law_sign", 2)]) (g := gName 2) rfl sc_Linteger.nd (show PI _ _ _ (iStr _) from pi_str (pv 1)) (blkOk_by (N := N_Linteger) (sc := defScope s_Linteger) (by decide +kernel)) (fun _ _ _ _ _ => (pg_name (i := 2) sc_Linteger.nd rfl (Or.inl rfl) (Or.inr rfl))) (fun _ _ _ _ _ => pts_nil) (fun _ _ _ _ _ => (pe_cmpR op_in_sign (pv 2) pe_str (by rfl)))) pa_nil))))))).pt (pss_one (ps_ret pe_non)) pss_nil) (pss_cons (ps_if ((pw_and (pt_cmpR op_eq (pe_ix ix_str (pv 1) pe_int (fun _ _ => rfl)) pe_str (nomark _)) (pw_and1 (pt_cmpR op_ne (pv 0) pe_str (nomark _))))).pt (pss_one (ps_ret pe_non)) pss_nil) (pss_cons (ps_set (i := 3) sc_Linteger.nd rfl (Or.inl rfl) pe_int) (pss_cons (ps_for PassesOwn.never rfl (show PI _ _ _ (iStr _) from pi_str (pv 1)) (pg_name (i := 2) sc_Linteger.nd rfl (Or.inl rfl) (Or.inr rfl)) (pss_one (ps_set (i := 3) sc_Linteger.nd rfl (Or.inl rfl) (pe_op op_add (pe_op op_mul pe_int (pv 3)) (pe_sindex pe_str (pv 2)))))) (pss_one (ps_ret (pe_ifExp (pt_cmpR op_eq (pe_slice sl_str (pv 0) po_none (po_some pe_int)) pe_str (nomark _)) (pe_op op_sub pe_int (pv 3)) (pv 3))))))))), ?_⟩
    have hb := body_is x
    generalize hy : (if decide (x.cps.toList.head? = some 45) = true then cutS x (some ((1 : Nat) : Int)) none else x) = y at hb
    have ly : y.length ≤ 1000 := by
      rw [← hy]
      split
      · exact Nat.le_trans (cutS_length _ _ _) hl
      · exact hl
    have tdash : ∀ {G : Hp} {y1 y2 y3 : Option V}, EvT (tTest (tOp rEq (tSl rSlS (tVar 0) tNoPart (tPart (tC (.int 1)))) (tC (.str "-")))) [some (.str x), y1, y2, y3] G (decide (x.cps.toList.head? = some 45)) := fun {G y1 y2 y3} => et_test (ev_is (ev_op (ev_cutS (ev_var rfl) eo_none (eo_some (i := ((1 : Nat) : Int)) ev_c) (by omega)) ev_c (rv_eq rfl)) (cbl (dash_is x)))
    refine q_asg (v := .str y) (ev_if (b := decide (x.cps.toList.head? = some 45)) tdash (fun z => ?_) fun z => ?_) fun H1 e1 => ?_
    · rw [if_pos z] at hy
      rw [← hy]
      exact ev_cutS (ev_var rfl) (eo_some ev_c) eo_none (by omega)
    · rw [if_neg (by rw [z]; exact Bool.false_ne_true)] at hy
      rw [← hy]
      exact ev_var rfl
    show tSeq _ _ _ [some (.str x), some (.str y), none, none] H1
    have yl : y.cps.toList = bodyL (TL.tl x) := hb
    have ey : decide (V.str y = V.str "") = (bodyL (TL.tl x)).isEmpty := by
      rw [← yl]
      cases e : y.cps.toList with
      | nil =>
        refine decide_eq_true ?_
        have : y = Str.ofString "" := TL.ext_tl (show y.cps.toList = _ by rw [e]; rfl)
        rw [this]
      | cons c r =>
        refine decide_eq_false fun z => ?_
        have := V.str.inj z
        have e0 : (Str.ofString "").cps.toList = [] := by decide +kernel
        rw [this, e0] at e
        cases e
    have hall : ∀ {G : Hp}, Ev (tCB (rAll K) (tCons (tLc (iStr (tVar 1)) (gName 2) tYes (tOp (fun x y H Q => ∃ (c : Nat) (z : Str), x = .str ⟨#[c]⟩ ∧ y = .str z ∧ Q (.bl (decide (c ∈ z.cps.toList))) H) (tVar 2) (tC (.str "0123456789"))) [2]) tNil)) [some (.str x), some (.str y), none, none] G (.bl (dgB (bodyL (TL.tl x)))) := fun {G} => ev_is (ev_allB (bs := (bodyL (TL.tl x)).map fun c => decide (48 ≤ c) && decide (c ≤ 57)) (el_is (el_lcS (z := y) (fun _ => true) (fun i => ((bodyL (TL.tl x))[i]?.map fun c => V.bl (decide (48 ≤ c) && decide (c ≤ 57))).getD .non) (ev_var rfl) (by have : y.cps.size ≤ 1000 := ly; omega) (fun _ => rfl) (fun _ _ _ _ _ => et_yes) (fun i c G2 e2 hc _ => by
      have : (bodyL (TL.tl x))[i]? = some c := by
        rw [← yl]
        simpa using hc
      rw [this]
      exact ev_op (ev_var rfl) ev_c rv_signD)) (by
        have : y.cps.size = (bodyL (TL.tl x)).length := by rw [← yl, Array.length_toList]
        rw [this]
        exact given_list _ _))) (cbl (by
          unfold dgB
          rw [List.all_map]
          rfl))
    have noN : isNumL (TL.tl x) = false → oV (intD x) = .non := fun h => by
      unfold intD
      rw [if_neg (by rw [h]; exact Bool.false_ne_true)]
      rfl
    refine q_when (b := (bodyL (TL.tl x)).isEmpty || !dgB (bodyL (TL.tl x))) (et_or (et_test (ev_is (ev_op (ev_var rfl) ev_c (rv_eq rfl)) (cbl ey))) fun _ => et_not (et_B hall)) (fun hc H2 e2 => s_ret ev_c fun H3 e3 => ?_) fun hc H2 e2 => ?_
    · have : isNumL (TL.tl x) = false := by
        unfold isNumL
        rw [Bool.or_eq_true] at hc
        rcases hc with h | h
        · rw [h]
          rfl
        · have h' : dgB (bodyL (TL.tl x)) = false := by simpa using h
          rw [h', Bool.and_false, Bool.false_and]
      rw [noN this] at q
      exact q H3 ((e1.trans e2).trans e3)
    · rw [Bool.or_eq_false_iff] at hc
      obtain ⟨h1, h2⟩ := hc
      have h2' : dgB (bodyL (TL.tl x)) = true := by simpa using h2
      cases eb : bodyL (TL.tl x) with
      | nil =>
        rw [eb] at h1
        cases h1
      | cons c r =>
        have hx : isNumL (TL.tl x) = !(decide (V.str ⟨#[c]⟩ = V.str "0") && !decide (V.str x = V.str "0")) := by
          unfold isNumL
          rw [h2', eb]
          have a1 : decide (TL.tl x = [48]) = decide (V.str x = V.str "0") := decide_eq_decide.mpr ⟨fun z => by
            have : x = Str.ofString "0" := TL.ext_tl (z.trans (by decide +kernel))
            rw [this], fun z => by
            rw [V.str.inj z]
            decide +kernel⟩
          have a2 : decide (some c = some 48) = decide (V.str ⟨#[c]⟩ = V.str "0") := decide_eq_decide.mpr ⟨fun z => by
            rw [Option.some.inj z]
            rfl, fun z => by
            have := congrArg TL.tl (V.str.inj z)
            have e0 : TL.tl (Str.ofString "0") = [48] := by decide +kernel
            rw [e0] at this
            exact congrArg some (List.cons.inj this).1⟩
          show (true && true && (decide (TL.tl x = [48]) || !decide ((c :: r).head? = some 48))) = _
          rw [a1, show (c :: r).head? = some c from rfl, a2]
          cases decide (V.str x = V.str "0") <;> cases decide (V.str ⟨#[c]⟩ = V.str "0") <;> rfl
        refine q_when (b := decide (V.str ⟨#[c]⟩ = V.str "0") && !decide (V.str x = V.str "0")) (et_and (et_test (ev_op (ev_op (ev_var rfl) ev_c (rv_ixS (c := c) ly (by rw [yl, eb]; exact atI_zero))) ev_c (rv_eq rfl))) fun _ => et_test (ev_op (ev_var rfl) ev_c (rv_ne rfl))) (fun hc H3 e3 => ?_) fun hc H3 e3 => ?_
        · rw [hc, Bool.not_true] at hx
          rw [noN hx] at q
          exact s_ret ev_c fun H4 e4 => q H4 ((e1.trans e2).trans (e3.trans e4))
        · rw [hc, Bool.not_false] at hx
          have hi : intD x = some (valL (TL.tl x)) := by
            unfold intD
            rw [if_pos hx]
          rw [hi] at q
          have dg : NumText.AllDigits (bodyL (TL.tl x)) := dg_of h2'
          refine q_asg (ev_c (v := .int 0)) fun H4 e4 => ?_
          have X4 := (e1.trans e2).trans (e3.trans e4)
          show tSeq _ _ _ [some (.str x), some (.str y), none, some (.int 0)] H4
          refine q_forStr (z := y) (ev_var rfl) (fun n σ' H' => ∃ x2, σ' = [some (.str x), some (.str y), x2, some (.int ((NumText.digitsVal ((bodyL (TL.tl x)).take n) : Nat) : Int))] ∧ Ex H H') (fun H5 e5 => ⟨none, rfl, X4.trans e5⟩) (fun n c' σ' H' hc' zz => ?_) (fun σ' H' zz => ?_)
          · obtain ⟨x2, rfl, X5⟩ := zz
            have hcn : (bodyL (TL.tl x))[n]? = some c' := by
              rw [← yl]
              simpa using hc'
            have dc := dg c' (List.mem_of_getElem? hcn)
            refine s_asg (ev_is (ev_op (ev_op ev_c (ev_var rfl) (rv_I (.inl ⟨by omega, by omega⟩))) (ev_sidx ev_c (ev_var rfl) (digit_at dc.1 dc.2)) rv_I0) rfl) fun H6 e6 => ⟨some (.str ⟨#[c']⟩), ?_, X5.trans e6⟩
            rw [List.take_add_one, hcn, show (some c').toList = [c'] from rfl, NumText.digitsVal_snoc]
            show [some (V.str x), some (V.str y), some (V.str ⟨#[c']⟩), some (V.int (10 * ((NumText.digitsVal ((bodyL (TL.tl x)).take n) : Nat) : Int) + ((c' - 48 : Nat) : Int)))] = _
            have e10 : 10 * ((NumText.digitsVal ((bodyL (TL.tl x)).take n) : Nat) : Int) + ((c' - 48 : Nat) : Int) = ((NumText.digitsVal ((bodyL (TL.tl x)).take n) * 10 + (c' - 48) : Nat) : Int) := by
              rw [Int.natCast_add, Int.natCast_mul, Int.mul_comm]
              rfl
            rw [e10]
          · obtain ⟨x2, rfl, X5⟩ := zz
            have sz : y.cps.size = (bodyL (TL.tl x)).length := by rw [← yl, Array.length_toList]
            rw [sz, List.take_length]
            refine s_ret (v := .int (valL (TL.tl x))) (ev_if (b := decide (x.cps.toList.head? = some 45)) tdash (fun z => ?_) fun z => ?_) fun H6 e6 => q H6 (X5.trans e6)
            · have z : (TL.tl x).head? = some 45 := of_decide_eq_true z
              refine ev_is (ev_op ev_c (ev_var rfl) rv_I0) (congrArg V.int ?_)
              cases e : TL.tl x with
              | nil => rw [e] at z; cases z
              | cons c0 r0 =>
                rw [e] at z
                have : c0 = 45 := Option.some.inj z
                subst this
                show 0 - ((NumText.digitsVal r0 : Nat) : Int) = -((NumText.digitsVal r0 : Nat) : Int)
                omega
            · have z : ¬ (TL.tl x).head? = some 45 := of_decide_eq_false z
              refine ev_is (ev_var rfl) (congrArg V.int ?_)
              cases e : TL.tl x with
              | nil => rfl
              | cons c0 r0 =>
                rw [e] at z
                have nc : ¬ c0 = 45 := fun h => z (by rw [h]; rfl)
                have e1 : bodyL (c0 :: r0) = c0 :: r0 := by
                  unfold bodyL
                  split
                  · rename_i r' h'
                    exact absurd (List.cons.inj h').1 nc
                  · rfl
                have e2 : valL (c0 :: r0) = ((NumText.digitsVal (c0 :: r0) : Nat) : Int) := by
                  unfold valL
                  split
                  · rename_i r' h'
                    exact absurd (List.cons.inj h').1 nc
                  · rfl
                rw [e1, e2]
theorem ok_Lread (T : Txt K mg w) (G_Llots : FnG P w K mg base CX0 1 T.f_Llots T.fd_Llots [] sp_Llots) (G_Linteger : FnG P w K mg base CX0 1 T.f_Linteger T.fd_Linteger ["_law_word"] sp_Linteger) : FnG P w K mg base CX0 2 T.f_Lread T.fd_Lread ["_law_spelled_here"] (sp_Lread K) := by
  skip
  refine okG T.F_Lread sc_Lread (fun vs H Q E h => ?_) (fun cdv A outer s H vs Q E gd hr h => ?_)
  · obtain ⟨_, rfl, _⟩ := h
    all_goals rfl
  · obtain ⟨x, rfl, hl, q1, q2⟩ := h
    refine ⟨_, (pss_cons (ps_set (i := 1) sc_Lread.nd rfl (Or.inl rfl) (pe_split (pv 0) pe_str)) (pss_cons (ps_if ((pw_or (pt_cmpR (op_notInDk (hu_of hr)) (pe_ix ix_list (pv 1) pe_int (fun _ _ => rfl)) (pc0 gd G_Llots (hr.mono (by decide)) (by rfl) T.m_Llots T.F_Llots.kp T.b_Llots .nil pass0) (by rfl)) (pw_or1 (pt_cmpR op_ne (pe_callB call_len_seq (by rfl) T.z_len PySem.boot_len (pa_cons (pv 1) pa_nil)) (pe_op op_add pe_int (pe_dget (hu_of hr) (pc0 gd G_Llots (hr.mono (by decide)) (by rfl) T.m_Llots T.F_Llots.kp T.b_Llots .nil pass0) (pe_ix ix_list (pv 1) pe_int (fun _ _ => rfl)) (fun _ _ => rfl))) (nomark _))))).pt (pss_one (ps_ret pe_non)) pss_nil) (pss_cons (ps_set (i := 2) sc_Lread.nd rfl (Or.inl rfl) (pe_op op_cat (pe_lst (pa_cons (pe_ix ix_list (pv 1) pe_int (fun _ _ => rfl)) pa_nil)) (pe_lc (own := [("_law_word", 3)]) (g := gName 3) rfl sc_Lread.nd (pi_list (pe_slice sl_list (pv 1) (po_some pe_int) po_none)) (blkOk_by (N := N_Lread) (sc := defScope s_Lread) (by decide +kernel)) (fun _ _ _ _ _ => (pg_name (i := 3) sc_Lread.nd rfl (Or.inl rfl) (Or.inr rfl))) (fun _ _ _ _ _ => pts_nil) (fun _ _ _ _ _ => (pc gd G_Linteger (hr.mono (by decide)) (by rfl) T.m_Linteger T.F_Linteger.kp T.b_Linteger .nil pass0 (pa_cons (pv 3) pa_nil)))))) (pss_cons (ps_if ((pw_and (pt_cmpR op_eq (pe_ix ix_list (pv 1) pe_int (fun _ _ => rfl)) pe_str (nomark _)) (pw_and1 (pt_cmpR op_eq (pe_ix ix_list (pv 1) pe_int (fun _ _ => rfl)) pe_str (nomark _))))).pt (pss_one (ps_ret (pe_ifExp (pt_cmpR op_isN (pe_ix ix_list (pv 2) pe_int (fun _ _ => rfl)) pe_non (nomark _)) pe_non (pe_tupX (pa_cons (pe_ix ix_list (pv 1) pe_int (fun _ _ => rfl)) (pa_cons (pe_ix ix_list (pv 2) pe_int (fun _ _ => rfl)) (pa_cons pe_non pa_nil))))))) pss_nil) (pss_one (ps_ret (pe_ifExp (pt_cmpR op_in_seq pe_non (pv 2) (by rfl)) pe_non (pe_callTy (show CallR _ (.type "tuple") (rTupX K) from call_tupleX) (by rfl) T.z_tuple (by decide +kernel) (pa_cons (pv 2) pa_nil))))))))), ?_⟩
    obtain ⟨w0, ns, hws⟩ : ∃ w0 ns, ws x = w0 :: ns := by
      cases e : ws x with
      | nil => exact absurd e (ws_ne x)
      | cons w0 ns => exact ⟨w0, ns, rfl⟩
    have wl := ws_len x
    rw [hws] at wl q1 q2
    have wl1 : ns.length ≤ 501 := by
      have := wl.1
      rw [List.length_cons] at this
      omega
    refine q_asgL (el_split (ev_var rfl) ev_c (show Txt.split x " " = w0 :: ns from hws) (by decide +kernel) (by omega)) fun ls H1 hls e1 h1 => ?_
    show tSeq _ _ _ [some (.str x), some (.ref ls), none, none] H1
    have at0 : ∀ {G : Hp} {y2 y3 : Option V}, Ex H1 G → Ev (tOp (rIxL K) (tVar 1) (tC (.int 0))) [some (.str x), some (.ref ls), y2, y3] G (.str w0) := fun {G y2 y3} e => ev_op (ev_var rfl) ev_c (rv_ixL (sq_of (e _ _ h1)) (atI_nat (j := 0) rfl))
    have rd := readL_cons w0 ns
    have nin : EvT (tTest (tOp rNotInDk (tOp (rIxL K) (tVar 1) (tC (.int 0))) (tCall sp_Llots [] E0 tNil))) [some (.str x), some (.ref ls), none, none] H1 (!(sizeD w0).isSome) := et_test fun H2 e2 Q q => op_raw (at0 (Ex.refl H1) H2 e2 _ fun H3 e3 => call_raw0 (nil_raw ⟨rfl, fun H4 dn hd e4 h4 => ⟨dn, (sizeD w0).map fun n => nV n, rfl, (by
      have := DGet.k (k := .inr w0) h4
      rw [lots_get] at this
      exact this), by
      have e5 : ((sizeD w0).map fun n => nV n).isSome = (sizeD w0).isSome := by cases sizeD w0 <;> rfl
      rw [e5]
      exact q H4 (e3.trans e4)⟩⟩))
    cases hz : sizeD w0 with
    | none =>
      rw [hz] at nin rd
      exact q_when (b := true) (et_or (a := true) (b := false) nin fun z => nomatch z) (fun _ H2 e2 => s_ret ev_c fun H3 e3 => q2 rd H3 (e1.trans (e2.trans e3))) fun z => nomatch z
    | some n =>
      rw [hz] at nin rd
      dsimp only at rd
      have sz := size_ok hz
      refine q_when (b := !decide (ns.length = n)) (et_is (et_or (a := false) (b := !decide (ns.length = n)) nin fun _ => et_test (ev_is (ev_op (ev_cb (ea_cons (ev_var rfl) ea_nil) (rc_lenL (sq_of h1))) (ev_op ev_c (ev_lotsGet (fun H2 e2 => at0 e2) hz) rv_I0) (rv_ne rfl)) (cbl (by
        congr 1
        refine decide_eq_decide.mpr ⟨fun z => ?_, fun z => ?_⟩
        · have := V.int.inj z
          rw [List.length_map, List.length_cons] at this
          omega
        · rw [List.length_map, List.length_cons, z]
          exact congrArg V.int (by omega))))) (by rw [Bool.false_or])) (fun hb H2 e2 => ?_) fun hb H2 e2 => ?_
      · rw [Bool.not_eq_true', decide_eq_false_iff_not] at hb
        rw [if_pos hb] at rd
        exact s_ret ev_c fun H3 e3 => q2 rd H3 (e1.trans (e2.trans e3))
      · rw [Bool.not_eq_false', decide_eq_true_eq] at hb
        rw [if_neg (fun z : ns.length ≠ n => z hb)] at rd
        have h2 := e2 _ _ h1
        refine q_asgL (xs := dV (w0, ns.map intD)) (el_is (el_cat (xs := [.str w0]) (zs := ns.map fun y => oV (intD y)) (el_lst (ea_cons (at0 e2) ea_nil) (by show 1 ≤ 100000; omega)) (fun H3 e3 => el_is (el_lcNL (xs := ns.map V.str) (fun _ => true) (fun i => (ns[i]?.map fun y => oV (intD y)).getD .non) (el_is (el_sl (ev_var rfl) (eo_some ev_c) eo_none (sq_of (e3 _ _ h2))) (by
          unfold cutV
          rw [show (1 : Int) = ((1 : Nat) : Int) from rfl, HT.sIx_nat, HT.sIx_none, List.map_cons, List.length_cons, show min 1 ((ns.map V.str).length + 1) = 1 by omega, Nat.add_sub_cancel]
          show ((ns.map V.str).take (ns.map V.str).length) = _
          rw [List.take_length])) (by rw [List.length_map]; omega) (fun _ => rfl) (fun _ _ _ _ _ => et_yes) (fun i y' H4 e4 hi _ => by
            rw [List.getElem?_map] at hi
            obtain ⟨y, hy, rfl⟩ := Option.map_eq_some_iff.mp hi
            rw [hy]
            exact ev_call (ea_cons (ev_var rfl) ea_nil) fun H5 e5 Q5 q5 E5 => ⟨y, rfl, by have := wl.2 y (List.mem_cons_of_mem _ (List.mem_of_getElem? hy)); omega, q5⟩)) (by rw [List.length_map]; exact given_map ns fun y => oV (intD y))) (by rw [List.length_map]; show 1 + ns.length ≤ 100000; omega)) (by
              show V.str w0 :: ns.map (fun y => oV (intD y)) = V.str w0 :: (ns.map intD).map oV
              rw [List.map_map]
              rfl)) fun pf H3 hpf e3 h3 => ?_
        have X3 := e1.trans (e2.trans e3)
        have h13 := e3 _ _ h2
        have e13 := e2.trans e3
        show tSeq _ _ _ [some (.str x), some (.ref ls), some (.ref pf), none] H3
        by_cases hlim : w0 = "limit"
        · have n2 : ns.length = 2 := by
            rw [hlim, limit_two] at hz
            rw [hb, ← Option.some.inj hz]
          obtain ⟨y0, y1, rfl⟩ : ∃ y0 y1, ns = [y0, y1] := by
            match ns, n2 with
            | [y0, y1], _ => exact ⟨y0, y1, rfl⟩
          refine q_when (b := decide (V.str y1 = V.str "none")) (et_is (et_and (a := true) (b := decide (V.str y1 = V.str "none")) (et_test (ev_is (ev_op (at0 e13) ev_c (rv_eq rfl)) (cbl (decide_eq_true (by rw [hlim]))))) fun _ => et_test (ev_op (ev_op (ev_var rfl) ev_c (rv_ixL (sq_of h13) (atI_nat (j := 2) rfl))) ev_c (rv_eq rfl))) (by rw [Bool.true_and])) (fun hc H4 e4 => ?_) fun hc H4 e4 => ?_
          · have hy : y1 = "none" := V.str.inj (of_decide_eq_true hc)
            rw [if_pos ⟨hlim, by rw [hy]; rfl⟩] at rd
            have at1 : Ev (tOp (rIxL K) (tVar 2) (tC (.int 1))) [some (.str x), some (.ref ls), some (.ref pf), none] H4 (oV (intD y0)) := ev_op (ev_var rfl) ev_c (rv_ixL (sq_of (e4 _ _ h3)) (atI_nat (j := 1) rfl))
            cases hi : intD y0 with
            | none =>
              rw [hi] at at1
              have rd : readL [w0, y0, y1] = none := by
                rw [rd]
                dsimp only
                rw [hi]
                rfl
              exact s_ret (ev_if (b := true) (et_test (ev_op at1 ev_c (rv_isN rfl))) (fun _ => ev_c) fun z => nomatch z) fun H5 e5 => q2 rd H5 (X3.trans (e4.trans e5))
            | some i0 =>
              rw [hi] at at1
              have rd : readL [w0, y0, y1] = some (w0, [some i0, none]) := by
                rw [rd]
                dsimp only
                rw [hi]
                rfl
              exact s_retR (if_rawF (et_test (ev_op at1 ev_c (rv_isN rfl))) fun H5 e5 => tupx_rawX ((ea_cons (at0 (e13.trans (e4.trans e5))) (ea_cons (at1.mono e5) (ea_cons ev_c ea_nil)) : EvA _ _ _ [.str w0, .int i0, .non]) H5 (Ex.refl H5) _ fun H6 e6 => ⟨sz_of (by show 3 ≤ 100000; omega), fun tp o htp bo => q1 _ rd _ _ ((X3.trans (e4.trans (e5.trans e6))).trans (Ex.new htp)) ⟨tp, rfl, frz_t upd_same⟩⟩))
          · have nn : ¬ (w0 = "limit" ∧ ([y0, y1] : List Str)[1]? = some ("none" : Str)) := fun z => by
              have : y1 = "none" := Option.some.inj z.2
              rw [this] at hc
              exact absurd hc (by decide)
            rw [if_neg nn] at rd
            have tin : EvT (tTest (tOp (rIn K false) (tC .non) (tVar 2))) [some (.str x), some (.ref ls), some (.ref pf), none] H4 (!([y0, y1].map intD).all Option.isSome) := et_test (ev_is (ev_op ev_c (ev_var rfl) (rv_isL (sq_of (e4 _ _ h3)) rfl (flat_dV _))) (cbl (inV_dV _)))
            cases ha : ([y0, y1].map intD).all Option.isSome with
            | true =>
              rw [if_pos ha] at rd
              rw [ha] at tin
              exact s_retR (if_rawF tin fun H5 e5 => cb1_raw (ev_raw (ev_var (v := .ref pf) rfl) fun H6 e6 => ⟨pf, _, rfl, sq_of ((e4.trans (e5.trans e6)) _ _ h3), fun tp o htp bo => q1 _ rd _ _ ((X3.trans (e4.trans (e5.trans e6))).trans (Ex.new htp)) ⟨tp, rfl, frz_t upd_same⟩⟩))
            | false =>
              rw [if_neg (by rw [ha]; exact Bool.false_ne_true)] at rd
              rw [ha] at tin
              exact s_ret (ev_if (b := true) tin (fun _ => ev_c) fun z => nomatch z) fun H5 e5 => q2 rd H5 (X3.trans (e4.trans e5))
        · refine q_when (b := false) (et_and (a := false) (b := false) (et_test (ev_is (ev_op (at0 e13) ev_c (rv_eq rfl)) (cbl (decide_eq_false fun z => hlim (V.str.inj z))))) fun z => nomatch z) (fun z => nomatch z) fun _ H4 e4 => ?_
          rw [if_neg (fun z => hlim z.1)] at rd
          have tin : EvT (tTest (tOp (rIn K false) (tC .non) (tVar 2))) [some (.str x), some (.ref ls), some (.ref pf), none] H4 (!(ns.map intD).all Option.isSome) := et_test (ev_is (ev_op ev_c (ev_var rfl) (rv_isL (sq_of (e4 _ _ h3)) rfl (flat_dV _))) (cbl (inV_dV _)))
          cases ha : (ns.map intD).all Option.isSome with
          | true =>
            rw [if_pos ha] at rd
            rw [ha] at tin
            exact s_retR (if_rawF tin fun H5 e5 => cb1_raw (ev_raw (ev_var (v := .ref pf) rfl) fun H6 e6 => ⟨pf, _, rfl, sq_of ((e4.trans (e5.trans e6)) _ _ h3), fun tp o htp bo => q1 _ rd _ _ ((X3.trans (e4.trans (e5.trans e6))).trans (Ex.new htp)) ⟨tp, rfl, frz_t upd_same⟩⟩))
          | false =>
            rw [if_neg (by rw [ha]; exact Bool.false_ne_true)] at rd
            rw [ha] at tin
            exact s_ret (ev_if (b := true) tin (fun _ => ev_c) fun z => nomatch z) fun H5 e5 => q2 rd H5 (X3.trans (e4.trans e5))
end
end My
namespace My
open PySem PySem.Spec PyProof.Rows L2 GL Evl StX SkE
/-! ### bent lines -/
def sp_Lbent (K : PySem.W.Frag) : Sp := fun vs H Q _ => ∃ a, ∃ x : Str, vs = [.ref a, .str x] ∧ PotAt H a ∧ (ws x).length ≤ 4 ∧ (∀ y ∈ ws x, y.length ≤ 45) ∧ x.length ≤ 200 ∧ ∀ H' y, ExB a H H' → PotAt H' a → y.length ≤ 500 → Q (.str y) H'
theorem cutV_to {xs : List V} {k : Nat} (h : k ≤ xs.length) : cutV xs none (some (k : Int)) = xs.take k := by
  unfold cutV
  rw [HT.sIx_nat, HT.sIx_none, List.drop_zero, Nat.min_eq_left h, Nat.sub_zero]
theorem cutV_from {xs : List V} {k : Nat} (h : k ≤ xs.length) : cutV xs (some (k : Int)) none = xs.drop k := by
  unfold cutV
  rw [HT.sIx_nat, HT.sIx_none, Nat.min_eq_left h]
  exact List.take_of_length_le (by rw [List.length_drop]; omega)
theorem lineT_len {zs : List Str} (h : ∀ z ∈ zs, z.length ≤ 60) (l : zs.length ≤ 6) : (lineT zs).length ≤ 500 := by
  have c1 : (Str.ofString " ").length = 1 := by decide
  have := joinS_len (y := " ") h
  rw [show (Str.length " ") = 1 from c1] at this
  have h2 : zs.length * (60 + 1) ≤ 6 * 61 := Nat.mul_le_mul_right _ l
  exact Nat.le_trans this (by omega)
abbrev EvW (te : TE) (σ : L2.St) (H : Hp) (zs : List Str) : Prop := EvL te σ H (zs.map V.str)
section
variable {P : Program} {w : World} {K : PySem.W.Frag} {mg : Str → Option Value} {base : Heap} {C : Addr} {H H' H0 H1 G : Hp} {σ : L2.St} {te tb ta tc tl ti : TE} {t tt : TT} {tu : TS} {tA : TA} {E Er : XK} {D : Ends} {tz : TS} {a b d p ls : Addr} {v x : V} {Q : VK} {j : Nat} {vs : List Nat} {s1 s2 z y : Str} {xs : List V} {wl zs us : List Str} {k : Nat}
theorem q_parR {i j : Nat} (h : tA σ H fun vs H1 => ∃ v w, vs = [v, w] ∧ tz D ((σ.set i (some v)).set j (some w)) H1) : tSeq (tPar i j tA) tz D σ H := h
theorem rv_addS (h : s1.length + s2.length ≤ 100000) : RV (fun x y H Q => ∃ i j, x = .str i ∧ y = .str j ∧ i.length + j.length ≤ sizeLine ∧ Q (.str (i ++ j)) H) (.str s1) (.str s2) H (.str (s1 ++ s2)) := fun H1 _ Q q => ⟨s1, s2, rfl, rfl, sz_of h, q H1 (Ex.refl H1)⟩
theorem ew_to (hl : G ls = some (.lst (wl.map V.str))) (h : Ev te σ G (.ref ls)) (hi : Ev ti σ G (nV k)) (hk : k ≤ wl.length) : EvW (tSl (rSlL K) te tNoPart (tPart ti)) σ G (wl.take k) := el_is (el_sl h eo_none (eo_some hi) (sq_of hl)) (by rw [cutV_to (by rw [List.length_map]; exact hk), List.map_take])
theorem ew_from (hl : G ls = some (.lst (wl.map V.str))) (h : Ev te σ G (.ref ls)) (hi : Ev ti σ G (nV k)) (hk : k ≤ wl.length) : EvW (tSl (rSlL K) te (tPart ti) tNoPart) σ G (wl.drop k) := el_is (el_sl h (eo_some hi) eo_none (sq_of hl)) (by rw [cutV_from (by rw [List.length_map]; exact hk), List.map_drop])
theorem ew_cat (ha : EvW ta σ G zs) (hb : EvW tb σ G us) (hl : zs.length + us.length ≤ 1000) : EvW (tOp rCat ta tb) σ G (zs ++ us) := el_is (el_cat ha (fun _ e => hb.mono e) (by rw [List.length_map, List.length_map]; omega)) List.map_append.symm
theorem ew_one (h : Ev te σ G (.str y)) : EvW (tLst (tCons te tNil)) σ G [y] := el_lst (ea_cons h ea_nil) (by show 1 ≤ 100000; omega)
theorem ev_joinW (h : EvW te σ G zs) (hb : ∀ z ∈ zs, z.length ≤ 60) (l : zs.length ≤ 6) : Ev (tM1 (fun x xs H Q => ∃ a p, ∃ ys : List Str, x = .str a ∧ xs = [.ref p] ∧ (SqL K H p (ys.map V.str) ∨ SqT K H p (ys.map V.str)) ∧ (ys.map (·.length)).sum + ys.length * a.length ≤ 16777216 ∧ Q (.str (Txt.join a ys)) H) (tC (.str " ")) te) σ G (.str (lineT zs)) := ev_joinN ev_c h (by
  have := sum_len hb
  have c1 : (Str.ofString " ").length = 1 := by decide
  have h2 : zs.length * 60 ≤ 6 * 60 := Nat.mul_le_mul_right _ l
  rw [c1]
  omega)
theorem pickS_raw {ts : List Str} (ha : Ev ta σ H (.ref a)) (hp : PotAt H a) (h : EvW te σ H ts) (h1 : 1 ≤ ts.length) (h2 : ts.length ≤ 1000) (k : ∀ H' t, ExB a H H' → PotAt H' a → t ∈ ts → Q (.str t) H') : tCall sp_Lpick [] Er (tCons ta (tCons te tNil)) σ H Q :=
  pick_raw ha hp h (by rw [List.length_map]; exact h1) (by rw [List.length_map]; exact h2) fun H' v x' p' m => by
    obtain ⟨t, ht, rfl⟩ := List.mem_map.mp m
    exact k H' t x' p' ht
theorem ok_Lbent (T : Txt K mg w) (G_Ldraw : FnG P w K mg base CX0 1 T.f_Ldraw T.fd_Ldraw ["_law_pot_here", "_law_sides"] sp_Ldraw) (G_Lpick : FnG P w K mg base CX0 2 T.f_Lpick T.fd_Lpick ["_law_pot_here", "_law_some"] sp_Lpick) (G_Llots : FnG P w K mg base CX0 1 T.f_Llots T.fd_Llots [] sp_Llots) : FnG P w K mg base CX0 3 T.f_Lbent T.fd_Lbent ["_law_pot_here", "_law_spelled_here"] (sp_Lbent K) := by
  skip
  refine okG T.F_Lbent sc_Lbent (fun vs H Q E h => ?_) (fun cdv A outer s H vs Q E gd hr h => ?_)
  · obtain ⟨_, _, rfl, _⟩ := h
    all_goals rfl
  · obtain ⟨a, x, rfl, hp, h4, h45, hx, q⟩ := h
    refine ⟨_, (pss_cons (ps_par (i := 2) (j := 3) rfl sc_Lbent.nd rfl rfl (by decide) rfl rfl (pa_cons (pe_split (pv 1) pe_str) (pa_cons (pc gd G_Ldraw (hr.mono (by decide)) (by rfl) T.m_Ldraw T.F_Ldraw.kp T.b_Ldraw .nil pass0 (pa_cons (pv 0) (pa_cons pe_int pa_nil))) pa_nil)) (by rfl)) (pss_cons (ps_set (i := 4) sc_Lbent.nd rfl (Or.inl rfl) (pc gd G_Ldraw (hr.mono (by decide)) (by rfl) T.m_Ldraw T.F_Ldraw.kp T.b_Ldraw .nil pass0 (pa_cons (pv 0) (pa_cons (pe_callB call_len_seq (by rfl) T.z_len PySem.boot_len (pa_cons (pv 2) pa_nil)) pa_nil)))) (pss_cons (ps_if (pt_cmpR op_eq (pv 3) pe_int (nomark _)) (pss_one (ps_ret (pe_join pe_str (pe_op op_cat (pe_slice sl_list (pv 2) po_none (po_some (pv 4))) (pe_slice sl_list (pv 2) (po_some (pe_op op_add (pv 4) pe_int)) po_none))))) pss_nil) (pss_cons (ps_if (pt_cmpR op_eq (pv 3) pe_int (nomark _)) (pss_one (ps_ret (pe_join pe_str (pe_op op_cat (pe_op op_cat (pe_slice sl_list (pv 2) po_none (po_some (pv 4))) (pe_lst (pa_cons (pe_ix ix_list (pv 2) (pv 4) (fun _ _ => rfl)) pa_nil))) (pe_slice sl_list (pv 2) (po_some (pv 4)) po_none))))) pss_nil) (pss_cons (ps_if (pt_cmpR op_eq (pv 3) pe_int (nomark _)) (pss_one (ps_ret (pe_join pe_str (pe_op op_cat (pe_op op_cat (pe_slice sl_list (pv 2) po_none (po_some (pv 4))) (pe_lst (pa_cons pe_str pa_nil))) (pe_slice sl_list (pv 2) (po_some (pv 4)) po_none))))) pss_nil) (pss_cons (ps_if (pt_cmpR op_eq (pv 3) pe_int (nomark _)) (pss_one (ps_ret (pe_op op_add_str (pv 1) (pc gd G_Lpick (hr.mono (by decide)) (by rfl) T.m_Lpick T.F_Lpick.kp T.b_Lpick .nil pass0 (pa_cons (pv 0) (pa_cons (pe_lst (pa_cons pe_str (pa_cons pe_str (pa_cons pe_str (pa_cons pe_str (pa_cons pe_str (pa_cons pe_str pa_nil))))))) pa_nil)))))) pss_nil) (pss_cons (ps_if (pt_cmpR op_eq (pv 3) pe_int (nomark _)) (pss_one (ps_ret (pe_op op_add_str (pc gd G_Lpick (hr.mono (by decide)) (by rfl) T.m_Lpick T.F_Lpick.kp T.b_Lpick .nil pass0 (pa_cons (pv 0) (pa_cons (pe_lst (pa_cons pe_str (pa_cons pe_str (pa_cons pe_str (pa_cons pe_str (pa_cons pe_str pa_nil)))))) pa_nil))) (pv 1)))) pss_nil) (pss_cons (ps_if (pt_cmpR op_eq (pv 3) pe_int (nomark _)) (pss_cons (ps_set (i := 5) sc_Lbent.nd rfl (Or.inl rfl) (pc gd G_Lpick (hr.mono (by decide)) (by rfl) T.m_Lpick T.F_Lpick.kp T.b_Lpick .nil pass0 (pa_cons (pv 0) (pa_cons (pe_lst (pa_cons (pe_op op_add_str pe_str (pe_ix ix_list (pv 2) (pv 4) (fun _ _ => rfl))) (pa_cons (pe_op op_add_str pe_str (pe_ix ix_list (pv 2) (pv 4) (fun _ _ => rfl))) (pa_cons (pe_op op_add_str pe_str (pe_ix ix_list (pv 2) (pv 4) (fun _ _ => rfl))) (pa_cons (pe_op op_add_str (pe_ix ix_list (pv 2) (pv 4) (fun _ _ => rfl)) pe_str) (pa_cons (pe_slice sl_str (pe_ix ix_list (pv 2) (pv 4) (fun _ _ => rfl)) (po_some pe_int) po_none) pa_nil)))))) pa_nil)))) (pss_one (ps_ret (pe_join pe_str (pe_op op_cat (pe_op op_cat (pe_slice sl_list (pv 2) po_none (po_some (pv 4))) (pe_lst (pa_cons (pv 5) pa_nil))) (pe_slice sl_list (pv 2) (po_some (pe_op op_add (pv 4) pe_int)) po_none)))))) pss_nil) (pss_cons (ps_if (pt_cmpR op_eq (pv 3) pe_int (nomark _)) (pss_cons (ps_set (i := 5) sc_Lbent.nd rfl (Or.inl rfl) (pc gd G_Lpick (hr.mono (by decide)) (by rfl) T.m_Lpick T.F_Lpick.kp T.b_Lpick .nil pass0 (pa_cons (pv 0) (pa_cons (pe_lst (pa_cons pe_str (pa_cons pe_str (pa_cons pe_str (pa_cons pe_str (pa_cons pe_str (pa_cons pe_str (pa_cons pe_str (pa_cons pe_str (pa_cons pe_str (pa_cons pe_str (pa_cons pe_str (pa_cons pe_str pa_nil))))))))))))) pa_nil)))) (pss_one (ps_ret (pe_join pe_str (pe_op op_cat (pe_op op_cat (pe_slice sl_list (pv 2) po_none (po_some (pv 4))) (pe_lst (pa_cons (pv 5) pa_nil))) (pe_slice sl_list (pv 2) (po_some (pe_op op_add (pv 4) pe_int)) po_none)))))) pss_nil) (pss_one (ps_ret (pe_op op_add_str (pc gd G_Lpick (hr.mono (by decide)) (by rfl) T.m_Lpick T.F_Lpick.kp T.b_Lpick .nil pass0 (pa_cons (pv 0) (pa_cons (pe_callTy (call_listD rfl) (by rfl) T.z_list (by decide +kernel) (pa_cons (pc0 gd G_Llots (hr.mono (by decide)) (by rfl) T.m_Llots T.F_Llots.kp T.b_Llots .nil pass0) pa_nil)) pa_nil))) (pe_slice sl_str (pv 1) (po_some (pe_callB call_len_str (by rfl) T.z_len PySem.boot_len (pa_cons (pe_ix ix_list (pv 2) pe_int (fun _ _ => rfl)) pa_nil))) po_none))))))))))))), ?_⟩
    have wne : 1 ≤ (ws x).length := by
      cases e : ws x with
      | nil => exact absurd e (ws_ne x)
      | cons => simp
    refine q_parR (cons_rw ((el_split (ev_var rfl) ev_c (show Txt.split x " " = ws x from rfl) (by decide +kernel) (by omega)) H (Ex.refl H) _ fun ls H1 hls e1 h1 => cons1_raw (dr (n := 9) (ea_cons (ev_var rfl) (ea_cons (ev_is ev_c rfl) ea_nil)) (hp.ex e1) (by omega) (by omega) fun H2 o x2 p2 ho => ⟨_, _, rfl, ?_⟩)))
    generalize hw : ws x = wl at h4 h45 wne h1
    have nla : ls ≠ a := by
      obtain ⟨u, v, hu, _⟩ := hp
      exact (ne_of_none hu hls).symm
    have h2 := x2 _ _ nla h1
    show tSeq _ _ _ [some (.ref a), some (.str x), some (.ref ls), some (nV o), none, none] H2
    refine q_asgR (dr (n := wl.length) (ea_cons (ev_var rfl) (ea_cons (ev_is (ev_len (ev_var rfl) (sq_of h2)) (by rw [List.length_map])) ea_nil)) p2 wne (by omega) fun H3 k x3 p3 hk => ?_)
    have h3 := x3 _ _ nla h2
    have X3 : ExB a H H3 := ((ExB.of e1).trans x2).trans x3
    show tSeq _ _ _ [some (.ref a), some (.str x), some (.ref ls), some (nV o), some (nV k), none] H3
    have hkw : wl[k]? = some (wl.getD k "") := by
      rw [List.getD_eq_getElem?_getD, List.getElem?_eq_getElem hk]
      rfl
    have lk : (wl.getD k "").length ≤ 45 := h45 _ (List.mem_of_getElem? hkw)
    have tk : ∀ z ∈ wl.take k, z.length ≤ 60 := fun z hz => by have := h45 z (List.mem_of_mem_take hz); omega
    have td : ∀ {m : Nat}, ∀ z ∈ wl.drop m, z.length ≤ 60 := fun {m} z hz => by have := h45 z (List.mem_of_mem_drop hz); omega
    have ltk : (wl.take k).length ≤ 4 := by rw [List.length_take]; omega
    have ltd : ∀ {m : Nat}, (wl.drop m).length ≤ 4 := fun {m} => by rw [List.length_drop]; omega
    have tst : ∀ {G : Hp} {c : Int} {f5 : Option V}, EvT (tTest (tOp rEq (tVar 3) (tC (.int c)))) [some (.ref a), some (.str x), some (.ref ls), some (nV o), some (nV k), f5] G (decide (nV o = .int c)) := fun {G c f5} => et_test (ev_op (ev_var rfl) ev_c (rv_eq rfl))
    have evk : ∀ {G : Hp} {f5 : Option V}, Ev (tVar 4) [some (.ref a), some (.str x), some (.ref ls), some (nV o), some (nV k), f5] G (nV k) := fun {G f5} => ev_var rfl
    have evk1 : ∀ {G : Hp} {f5 : Option V}, Ev (tOp (rI0 fun i j => .int (i + j)) (tVar 4) (tC (.int 1))) [some (.ref a), some (.str x), some (.ref ls), some (nV o), some (nV k), f5] G (nV (k + 1)) := fun {G f5} => ev_op (ev_var rfl) ev_c rv_I0
    have evw : ∀ {G : Hp} {f5 : Option V}, G ls = some (.lst (wl.map V.str)) → Ev (tOp (rIxL K) (tVar 2) (tVar 4)) [some (.ref a), some (.str x), some (.ref ls), some (nV o), some (nV k), f5] G (.str (wl.getD k "")) := fun {G f5} h => ev_op (ev_var rfl) (ev_var rfl) (rv_ixL (sq_of h) (atI_nat (by rw [List.getElem?_map, hkw]; rfl)))
    have ret3 : ∀ {G : Hp} {f5 : Option V} {us : List Str} {tm : TE}, ExB a H G → PotAt G a → G ls = some (.lst (wl.map V.str)) → (∀ {G' : Hp}, Ex G G' → EvW tm [some (.ref a), some (.str x), some (.ref ls), some (nV o), some (nV k), f5] G' us) → (∀ z ∈ us, z.length ≤ 60) → us.length ≤ 1 → ∀ {m : Nat} {tq : TE}, m ≤ wl.length → k ≤ m → m ≤ k + 1 → (us.length + (m - k) ≤ 2) → (∀ {G' : Hp}, Ev tq [some (.ref a), some (.str x), some (.ref ls), some (nV o), some (nV k), f5] G' (nV m)) → tRet (tM1 (fun x xs H Q => ∃ a p, ∃ ys : List Str, x = .str a ∧ xs = [.ref p] ∧ (SqL K H p (ys.map V.str) ∨ SqT K H p (ys.map V.str)) ∧ (ys.map (·.length)).sum + ys.length * a.length ≤ 16777216 ∧ Q (.str (Txt.join a ys)) H) (tC (.str " ")) (tOp rCat (tOp rCat (tSl (rSlL K) (tVar 2) tNoPart (tPart (tVar 4))) tm) (tSl (rSlL K) (tVar 2) (tPart tq) tNoPart))) ⟨fun _ _ => False, fun v H' => Q v H', fun _ _ => False, fun _ _ => False⟩ [some (.ref a), some (.str x), some (.ref ls), some (nV o), some (nV k), f5] G := fun {G f5 us tm} xG pG hG hm hu lu {m tq} hm1 hm2 hm3 hm4 hq => by
      have l1 : (wl.take k).length = k := by rw [List.length_take]; omega
      have l2 : (wl.drop m).length = wl.length - m := List.length_drop
      refine s_ret (ev_joinW (zs := (wl.take k ++ us) ++ wl.drop m) (ew_cat (ew_cat (ew_to hG (ev_var rfl) evk (by omega)) (hm (Ex.refl G)) (by omega)) (ew_from hG (ev_var rfl) hq hm1) (by rw [List.length_append]; omega)) (fun z hz => ?_) (by rw [List.length_append, List.length_append]; omega)) fun G1 eG => q G1 _ (xG.trans (ExB.of eG)) (pG.ex eG) (lineT_len (fun z hz => ?_) (by rw [List.length_append, List.length_append]; omega))
      all_goals
        rcases List.mem_append.mp hz with hz | hz
        · rcases List.mem_append.mp hz with hz | hz
          · exact tk z hz
          · exact hu z hz
        · exact td z hz
    refine q_when tst (fun _ H4 e4 => ?_) fun _ H4 e4 => ?_
    · have l1 : (wl.take k).length = k := by rw [List.length_take]; omega
      have hk1 : k + 1 ≤ wl.length := hk
      refine s_ret (ev_joinW (zs := wl.take k ++ wl.drop (k + 1)) (ew_cat (ew_to (e4 _ _ h3) (ev_var rfl) evk (by omega)) (ew_from (e4 _ _ h3) (ev_var rfl) evk1 hk1) (by have := @ltd (k + 1); omega)) (fun z hz => ?_) (by rw [List.length_append, List.length_drop]; omega)) fun G1 eG => q G1 _ ((X3.trans (ExB.of e4)).trans (ExB.of eG)) ((p3.ex e4).ex eG) (lineT_len (fun z hz => ?_) (by rw [List.length_append, List.length_drop]; omega))
      all_goals
        rcases List.mem_append.mp hz with hz | hz
        · exact tk z hz
        · exact td z hz
    refine q_when tst (fun _ H5 e5 => ?_) fun _ H5 e5 => ?_
    · have h5 := (e4.trans e5) _ _ h3
      exact ret3 (us := [wl.getD k ""]) (X3.trans (ExB.of (e4.trans e5))) (p3.ex (e4.trans e5)) h5 (fun {G'} e => ew_one (evw (e _ _ h5))) (fun z hz => by rw [List.mem_singleton.mp hz]; omega) (by show 1 ≤ 1; omega) (m := k) (by omega) (by omega) (by omega) (by show 1 + (k - k) ≤ 2; omega) evk
    refine q_when tst (fun _ H6 e6 => ?_) fun _ H6 e6 => ?_
    · have h6 := (e4.trans (e5.trans e6)) _ _ h3
      exact ret3 (us := [""]) (X3.trans (ExB.of (e4.trans (e5.trans e6)))) (p3.ex (e4.trans (e5.trans e6))) h6 (fun {G'} e => ew_one ev_c) (fun z hz => by rw [List.mem_singleton.mp hz]; decide) (by show 1 ≤ 1; omega) (m := k) (by omega) (by omega) (by omega) (by show 1 + (k - k) ≤ 2; omega) evk
    refine q_when tst (fun _ H7 e7 => ?_) fun _ H7 e7 => ?_
    · have e37 := (e4.trans e5).trans (e6.trans e7)
      refine s_retR (op_raw (ev_raw (ev_var (v := .str x) rfl) fun H8 e8 => pickS_raw (ts := [" ", "\n", " 0", "0", ".", " none"]) (ev_var rfl) (p3.ex (e37.trans e8)) (el_lst (ea_cons ev_c (ea_cons ev_c (ea_cons ev_c (ea_cons ev_c (ea_cons ev_c (ea_cons ev_c ea_nil)))))) (by show 6 ≤ 100000; omega)) (by decide) (by decide) fun H9 t x9 p9 ht => ?_))
      have lt : t.length ≤ 5 := by
        have all : ∀ t ∈ ([" ", "\n", " 0", "0", ".", " none"] : List Str), t.length ≤ 5 := by decide +kernel
        exact all t ht
      exact ⟨x, t, rfl, rfl, sz_of (by omega), q H9 _ ((X3.trans (ExB.of (e37.trans e8))).trans x9) p9 (by rw [Str.length_append]; omega)⟩
    refine q_when tst (fun _ H8 e8 => ?_) fun _ H8 e8 => ?_
    · have e38 := ((e4.trans e5).trans (e6.trans e7)).trans e8
      refine s_retR (op_raw (pickS_raw (ts := [" ", "\n", "0", "-", "s"]) (ev_var rfl) (p3.ex e38) (el_lst (ea_cons ev_c (ea_cons ev_c (ea_cons ev_c (ea_cons ev_c (ea_cons ev_c ea_nil))))) (by show 5 ≤ 100000; omega)) (by decide) (by decide) fun H9 t x9 p9 ht => ev_raw (ev_var (v := .str x) rfl) fun H10 e10 => ?_))
      have lt : t.length ≤ 5 := by
        have all : ∀ t ∈ ([" ", "\n", "0", "-", "s"] : List Str), t.length ≤ 5 := by decide +kernel
        exact all t ht
      exact ⟨t, x, rfl, rfl, sz_of (by omega), q H10 _ (((X3.trans (ExB.of e38)).trans x9).trans (ExB.of e10)) (p9.ex e10) (by rw [Str.length_append]; omega)⟩
    have e38 := ((e4.trans e5).trans (e6.trans e7)).trans e8
    have h8 := e38 _ _ h3
    refine q_when tst (fun _ H9 e9 => ?_) fun _ H9 e9 => ?_
    · have h9 := e9 _ _ h8
      have c1 : (Str.ofString "0").length = 1 := by decide
      have c2 : (Str.ofString "-").length = 1 := by decide
      have c3 : (Str.ofString "+").length = 1 := by decide
      have c4 : (Str.ofString "_0").length = 2 := by decide
      refine q_asgR (pickS_raw (ts := ["0" ++ wl.getD k "", "-" ++ wl.getD k "", "+" ++ wl.getD k "", wl.getD k "" ++ "_0", cutS (wl.getD k "") (some (1 : Int)) none]) (ev_var rfl) (p3.ex (e38.trans e9)) (el_lst (ea_cons (ev_op ev_c (evw h9) (rv_addS (by rw [c1]; omega))) (ea_cons (ev_op ev_c (evw h9) (rv_addS (by rw [c2]; omega))) (ea_cons (ev_op ev_c (evw h9) (rv_addS (by rw [c3]; omega))) (ea_cons (ev_op (evw h9) ev_c (rv_addS (by rw [c4]; omega))) (ea_cons (ev_cutS (evw h9) (eo_some ev_c) eo_none (by omega)) ea_nil))))) (by show 5 ≤ 100000; omega)) (by show 1 ≤ 5; omega) (by show 5 ≤ 1000; omega) fun H10 t x10 p10 ht => ?_)
      have lt : t.length ≤ 60 := by
        simp only [List.mem_cons, List.not_mem_nil, or_false] at ht
        rcases ht with rfl | rfl | rfl | rfl | rfl
        · rw [Str.length_append]
          show (Str.ofString "0").length + _ ≤ 60
          omega
        · rw [Str.length_append]
          show (Str.ofString "-").length + _ ≤ 60
          omega
        · rw [Str.length_append]
          show (Str.ofString "+").length + _ ≤ 60
          omega
        · rw [Str.length_append]
          show _ + (Str.ofString "_0").length ≤ 60
          omega
        · exact Nat.le_trans (cutS_length _ _ _) (by omega)
      show tRet _ _ [some (.ref a), some (.str x), some (.ref ls), some (nV o), some (nV k), some (.str t)] H10
      exact ret3 (us := [t]) ((X3.trans (ExB.of (e38.trans e9))).trans x10) p10 (x10 _ _ nla h9) (fun {G'} e => ew_one (ev_var rfl)) (fun z hz => by rw [List.mem_singleton.mp hz]; exact lt) (by show 1 ≤ 1; omega) (m := k + 1) hk (by omega) (by omega) (by show 1 + (k + 1 - k) ≤ 2; omega) evk1
    have h9 := e9 _ _ h8
    refine q_when tst (fun _ H10 e10 => ?_) fun _ H10 e10 => ?_
    · have h10 := e10 _ _ h9
      refine q_asgR (pickS_raw (ts := ["none", "None", "-0", "00", "0", "1e3", "1.0", "x", "Group", "undo", "work", "limit"]) (ev_var rfl) (p3.ex (e38.trans (e9.trans e10))) (el_lst (ea_cons ev_c (ea_cons ev_c (ea_cons ev_c (ea_cons ev_c (ea_cons ev_c (ea_cons ev_c (ea_cons ev_c (ea_cons ev_c (ea_cons ev_c (ea_cons ev_c (ea_cons ev_c (ea_cons ev_c ea_nil)))))))))))) (by show 12 ≤ 100000; omega)) (by show 1 ≤ 12; omega) (by show 12 ≤ 1000; omega) fun H11 t x11 p11 ht => ?_)
      have lt : t.length ≤ 60 := by
        have all : ∀ t ∈ (["none", "None", "-0", "00", "0", "1e3", "1.0", "x", "Group", "undo", "work", "limit"] : List Str), t.length ≤ 60 := by decide +kernel
        exact all t ht
      show tRet _ _ [some (.ref a), some (.str x), some (.ref ls), some (nV o), some (nV k), some (.str t)] H11
      exact ret3 (us := [t]) ((X3.trans (ExB.of (e38.trans (e9.trans e10)))).trans x11) p11 (x11 _ _ nla h10) (fun {G'} e => ew_one (ev_var rfl)) (fun z hz => by rw [List.mem_singleton.mp hz]; exact lt) (by show 1 ≤ 1; omega) (m := k + 1) hk (by omega) (by omega) (by show 1 + (k + 1 - k) ≤ 2; omega) evk1
    have e310 := e38.trans (e9.trans e10)
    refine s_retR (op_raw (pick_raw (xs := sizes.map fun p => V.str p.1) (ev_var rfl) (p3.ex e310) el_lots (by decide) (by decide) fun H11 v x11 p11 hv => ?_))
    obtain ⟨⟨z, n⟩, hm, rfl⟩ := List.mem_map.mp hv
    have sz := size_ok (sizes_self _ hm)
    have h11 := x11 _ _ nla (e310 _ _ h3)
    obtain ⟨w0, ns, hw0⟩ : ∃ w0 ns, wl = w0 :: ns := by
      cases e : wl with
      | nil => rw [e] at wne; exact absurd wne (by decide)
      | cons w0 ns => exact ⟨w0, ns, rfl⟩
    have lw0 : w0.length ≤ 45 := h45 w0 (by rw [hw0]; exact List.mem_cons_self)
    refine ev_raw (ev_cutS (z := x) (lo := some ((w0.length : Nat) : Int)) (ev_var rfl) (eo_some (ev_cb (ea_cons (ev_op (ev_var rfl) ev_c (rv_ixL (v := .str w0) (sq_of h11) (atI_nat (j := 0) (by rw [hw0]; rfl)))) ea_nil) fun H12 e12 Q12 q12 => ⟨w0, rfl, sz_of (by omega), q12 H12 (Ex.refl H12)⟩)) eo_none (by omega)) fun H12 e12 => ?_
    have lc := cutS_length x (some ((w0.length : Nat) : Int)) none
    have lz : z.length ≤ 6 := sz.1
    exact ⟨z, _, rfl, rfl, sz_of (by omega), q H12 _ (((X3.trans (ExB.of e310)).trans x11).trans (ExB.of e12)) (p11.ex e12) (by rw [Str.length_append]; omega)⟩
end
end My
namespace My
open PySem PySem.Spec PyProof.Rows L2 GL Evl StX SkE
/-! ### texts whose signs are signs -/
def tOk (x : Str) : Prop := PyData.strOk x = true
theorem ok_of {x : Str} (h : ∀ c ∈ TL.tl x, c < 0x110000) : tOk x := by
  unfold tOk PyData.strOk
  rw [← Array.all_toList]
  exact List.all_eq_true.mpr fun c hc => decide_eq_true (h c hc)
theorem ok_at {x : Str} (h : tOk x) : ∀ c ∈ TL.tl x, c < 0x110000 := by
  unfold tOk PyData.strOk at h
  rw [← Array.all_toList] at h
  exact fun c hc => of_decide_eq_true (List.all_eq_true.mp h c hc)
theorem ok_str (s : String) : tOk (Str.ofString s) := ok_of fun c hc => by
  rw [TL.tl_ofString] at hc
  obtain ⟨ch, _, rfl⟩ := List.mem_map.mp hc
  have := ch.valid
  rcases this with h | h
  · have : ch.toNat < 0xd800 := h
    omega
  · have : ch.toNat < 0x110000 := h.2
    exact this
theorem ok_app {x y : Str} (h1 : tOk x) (h2 : tOk y) : tOk (x ++ y) := ok_of fun c hc => by
  rw [TL.tl_append] at hc
  rcases List.mem_append.mp hc with h | h
  · exact ok_at h1 c h
  · exact ok_at h2 c h
theorem hex_ok {w c : Nat} : ∀ d ∈ List.replicate (w - ((Nat.toDigits 16 c).map Char.toNat).length) 48 ++ (Nat.toDigits 16 c).map Char.toNat, d < 0x110000 := fun d hd => by
  rcases List.mem_append.mp hd with h | h
  · rw [List.eq_of_mem_replicate h]
    decide
  · obtain ⟨ch, _, rfl⟩ := List.mem_map.mp h
    rcases ch.valid with h | h
    · have : ch.toNat < 0xd800 := h
      omega
    · have : ch.toNat < 0x110000 := h.2
      exact this
theorem reprChar_ok {q c : Nat} (hc : c < 0x110000) : ∀ d ∈ Builtin.Str.reprChar q c, d < 0x110000 := by
  have h2 := @hex_ok 2 c
  have h4 := @hex_ok 4 c
  have h8 := @hex_ok 8 c
  unfold Builtin.Str.reprChar
  dsimp only
  intro d hd
  repeat' split at hd
  · simp only [List.mem_cons, List.not_mem_nil, or_false] at hd
    omega
  · simp only [List.mem_cons, List.not_mem_nil, or_false] at hd
    omega
  · simp only [List.mem_cons, List.not_mem_nil, or_false] at hd
    omega
  · simp only [List.mem_cons, List.not_mem_nil, or_false] at hd
    omega
  · simp only [List.mem_cons, List.not_mem_nil, or_false] at hd
    omega
  · rcases List.mem_append.mp hd with h | h
    · simp only [List.mem_cons, List.not_mem_nil, or_false] at h
      omega
    · exact h2 d h
  · rcases List.mem_append.mp hd with h | h
    · simp only [List.mem_cons, List.not_mem_nil, or_false] at h
      omega
    · exact h4 d h
  · rcases List.mem_append.mp hd with h | h
    · simp only [List.mem_cons, List.not_mem_nil, or_false] at h
      omega
    · exact h8 d h
theorem foldl_ok (q : Nat) : ∀ (l : List Nat) (acc : Array Nat), (∀ c ∈ l, c < 0x110000) → (∀ c ∈ acc.toList, c < 0x110000) → ∀ c ∈ (l.foldl (fun out c => out ++ (Builtin.Str.reprChar q c).toArray) acc).toList, c < 0x110000
  | [], acc, _, h => h
  | d :: r, acc, hl, h => by
    refine foldl_ok q r _ (fun c hc => hl c (List.mem_cons_of_mem _ hc)) fun c hc => ?_
    rw [Array.toList_append] at hc
    rcases List.mem_append.mp hc with hc | hc
    · exact h c hc
    · exact reprChar_ok (hl d List.mem_cons_self) c hc
theorem ok_repr {x : Str} (h : tOk x) : tOk (reprText x) := ok_of fun c hc => by
  have hq : reprQuote x < 0x110000 := by
    unfold reprQuote
    split <;> decide
  unfold reprText at hc
  have hc : c ∈ ((x.cps.foldl (fun out c => out ++ (Builtin.Str.reprChar (reprQuote x) c).toArray) #[reprQuote x]).push (reprQuote x)).toList := hc
  rw [Array.toList_push, ← Array.foldl_toList] at hc
  rcases List.mem_append.mp hc with h1 | h1
  · refine foldl_ok _ x.cps.toList _ (ok_at h) (fun c hc => ?_) c h1
    have : c = reprQuote x := by simpa using hc
    rw [this]
    exact hq
  · rw [List.mem_singleton.mp h1]
    exact hq
theorem ok_from : ∀ (ts : List Str) (k : Nat) (acc : Str), tOk acc → (∀ t ∈ ts, tOk t) → tOk (textFrom k acc ts)
  | [], _, _, h, _ => h
  | t :: r, k, acc, h, ht => ok_from r (k + 1) _ (ok_app (ok_app h (ok_str _)) (ht t List.mem_cons_self)) fun y hy => ht y (List.mem_cons_of_mem _ hy)
theorem ok_list {ts : List Str} (h : ∀ t ∈ ts, tOk t) : tOk (listText ts) := ok_app (ok_from ts 0 _ (ok_str _) h) (ok_str _)
theorem ok_join {y : Str} (hy : tOk y) : ∀ {ts : List Str}, (∀ t ∈ ts, tOk t) → tOk (Str.join y ts)
  | [], _ => ok_str ""
  | [t], h => h t List.mem_cons_self
  | t :: u :: r, h => by
    show tOk (t ++ y ++ Str.join y (u :: r))
    exact ok_app (ok_app (h t List.mem_cons_self) hy) (ok_join hy fun z hz => h z (List.mem_cons_of_mem _ hz))
theorem ok_tup {ts : List Str} (h : ∀ t ∈ ts, tOk t) : tOk (tupleText ts) := ok_app (ok_app (ok_str _) (ok_join (ok_str _) h)) (ok_str _)
structure SmT (d : PyData) (k B : Nat) : Prop where
  s : SmX d k B
  t : tOk d.shown
theorem SmT.mono {d : PyData} {k B k' B' : Nat} (h : SmT d k B) (hk : k ≤ k') (hB : B ≤ B') : SmT d k' B' := ⟨h.s.mono hk hB, h.t⟩
def smTb (d : PyData) (k B : Nat) : Bool := smXb d k B && PyData.strOk d.shown
theorem smT_b {d : PyData} {k B : Nat} (h : smTb d k B = true) : SmT d k B := by
  unfold smTb at h
  rw [Bool.and_eq_true] at h
  exact ⟨smX_b h.1, h.2⟩
theorem smX_tup {ds : List PyData} {k B : Nat} (h : ∀ d ∈ ds, SmX d k B) : SmX (.tuple ds) (k + 1) (ds.length * (B + 2) + 3) := by
  refine ⟨?_, ?_, ?_⟩
  · simp only [PyData.showable]
    exact showableAll_of fun d hd => (h d hd).sh
  · simp only [PyData.depth]
    have := depthAll_of (ds := ds) (k := k) fun d hd => (h d hd).de
    omega
  · simp only [PyData.shown]
    have := tuple_text_len (B := B) (ts := PyData.shownAll ds) fun t ht => by
      obtain ⟨d, hd, rfl⟩ := shownAll_mem ht
      exact (h d hd).ln
    rw [shownAll_len] at this
    exact this
theorem shown_ok {ds : List PyData} {k B : Nat} (h : ∀ d ∈ ds, SmT d k B) : ∀ t ∈ PyData.shownAll ds, tOk t := fun t ht => by
  obtain ⟨d, hd, rfl⟩ := shownAll_mem ht
  exact (h d hd).t
theorem smT_tup {ds : List PyData} {k B : Nat} (h : ∀ d ∈ ds, SmT d k B) : SmT (.tuple ds) (k + 1) (ds.length * (B + 2) + 3) := ⟨smX_tup fun d hd => (h d hd).s, by
  simp only [PyData.shown]
  exact ok_tup (shown_ok h)⟩
theorem smT_list {ds : List PyData} {k B : Nat} (h : ∀ d ∈ ds, SmT d k B) : SmT (.list ds) (k + 1) (ds.length * (B + 2) + 2) := ⟨smX_list fun d hd => (h d hd).s, by
  simp only [PyData.shown]
  exact ok_list (shown_ok h)⟩
theorem smT_intB {i : Int} {n : Nat} (h : i.natAbs < 10 ^ n) (hn : n ≤ 500) : SmT (.int i) 0 (n + 1) := by
  have lg : i.natAbs.log2 < 1920 := by
    by_cases e : i.natAbs = 0
    · rw [e]
      decide
    · exact (Nat.log2_lt e).mpr (Nat.lt_of_lt_of_le (Nat.lt_of_lt_of_le h (Nat.pow_le_pow_right (by decide) hn)) (by decide +kernel))
  have ln : (numZ i).length ≤ n + 1 := by
    have e : (numZ i).length = (TL.tl (numZ i)).length := (TL.len_tl _)
    rw [e]
    by_cases n0 : n = 0
    · subst n0
      have : i = 0 := by
        have h : i.natAbs < 1 := h
        omega
      subst this
      decide +kernel
    · cases i with
      | ofNat m =>
        rw [show TL.tl (numZ (Int.ofNat m)) = TL.numL m from tl_numZ m]
        have h : m < 10 ^ n := h
        exact Nat.le_trans (TL.numL_len (k := n) (by omega) h) (by omega)
      | negSucc m =>
        rw [tl_numZn, List.length_cons]
        have h : m + 1 < 10 ^ n := h
        have := TL.numL_len (k := n) (by omega) h
        omega
  refine ⟨⟨?_, ?_, ?_⟩, ?_⟩
  · simp only [PyData.showable]
    exact decide_eq_true lg
  · simp only [PyData.depth]
    exact Nat.le_refl 0
  · unfold numZ at ln
    simp only [PyData.shown]
    exact ln
  · simp only [PyData.shown]
    exact ok_str _
theorem smT_int {i : Int} (h : NumOk i) : SmT (.int i) 0 70 := (smT_intB (n := 40) h (by omega)).mono (Nat.le_refl 0) (by omega)
end My
namespace My
open PySem PySem.Spec PyProof.Rows L2 GL Evl StX SkE
/-! ### values that are no deeds -/
theorem size_sm {z : Str} {n : Nat} (h : sizeD z = some n) : SmT (.str z) 0 70 := by
  have all : sizes.all (fun p => smTb (.str p.1) 0 70) = true := by decide +kernel
  have h2 := List.all_eq_true.mp all (z, n) (look_mem h)
  exact smT_b h2
theorem mem_joinL {c : Nat} {S : List Nat} : ∀ {ps : List (List Nat)}, c ∈ TL.joinL S ps → c ∈ S ∨ ∃ p ∈ ps, c ∈ p
  | [], h => absurd h List.not_mem_nil
  | [p], h => .inr ⟨p, List.mem_cons_self, h⟩
  | p :: q :: r, h => by
    have h : c ∈ p ++ (S ++ TL.joinL S (q :: r)) := h
    rcases List.mem_append.mp h with h | h
    · exact .inr ⟨p, List.mem_cons_self, h⟩
    · rcases List.mem_append.mp h with h | h
      · exact .inl h
      · rcases mem_joinL h with h | ⟨p', hp', h⟩
        · exact .inl h
        · exact .inr ⟨p', List.mem_cons_of_mem _ hp', h⟩
theorem word_low {z : Str} {n : Nat} (h : sizeD z = some n) : ∀ c ∈ TL.tl z, c < 1000 := by
  have all : ∀ p ∈ sizes, ∀ c ∈ TL.tl p.1, c < 1000 := by decide +kernel
  exact all (z, n) (look_mem h)
theorem line_low {d : Dd} (g : GoodD d) : ∀ c ∈ TL.tl (lineD d), c < 1000 := fun c hc => by
  have e0 : TL.tl (Str.ofString " ") = [32] := by decide +kernel
  have en : ∀ c ∈ TL.tl (Str.ofString "none"), c < 1000 := by decide +kernel
  unfold lineD lineT at hc
  rw [TL.tl_join] at hc
  rcases mem_joinL hc with h | ⟨p, hp, h⟩
  · rw [show TL.tl " " = [32] from e0] at h
    rw [List.mem_singleton.mp h]
    decide
  · obtain ⟨t, ht, rfl⟩ := List.mem_map.mp hp
    rcases List.mem_cons.mp ht with rfl | ht
    · exact word_low (dd_size g.is) c h
    · obtain ⟨po, _, rfl⟩ := List.mem_map.mp ht
      cases po with
      | none => exact en c h
      | some i =>
        by_cases hh : c < 1000
        · exact hh
        · exact absurd h (numZ_free i (.inr (by omega)))
theorem line_len {d : Dd} (g : GoodD d) : (lineD d).length ≤ 170 := by
  have sz := size_ok (dd_size g.is)
  have := joinS_len (y := " ") (oT_len g)
  have c1 : (Str.ofString " ").length = 1 := by decide
  rw [show (Str.length " ") = 1 from c1, List.length_cons, List.length_map] at this
  have h2 : (d.2.length + 1) * (41 + 1) ≤ 4 * 42 := Nat.mul_le_mul_right _ (by omega)
  exact Nat.le_trans this (by omega)
theorem line_sm {d : Dd} (g : GoodD d) : SmT (.str (lineD d)) 0 1800 := ⟨⟨by
  simp only [PyData.showable], by
  simp only [PyData.depth]
  omega, by
  have h1 := PySem.StrLaws.reprText_len (lineD d) fun c hc => Nat.lt_trans (line_low g c hc) (by decide)
  have l := line_len g
  simp only [PyData.shown]
  omega⟩, by
  simp only [PyData.shown]
  exact ok_repr (ok_of fun c hc => Nat.lt_trans (line_low g c hc) (by decide))⟩
theorem line_ws {d : Dd} (g : GoodD d) : ws (lineD d) = d.1 :: d.2.map oT := by
  have en : 32 ∉ TL.tl (Str.ofString "none") := by decide +kernel
  unfold ws lineD lineT
  rw [← TL.join_eq]
  refine TL.split_join (s := 32) (S := []) (by decide +kernel) (by decide +kernel) (List.cons_ne_nil _ _) fun t ht => ?_
  rcases List.mem_cons.mp ht with rfl | ht
  · exact (size_ok (dd_size g.is)).2.2.2.1
  · obtain ⟨po, _, rfl⟩ := List.mem_map.mp ht
    cases po with
    | none => exact en
    | some i => exact numZ_free i (.inl (by omega))
/-- small data in the members -/
def Mem (K : PySem.W.Frag) (G : Hp) (x : V) : Prop := ∃ d, Dx K G x d ∧ SmT d 3 300
theorem Mem.ex {K : PySem.W.Frag} {G G' : Hp} {x : V} (h : Mem K G x) (e : Ex G G') : Mem K G' x := by
  obtain ⟨d, h1, h2⟩ := h
  exact ⟨d, h1.ex e, h2⟩
theorem dx_kn {K : PySem.W.Frag} {H : Hp} {v : V} {d : PyData} (h : Dx K H v d) : Kn K H v := by
  cases h with
  | non => exact ⟨_, .non⟩
  | bl b => exact ⟨_, .bl b⟩
  | int i => exact ⟨_, .int i⟩
  | str x => exact ⟨_, .str x⟩
  | lst h _ => exact ⟨_, .lst h⟩
  | tup h _ => exact ⟨_, .tup h⟩
  | dct h _ => exact ⟨_, .dK h⟩
theorem dxs_of {K : PySem.W.Frag} {G : Hp} : ∀ {xs : List V}, (∀ x ∈ xs, Mem K G x) → ∃ ds, DxAll K G xs ds ∧ ds.length = xs.length ∧ ∀ d ∈ ds, SmT d 3 300
  | [], _ => ⟨[], .nil, rfl, fun d hd => absurd hd List.not_mem_nil⟩
  | x :: xs, h => by
    obtain ⟨ds, h1, h2, h3⟩ := dxs_of fun y hy => h y (List.mem_cons_of_mem _ hy)
    obtain ⟨d, hd, hs⟩ := h x List.mem_cons_self
    exact ⟨d :: ds, .cons hd h1, by rw [List.length_cons, List.length_cons, h2], fun z hz => by
      rcases List.mem_cons.mp hz with rfl | hz
      · exact hs
      · exact h3 z hz⟩
theorem dv_mem {K : PySem.W.Frag} {G : Hp} {d : Dd} (g : GoodD d) : ∀ x ∈ dV d, Mem K G x := fun x hx => by
  rcases List.mem_cons.mp hx with rfl | hx
  · exact ⟨_, .str _, (size_sm (dd_size g.is)).mono (by omega) (by omega)⟩
  · obtain ⟨po, hpo, rfl⟩ := List.mem_map.mp hx
    cases po with
    | none => exact ⟨_, .non, smT_b (by decide +kernel)⟩
    | some i => exact ⟨_, .int i, (smT_int (g.nm i hpo)).mono (by omega) (by omega)⟩
def Odd (K : PySem.W.Frag) (G : Hp) (v : V) : Prop := DeedQ K G v false ∧ ∃ D, Dx K G v D ∧ SmT D 4 3000
theorem Odd.ex {K : PySem.W.Frag} {G G' : Hp} {v : V} (h : Odd K G v) (e : Ex G G') : Odd K G' v := by
  obtain ⟨h1, D, h2, h3⟩ := h
  exact ⟨h1.ex e, D, h2.ex e, h3⟩
section
variable {K : PySem.W.Frag} {G : Hp} {r : Addr} {xs : List V} {v : V} {D : PyData} {T : String}
theorem odd_lst (h : SqL K G r xs) (hx : ∀ x ∈ xs, Mem K G x) (l : xs.length ≤ 8) : Odd K G (.ref r) := by
  obtain ⟨ds, h1, h2, h3⟩ := dxs_of hx
  refine ⟨.no (.lst h) (by decide), _, .lst h h1, (smT_list h3).mono (by omega) ?_⟩
  have : ds.length * (300 + 2) ≤ 8 * 302 := Nat.mul_le_mul_right _ (by omega)
  omega
theorem odd_tup (h : SqT K G r xs) (hx : ∀ x ∈ xs, Mem K G x) (l : xs.length ≤ 8) (nd : ddB xs = false) : Odd K G (.ref r) := by
  obtain ⟨ds, h1, h2, h3⟩ := dxs_of hx
  refine ⟨?_, _, .tup h h1, (smT_tup h3).mono (by omega) ?_⟩
  · rw [← nd]
    exact .tup h (fun x hx' => by
      obtain ⟨d, hd, _⟩ := hx x hx'
      exact dx_kn hd) (by omega)
  · have : ds.length * (300 + 2) ≤ 8 * 302 := Nat.mul_le_mul_right _ (by omega)
    omega
theorem odd_at (h : TyB K G v T) (n : T ≠ "tuple") (hd : Dx K G v D) (s : SmT D 4 3000) : Odd K G v := ⟨.no h n, D, hd, s⟩
theorem mem_tup (h : SqT K G r xs) (hx : ∀ x ∈ xs, ∃ d, Dx K G x d ∧ SmT d 0 70) (l : xs.length ≤ 4) : Mem K G (.ref r) := by
  have go : ∀ {ys : List V}, (∀ x ∈ ys, ∃ d, Dx K G x d ∧ SmT d 0 70) → ∃ ds, DxAll K G ys ds ∧ ds.length = ys.length ∧ ∀ d ∈ ds, SmT d 0 70 := by
    intro ys
    induction ys with
    | nil => exact fun _ => ⟨[], .nil, rfl, fun d hd => absurd hd List.not_mem_nil⟩
    | cons y ys ih =>
      intro h
      obtain ⟨ds, h1, h2, h3⟩ := ih fun z hz => h z (List.mem_cons_of_mem _ hz)
      obtain ⟨d, hd, hs⟩ := h y List.mem_cons_self
      exact ⟨d :: ds, .cons hd h1, by rw [List.length_cons, List.length_cons, h2], fun z hz => by
        rcases List.mem_cons.mp hz with rfl | hz
        · exact hs
        · exact h3 z hz⟩
  obtain ⟨ds, h1, h2, h3⟩ := go hx
  refine ⟨_, .tup h h1, (smT_tup h3).mono (by omega) ?_⟩
  have : ds.length * (70 + 2) ≤ 4 * 72 := Nat.mul_le_mul_right _ (by omega)
  omega
end
theorem dv_at {K : PySem.W.Frag} {G : Hp} {d : Dd} (g : GoodD d) : ∀ x ∈ dV d, ∃ D, Dx K G x D ∧ SmT D 0 70 := fun x hx => by
  rcases List.mem_cons.mp hx with rfl | hx
  · exact ⟨_, .str _, size_sm (dd_size g.is)⟩
  · obtain ⟨po, hpo, rfl⟩ := List.mem_map.mp hx
    cases po with
    | none => exact ⟨_, .non, smT_b (by decide +kernel)⟩
    | some i => exact ⟨_, .int i, smT_int (g.nm i hpo)⟩
/-! which lists of members tell none -/
theorem ddB_len {z : Str} {n : Nat} {ns : List V} (h : sizeD z = some n) (hl : ns.length ≠ n) : ddB (.str z :: ns) = false := by
  unfold ddB
  dsimp only
  rw [h]
  dsimp only
  rw [decide_eq_false hl, Bool.false_and]
theorem ddB_word {z : Str} {ns : List V} (h : sizeD z = none) : ddB (.str z :: ns) = false := by
  unfold ddB
  dsimp only
  rw [h]
theorem ddB_part {z : Str} {n j : Nat} {x : V} {ns : List V} (h : sizeD z = some n) (hl : ns.length = n) (hx : isI x = false) (hj : j < n) (hn : x ≠ .non ∨ z ≠ "limit" ∨ j = 0) : ddB (.str z :: (ns.take j ++ [x] ++ ns.drop (j + 1))) = false := by
  unfold ddB
  dsimp only
  rw [h]
  dsimp only
  have hm : x ∈ ns.take j ++ [x] ++ ns.drop (j + 1) := List.mem_append.mpr (.inl (List.mem_append.mpr (.inr List.mem_cons_self)))
  have hat : (ns.take j ++ [x] ++ ns.drop (j + 1))[j]? = some x := by
    rw [List.append_assoc, List.getElem?_append_right (by rw [List.length_take]; omega), List.length_take, Nat.min_eq_left (by omega), Nat.sub_self]
    rfl
  rw [Bool.and_eq_false_iff]
  refine .inr ?_
  split
  · rename_i hh
    obtain ⟨h1, h2⟩ := hh
    subst h1
    have n2 : n = 2 := by
      rw [limit_two] at h
      exact (Option.some.inj h).symm
    have j0 : j = 0 := by
      rcases hn with h | h | h
      · by_cases hj1 : j = 1
        · rw [hj1] at hat h2
          rw [h2] at hat
          exact absurd (Option.some.inj hat).symm h
        · omega
      · exact absurd rfl h
      · exact h
    subst j0
    cases e : ns.take 0 ++ [x] ++ ns.drop (0 + 1) with
    | nil => rw [e] at hm; exact absurd hm List.not_mem_nil
    | cons y r =>
      rw [e] at hat
      rw [show y = x from Option.some.inj hat]
      exact hx
  · exact List.all_eq_false.mpr ⟨x, hm, by rw [hx]; exact Bool.false_ne_true⟩
theorem dV_len (d : Dd) : (dV d).length = d.2.length + 1 := by
  show (d.2.map oV).length + 1 = _
  rw [List.length_map]
def hol (a : Addr) (H : Hp) : Hp := fun b => if b = a then none else H b
theorem hol_ex {a : Addr} {H : Hp} : Ex (hol a H) H := fun b o h => by
  unfold hol at h
  split at h
  · cases h
  · exact h
theorem hol_at {a b : Addr} {H : Hp} {o : HO} (h : H b = some o) (n : b ≠ a) : hol a H b = some o := (if_neg n).trans h
theorem hol_self {a : Addr} {H : Hp} : hol a H a = none := if_pos rfl
theorem hol_t {K : PySem.W.Frag} {a u : Addr} {H : Hp} {xs : List V} (h : SqT K H u xs) (hp : PotAt H a) : SqT K (hol a H) u xs := by
  obtain ⟨x, y, hx, _⟩ := hp
  rcases h with (h | ⟨ob, h⟩) | h
  · exact .inl (.inl (hol_at h fun z => by rw [z, hx] at h; cases h))
  · exact .inl (.inr ⟨ob, hol_at h fun z => by rw [z, hx] at h; cases h⟩)
  · exact .inr h
def sp_Lodds (K : PySem.W.Frag) : Sp := fun vs H Q _ => ∃ a v d, vs = [.ref a, v] ∧ PotAt H a ∧ DdAt K H v d ∧ GoodD d ∧ ∀ H' p xs G, ExB a H H' → PotAt H' a → H p = none → H' p = some (.lst xs) → Ex G H' → G a = none → (∀ x ∈ xs, Odd K G x) → xs.length ≤ 50 → Q (.ref p) H'
/-! values that stand in a part of the heap -/
def EvF (P : Hp → V → Prop) (te : TE) (σ : L2.St) (B : Hp) : Prop := ∀ G H1, Ex B G → Ex G H1 → ∀ Q : VK, (∀ v G2 H2, Ex G G2 → Ex G2 H2 → Ex H1 H2 → (∀ b, H1 b ≠ none → G b = none → G2 b = none) → P G2 v → Q v H2) → te σ H1 Q
def EvFA (P : Hp → V → Prop) (n : Nat) (tA : TA) (σ : L2.St) (B : Hp) : Prop := ∀ G H1, Ex B G → Ex G H1 → ∀ Q : List V → Hp → Prop, (∀ vs G2 H2, Ex G G2 → Ex G2 H2 → Ex H1 H2 → (∀ b, H1 b ≠ none → G b = none → G2 b = none) → (∀ v ∈ vs, P G2 v) → vs.length = n → Q vs H2) → tA σ H1 Q
def EvTq (K : PySem.W.Frag) (te : TE) (σ : L2.St) (B : Hp) (xs : List V) : Prop := ∀ H1, Ex B H1 → ∀ Q : VK, (∀ r H2, Ex H1 H2 → SqT K H2 r xs → Q (.ref r) H2) → te σ H1 Q
def EvTf (te : TE) (σ : L2.St) (B : Hp) (xs : List V) : Prop := ∀ H1, Ex B H1 → ∀ Q : VK, (∀ r H2 o, H1 r = none → Ex H1 H2 → H2 r = some o → (o = .tup xs ∨ ∃ ob, o = .frz ob (.tup xs)) → Q (.ref r) H2) → te σ H1 Q
section
variable {P : Hp → V → Prop} {K : PySem.W.Frag} {σ : L2.St} {H H' B G : Hp} {te ta tb : TE} {tA : TA} {tl th : TO} {xs ys zs : List V} {v x : V} {u a p : Addr} {n : Nat} {D : Ends} {tz : TS} {Q : VK} {lo hi : Option Int}
theorem fa_nil : EvFA P 0 tNil σ B := fun G H1 b g Q q => q [] G H1 (Ex.refl G) g (Ex.refl H1) (fun _ _ h => h) (fun v hv => absurd hv List.not_mem_nil) rfl
theorem fa_cons (hP : ∀ {G G2 : Hp} {v : V}, P G v → Ex G G2 → P G2 v) (h : EvF P te σ B) (ht : EvFA P n tA σ B) : EvFA P (n + 1) (tCons te tA) σ B := fun G H1 b g Q q => h G H1 b g _ fun v G2 H2 g2 gh e nw pv => ht G2 H2 (b.trans g2) gh _ fun vs G3 H3 g3 gh3 e3 nw3 pvs hn => q (v :: vs) G3 H3 (g2.trans g3) gh3 (e.trans e3) (fun b hb hg => nw3 b (fun z => by
    cases hh : H1 b with
    | none => exact hb hh
    | some o => rw [e _ _ hh] at z; cases z) (nw b hb hg)) (fun w hw => by
    rcases List.mem_cons.mp hw with rfl | hw
    · exact hP pv g3
    · exact pvs w hw) (by rw [List.length_cons, hn])
theorem f_ev (h : Ev te σ B v) (p : ∀ G, Ex B G → P G v) : EvF P te σ B := fun G H1 b g Q q => h H1 (b.trans g) _ fun H2 e2 => q v G H2 (Ex.refl G) (g.trans e2) e2 (fun _ _ hg => hg) (p G b)
theorem f_new {H1 H2 : Hp} {r : Addr} {o : HO} (g : Ex G H1) (hr : H1 r = none) (e2 : Ex H1 H2) (h2 : H2 r = some o) : Ex G (upd G r o) ∧ Ex (upd G r o) H2 ∧ ∀ b, H1 b ≠ none → G b = none → (upd G r o) b = none := by
  refine ⟨Ex.new (fresh_back g hr), fun b o' h => ?_, fun b hb hg => ?_⟩
  · by_cases hbr : b = r
    · rw [hbr, upd_same] at h
      rw [hbr, ← Option.some.inj h]
      exact h2
    · rw [upd_ne hbr] at h
      exact e2 _ _ (g _ _ h)
  · rw [upd_ne (fun z => hb (by rw [z]; exact hr))]
    exact hg
theorem f_tup (h : EvTf te σ B xs) (p : ∀ G r, Ex B G → SqT K G r xs → P G (.ref r)) : EvF P te σ B := fun G H1 b g Q q => h H1 (b.trans g) Q fun r H2 o hr e2 h2 ho => by
  obtain ⟨k1, k2, k3⟩ := f_new g hr e2 h2
  refine q (.ref r) (upd G r o) H2 k1 k2 e2 k3 (p _ r (b.trans k1) ?_)
  rcases ho with rfl | ⟨ob, rfl⟩
  · exact .inl (.inl upd_same)
  · exact .inl (.inr ⟨ob, upd_same⟩)
theorem f_lst (h : EvL te σ B xs) (p : ∀ G r, Ex B G → SqL K G r xs → P G (.ref r)) : EvF P te σ B := fun G H1 b g Q q => h H1 (b.trans g) Q fun r H2 hr e2 h2 => by
  obtain ⟨k1, k2, k3⟩ := f_new g hr e2 h2
  exact q (.ref r) _ H2 k1 k2 e2 k3 (p _ r (b.trans k1) (sq_of upd_same))
theorem f_dct (p : ∀ G r, Ex B G → G r = some (.dK []) → P G (.ref r)) : EvF P tDNewK σ B := fun G H1 b g Q q => fun r hr => by
  obtain ⟨k1, k2, k3⟩ := f_new g hr (Ex.new hr) (upd_same (o := .dK []))
  exact q (.ref r) _ _ k1 k2 (Ex.new hr) k3 (p _ r (b.trans k1) upd_same)
theorem EvTf.q (h : EvTf te σ B xs) : EvTq K te σ B xs := fun H1 b Q q => h H1 b Q fun r H2 o hr e2 h2 ho => q r H2 e2 (by
  rcases ho with rfl | ⟨ob, rfl⟩
  · exact .inl (.inl h2)
  · exact .inl (.inr ⟨ob, h2⟩))
theorem tq_var {i : Nat} (h : σ[i]? = some (some (.ref u))) (hu : SqT K B u xs) : EvTq K (tVar i) σ B xs := fun H1 b Q q => ⟨_, h, q u H1 (Ex.refl H1) (ex_t b hu)⟩
theorem cut_whole (h : HT.sIx xs.length 0 lo = 0 ∧ HT.sIx xs.length xs.length hi = xs.length) : cutV xs lo hi = xs := by
  unfold cutV
  rw [h.1, h.2, List.drop_zero, Nat.sub_zero, List.take_length]
theorem tq_sl {i : Nat} (h : σ[i]? = some (some (.ref u))) (hu : SqT K B u xs) (h1 : EvO tl σ B lo) (h2 : EvO th σ B hi) : EvTq K (tSl (rSlA K) (tVar i) tl th) σ B (cutV xs lo hi) := fun H1 b Q q => ⟨_, h, h1 H1 b _ fun H2 e2 => h2 H2 (b.trans e2) _ fun H3 e3 => ⟨u, xs, rfl, ex_t (b.trans (e2.trans e3)) hu, fun hw => q u H3 (e2.trans e3) (by rw [cut_whole hw]; exact ex_t (b.trans (e2.trans e3)) hu), fun _ p hp => q p _ ((e2.trans e3).trans (Ex.new hp)) (st_of upd_same)⟩⟩
theorem tf_sl {i : Nat} (h : σ[i]? = some (some (.ref u))) (hu : SqT K B u xs) (h1 : EvO tl σ B lo) (h2 : EvO th σ B hi) (hw : ¬ (HT.sIx xs.length 0 lo = 0 ∧ HT.sIx xs.length xs.length hi = xs.length)) : EvTf (tSl (rSlA K) (tVar i) tl th) σ B (cutV xs lo hi) := fun H1 b Q q => ⟨_, h, h1 H1 b _ fun H2 e2 => h2 H2 (b.trans e2) _ fun H3 e3 => ⟨u, xs, rfl, ex_t (b.trans (e2.trans e3)) hu, fun z => absurd z hw, fun _ p hp => q p _ _ (fresh_back (e2.trans e3) hp) ((e2.trans e3).trans (Ex.new hp)) upd_same (.inl rfl)⟩⟩
theorem tf_nil : EvTf (tTupX tNil) σ B [] := fun H1 b Q q => tupx_rawX (nil_raw ⟨sz_of (by show 0 ≤ 100000; omega), fun p o hp bo => q p _ _ hp (Ex.new hp) upd_same (.inr ⟨o, rfl⟩)⟩)
theorem tf_one (h : Ev te σ B v) : EvTf (tTupX (tCons te tNil)) σ B [v] := fun H1 b Q q => tupx_rawX (cons1_raw (h H1 b _ fun H2 e2 => ⟨sz_of (by show 1 ≤ 100000; omega), fun p o hp bo => q p _ _ (fresh_back e2 hp) (e2.trans (Ex.new hp)) upd_same (.inr ⟨o, rfl⟩)⟩))
theorem tf_cat (ha : EvTq K ta σ B xs) (hb : EvTq K tb σ B ys) (nx : xs ≠ []) (ny : ys ≠ []) (l : xs.length + ys.length ≤ 1000) : EvTf (tOp (rCatA K) ta tb) σ B (xs ++ ys) := fun H1 b Q q => ha H1 b _ fun r H2 e2 h2 => hb H2 (b.trans e2) _ fun r' H3 e3 h3 => ⟨r, r', xs, ys, rfl, rfl, ex_t e3 h2, h3, sz_of (by omega), fun z => absurd z nx, fun _ z => absurd z ny, fun _ _ p hp => q p _ _ (fresh_back (e2.trans e3) hp) ((e2.trans e3).trans (Ex.new hp)) upd_same (.inl rfl)⟩
theorem tf_cat2 (ha : EvTf ta σ B xs) (hb : EvTq K tb σ B ys) (nx : xs ≠ []) (l : xs.length + ys.length ≤ 1000) : EvTf (tOp (rCatA K) ta tb) σ B (xs ++ ys) := fun H1 b Q q => ha H1 b _ fun r H2 o hr e2 h2 ho => hb H2 (b.trans e2) _ fun r' H3 e3 h3 => by
  have s2 : SqT K H2 r xs := by
    rcases ho with rfl | ⟨ob, rfl⟩
    · exact .inl (.inl h2)
    · exact .inl (.inr ⟨ob, h2⟩)
  refine ⟨r, r', xs, ys, rfl, rfl, ex_t e3 s2, h3, sz_of (by omega), fun z => absurd z nx, fun _ z => ?_, fun _ _ p hp => q p _ _ (fresh_back (e2.trans e3) hp) ((e2.trans e3).trans (Ex.new hp)) upd_same (.inl rfl)⟩
  rw [z, List.append_nil] at q
  exact q r H3 o hr (e2.trans e3) (e3 _ _ h2) ho
theorem EvF.mono (h : EvF P te σ B) (e : Ex B H) : EvF P te σ H := fun G H1 b g => h G H1 (e.trans b) g
theorem EvFA.mono (h : EvFA P n tA σ B) (e : Ex B H) : EvFA P n tA σ H := fun G H1 b g => h G H1 (e.trans b) g
/-- a list under way, its members in a part of the heap -/
structure Fp (K : PySem.W.Frag) (a p : Addr) (G H : Hp) (xs : List V) : Prop where
  g : Ex G H
  np : G p = none
  na : G a = none
  h : H p = some (.lst xs)
  o : ∀ x ∈ xs, Odd K G x
  pot : PotAt H a
theorem Fp.pa (f : Fp K a p G H xs) (l : xs.length ≠ 2) : p ≠ a := fun z => by
  obtain ⟨x, y, hx, _⟩ := f.pot
  have := f.h
  rw [z, hx] at this
  rw [← HO.lst.inj (Option.some.inj this)] at l
  exact l rfl
theorem s_appF {i : Nat} (f : Fp K a p G H xs) (hσ : σ[i]? = some (some (.ref p))) (he : EvF (Odd K) te σ G) (l : xs.length ≤ 100) (l3 : 3 ≤ xs.length) (k : ∀ G' H' v, Fp K a p G' H' (xs ++ [v]) → Ex G G' → ExB p H H' → D.nx σ H') : tDrop (tBM K "list" rAppend (tVar i) (tCons te tNil)) D σ H := by
  refine ⟨_, hσ, .inl ⟨rfl, _, sq_of f.h⟩, ?_⟩
  refine he G H (Ex.refl G) f.g _ fun v G2 H2 g2 gh e nw pv => ?_
  have npa := f.pa (by omega)
  have hp0 : H p ≠ none := fun z => by rw [f.h] at z; cases z
  have n2 := nw p hp0 f.np
  refine ⟨p, xs, v, rfl, rfl, e _ _ f.h, by rw [sizeLine_eq]; omega, k G2 _ v ⟨?_, n2, nw a (fun z => ?_) f.na, upd_same, fun x hx => ?_, ?_⟩ g2 ?_⟩
  · exact gh.mut n2
  · obtain ⟨x, y, hx, _⟩ := f.pot
    rw [hx] at z
    cases z
  · rcases List.mem_append.mp hx with h | h
    · exact (f.o x h).ex g2
    · rw [List.mem_singleton.mp h]
      exact pv
  · obtain ⟨x, y, hx, hh⟩ := f.pot.ex e
    exact ⟨x, y, by rw [upd_ne npa.symm]; exact hx, hh⟩
  · exact fun b o nb hb => by rw [upd_ne nb]; exact e _ _ hb
theorem q_extF {i : Nat} (f : Fp K a p G H xs) (hσ : σ[i]? = some (some (.ref p))) (he : EvFA (Odd K) n tA σ G) (hn : n ≤ 100) (l : xs.length ≤ 100) (l3 : 3 ≤ xs.length) (k : ∀ G' H' vs, vs.length = n → Fp K a p G' H' (xs ++ vs) → Ex G G' → ExB p H H' → tz D σ H') : tSeq (tDrop (tBM K "list" rExtend (tVar i) (tCons (tLst tA) tNil))) tz D σ H := by
  refine ⟨_, hσ, .inl ⟨rfl, _, sq_of f.h⟩, ?_⟩
  refine lst_raw (he G H (Ex.refl G) f.g _ fun vs G2 H2 g2 gh e nw pvs ln => ⟨sz_of (by omega), fun q hq => ?_⟩)
  have npa := f.pa (by omega)
  have hp0 : H p ≠ none := fun z => by rw [f.h] at z; cases z
  have n2 := nw p hp0 f.np
  have e3 : Ex H2 (upd H2 q (.lst vs)) := Ex.new hq
  refine ⟨p, q, xs, vs, rfl, rfl, e3 _ _ (e _ _ f.h), upd_same, sz_of (by omega), k G2 _ vs ln ⟨?_, n2, nw a (fun z => ?_) f.na, upd_same, fun x hx => ?_, ?_⟩ g2 ?_⟩
  · exact (gh.trans e3).mut n2
  · obtain ⟨x, y, hx, _⟩ := f.pot
    rw [hx] at z
    cases z
  · rcases List.mem_append.mp hx with h | h
    · exact (f.o x h).ex g2
    · exact pvs x h
  · obtain ⟨x, y, hx, hh⟩ := f.pot.ex (e.trans e3)
    exact ⟨x, y, by rw [upd_ne npa.symm]; exact hx, hh⟩
  · exact fun b o nb hb => by rw [upd_ne nb]; exact e3 _ _ (e _ _ hb)
end
def Prt (K : PySem.W.Frag) (G : Hp) (v : V) : Prop := Mem K G v ∧ isI v = false ∧ v ≠ .non
theorem Prt.ex {K : PySem.W.Frag} {G G' : Hp} {v : V} (h : Prt K G v) (e : Ex G G') : Prt K G' v := ⟨h.1.ex e, h.2⟩
section
variable {P : Program} {w : World} {K : PySem.W.Frag} {mg : Str → Option Value} {base : Heap} {C : Addr} {H H' H0 H1 G : Hp} {σ : L2.St} {te tb ta tc tl ti : TE} {t tt : TT} {tu : TS} {tA : TA} {E Er : XK} {D : Ends} {tz : TS} {a b d p ls : Addr} {v x : V} {Q : VK} {j : Nat} {vs : List Nat} {s1 s2 z y : Str} {xs : List V}
theorem q_forRaw {g : TG} (h : tl σ H fun x H1 => ∃ p, x = .ref p ∧ (∃ xs, SqL K H1 p xs) ∧ tFor (fun _ H R => R (Itl K p) H) g tu { D with nx := tz D } σ H1) : tSeq (tFor (iList K tl) g tu) tz D σ H := h
theorem forRaw {g : TG} (Pv : Nat → L2.St → Hp → Prop) (h0 : Pv 0 σ H) (hl : ∀ i σ' H', i ≤ xs.length → Pv i σ' H' → SqL K H' p xs)
    (hs : ∀ i x σ' H', xs[i]? = some x → Pv i σ' H' → g x σ' H' fun σ2 H2 => tu { D with nx := Pv (i + 1), ct := Pv (i + 1), bk := tz D } σ2 H2) (hd : ∀ σ' H', Pv xs.length σ' H' → tz D σ' H') : tFor (fun _ H R => R (Itl K p) H) g tu { D with nx := tz D } σ H :=
  for_list Pv h0 hl hs hd
theorem ev_upper {s : Str} (ha : Ev ta σ H (.str s)) (hl : s.length ≤ 1000) : Ev (tM0 (fun x xs H Q => ∃ a, x = .str a ∧ xs = [] ∧ a.length ≤ 5592405 ∧ Q (.str (Txt.upper a)) H) ta) σ H (.str (Txt.upper s)) := fun H1 e Q q => ha H1 e _ fun H2 e2 => ⟨⟨s, rfl⟩, s, rfl, rfl, by omega, q H2 e2⟩
theorem upper_ok {z : Str} {n : Nat} (h : sizeD z = some n) : sizeD (Txt.upper z) = none ∧ SmT (.str (Txt.upper z)) 0 70 := by
  have all : ∀ p ∈ sizes, sizeD (Txt.upper p.1) = none ∧ smTb (.str (Txt.upper p.1)) 0 70 = true := by decide +kernel
  obtain ⟨h1, h2⟩ := all (z, n) (look_mem h)
  exact ⟨h1, smT_b h2⟩
theorem cutV_last {xs : List V} (h : 1 ≤ xs.length) : HT.sIx xs.length xs.length (some (-1 : Int)) = xs.length - 1 := by
  show (if (-1 : Int) < 0 then ((-1 : Int) + (xs.length : Int)).toNat else min (-1 : Int).toNat xs.length) = _
  rw [if_pos (by omega)]
  omega
end
end My
namespace My
open PySem PySem.Spec PyProof.Rows L2 GL Evl StX SkE
/-! ### values that are no deeds: the law's list -/
section
variable {P : Program} {w : World} {K : PySem.W.Frag} {mg : Str → Option Value} {base : Heap} {C : Addr} {H H' H0 H1 G : Hp} {σ : L2.St} {te tb ta tc tl ti : TE} {t tt : TT} {tu : TS} {tA : TA} {E Er : XK} {D : Ends} {tz : TS} {a b d p ls : Addr} {v x : V} {Q : VK} {j : Nat} {vs : List Nat} {s1 s2 z y : Str} {xs : List V}
theorem ok_Lodd_acts (T : Txt K mg w) (G_Ldraw : FnG P w K mg base CX0 1 T.f_Ldraw T.fd_Ldraw ["_law_pot_here", "_law_sides"] sp_Ldraw) (G_Lspelled : FnG P w K mg base CX0 1 T.f_Lspelled T.fd_Lspelled ["_law_act_here"] (sp_Lspelled K)) : FnG P w K mg base CX0 3 T.f_Lodd_acts T.fd_Lodd_acts ["_law_pot_here", "_law_act_here"] (sp_Lodds K) := by
  skip
  refine okG T.F_Lodd_acts sc_Lodd_acts (fun vs H Q E h => ?_) (fun cdv A outer s H vs Q E gd hr h => ?_)
  · obtain ⟨_, _, _, rfl, _⟩ := h
    all_goals rfl
  · obtain ⟨a, v, dd, rfl, hp, ⟨u, rfl, hu⟩, g, q⟩ := h
    refine ⟨_, (pss_cons (ps_set (i := 2) sc_Lodd_acts.nd rfl (Or.inl rfl) (pe_op op_add pe_int (pc gd G_Ldraw (hr.mono (by decide)) (by rfl) T.m_Ldraw T.F_Ldraw.kp T.b_Ldraw .nil pass0 (pa_cons (pv 0) (pa_cons (pe_op op_sub (pe_callB call_len_seq (by rfl) T.z_len PySem.boot_len (pa_cons (pv 1) pa_nil)) pe_int) pa_nil))))) (pss_cons (ps_set (i := 3) sc_Lodd_acts.nd rfl (Or.inl rfl) (pe_lst (pa_cons pe_non (pa_cons pe_int (pa_cons pe_str (pa_cons (pe_ix ix_tup (pv 1) pe_int (fun _ _ => rfl)) (pa_cons (pc gd G_Lspelled (hr.mono (by decide)) (by rfl) T.m_Lspelled T.F_Lspelled.kp T.b_Lspelled .nil pass0 (pa_cons (pv 1) pa_nil)) (pa_cons (pe_callTy call_list_of (by rfl) T.z_list (by decide +kernel) (pa_cons (pv 1) pa_nil)) (pa_cons (pe_slice sl_tupA (pv 1) po_none (po_some (pe_un un_neg pe_int))) (pa_cons (pe_op op_catA (pv 1) (pe_tupX (pa_cons pe_int pa_nil))) (pa_cons (pe_tupX pa_nil) (pa_cons (pe_tupX (pa_cons (pv 1) pa_nil)) (pa_cons (pe_lst (pa_cons (pv 1) pa_nil)) (pa_cons pe_dnewK (pa_cons (pe_slice sl_tupA (pv 1) (po_some pe_int) po_none) pa_nil))))))))))))))) (pss_cons (ps_for PassesOwn.never rfl (pi_list (pe_lst (pa_cons pe_bl (pa_cons pe_str (pa_cons (pe_tupX (pa_cons pe_int pa_nil)) (pa_cons (pe_lst (pa_cons pe_int pa_nil)) (pa_cons pe_str (pa_cons pe_bl pa_nil)))))))) (pg_name (i := 4) sc_Lodd_acts.nd rfl (Or.inl rfl) (Or.inr rfl)) (pss_one (ps_expr (pe_bm PySem.F.plainAttrs_list PySem.F.slot_list_append PySem.F.type_list_append mt_append (pv 3) (pa_cons (pe_op op_catA (pe_op op_catA (pe_slice sl_tupA (pv 1) po_none (po_some (pv 2))) (pe_tupX (pa_cons (pv 4) pa_nil))) (pe_slice sl_tupA (pv 1) (po_some (pe_op op_add (pv 2) pe_int)) po_none)) pa_nil))))) (pss_cons (ps_expr (pe_bm PySem.F.plainAttrs_list PySem.F.slot_list_extend PySem.F.type_list_extend mt_extend (pv 3) (pa_cons (pe_lst (pa_cons (pe_op op_catA (pe_tupX (pa_cons pe_non pa_nil)) (pe_slice sl_tupA (pv 1) (po_some pe_int) po_none)) (pa_cons (pe_op op_catA (pe_tupX (pa_cons (pe_upper (pe_ix ix_tup (pv 1) pe_int (fun _ _ => rfl))) pa_nil)) (pe_slice sl_tupA (pv 1) (po_some pe_int) po_none)) (pa_cons (pe_op op_catA (pe_tupX (pa_cons pe_str pa_nil)) (pe_slice sl_tupA (pv 1) (po_some pe_int) po_none)) (pa_cons (pe_op op_catA (pe_tupX (pa_cons pe_int pa_nil)) (pe_slice sl_tupA (pv 1) (po_some pe_int) po_none)) pa_nil))))) pa_nil))) (pss_cons (ps_if ((pw_or (pt_cmpR op_ne (pe_ix ix_tup (pv 1) pe_int (fun _ _ => rfl)) pe_str (nomark _)) (pw_or1 (pt_cmpR op_eq (pv 2) pe_int (nomark _))))).pt (pss_one (ps_expr (pe_bm PySem.F.plainAttrs_list PySem.F.slot_list_append PySem.F.type_list_append mt_append (pv 3) (pa_cons (pe_op op_catA (pe_op op_catA (pe_slice sl_tupA (pv 1) po_none (po_some (pv 2))) (pe_tupX (pa_cons pe_non pa_nil))) (pe_slice sl_tupA (pv 1) (po_some (pe_op op_add (pv 2) pe_int)) po_none)) pa_nil)))) pss_nil) (pss_one (ps_ret (pv 3)))))))), ?_⟩
    have hz := dd_size g.is
    have sz := size_ok hz
    have dl := dV_len dd
    refine q_asgR (op_raw (ev_raw ev_c fun H1 e1 => dr (n := dd.2.length) (ea_cons (ev_var rfl) (ea_cons (ev_is (ev_op (ev_cb (ea_cons (ev_var rfl) ea_nil) (rc_lenT (ex_t e1 hu))) ev_c rv_I0) (by rw [dl]; exact congrArg V.int (by omega))) ea_nil)) (hp.ex e1) (by omega) (by omega) fun H2 jj x2 p2 hj => ⟨1, ((jj : Nat) : Int), rfl, rfl, ?_⟩))
    have eat : V.int (1 + ((jj : Nat) : Int)) = nV (jj + 1) := congrArg V.int (by omega)
    show tSeq _ _ _ [some (.ref a), some (.ref u), some (.int (1 + ((jj : Nat) : Int))), none, none] H2
    rw [eat]
    have X2 : ExB a H H2 := (ExB.of e1).trans x2
    have hu2 : SqT K H2 u (dV dd) := by
      have hne : ∀ {o : HO}, H u = some o → (∀ ys, o ≠ .lst ys) → u ≠ a := fun {o} h n z => by
        obtain ⟨x, y, hx, _⟩ := hp
        rw [z, hx] at h
        exact n _ (Option.some.inj h).symm
      rcases hu with (h | ⟨ob, h⟩) | h
      · exact .inl (.inl (X2 _ _ (hne h fun _ z => nomatch z) h))
      · exact .inl (.inr ⟨ob, X2 _ _ (hne h fun _ z => nomatch z) h⟩)
      · exact .inr h
    have hB := hol_t hu2 p2
    -- what stands at both ends
    have sto : ∀ {B : Hp} {y3 y4 : Option V}, EvO (tPart (tVar 2)) [some (.ref a), some (.ref u), some (nV (jj + 1)), y3, y4] B (some ((jj + 1 : Nat) : Int)) := fun {B y3 y4} => eo_some (ev_var rfl)
    have sfr : ∀ {B : Hp} {y3 y4 : Option V}, EvO (tPart (tOp (rI0 fun i j => .int (i + j)) (tVar 2) (tC (.int 1)))) [some (.ref a), some (.ref u), some (nV (jj + 1)), y3, y4] B (some ((jj + 2 : Nat) : Int)) := fun {B y3 y4} => eo_some (ev_is (ev_op (ev_var rfl) ev_c rv_I0) (congrArg V.int (by omega)))
    have et0 : cutV (dV dd) none (some ((jj + 1 : Nat) : Int)) = .str dd.1 :: (dd.2.map oV).take jj := by
      rw [cutV_to (by omega)]
      rfl
    have ef0 : cutV (dV dd) (some ((jj + 2 : Nat) : Int)) none = (dd.2.map oV).drop (jj + 1) := by
      rw [cutV_from (by omega)]
      rfl
    have tail0 : cutV (dV dd) (some (1 : Int)) none = dd.2.map oV := by
      rw [show (1 : Int) = ((1 : Nat) : Int) from rfl, cutV_from (by omega)]
      rfl
    have ml : (dd.2.map oV).length = dd.2.length := List.length_map _
    have mne : dd.2.map oV ≠ [] := fun z => by
      rw [z] at ml
      have : 0 = dd.2.length := ml
      omega
    have mm : ∀ {G : Hp}, ∀ x ∈ dd.2.map oV, Mem K G x := fun {G} x hx => dv_mem g x (List.mem_cons_of_mem _ hx)
    have mw : ∀ {G : Hp}, Mem K G (.str dd.1) := fun {G} => dv_mem g _ List.mem_cons_self
    -- a member exchanged
    have exch : ∀ {B : Hp} {tv : TE} {vv : V} {y3 y4 : Option V}, SqT K B u (dV dd) → (Ev tv [some (.ref a), some (.ref u), some (nV (jj + 1)), y3, y4] B vv) → Mem K B vv → isI vv = false → (vv ≠ .non ∨ dd.1 ≠ "limit" ∨ jj = 0) → EvF (Odd K) (tOp (rCatA K) (tOp (rCatA K) (tSl (rSlA K) (tVar 1) tNoPart (tPart (tVar 2))) (tTupX (tCons tv tNil))) (tSl (rSlA K) (tVar 1) (tPart (tOp (rI0 fun i j => .int (i + j)) (tVar 2) (tC (.int 1)))) tNoPart)) [some (.ref a), some (.ref u), some (nV (jj + 1)), y3, y4] B := fun {B tv vv y3 y4} hB hv mv hi hn => by
      have t1 := tf_cat (tq_sl (u := u) (i := 1) rfl hB eo_none (sto (y3 := y3) (y4 := y4))) (tf_one hv).q (by rw [et0]; exact List.cons_ne_nil _ _) (List.cons_ne_nil _ _) (by rw [et0, List.length_cons, List.length_take, List.length_singleton]; omega)
      have t2 := tf_cat2 t1 (tq_sl (u := u) (i := 1) rfl hB (sfr (y3 := y3) (y4 := y4)) eo_none) (by rw [et0]; exact List.cons_ne_nil _ _) (by rw [et0, ef0, List.length_append, List.length_cons, List.length_take, List.length_drop, List.length_singleton]; omega)
      refine f_tup (K := K) t2 fun G r bG hr => ?_
      rw [et0, ef0] at hr
      refine odd_tup hr (fun x hx => ?_) (by rw [List.length_append, List.length_append, List.length_cons, List.length_take, List.length_drop, List.length_singleton, ml]; omega) ?_
      · rcases List.mem_append.mp hx with hx | hx
        · rcases List.mem_append.mp hx with hx | hx
          · rcases List.mem_cons.mp hx with rfl | hx
            · exact mw
            · exact mm x (List.mem_of_mem_take hx)
          · rw [List.mem_singleton.mp hx]
            exact mv.ex bG
        · exact mm x (List.mem_of_mem_drop hx)
      · exact ddB_part hz ml hi hj hn
    -- another first member
    have headX : ∀ {B : Hp} {tv : TE} {vv : V} {y3 y4 : Option V}, SqT K B u (dV dd) → (Ev tv [some (.ref a), some (.ref u), some (nV (jj + 1)), y3, y4] B vv) → Mem K B vv → ddB (vv :: dd.2.map oV) = false → EvF (Odd K) (tOp (rCatA K) (tTupX (tCons tv tNil)) (tSl (rSlA K) (tVar 1) (tPart (tC (.int 1))) tNoPart)) [some (.ref a), some (.ref u), some (nV (jj + 1)), y3, y4] B := fun {B tv vv y3 y4} hB hv mv hn => by
      have t1 := tf_cat (tf_one hv).q (tq_sl (u := u) (i := 1) rfl hB (eo_some (i := 1) ev_c) eo_none) (List.cons_ne_nil _ _) (by rw [tail0]; exact mne) (by rw [tail0, ml, List.length_singleton]; omega)
      refine f_tup (K := K) t1 fun G r bG hr => ?_
      rw [tail0] at hr
      refine odd_tup hr (fun x hx => ?_) (by rw [List.length_append, ml, List.length_singleton]; omega) hn
      rcases List.mem_append.mp hx with hx | hx
      · rw [List.mem_singleton.mp hx]
        exact mv.ex bG
      · exact mm x hx
    have first : EvFA (Odd K) 13 _ [some (.ref a), some (.ref u), some (nV (jj + 1)), none, none] (hol a H2) :=
      fa_cons Odd.ex (f_ev (v := .non) ev_c fun G _ => odd_at .non (by decide) .non (smT_b (by decide +kernel)))
      (fa_cons Odd.ex (f_ev (v := .int 0) ev_c fun G _ => odd_at (.int 0) (by decide) (.int 0) (smT_b (by decide +kernel)))
      (fa_cons Odd.ex (f_ev (v := .str "") ev_c fun G _ => odd_at (.str _) (by decide) (.str _) (smT_b (by decide +kernel)))
      (fa_cons Odd.ex (f_ev (v := .str dd.1) (ev_op (ev_var (i := 1) rfl) ev_c (rv_ixT hB (atI_nat (j := 0) rfl))) fun G _ => odd_at (.str _) (by decide) (.str _) ((size_sm hz).mono (by omega) (by omega)))
      (fa_cons Odd.ex (f_ev (te := tCall (sp_Lspelled K) [] E0 (tCons (tVar 1) tNil)) (v := .str (lineD dd)) (ev_call (ea_cons (ev_var rfl) ea_nil) fun H5 e5 Q5 q5 E5 => ⟨.ref u, dd, rfl, ⟨u, rfl, ex_t e5 hB⟩, g, q5⟩) fun G _ => odd_at (.str _) (by decide) (.str _) ((line_sm g).mono (by omega) (by omega)))
      (fa_cons Odd.ex (f_lst (K := K) (te := tCB (rListS K) (tCons (tVar 1) tNil)) (xs := dV dd) (fun H5 e5 Q5 q5 => cb1_raw (ev_raw (ev_var (i := 1) (v := .ref u) rfl) fun H6 e6 => ⟨u, dV dd, rfl, .inr (ex_t (e5.trans e6) hB), fun l hl => q5 l _ (fresh_back e6 hl) (e6.trans (Ex.new hl)) upd_same⟩)) fun G r _ hr => odd_lst hr (dv_mem g) (by omega))
      (fa_cons Odd.ex (f_tup (K := K) (tf_sl (u := u) (i := 1) rfl hB eo_none (eo_some (ev_un ev_c ru_neg)) (fun z => by
        have := z.2
        rw [cutV_last (by omega)] at this
        omega)) fun G r _ hr => odd_tup hr (fun x hx => dv_mem g x (List.mem_of_mem_drop (List.mem_of_mem_take hx))) (by have := cutV_length (dV dd) none (some (-1 : Int)); omega) (by
          unfold cutV
          rw [cutV_last (by omega), HT.sIx_none, List.drop_zero, dl]
          show ddB ((V.str dd.1 :: dd.2.map oV).take (dd.2.length + 1 - 1 - 0)) = false
          obtain ⟨m, hm⟩ : ∃ m, dd.2.length = m + 1 := ⟨dd.2.length - 1, by omega⟩
          rw [hm, show m + 1 + 1 - 1 - 0 = m + 1 by omega, List.take_succ_cons]
          exact ddB_len hz (by rw [List.length_take, ml]; omega)))
      (fa_cons Odd.ex (f_tup (K := K) (tf_cat (tq_var (u := u) (i := 1) rfl hB) (tf_one (v := .int 0) ev_c).q (List.cons_ne_nil _ _) (List.cons_ne_nil _ _) (by rw [dl, List.length_singleton]; omega)) fun G r _ hr => odd_tup hr (fun x hx => by
          rcases List.mem_append.mp hx with hx | hx
          · exact dv_mem g x hx
          · rw [List.mem_singleton.mp hx]
            exact ⟨_, .int 0, smT_b (by decide +kernel)⟩) (by rw [List.length_append, dl, List.length_singleton]; omega) (show ddB (V.str dd.1 :: (dd.2.map oV ++ [.int 0])) = false from ddB_len hz (by rw [List.length_append, ml, List.length_singleton]; omega)))
      (fa_cons Odd.ex (f_tup (K := K) tf_nil fun G r _ hr => odd_tup hr (fun x hx => absurd hx List.not_mem_nil) (by show 0 ≤ 8; omega) rfl)
      (fa_cons Odd.ex (f_tup (K := K) (tf_one (v := .ref u) (ev_var (i := 1) rfl)) fun G r bG hr => odd_tup hr (fun x hx => by
          rw [List.mem_singleton.mp hx]
          exact mem_tup (ex_t bG hB) (dv_at g) (by omega)) (by show 1 ≤ 8; omega) rfl)
      (fa_cons Odd.ex (f_lst (K := K) (xs := [.ref u]) (el_lst (ea_cons (ev_var (i := 1) rfl) ea_nil) (by show 1 ≤ 100000; omega)) fun G r bG hr => odd_lst hr (fun x hx => by
          rw [List.mem_singleton.mp hx]
          exact mem_tup (ex_t bG hB) (dv_at g) (by omega)) (by show 1 ≤ 8; omega))
      (fa_cons Odd.ex (f_dct fun G r bG hr => odd_at (.dK hr) (by decide) (.dct (kvs := []) (ds := []) hr .nil) (smT_b (by decide +kernel)))
      (fa_cons Odd.ex (f_tup (K := K) (tf_sl (u := u) (i := 1) rfl hB (eo_some (i := 1) ev_c) eo_none (fun z => by
        have := z.1
        rw [show (1 : Int) = ((1 : Nat) : Int) from rfl, HT.sIx_nat] at this
        omega)) fun G r _ hr => by
          rw [tail0] at hr
          refine odd_tup hr mm (by omega) ?_
          cases e : dd.2 with
          | nil => rfl
          | cons po r' => cases po <;> rfl)
      fa_nil))))))))))))
    refine q_asgR (lst_raw (first (hol a H2) H2 (Ex.refl _) hol_ex _ fun vs G3 H3 g3 gh3 e3 nw pvs ln => ⟨sz_of (by omega), fun p hp3 => ?_⟩))
    have p3 := p2.ex e3
    have npa : p ≠ a := by
      obtain ⟨x, y, hx, _⟩ := p3
      exact (ne_of_none hx hp3).symm
    have f4 : Fp K a p G3 (upd H3 p (.lst vs)) vs := ⟨gh3.trans (Ex.new hp3), fresh_back gh3 hp3, nw a (fun z => by
      obtain ⟨x, y, hx, _⟩ := p2
      rw [hx] at z
      cases z) hol_self, upd_same, pvs, p3.ex (Ex.new hp3)⟩
    have X4 : ExB a H (upd H3 p (.lst vs)) := X2.trans (ExB.of (e3.trans (Ex.new hp3)))
    have hp0 : H p = none := by
      cases e : H p with
      | none => rfl
      | some o =>
        have := e3 _ _ (X2 _ _ npa e)
        rw [hp3] at this
        cases this
    generalize upd H3 p (.lst vs) = H4 at f4 X4
    show tSeq _ _ _ [some (.ref a), some (.ref u), some (nV (jj + 1)), some (.ref p), none] H4
    have parts : EvFA (Prt K) 6 _ [some (.ref a), some (.ref u), some (nV (jj + 1)), some (.ref p), none] G3 :=
      fa_cons Prt.ex (f_ev (v := .bl true) ev_c fun G _ => ⟨⟨_, .bl true, smT_b (by decide +kernel)⟩, rfl, fun z => nomatch z⟩)
      (fa_cons Prt.ex (f_ev (v := .str "0") ev_c fun G _ => ⟨⟨_, .str _, smT_b (by decide +kernel)⟩, rfl, fun z => nomatch z⟩)
      (fa_cons Prt.ex (f_tup (K := K) (tf_one (v := .int 0) ev_c) fun G r _ hr => ⟨⟨_, .tup hr (.cons (.int 0) .nil), smT_b (by decide +kernel)⟩, rfl, fun z => nomatch z⟩)
      (fa_cons Prt.ex (f_lst (K := K) (xs := [.int 1]) (el_lst (ea_cons ev_c ea_nil) (by show 1 ≤ 100000; omega)) fun G r _ hr => ⟨⟨_, .lst hr (.cons (.int 1) .nil), smT_b (by decide +kernel)⟩, rfl, fun z => nomatch z⟩)
      (fa_cons Prt.ex (f_ev (v := .str "none") ev_c fun G _ => ⟨⟨_, .str _, smT_b (by decide +kernel)⟩, rfl, fun z => nomatch z⟩)
      (fa_cons Prt.ex (f_ev (v := .bl false) ev_c fun G _ => ⟨⟨_, .bl false, smT_b (by decide +kernel)⟩, rfl, fun z => nomatch z⟩)
      fa_nil)))))
    refine q_forRaw (lst_raw (parts G3 H4 (Ex.refl _) f4.g _ fun ps G5 H5 g5 gh5 e5 nw5 pps lp => ⟨sz_of (by omega), fun pl hpl => ⟨pl, rfl, ⟨ps, sq_of upd_same⟩, ?_⟩⟩))
    have hp4 : H4 p ≠ none := fun z => by rw [f4.h] at z; cases z
    have ha4 : H4 a ≠ none := fun z => by
      obtain ⟨x, y, hx, _⟩ := f4.pot
      rw [hx] at z
      cases z
    have npl : pl ≠ p := fun z => by
      rw [z, e5 _ _ f4.h] at hpl
      cases hpl
    have e6 : Ex H5 (upd H5 pl (.lst ps)) := Ex.new hpl
    have h6 : (upd H5 pl (.lst ps)) pl = some (.lst ps) := upd_same
    have f6 : Fp K a p G5 (upd H5 pl (.lst ps)) vs := ⟨gh5.trans e6, nw5 p hp4 f4.np, nw5 a ha4 f4.na, e6 _ _ (e5 _ _ f4.h), fun x hx => (f4.o x hx).ex g5, (f4.pot.ex e5).ex e6⟩
    have X6 : ExB a H (upd H5 pl (.lst ps)) := X4.trans (ExB.of (e5.trans e6))
    generalize upd H5 pl (.lst ps) = H6 at e6 h6 f6 X6
    have B5 : Ex (hol a H2) G5 := g3.trans g5
    refine forRaw (xs := ps) (fun i σ' H' => ∃ G xs x4, σ' = [some (.ref a), some (.ref u), some (nV (jj + 1)), some (.ref p), x4] ∧ Fp K a p G H' xs ∧ Ex G5 G ∧ ExB a H H' ∧ H' pl = some (.lst ps) ∧ xs.length = 13 + i) ⟨G5, vs, none, rfl, f6, Ex.refl _, X6, h6, by omega⟩ (fun i σ' H' _ zz => ?_) (fun i x σ' H' hi zz => ?_) (fun σ' H' zz => ?_)
    · obtain ⟨_, _, _, _, _, _, _, h, _⟩ := zz
      exact sq_of h
    · obtain ⟨G, xs, x4, rfl, fG, gG, xG, hpl', lx⟩ := zz
      have il : i < 6 := by
        have := (List.getElem?_eq_some_iff.mp hi).1
        omega
      have px := (pps x (List.mem_of_getElem? hi)).ex gG
      show tDrop _ _ [some (.ref a), some (.ref u), some (nV (jj + 1)), some (.ref p), some x] H'
      refine s_appF fG rfl (exch (ex_t (B5.trans gG) hB) (ev_var rfl) px.1 px.2.1 (.inl px.2.2)) (by omega) (by omega) fun G' H'' v f' g' x' => ⟨G', xs ++ [v], some x, rfl, f', gG.trans g', fun b o nb hb => ?_, x' _ _ npl hpl', by rw [List.length_append, List.length_singleton]; omega⟩
      by_cases hbp : b = p
      · rw [hbp, hp0] at hb
        cases hb
      · exact x' _ _ hbp (xG _ _ nb hb)
    · obtain ⟨G, xs, x4, rfl, fG, gG, xG, hpl', lx⟩ := zz
      rw [lp] at lx
      have hG := ex_t (B5.trans gG) hB
      have up := upper_ok hz
      have stepX : ∀ {Ha Hb : Hp}, ExB a H Ha → ExB p Ha Hb → ExB a H Hb := fun {Ha Hb} x1 x2 b o nb hb => by
        by_cases hbp : b = p
        · rw [hbp, hp0] at hb
          cases hb
        · exact x2 _ _ hbp (x1 _ _ nb hb)
      refine q_extF (n := 4) fG rfl (fa_cons Odd.ex (headX hG (vv := .non) ev_c ⟨_, .non, smT_b (by decide +kernel)⟩ rfl) (fa_cons Odd.ex (headX hG (vv := .str (Txt.upper dd.1)) (ev_upper (ev_op (ev_var rfl) ev_c (rv_ixT hG (atI_nat (j := 0) rfl))) (by omega)) ⟨_, .str _, up.2.mono (by omega) (by omega)⟩ (ddB_word up.1)) (fa_cons Odd.ex (headX hG (vv := .str "undo") ev_c ⟨_, .str _, smT_b (by decide +kernel)⟩ (ddB_word (by decide +kernel))) (fa_cons Odd.ex (headX hG (vv := .int 0) ev_c ⟨_, .int 0, smT_b (by decide +kernel)⟩ rfl) fa_nil)))) (by omega) (by omega) (by omega) fun G7 H7 vs7 l7 f7 g7 x7 => ?_
      have X7 := stepX xG x7
      have fin : ∀ {G8 H8 : Hp} {ys : List V}, Fp K a p G8 H8 ys → ExB a H H8 → ys.length ≤ 40 → tRet (tVar 3) ⟨fun _ _ => False, fun v H' => Q v H', fun _ _ => False, fun _ _ => False⟩ [some (.ref a), some (.ref u), some (nV (jj + 1)), some (.ref p), x4] H8 := fun {G8 H8 ys} f8 x8 l8 => s_ret (ev_var (v := .ref p) rfl) fun H9 e9 => q H9 p ys G8 (x8.trans (ExB.of e9)) (f8.pot.ex e9) hp0 (e9 _ _ f8.h) (f8.g.trans e9) f8.na f8.o (by omega)
      have tst : EvT (tOr (tTest (tOp rNe (tOp (rIxT K) (tVar 1) (tC (.int 0))) (tC (.str "limit")))) (tTest (tOp rEq (tVar 2) (tC (.int 1))))) [some (.ref a), some (.ref u), some (nV (jj + 1)), some (.ref p), x4] H7 (!decide (V.str dd.1 = V.str "limit") || decide (nV (jj + 1) = .int 1)) := et_or (et_test (ev_op (ev_op (ev_var rfl) ev_c (rv_ixT (ex_t (f7.g) (ex_t g7 hG)) (atI_nat (j := 0) rfl))) ev_c (rv_ne rfl))) fun _ => et_test (ev_op (ev_var rfl) ev_c (rv_eq rfl))
      refine q_when tst (fun hb H8 e8 => ?_) fun hb H8 e8 => ?_
      · have f8 : Fp K a p G7 H8 (xs ++ vs7) := ⟨f7.g.trans e8, f7.np, f7.na, e8 _ _ f7.h, f7.o, f7.pot.ex e8⟩
        refine s_appF f8 rfl (exch (ex_t g7 hG) (vv := .non) ev_c ⟨_, .non, smT_b (by decide +kernel)⟩ rfl (.inr ?_)) (by rw [List.length_append]; omega) (by rw [List.length_append]; omega) fun G9 H9 v9 f9 g9 x9 => fin f9 (stepX (X7.trans (ExB.of e8)) x9) (by rw [List.length_append, List.length_append, List.length_singleton]; omega)
        rw [Bool.or_eq_true] at hb
        rcases hb with hb | hb
        · rw [Bool.not_eq_true', decide_eq_false_iff_not] at hb
          exact .inl fun z => hb (by rw [z])
        · have := V.int.inj (of_decide_eq_true hb)
          exact .inr (by omega)
      · exact fin (⟨f7.g.trans e8, f7.np, f7.na, e8 _ _ f7.h, f7.o, f7.pot.ex e8⟩ : Fp K a p G7 H8 (xs ++ vs7)) (X7.trans (ExB.of e8)) (by rw [List.length_append]; omega)
end
end My
namespace My
open PySem PySem.Spec PyProof.Rows L2 GL Evl StX SkE
/-! ### what is told of lines and deeds -/
/-- all but the tables of code objects -/
def noT (H : Hp) : Hp := fun b => match H b with
  | some (.tbl _) => none
  | o => o
theorem noT_at {H : Hp} {b : Addr} {o : HO} (h : H b = some o) (n : ∀ ps, o ≠ .tbl ps) : noT H b = some o := by
  unfold noT
  rw [h]
  cases o <;> first | rfl | exact absurd rfl (n _)
theorem noT_is {H : Hp} {b : Addr} {o : HO} (h : noT H b = some o) : H b = some o ∧ ∀ ps, o ≠ .tbl ps := by
  unfold noT at h
  split at h
  · cases h
  · rename_i q
    exact ⟨h, fun ps z => q ps (by rw [h, z])⟩
theorem noT_ext {H H' : Hp} (e : LamX.ExtN H H') : Ex (noT H) (noT H') := fun b o h => by
  obtain ⟨h1, h2⟩ := noT_is h
  exact noT_at (e b o h1 h2) h2
theorem noT_mono {H H' : Hp} (e : Ex H H') : Ex (noT H) (noT H') := noT_ext fun b o h _ => e b o h
theorem noT_sub {H : Hp} : Ex (noT H) H := fun b o h => (noT_is h).1
theorem noT_to {H H' : Hp} (e : LamX.ExtN H H') : Ex (noT H) H' := fun b o h => by
  obtain ⟨h1, h2⟩ := noT_is h
  exact e b o h1 h2
theorem noT_both {A B : Hp} (e : Ex (noT A) B) : Ex (noT A) (noT B) := fun b o hb => noT_at (e b o hb) (noT_is hb).2
theorem noT_step {H H1 H2 : Hp} (e : Ex (noT H) H1) (n : LamX.ExtN H1 H2) : Ex (noT H) H2 := fun b o hb => n b o (e b o hb) (noT_is hb).2
section
variable {K : PySem.W.Frag} {mg : Str → Option Value} {w : World} {T : Txt K mg w} {H H' : Hp}
theorem tabs_but {r : Addr} {xs : List V} (tb : LamX.Tabs T.tabs H) (hr : H r = some (.lst xs)) (e : ∀ b o, b ≠ r → H b = some o → H' b = some o) : LamX.Tabs T.tabs H' := fun q hq => by
  obtain ⟨qs, h1, h2, h3⟩ := tb q hq
  have nt : ∀ {b : Addr} {o : HO}, H b = some o → (∀ ys, o ≠ .lst ys) → b ≠ r := fun {b o} hb n z => by
    rw [z, hr] at hb
    exact n xs (Option.some.inj hb).symm
  refine ⟨qs, e _ _ (nt h1 fun _ z => nomatch z) h1, h2, fun pos cv hc => ?_⟩
  obtain ⟨c, e1, e2⟩ := h3 pos cv hc
  refine ⟨c, e1, e _ _ (nt e2 fun ys z => ?_) e2⟩
  unfold LamX.CodeO at z
  cases z
end
theorem takes_never {X : Cx} : Takes X (fun _ _ _ _ => False) := fun _ _ ⟨_, _, _, _, _, _, _, _, _, _, _, _, _, _, _, _, w⟩ => w.elim
theorem noT_fresh {H : Hp} {q : Addr} {H2 : Hp} (n : LamX.ExtN H H2) (h : H2 q = none) : noT H q = none := by
  cases z : noT H q with
  | none => rfl
  | some o =>
    obtain ⟨h1, h2⟩ := noT_is z
    rw [n _ _ h1 h2] at h
    cases h
theorem ev_isY {K : PySem.W.Frag} {cls : Value} {d : Option Addr} {z D : Addr} {c : V} {u : Value} {σ : L2.St} {H : Hp} {i : Nat} (h : σ[i]? = some (some (.ref z))) (hc : cls = .ref D) (T : GX.ErrC K D) (cu : ClsV c u) (k : PySem.W.kitOne K (.ref D) u = some true) (hd : d = none ∨ ∃ dd fs, d = some dd ∧ H dd = some (.xd fs)) :
    Ev (tCB (rIsY K cls d z) (tCons (tVar i) (tCons (tC c) tNil))) σ H (.bl true) :=
  ev_cb (ea_cons (ev_var h) (ea_cons ev_c ea_nil)) fun H1 e Q q => ⟨D, c, u, true, hc, T, rfl, cu, k, hd.imp id (fun ⟨dd, fs, a, b⟩ => ⟨dd, fs, a, e _ _ b⟩), q H1 (Ex.refl H1)⟩
theorem ev_by {te : TE} {σ : L2.St} {H : Hp} {v : V} {f : Str} {b d : Addr} {cE : Addr} (h : Ev te σ H (.ref b)) (hd : H d = some (.xd [(f, v)])) : Ev (tBy cE f b (.ref cE) (some d) te) σ H v := fun H1 e Q q => h H1 e _ fun H2 e2 => ⟨rfl, rfl, d, v, rfl, (e.trans e2) _ _ hd, q H2 e2⟩
def dD (d : Dd) : PyData := .tuple (.str d.1 :: d.2.map fun p => match p with | none => .none | some i => .int i)
def textAn : List V := [.str "text", .str "1", .bl true]
def toldAn (t : Str) : List V := [.str "told", .str t]
def oddAn (t : Str) : List V := [.str "deed", .str t, .bl true]
def readAn (x : Str) : List V := match readL (ws x) with
  | none => textAn
  | some d => toldAn (dD d).shown
/-- what an error is told as -/
def Told {K : PySem.W.Frag} {mg : Str → Option Value} {w : World} (T : Txt K mg w) (Q : VK) : XK := fun cls d H =>
  (cls = .ref T.C_InvalidDeed ∧ ∃ dd v D, d = some dd ∧ H dd = some (.xd [("value", v)]) ∧ Dx K H v D ∧ SmX D 60 100000 ∧ RetL (oddAn D.shown) H Q) ∨ (cls = .ref T.C_InvalidText ∧ ∃ dd, d = some dd ∧ H dd = some (.xd [("line", .int 1)]) ∧ RetL textAn H Q)
/-- what is made of what a reading gives -/
def Madek (K : PySem.W.Frag) (Q : VK) : VK := fun v H1 => rReprX K [v] H1 fun b H2 => [V.str "told", b].length ≤ sizeLine ∧ ∀ p, H2 p = none → Q (.ref p) (upd H2 p (.lst [.str "told", b]))
/-- what is told of a lambda's reading -/
def Heard {K : PySem.W.Frag} {mg : Str → Option Value} {w : World} (T : Txt K mg w) : (XK → Hp → VK → Prop) → Hp → VK → Prop := fun tl H Q => tl (Told T Q) H (Madek K Q)
theorem rc_reprX {K : PySem.W.Frag} {H : Hp} {v : V} {d : PyData} {k B : Nat} (h : Dx K H v d) (s : SmX d k B) (hk : k ≤ 60) (hB : B ≤ 100000) : RC (rReprX K) [v] H (.str d.shown) := fun H1 e Q q => ⟨v, d, rfl, h.ex e, s.sh, Nat.le_trans s.de hk, sz_of (Nat.le_trans s.ln hB), q H1 (Ex.refl H1)⟩
theorem one_shown : (PyData.int 1).shown = "1" := by decide +kernel
theorem heard_gives {X : Cx} {q : Str} {K : PySem.W.Frag} {mg : Str → Option Value} {w : World} (T : Txt K mg w) (hK : X.K = K) (hm : X.mg = mg) {k : Nat} : GivesG X N_Lheard "_law_heard" (defScope s_Lheard) T.f_Lheard (defBody s_Lheard) "_law_ask" q (k + 1) (Heard T) := by
  subst hK hm
  intro cd f c s H Q tl gd hr act hc h
  refine ⟨_, (pss_one (ps_try_any rfl rfl takes_never (fun W pn xe tkW po => (pss_one (show PS _ _ (fun D σ H => ∃ Ech : XK, (∀ cls d (σ1 : L2.St) H1, σ1.length = N_Lheard.length → Ech cls d H1 → W cls d σ1 H1) ∧ tRet (tLst (tCons (tC (.str "told")) (tCons (tCB (rReprX X.K) (tCons (fun σZ HZ QZ => σZ[0]? = some (some (.ref f)) ∧ HZ c = some (LamX.CodeO c q) ∧ tl Ech HZ QZ) tNil)) tNil))) D σ H) from ⟨fun pins s1 σ1 H1 D1 I1 ⟨Ech, hW, q1⟩ => (ps_ret (pe_lst (pa_cons pe_str (pa_cons (pe_callB (X := (cxOf CX0 X.prog X.w X.K X.mg X.base N_Lheard "_law_heard" (defScope s_Lheard) T.f_Lheard cd X.A X.stack s H E0).nox.tr pn xe) (call_reprX gd (roomU hr)) (by rfl) T.z_repr boot_repr (pa_cons (act W pn xe Ech _ _ tkW hW) pa_nil)) pa_nil)))).run pins s1 σ1 H1 D1 I1 q1⟩))) (.named (i := 1) ⟨by rfl, by decide, .inl T.m_InvalidDeed⟩ sc_Lheard.nd rfl rfl (fun a oe cls d pn hz hf => (pss_one (ps_ret (pe_lst (pa_cons pe_str (pa_cons (pe_callB (show CallR _ (.builtin "repr") (rReprX X.K) from (call_reprX (X := L2.Cx.suite (cxOf CX0 X.prog X.w X.K X.mg X.base N_Lheard "_law_heard" (defScope s_Lheard) T.f_Lheard cd X.A X.stack s H E0).nox a ((a, oe) :: pn)) (by exact gd) (by have zz := roomU hr; exact zz))) (by rfl) T.z_repr boot_repr (pa_cons (pe_by T.X_InvalidDeed.toErrT T.X_InvalidDeed.no hz hf (pv 1)) pa_nil)) (pa_cons (pe_callB (call_isY hz hf) (by rfl) T.z_isinstance boot_isinstance (pa_cons (pv 1) (pa_cons (pe_glob (v := .ref T.C_WayError) (by rfl) T.m_WayError rfl) pa_nil))) pa_nil))))))) (.named (i := 1) ⟨by rfl, by decide, .inl T.m_InvalidText⟩ sc_Lheard.nd rfl rfl (fun a oe cls d pn hz hf => (pss_one (ps_ret (pe_lst (pa_cons pe_str (pa_cons (pe_callB (show CallR _ (.builtin "repr") (rReprX X.K) from (call_reprX (X := L2.Cx.suite (cxOf CX0 X.prog X.w X.K X.mg X.base N_Lheard "_law_heard" (defScope s_Lheard) T.f_Lheard cd X.A X.stack s H E0).nox a ((a, oe) :: pn)) (by exact gd) (by have zz := roomU hr; exact zz))) (by rfl) T.z_repr boot_repr (pa_cons (pe_by T.X_InvalidText.toErrT T.X_InvalidText.no hz hf (pv 1)) pa_nil)) (pa_cons (pe_callB (call_isY hz hf) (by rfl) T.z_isinstance boot_isinstance (pa_cons (pv 1) (pa_cons (pe_glob (v := .ref T.C_WayError) (by rfl) T.m_WayError rfl) pa_nil))) pa_nil))))))) .nil)))), ?_⟩
  refine ⟨Told T Q, fun cls d σ1 H1 hl z => ?_, ?_⟩
  · obtain ⟨u0, u1, rfl⟩ : ∃ u0 u1, σ1 = [u0, u1] := by
      match σ1, hl with
      | [u0, u1], _ => exact ⟨u0, u1, rfl⟩
    rcases z with ⟨rfl, dd, v, Dt, rfl, hd, hdx, sm, q⟩ | ⟨rfl, dd, rfl, hd, q⟩
    · refine ⟨true, T.q_InvalidDeed_InvalidDeed, fun _ z hz => ?_, fun z => nomatch z⟩
      dsimp only
      exact s_retL (el_lst (ea_cons ev_c (ea_cons (ev_cb (ea_cons (ev_by (ev_var rfl) hd) ea_nil) (rc_reprX hdx sm (Nat.le_refl _) (Nat.le_refl _))) (ea_cons (ev_isY rfl rfl T.ec_InvalidDeed (.own _) T.ib_InvalidDeed (.inr ⟨dd, _, rfl, hd⟩)) ea_nil))) (by show 3 ≤ 100000; omega)) fun p H2 hp e2 h2 => q p H2 hp e2 h2
    · refine ⟨false, T.q_InvalidText_InvalidDeed, (fun z => nomatch z), fun _ => ⟨true, T.q_InvalidText_InvalidText, fun _ z hz => ?_, fun z => nomatch z⟩⟩
      dsimp only
      exact s_retL (el_lst (ea_cons ev_c (ea_cons (ev_is (ev_cb (ea_cons (ev_by (ev_var rfl) hd) ea_nil) (rc_reprX (.int 1) (d := .int 1) (k := 0) (B := 10) (smX_b (by decide +kernel)) (by omega) (by omega))) (congrArg V.str one_shown)) (ea_cons (ev_isY rfl rfl T.ec_InvalidText (.own _) T.ib_InvalidText (.inr ⟨dd, _, rfl, hd⟩)) ea_nil))) (by show 3 ≤ 100000; omega)) fun p H2 hp e2 h2 => q p H2 hp e2 h2
  · exact ⟨rfl, hc, h⟩
theorem dx_dD {K : PySem.W.Frag} {H : Hp} {v : V} {d : Dd} (h : DdAt K H v d) : Dx K H v (dD d) := by
  obtain ⟨a, rfl, h⟩ := h
  have go : ∀ ps : List (Option Int), DxAll K H (ps.map oV) (ps.map fun p => match p with | none => .none | some i => .int i) := by
    intro ps
    induction ps with
    | nil => exact .nil
    | cons p ps ih => cases p with
      | none => exact .cons .non ih
      | some i => exact .cons (.int i) ih
  exact .tup h (.cons (.str _) (go d.2))
theorem sm_dD {d : Dd} {n : Nat} (h : isDd d = true) (hn : ∀ i, some i ∈ d.2 → i.natAbs < 10 ^ n) (l : n ≤ 500) : SmT (dD d) 1 2500 := by
  have sz := size_ok (dd_size h)
  have all : ∀ x ∈ (PyData.str d.1 :: d.2.map fun p => match p with | none => PyData.none | some i => .int i), SmT x 0 600 := fun x hx => by
    rcases List.mem_cons.mp hx with rfl | hx
    · exact (size_sm (dd_size h)).mono (Nat.le_refl 0) (by omega)
    · obtain ⟨p, hp, rfl⟩ := List.mem_map.mp hx
      cases p with
      | none => exact smT_b (by decide +kernel)
      | some i => exact (smT_intB (hn i hp) l).mono (Nat.le_refl 0) (by omega)
  refine (smT_tup all).mono (by omega) ?_
  rw [List.length_cons, List.length_map]
  have : (d.2.length + 1) * (600 + 2) ≤ 4 * 602 := Nat.mul_le_mul_right _ (by omega)
  omega
theorem mapM_mem {p : Option Int} : ∀ {ns : List Str} {ps : List (Option Int)}, ns.mapM partD = some ps → p ∈ ps → ∃ y ∈ ns, partD y = some p
  | [], ps, h, hp => by
    cases h
    exact absurd hp List.not_mem_nil
  | x :: ns, ps, h, hp => by
    rw [List.mapM_cons] at h
    cases e : partD x with
    | none => rw [e] at h; cases h
    | some p1 =>
      rw [e] at h
      cases e2 : ns.mapM partD with
      | none => rw [e2] at h; cases h
      | some qs =>
        rw [e2] at h
        cases h
        rcases List.mem_cons.mp hp with rfl | hp
        · exact ⟨x, List.mem_cons_self, e⟩
        · obtain ⟨y, hy, z⟩ := mapM_mem e2 hp
          exact ⟨y, List.mem_cons_of_mem _ hy, z⟩
theorem from_small {x : Str} {d : Dd} (h : fromL (ws x) = some d) (hl : x.length ≤ 500) : isDd d = true ∧ ∀ i, some i ∈ d.2 → i.natAbs < 10 ^ 500 := by
  cases e : ws x with
  | nil => exact absurd e (ws_ne x)
  | cons w0 ns =>
    rw [e, fromL_cons] at h
    cases hm : ns.mapM partD with
    | none => rw [hm] at h; cases h
    | some ps =>
      rw [hm] at h
      have h : (if isDd (w0, ps) = true then some (w0, ps) else none) = some d := h
      by_cases hd : isDd (w0, ps) = true
      · rw [if_pos hd] at h
        cases h
        refine ⟨hd, fun i hi => ?_⟩
        obtain ⟨y, hy, hp⟩ := mapM_mem hm hi
        have yl := (ws_len x).2 y (by rw [e]; exact List.mem_cons_of_mem _ hy)
        unfold partD intD at hp
        by_cases hn : y = "none"
        · rw [if_pos hn] at hp
          cases hp
        · rw [if_neg hn] at hp
          by_cases hnum : isNumL (TL.tl y) = true
          · rw [if_pos hnum] at hp
            have : valL (TL.tl y) = i := Option.some.inj (Option.some.inj hp)
            rw [← this]
            exact Nat.lt_of_lt_of_le (val_lt hnum) (Nat.pow_le_pow_right (by decide) (by omega))
          · rw [if_neg hnum] at hp
            cases hp
      · rw [if_neg hd] at h
        cases h
theorem partD_oT (p : Option Int) : partD (oT p) = some p := by
  cases p with
  | none =>
    unfold partD
    exact if_pos rfl
  | some i =>
    have ne : ¬ numZ i = "none" := fun z => by
      have h := numZ_is i
      rw [z] at h
      exact absurd h (by decide +kernel)
    show (if numZ i = "none" then some none else (intD (numZ i)).map some) = some (some i)
    rw [if_neg ne]
    unfold intD
    rw [if_pos (numZ_is i), numZ_val]
    rfl
theorem mapM_oT : ∀ ps : List (Option Int), (ps.map oT).mapM partD = some ps
  | [] => rfl
  | p :: ps => by
    rw [List.map_cons, List.mapM_cons, partD_oT, mapM_oT ps]
    rfl
theorem read_line {d : Dd} (g : GoodD d) : readL (ws (lineD d)) = some d := by
  rw [← read_eq, line_ws g, fromL_cons, mapM_oT]
  exact if_pos g.is
def NoS (K : PySem.W.Frag) (G : Hp) (v : V) : Prop := ∃ T, TyB K G v T ∧ isS v = false
theorem NoS.ex {K : PySem.W.Frag} {G G' : Hp} {v : V} (h : NoS K G v) (e : Ex G G') : NoS K G' v := by
  obtain ⟨T', h1, h2⟩ := h
  exact ⟨T', tyB_ex e h1, h2⟩
section
variable {P : Program} {w : World} {K : PySem.W.Frag} {mg : Str → Option Value} {base : Heap} {T : Txt K mg w} {H H' H0 H1 G : Hp} {σ : L2.St} {te tb ta tc : TE} {tA : TA} {t : XK → TE} {E Er : XK} {D : Ends} {tz tu : TS} {a b u p : Addr} {xs ys vs zs an : List V} {v x : V} {sp : Sp} {i : Nat} {d : Dd} {Dt : PyData} {y : Str} {kk B : Nat}
/-- one answer, at the heap of the body -/
def EvHB {K : PySem.W.Frag} {mg : Str → Option Value} {w : World} (T : Txt K mg w) (t : XK → TE) (σ : L2.St) (H : Hp) (an : List V) : Prop := ∀ H1, Ex H H1 → ∀ Q : VK, (∀ p H2, H1 p = none → Ex H1 H2 → H2 p = some (.lst an) → Q (.ref p) H2) → t (Told T Q) σ H1 (Madek K Q)
/-- one answer, in a list -/
def EvH {K : PySem.W.Frag} {mg : Str → Option Value} {w : World} (T : Txt K mg w) (te : TE) (σ : L2.St) (H : Hp) (an : List V) : Prop := ∀ H1, Ex (noT H) H1 → LamX.Tabs T.tabs H1 → ∀ Q : VK, (∀ p H2, noT H1 p = none → Ex (noT H1) H2 → LamX.Tabs T.tabs H2 → H2 p = some (.lst an) → Q (.ref p) H2) → te σ H1 Q
theorem eh_of (h : EvHB T t σ (noT H) an) : EvH T (tLamG T.tabs (Heard T) t) σ H an := fun H1 e tb Q q => ⟨tb, fun H2 n2 T2 => h H2 (noT_step e n2) Q fun p H3 hp e3 m => q p H3 (noT_fresh n2 hp) ((noT_to n2).trans e3) (T2.ext e3) m⟩
/-- one answer of a call -/
def SpB {K : PySem.W.Frag} {mg : Str → Option Value} {w : World} (T : Txt K mg w) (sp : Sp) (vs : List V) (H : Hp) (an : List V) : Prop := ∀ H1, Ex H H1 → ∀ Q : VK, (∀ p H2, H1 p = none → Ex H1 H2 → H2 p = some (.lst an) → Q (.ref p) H2) → sp vs H1 (Madek K Q) (Told T Q)
theorem eb_call (ha : EvA tA σ H vs) (k : SpB T sp vs H an) : EvHB T (fun E => tCall sp [] E tA) σ H an := fun H1 e Q q => ha H1 e _ fun H2 e2 => by
  rw [List.append_nil]
  exact k H2 (e.trans e2) Q fun p H3 hp e3 h3 => q p H3 (fresh_back e2 hp) (e2.trans e3) h3
theorem eb_callK {n : Nat} {gV : List V → List V → List V} (hG : gV [] zs = vs) (hn : zs.length = n) (ha : EvA tA σ H zs) (k : SpB T sp vs H an) : EvHB T (fun E => tCallK n sp gV E tA) σ H an := fun H1 e Q q => ha H1 e _ fun H2 e2 => ⟨hn, by
  rw [hG]
  exact k H2 (e.trans e2) Q fun p H3 hp e3 h3 => q p H3 (fresh_back e2 hp) (e2.trans e3) h3⟩
theorem made_of {Q : VK} (h : Dx K H v Dt) (s : SmX Dt kk B) (hk : kk ≤ 60) (hB : B ≤ 100000) (q : ∀ p H2, H p = none → Ex H H2 → H2 p = some (.lst (toldAn Dt.shown)) → Q (.ref p) H2) : Madek K Q v H :=
  ⟨v, Dt, rfl, h, s.sh, Nat.le_trans s.de hk, sz_of (Nat.le_trans s.ln hB), sz_of (by show 2 ≤ 100000; omega), fun p hp => q p _ hp (Ex.new hp) upd_same⟩
theorem sb_line (hd : DdAt K H v d) (g : GoodD d) : SpB T (sp_lineofX K T.C_InvalidDeed) [v] H (toldAn (PyData.str (lineD d)).shown) := fun H1 e Q q => ⟨v, rfl, .inl ⟨d, hd.ex e, g, fun H2 e2 => made_of (.str _) (line_sm g).s (by omega) (by omega) fun p H3 hp e3 h3 => q p H3 (fresh_back e2 hp) (e2.trans e3) h3⟩⟩
theorem sb_odd (h : DeedQ K H v false) (hd : Dx K H v Dt) (s : SmX Dt 4 3000) : SpB T (sp_lineofX K T.C_InvalidDeed) [v] H (oddAn Dt.shown) := fun H1 e Q q => ⟨v, rfl, .inr ⟨h.ex e, fun H' dd hdd e2 hx => .inl ⟨rfl, dd, v, Dt, rfl, hx, hd.ex (e.trans e2), s.mono (by omega) (by omega), fun p H3 hp e3 h3 => q p H3 (fresh_back e2 hp) (e2.trans e3) h3⟩⟩⟩
theorem sb_read (hx : y.length ≤ 500) : SpB T (sp_rdeedX K T.C_InvalidText) [.str y] H (readAn y) := fun H1 e Q q => ⟨.str y, rfl, .inr ⟨y, rfl, hx, fun d hd H' u e2 du => by
  obtain ⟨s1, s2⟩ := from_small hd hx
  have ea : readAn y = toldAn (dD d).shown := by
    unfold readAn
    rw [← read_eq, hd]
  rw [ea] at q
  exact made_of (dx_dD du) (sm_dD s1 s2 (by omega)).s (by omega) (by omega) fun p H3 hp e3 h3 => q p H3 (fresh_back e2 hp) (e2.trans e3) h3, fun hn H' dd hdd e2 hxd => by
  have ea : readAn y = textAn := by
    unfold readAn
    rw [← read_eq, hn]
  rw [ea] at q
  exact .inr ⟨rfl, dd, rfl, hxd, fun p H3 hp e3 h3 => q p H3 (fresh_back e2 hp) (e2.trans e3) h3⟩⟩⟩
theorem sb_noS (h : NoS K H v) : SpB T (sp_rdeedX K T.C_InvalidText) [v] H textAn := fun H1 e Q q => by
  obtain ⟨T', h1, h2⟩ := h
  exact ⟨v, rfl, .inl ⟨T', tyB_ex e h1, h2, fun H' dd hdd e2 hxd => .inr ⟨rfl, dd, rfl, hxd, fun p H3 hp e3 h3 => q p H3 (fresh_back e2 hp) (e2.trans e3) h3⟩⟩⟩
structure AnOk (an : List V) : Prop where
  fl : an.all flatV = true
  sh : SeqAt.shaped (.list (an.map fd)) = true
theorem an_shaped {ds : List PyData} (h : ds.all (fun d => match d with | .str x => PyData.strOk x | .bool _ => true | _ => false) = true) : SeqAt.shaped (.list ds) = true := by
  have e0 : PyData.canLayAll0 ds = true ∧ PyData.depthAll ds ≤ 0 := by
    induction ds with
    | nil => exact ⟨rfl, Nat.le_refl 0⟩
    | cons d ds ih =>
      rw [List.all_cons, Bool.and_eq_true] at h
      obtain ⟨i1, i2⟩ := ih h.2
      cases d with
      | str z =>
        refine ⟨?_, ?_⟩
        · simp only [PyData.canLayAll0, PyData.canLay0, Bool.and_eq_true]
          exact ⟨h.1, i1⟩
        · simp only [PyData.depthAll, PyData.depth]
          omega
      | bool z =>
        refine ⟨?_, ?_⟩
        · simp only [PyData.canLayAll0, PyData.canLay0, Bool.and_eq_true]
          exact ⟨trivial, i1⟩
        · simp only [PyData.depthAll, PyData.depth]
          omega
      | _ => exact absurd h.1 Bool.false_ne_true
  refine shaped_of ?_ ?_
  · simp only [PyData.canLay0]
    exact e0.1
  · simp only [PyData.depth]
    omega
theorem ok_told {t : Str} (h : tOk t) : AnOk (toldAn t) := ⟨rfl, an_shaped (by
  show (PyData.strOk (Str.ofString "told") && (PyData.strOk t && true)) = true
  rw [ok_str "told", show PyData.strOk t = true from h]
  rfl)⟩
theorem ok_odd {t : Str} (h : tOk t) : AnOk (oddAn t) := ⟨rfl, an_shaped (by
  show (PyData.strOk (Str.ofString "deed") && (PyData.strOk t && (true && true))) = true
  rw [ok_str "deed", show PyData.strOk t = true from h]
  rfl)⟩
theorem ok_txtA : AnOk textAn := ⟨rfl, an_shaped (by decide +kernel)⟩
theorem ok_read (hx : y.length ≤ 500) : AnOk (readAn y) := by
  unfold readAn
  cases h : readL (ws y) with
  | none => exact ok_txtA
  | some d =>
    rw [← read_eq] at h
    obtain ⟨s1, s2⟩ := from_small h hx
    exact ok_told (sm_dD s1 s2 (by omega)).t
/-- an answer beside what is owed -/
theorem ne_raw {QB : Bool → Hp → Prop} (T1 : LamX.Tabs T.tabs H) (he : EvH T te σ H an) (ok : AnOk an) (hb : ∀ G, Ex (noT H) G → ∀ Q : VK, (∀ p2 G2, Ex G G2 → G2 p2 = some (.lst an) → Q (.ref p2) G2) → tb σ G Q) (k : ∀ G, Ex (noT H) G → LamX.Tabs T.tabs G → QB false G) : tTest (tOp (rNeD K) te tb) σ H QB :=
  test_raw (op_raw (he H noT_sub T1 _ fun p G hp e T2 h1 => hb G e _ fun p2 G2 e2 h2 => ⟨.list (an.map fd), .list (an.map fd), .lst (sq_of (e2 _ _ h1)) (fd_all ok.fl), .lst (sq_of h2) (fd_all ok.fl), ok.sh, ok.sh, false, by
    rw [SeqAt.eqv_refl _ (SeqAt.canLay_of_shaped ok.sh)]
    rfl, k G2 (e.trans e2) (T2.ext e2)⟩))
theorem eq_raw {Q : VK} (T1 : LamX.Tabs T.tabs H) (he : EvH T te σ H an) (ok : AnOk an) (hb : ∀ G, Ex (noT H) G → ∀ Q : VK, (∀ p2 G2, Ex G G2 → G2 p2 = some (.lst an) → Q (.ref p2) G2) → tb σ G Q) (k : ∀ G, Ex (noT H) G → LamX.Tabs T.tabs G → Q (.bl true) G) : tOp (rEqD K) te tb σ H Q :=
  op_raw (he H noT_sub T1 _ fun p G hp e T2 h1 => hb G e _ fun p2 G2 e2 h2 => ⟨.list (an.map fd), .list (an.map fd), .lst (sq_of (e2 _ _ h1)) (fd_all ok.fl), .lst (sq_of h2) (fd_all ok.fl), ok.sh, ok.sh, by
    rw [SeqAt.eqv_refl _ (SeqAt.canLay_of_shaped ok.sh)]
    exact k G2 (e.trans e2) (T2.ext e2)⟩)
theorem hb_lst (h : ∀ G, Ex (noT H) G → EvL tb σ G an) : ∀ G, Ex (noT H) G → ∀ Q : VK, (∀ p2 G2, Ex G G2 → G2 p2 = some (.lst an) → Q (.ref p2) G2) → tb σ G Q := fun G e Q q => h G e G (Ex.refl G) Q fun p2 G2 _ e2 h2 => q p2 G2 e2 h2
theorem hb_var (hσ : σ[i]? = some (some (.ref p))) (h : H p = some (.lst an)) : ∀ G, Ex (noT H) G → ∀ Q : VK, (∀ p2 G2, Ex G G2 → G2 p2 = some (.lst an) → Q (.ref p2) G2) → tVar i σ G Q := fun G e Q q => ⟨_, hσ, q p G (Ex.refl G) (e _ _ (noT_at h fun _ z => nomatch z))⟩
end
end My
namespace My
open PySem PySem.Spec PyProof.Rows L2 GL Evl StX SkE
/-! ### neither the pot nor the tables -/
def cor (a : Addr) (H : Hp) : Hp := hol a (noT H)
theorem sqT_noT {K : PySem.W.Frag} {H : Hp} {u : Addr} {xs : List V} (h : SqT K H u xs) : SqT K (noT H) u xs := by
  rcases h with (h | ⟨ob, h⟩) | h
  · exact .inl (.inl (noT_at h fun _ z => nomatch z))
  · exact .inl (.inr ⟨ob, noT_at h fun _ z => nomatch z⟩)
  · exact .inr h
theorem sqL_noT {K : PySem.W.Frag} {H : Hp} {u : Addr} {xs : List V} (h : SqL K H u xs) : SqL K (noT H) u xs := by
  rcases h with (h | ⟨ob, h⟩) | h
  · exact .inl (.inl (noT_at h fun _ z => nomatch z))
  · exact .inl (.inr ⟨ob, noT_at h fun _ z => nomatch z⟩)
  · exact .inr h
theorem tyB_noT {K : PySem.W.Frag} {H : Hp} {x : V} {T : String} (h : TyB K H x T) : TyB K (noT H) x T := by
  cases h with
  | non => exact .non
  | bl b => exact .bl b
  | int i => exact .int i
  | str s => exact .str s
  | byt b => exact .byt b
  | lst h => exact .lst (sqL_noT h)
  | tup h => exact .tup (sqT_noT h)
  | dK h => exact .dK (noT_at h fun _ z => nomatch z)
mutual
theorem dx_noT {K : PySem.W.Frag} {H : Hp} : ∀ {v : V} {d : PyData}, Dx K H v d → Dx K (noT H) v d
  | _, _, .non => .non
  | _, _, .bl b => .bl b
  | _, _, .int i => .int i
  | _, _, .str x => .str x
  | _, _, .lst h t => .lst (sqL_noT h) (dxs_noT t)
  | _, _, .tup h t => .tup (sqT_noT h) (dxs_noT t)
  | _, _, .dct h t => .dct (noT_at h fun _ z => nomatch z) (dxs_noT t)
theorem dxs_noT {K : PySem.W.Frag} {H : Hp} : ∀ {vs : List V} {ds : List PyData}, DxAll K H vs ds → DxAll K (noT H) vs ds
  | _, _, .nil => .nil
  | _, _, .cons h t => .cons (dx_noT h) (dxs_noT t)
end
theorem dq_noT {K : PySem.W.Frag} {H : Hp} {v : V} {b : Bool} (h : DeedQ K H v b) : DeedQ K (noT H) v b := by
  cases h with
  | no h n => exact .no (tyB_noT h) n
  | tup h k l => exact .tup (sqT_noT h) (fun x hx => (k x hx).imp fun T t => tyB_noT t) l
theorem odd_noT {K : PySem.W.Frag} {H : Hp} {v : V} (h : Odd K H v) : Odd K (noT H) v := by
  obtain ⟨h1, D, h2, h3⟩ := h
  exact ⟨dq_noT h1, D, dx_noT h2, h3⟩
theorem noS_noT {K : PySem.W.Frag} {H : Hp} {v : V} (h : NoS K H v) : NoS K (noT H) v := by
  obtain ⟨T', h1, h2⟩ := h
  exact ⟨T', tyB_noT h1, h2⟩
section
variable {K : PySem.W.Frag} {mg : Str → Option Value} {w : World} {T : Txt K mg w} {H H' B : Hp} {a b u p : Addr} {xs : List V} {v : V} {d : Dd} {o : HO}
theorem hol_mono (e : ExB a H H') : Ex (hol a H) (hol a H') := fun b o h => by
  unfold hol at h
  split at h
  · cases h
  · rename_i n
    exact hol_at (e b o n h) n
theorem cor_noT : Ex (cor a H) (noT H) := hol_ex
theorem cor_sub : Ex (cor a H) H := cor_noT.trans noT_sub
theorem cor_ex (e : Ex H H') : Ex (cor a H) (cor a H') := hol_mono (ExB.of (noT_mono e))
theorem cor_lam (e : Ex (noT H) H') : Ex (cor a H) (cor a H') := hol_mono (ExB.of (noT_both e))
theorem cor_at (h : H b = some o) (n : ∀ ps, o ≠ .tbl ps) (ne : b ≠ a) : cor a H b = some o := hol_at (noT_at h n) ne
theorem cor_exB (e : ExB a H H') : Ex (cor a H) (cor a H') := hol_mono fun b o n h => by
  obtain ⟨h1, h2⟩ := noT_is h
  exact noT_at (e b o n h1) h2
structure Sit (T : Txt K mg w) (B : Hp) (a : Addr) (H : Hp) : Prop where
  x : Ex B (cor a H)
  pot : PotAt H a
  tb : LamX.Tabs T.tabs H
theorem Sit.ex (s : Sit T B a H) (e : Ex H H') : Sit T B a H' := ⟨s.x.trans (cor_ex e), s.pot.ex e, s.tb.ext e⟩
theorem Sit.exB (s : Sit T B a H) (e : ExB a H H') (p : PotAt H' a) : Sit T B a H' := by
  obtain ⟨x, y, hx, _⟩ := s.pot
  exact ⟨s.x.trans (cor_exB e), p, tabs_but s.tb hx e⟩
theorem Sit.lam (s : Sit T B a H) (e : Ex (noT H) H') (tb : LamX.Tabs T.tabs H') : Sit T B a H' := by
  refine ⟨s.x.trans (cor_lam e), ?_, tb⟩
  obtain ⟨x, y, hx, hh⟩ := s.pot
  exact ⟨x, y, e _ _ (noT_at hx fun _ z => nomatch z), hh⟩
theorem Sit.now (s : Sit T B a H) : Ex B H := s.x.trans cor_sub
theorem Sit.nt (s : Sit T B a H) : Ex B (noT H) := s.x.trans cor_noT
theorem dd_cor (h : DdAt K H v d) (hp : PotAt H a) : DdAt K (cor a H) v d := by
  obtain ⟨u, rfl, h⟩ := h
  refine ⟨u, rfl, hol_t (sqT_noT h) ?_⟩
  obtain ⟨x, y, hx, hh⟩ := hp
  exact ⟨x, y, (noT_at hx fun _ z => nomatch z), hh⟩
end
def sp_Llr {K : PySem.W.Frag} {mg : Str → Option Value} {w : World} (T : Txt K mg w) : Sp := fun vs H Q _ => ∃ x : Str, vs = [.str x] ∧ LamX.Tabs T.tabs H ∧ x.length ≤ 500 ∧ ∀ H', Ex (noT H) H' → LamX.Tabs T.tabs H' → Q (.bl true) H'
def sp_Lar {K : PySem.W.Frag} {mg : Str → Option Value} {w : World} (T : Txt K mg w) : Sp := fun vs H Q _ => ∃ a v d, vs = [.ref a, v] ∧ PotAt H a ∧ LamX.Tabs T.tabs H ∧ DdAt K (cor a H) v d ∧ GoodD d ∧ ∀ H', Ex (cor a H) H' → PotAt H' a → LamX.Tabs T.tabs H' → Q (.bl true) H'
section
variable {P : Program} {w : World} {K : PySem.W.Frag} {mg : Str → Option Value} {base : Heap} {C : Addr} {H H' H0 H1 G : Hp} {σ : L2.St} {te tb ta tc tl : TE} {tt t : TT} {tu : TS} {tA : TA} {E Er : XK} {D : Ends} {tz : TS} {a b p q : Addr} {xs ys an : List V} {v x : V} {Q : VK} {dd : Dd}
theorem el_ifL {bb : Bool} (h : EvT t σ H bb) (h1 : bb = true → EvL ta σ H xs) (h2 : bb = false → EvL tb σ H xs) : EvL (tIf t ta tb) σ H xs := fun H1 e Q q => h H1 e _ fun H2 e2 => by
  cases bb with
  | true =>
    show ta σ H2 Q
    exact h1 rfl H2 (e.trans e2) Q fun p H3 hp e3 h3 => q p H3 (fresh_back e2 hp) (e2.trans e3) h3
  | false =>
    show tb σ H2 Q
    exact h2 rfl H2 (e.trans e2) Q fun p H3 hp e3 h3 => q p H3 (fresh_back e2 hp) (e2.trans e3) h3
theorem ok_Lline_right (T : Txt K mg w) (G_Lread : FnG P w K mg base CX0 2 T.f_Lread T.fd_Lread ["_law_spelled_here"] (sp_Lread K)) (G_read_deedX : FnG P w K mg base (L2.CX P w) 5 T.f_read_deed T.fd_read_deed ["line"] (sp_rdeedX K T.C_InvalidText)) (tb_Lline_right : LamX.TabB base mg T.c_Lline_right T.p_Lline_right) : FnG P w K mg base CX0 12 T.f_Lline_right T.fd_Lline_right ["_law_spelled_here"] (sp_Llr T) := by
  skip
  refine okGT T.FT_Lline_right sc_Lline_right (fun vs H Q E h => ?_) (fun A outer s H vs Q E gd hr h => ?_)
  · obtain ⟨_, rfl, _⟩ := h
    all_goals rfl
  · obtain ⟨x, rfl, hT, hx, q⟩ := h
    refine ⟨_, (pss_cons (ps_set (i := 1) sc_Lline_right.nd rfl (Or.inl rfl) (pc gd G_Lread (hr.mono (by decide)) (by rfl) T.m_Lread T.F_Lread.kp T.b_Lread .nil pass0 (pa_cons (pv 0) pa_nil))) (pss_cons (ps_set (i := 2) sc_Lline_right.nd rfl (Or.inl rfl) (pe_ifExp (pt_cmpR op_isN (pv 1) pe_non (nomark _)) (pe_lst (pa_cons pe_str (pa_cons pe_str (pa_cons pe_bl pa_nil)))) (pe_lst (pa_cons pe_str (pa_cons (pe_callB (call_reprX gd (roomU hr)) (by rfl) T.z_repr boot_repr (pa_cons (pv 1) pa_nil)) pa_nil))))) (pss_cons (ps_if (pt_cmpR (op_neD (roomU hr)) (pe_lamG (k := 9) gd (by rfl) T.m_Lheard T.F_Lheard T.b_Lheard sc_Lheard rfl (by first | exact Or.inl rfl | exact Or.inr (Or.inl rfl)) (heard_gives T rfl rfl) tb_Lline_right rfl T.tab_Lline_right T.one_Lline_right (hr.mono (by decide)) (show LamX.LamS (defScope s_Lline_right) _ from LamX.lamS_by (by decide +kernel)) rfl (fun _ _ _ _ _ => rfl) (fun A outer s H E f c gd hr => (pcK gd G_read_deedX (hr.mono (by decide)) (by rfl) T.m_read_deed T.F_read_deed.kp T.k_read_deed_line (passes_call (takes_of rfl rfl rfl rfl) fun _ _ _ _ z => z) (pk_cons (pv 0) pk_nil)))) (pv 2) (nomark _)) (pss_one (ps_ret pe_bl)) pss_nil) (pss_one (ps_ret (pe_cmpR (op_eqD (roomU hr)) (pe_lamG (k := 9) gd (by rfl) T.m_Lheard T.F_Lheard T.b_Lheard sc_Lheard rfl (by first | exact Or.inl rfl | exact Or.inr (Or.inl rfl)) (heard_gives T rfl rfl) tb_Lline_right rfl T.tab_Lline_right T.one_Lline_right (hr.mono (by decide)) (show LamX.LamS (defScope s_Lline_right) _ from LamX.lamS_by (by decide +kernel)) rfl (fun _ _ _ _ _ => rfl) (fun A outer s H E f c gd hr => (pc gd G_read_deedX (hr.mono (by decide)) (by rfl) T.m_read_deed T.F_read_deed.kp T.b_read_deed .nil (passes_call (takes_of rfl rfl rfl rfl) fun _ _ _ _ z => z) (pa_cons (pv 0) pa_nil)))) (pv 2) (nomark _))))))), ?_⟩
    refine q_asgR (call_raw0 (cons1_raw (ev_raw (ev_var (v := .str x) rfl) fun H1 e1 => ⟨x, rfl, hx, fun d hd H2 u e2 du => ?_, fun hn H2 e2 => ?_⟩)))
    · have ea : readAn x = toldAn (dD d).shown := by
        unfold readAn
        rw [hd]
      obtain ⟨s1, s2⟩ := from_small (by rw [read_eq]; exact hd) hx
      obtain ⟨ua, rfl, hu⟩ := id du
      have hw : EvL (tIf (tTest (tOp (fun x y H Q => y = V.non ∧ Q (.bl (decide (x = .non))) H) (tVar 1) (tC .non))) (tLst (tCons (tC (.str "text")) (tCons (tC (.str "1")) (tCons (tC (.bl true)) tNil)))) (tLst (tCons (tC (.str "told")) (tCons (tCB (rReprX K) (tCons (tVar 1) tNil)) tNil)))) [some (.str x), some (.ref ua), none] H2 (readAn x) := by
        rw [ea]
        exact el_ifL (bb := false) (et_test (ev_op (ev_var rfl) ev_c (rv_isN rfl))) (fun z => nomatch z) fun _ => el_lst (ea_cons ev_c (ea_cons (ev_cb (ea_cons (ev_var rfl) ea_nil) (rc_reprX (dx_dD du) (sm_dD s1 s2 (by omega)).s (by omega) (by omega))) ea_nil)) (by show 2 ≤ 100000; omega)
      refine q_asgL hw fun pw H3 hpw e3 h3 => ?_
      show tSeq _ _ _ [some (.str x), some (.ref ua), some (.ref pw)] H3
      have e23 := (e1.trans e2).trans e3
      refine q_ifRM (ne_raw (T := T) (hT.ext e23) (eh_of (eb_callK rfl rfl (ea_cons (ev_var rfl) ea_nil) (sb_read hx))) (ok_read hx) (hb_var rfl h3) fun G eG TG => ?_)
      rw [if_neg Bool.false_ne_true]
      exact s_retR (eq_raw (T := T) TG (eh_of (eb_call (ea_cons (ev_var rfl) ea_nil) (sb_read hx))) (ok_read hx) (hb_var rfl (eG _ _ (noT_at h3 fun _ z => nomatch z))) fun G2 eG2 TG2 => q G2 ((noT_both ((noT_mono e23).trans eG)).trans eG2) TG2)
    · have ea : readAn x = textAn := by
        unfold readAn
        rw [hn]
      have hw : EvL (tIf (tTest (tOp (fun x y H Q => y = V.non ∧ Q (.bl (decide (x = .non))) H) (tVar 1) (tC .non))) (tLst (tCons (tC (.str "text")) (tCons (tC (.str "1")) (tCons (tC (.bl true)) tNil)))) (tLst (tCons (tC (.str "told")) (tCons (tCB (rReprX K) (tCons (tVar 1) tNil)) tNil)))) [some (.str x), some .non, none] H2 (readAn x) := by
        rw [ea]
        exact el_ifL (bb := true) (et_test (ev_op (ev_var rfl) ev_c (rv_isN rfl))) (fun _ => el_lst (ea_cons ev_c (ea_cons ev_c (ea_cons ev_c ea_nil))) (by show 3 ≤ 100000; omega)) fun z => nomatch z
      refine q_asgL hw fun pw H3 hpw e3 h3 => ?_
      show tSeq _ _ _ [some (.str x), some .non, some (.ref pw)] H3
      have e23 := (e1.trans e2).trans e3
      refine q_ifRM (ne_raw (T := T) (hT.ext e23) (eh_of (eb_callK rfl rfl (ea_cons (ev_var rfl) ea_nil) (sb_read hx))) (ok_read hx) (hb_var rfl h3) fun G eG TG => ?_)
      rw [if_neg Bool.false_ne_true]
      exact s_retR (eq_raw (T := T) TG (eh_of (eb_call (ea_cons (ev_var rfl) ea_nil) (sb_read hx))) (ok_read hx) (hb_var rfl (eG _ _ (noT_at h3 fun _ z => nomatch z))) fun G2 eG2 TG2 => q G2 ((noT_both ((noT_mono e23).trans eG)).trans eG2) TG2)
theorem ok_Lact_right (T : Txt K mg w) (G_Lspelled : FnG P w K mg base CX0 1 T.f_Lspelled T.fd_Lspelled ["_law_act_here"] (sp_Lspelled K)) (G_line_ofX : FnG P w K mg base (L2.CX P w) 4 T.f_line_of T.fd_line_of ["deed"] (sp_lineofX K T.C_InvalidDeed)) (G_Lline_right : FnG P w K mg base CX0 12 T.f_Lline_right T.fd_Lline_right ["_law_spelled_here"] (sp_Llr T)) (G_Lread : FnG P w K mg base CX0 2 T.f_Lread T.fd_Lread ["_law_spelled_here"] (sp_Lread K)) (G_Lodd_acts : FnG P w K mg base CX0 3 T.f_Lodd_acts T.fd_Lodd_acts ["_law_pot_here", "_law_act_here"] (sp_Lodds K)) (tb_Lact_right : LamX.TabB base mg T.c_Lact_right T.p_Lact_right) : FnG P w K mg base CX0 13 T.f_Lact_right T.fd_Lact_right ["_law_pot_here", "_law_act_here"] (sp_Lar T) := by
  skip
  refine okGT T.FT_Lact_right sc_Lact_right (fun vs H Q E h => ?_) (fun A outer s H vs Q E gd hr h => ?_)
  · obtain ⟨_, _, _, rfl, _⟩ := h
    all_goals rfl
  · obtain ⟨a, v, dd, rfl, hp, hT, hd, g, q⟩ := h
    refine ⟨_, (pss_cons (ps_set (i := 2) sc_Lact_right.nd rfl (Or.inl rfl) (pc gd G_Lspelled (hr.mono (by decide)) (by rfl) T.m_Lspelled T.F_Lspelled.kp T.b_Lspelled .nil pass0 (pa_cons (pv 1) pa_nil))) (pss_cons (ps_if (pt_cmpR (op_neD (roomU hr)) (pe_lamG (k := 9) gd (by rfl) T.m_Lheard T.F_Lheard T.b_Lheard sc_Lheard rfl (by first | exact Or.inl rfl | exact Or.inr (Or.inl rfl)) (heard_gives T rfl rfl) tb_Lact_right rfl T.tab_Lact_right T.one_Lact_right (hr.mono (by decide)) (show LamX.LamS (defScope s_Lact_right) _ from LamX.lamS_by (by decide +kernel)) rfl (fun _ _ _ _ _ => rfl) (fun A outer s H E f c gd hr => (pc gd G_line_ofX (hr.mono (by decide)) (by rfl) T.m_line_of T.F_line_of.kp T.b_line_of .nil (passes_call (takes_of rfl rfl rfl rfl) fun _ _ _ _ z => z) (pa_cons (pv 1) pa_nil)))) (pe_lst (pa_cons pe_str (pa_cons (pe_callB (call_reprX gd (roomU hr)) (by rfl) T.z_repr boot_repr (pa_cons (pv 2) pa_nil)) pa_nil))) (nomark _)) (pss_one (ps_ret pe_bl)) pss_nil) (pss_cons (ps_if (pt_cmpR (op_neD (roomU hr)) (pe_lamG (k := 9) gd (by rfl) T.m_Lheard T.F_Lheard T.b_Lheard sc_Lheard rfl (by first | exact Or.inl rfl | exact Or.inr (Or.inl rfl)) (heard_gives T rfl rfl) tb_Lact_right rfl T.tab_Lact_right T.one_Lact_right (hr.mono (by decide)) (show LamX.LamS (defScope s_Lact_right) _ from LamX.lamS_by (by decide +kernel)) rfl (fun _ _ _ _ _ => rfl) (fun A outer s H E f c gd hr => (pcK gd G_line_ofX (hr.mono (by decide)) (by rfl) T.m_line_of T.F_line_of.kp T.k_line_of_deed (passes_call (takes_of rfl rfl rfl rfl) fun _ _ _ _ z => z) (pk_cons (pv 1) pk_nil)))) (pe_lst (pa_cons pe_str (pa_cons (pe_callB (call_reprX gd (roomU hr)) (by rfl) T.z_repr boot_repr (pa_cons (pv 2) pa_nil)) pa_nil))) (nomark _)) (pss_one (ps_ret pe_bl)) pss_nil) (pss_cons (ps_if ((pw_or (pt_not (pt_val (pc gd G_Lline_right (hr.mono (by decide)) (by rfl) T.m_Lline_right T.F_Lline_right.kp T.b_Lline_right .nil pass0 (pa_cons (pv 2) pa_nil)))) (pw_or1 (pt_cmpR op_ne (pe_callB (call_reprX gd (roomU hr)) (by rfl) T.z_repr boot_repr (pa_cons (pc gd G_Lread (hr.mono (by decide)) (by rfl) T.m_Lread T.F_Lread.kp T.b_Lread .nil pass0 (pa_cons (pv 2) pa_nil)) pa_nil)) (pe_callB (call_reprX gd (roomU hr)) (by rfl) T.z_repr boot_repr (pa_cons (pv 1) pa_nil)) (nomark _))))).pt (pss_one (ps_ret pe_bl)) pss_nil) (pss_cons (ps_for PassesOwn.never rfl (pi_list (pc gd G_Lodd_acts (hr.mono (by decide)) (by rfl) T.m_Lodd_acts T.F_Lodd_acts.kp T.b_Lodd_acts .nil pass0 (pa_cons (pv 0) (pa_cons (pv 1) pa_nil)))) (pg_name (i := 3) sc_Lact_right.nd rfl (Or.inr rfl) (Or.inl rfl)) (pss_one (ps_if (pt_cmpR (op_neD (roomU hr)) (pe_lamG (k := 9) gd (by rfl) T.m_Lheard T.F_Lheard T.b_Lheard sc_Lheard rfl (by first | exact Or.inl rfl | exact Or.inr (Or.inl rfl)) (heard_gives T rfl rfl) tb_Lact_right rfl T.tab_Lact_right T.one_Lact_right (hr.mono (by decide)) (show LamX.LamS (defScope s_Lact_right) _ from LamX.lamS_by (by decide +kernel)) rfl (fun _ _ _ _ _ => rfl) (fun A outer s H E f c gd hr => (pc gd G_line_ofX (hr.mono (by decide)) (by rfl) T.m_line_of T.F_line_of.kp T.b_line_of .nil (passes_call (takes_of rfl rfl rfl rfl) fun _ _ _ _ z => z) (pa_cons (pv 3) pa_nil)))) (pe_lst (pa_cons pe_str (pa_cons (pe_callB (call_reprX gd (roomU hr)) (by rfl) T.z_repr boot_repr (pa_cons (pv 3) pa_nil)) (pa_cons pe_bl pa_nil)))) (nomark _)) (pss_one (ps_ret pe_bl)) pss_nil))) (pss_one (ps_ret pe_bl))))))), ?_⟩
    have s0 : Sit T (cor a H) a H := ⟨Ex.refl _, hp, hT⟩
    have ll := line_len g
    have ls := line_sm g
    refine q_asg (v := .str (lineD dd)) (ev_call (ea_cons (ev_var rfl) ea_nil) fun H1 e1 Q1 q1 E1 => ⟨v, dd, rfl, hd.ex (cor_sub.trans e1), g, q1⟩) fun H1 e1 => ?_
    show tSeq _ _ _ [some (.ref a), some v, some (.str (lineD dd)), none] H1
    have s1 := s0.ex e1
    have owed : ∀ {G : Hp} {f3 : Option V}, EvL (tLst (tCons (tC (.str "told")) (tCons (tCB (rReprX K) (tCons (tVar 2) tNil)) tNil))) [some (.ref a), some v, some (.str (lineD dd)), f3] G (toldAn (PyData.str (lineD dd)).shown) := fun {G f3} => el_lst (ea_cons ev_c (ea_cons (ev_cb (ea_cons (ev_var rfl) ea_nil) (rc_reprX (.str _) ls.s (by omega) (by omega))) ea_nil)) (by show 2 ≤ 100000; omega)
    refine q_ifRM (ne_raw (T := T) s1.tb (eh_of (eb_call (ea_cons (ev_var rfl) ea_nil) (sb_line (hd.ex s1.nt) g))) (ok_told ls.t) (hb_lst fun _ _ => owed) fun H2 e2 T2 => ?_)
    rw [if_neg Bool.false_ne_true]
    have s2 := s1.lam e2 T2
    show tSeq _ _ _ [some (.ref a), some v, some (.str (lineD dd)), none] H2
    refine q_ifRM (ne_raw (T := T) s2.tb (eh_of (eb_callK rfl rfl (ea_cons (ev_var rfl) ea_nil) (sb_line (hd.ex s2.nt) g))) (ok_told ls.t) (hb_lst fun _ _ => owed) fun H3 e3 T3 => ?_)
    rw [if_neg Bool.false_ne_true]
    have s3 := s2.lam e3 T3
    show tSeq _ _ _ [some (.ref a), some v, some (.str (lineD dd)), none] H3
    refine q_ifRM (or_raw (not_raw (B_raw (call_raw0 (cons1_raw (ev_raw (ev_var (v := .str (lineD dd)) rfl) fun H4 e4 => ⟨lineD dd, rfl, s3.tb.ext e4, by omega, fun H5 e5 T5 => ⟨true, rfl, ?_⟩⟩))))))
    rw [if_neg (by decide)]
    have s5 := (s3.ex e4).lam e5 T5
    refine test_raw (op_raw (cb1_raw (call_raw0 (cons1_raw (ev_raw (ev_var (v := .str (lineD dd)) rfl) fun H6 e6 => ⟨lineD dd, rfl, by omega, fun d' hd' H7 u7 e7 du => ?_, fun hn => (by rw [read_line g] at hn; cases hn)⟩)))))
    rw [read_line g] at hd'
    cases hd'
    have s7 := s5.ex (e6.trans e7)
    have sd := sm_dD (n := 40) g.is g.nm (by omega)
    refine ⟨u7, dD dd, rfl, dx_dD du, sd.s.sh, Nat.le_trans sd.s.de (by omega), sz_of (Nat.le_trans sd.s.ln (by omega)), ev_raw (ev_cb (ea_cons (ev_var (v := v) rfl) ea_nil) (rc_reprX (dx_dD (hd.ex s7.now)) sd.s (by omega) (by omega))) fun H8 e8 => (rv_ne rfl : RV rNe (.str (dD dd).shown) (.str (dD dd).shown) H8 _) H8 (Ex.refl H8) _ fun H9 e9 => ⟨_, rfl, ?_⟩⟩
    rw [decide_eq_true rfl, if_neg (by decide)]
    have s9 := s7.ex (e8.trans e9)
    show tSeq _ _ _ [some (.ref a), some v, some (.str (lineD dd)), none] H9
    refine q_forRaw (call_raw0 ((ea_cons (ev_var rfl) (ea_cons (ev_var rfl) ea_nil) : EvA _ _ _ [.ref a, v]) H9 (Ex.refl H9) _ fun Ha ea => ⟨a, v, dd, rfl, (s9.ex ea).pot, hd.ex (s9.ex ea).now, g, fun Hb p xs Gf xB pB hp0 hpl gf na odd l50 => ⟨p, rfl, ⟨xs, sq_of hpl⟩, ?_⟩⟩))
    have sb := (s9.ex ea).exB xB pB
    have npa : p ≠ a := fun z => by
      obtain ⟨x, y, hx, _⟩ := (s9.ex ea).pot
      rw [z, hx] at hp0
      cases hp0
    have eGf : Ex (noT Gf) (cor a Hb) := fun b o h => by
      obtain ⟨h1, h2⟩ := noT_is h
      exact cor_at (gf _ _ h1) h2 fun z => by rw [z, na] at h1; cases h1
    have sB : Sit T (cor a Hb) a Hb := ⟨Ex.refl _, sb.pot, sb.tb⟩
    refine forRaw (xs := xs) (fun i σ' G => ∃ x3, σ' = [some (.ref a), some v, some (.str (lineD dd)), x3] ∧ Sit T (cor a Hb) a G) ⟨none, rfl, sB⟩ (fun i σ' G _ zz => ?_) (fun i x σ' G hi zz => ?_) (fun σ' G zz => ?_)
    · obtain ⟨_, _, zz⟩ := zz
      exact sq_of (zz.now _ _ (cor_at hpl (fun _ z => nomatch z) npa))
    · obtain ⟨x3, rfl, zz⟩ := zz
      obtain ⟨dq, Dt, hdx, sm⟩ := (odd_noT (odd x (List.mem_of_getElem? hi))).ex (eGf.trans zz.nt)
      show tIfS _ _ _ _ [some (.ref a), some v, some (.str (lineD dd)), some x] G
      refine ifs_raw (ne_raw (T := T) zz.tb (eh_of (eb_call (ea_cons (ev_var rfl) ea_nil) (sb_odd dq hdx sm.s))) (ok_odd sm.t) (hb_lst fun G1 eG1 => el_lst (ea_cons ev_c (ea_cons (ev_cb (ea_cons (ev_var rfl) ea_nil) (rc_reprX (hdx.ex eG1) sm.s (by omega) (by omega))) (ea_cons ev_c ea_nil))) (by show 3 ≤ 100000; omega)) fun G1 eG1 TG1 => ?_)
      rw [if_neg Bool.false_ne_true]
      exact ⟨some x, rfl, zz.lam eG1 TG1⟩
    · obtain ⟨x3, rfl, zz⟩ := zz
      exact s_ret ev_c fun Gz ez => q Gz ((sb.x.trans (zz.x.trans cor_sub)).trans ez) (zz.pot.ex ez) (zz.tb.ext ez)
end
end My
namespace My
open PySem PySem.Spec PyProof.Rows L2 GL Evl StX SkE
/-! ### the law -/
def sp_LrightP {K : PySem.W.Frag} {mg : Str → Option Value} {w : World} (T : Txt K mg w) : Sp := fun vs H Q _ => ∃ a, vs = [.ref a] ∧ PotAt H a ∧ LamX.Tabs T.tabs H ∧ ∀ H', Ex (cor a H) H' → LamX.Tabs T.tabs H' → Q (.bl true) H'
def sp_lawT (K : PySem.W.Frag) (ts : List (Addr × Addr)) : Sp := fun vs H Q _ => ∃ (a : Addr) (ns : List Int), vs = [.ref a] ∧ SqL K H a (ns.map V.int) ∧ ns.length ≤ 63 ∧ (∀ p ∈ ts, H p.2 = some (.tbl #[])) ∧ ∀ H', Q (.bl true) H'
section
variable {P : Program} {w : World} {K : PySem.W.Frag} {mg : Str → Option Value} {base : Heap} {T : Txt K mg w} {C : Addr} {H H' H0 H1 G B : Hp} {σ : L2.St} {te tb ta tc tl : TE} {tt t : TT} {tu : TS} {tA : TA} {E Er : XK} {D : Ends} {tz : TS} {a b p q : Addr} {xs ys an : List V} {v x : V} {Q : VK} {dd : Dd}
theorem cor_both (e : Ex (cor a H) H') : Ex (cor a H) (cor a H') := fun b o h => by
  have h0 := h
  unfold cor hol at h0
  split at h0
  · cases h0
  · rename_i n
    exact cor_at (e _ _ h) (noT_is h0).2 n
theorem Sit.mutL {Dl : Addr} {ys zs : List V} (s : Sit T B a G) (h : G Dl = some (.lst ys)) (nB : B Dl = none) (na : Dl ≠ a) : Sit T B a (upd G Dl (.lst zs)) := by
  refine ⟨fun b o hb => ?_, ?_, tabs_but s.tb h fun b o hb h => by rw [upd_ne hb]; exact h⟩
  · have h1 := s.x b o hb
    have nb : b ≠ Dl := ne_of_none hb nB
    unfold cor hol at h1 ⊢
    split at h1
    · cases h1
    · rename_i n
      rw [if_neg n]
      obtain ⟨h2, h3⟩ := noT_is h1
      exact noT_at (by rw [upd_ne nb]; exact h2) h3
  · obtain ⟨x, y, hx, hh⟩ := s.pot
    exact ⟨x, y, by rw [upd_ne na.symm]; exact hx, hh⟩
theorem dd_keep (h : DdAt K H v dd) (e : ∀ b o, (∀ ys, o ≠ .lst ys) → H b = some o → H' b = some o) : DdAt K H' v dd := by
  obtain ⟨u, rfl, h⟩ := h
  refine ⟨u, rfl, ?_⟩
  rcases h with (h | ⟨ob, h⟩) | h
  · exact .inl (.inl (e _ _ (fun _ z => nomatch z) h))
  · exact .inl (.inr ⟨ob, e _ _ (fun _ z => nomatch z) h⟩)
  · exact .inr h
theorem rc_min2 {i j : Int} : RC (fun xs H Q => ∃ i j, xs = [V.int i, V.int j] ∧ Q (.int (if j < i then j else i)) H) [.int i, .int j] H (.int (if j < i then j else i)) := fun H1 _ Q q => ⟨i, j, rfl, q H1 (Ex.refl H1)⟩
theorem rep_all (n : Nat) : (List.replicate n true).all id = true := by
  rw [List.all_replicate]
  cases n <;> rfl
theorem ok_Lright (T : Txt K mg w) (G_Lact : FnG P w K mg base CX0 4 T.f_Lact T.fd_Lact ["_law_pot_here"] (sp_Lact K)) (G_Lact_right : FnG P w K mg base CX0 13 T.f_Lact_right T.fd_Lact_right ["_law_pot_here", "_law_act_here"] (sp_Lar T)) (G_Lline_right : FnG P w K mg base CX0 12 T.f_Lline_right T.fd_Lline_right ["_law_spelled_here"] (sp_Llr T)) (G_Lbent : FnG P w K mg base CX0 3 T.f_Lbent T.fd_Lbent ["_law_pot_here", "_law_spelled_here"] (sp_Lbent K)) (G_Lspelled : FnG P w K mg base CX0 1 T.f_Lspelled T.fd_Lspelled ["_law_act_here"] (sp_Lspelled K)) (G_read_deedX : FnG P w K mg base (L2.CX P w) 5 T.f_read_deed T.fd_read_deed ["line"] (sp_rdeedX K T.C_InvalidText)) (tb_Lright : LamX.TabB base mg T.c_Lright T.p_Lright) : FnG P w K mg base CX0 14 T.f_Lright T.fd_Lright ["_law_pot_here"] (sp_LrightP T) := by
  skip
  refine okGT T.FT_Lright sc_Lright (fun vs H Q E h => ?_) (fun A outer s H vs Q E gd hr h => ?_)
  · obtain ⟨_, rfl, _⟩ := h
    all_goals rfl
  · obtain ⟨a, rfl, hp, hT, q⟩ := h
    refine ⟨_, (pss_cons (ps_setLc (i := 1) (own := [("_law_turn", 4)]) (g := gName 4) rfl sc_Lright.nd rfl rfl (sw_true rfl rfl rfl (by decide +kernel)) (pi_range1 (by rfl) T.z_range (pa_cons pe_int pa_nil)) (blkOk_by (N := N_Lright) (sc := defScope s_Lright) (by decide +kernel)) (fun _ _ _ _ _ => (pg_name (i := 4) sc_Lright.nd rfl (Or.inl rfl) (Or.inr rfl))) (fun _ _ _ _ _ => pts_nil) (fun _ _ _ _ _ => (pc gd G_Lact (hr.mono (by decide)) (by rfl) T.m_Lact T.F_Lact.kp T.b_Lact .nil pass0 (pa_cons (pv 0) pa_nil)))) (pss_cons (ps_for PassesOwn.never rfl (pi_list (pv 1)) (pg_name (i := 2) sc_Lright.nd rfl (Or.inr rfl) (Or.inl rfl)) (pss_cons (ps_if (pt_not (pt_val (pc gd G_Lact_right (hr.mono (by decide)) (by rfl) T.m_Lact_right T.F_Lact_right.kp T.b_Lact_right .nil pass0 (pa_cons (pv 0) (pa_cons (pv 2) pa_nil))))) (pss_one (ps_ret pe_bl)) pss_nil) (pss_one (ps_if (pt_not (pt_val (pe_callB (cr_all rfl) (by rfl) T.z_all boot_all (pa_cons (pe_lc (own := [("_law_turn", 4)]) (g := gName 4) rfl sc_Lright.nd (pi_range1 (by rfl) T.z_range (pa_cons pe_int pa_nil)) (blkOk_by (N := N_Lright) (sc := defScope s_Lright) (by decide +kernel)) (fun _ _ _ _ _ => (pg_name (i := 4) sc_Lright.nd rfl (Or.inl rfl) (Or.inr rfl))) (fun _ _ _ _ _ => pts_nil) (fun _ _ _ _ _ => (pc gd G_Lline_right (hr.mono (by decide)) (by rfl) T.m_Lline_right T.F_Lline_right.kp T.b_Lline_right .nil pass0 (pa_cons (pc gd G_Lbent (hr.mono (by decide)) (by rfl) T.m_Lbent T.F_Lbent.kp T.b_Lbent .nil pass0 (pa_cons (pv 0) (pa_cons (pc gd G_Lspelled (hr.mono (by decide)) (by rfl) T.m_Lspelled T.F_Lspelled.kp T.b_Lspelled .nil pass0 (pa_cons (pv 2) pa_nil)) pa_nil))) pa_nil)))) pa_nil)))) (pss_one (ps_ret pe_bl)) pss_nil)))) (pss_cons (ps_for PassesOwn.never rfl (pi_list (pe_lst (pa_cons pe_non (pa_cons pe_int (pa_cons pe_bl (pa_cons (pe_lst pa_nil) (pa_cons (pe_tupX (pa_cons pe_str (pa_cons pe_int pa_nil))) (pa_cons (pe_lst (pa_cons pe_str pa_nil)) (pa_cons pe_dnewK (pa_cons (pv 1) pa_nil)))))))))) (pg_name (i := 3) sc_Lright.nd rfl (Or.inr rfl) (Or.inl rfl)) (pss_one (ps_if (pt_cmpR (op_neD (roomU hr)) (pe_lamG (k := 9) gd (by rfl) T.m_Lheard T.F_Lheard T.b_Lheard sc_Lheard rfl (by first | exact Or.inl rfl | exact Or.inr (Or.inl rfl)) (heard_gives T rfl rfl) tb_Lright rfl T.tab_Lright T.one_Lright (hr.mono (by decide)) (show LamX.LamS (defScope s_Lright) _ from LamX.lamS_by (by decide +kernel)) rfl (fun _ _ _ _ _ => rfl) (fun A outer s H E f c gd hr => (pc gd G_read_deedX (hr.mono (by decide)) (by rfl) T.m_read_deed T.F_read_deed.kp T.b_read_deed .nil (passes_call (takes_of rfl rfl rfl rfl) fun _ _ _ _ z => z) (pa_cons (pv 3) pa_nil)))) (pe_lst (pa_cons pe_str (pa_cons pe_str (pa_cons pe_bl pa_nil)))) (nomark _)) (pss_one (ps_ret pe_bl)) pss_nil))) (pss_cons (ps_if ((pw_or (pt_not (pt_val (pc gd G_Lline_right (hr.mono (by decide)) (by rfl) T.m_Lline_right T.F_Lline_right.kp T.b_Lline_right .nil pass0 (pa_cons pe_str pa_nil)))) (pw_or (pt_not (pt_val (pc gd G_Lline_right (hr.mono (by decide)) (by rfl) T.m_Lline_right T.F_Lline_right.kp T.b_Lline_right .nil pass0 (pa_cons pe_str pa_nil)))) (pw_or1 (pt_not (pt_val (pc gd G_Lline_right (hr.mono (by decide)) (by rfl) T.m_Lline_right T.F_Lline_right.kp T.b_Lline_right .nil pass0 (pa_cons pe_str pa_nil)))))))).pt (pss_one (ps_ret pe_bl)) pss_nil) (pss_one (ps_ret (pc gd G_Lact_right (hr.mono (by decide)) (by rfl) T.m_Lact_right T.F_Lact_right.kp T.b_Lact_right .nil pass0 (pa_cons (pv 0) (pa_cons (pe_ix ix_list (pv 1) pe_int (fun _ _ => rfl)) pa_nil))))))))), ?_⟩
    have s0 : Sit T (cor a H) a H := ⟨Ex.refl _, hp, hT⟩
    have ha0 : ∀ {Dl : Addr}, H Dl = none → Dl ≠ a := fun {Dl} h => by
      obtain ⟨x, y, hx, _⟩ := hp
      exact (ne_of_none hx h).symm
    refine q_asgR (lc_R1 (n := 8) (fun Dl i H' => ∃ xs : List V, ExB a H H' ∧ PotAt H' a ∧ H' Dl = some (.lst xs) ∧ xs.length = i ∧ (∀ v ∈ xs, ∃ d, DdAt K H' v d ∧ GoodD d) ∧ H Dl = none) (ea_cons (ev_is ev_c rfl) ea_nil) (by omega) (fun H1 Dl e1 hD => ?_) (fun Dl i H' hi zz => ?_) (fun p1 H1 zz => ?_))
    · exact ⟨[], (ExB.of e1).trans (ExB.of (Ex.new hD)), (hp.ex e1).ex (Ex.new hD), upd_same, rfl, fun v hv => absurd hv List.not_mem_nil, fresh_back e1 hD⟩
    · obtain ⟨xs, x5, p5, h5, hl, dv, hD⟩ := zz
      refine ⟨rfl, yes_raw (call_raw0 (cons1_raw (ev_raw (ev_var (v := .ref a) rfl) fun H6 e6 => ⟨a, rfl, p5.ex e6, fun H7 v d x7 p7 dv7 g7 => ?_⟩)))⟩
      have nDa := ha0 hD
      have h7 := x7 _ _ nDa (e6 _ _ h5)
      have keep : ∀ b o, (∀ ys, o ≠ .lst ys) → H' b = some o → (upd H7 Dl (.lst (xs ++ [v]))) b = some o := fun b o n hb => by
        have nb : b ≠ Dl := fun z => by
          rw [z, h5] at hb
          exact n _ (Option.some.inj hb).symm
        have na : b ≠ a := fun z => by
          obtain ⟨x, y, hx, _⟩ := p5
          rw [z, hx] at hb
          exact n _ (Option.some.inj hb).symm
        rw [upd_ne nb]
        exact x7 _ _ na (e6 _ _ hb)
      refine ⟨xs, h7, by rw [sizeLine_eq]; omega, xs ++ [v], ?_, ?_, upd_same, by rw [List.length_append, hl]; rfl, fun v' hv' => ?_, hD⟩
      · exact ((x5.trans (ExB.of e6)).trans x7).mut hD
      · obtain ⟨u, v', hu, hh⟩ := p7
        exact ⟨u, v', by rw [upd_ne nDa.symm]; exact hu, hh⟩
      · rcases List.mem_append.mp hv' with h | h
        · obtain ⟨d', h1, h2⟩ := dv v' h
          exact ⟨d', dd_keep h1 keep, h2⟩
        · rw [List.mem_singleton.mp h]
          exact ⟨d, dd_keep dv7 fun b o n hb => by
            have nb : b ≠ Dl := fun z => by
              rw [z, h7] at hb
              exact n _ (Option.some.inj hb).symm
            rw [upd_ne nb]
            exact hb, g7⟩
    obtain ⟨xs, x1, pp1, h1, l8, dv, hp10⟩ := zz
    have n1a := ha0 hp10
    have s1 := s0.exB x1 pp1
    have b1 : cor a H1 p1 = some (.lst xs) := cor_at h1 (fun _ z => nomatch z) n1a
    have dB : ∀ v ∈ xs, ∃ d, DdAt K (cor a H1) v d ∧ GoodD d := fun v hv => by
      obtain ⟨d, h, g⟩ := dv v hv
      exact ⟨d, dd_cor h pp1, g⟩
    have sB : Sit T (cor a H1) a H1 := ⟨Ex.refl _, pp1, s1.tb⟩
    have toH : Ex (cor a H) (cor a H1) := s1.x
    show tSeq _ _ _ [some (.ref a), some (.ref p1), none, none, none] H1
    refine q_forLn (a := p1) (xs := xs) (ev_var rfl) (sq_of h1) (fun i σ' G => ∃ x2 x3 x4, σ' = [some (.ref a), some (.ref p1), x2, x3, x4] ∧ Sit T (cor a H1) a G) (fun G g => ⟨_, _, _, rfl, sB.ex g⟩) (fun i σ' G _ zz => ?_) (fun i x σ' G hi zz => ?_) (fun σ' G zz => ?_)
    · obtain ⟨_, _, _, _, zz⟩ := zz
      exact sq_of (zz.now _ _ b1)
    · obtain ⟨x2, x3, x4, rfl, zz⟩ := zz
      obtain ⟨d, hd, g⟩ := dB x (List.mem_of_getElem? hi)
      show tSeq _ _ _ [some (.ref a), some (.ref p1), some x, x3, x4] G
      refine q_ifRM (not_raw (B_raw (call_raw0 ((ea_cons (ev_var rfl) (ea_cons (ev_var rfl) ea_nil) : EvA _ _ _ [.ref a, x]) G (Ex.refl G) _ fun Ga ea => ⟨a, x, d, rfl, (zz.ex ea).pot, (zz.ex ea).tb, hd.ex (zz.ex ea).x, g, fun Gb xb pb Tb => ⟨true, rfl, ?_⟩⟩))))
      rw [if_neg (by decide)]
      have sb : Sit T (cor a H1) a Gb := ⟨(zz.ex ea).x.trans (cor_both xb), pb, Tb⟩
      refine nx_raw ?_
      have lw : (ws (lineD d)).length ≤ 4 ∧ (∀ y ∈ ws (lineD d), y.length ≤ 45) ∧ (lineD d).length ≤ 200 := by
        have sz := size_ok (dd_size g.is)
        have ll := line_len g
        rw [line_ws g]
        refine ⟨?_, fun y hy => Nat.le_trans (oT_len g y hy) (by omega), by omega⟩
        rw [List.length_cons, List.length_map]
        omega
      refine ifs_raw (not_raw (B_raw (cb1_raw (lc_R1 (n := 8) (fun Dl i G' => Sit T (cor a H1) a G' ∧ G' Dl = some (.lst (List.replicate i (V.bl true))) ∧ cor a H1 Dl = none ∧ Dl ≠ a) (ea_cons (ev_is ev_c rfl) ea_nil) (by omega) (fun G1 Dl e1 hD => ?_) (fun Dl i G' hi zz => ?_) (fun Dl G' zz => ?_)))))
      · have sg := (sb.ex e1)
        have nDa : Dl ≠ a := by
          obtain ⟨x, y, hx, _⟩ := sg.pot
          exact (ne_of_none hx hD).symm
        exact ⟨sg.ex (Ex.new hD), upd_same, fresh_back sg.now hD, nDa⟩
      · obtain ⟨sg, hDl, nB, nDa⟩ := zz
        refine ⟨rfl, yes_raw (call_raw0 (cons1_raw (call_raw0 (cons_raw (ev_var (v := .ref a) rfl) fun G1 g1 => cons1_raw (ev_raw (ev_call (sp := sp_Lspelled K) (vs := [x]) (dvs := []) (z := .str (lineD d)) (ea_cons (ev_var rfl) ea_nil) fun G2 g2 Q2 q2 E2 => ⟨x, d, rfl, hd.ex ((sg.ex g1).ex g2).now, g, q2⟩) fun G2 g2 => ⟨a, lineD d, rfl, ((sg.ex g1).ex g2).pot, lw.1, lw.2.1, lw.2.2, fun G3 y x3 p3 ly => ⟨y, rfl, (((sg.ex g1).ex g2).exB x3 p3).tb, ly, fun G4 x4 T4 => ?_⟩⟩)))))⟩
        have s4 := (((sg.ex g1).ex g2).exB x3 p3).lam x4 T4
        have h4 : G4 Dl = some (.lst (List.replicate i (V.bl true))) := x4 _ _ (noT_at (x3 _ _ nDa (g2 _ _ (g1 _ _ hDl))) fun _ z => nomatch z)
        exact ⟨_, h4, (by rw [List.length_replicate, sizeLine_eq]; omega), s4.mutL h4 nB nDa, by rw [upd_same, ← List.replicate_succ'], nB, nDa⟩
      · obtain ⟨sg, hDl, nB, nDa⟩ := zz
        refine ⟨Dl, List.replicate 8 true, rfl, sq_of (by rw [hDl, List.map_replicate]), _, rfl, ?_⟩
        rw [rep_all, if_neg (by decide)]
        exact ⟨some x, x3, x4, rfl, sg⟩
    obtain ⟨x2, x3, x4, rfl, zz⟩ := zz
    have ns : ∀ {Gx : Hp} {T' : String} {v : V}, TyB K Gx v T' → isS v = false → NoS K Gx v := fun h1 h2 => ⟨_, h1, h2⟩
    have b1G : SqL K (cor a G) p1 xs := sq_of (zz.x _ _ b1)
    have odds : EvFA (NoS K) 8 _ [some (.ref a), some (.ref p1), x2, x3, x4] (cor a G) :=
      fa_cons NoS.ex (f_ev (v := .non) ev_c fun _ _ => ns .non rfl)
      (fa_cons NoS.ex (f_ev (v := .int 0) ev_c fun _ _ => ns (.int 0) rfl)
      (fa_cons NoS.ex (f_ev (v := .bl true) ev_c fun _ _ => ns (.bl true) rfl)
      (fa_cons NoS.ex (f_lst (K := K) (xs := []) (el_lst ea_nil (by show 0 ≤ 100000; omega)) fun _ _ _ hr => ns (.lst hr) rfl)
      (fa_cons NoS.ex (f_tup (K := K) (xs := [.str "step", .int 0]) (fun H5 b5 Q5 q5 => tupx_rawX ((ea_cons ev_c (ea_cons ev_c ea_nil) : EvA _ _ _ [.str "step", .int 0]) H5 (Ex.refl H5) _ fun H6 e6 => ⟨sz_of (by show 2 ≤ 100000; omega), fun p o hp bo => q5 p _ _ (fresh_back e6 hp) (e6.trans (Ex.new hp)) upd_same (.inr ⟨o, rfl⟩)⟩)) fun _ _ _ hr => ns (.tup hr) rfl)
      (fa_cons NoS.ex (f_lst (K := K) (xs := [.str "step 0"]) (el_lst (ea_cons ev_c ea_nil) (by show 1 ≤ 100000; omega)) fun _ _ _ hr => ns (.lst hr) rfl)
      (fa_cons NoS.ex (f_dct fun _ _ _ hr => ns (.dK hr) rfl)
      (fa_cons NoS.ex (f_ev (te := tVar 1) (v := .ref p1) (ev_var rfl) fun _ bG => ns (.lst (ex_l bG b1G)) rfl)
      fa_nil)))))))
    refine q_forRaw (lst_raw (odds (cor a G) G (Ex.refl _) cor_sub _ fun vs G2 H2 g2 gh2 e2 nw pvs lv => ⟨sz_of (by omega), fun pl hpl => ⟨pl, rfl, ⟨vs, sq_of upd_same⟩, ?_⟩⟩))
    have s2 := zz.ex (e2.trans (Ex.new (o := .lst vs) hpl))
    have h2 : (upd H2 pl (.lst vs)) pl = some (.lst vs) := upd_same
    have pla : pl ≠ a := by
      obtain ⟨x, y, hx, _⟩ := (zz.ex e2).pot
      exact (ne_of_none hx hpl).symm
    have na2 : G2 a = none := nw a (fun z => by
      obtain ⟨x, y, hx, _⟩ := zz.pot
      rw [hx] at z
      cases z) hol_self
    have g3 : Ex G2 (upd H2 pl (.lst vs)) := gh2.trans (Ex.new hpl)
    generalize upd H2 pl (.lst vs) = H3 at s2 h2 g3
    have eG2 : Ex (noT G2) (cor a H3) := fun b o h => by
      obtain ⟨h1, h2⟩ := noT_is h
      exact cor_at (g3 _ _ h1) h2 fun z => by rw [z, na2] at h1; cases h1
    have sC : Sit T (cor a H3) a H3 := ⟨Ex.refl _, s2.pot, s2.tb⟩
    refine forRaw (xs := vs) (fun i σ' G => ∃ x3, σ' = [some (.ref a), some (.ref p1), x2, x3, x4] ∧ Sit T (cor a H3) a G) ⟨x3, rfl, sC⟩ (fun i σ' G _ zz => ?_) (fun i x σ' G hi zz => ?_) (fun σ' G zz => ?_)
    · obtain ⟨_, _, zz⟩ := zz
      exact sq_of (zz.now _ _ (cor_at h2 (fun _ z => nomatch z) pla))
    · obtain ⟨x3, rfl, zz⟩ := zz
      have nsx := (noS_noT (pvs x (List.mem_of_getElem? hi))).ex (eG2.trans zz.nt)
      show tIfS _ _ _ _ [some (.ref a), some (.ref p1), x2, some x, x4] G
      refine ifs_raw (ne_raw (T := T) zz.tb (eh_of (eb_call (ea_cons (ev_var rfl) ea_nil) (sb_noS nsx))) ok_txtA (hb_lst fun G1 eG1 => el_lst (ea_cons ev_c (ea_cons ev_c (ea_cons ev_c ea_nil))) (by show 3 ≤ 100000; omega)) fun G1 eG1 TG1 => ?_)
      rw [if_neg Bool.false_ne_true]
      exact ⟨some x, rfl, zz.lam eG1 TG1⟩
    obtain ⟨x3, rfl, zz3⟩ := zz
    have sF : Sit T (cor a H1) a G := ⟨s2.x.trans zz3.x, zz3.pot, zz3.tb⟩
    refine q_ifRM (or_raw (not_raw (B_raw (call_raw0 (cons1_raw (ev_raw ev_c fun G1 g1 => ⟨"", rfl, (sF.ex g1).tb, by decide, fun G2 y2 T2 => ⟨true, rfl, ?_⟩⟩))))))
    rw [if_neg (by decide)]
    have sF2 := (sF.ex g1).lam y2 T2
    refine or_raw (not_raw (B_raw (call_raw0 (cons1_raw (ev_raw ev_c fun G3 g3 => ⟨"step", rfl, (sF2.ex g3).tb, by decide, fun G4 y4 T4 => ⟨true, rfl, ?_⟩⟩)))))
    rw [if_neg (by decide)]
    have sF4 := (sF2.ex g3).lam y4 T4
    refine not_raw (B_raw (call_raw0 (cons1_raw (ev_raw ev_c fun G5 g5 => ⟨"undo", rfl, (sF4.ex g5).tb, by decide, fun G6 y6 T6 => ⟨true, rfl, ?_⟩⟩))))
    rw [if_neg (by decide)]
    have sF6 := (sF4.ex g5).lam y6 T6
    refine nx_raw ?_
    obtain ⟨v0, vr, rfl⟩ : ∃ v0 vr, xs = v0 :: vr := by
      cases xs with
      | nil => cases l8
      | cons v0 vr => exact ⟨v0, vr, rfl⟩
    obtain ⟨d0, hd0, g0⟩ := dB v0 List.mem_cons_self
    refine s_retR (call_raw0 (cons_raw (ev_var (v := .ref a) rfl) fun G7 g7 => cons1_raw (ev_raw (ev_op (ev_var rfl) ev_c (rv_ixL (sq_of ((sF6.ex g7).now _ _ b1)) (atI_nat (j := 0) rfl))) fun G8 g8 => ⟨a, v0, d0, rfl, ((sF6.ex g7).ex g8).pot, ((sF6.ex g7).ex g8).tb, hd0.ex ((sF6.ex g7).ex g8).x, g0, fun G9 y9 p9 T9 => q G9 (toH.trans (((sF6.ex g7).ex g8).x.trans y9)) T9⟩)))
theorem sq_noT (h : SqL K H a xs) : SqL K (noT H) a xs := sqL_noT h
theorem ok_law (T : Txt K mg w) (G_Lright : FnG P w K mg base CX0 14 T.f_Lright T.fd_Lright ["_law_pot_here"] (sp_LrightP T)) (G_Lpot : FnG P w K mg base CX0 1 T.f_Lpot T.fd_Lpot ["_law_script", "_law_k"] (sp_Lpot K)) : FnG P w K mg base CX0 15 T.f_law T.fd_law ["_law_script"] (sp_lawT K [(T.c_Lact_right, T.p_Lact_right), (T.c_Lline_right, T.p_Lline_right), (T.c_Lright, T.p_Lright)]) := by
  skip
  refine okG T.F_law sc_law (fun vs H Q E h => ?_) (fun cdv A outer s H vs Q E gd hr h => ?_)
  · obtain ⟨_, _, rfl, _⟩ := h
    all_goals rfl
  · obtain ⟨a, ns, rfl, hs, hl, hts, q⟩ := h
    refine ⟨_, (pss_one (ps_ret (pe_callB (cr_all rfl) (by rfl) T.z_all boot_all (pa_cons (pe_lc (own := [("_law_k", 1)]) (g := gName 1) rfl sc_law.nd (pi_range1 (by rfl) T.z_range (pa_cons (pe_callB (call_max2 rfl) (by rfl) T.z_max boot_max (pa_cons pe_int (pa_cons (pe_callB (call_min2 rfl) (by rfl) T.z_min boot_min (pa_cons (pe_callB call_len_seq (by rfl) T.z_len PySem.boot_len (pa_cons (pv 0) pa_nil)) (pa_cons pe_int pa_nil))) pa_nil))) pa_nil)) (blkOk_by (N := N_law) (sc := defScope s_law) (by decide +kernel)) (fun _ _ _ _ _ => (pg_name (i := 1) sc_law.nd rfl (Or.inl rfl) (Or.inr rfl))) (fun _ _ _ _ _ => pts_nil) (fun _ _ _ _ _ => (pc gd G_Lright (hr.mono (by decide)) (by rfl) T.m_Lright T.F_Lright.kp T.b_Lright .nil pass0 (pa_cons (pc gd G_Lpot (hr.mono (by decide)) (by rfl) T.m_Lpot T.F_Lpot.kp T.b_Lpot .nil pass0 (pa_cons (pv 0) (pa_cons (pv 1) pa_nil))) pa_nil)))) pa_nil)))), ?_⟩
    have hT : LamX.Tabs T.tabs H := fun p hp => by
      simp only [Txt.tabs, List.mem_cons, List.not_mem_nil, or_false] at hp
      rcases hp with rfl | rfl | rfl
      · exact LamX.TabS.nil (hts (T.c_Lact_right, T.p_Lact_right) List.mem_cons_self)
      · exact LamX.TabS.nil (hts (T.c_Lline_right, T.p_Lline_right) (List.mem_cons_of_mem _ List.mem_cons_self))
      · exact LamX.TabS.nil (hts (T.c_Lright, T.p_Lright) (List.mem_cons_of_mem _ (List.mem_cons_of_mem _ List.mem_cons_self)))
    have hn : ∃ n : Nat, n ≤ 3 ∧ Ev (tCB (fun xs H Q => ∃ i j, xs = [V.int i, V.int j] ∧ Q (.int (if j > i then j else i)) H) (tCons (tC (.int 1)) (tCons (tCB (fun xs H Q => ∃ i j, xs = [V.int i, V.int j] ∧ Q (.int (if j < i then j else i)) H) (tCons (tCB (rLenS K) (tCons (tVar 0) tNil)) (tCons (tC (.int 3)) tNil))) tNil))) [some (.ref a), none] H (nV n) := by
      refine ⟨if ns.length < 3 then max 1 ns.length else 3, by split <;> omega, ev_is (ev_cb (ea_cons ev_c (ea_cons (ev_cb (ea_cons (ev_cb (ea_cons (ev_var rfl) ea_nil) (rc_lenL hs)) (ea_cons ev_c ea_nil)) rc_min2) ea_nil)) rc_max2) (congrArg V.int ?_)⟩
      rw [List.length_map]
      split <;> split <;> split <;> omega
    obtain ⟨n, hn2, hev⟩ := hn
    refine s_retR (cb1_raw (lc_R1 (n := n) (fun Dl i H' => Ex (noT H) H' ∧ LamX.Tabs T.tabs H' ∧ H' Dl = some (.lst (List.replicate i (V.bl true))) ∧ H Dl = none) (ea_cons hev ea_nil) (by omega) (fun H1 Dl e1 hD => ?_) (fun Dl i H' hi z => ?_) (fun Dl H' z => ?_)))
    · exact ⟨(noT_sub.trans e1).trans (Ex.new hD), (hT.ext e1).ext (Ex.new hD), upd_same, fresh_back e1 hD⟩
    · obtain ⟨x1, T1, hDl, hD0⟩ := z
      refine ⟨rfl, yes_raw (call_raw0 (cons1_raw (call_raw0 (cons_raw (ev_var (v := .ref a) rfl) fun H2 e2 => cons1_raw (ev_raw (ev_var (v := nV i) rfl) fun H3 e3 => ⟨a, ns, i, rfl, ex_l (x1.trans (e2.trans e3)) (sq_noT hs), hl, by omega, fun H4 p hp e4 p4 => ⟨p, rfl, p4, T1.ext (e2.trans (e3.trans e4)), fun H5 x5 T5 => ?_⟩⟩)))))⟩
      have e23 := e2.trans e3
      have keep : ∀ b o, H3 b = some o → (∀ ps, o ≠ .tbl ps) → H5 b = some o := fun b o hb n => x5 _ _ (cor_at (e4 _ _ hb) n (ne_of_none hb hp))
      have h5 : H5 Dl = some (.lst (List.replicate i (V.bl true))) := keep _ _ (e23 _ _ hDl) fun _ z => nomatch z
      have y5 : Ex (noT H) H5 := fun b o hb => keep b o (e23 _ _ (x1 _ _ hb)) (noT_is hb).2
      have hD1 : noT H Dl = none := by
        unfold noT
        rw [hD0]
      exact ⟨_, h5, (by rw [List.length_replicate, sizeLine_eq]; omega), Ex.mut y5 hD1, tabs_but T5 h5 (fun b o hb h => by rw [upd_ne hb]; exact h), by rw [upd_same, ← List.replicate_succ'], hD0⟩
    · obtain ⟨x1, T1, hDl, hD0⟩ := z
      refine ⟨Dl, List.replicate n true, rfl, sq_of (by rw [hDl, List.map_replicate]), ?_⟩
      rw [rep_all]
      exact q H'
theorem law_startT {K : PySem.W.Frag} {ts : List (Addr × Addr)} {H : Hp} {a : Addr} {ns : List Int} (h : SqL K H a (ns.map V.int)) (hl : ns.length ≤ 63) (ht : ∀ p ∈ ts, H p.2 = some (.tbl #[])) : sp_lawT K ts [.ref a] H (fun v _ => v = .bl true) fun _ _ _ => False := ⟨a, ns, rfl, h, hl, ht, fun _ => rfl⟩
end
end My
namespace My
open PySem PySem.Spec PyProof.Rows L2 GL Evl StX SkE
section
variable {P : Program} {w : World} {K : PySem.W.Frag} {mg : Str → Option Value} {base : Heap}
theorem ok_text (T : Txt K mg w) (tb_Lact_right : LamX.TabB base mg T.c_Lact_right T.p_Lact_right) (tb_Lline_right : LamX.TabB base mg T.c_Lline_right T.p_Lline_right) (tb_Lright : LamX.TabB base mg T.c_Lright T.p_Lright) : FnG P w K mg base CX0 15 T.f_law T.fd_law ["_law_script"] (sp_lawT K [(T.c_Lact_right, T.p_Lact_right), (T.c_Lline_right, T.p_Lline_right), (T.c_Lright, T.p_Lright)]) := by
  have G_Ldraw : FnG P w K mg base CX0 1 T.f_Ldraw T.fd_Ldraw ["_law_pot_here", "_law_sides"] sp_Ldraw := My.ok_Ldraw T 
  have G_Lpick : FnG P w K mg base CX0 2 T.f_Lpick T.fd_Lpick ["_law_pot_here", "_law_some"] sp_Lpick := My.ok_Lpick T G_Ldraw
  have G_Llots : FnG P w K mg base CX0 1 T.f_Llots T.fd_Llots [] sp_Llots := My.ok_Llots T 
  have G_Lnumber : FnG P w K mg base CX0 3 T.f_Lnumber T.fd_Lnumber ["_law_pot_here"] sp_Lnumber := My.ok_Lnumber T G_Lpick G_Ldraw
  have G_Lact : FnG P w K mg base CX0 4 T.f_Lact T.fd_Lact ["_law_pot_here"] (sp_Lact K) := My.ok_Lact T G_Lpick G_Llots G_Lnumber G_Ldraw
  have G_Lspelled : FnG P w K mg base CX0 1 T.f_Lspelled T.fd_Lspelled ["_law_act_here"] (sp_Lspelled K) := My.ok_Lspelled T 
  have G_is_an_integer : FnG P w K mg base CX0 1 T.f_is_an_integer T.fd_is_an_integer ["value"] (sp_isint K) := My.ok_is_an_integer T 
  have G_is_deed : FnG P w K mg base CX0 2 T.f_is_deed T.fd_is_deed ["value"] (sp_isdeed K) := My.ok_is_deed T G_is_an_integer
  have G_line_from : FnG P w K mg base CX0 1 T.f_line_from T.fd_line_from ["parts"] (sp_lineZ K) := My.ok_line_from T 
  have G_line_ofX : FnG P w K mg base (L2.CX P w) 4 T.f_line_of T.fd_line_of ["deed"] (sp_lineofX K T.C_InvalidDeed) := My.ok_line_ofX T G_is_deed G_line_from
  have G_Linteger : FnG P w K mg base CX0 1 T.f_Linteger T.fd_Linteger ["_law_word"] sp_Linteger := My.ok_Linteger T 
  have G_Lread : FnG P w K mg base CX0 2 T.f_Lread T.fd_Lread ["_law_spelled_here"] (sp_Lread K) := My.ok_Lread T G_Llots G_Linteger
  have G_is_numeral : FnG P w K mg base CX0 1 T.f_is_numeral T.fd_is_numeral ["word"] sp_isnumG := My.ok_is_numeral T 
  have G_deed_from : FnG P w K mg base CX0 4 T.f_deed_from T.fd_deed_from ["value"] (sp_dfrom K) := My.ok_deed_from T G_is_numeral G_is_deed
  have G_read_deedX : FnG P w K mg base (L2.CX P w) 5 T.f_read_deed T.fd_read_deed ["line"] (sp_rdeedX K T.C_InvalidText) := My.ok_read_deedX T G_deed_from
  have G_Lline_right : FnG P w K mg base CX0 12 T.f_Lline_right T.fd_Lline_right ["_law_spelled_here"] (sp_Llr T) := My.ok_Lline_right T G_Lread G_read_deedX tb_Lline_right
  have G_Lodd_acts : FnG P w K mg base CX0 3 T.f_Lodd_acts T.fd_Lodd_acts ["_law_pot_here", "_law_act_here"] (sp_Lodds K) := My.ok_Lodd_acts T G_Ldraw G_Lspelled
  have G_Lact_right : FnG P w K mg base CX0 13 T.f_Lact_right T.fd_Lact_right ["_law_pot_here", "_law_act_here"] (sp_Lar T) := My.ok_Lact_right T G_Lspelled G_line_ofX G_Lline_right G_Lread G_Lodd_acts tb_Lact_right
  have G_Lbent : FnG P w K mg base CX0 3 T.f_Lbent T.fd_Lbent ["_law_pot_here", "_law_spelled_here"] (sp_Lbent K) := My.ok_Lbent T G_Ldraw G_Lpick G_Llots
  have G_Lright : FnG P w K mg base CX0 14 T.f_Lright T.fd_Lright ["_law_pot_here"] (sp_LrightP T) := My.ok_Lright T G_Lact G_Lact_right G_Lline_right G_Lbent G_Lspelled G_read_deedX tb_Lright
  have G_Lpot : FnG P w K mg base CX0 1 T.f_Lpot T.fd_Lpot ["_law_script", "_law_k"] (sp_Lpot K) := My.ok_Lpot T 
  have G_law : FnG P w K mg base CX0 15 T.f_law T.fd_law ["_law_script"] (sp_lawT K [(T.c_Lact_right, T.p_Lact_right), (T.c_Lline_right, T.p_Lline_right), (T.c_Lright, T.p_Lright)]) := My.ok_law T G_Lright G_Lpot
  exact G_law
end
theorem tabIn_mk {K : PySem.W.Frag} {x : Str} {f c P : Addr} {o1 p1 : Value} {o2 p2 : Option Addr} {o3 p3 : Array (Option Value)} {fd : FuncData} {vs : Array Value} (h1 : PySem.W.nsIn K mainGlobals x = some (some (.ref f))) (h2 : K.lookup f = some ⟨o1, o2, .func fd, o3⟩) (h3 : fd.code = .ref c) (h4 : K.lookup c = some ⟨p1, p2, .fields vs, p3⟩) (h5 : vs[11]? = some (.ref P)) : PySem.W.tabIn K x = some (c, P) := by
  unfold PySem.W.tabIn
  rw [h1]
  simp only [h2, h3, h4, h5]
theorem all_mk {l : PySem.W.OpenLaw} {w : World} {K : PySem.W.Frag} {h : Heap} {mg : Str → Option Value} {fa : Addr} (X : K.In h) (G : h.Ns mainGlobals mg) (hfa : mg "law" = some (.ref fa))
    {f1 f2 f3 f4 f5 f6 f7 f8 f9 f10 f11 f12 f13 f14 f15 f16 f17 f18 f19 f20 cc20 pp20 f21 cc21 pp21 f22 cc22 pp22 f23 cx1 ix1 cx2 ix2 cb_WayError T_DEED_SIZES : Addr} {od1 an1 od2 an2 od3 an3 od4 an4 od5 an5 od6 an6 od7 an7 od8 an8 od9 an9 od10 an10 od11 an11 od12 an12 od13 an13 od14 an14 od15 an15 od16 an16 od17 an17 od18 an18 od19 an19 od20 an20 tod20 od21 an21 tod21 od22 an22 tod22 od23 an23 xod1 xan1 xod2 xan2 : Option Addr} {sl1 sl2 sl3 sl4 sl5 sl6 sl7 sl8 sl9 sl10 sl11 sl12 sl13 sl14 sl15 sl16 sl17 sl18 sl19 sl20 tsl20 sl21 tsl21 sl22 tsl22 sl23 xsl1 xsl2 : Array (Option Value)} {oc1 kV1 dc1 pm1 cd1 ct1 oc2 kV2 dc2 pm2 cd2 ct2 oc3 kV3 dc3 pm3 cd3 ct3 oc4 kV4 dc4 pm4 cd4 ct4 oc5 kV5 dc5 pm5 cd5 ct5 oc6 kV6 dc6 pm6 cd6 ct6 oc7 kV7 dc7 pm7 cd7 ct7 oc8 kV8 dc8 pm8 cd8 ct8 oc9 kV9 dc9 pm9 cd9 ct9 oc10 kV10 dc10 pm10 cd10 ct10 oc11 kV11 dc11 pm11 cd11 ct11 oc12 kV12 dc12 pm12 cd12 ct12 oc13 kV13 dc13 pm13 cd13 ct13 oc14 kV14 dc14 pm14 cd14 ct14 oc15 kV15 dc15 pm15 cd15 ct15 oc16 kV16 dc16 pm16 cd16 ct16 oc17 kV17 dc17 pm17 cd17 ct17 oc18 kV18 dc18 pm18 cd18 ct18 oc19 kV19 dc19 pm19 cd19 ct19 oc20 kV20 dc20 pm20 ct20 toc20 oc21 kV21 dc21 pm21 ct21 toc21 oc22 kV22 dc22 pm22 ct22 toc22 oc23 kV23 dc23 pm23 cd23 ct23 xoc1 xdc1 xpm1 xcd1 xct1 xoc2 xdc2 xpm2 xcd2 xct2 : Value} {n_DEED_SIZES : Nat} {t_DIGITS : Tok} {tvs20 tvs21 tvs22 : Array Value} {es_DEED_SIZES : Array DictEntry}
    (a1 : PySem.W.nsIn K mainGlobals "is_an_integer" = some (some (.ref f1)))
    (l1 : K.lookup f1 = some ⟨oc1, od1, .func (PySem.W.fnOf "is_an_integer" "is_an_integer" (defArgs s_is_an_integer) (defBody s_is_an_integer) (defScope s_is_an_integer) .none kV1 dc1 pm1 an1 cd1 ct1), sl1⟩)
    (c1 : PySem.W.codeIn K cd1 "is_an_integer" = true)
    (k1 : PySem.W.keepIn K (.ref f1) = true)
    (a2 : PySem.W.nsIn K mainGlobals "is_deed" = some (some (.ref f2)))
    (l2 : K.lookup f2 = some ⟨oc2, od2, .func (PySem.W.fnOf "is_deed" "is_deed" (defArgs s_is_deed) (defBody s_is_deed) (defScope s_is_deed) .none kV2 dc2 pm2 an2 cd2 ct2), sl2⟩)
    (c2 : PySem.W.codeIn K cd2 "is_deed" = true)
    (k2 : PySem.W.keepIn K (.ref f2) = true)
    (a3 : PySem.W.nsIn K mainGlobals "is_numeral" = some (some (.ref f3)))
    (l3 : K.lookup f3 = some ⟨oc3, od3, .func (PySem.W.fnOf "is_numeral" "is_numeral" (defArgs s_is_numeral) (defBody s_is_numeral) (defScope s_is_numeral) .none kV3 dc3 pm3 an3 cd3 ct3), sl3⟩)
    (c3 : PySem.W.codeIn K cd3 "is_numeral" = true)
    (k3 : PySem.W.keepIn K (.ref f3) = true)
    (a4 : PySem.W.nsIn K mainGlobals "line_from" = some (some (.ref f4)))
    (l4 : K.lookup f4 = some ⟨oc4, od4, .func (PySem.W.fnOf "line_from" "line_from" (defArgs s_line_from) (defBody s_line_from) (defScope s_line_from) .none kV4 dc4 pm4 an4 cd4 ct4), sl4⟩)
    (c4 : PySem.W.codeIn K cd4 "line_from" = true)
    (k4 : PySem.W.keepIn K (.ref f4) = true)
    (a5 : PySem.W.nsIn K mainGlobals "line_of" = some (some (.ref f5)))
    (l5 : K.lookup f5 = some ⟨oc5, od5, .func (PySem.W.fnOf "line_of" "line_of" (defArgs s_line_of) (defBody s_line_of) (defScope s_line_of) .none kV5 dc5 pm5 an5 cd5 ct5), sl5⟩)
    (c5 : PySem.W.codeIn K cd5 "line_of" = true)
    (k5 : PySem.W.keepIn K (.ref f5) = true)
    (a6 : PySem.W.nsIn K mainGlobals "deed_from" = some (some (.ref f6)))
    (l6 : K.lookup f6 = some ⟨oc6, od6, .func (PySem.W.fnOf "deed_from" "deed_from" (defArgs s_deed_from) (defBody s_deed_from) (defScope s_deed_from) .none kV6 dc6 pm6 an6 cd6 ct6), sl6⟩)
    (c6 : PySem.W.codeIn K cd6 "deed_from" = true)
    (k6 : PySem.W.keepIn K (.ref f6) = true)
    (a7 : PySem.W.nsIn K mainGlobals "read_deed" = some (some (.ref f7)))
    (l7 : K.lookup f7 = some ⟨oc7, od7, .func (PySem.W.fnOf "read_deed" "read_deed" (defArgs s_read_deed) (defBody s_read_deed) (defScope s_read_deed) .none kV7 dc7 pm7 an7 cd7 ct7), sl7⟩)
    (c7 : PySem.W.codeIn K cd7 "read_deed" = true)
    (k7 : PySem.W.keepIn K (.ref f7) = true)
    (a8 : PySem.W.nsIn K mainGlobals "_law_pot" = some (some (.ref f8)))
    (l8 : K.lookup f8 = some ⟨oc8, od8, .func (PySem.W.fnOf "_law_pot" "_law_pot" (defArgs s_Lpot) (defBody s_Lpot) (defScope s_Lpot) .none kV8 dc8 pm8 an8 cd8 ct8), sl8⟩)
    (c8 : PySem.W.codeIn K cd8 "_law_pot" = true)
    (k8 : PySem.W.keepIn K (.ref f8) = true)
    (a9 : PySem.W.nsIn K mainGlobals "_law_draw" = some (some (.ref f9)))
    (l9 : K.lookup f9 = some ⟨oc9, od9, .func (PySem.W.fnOf "_law_draw" "_law_draw" (defArgs s_Ldraw) (defBody s_Ldraw) (defScope s_Ldraw) .none kV9 dc9 pm9 an9 cd9 ct9), sl9⟩)
    (c9 : PySem.W.codeIn K cd9 "_law_draw" = true)
    (k9 : PySem.W.keepIn K (.ref f9) = true)
    (a10 : PySem.W.nsIn K mainGlobals "_law_pick" = some (some (.ref f10)))
    (l10 : K.lookup f10 = some ⟨oc10, od10, .func (PySem.W.fnOf "_law_pick" "_law_pick" (defArgs s_Lpick) (defBody s_Lpick) (defScope s_Lpick) .none kV10 dc10 pm10 an10 cd10 ct10), sl10⟩)
    (c10 : PySem.W.codeIn K cd10 "_law_pick" = true)
    (k10 : PySem.W.keepIn K (.ref f10) = true)
    (a11 : PySem.W.nsIn K mainGlobals "_law_lots" = some (some (.ref f11)))
    (l11 : K.lookup f11 = some ⟨oc11, od11, .func (PySem.W.fnOf "_law_lots" "_law_lots" (defArgs s_Llots) (defBody s_Llots) (defScope s_Llots) .none kV11 dc11 pm11 an11 cd11 ct11), sl11⟩)
    (c11 : PySem.W.codeIn K cd11 "_law_lots" = true)
    (k11 : PySem.W.keepIn K (.ref f11) = true)
    (a12 : PySem.W.nsIn K mainGlobals "_law_number" = some (some (.ref f12)))
    (l12 : K.lookup f12 = some ⟨oc12, od12, .func (PySem.W.fnOf "_law_number" "_law_number" (defArgs s_Lnumber) (defBody s_Lnumber) (defScope s_Lnumber) .none kV12 dc12 pm12 an12 cd12 ct12), sl12⟩)
    (c12 : PySem.W.codeIn K cd12 "_law_number" = true)
    (k12 : PySem.W.keepIn K (.ref f12) = true)
    (a13 : PySem.W.nsIn K mainGlobals "_law_act" = some (some (.ref f13)))
    (l13 : K.lookup f13 = some ⟨oc13, od13, .func (PySem.W.fnOf "_law_act" "_law_act" (defArgs s_Lact) (defBody s_Lact) (defScope s_Lact) .none kV13 dc13 pm13 an13 cd13 ct13), sl13⟩)
    (c13 : PySem.W.codeIn K cd13 "_law_act" = true)
    (k13 : PySem.W.keepIn K (.ref f13) = true)
    (a14 : PySem.W.nsIn K mainGlobals "_law_spelled" = some (some (.ref f14)))
    (l14 : K.lookup f14 = some ⟨oc14, od14, .func (PySem.W.fnOf "_law_spelled" "_law_spelled" (defArgs s_Lspelled) (defBody s_Lspelled) (defScope s_Lspelled) .none kV14 dc14 pm14 an14 cd14 ct14), sl14⟩)
    (c14 : PySem.W.codeIn K cd14 "_law_spelled" = true)
    (k14 : PySem.W.keepIn K (.ref f14) = true)
    (a15 : PySem.W.nsIn K mainGlobals "_law_integer" = some (some (.ref f15)))
    (l15 : K.lookup f15 = some ⟨oc15, od15, .func (PySem.W.fnOf "_law_integer" "_law_integer" (defArgs s_Linteger) (defBody s_Linteger) (defScope s_Linteger) .none kV15 dc15 pm15 an15 cd15 ct15), sl15⟩)
    (c15 : PySem.W.codeIn K cd15 "_law_integer" = true)
    (k15 : PySem.W.keepIn K (.ref f15) = true)
    (a16 : PySem.W.nsIn K mainGlobals "_law_read" = some (some (.ref f16)))
    (l16 : K.lookup f16 = some ⟨oc16, od16, .func (PySem.W.fnOf "_law_read" "_law_read" (defArgs s_Lread) (defBody s_Lread) (defScope s_Lread) .none kV16 dc16 pm16 an16 cd16 ct16), sl16⟩)
    (c16 : PySem.W.codeIn K cd16 "_law_read" = true)
    (k16 : PySem.W.keepIn K (.ref f16) = true)
    (a17 : PySem.W.nsIn K mainGlobals "_law_bent" = some (some (.ref f17)))
    (l17 : K.lookup f17 = some ⟨oc17, od17, .func (PySem.W.fnOf "_law_bent" "_law_bent" (defArgs s_Lbent) (defBody s_Lbent) (defScope s_Lbent) .none kV17 dc17 pm17 an17 cd17 ct17), sl17⟩)
    (c17 : PySem.W.codeIn K cd17 "_law_bent" = true)
    (k17 : PySem.W.keepIn K (.ref f17) = true)
    (a18 : PySem.W.nsIn K mainGlobals "_law_heard" = some (some (.ref f18)))
    (l18 : K.lookup f18 = some ⟨oc18, od18, .func (PySem.W.fnOf "_law_heard" "_law_heard" (defArgs s_Lheard) (defBody s_Lheard) (defScope s_Lheard) .none kV18 dc18 pm18 an18 cd18 ct18), sl18⟩)
    (c18 : PySem.W.codeIn K cd18 "_law_heard" = true)
    (k18 : PySem.W.keepIn K (.ref f18) = true)
    (a19 : PySem.W.nsIn K mainGlobals "_law_odd_acts" = some (some (.ref f19)))
    (l19 : K.lookup f19 = some ⟨oc19, od19, .func (PySem.W.fnOf "_law_odd_acts" "_law_odd_acts" (defArgs s_Lodd_acts) (defBody s_Lodd_acts) (defScope s_Lodd_acts) .none kV19 dc19 pm19 an19 cd19 ct19), sl19⟩)
    (c19 : PySem.W.codeIn K cd19 "_law_odd_acts" = true)
    (k19 : PySem.W.keepIn K (.ref f19) = true)
    (a20 : PySem.W.nsIn K mainGlobals "_law_act_right" = some (some (.ref f20)))
    (l20 : K.lookup f20 = some ⟨oc20, od20, .func (PySem.W.fnOf "_law_act_right" "_law_act_right" (defArgs s_Lact_right) (defBody s_Lact_right) (defScope s_Lact_right) .none kV20 dc20 pm20 an20 (.ref cc20) ct20), sl20⟩)
    (c20 : PySem.W.codeIn K (.ref cc20) "_law_act_right" = true)
    (tl20 : K.lookup cc20 = some ⟨toc20, tod20, .fields tvs20, tsl20⟩)
    (tv20 : tvs20[11]? = some (.ref pp20))
    (tn20 : K.lookup pp20 = none)
    (k20 : PySem.W.keepIn K (.ref f20) = true)
    (a21 : PySem.W.nsIn K mainGlobals "_law_line_right" = some (some (.ref f21)))
    (l21 : K.lookup f21 = some ⟨oc21, od21, .func (PySem.W.fnOf "_law_line_right" "_law_line_right" (defArgs s_Lline_right) (defBody s_Lline_right) (defScope s_Lline_right) .none kV21 dc21 pm21 an21 (.ref cc21) ct21), sl21⟩)
    (c21 : PySem.W.codeIn K (.ref cc21) "_law_line_right" = true)
    (tl21 : K.lookup cc21 = some ⟨toc21, tod21, .fields tvs21, tsl21⟩)
    (tv21 : tvs21[11]? = some (.ref pp21))
    (tn21 : K.lookup pp21 = none)
    (k21 : PySem.W.keepIn K (.ref f21) = true)
    (a22 : PySem.W.nsIn K mainGlobals "_law_right" = some (some (.ref f22)))
    (l22 : K.lookup f22 = some ⟨oc22, od22, .func (PySem.W.fnOf "_law_right" "_law_right" (defArgs s_Lright) (defBody s_Lright) (defScope s_Lright) .none kV22 dc22 pm22 an22 (.ref cc22) ct22), sl22⟩)
    (c22 : PySem.W.codeIn K (.ref cc22) "_law_right" = true)
    (tl22 : K.lookup cc22 = some ⟨toc22, tod22, .fields tvs22, tsl22⟩)
    (tv22 : tvs22[11]? = some (.ref pp22))
    (tn22 : K.lookup pp22 = none)
    (k22 : PySem.W.keepIn K (.ref f22) = true)
    (a23 : PySem.W.nsIn K mainGlobals "law" = some (some (.ref f23)))
    (l23 : K.lookup f23 = some ⟨oc23, od23, .func (PySem.W.fnOf "law" "law" (defArgs s_law) (defBody s_law) (defScope s_law) .none kV23 dc23 pm23 an23 cd23 ct23), sl23⟩)
    (c23 : PySem.W.codeIn K cd23 "law" = true)
    (k23 : PySem.W.keepIn K (.ref f23) = true)
    (xa1 : PySem.W.nsIn K mainGlobals "InvalidDeed" = some (some (.ref cx1)))
    (xi1 : PySem.W.excInitIn K cx1 bm_ValueError "ValueError.__new__" = true)
    (xo1 : PySem.W.excOver K cx1 bm_ValueError = true)
    (xs1 : PySem.W.findIn K (.ref cx1) "__setattr__" = some (some (.builtin "object.__setattr__")))
    (xg1 : PySem.W.findIn K (.ref cx1) "__getattribute__" = some (some (.builtin "BaseException.__getattribute__")))
    (xh1 : PySem.W.findIn K (.ref cx1) "__getattr__" = some none)
    (xc1 : PySem.W.findIn K (.ref cx1) "__init__" = some (some (.ref ix1)))
    (xf1 : PySem.W.isFn K (.ref ix1) = true)
    (xk1 : PySem.W.keepIn K (.ref cx1) = true)
    (xb1 : PySem.W.subIn K (.ref cx1) (.type "BaseException") = some true)
    (xt1 : PySem.W.typeIn K (.ref cx1) = some (.type "type"))
    (xd1 : PySem.W.hasDictIn K cx1 = true)
    (xl1 : K.lookup ix1 = some ⟨xoc1, xod1, .func (PySem.W.fnOf "__init__" "InvalidDeed.__init__" (defArgs s_E_InvalidDeed) (defBody s_E_InvalidDeed) (defScope s_E_InvalidDeed) .none .none xdc1 xpm1 xan1 xcd1 xct1), xsl1⟩)
    (xe1 : PySem.W.codeIn K xcd1 "InvalidDeed.__init__" = true)
    (xn1 : PySem.W.takerIn K cx1 "value" = some none)
    (xm1 : PySem.W.findIn K (.ref cx1) "value" = some none)
    (xa2 : PySem.W.nsIn K mainGlobals "InvalidText" = some (some (.ref cx2)))
    (xi2 : PySem.W.excInitIn K cx2 bm_ValueError "ValueError.__new__" = true)
    (xo2 : PySem.W.excOver K cx2 bm_ValueError = true)
    (xs2 : PySem.W.findIn K (.ref cx2) "__setattr__" = some (some (.builtin "object.__setattr__")))
    (xg2 : PySem.W.findIn K (.ref cx2) "__getattribute__" = some (some (.builtin "BaseException.__getattribute__")))
    (xh2 : PySem.W.findIn K (.ref cx2) "__getattr__" = some none)
    (xc2 : PySem.W.findIn K (.ref cx2) "__init__" = some (some (.ref ix2)))
    (xf2 : PySem.W.isFn K (.ref ix2) = true)
    (xk2 : PySem.W.keepIn K (.ref cx2) = true)
    (xb2 : PySem.W.subIn K (.ref cx2) (.type "BaseException") = some true)
    (xt2 : PySem.W.typeIn K (.ref cx2) = some (.type "type"))
    (xd2 : PySem.W.hasDictIn K cx2 = true)
    (xl2 : K.lookup ix2 = some ⟨xoc2, xod2, .func (PySem.W.fnOf "__init__" "InvalidText.__init__" (defArgs s_E_InvalidText) (defBody s_E_InvalidText) (defScope s_E_InvalidText) .none .none xdc2 xpm2 xan2 xcd2 xct2), xsl2⟩)
    (xe2 : PySem.W.codeIn K xcd2 "InvalidText.__init__" = true)
    (xn2 : PySem.W.takerIn K cx2 "line" = some none)
    (xm2 : PySem.W.findIn K (.ref cx2) "line" = some none)
    (ab_WayError : PySem.W.nsIn K mainGlobals "WayError" = some (some (.ref cb_WayError)))
    (x_get : PySem.W.specialIn K (.builtin "object.__class__") "__get__" = some (some (.builtin "getset_descriptor.__get__")))
    (x_tk : PySem.W.takesIn K (.builtin "object.__class__") = some true)
    (xw1 : PySem.W.findIn K (.ref cx1) "__class__" = some (some (.builtin "object.__class__")))
    (xv1 : PySem.W.mroIn K cx1 (.type "object") = some true)
    (xu1 : PySem.W.kitOne K (.ref cx1) (.ref cb_WayError) = some true)
    (xw2 : PySem.W.findIn K (.ref cx2) "__class__" = some (some (.builtin "object.__class__")))
    (xv2 : PySem.W.mroIn K cx2 (.type "object") = some true)
    (xu2 : PySem.W.kitOne K (.ref cx2) (.ref cb_WayError) = some true)
    (xy1 : PySem.W.isClsIn K cx1 = true)
    (xz1_1 : PySem.W.subIn K (.ref cx1) (.ref cx1) = some true)
    (xz2_1 : PySem.W.subIn K (.ref cx2) (.ref cx1) = some false)
    (xy2 : PySem.W.isClsIn K cx2 = true)
    (xz2_2 : PySem.W.subIn K (.ref cx2) (.ref cx2) = some true)
    (z_abs : PySem.W.nsIn K mainGlobals "abs" = some none)
    (z_all : PySem.W.nsIn K mainGlobals "all" = some none)
    (z_bool : PySem.W.nsIn K mainGlobals "bool" = some none)
    (z_divmod : PySem.W.nsIn K mainGlobals "divmod" = some none)
    (z_int : PySem.W.nsIn K mainGlobals "int" = some none)
    (z_isinstance : PySem.W.nsIn K mainGlobals "isinstance" = some none)
    (z_len : PySem.W.nsIn K mainGlobals "len" = some none)
    (z_list : PySem.W.nsIn K mainGlobals "list" = some none)
    (z_max : PySem.W.nsIn K mainGlobals "max" = some none)
    (z_min : PySem.W.nsIn K mainGlobals "min" = some none)
    (z_range : PySem.W.nsIn K mainGlobals "range" = some none)
    (z_repr : PySem.W.nsIn K mainGlobals "repr" = some none)
    (z_str : PySem.W.nsIn K mainGlobals "str" = some none)
    (z_tuple : PySem.W.nsIn K mainGlobals "tuple" = some none)
    (g_DIGITS : PySem.W.nsIn K mainGlobals "DIGITS" = some (some (.str "0123456789" t_DIGITS)))
    (g_DEED_SIZES : PySem.W.nsIn K mainGlobals "DEED_SIZES" = some (some (.ref T_DEED_SIZES)))
    (h_DEED_SIZES : K.lookup T_DEED_SIZES = some ⟨.type "dict", none, .dict es_DEED_SIZES n_DEED_SIZES, #[]⟩)
    (y_DEED_SIZES : PySem.W.KeysLit w.params es_DEED_SIZES.toList)
    (x_DEED_SIZES : dkB K T_DEED_SIZES [("group", 1), ("limit", 2), ("strike", 1), ("take", 2), ("give", 2), ("move", 3), ("lift", 2), ("settle", 2), ("step", 1)] = true)
    (pne_0_1 : pp20 ≠ pp21)
    (pne_0_2 : pp20 ≠ pp22)
    (pne_1_2 : pp21 ≠ pp22)
    : ∃ (fd : FuncData) (ts : List (Addr × Addr)), (∀ p ∈ ts, ∃ y ∈ (["_law_act_right", "_law_line_right", "_law_right"] : List Str), PySem.W.tabIn K y = some p) ∧ (∀ p ∈ ts, K.lookup p.2 = none) ∧ (∀ (s : Shared) (v : Value), BindsTo s fd ⟨[v], []⟩ [("_law_script", v)]) ∧ ∀ base : Heap, K.In base → base.Ns mainGlobals mg → (∀ p ∈ ts, LamX.TabB base mg p.1 p.2) → FnG l.prog w K mg base CX0 15 fa fd ["_law_script"] (sp_lawT K ts) := by
  cases hfa.symm.trans (PySem.W.mg_of X G a23)
  have F1 := fun_mk (st := s_is_an_integer) l1 c1 k1
  have B1 := F1.binds (ps := ["value"]) fun _ _ _ _ _ _ us hl => match us, hl with | [_], _ => rfl
  have F2 := fun_mk (st := s_is_deed) l2 c2 k2
  have B2 := F2.binds (ps := ["value"]) fun _ _ _ _ _ _ us hl => match us, hl with | [_], _ => rfl
  have F3 := fun_mk (st := s_is_numeral) l3 c3 k3
  have B3 := F3.binds (ps := ["word"]) fun _ _ _ _ _ _ us hl => match us, hl with | [_], _ => rfl
  have F4 := fun_mk (st := s_line_from) l4 c4 k4
  have B4 := F4.binds (ps := ["parts"]) fun _ _ _ _ _ _ us hl => match us, hl with | [_], _ => rfl
  have F5 := fun_mk (st := s_line_of) l5 c5 k5
  have B5 := F5.binds (ps := ["deed"]) fun _ _ _ _ _ _ us hl => match us, hl with | [_], _ => rfl
  have F6 := fun_mk (st := s_deed_from) l6 c6 k6
  have B6 := F6.binds (ps := ["value"]) fun _ _ _ _ _ _ us hl => match us, hl with | [_], _ => rfl
  have F7 := fun_mk (st := s_read_deed) l7 c7 k7
  have B7 := F7.binds (ps := ["line"]) fun _ _ _ _ _ _ us hl => match us, hl with | [_], _ => rfl
  have F8 := fun_mk (st := s_Lpot) l8 c8 k8
  have B8 := F8.binds (ps := ["_law_script", "_law_k"]) fun _ _ _ _ _ _ us hl => match us, hl with | [_, _], _ => rfl
  have F9 := fun_mk (st := s_Ldraw) l9 c9 k9
  have B9 := F9.binds (ps := ["_law_pot_here", "_law_sides"]) fun _ _ _ _ _ _ us hl => match us, hl with | [_, _], _ => rfl
  have F10 := fun_mk (st := s_Lpick) l10 c10 k10
  have B10 := F10.binds (ps := ["_law_pot_here", "_law_some"]) fun _ _ _ _ _ _ us hl => match us, hl with | [_, _], _ => rfl
  have F11 := fun_mk (st := s_Llots) l11 c11 k11
  have B11 := F11.binds (ps := []) fun _ _ _ _ _ _ us hl => match us, hl with | [], _ => rfl
  have F12 := fun_mk (st := s_Lnumber) l12 c12 k12
  have B12 := F12.binds (ps := ["_law_pot_here"]) fun _ _ _ _ _ _ us hl => match us, hl with | [_], _ => rfl
  have F13 := fun_mk (st := s_Lact) l13 c13 k13
  have B13 := F13.binds (ps := ["_law_pot_here"]) fun _ _ _ _ _ _ us hl => match us, hl with | [_], _ => rfl
  have F14 := fun_mk (st := s_Lspelled) l14 c14 k14
  have B14 := F14.binds (ps := ["_law_act_here"]) fun _ _ _ _ _ _ us hl => match us, hl with | [_], _ => rfl
  have F15 := fun_mk (st := s_Linteger) l15 c15 k15
  have B15 := F15.binds (ps := ["_law_word"]) fun _ _ _ _ _ _ us hl => match us, hl with | [_], _ => rfl
  have F16 := fun_mk (st := s_Lread) l16 c16 k16
  have B16 := F16.binds (ps := ["_law_spelled_here"]) fun _ _ _ _ _ _ us hl => match us, hl with | [_], _ => rfl
  have F17 := fun_mk (st := s_Lbent) l17 c17 k17
  have B17 := F17.binds (ps := ["_law_pot_here", "_law_spelled_here"]) fun _ _ _ _ _ _ us hl => match us, hl with | [_, _], _ => rfl
  have F18 := fun_mk (st := s_Lheard) l18 c18 k18
  have B18 := F18.binds (ps := ["_law_ask"]) fun _ _ _ _ _ _ us hl => match us, hl with | [_], _ => rfl
  have F19 := fun_mk (st := s_Lodd_acts) l19 c19 k19
  have B19 := F19.binds (ps := ["_law_pot_here", "_law_act_here"]) fun _ _ _ _ _ _ us hl => match us, hl with | [_, _], _ => rfl
  have tb20 := tabIn_mk (x := "_law_act_right") a20 l20 rfl tl20 tv20
  have F20 := fun_mk (st := s_Lact_right) l20 c20 k20
  have B20 := F20.binds (ps := ["_law_pot_here", "_law_act_here"]) fun _ _ _ _ _ _ us hl => match us, hl with | [_, _], _ => rfl
  have tb21 := tabIn_mk (x := "_law_line_right") a21 l21 rfl tl21 tv21
  have F21 := fun_mk (st := s_Lline_right) l21 c21 k21
  have B21 := F21.binds (ps := ["_law_spelled_here"]) fun _ _ _ _ _ _ us hl => match us, hl with | [_], _ => rfl
  have tb22 := tabIn_mk (x := "_law_right") a22 l22 rfl tl22 tv22
  have F22 := fun_mk (st := s_Lright) l22 c22 k22
  have B22 := F22.binds (ps := ["_law_pot_here"]) fun _ _ _ _ _ _ us hl => match us, hl with | [_], _ => rfl
  have F23 := fun_mk (st := s_law) l23 c23 k23
  have B23 := F23.binds (ps := ["_law_script"]) fun _ _ _ _ _ _ us hl => match us, hl with | [_], _ => rfl
  obtain ⟨xp1_1, xp2_1, xq1_1, xq2_1, xq3_1, xq4_1, xr1_1, xr2_1, xr3_1⟩ := sh_InvalidDeed
  rw [xr1_1, xr2_1, xr3_1] at xl1
  obtain ⟨xp1_2, xp2_2, xq1_2, xq2_2, xq3_2, xq4_2, xr1_2, xr2_2, xr3_2⟩ := sh_InvalidText
  rw [xr1_2, xr2_2, xr3_2] at xl2
  let T : Txt K mg w := {
    f_is_an_integer := f1,
    fd_is_an_integer := PySem.W.fnOf "is_an_integer" "is_an_integer" (defArgs s_is_an_integer) (defBody s_is_an_integer) (defScope s_is_an_integer) .none kV1 dc1 pm1 an1 cd1 ct1,
    F_is_an_integer := F1,
    b_is_an_integer := B1,
    m_is_an_integer := PySem.W.mg_of X G a1,
    f_is_deed := f2,
    fd_is_deed := PySem.W.fnOf "is_deed" "is_deed" (defArgs s_is_deed) (defBody s_is_deed) (defScope s_is_deed) .none kV2 dc2 pm2 an2 cd2 ct2,
    F_is_deed := F2,
    b_is_deed := B2,
    m_is_deed := PySem.W.mg_of X G a2,
    f_is_numeral := f3,
    fd_is_numeral := PySem.W.fnOf "is_numeral" "is_numeral" (defArgs s_is_numeral) (defBody s_is_numeral) (defScope s_is_numeral) .none kV3 dc3 pm3 an3 cd3 ct3,
    F_is_numeral := F3,
    b_is_numeral := B3,
    m_is_numeral := PySem.W.mg_of X G a3,
    f_line_from := f4,
    fd_line_from := PySem.W.fnOf "line_from" "line_from" (defArgs s_line_from) (defBody s_line_from) (defScope s_line_from) .none kV4 dc4 pm4 an4 cd4 ct4,
    F_line_from := F4,
    b_line_from := B4,
    m_line_from := PySem.W.mg_of X G a4,
    f_line_of := f5,
    fd_line_of := PySem.W.fnOf "line_of" "line_of" (defArgs s_line_of) (defBody s_line_of) (defScope s_line_of) .none kV5 dc5 pm5 an5 cd5 ct5,
    F_line_of := F5,
    b_line_of := B5,
    m_line_of := PySem.W.mg_of X G a5,
    k_line_of_deed := ⟨fun s us ws _ l1 l2 => match us, l1, ws, l2 with | [], _, [_], _ => .of_eq rfl, fun r1 r2 => sel_rel r1 .nil r2 _⟩,
    f_deed_from := f6,
    fd_deed_from := PySem.W.fnOf "deed_from" "deed_from" (defArgs s_deed_from) (defBody s_deed_from) (defScope s_deed_from) .none kV6 dc6 pm6 an6 cd6 ct6,
    F_deed_from := F6,
    b_deed_from := B6,
    m_deed_from := PySem.W.mg_of X G a6,
    f_read_deed := f7,
    fd_read_deed := PySem.W.fnOf "read_deed" "read_deed" (defArgs s_read_deed) (defBody s_read_deed) (defScope s_read_deed) .none kV7 dc7 pm7 an7 cd7 ct7,
    F_read_deed := F7,
    b_read_deed := B7,
    m_read_deed := PySem.W.mg_of X G a7,
    k_read_deed_line := ⟨fun s us ws _ l1 l2 => match us, l1, ws, l2 with | [], _, [_], _ => .of_eq rfl, fun r1 r2 => sel_rel r1 .nil r2 _⟩,
    f_Lpot := f8,
    fd_Lpot := PySem.W.fnOf "_law_pot" "_law_pot" (defArgs s_Lpot) (defBody s_Lpot) (defScope s_Lpot) .none kV8 dc8 pm8 an8 cd8 ct8,
    F_Lpot := F8,
    b_Lpot := B8,
    m_Lpot := PySem.W.mg_of X G a8,
    f_Ldraw := f9,
    fd_Ldraw := PySem.W.fnOf "_law_draw" "_law_draw" (defArgs s_Ldraw) (defBody s_Ldraw) (defScope s_Ldraw) .none kV9 dc9 pm9 an9 cd9 ct9,
    F_Ldraw := F9,
    b_Ldraw := B9,
    m_Ldraw := PySem.W.mg_of X G a9,
    f_Lpick := f10,
    fd_Lpick := PySem.W.fnOf "_law_pick" "_law_pick" (defArgs s_Lpick) (defBody s_Lpick) (defScope s_Lpick) .none kV10 dc10 pm10 an10 cd10 ct10,
    F_Lpick := F10,
    b_Lpick := B10,
    m_Lpick := PySem.W.mg_of X G a10,
    f_Llots := f11,
    fd_Llots := PySem.W.fnOf "_law_lots" "_law_lots" (defArgs s_Llots) (defBody s_Llots) (defScope s_Llots) .none kV11 dc11 pm11 an11 cd11 ct11,
    F_Llots := F11,
    b_Llots := B11,
    m_Llots := PySem.W.mg_of X G a11,
    f_Lnumber := f12,
    fd_Lnumber := PySem.W.fnOf "_law_number" "_law_number" (defArgs s_Lnumber) (defBody s_Lnumber) (defScope s_Lnumber) .none kV12 dc12 pm12 an12 cd12 ct12,
    F_Lnumber := F12,
    b_Lnumber := B12,
    m_Lnumber := PySem.W.mg_of X G a12,
    f_Lact := f13,
    fd_Lact := PySem.W.fnOf "_law_act" "_law_act" (defArgs s_Lact) (defBody s_Lact) (defScope s_Lact) .none kV13 dc13 pm13 an13 cd13 ct13,
    F_Lact := F13,
    b_Lact := B13,
    m_Lact := PySem.W.mg_of X G a13,
    f_Lspelled := f14,
    fd_Lspelled := PySem.W.fnOf "_law_spelled" "_law_spelled" (defArgs s_Lspelled) (defBody s_Lspelled) (defScope s_Lspelled) .none kV14 dc14 pm14 an14 cd14 ct14,
    F_Lspelled := F14,
    b_Lspelled := B14,
    m_Lspelled := PySem.W.mg_of X G a14,
    f_Linteger := f15,
    fd_Linteger := PySem.W.fnOf "_law_integer" "_law_integer" (defArgs s_Linteger) (defBody s_Linteger) (defScope s_Linteger) .none kV15 dc15 pm15 an15 cd15 ct15,
    F_Linteger := F15,
    b_Linteger := B15,
    m_Linteger := PySem.W.mg_of X G a15,
    f_Lread := f16,
    fd_Lread := PySem.W.fnOf "_law_read" "_law_read" (defArgs s_Lread) (defBody s_Lread) (defScope s_Lread) .none kV16 dc16 pm16 an16 cd16 ct16,
    F_Lread := F16,
    b_Lread := B16,
    m_Lread := PySem.W.mg_of X G a16,
    f_Lbent := f17,
    fd_Lbent := PySem.W.fnOf "_law_bent" "_law_bent" (defArgs s_Lbent) (defBody s_Lbent) (defScope s_Lbent) .none kV17 dc17 pm17 an17 cd17 ct17,
    F_Lbent := F17,
    b_Lbent := B17,
    m_Lbent := PySem.W.mg_of X G a17,
    f_Lheard := f18,
    fd_Lheard := PySem.W.fnOf "_law_heard" "_law_heard" (defArgs s_Lheard) (defBody s_Lheard) (defScope s_Lheard) .none kV18 dc18 pm18 an18 cd18 ct18,
    F_Lheard := F18,
    b_Lheard := B18,
    m_Lheard := PySem.W.mg_of X G a18,
    f_Lodd_acts := f19,
    fd_Lodd_acts := PySem.W.fnOf "_law_odd_acts" "_law_odd_acts" (defArgs s_Lodd_acts) (defBody s_Lodd_acts) (defScope s_Lodd_acts) .none kV19 dc19 pm19 an19 cd19 ct19,
    F_Lodd_acts := F19,
    b_Lodd_acts := B19,
    m_Lodd_acts := PySem.W.mg_of X G a19,
    c_Lact_right := cc20,
    p_Lact_right := pp20,
    FT_Lact_right := ⟨⟨_, _, _, _, _, _, _, _, rfl, l20, c20⟩⟩,
    f_Lact_right := f20,
    fd_Lact_right := PySem.W.fnOf "_law_act_right" "_law_act_right" (defArgs s_Lact_right) (defBody s_Lact_right) (defScope s_Lact_right) .none kV20 dc20 pm20 an20 (.ref cc20) ct20,
    F_Lact_right := F20,
    b_Lact_right := B20,
    m_Lact_right := PySem.W.mg_of X G a20,
    c_Lline_right := cc21,
    p_Lline_right := pp21,
    FT_Lline_right := ⟨⟨_, _, _, _, _, _, _, _, rfl, l21, c21⟩⟩,
    f_Lline_right := f21,
    fd_Lline_right := PySem.W.fnOf "_law_line_right" "_law_line_right" (defArgs s_Lline_right) (defBody s_Lline_right) (defScope s_Lline_right) .none kV21 dc21 pm21 an21 (.ref cc21) ct21,
    F_Lline_right := F21,
    b_Lline_right := B21,
    m_Lline_right := PySem.W.mg_of X G a21,
    c_Lright := cc22,
    p_Lright := pp22,
    FT_Lright := ⟨⟨_, _, _, _, _, _, _, _, rfl, l22, c22⟩⟩,
    f_Lright := f22,
    fd_Lright := PySem.W.fnOf "_law_right" "_law_right" (defArgs s_Lright) (defBody s_Lright) (defScope s_Lright) .none kV22 dc22 pm22 an22 (.ref cc22) ct22,
    F_Lright := F22,
    b_Lright := B22,
    m_Lright := PySem.W.mg_of X G a22,
    f_law := fa,
    fd_law := PySem.W.fnOf "law" "law" (defArgs s_law) (defBody s_law) (defScope s_law) .none kV23 dc23 pm23 an23 cd23 ct23,
    F_law := F23,
    b_law := B23,
    m_law := PySem.W.mg_of X G a23,
    C_InvalidDeed := cx1,
    I_InvalidDeed := ix1,
    X_InvalidDeed := ⟨⟨xi1, xo1, xs1, xg1, xh1, xc1, xf1, xk1, xb1, xt1, xd1⟩, xn1, xm1, ⟨_, _, _, _, _, _, _, _, _, _, _, _, _, _, _, xl1, xe1⟩⟩,
    m_InvalidDeed := PySem.W.mg_of X G xa1,
    C_InvalidText := cx2,
    I_InvalidText := ix2,
    X_InvalidText := ⟨⟨xi2, xo2, xs2, xg2, xh2, xc2, xf2, xk2, xb2, xt2, xd2⟩, xn2, xm2, ⟨_, _, _, _, _, _, _, _, _, _, _, _, _, _, _, xl2, xe2⟩⟩,
    m_InvalidText := PySem.W.mg_of X G xa2,
    C_WayError := cb_WayError,
    m_WayError := PySem.W.mg_of X G ab_WayError,
    ec_InvalidDeed := ⟨xg1, xh1, xb1, xd1, xw1, x_get, x_tk, xv1⟩,
    ib_InvalidDeed := xu1,
    ec_InvalidText := ⟨xg2, xh2, xb2, xd2, xw2, x_get, x_tk, xv2⟩,
    ib_InvalidText := xu2,
    q_InvalidDeed_InvalidDeed := exm_is xb1 xy1 xt1 xz1_1,
    q_InvalidText_InvalidDeed := exm_is xb1 xy1 xt1 xz2_1,
    q_InvalidText_InvalidText := exm_is xb2 xy2 xt2 xz2_2,
    z_abs := PySem.W.mg_none_of X G z_abs,
    z_all := PySem.W.mg_none_of X G z_all,
    z_bool := PySem.W.mg_none_of X G z_bool,
    z_divmod := PySem.W.mg_none_of X G z_divmod,
    z_int := PySem.W.mg_none_of X G z_int,
    z_isinstance := PySem.W.mg_none_of X G z_isinstance,
    z_len := PySem.W.mg_none_of X G z_len,
    z_list := PySem.W.mg_none_of X G z_list,
    z_max := PySem.W.mg_none_of X G z_max,
    z_min := PySem.W.mg_none_of X G z_min,
    z_range := PySem.W.mg_none_of X G z_range,
    z_repr := PySem.W.mg_none_of X G z_repr,
    z_str := PySem.W.mg_none_of X G z_str,
    z_tuple := PySem.W.mg_none_of X G z_tuple,
    t_DIGITS := t_DIGITS,
    m_DIGITS := PySem.W.mg_of X G g_DIGITS,
    g_DEED_SIZES := T_DEED_SIZES,
    m_DEED_SIZES := PySem.W.mg_of X G g_DEED_SIZES,
    k_DEED_SIZES := kNum_of h_DEED_SIZES y_DEED_SIZES x_DEED_SIZES,
    pne_0_1 := pne_0_1,
    pne_0_2 := pne_0_2,
    pne_1_2 := pne_1_2 }
  refine ⟨T.fd_law, [(cc20, pp20), (cc21, pp21), (cc22, pp22)], fun p hp => ?_, fun p hp => ?_, fun s v => .of_eq rfl, fun base _ _ tb => ok_text T (tb _ List.mem_cons_self) (tb _ (List.mem_cons_of_mem _ List.mem_cons_self)) (tb _ (List.mem_cons_of_mem _ (List.mem_cons_of_mem _ List.mem_cons_self)))⟩
  · simp only [List.mem_cons, List.not_mem_nil, or_false] at hp
    rcases hp with rfl | rfl | rfl
    · exact ⟨_, List.mem_cons_self, tb20⟩
    · exact ⟨_, (List.mem_cons_of_mem _ List.mem_cons_self), tb21⟩
    · exact ⟨_, (List.mem_cons_of_mem _ (List.mem_cons_of_mem _ List.mem_cons_self)), tb22⟩
  · simp only [List.mem_cons, List.not_mem_nil, or_false] at hp
    rcases hp with rfl | rfl | rfl
    · exact tn20
    · exact tn21
    · exact tn22
end My
namespace Hd
open PySem PySem.Spec PyProof.Rows L2 GL My
theorem all_hk {l : PySem.W.OpenLaw} {w : World} {K : PySem.W.Frag} {h : Heap} {mg : Str → Option Value} {fa : Addr} (X : K.In h) (G : h.Ns mainGlobals mg) (hfa : mg "law" = some (.ref fa)) (c : HK.Says ats fvs tbs ex w K) : ∃ (fd : FuncData) (ts : List (Addr × Addr)), (∀ p ∈ ts, ∃ y ∈ (["_law_act_right", "_law_line_right", "_law_right"] : List Str), PySem.W.tabIn K y = some p) ∧ (∀ p ∈ ts, K.lookup p.2 = none) ∧ (∀ (s : Shared) (v : Value), BindsTo s fd ⟨[v], []⟩ [("_law_script", v)]) ∧ ∀ base : Heap, K.In base → base.Ns mainGlobals mg → (∀ p ∈ ts, LamX.TabB base mg p.1 p.2) → FnG l.prog w K mg base CX0 15 fa fd ["_law_script"] (sp_lawT K ts) := by
  have a1 : PySem.W.nsIn K mainGlobals "is_an_integer" = some (some (.ref (aa_f1 K))) := HK.eqB_ok (c.fact 0)
  obtain ⟨oc1, od1, kV1, dc1, pm1, an1, cd1, ct1, sl1, l1, c1⟩ := HK.f_ok (c.fn 0) (c.fact 1)
  have k1 : PySem.W.keepIn K (.ref (aa_f1 K)) = true := c.fact 2
  have a2 : PySem.W.nsIn K mainGlobals "is_deed" = some (some (.ref (aa_f2 K))) := HK.eqB_ok (c.fact 3)
  obtain ⟨oc2, od2, kV2, dc2, pm2, an2, cd2, ct2, sl2, l2, c2⟩ := HK.f_ok (c.fn 1) (c.fact 4)
  have k2 : PySem.W.keepIn K (.ref (aa_f2 K)) = true := c.fact 5
  have a3 : PySem.W.nsIn K mainGlobals "is_numeral" = some (some (.ref (aa_f3 K))) := HK.eqB_ok (c.fact 6)
  obtain ⟨oc3, od3, kV3, dc3, pm3, an3, cd3, ct3, sl3, l3, c3⟩ := HK.f_ok (c.fn 2) (c.fact 7)
  have k3 : PySem.W.keepIn K (.ref (aa_f3 K)) = true := c.fact 8
  have a4 : PySem.W.nsIn K mainGlobals "line_from" = some (some (.ref (aa_f4 K))) := HK.eqB_ok (c.fact 9)
  obtain ⟨oc4, od4, kV4, dc4, pm4, an4, cd4, ct4, sl4, l4, c4⟩ := HK.f_ok (c.fn 3) (c.fact 10)
  have k4 : PySem.W.keepIn K (.ref (aa_f4 K)) = true := c.fact 11
  have a5 : PySem.W.nsIn K mainGlobals "line_of" = some (some (.ref (aa_f5 K))) := HK.eqB_ok (c.fact 12)
  obtain ⟨oc5, od5, kV5, dc5, pm5, an5, cd5, ct5, sl5, l5, c5⟩ := HK.f_ok (c.fn 4) (c.fact 13)
  have k5 : PySem.W.keepIn K (.ref (aa_f5 K)) = true := c.fact 14
  have a6 : PySem.W.nsIn K mainGlobals "deed_from" = some (some (.ref (aa_f6 K))) := HK.eqB_ok (c.fact 15)
  obtain ⟨oc6, od6, kV6, dc6, pm6, an6, cd6, ct6, sl6, l6, c6⟩ := HK.f_ok (c.fn 5) (c.fact 16)
  have k6 : PySem.W.keepIn K (.ref (aa_f6 K)) = true := c.fact 17
  have a7 : PySem.W.nsIn K mainGlobals "read_deed" = some (some (.ref (aa_f7 K))) := HK.eqB_ok (c.fact 18)
  obtain ⟨oc7, od7, kV7, dc7, pm7, an7, cd7, ct7, sl7, l7, c7⟩ := HK.f_ok (c.fn 6) (c.fact 19)
  have k7 : PySem.W.keepIn K (.ref (aa_f7 K)) = true := c.fact 20
  have a8 : PySem.W.nsIn K mainGlobals "_law_pot" = some (some (.ref (aa_f8 K))) := HK.eqB_ok (c.fact 21)
  obtain ⟨oc8, od8, kV8, dc8, pm8, an8, cd8, ct8, sl8, l8, c8⟩ := HK.f_ok (c.fn 7) (c.fact 22)
  have k8 : PySem.W.keepIn K (.ref (aa_f8 K)) = true := c.fact 23
  have a9 : PySem.W.nsIn K mainGlobals "_law_draw" = some (some (.ref (aa_f9 K))) := HK.eqB_ok (c.fact 24)
  obtain ⟨oc9, od9, kV9, dc9, pm9, an9, cd9, ct9, sl9, l9, c9⟩ := HK.f_ok (c.fn 8) (c.fact 25)
  have k9 : PySem.W.keepIn K (.ref (aa_f9 K)) = true := c.fact 26
  have a10 : PySem.W.nsIn K mainGlobals "_law_pick" = some (some (.ref (aa_f10 K))) := HK.eqB_ok (c.fact 27)
  obtain ⟨oc10, od10, kV10, dc10, pm10, an10, cd10, ct10, sl10, l10, c10⟩ := HK.f_ok (c.fn 9) (c.fact 28)
  have k10 : PySem.W.keepIn K (.ref (aa_f10 K)) = true := c.fact 29
  have a11 : PySem.W.nsIn K mainGlobals "_law_lots" = some (some (.ref (aa_f11 K))) := HK.eqB_ok (c.fact 30)
  obtain ⟨oc11, od11, kV11, dc11, pm11, an11, cd11, ct11, sl11, l11, c11⟩ := HK.f_ok (c.fn 10) (c.fact 31)
  have k11 : PySem.W.keepIn K (.ref (aa_f11 K)) = true := c.fact 32
  have a12 : PySem.W.nsIn K mainGlobals "_law_number" = some (some (.ref (aa_f12 K))) := HK.eqB_ok (c.fact 33)
  obtain ⟨oc12, od12, kV12, dc12, pm12, an12, cd12, ct12, sl12, l12, c12⟩ := HK.f_ok (c.fn 11) (c.fact 34)
  have k12 : PySem.W.keepIn K (.ref (aa_f12 K)) = true := c.fact 35
  have a13 : PySem.W.nsIn K mainGlobals "_law_act" = some (some (.ref (aa_f13 K))) := HK.eqB_ok (c.fact 36)
  obtain ⟨oc13, od13, kV13, dc13, pm13, an13, cd13, ct13, sl13, l13, c13⟩ := HK.f_ok (c.fn 12) (c.fact 37)
  have k13 : PySem.W.keepIn K (.ref (aa_f13 K)) = true := c.fact 38
  have a14 : PySem.W.nsIn K mainGlobals "_law_spelled" = some (some (.ref (aa_f14 K))) := HK.eqB_ok (c.fact 39)
  obtain ⟨oc14, od14, kV14, dc14, pm14, an14, cd14, ct14, sl14, l14, c14⟩ := HK.f_ok (c.fn 13) (c.fact 40)
  have k14 : PySem.W.keepIn K (.ref (aa_f14 K)) = true := c.fact 41
  have a15 : PySem.W.nsIn K mainGlobals "_law_integer" = some (some (.ref (aa_f15 K))) := HK.eqB_ok (c.fact 42)
  obtain ⟨oc15, od15, kV15, dc15, pm15, an15, cd15, ct15, sl15, l15, c15⟩ := HK.f_ok (c.fn 14) (c.fact 43)
  have k15 : PySem.W.keepIn K (.ref (aa_f15 K)) = true := c.fact 44
  have a16 : PySem.W.nsIn K mainGlobals "_law_read" = some (some (.ref (aa_f16 K))) := HK.eqB_ok (c.fact 45)
  obtain ⟨oc16, od16, kV16, dc16, pm16, an16, cd16, ct16, sl16, l16, c16⟩ := HK.f_ok (c.fn 15) (c.fact 46)
  have k16 : PySem.W.keepIn K (.ref (aa_f16 K)) = true := c.fact 47
  have a17 : PySem.W.nsIn K mainGlobals "_law_bent" = some (some (.ref (aa_f17 K))) := HK.eqB_ok (c.fact 48)
  obtain ⟨oc17, od17, kV17, dc17, pm17, an17, cd17, ct17, sl17, l17, c17⟩ := HK.f_ok (c.fn 16) (c.fact 49)
  have k17 : PySem.W.keepIn K (.ref (aa_f17 K)) = true := c.fact 50
  have a18 : PySem.W.nsIn K mainGlobals "_law_heard" = some (some (.ref (aa_f18 K))) := HK.eqB_ok (c.fact 51)
  obtain ⟨oc18, od18, kV18, dc18, pm18, an18, cd18, ct18, sl18, l18, c18⟩ := HK.f_ok (c.fn 17) (c.fact 52)
  have k18 : PySem.W.keepIn K (.ref (aa_f18 K)) = true := c.fact 53
  have a19 : PySem.W.nsIn K mainGlobals "_law_odd_acts" = some (some (.ref (aa_f19 K))) := HK.eqB_ok (c.fact 54)
  obtain ⟨oc19, od19, kV19, dc19, pm19, an19, cd19, ct19, sl19, l19, c19⟩ := HK.f_ok (c.fn 18) (c.fact 55)
  have k19 : PySem.W.keepIn K (.ref (aa_f19 K)) = true := c.fact 56
  have a20 : PySem.W.nsIn K mainGlobals "_law_act_right" = some (some (.ref (aa_f20 K))) := HK.eqB_ok (c.fact 57)
  obtain ⟨oc20, od20, kV20, dc20, pm20, an20, ct20, sl20, l20, c20⟩ := HK.f_okT (c.fn 19) (c.fact 58)
  obtain ⟨toc20, tod20, tvs20, tsl20, tl20, tv20⟩ := HK.tb_ok (c.fact 59)
  have tn20 := HK.no_ok (c.fact 60)
  have k20 : PySem.W.keepIn K (.ref (aa_f20 K)) = true := c.fact 61
  have a21 : PySem.W.nsIn K mainGlobals "_law_line_right" = some (some (.ref (aa_f21 K))) := HK.eqB_ok (c.fact 62)
  obtain ⟨oc21, od21, kV21, dc21, pm21, an21, ct21, sl21, l21, c21⟩ := HK.f_okT (c.fn 20) (c.fact 63)
  obtain ⟨toc21, tod21, tvs21, tsl21, tl21, tv21⟩ := HK.tb_ok (c.fact 64)
  have tn21 := HK.no_ok (c.fact 65)
  have k21 : PySem.W.keepIn K (.ref (aa_f21 K)) = true := c.fact 66
  have a22 : PySem.W.nsIn K mainGlobals "_law_right" = some (some (.ref (aa_f22 K))) := HK.eqB_ok (c.fact 67)
  obtain ⟨oc22, od22, kV22, dc22, pm22, an22, ct22, sl22, l22, c22⟩ := HK.f_okT (c.fn 21) (c.fact 68)
  obtain ⟨toc22, tod22, tvs22, tsl22, tl22, tv22⟩ := HK.tb_ok (c.fact 69)
  have tn22 := HK.no_ok (c.fact 70)
  have k22 : PySem.W.keepIn K (.ref (aa_f22 K)) = true := c.fact 71
  have a23 : PySem.W.nsIn K mainGlobals "law" = some (some (.ref (aa_f23 K))) := HK.eqB_ok (c.fact 72)
  obtain ⟨oc23, od23, kV23, dc23, pm23, an23, cd23, ct23, sl23, l23, c23⟩ := HK.f_ok (c.fn 22) (c.fact 73)
  have k23 : PySem.W.keepIn K (.ref (aa_f23 K)) = true := c.fact 74
  have xa1 : PySem.W.nsIn K mainGlobals "InvalidDeed" = some (some (.ref (aa_cx1 K))) := HK.eqB_ok (c.fact 75)
  have xi1 : PySem.W.excInitIn K (aa_cx1 K) bm_ValueError "ValueError.__new__" = true := c.fact 76
  have xo1 : PySem.W.excOver K (aa_cx1 K) bm_ValueError = true := c.fact 77
  have xs1 : PySem.W.findIn K (.ref (aa_cx1 K)) "__setattr__" = some (some (.builtin "object.__setattr__")) := HK.eqB_ok (c.fact 78)
  have xg1 : PySem.W.findIn K (.ref (aa_cx1 K)) "__getattribute__" = some (some (.builtin "BaseException.__getattribute__")) := HK.eqB_ok (c.fact 79)
  have xh1 : PySem.W.findIn K (.ref (aa_cx1 K)) "__getattr__" = some none := HK.eqB_ok (c.fact 80)
  have xc1 : PySem.W.findIn K (.ref (aa_cx1 K)) "__init__" = some (some (.ref (aa_ix1 K))) := HK.eqB_ok (c.fact 81)
  have xf1 : PySem.W.isFn K (.ref (aa_ix1 K)) = true := c.fact 82
  have xk1 : PySem.W.keepIn K (.ref (aa_cx1 K)) = true := c.fact 83
  have xb1 : PySem.W.subIn K (.ref (aa_cx1 K)) (.type "BaseException") = some true := HK.eqB_ok (c.fact 84)
  have xt1 : PySem.W.typeIn K (.ref (aa_cx1 K)) = some (.type "type") := HK.eqB_ok (c.fact 85)
  have xd1 : PySem.W.hasDictIn K (aa_cx1 K) = true := c.fact 86
  obtain ⟨xoc1, xod1, xdc1, xpm1, xan1, xcd1, xct1, xsl1, xl1, xe1⟩ := HK.f_okN (c.fn 23) (c.fact 87)
  have xn1 : PySem.W.takerIn K (aa_cx1 K) "value" = some none := HK.eqB_ok (c.fact 88)
  have xm1 : PySem.W.findIn K (.ref (aa_cx1 K)) "value" = some none := HK.eqB_ok (c.fact 89)
  have xa2 : PySem.W.nsIn K mainGlobals "InvalidText" = some (some (.ref (aa_cx2 K))) := HK.eqB_ok (c.fact 90)
  have xi2 : PySem.W.excInitIn K (aa_cx2 K) bm_ValueError "ValueError.__new__" = true := c.fact 91
  have xo2 : PySem.W.excOver K (aa_cx2 K) bm_ValueError = true := c.fact 92
  have xs2 : PySem.W.findIn K (.ref (aa_cx2 K)) "__setattr__" = some (some (.builtin "object.__setattr__")) := HK.eqB_ok (c.fact 93)
  have xg2 : PySem.W.findIn K (.ref (aa_cx2 K)) "__getattribute__" = some (some (.builtin "BaseException.__getattribute__")) := HK.eqB_ok (c.fact 94)
  have xh2 : PySem.W.findIn K (.ref (aa_cx2 K)) "__getattr__" = some none := HK.eqB_ok (c.fact 95)
  have xc2 : PySem.W.findIn K (.ref (aa_cx2 K)) "__init__" = some (some (.ref (aa_ix2 K))) := HK.eqB_ok (c.fact 96)
  have xf2 : PySem.W.isFn K (.ref (aa_ix2 K)) = true := c.fact 97
  have xk2 : PySem.W.keepIn K (.ref (aa_cx2 K)) = true := c.fact 98
  have xb2 : PySem.W.subIn K (.ref (aa_cx2 K)) (.type "BaseException") = some true := HK.eqB_ok (c.fact 99)
  have xt2 : PySem.W.typeIn K (.ref (aa_cx2 K)) = some (.type "type") := HK.eqB_ok (c.fact 100)
  have xd2 : PySem.W.hasDictIn K (aa_cx2 K) = true := c.fact 101
  obtain ⟨xoc2, xod2, xdc2, xpm2, xan2, xcd2, xct2, xsl2, xl2, xe2⟩ := HK.f_okN (c.fn 24) (c.fact 102)
  have xn2 : PySem.W.takerIn K (aa_cx2 K) "line" = some none := HK.eqB_ok (c.fact 103)
  have xm2 : PySem.W.findIn K (.ref (aa_cx2 K)) "line" = some none := HK.eqB_ok (c.fact 104)
  have ab_WayError : PySem.W.nsIn K mainGlobals "WayError" = some (some (.ref (aa_cb_WayError K))) := HK.eqB_ok (c.fact 105)
  have x_get : PySem.W.specialIn K (.builtin "object.__class__") "__get__" = some (some (.builtin "getset_descriptor.__get__")) := HK.eqB_ok (c.fact 106)
  have x_tk : PySem.W.takesIn K (.builtin "object.__class__") = some true := HK.eqB_ok (c.fact 107)
  have xw1 : PySem.W.findIn K (.ref (aa_cx1 K)) "__class__" = some (some (.builtin "object.__class__")) := HK.eqB_ok (c.fact 108)
  have xv1 : PySem.W.mroIn K (aa_cx1 K) (.type "object") = some true := HK.eqB_ok (c.fact 109)
  have xu1 : PySem.W.kitOne K (.ref (aa_cx1 K)) (.ref (aa_cb_WayError K)) = some true := HK.eqB_ok (c.fact 110)
  have xw2 : PySem.W.findIn K (.ref (aa_cx2 K)) "__class__" = some (some (.builtin "object.__class__")) := HK.eqB_ok (c.fact 111)
  have xv2 : PySem.W.mroIn K (aa_cx2 K) (.type "object") = some true := HK.eqB_ok (c.fact 112)
  have xu2 : PySem.W.kitOne K (.ref (aa_cx2 K)) (.ref (aa_cb_WayError K)) = some true := HK.eqB_ok (c.fact 113)
  have xy1 : PySem.W.isClsIn K (aa_cx1 K) = true := c.fact 114
  have xz1_1 : PySem.W.subIn K (.ref (aa_cx1 K)) (.ref (aa_cx1 K)) = some true := HK.eqB_ok (c.fact 115)
  have xz2_1 : PySem.W.subIn K (.ref (aa_cx2 K)) (.ref (aa_cx1 K)) = some false := HK.eqB_ok (c.fact 116)
  have xy2 : PySem.W.isClsIn K (aa_cx2 K) = true := c.fact 117
  have xz2_2 : PySem.W.subIn K (.ref (aa_cx2 K)) (.ref (aa_cx2 K)) = some true := HK.eqB_ok (c.fact 118)
  have z_abs : PySem.W.nsIn K mainGlobals "abs" = some none := HK.eqB_ok (c.fact 119)
  have z_all : PySem.W.nsIn K mainGlobals "all" = some none := HK.eqB_ok (c.fact 120)
  have z_bool : PySem.W.nsIn K mainGlobals "bool" = some none := HK.eqB_ok (c.fact 121)
  have z_divmod : PySem.W.nsIn K mainGlobals "divmod" = some none := HK.eqB_ok (c.fact 122)
  have z_int : PySem.W.nsIn K mainGlobals "int" = some none := HK.eqB_ok (c.fact 123)
  have z_isinstance : PySem.W.nsIn K mainGlobals "isinstance" = some none := HK.eqB_ok (c.fact 124)
  have z_len : PySem.W.nsIn K mainGlobals "len" = some none := HK.eqB_ok (c.fact 125)
  have z_list : PySem.W.nsIn K mainGlobals "list" = some none := HK.eqB_ok (c.fact 126)
  have z_max : PySem.W.nsIn K mainGlobals "max" = some none := HK.eqB_ok (c.fact 127)
  have z_min : PySem.W.nsIn K mainGlobals "min" = some none := HK.eqB_ok (c.fact 128)
  have z_range : PySem.W.nsIn K mainGlobals "range" = some none := HK.eqB_ok (c.fact 129)
  have z_repr : PySem.W.nsIn K mainGlobals "repr" = some none := HK.eqB_ok (c.fact 130)
  have z_str : PySem.W.nsIn K mainGlobals "str" = some none := HK.eqB_ok (c.fact 131)
  have z_tuple : PySem.W.nsIn K mainGlobals "tuple" = some none := HK.eqB_ok (c.fact 132)
  obtain ⟨t_DIGITS, g_DIGITS⟩ := HK.ns_str (c.fact 133)
  have g_DEED_SIZES : PySem.W.nsIn K mainGlobals "DEED_SIZES" = some (some (.ref (aa_T_DEED_SIZES K))) := HK.eqB_ok (c.fact 134)
  obtain ⟨es_DEED_SIZES, n_DEED_SIZES, h_DEED_SIZES, y_DEED_SIZES, _⟩ := HK.dic_ok (c.tab 0)
  have x_DEED_SIZES : dkB K (aa_T_DEED_SIZES K) [("group", 1), ("limit", 2), ("strike", 1), ("take", 2), ("give", 2), ("move", 3), ("lift", 2), ("settle", 2), ("step", 1)] = true := c.fact 135
  have pne_0_1 : (aa_pp20 K) ≠ (aa_pp21 K) := HK.ne_ok (c.fact 136)
  have pne_0_2 : (aa_pp20 K) ≠ (aa_pp22 K) := HK.ne_ok (c.fact 137)
  have pne_1_2 : (aa_pp21 K) ≠ (aa_pp22 K) := HK.ne_ok (c.fact 138)
  exact all_mk X G hfa a1 l1 c1 k1 a2 l2 c2 k2 a3 l3 c3 k3 a4 l4 c4 k4 a5 l5 c5 k5 a6 l6 c6 k6 a7 l7 c7 k7 a8 l8 c8 k8 a9 l9 c9 k9 a10 l10 c10 k10 a11 l11 c11 k11 a12 l12 c12 k12 a13 l13 c13 k13 a14 l14 c14 k14 a15 l15 c15 k15 a16 l16 c16 k16 a17 l17 c17 k17 a18 l18 c18 k18 a19 l19 c19 k19 a20 l20 c20 tl20 tv20 tn20 k20 a21 l21 c21 tl21 tv21 tn21 k21 a22 l22 c22 tl22 tv22 tn22 k22 a23 l23 c23 k23 xa1 xi1 xo1 xs1 xg1 xh1 xc1 xf1 xk1 xb1 xt1 xd1 xl1 xe1 xn1 xm1 xa2 xi2 xo2 xs2 xg2 xh2 xc2 xf2 xk2 xb2 xt2 xd2 xl2 xe2 xn2 xm2 ab_WayError x_get x_tk xw1 xv1 xu1 xw2 xv2 xu2 xy1 xz1_1 xz2_1 xy2 xz2_2 z_abs z_all z_bool z_divmod z_int z_isinstance z_len z_list z_max z_min z_range z_repr z_str z_tuple g_DIGITS g_DEED_SIZES h_DEED_SIZES y_DEED_SIZES x_DEED_SIZES pne_0_1 pne_0_2 pne_1_2
end Hd
open PySem PySem.W PySem.Calls PyProof.Rows in
set_option maxRecDepth 100000 in
set_option maxHeartbeats 0 in
theorem PySem.Challenge.cw_chargeways_k92_lines_of_deeds_holds : PySem.Challenge.rw_chargeways_k92_lines_of_deeds.Holds := by
  w_on; o_law
  refine HandSHeadRun.head_any (r := OpenLaw.row PySem.Challenge.rw_chargeways_k92_lines_of_deeds) (q := view (OpenLaw.row PySem.Challenge.rw_chargeways_k92_lines_of_deeds).prog [30, 31, 32, 33]) (H := Hd.hk) (ob := Hd.ob) (M := 20000) (loose := Hd.loose) (d := HandSHeadRun.topDef (OpenLaw.row PySem.Challenge.rw_chargeways_k92_lines_of_deeds).prog 33) (kwd := []) Hd.ob_eq
    (by kernel_rfl) (fun s => by kernel_rfl) Hd.run (by kernel_rfl) (by kernel_rfl) (by kernel_rfl) (by rfl) (by first | assumption | decide +kernel) (by decide +kernel) ⟨rfl, rfl, rfl, rfl, rfl, by decide +kernel⟩ ?hw ?hc
  case hw => w_witness2
  case hc =>
    refine HK.walkHT (l := PySem.Challenge.rw_chargeways_k92_lines_of_deeds) (k := 15) (x := "_law_script") (sp := My.sp_lawT) (xs := ["_law_act_right", "_law_line_right", "_law_right"]) rfl (by kernel_rfl) ⟨rfl, by decide, by decide⟩ ?hx ?F (fun K ts H a ns hl ht hS => My.law_startT hS hl ht)
    case hx =>
      intro y hy
      simp only [List.mem_cons, List.not_mem_nil, or_false] at hy
      rcases hy with rfl | rfl | rfl <;> exact ⟨_, rfl⟩
    case F =>
      intro w mg fa h Y G hmg0
      obtain ⟨K, KX, c⟩ := Y
      have hmg : mg ("law" : PySem.Str) = some (.ref fa) := by
        have e : (HandSHeadRun.topDef (OpenLaw.row PySem.Challenge.rw_chargeways_k92_lines_of_deeds).prog 33).name = ("law" : PySem.Str) := by kernel_rfl
        rw [← e]
        exact hmg0
      obtain ⟨fd, ts, h1, h2, h3, h4⟩ := Hd.all_hk (l := PySem.Challenge.rw_chargeways_k92_lines_of_deeds) KX G hmg c
      exact ⟨K, fd, ts, KX, h1, h2, h3, h4⟩
#print axioms PySem.Challenge.cw_chargeways_k92_lines_of_deeds_holds
