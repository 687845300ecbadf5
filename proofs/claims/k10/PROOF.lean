import PyProof.Rows.All
import Wide.All
import OpenK.AllK
import Wide.FinOn
import HandS.ForMost
import HandS.Strs
import HandS.IsInst
import HandS.Evl
import HandS.MakeKw
import HandS.WideBits
import HandS.Star
import HandS.Walk
import HandS.Conv
import HandS.RaiseMore
import HandS.FStr
import HandS.Style
import HandS.More
import HandS.OwnEq
import PyProof.InstNe
import KE.KExcInit
import HandS.Exc
import HandS.ExcOwn
import HandS.ExcInit
import HandS.TryMany
import KE.KExcLine
import PyProof.EqAt
import PyProof.MeetsIn
import HandS.ExcIs
import HandS.IsInst
import HandS.ExcField
import HandS.ExcValue
import HandS.ListItems
import HandS.Defaults
import HandS.Comp
import HandS.CallLocal
import PyProof.P3Eq
import PyProof.MeetsIn
import PyProof.FString4
import PyProof.EqKinds
import PyProof.EqAt
import PyProof.DictUpdate
import PyProof.DictDisplay
import PyProof.DictCopy
import KE.KStar
import KE.KExcInit
import HandS.Zip
import HandS.TupAny
import HandS.TryMany
import HandS.Text
import HandS.Property
import HandS.MakeKwOnly
import HandS.Lambda
import HandS.Iter
import HandS.ExcOwn
import HandS.ExcIs
import HandS.ExcInit
import HandS.Exc
import HandS.EndTab
import HandS.DictEq
import HandS.Deep
import KE.GoesEnumKw
import PySem.Challenge.RW_chargeways_k10_errors_and_what_they_keep
import KE.KStateDown
import HandS.Base
import HandS.Call
import HandS.Ends
import HandS.Words
import HandS.Dict
import HandS.Head0
import HandS.Head1
import HandS.Head2
import HandS.HeadEnd
import HandS.HeadHook1
import HandS.HeadHook2
import HandS.HeadHook3
import HandS.HeadHook4
set_option Elab.async false
set_option linter.all false
set_option maxRecDepth 100000
set_option maxHeartbeats 4000000
/-! Promises kept where no repr is under way (the guards are empty): calls, methods, makings, bodies. -/
/-! the head by one observation: facts of the heap behind the top, each a Bool -/
namespace HK
open PySem PySem.Spec PyProof.Rows L2 He
abbrev At : Type := PySem.W.Frag → Addr
/-- what stands at an address, if a function -/
def fnAt (K : PySem.W.Frag) (a : Addr) : FnW := match K.lookup a with
  | some ⟨_, _, .func fd, _⟩ => some (fd.name, fd.qualname, fd.params, fd.body, fd.scope, fd.globals, fd.closure, fd.builtins)
  | _ => none
abbrev Al : Type := Bool × List FnW × List (Option (List (Option (Str × Int))))
def obsK (at_ : List At) (ts : List Tab) (ex : List (PySem.W.Frag → Bool)) (K : PySem.W.Frag) : Al := (ex.all fun b => b K, at_.map (fun p => fnAt K (p K)), ts.map fun t => dicW K (t.1 K))
def obsM (as : List Addr) (at_ : List At) (ts : List Tab) (ex : List (PySem.W.Frag → Bool)) (g : Addr → Option Obj) : Al := obsK at_ ts ex (frT g as)
def valM (fv : List FnW) (ts : List Tab) (w : World) : Al := (true, fv, ts.map fun t => some (keysIn w.params t.2))
/-- what is told -/
def Says (at_ : List At) (fv : List FnW) (ts : List Tab) (ex : List (PySem.W.Frag → Bool)) (w : World) (K : PySem.W.Frag) : Prop := obsK at_ ts ex K = valM fv ts w
def hook (as : List Addr) (at_ : List At) (fv : List FnW) (ts : List Tab) (ex : List (PySem.W.Frag → Bool)) : PySem.W.Hook where
  α := Al
  obs := fun s => obsM as at_ ts ex s.heap.get?
  val := fun w => valM fv ts w
  says := fun w h => ∃ K : PySem.W.Frag, K.In h ∧ Says at_ fv ts ex w K
  of := fun _ _ e => ⟨_, frT_in, e⟩
  keeps := fun _ _ _ ⟨K, hK, c⟩ k => ⟨K, PySem.W.Frag.In.keeps hK k, c⟩
theorem obs_eq {as : List Addr} {at_ : List At} {fv : List FnW} {ts : List Tab} {ex : List (PySem.W.Frag → Bool)} {g : Addr → Option Obj} {s : Shared} (h : ∀ a, g a = s.heap.get? a) : obsM as at_ ts ex g = (hook as at_ fv ts ex).obs s := by
  have e : g = s.heap.get? := funext h
  rw [e] <;> rfl
section
variable {at_ : List At} {fv : List FnW} {ts : List Tab} {ex : List (PySem.W.Frag → Bool)} {w : World} {K : PySem.W.Frag}
theorem Says.fact (c : Says at_ fv ts ex w K) (i : Nat) {b : PySem.W.Frag → Bool} (h : ex[i]? = some b := by rfl) : b K = true := by
  have c1 : (ex.all fun b => b K) = true := congrArg (fun z : Al => z.1) c
  exact List.all_eq_true.mp c1 b (List.mem_of_getElem? h)
theorem Says.fn (c : Says at_ fv ts ex w K) (i : Nat) {p : At} {v : FnW} (h : at_[i]? = some p := by rfl) (hv : fv[i]? = some v := by rfl) : fnAt K (p K) = v := by
  have e : at_.map (fun p => fnAt K (p K)) = fv := congrArg (fun z : Al => z.2.1) c
  have e2 : (at_.map (fun p => fnAt K (p K)))[i]? = fv[i]? := by rw [e]
  rw [List.getElem?_map, h, hv] at e2
  exact Option.some.inj e2
end
/-! ### facts of forms -/
def eqB {α : Type} [DecidableEq α] (a b : α) : Bool := decide (a = b)
theorem eqB_ok {α : Type} [DecidableEq α] {a b : α} (h : eqB a b = true) : a = b := of_decide_eq_true h
def fB (K : PySem.W.Frag) (f : Addr) (q : Str) (dv : Value) : Bool := match K.lookup f with
  | some ⟨_, _, .func fd, _⟩ => decide (fd.defaults = dv) && PySem.W.codeIn K fd.code q
  | _ => false
theorem f_ok {K : PySem.W.Frag} {p : Addr} {n q : Str} {ps : Arguments} {bd : List Stmt} {sc : Scope} {dv : Value} (e : fnAt K p = some (n, q, ps, .stmts bd, sc, mainGlobals, [], builtinsNs)) (c : fB K p q dv = true) :
    ∃ (oc : Value) (od : Option Addr) (kV dc pm : Value) (an : Option Addr) (cd ct : Value) (sl : Array (Option Value)), K.lookup p = some ⟨oc, od, .func (PySem.W.fnOf n q ps bd sc dv kV dc pm an cd ct), sl⟩ ∧ PySem.W.codeIn K cd q = true := by
  unfold fnAt at e
  unfold fB at c
  cases z : K.lookup p with
  | none =>
    rw [z] at c
    cases c
  | some o =>
    obtain ⟨oc, od, dt, osl⟩ := o
    rw [z] at c e
    cases dt with
    | func fd =>
      obtain ⟨n1, n2, n3, n4, n5, n6, n7, n8, n9, n10, n11, n12, n13, n14, n15⟩ := fd
      have e2 : (some (n1, n2, n3, n4, n5, n6, n7, n15) : FnW) = some (n, q, ps, .stmts bd, sc, mainGlobals, [], builtinsNs) := e
      simp only [Option.some.injEq, Prod.mk.injEq] at e2
      obtain ⟨h1, h2, h3, h4, h5, h6, h7, h8⟩ := e2
      subst h1 h2 h3 h4 h5 h6 h7 h8
      obtain ⟨k1, k2⟩ := ba (show (decide (n8 = dv) && PySem.W.codeIn K n13 _) = true from c)
      have k3 := of_decide_eq_true k1
      subst k3
      exact ⟨oc, od, n9, n10, n11, n12, n13, n14, osl, rfl, k2⟩
    | _ => cases c
def fBN (K : PySem.W.Frag) (f : Addr) (q : Str) (dv : Value) : Bool := match K.lookup f with
  | some ⟨_, _, .func fd, _⟩ => decide (fd.defaults = dv) && (decide (fd.kwdefaults = .none) && PySem.W.codeIn K fd.code q)
  | _ => false
theorem f_okN {K : PySem.W.Frag} {p : Addr} {n q : Str} {ps : Arguments} {bd : List Stmt} {sc : Scope} {dv : Value} (e : fnAt K p = some (n, q, ps, .stmts bd, sc, mainGlobals, [], builtinsNs)) (c : fBN K p q dv = true) :
    ∃ (oc : Value) (od : Option Addr) (dc pm : Value) (an : Option Addr) (cd ct : Value) (sl : Array (Option Value)), K.lookup p = some ⟨oc, od, .func (PySem.W.fnOf n q ps bd sc dv .none dc pm an cd ct), sl⟩ ∧ PySem.W.codeIn K cd q = true := by
  unfold fnAt at e
  unfold fBN at c
  cases z : K.lookup p with
  | none =>
    rw [z] at c
    cases c
  | some o =>
    obtain ⟨oc, od, dt, osl⟩ := o
    rw [z] at c e
    cases dt with
    | func fd =>
      obtain ⟨n1, n2, n3, n4, n5, n6, n7, n8, n9, n10, n11, n12, n13, n14, n15⟩ := fd
      have e2 : (some (n1, n2, n3, n4, n5, n6, n7, n15) : FnW) = some (n, q, ps, .stmts bd, sc, mainGlobals, [], builtinsNs) := e
      simp only [Option.some.injEq, Prod.mk.injEq] at e2
      obtain ⟨h1, h2, h3, h4, h5, h6, h7, h8⟩ := e2
      subst h1 h2 h3 h4 h5 h6 h7 h8
      obtain ⟨k1, k2⟩ := ba (show (decide (n8 = dv) && (decide (n9 = .none) && PySem.W.codeIn K n13 _)) = true from c)
      obtain ⟨k4, k2⟩ := ba k2
      have k3 := of_decide_eq_true k1
      have k5 := of_decide_eq_true k4
      subst k3 k5
      exact ⟨oc, od, n10, n11, n12, n13, n14, osl, rfl, k2⟩
    | _ => cases c
/-- values, some of whose parts are not asked -/
inductive VP where
  | val (v : Value) | str (s : Str) | int (i : Int) | any
def VP.ok : VP → Value → Bool
  | .val v, u => decide (u = v)
  | .str s, .str z _ => decide (z = s)
  | .int i, .int j _ => decide (j = i)
  | .any, _ => true
  | _, _ => false
def VP.ex : List VP → (List Value → Prop) → Prop
  | [], k => k []
  | .val v :: ps, k => VP.ex ps fun vs => k (v :: vs)
  | .str s :: ps, k => ∃ t, VP.ex ps fun vs => k (.str s t :: vs)
  | .int i :: ps, k => ∃ t, VP.ex ps fun vs => k (.int i t :: vs)
  | .any :: ps, k => ∃ v, VP.ex ps fun vs => k (v :: vs)
end HK
namespace GL
open PySem PySem.Spec PyProof.Rows L2
def ktB (K : PySem.W.Frag) (cs : List Addr) : Bool := (List.range cs.length).all fun i => (List.range cs.length).all fun j => decide (PySem.W.kitOne K (.ref (cs.getD i 0)) (.ref (cs.getD j 0)) = some (decide (i = j)))
/-- of which of the classes in front, and of Python's, the error i is -/
def topOf (i j : Nat) : Bool := if i < 19 then j == 0 || j == 3 else if i < 38 then j == 1 || j == 4 else j == 2 || j == 5
def kuB (K : PySem.W.Frag) (cs : List Addr) (ts : List Value) : Bool := (List.range cs.length).all fun i => (List.range ts.length).all fun j => decide (PySem.W.kitOne K (.ref (cs.getD i 0)) (ts.getD j .none) = some (topOf i j))
def ecB (K : PySem.W.Frag) (D : Addr) : Bool := decide (PySem.W.findIn K (.ref D) "__getattribute__" = some (some (.builtin "BaseException.__getattribute__"))) && (decide (PySem.W.findIn K (.ref D) "__getattr__" = some none) && (decide (PySem.W.subIn K (.ref D) (.type "BaseException") = some true) && (PySem.W.hasDictIn K D &&
  (decide (PySem.W.findIn K (.ref D) "__class__" = some (some (.builtin "object.__class__"))) && decide (PySem.W.mroIn K D (.type "object") = some true)))))
def keB (K : PySem.W.Frag) (cs : List Addr) : Bool := decide (PySem.W.specialIn K (.builtin "object.__class__") "__get__" = some (some (.builtin "getset_descriptor.__get__"))) && (decide (PySem.W.takesIn K (.builtin "object.__class__") = some true) && cs.all fun D => ecB K D)
end GL
namespace My
open PySem PySem.Spec PyProof.Rows L2
def topS (i : Nat) : Stmt := PySem.Challenge.pw_chargeways_k10_errors_and_what_they_keep.main.body.getD i (.Pass ⟨0, 0, 0, 0⟩)
abbrev s_Lpot : Stmt := topS 44
abbrev s_Ldraw : Stmt := topS 45
abbrev s_Lpick : Stmt := topS 46
abbrev s_Lmade : Stmt := topS 47
abbrev s_Lnamed : Stmt := topS 48
abbrev s_Lwhich : Stmt := topS 49
abbrev s_Ltops : Stmt := topS 50
abbrev s_Lkept_right : Stmt := topS 51
abbrev s_Lcaught : Stmt := topS 52
abbrev s_Lright : Stmt := topS 53
abbrev s_law : Stmt := topS 54
abbrev s_E_InvalidGroup : Stmt := inClass (topS 2) 0
abbrev s_E_InvalidParents : Stmt := inClass (topS 3) 0
abbrev s_E_InvalidStruck : Stmt := inClass (topS 4) 0
abbrev s_E_InvalidKind : Stmt := inClass (topS 5) 0
abbrev s_E_InvalidRow : Stmt := inClass (topS 6) 0
abbrev s_E_InvalidWord : Stmt := inClass (topS 7) 0
abbrev s_E_InvalidHolds : Stmt := inClass (topS 8) 0
abbrev s_E_InvalidHand : Stmt := inClass (topS 9) 0
abbrev s_E_InvalidThing : Stmt := inClass (topS 10) 0
abbrev s_E_InvalidLimit : Stmt := inClass (topS 11) 0
abbrev s_E_InvalidCount : Stmt := inClass (topS 12) 0
abbrev s_E_InvalidUnit : Stmt := inClass (topS 13) 0
abbrev s_E_InvalidState : Stmt := inClass (topS 14) 0
abbrev s_E_InvalidWish : Stmt := inClass (topS 15) 0
abbrev s_E_InvalidWishes : Stmt := inClass (topS 16) 0
abbrev s_E_InvalidDeed : Stmt := inClass (topS 17) 0
abbrev s_E_InvalidText : Stmt := inClass (topS 18) 0
abbrev s_E_InvalidClaim : Stmt := inClass (topS 19) 0
abbrev s_E_InvalidCommand : Stmt := inClass (topS 20) 0
abbrev s_E_IsTop : Stmt := inClass (topS 22) 0
abbrev s_E_Struck : Stmt := inClass (topS 23) 0
abbrev s_E_NotStruck : Stmt := inClass (topS 24) 0
abbrev s_E_HasChildren : Stmt := inClass (topS 25) 0
abbrev s_E_AtWork : Stmt := inClass (topS 26) 0
abbrev s_E_NoWalk : Stmt := inClass (topS 27) 0
abbrev s_E_MustSettle : Stmt := inClass (topS 28) 0
abbrev s_E_NoStock : Stmt := inClass (topS 29) 0
abbrev s_E_NotYours : Stmt := inClass (topS 30) 0
abbrev s_E_NotLiving : Stmt := inClass (topS 31) 0
abbrev s_E_NoRow : Stmt := inClass (topS 32) 0
abbrev s_E_UnderWay : Stmt := inClass (topS 33) 0
abbrev s_E_Held : Stmt := inClass (topS 34) 0
abbrev s_E_NotKept : Stmt := inClass (topS 35) 0
abbrev s_E_NoEnd : Stmt := inClass (topS 36) 0
abbrev s_E_Untrue : Stmt := inClass (topS 37) 0
abbrev s_E_NothingToUndo : Stmt := inClass (topS 38) 0
abbrev s_E_DeedFailed : Stmt := inClass (topS 39) 0
abbrev s_E_CommandFailed : Stmt := inClass (topS 40) 0
abbrev s_E_TooMany : Stmt := inClass (topS 42) 0
abbrev bm_ArithmeticError : List Value := [.type "ArithmeticError", .type "Exception", .type "BaseException", .type "object"]
abbrev bm_RuntimeError : List Value := [.type "RuntimeError", .type "Exception", .type "BaseException", .type "object"]
abbrev bm_ValueError : List Value := [.type "ValueError", .type "Exception", .type "BaseException", .type "object"]
end My
namespace Hd
open PySem PySem.Spec PyProof.Rows L2 GL My
def aa_f1 (K : PySem.W.Frag) : Addr := He.ga K "_law_pot"
def aa_f2 (K : PySem.W.Frag) : Addr := He.ga K "_law_draw"
def aa_f3 (K : PySem.W.Frag) : Addr := He.ga K "_law_pick"
def aa_f4 (K : PySem.W.Frag) : Addr := He.ga K "_law_made"
def aa_f5 (K : PySem.W.Frag) : Addr := He.ga K "_law_named"
def aa_f6 (K : PySem.W.Frag) : Addr := He.ga K "_law_which"
def aa_f7 (K : PySem.W.Frag) : Addr := He.ga K "_law_tops"
def aa_f8 (K : PySem.W.Frag) : Addr := He.ga K "_law_kept_right"
def aa_f9 (K : PySem.W.Frag) : Addr := He.ga K "_law_caught"
def aa_f10 (K : PySem.W.Frag) : Addr := He.ga K "_law_right"
def aa_f11 (K : PySem.W.Frag) : Addr := He.ga K "law"
def aa_cx1 (K : PySem.W.Frag) : Addr := He.ga K "InvalidGroup"
def aa_ix1 (K : PySem.W.Frag) : Addr := He.ma K (aa_cx1 K) "__init__"
def aa_cx2 (K : PySem.W.Frag) : Addr := He.ga K "InvalidParents"
def aa_ix2 (K : PySem.W.Frag) : Addr := He.ma K (aa_cx2 K) "__init__"
def aa_cx3 (K : PySem.W.Frag) : Addr := He.ga K "InvalidStruck"
def aa_ix3 (K : PySem.W.Frag) : Addr := He.ma K (aa_cx3 K) "__init__"
def aa_cx4 (K : PySem.W.Frag) : Addr := He.ga K "InvalidKind"
def aa_ix4 (K : PySem.W.Frag) : Addr := He.ma K (aa_cx4 K) "__init__"
def aa_cx5 (K : PySem.W.Frag) : Addr := He.ga K "InvalidRow"
def aa_ix5 (K : PySem.W.Frag) : Addr := He.ma K (aa_cx5 K) "__init__"
def aa_cx6 (K : PySem.W.Frag) : Addr := He.ga K "InvalidWord"
def aa_ix6 (K : PySem.W.Frag) : Addr := He.ma K (aa_cx6 K) "__init__"
def aa_cx7 (K : PySem.W.Frag) : Addr := He.ga K "InvalidHolds"
def aa_ix7 (K : PySem.W.Frag) : Addr := He.ma K (aa_cx7 K) "__init__"
def aa_cx8 (K : PySem.W.Frag) : Addr := He.ga K "InvalidHand"
def aa_ix8 (K : PySem.W.Frag) : Addr := He.ma K (aa_cx8 K) "__init__"
def aa_cx9 (K : PySem.W.Frag) : Addr := He.ga K "InvalidThing"
def aa_ix9 (K : PySem.W.Frag) : Addr := He.ma K (aa_cx9 K) "__init__"
def aa_cx10 (K : PySem.W.Frag) : Addr := He.ga K "InvalidLimit"
def aa_ix10 (K : PySem.W.Frag) : Addr := He.ma K (aa_cx10 K) "__init__"
def aa_cx11 (K : PySem.W.Frag) : Addr := He.ga K "InvalidCount"
def aa_ix11 (K : PySem.W.Frag) : Addr := He.ma K (aa_cx11 K) "__init__"
def aa_cx12 (K : PySem.W.Frag) : Addr := He.ga K "InvalidUnit"
def aa_ix12 (K : PySem.W.Frag) : Addr := He.ma K (aa_cx12 K) "__init__"
def aa_cx13 (K : PySem.W.Frag) : Addr := He.ga K "InvalidState"
def aa_ix13 (K : PySem.W.Frag) : Addr := He.ma K (aa_cx13 K) "__init__"
def aa_cx14 (K : PySem.W.Frag) : Addr := He.ga K "InvalidWish"
def aa_ix14 (K : PySem.W.Frag) : Addr := He.ma K (aa_cx14 K) "__init__"
def aa_cx15 (K : PySem.W.Frag) : Addr := He.ga K "InvalidWishes"
def aa_ix15 (K : PySem.W.Frag) : Addr := He.ma K (aa_cx15 K) "__init__"
def aa_cx16 (K : PySem.W.Frag) : Addr := He.ga K "InvalidDeed"
def aa_ix16 (K : PySem.W.Frag) : Addr := He.ma K (aa_cx16 K) "__init__"
def aa_cx17 (K : PySem.W.Frag) : Addr := He.ga K "InvalidText"
def aa_ix17 (K : PySem.W.Frag) : Addr := He.ma K (aa_cx17 K) "__init__"
def aa_cx18 (K : PySem.W.Frag) : Addr := He.ga K "InvalidClaim"
def aa_ix18 (K : PySem.W.Frag) : Addr := He.ma K (aa_cx18 K) "__init__"
def aa_cx19 (K : PySem.W.Frag) : Addr := He.ga K "InvalidCommand"
def aa_ix19 (K : PySem.W.Frag) : Addr := He.ma K (aa_cx19 K) "__init__"
def aa_cx20 (K : PySem.W.Frag) : Addr := He.ga K "IsTop"
def aa_ix20 (K : PySem.W.Frag) : Addr := He.ma K (aa_cx20 K) "__init__"
def aa_cx21 (K : PySem.W.Frag) : Addr := He.ga K "Struck"
def aa_ix21 (K : PySem.W.Frag) : Addr := He.ma K (aa_cx21 K) "__init__"
def aa_cx22 (K : PySem.W.Frag) : Addr := He.ga K "NotStruck"
def aa_ix22 (K : PySem.W.Frag) : Addr := He.ma K (aa_cx22 K) "__init__"
def aa_cx23 (K : PySem.W.Frag) : Addr := He.ga K "HasChildren"
def aa_ix23 (K : PySem.W.Frag) : Addr := He.ma K (aa_cx23 K) "__init__"
def aa_cx24 (K : PySem.W.Frag) : Addr := He.ga K "AtWork"
def aa_ix24 (K : PySem.W.Frag) : Addr := He.ma K (aa_cx24 K) "__init__"
def aa_cx25 (K : PySem.W.Frag) : Addr := He.ga K "NoWalk"
def aa_ix25 (K : PySem.W.Frag) : Addr := He.ma K (aa_cx25 K) "__init__"
def aa_cx26 (K : PySem.W.Frag) : Addr := He.ga K "MustSettle"
def aa_ix26 (K : PySem.W.Frag) : Addr := He.ma K (aa_cx26 K) "__init__"
def aa_cx27 (K : PySem.W.Frag) : Addr := He.ga K "NoStock"
def aa_ix27 (K : PySem.W.Frag) : Addr := He.ma K (aa_cx27 K) "__init__"
def aa_cx28 (K : PySem.W.Frag) : Addr := He.ga K "NotYours"
def aa_ix28 (K : PySem.W.Frag) : Addr := He.ma K (aa_cx28 K) "__init__"
def aa_cx29 (K : PySem.W.Frag) : Addr := He.ga K "NotLiving"
def aa_ix29 (K : PySem.W.Frag) : Addr := He.ma K (aa_cx29 K) "__init__"
def aa_cx30 (K : PySem.W.Frag) : Addr := He.ga K "NoRow"
def aa_ix30 (K : PySem.W.Frag) : Addr := He.ma K (aa_cx30 K) "__init__"
def aa_cx31 (K : PySem.W.Frag) : Addr := He.ga K "UnderWay"
def aa_ix31 (K : PySem.W.Frag) : Addr := He.ma K (aa_cx31 K) "__init__"
def aa_cx32 (K : PySem.W.Frag) : Addr := He.ga K "Held"
def aa_ix32 (K : PySem.W.Frag) : Addr := He.ma K (aa_cx32 K) "__init__"
def aa_cx33 (K : PySem.W.Frag) : Addr := He.ga K "NotKept"
def aa_ix33 (K : PySem.W.Frag) : Addr := He.ma K (aa_cx33 K) "__init__"
def aa_cx34 (K : PySem.W.Frag) : Addr := He.ga K "NoEnd"
def aa_ix34 (K : PySem.W.Frag) : Addr := He.ma K (aa_cx34 K) "__init__"
def aa_cx35 (K : PySem.W.Frag) : Addr := He.ga K "Untrue"
def aa_ix35 (K : PySem.W.Frag) : Addr := He.ma K (aa_cx35 K) "__init__"
def aa_cx36 (K : PySem.W.Frag) : Addr := He.ga K "NothingToUndo"
def aa_ix36 (K : PySem.W.Frag) : Addr := He.ma K (aa_cx36 K) "__init__"
def aa_cx37 (K : PySem.W.Frag) : Addr := He.ga K "DeedFailed"
def aa_ix37 (K : PySem.W.Frag) : Addr := He.ma K (aa_cx37 K) "__init__"
def aa_cx38 (K : PySem.W.Frag) : Addr := He.ga K "CommandFailed"
def aa_ix38 (K : PySem.W.Frag) : Addr := He.ma K (aa_cx38 K) "__init__"
def aa_cx39 (K : PySem.W.Frag) : Addr := He.ga K "TooMany"
def aa_ix39 (K : PySem.W.Frag) : Addr := He.ma K (aa_cx39 K) "__init__"
def aa_cb_LimitError (K : PySem.W.Frag) : Addr := He.ga K "LimitError"
def aa_cb_StandError (K : PySem.W.Frag) : Addr := He.ga K "StandError"
def aa_cb_WayError (K : PySem.W.Frag) : Addr := He.ga K "WayError"
def ex0 : List (PySem.W.Frag → Bool) := [
  fun K => HK.eqB (PySem.W.nsIn K mainGlobals "_law_pot") (some (some (.ref (aa_f1 K)))),
  fun K => HK.fB K (aa_f1 K) "_law_pot" .none,
  fun K => PySem.W.keepIn K (.ref (aa_f1 K)),
  fun K => HK.eqB (PySem.W.nsIn K mainGlobals "_law_draw") (some (some (.ref (aa_f2 K)))),
  fun K => HK.fB K (aa_f2 K) "_law_draw" .none,
  fun K => PySem.W.keepIn K (.ref (aa_f2 K)),
  fun K => HK.eqB (PySem.W.nsIn K mainGlobals "_law_pick") (some (some (.ref (aa_f3 K)))),
  fun K => HK.fB K (aa_f3 K) "_law_pick" .none,
  fun K => PySem.W.keepIn K (.ref (aa_f3 K)),
  fun K => HK.eqB (PySem.W.nsIn K mainGlobals "_law_made") (some (some (.ref (aa_f4 K)))),
  fun K => HK.fB K (aa_f4 K) "_law_made" .none,
  fun K => PySem.W.keepIn K (.ref (aa_f4 K)),
  fun K => HK.eqB (PySem.W.nsIn K mainGlobals "_law_named") (some (some (.ref (aa_f5 K)))),
  fun K => HK.fB K (aa_f5 K) "_law_named" .none,
  fun K => PySem.W.keepIn K (.ref (aa_f5 K)),
  fun K => HK.eqB (PySem.W.nsIn K mainGlobals "_law_which") (some (some (.ref (aa_f6 K)))),
  fun K => HK.fB K (aa_f6 K) "_law_which" .none,
  fun K => PySem.W.keepIn K (.ref (aa_f6 K)),
  fun K => HK.eqB (PySem.W.nsIn K mainGlobals "_law_tops") (some (some (.ref (aa_f7 K)))),
  fun K => HK.fB K (aa_f7 K) "_law_tops" .none,
  fun K => PySem.W.keepIn K (.ref (aa_f7 K)),
  fun K => HK.eqB (PySem.W.nsIn K mainGlobals "_law_kept_right") (some (some (.ref (aa_f8 K)))),
  fun K => HK.fB K (aa_f8 K) "_law_kept_right" .none,
  fun K => PySem.W.keepIn K (.ref (aa_f8 K)),
  fun K => HK.eqB (PySem.W.nsIn K mainGlobals "_law_caught") (some (some (.ref (aa_f9 K)))),
  fun K => HK.fB K (aa_f9 K) "_law_caught" .none,
  fun K => PySem.W.keepIn K (.ref (aa_f9 K)),
  fun K => HK.eqB (PySem.W.nsIn K mainGlobals "_law_right") (some (some (.ref (aa_f10 K)))),
  fun K => HK.fB K (aa_f10 K) "_law_right" .none,
  fun K => PySem.W.keepIn K (.ref (aa_f10 K))]
def ex1 : List (PySem.W.Frag → Bool) := [
  fun K => HK.eqB (PySem.W.nsIn K mainGlobals "law") (some (some (.ref (aa_f11 K)))),
  fun K => HK.fB K (aa_f11 K) "law" .none,
  fun K => PySem.W.keepIn K (.ref (aa_f11 K)),
  fun K => HK.eqB (PySem.W.nsIn K mainGlobals "InvalidGroup") (some (some (.ref (aa_cx1 K)))),
  fun K => PySem.W.excInitIn K (aa_cx1 K) bm_ValueError "ValueError.__new__",
  fun K => PySem.W.excOver K (aa_cx1 K) bm_ValueError,
  fun K => HK.eqB (PySem.W.findIn K (.ref (aa_cx1 K)) "__setattr__") (some (some (.builtin "object.__setattr__"))),
  fun K => HK.eqB (PySem.W.findIn K (.ref (aa_cx1 K)) "__getattribute__") (some (some (.builtin "BaseException.__getattribute__"))),
  fun K => HK.eqB (PySem.W.findIn K (.ref (aa_cx1 K)) "__getattr__") (some none),
  fun K => HK.eqB (PySem.W.findIn K (.ref (aa_cx1 K)) "__init__") (some (some (.ref (aa_ix1 K)))),
  fun K => PySem.W.isFn K (.ref (aa_ix1 K)),
  fun K => PySem.W.keepIn K (.ref (aa_cx1 K)),
  fun K => HK.eqB (PySem.W.subIn K (.ref (aa_cx1 K)) (.type "BaseException")) (some true),
  fun K => HK.eqB (PySem.W.typeIn K (.ref (aa_cx1 K))) (some (.type "type")),
  fun K => PySem.W.hasDictIn K (aa_cx1 K),
  fun K => HK.fBN K (aa_ix1 K) "InvalidGroup.__init__" .none,
  fun K => HK.eqB (PySem.W.takerIn K (aa_cx1 K) "value") (some none),
  fun K => HK.eqB (PySem.W.findIn K (.ref (aa_cx1 K)) "value") (some none),
  fun K => HK.eqB (PySem.W.nsIn K mainGlobals "InvalidParents") (some (some (.ref (aa_cx2 K)))),
  fun K => PySem.W.excInitIn K (aa_cx2 K) bm_ValueError "ValueError.__new__",
  fun K => PySem.W.excOver K (aa_cx2 K) bm_ValueError,
  fun K => HK.eqB (PySem.W.findIn K (.ref (aa_cx2 K)) "__setattr__") (some (some (.builtin "object.__setattr__"))),
  fun K => HK.eqB (PySem.W.findIn K (.ref (aa_cx2 K)) "__getattribute__") (some (some (.builtin "BaseException.__getattribute__"))),
  fun K => HK.eqB (PySem.W.findIn K (.ref (aa_cx2 K)) "__getattr__") (some none),
  fun K => HK.eqB (PySem.W.findIn K (.ref (aa_cx2 K)) "__init__") (some (some (.ref (aa_ix2 K)))),
  fun K => PySem.W.isFn K (.ref (aa_ix2 K)),
  fun K => PySem.W.keepIn K (.ref (aa_cx2 K)),
  fun K => HK.eqB (PySem.W.subIn K (.ref (aa_cx2 K)) (.type "BaseException")) (some true),
  fun K => HK.eqB (PySem.W.typeIn K (.ref (aa_cx2 K))) (some (.type "type")),
  fun K => PySem.W.hasDictIn K (aa_cx2 K)]
def ex2 : List (PySem.W.Frag → Bool) := [
  fun K => HK.fBN K (aa_ix2 K) "InvalidParents.__init__" .none,
  fun K => HK.eqB (PySem.W.takerIn K (aa_cx2 K) "position") (some none),
  fun K => HK.eqB (PySem.W.findIn K (.ref (aa_cx2 K)) "position") (some none),
  fun K => HK.eqB (PySem.W.nsIn K mainGlobals "InvalidStruck") (some (some (.ref (aa_cx3 K)))),
  fun K => PySem.W.excInitIn K (aa_cx3 K) bm_ValueError "ValueError.__new__",
  fun K => PySem.W.excOver K (aa_cx3 K) bm_ValueError,
  fun K => HK.eqB (PySem.W.findIn K (.ref (aa_cx3 K)) "__setattr__") (some (some (.builtin "object.__setattr__"))),
  fun K => HK.eqB (PySem.W.findIn K (.ref (aa_cx3 K)) "__getattribute__") (some (some (.builtin "BaseException.__getattribute__"))),
  fun K => HK.eqB (PySem.W.findIn K (.ref (aa_cx3 K)) "__getattr__") (some none),
  fun K => HK.eqB (PySem.W.findIn K (.ref (aa_cx3 K)) "__init__") (some (some (.ref (aa_ix3 K)))),
  fun K => PySem.W.isFn K (.ref (aa_ix3 K)),
  fun K => PySem.W.keepIn K (.ref (aa_cx3 K)),
  fun K => HK.eqB (PySem.W.subIn K (.ref (aa_cx3 K)) (.type "BaseException")) (some true),
  fun K => HK.eqB (PySem.W.typeIn K (.ref (aa_cx3 K))) (some (.type "type")),
  fun K => PySem.W.hasDictIn K (aa_cx3 K),
  fun K => HK.fBN K (aa_ix3 K) "InvalidStruck.__init__" .none,
  fun K => HK.eqB (PySem.W.takerIn K (aa_cx3 K) "position") (some none),
  fun K => HK.eqB (PySem.W.findIn K (.ref (aa_cx3 K)) "position") (some none),
  fun K => HK.eqB (PySem.W.nsIn K mainGlobals "InvalidKind") (some (some (.ref (aa_cx4 K)))),
  fun K => PySem.W.excInitIn K (aa_cx4 K) bm_ValueError "ValueError.__new__",
  fun K => PySem.W.excOver K (aa_cx4 K) bm_ValueError,
  fun K => HK.eqB (PySem.W.findIn K (.ref (aa_cx4 K)) "__setattr__") (some (some (.builtin "object.__setattr__"))),
  fun K => HK.eqB (PySem.W.findIn K (.ref (aa_cx4 K)) "__getattribute__") (some (some (.builtin "BaseException.__getattribute__"))),
  fun K => HK.eqB (PySem.W.findIn K (.ref (aa_cx4 K)) "__getattr__") (some none),
  fun K => HK.eqB (PySem.W.findIn K (.ref (aa_cx4 K)) "__init__") (some (some (.ref (aa_ix4 K)))),
  fun K => PySem.W.isFn K (.ref (aa_ix4 K)),
  fun K => PySem.W.keepIn K (.ref (aa_cx4 K)),
  fun K => HK.eqB (PySem.W.subIn K (.ref (aa_cx4 K)) (.type "BaseException")) (some true),
  fun K => HK.eqB (PySem.W.typeIn K (.ref (aa_cx4 K))) (some (.type "type")),
  fun K => PySem.W.hasDictIn K (aa_cx4 K)]
def ex3 : List (PySem.W.Frag → Bool) := [
  fun K => HK.fBN K (aa_ix4 K) "InvalidKind.__init__" .none,
  fun K => HK.eqB (PySem.W.takerIn K (aa_cx4 K) "value") (some none),
  fun K => HK.eqB (PySem.W.findIn K (.ref (aa_cx4 K)) "value") (some none),
  fun K => HK.eqB (PySem.W.nsIn K mainGlobals "InvalidRow") (some (some (.ref (aa_cx5 K)))),
  fun K => PySem.W.excInitIn K (aa_cx5 K) bm_ValueError "ValueError.__new__",
  fun K => PySem.W.excOver K (aa_cx5 K) bm_ValueError,
  fun K => HK.eqB (PySem.W.findIn K (.ref (aa_cx5 K)) "__setattr__") (some (some (.builtin "object.__setattr__"))),
  fun K => HK.eqB (PySem.W.findIn K (.ref (aa_cx5 K)) "__getattribute__") (some (some (.builtin "BaseException.__getattribute__"))),
  fun K => HK.eqB (PySem.W.findIn K (.ref (aa_cx5 K)) "__getattr__") (some none),
  fun K => HK.eqB (PySem.W.findIn K (.ref (aa_cx5 K)) "__init__") (some (some (.ref (aa_ix5 K)))),
  fun K => PySem.W.isFn K (.ref (aa_ix5 K)),
  fun K => PySem.W.keepIn K (.ref (aa_cx5 K)),
  fun K => HK.eqB (PySem.W.subIn K (.ref (aa_cx5 K)) (.type "BaseException")) (some true),
  fun K => HK.eqB (PySem.W.typeIn K (.ref (aa_cx5 K))) (some (.type "type")),
  fun K => PySem.W.hasDictIn K (aa_cx5 K),
  fun K => HK.fBN K (aa_ix5 K) "InvalidRow.__init__" .none,
  fun K => HK.eqB (PySem.W.takerIn K (aa_cx5 K) "kind") (some none),
  fun K => HK.eqB (PySem.W.findIn K (.ref (aa_cx5 K)) "kind") (some none),
  fun K => HK.eqB (PySem.W.takerIn K (aa_cx5 K) "value") (some none),
  fun K => HK.eqB (PySem.W.findIn K (.ref (aa_cx5 K)) "value") (some none),
  fun K => HK.eqB (PySem.W.nsIn K mainGlobals "InvalidWord") (some (some (.ref (aa_cx6 K)))),
  fun K => PySem.W.excInitIn K (aa_cx6 K) bm_ValueError "ValueError.__new__",
  fun K => PySem.W.excOver K (aa_cx6 K) bm_ValueError,
  fun K => HK.eqB (PySem.W.findIn K (.ref (aa_cx6 K)) "__setattr__") (some (some (.builtin "object.__setattr__"))),
  fun K => HK.eqB (PySem.W.findIn K (.ref (aa_cx6 K)) "__getattribute__") (some (some (.builtin "BaseException.__getattribute__"))),
  fun K => HK.eqB (PySem.W.findIn K (.ref (aa_cx6 K)) "__getattr__") (some none),
  fun K => HK.eqB (PySem.W.findIn K (.ref (aa_cx6 K)) "__init__") (some (some (.ref (aa_ix6 K)))),
  fun K => PySem.W.isFn K (.ref (aa_ix6 K)),
  fun K => PySem.W.keepIn K (.ref (aa_cx6 K)),
  fun K => HK.eqB (PySem.W.subIn K (.ref (aa_cx6 K)) (.type "BaseException")) (some true)]
def ex4 : List (PySem.W.Frag → Bool) := [
  fun K => HK.eqB (PySem.W.typeIn K (.ref (aa_cx6 K))) (some (.type "type")),
  fun K => PySem.W.hasDictIn K (aa_cx6 K),
  fun K => HK.fBN K (aa_ix6 K) "InvalidWord.__init__" .none,
  fun K => HK.eqB (PySem.W.takerIn K (aa_cx6 K) "name") (some none),
  fun K => HK.eqB (PySem.W.findIn K (.ref (aa_cx6 K)) "name") (some none),
  fun K => HK.eqB (PySem.W.takerIn K (aa_cx6 K) "value") (some none),
  fun K => HK.eqB (PySem.W.findIn K (.ref (aa_cx6 K)) "value") (some none),
  fun K => HK.eqB (PySem.W.nsIn K mainGlobals "InvalidHolds") (some (some (.ref (aa_cx7 K)))),
  fun K => PySem.W.excInitIn K (aa_cx7 K) bm_ValueError "ValueError.__new__",
  fun K => PySem.W.excOver K (aa_cx7 K) bm_ValueError,
  fun K => HK.eqB (PySem.W.findIn K (.ref (aa_cx7 K)) "__setattr__") (some (some (.builtin "object.__setattr__"))),
  fun K => HK.eqB (PySem.W.findIn K (.ref (aa_cx7 K)) "__getattribute__") (some (some (.builtin "BaseException.__getattribute__"))),
  fun K => HK.eqB (PySem.W.findIn K (.ref (aa_cx7 K)) "__getattr__") (some none),
  fun K => HK.eqB (PySem.W.findIn K (.ref (aa_cx7 K)) "__init__") (some (some (.ref (aa_ix7 K)))),
  fun K => PySem.W.isFn K (.ref (aa_ix7 K)),
  fun K => PySem.W.keepIn K (.ref (aa_cx7 K)),
  fun K => HK.eqB (PySem.W.subIn K (.ref (aa_cx7 K)) (.type "BaseException")) (some true),
  fun K => HK.eqB (PySem.W.typeIn K (.ref (aa_cx7 K))) (some (.type "type")),
  fun K => PySem.W.hasDictIn K (aa_cx7 K),
  fun K => HK.fBN K (aa_ix7 K) "InvalidHolds.__init__" .none,
  fun K => HK.eqB (PySem.W.takerIn K (aa_cx7 K) "value") (some none),
  fun K => HK.eqB (PySem.W.findIn K (.ref (aa_cx7 K)) "value") (some none),
  fun K => HK.eqB (PySem.W.nsIn K mainGlobals "InvalidHand") (some (some (.ref (aa_cx8 K)))),
  fun K => PySem.W.excInitIn K (aa_cx8 K) bm_ValueError "ValueError.__new__",
  fun K => PySem.W.excOver K (aa_cx8 K) bm_ValueError,
  fun K => HK.eqB (PySem.W.findIn K (.ref (aa_cx8 K)) "__setattr__") (some (some (.builtin "object.__setattr__"))),
  fun K => HK.eqB (PySem.W.findIn K (.ref (aa_cx8 K)) "__getattribute__") (some (some (.builtin "BaseException.__getattribute__"))),
  fun K => HK.eqB (PySem.W.findIn K (.ref (aa_cx8 K)) "__getattr__") (some none),
  fun K => HK.eqB (PySem.W.findIn K (.ref (aa_cx8 K)) "__init__") (some (some (.ref (aa_ix8 K)))),
  fun K => PySem.W.isFn K (.ref (aa_ix8 K))]
def ex5 : List (PySem.W.Frag → Bool) := [
  fun K => PySem.W.keepIn K (.ref (aa_cx8 K)),
  fun K => HK.eqB (PySem.W.subIn K (.ref (aa_cx8 K)) (.type "BaseException")) (some true),
  fun K => HK.eqB (PySem.W.typeIn K (.ref (aa_cx8 K))) (some (.type "type")),
  fun K => PySem.W.hasDictIn K (aa_cx8 K),
  fun K => HK.fBN K (aa_ix8 K) "InvalidHand.__init__" .none,
  fun K => HK.eqB (PySem.W.takerIn K (aa_cx8 K) "value") (some none),
  fun K => HK.eqB (PySem.W.findIn K (.ref (aa_cx8 K)) "value") (some none),
  fun K => HK.eqB (PySem.W.nsIn K mainGlobals "InvalidThing") (some (some (.ref (aa_cx9 K)))),
  fun K => PySem.W.excInitIn K (aa_cx9 K) bm_ValueError "ValueError.__new__",
  fun K => PySem.W.excOver K (aa_cx9 K) bm_ValueError,
  fun K => HK.eqB (PySem.W.findIn K (.ref (aa_cx9 K)) "__setattr__") (some (some (.builtin "object.__setattr__"))),
  fun K => HK.eqB (PySem.W.findIn K (.ref (aa_cx9 K)) "__getattribute__") (some (some (.builtin "BaseException.__getattribute__"))),
  fun K => HK.eqB (PySem.W.findIn K (.ref (aa_cx9 K)) "__getattr__") (some none),
  fun K => HK.eqB (PySem.W.findIn K (.ref (aa_cx9 K)) "__init__") (some (some (.ref (aa_ix9 K)))),
  fun K => PySem.W.isFn K (.ref (aa_ix9 K)),
  fun K => PySem.W.keepIn K (.ref (aa_cx9 K)),
  fun K => HK.eqB (PySem.W.subIn K (.ref (aa_cx9 K)) (.type "BaseException")) (some true),
  fun K => HK.eqB (PySem.W.typeIn K (.ref (aa_cx9 K))) (some (.type "type")),
  fun K => PySem.W.hasDictIn K (aa_cx9 K),
  fun K => HK.fBN K (aa_ix9 K) "InvalidThing.__init__" .none,
  fun K => HK.eqB (PySem.W.takerIn K (aa_cx9 K) "value") (some none),
  fun K => HK.eqB (PySem.W.findIn K (.ref (aa_cx9 K)) "value") (some none),
  fun K => HK.eqB (PySem.W.nsIn K mainGlobals "InvalidLimit") (some (some (.ref (aa_cx10 K)))),
  fun K => PySem.W.excInitIn K (aa_cx10 K) bm_ValueError "ValueError.__new__",
  fun K => PySem.W.excOver K (aa_cx10 K) bm_ValueError,
  fun K => HK.eqB (PySem.W.findIn K (.ref (aa_cx10 K)) "__setattr__") (some (some (.builtin "object.__setattr__"))),
  fun K => HK.eqB (PySem.W.findIn K (.ref (aa_cx10 K)) "__getattribute__") (some (some (.builtin "BaseException.__getattribute__"))),
  fun K => HK.eqB (PySem.W.findIn K (.ref (aa_cx10 K)) "__getattr__") (some none),
  fun K => HK.eqB (PySem.W.findIn K (.ref (aa_cx10 K)) "__init__") (some (some (.ref (aa_ix10 K)))),
  fun K => PySem.W.isFn K (.ref (aa_ix10 K))]
def ex6 : List (PySem.W.Frag → Bool) := [
  fun K => PySem.W.keepIn K (.ref (aa_cx10 K)),
  fun K => HK.eqB (PySem.W.subIn K (.ref (aa_cx10 K)) (.type "BaseException")) (some true),
  fun K => HK.eqB (PySem.W.typeIn K (.ref (aa_cx10 K))) (some (.type "type")),
  fun K => PySem.W.hasDictIn K (aa_cx10 K),
  fun K => HK.fBN K (aa_ix10 K) "InvalidLimit.__init__" .none,
  fun K => HK.eqB (PySem.W.takerIn K (aa_cx10 K) "value") (some none),
  fun K => HK.eqB (PySem.W.findIn K (.ref (aa_cx10 K)) "value") (some none),
  fun K => HK.eqB (PySem.W.nsIn K mainGlobals "InvalidCount") (some (some (.ref (aa_cx11 K)))),
  fun K => PySem.W.excInitIn K (aa_cx11 K) bm_ValueError "ValueError.__new__",
  fun K => PySem.W.excOver K (aa_cx11 K) bm_ValueError,
  fun K => HK.eqB (PySem.W.findIn K (.ref (aa_cx11 K)) "__setattr__") (some (some (.builtin "object.__setattr__"))),
  fun K => HK.eqB (PySem.W.findIn K (.ref (aa_cx11 K)) "__getattribute__") (some (some (.builtin "BaseException.__getattribute__"))),
  fun K => HK.eqB (PySem.W.findIn K (.ref (aa_cx11 K)) "__getattr__") (some none),
  fun K => HK.eqB (PySem.W.findIn K (.ref (aa_cx11 K)) "__init__") (some (some (.ref (aa_ix11 K)))),
  fun K => PySem.W.isFn K (.ref (aa_ix11 K)),
  fun K => PySem.W.keepIn K (.ref (aa_cx11 K)),
  fun K => HK.eqB (PySem.W.subIn K (.ref (aa_cx11 K)) (.type "BaseException")) (some true),
  fun K => HK.eqB (PySem.W.typeIn K (.ref (aa_cx11 K))) (some (.type "type")),
  fun K => PySem.W.hasDictIn K (aa_cx11 K),
  fun K => HK.fBN K (aa_ix11 K) "InvalidCount.__init__" .none,
  fun K => HK.eqB (PySem.W.takerIn K (aa_cx11 K) "value") (some none),
  fun K => HK.eqB (PySem.W.findIn K (.ref (aa_cx11 K)) "value") (some none),
  fun K => HK.eqB (PySem.W.nsIn K mainGlobals "InvalidUnit") (some (some (.ref (aa_cx12 K)))),
  fun K => PySem.W.excInitIn K (aa_cx12 K) bm_ValueError "ValueError.__new__",
  fun K => PySem.W.excOver K (aa_cx12 K) bm_ValueError,
  fun K => HK.eqB (PySem.W.findIn K (.ref (aa_cx12 K)) "__setattr__") (some (some (.builtin "object.__setattr__"))),
  fun K => HK.eqB (PySem.W.findIn K (.ref (aa_cx12 K)) "__getattribute__") (some (some (.builtin "BaseException.__getattribute__"))),
  fun K => HK.eqB (PySem.W.findIn K (.ref (aa_cx12 K)) "__getattr__") (some none),
  fun K => HK.eqB (PySem.W.findIn K (.ref (aa_cx12 K)) "__init__") (some (some (.ref (aa_ix12 K)))),
  fun K => PySem.W.isFn K (.ref (aa_ix12 K))]
def ex7 : List (PySem.W.Frag → Bool) := [
  fun K => PySem.W.keepIn K (.ref (aa_cx12 K)),
  fun K => HK.eqB (PySem.W.subIn K (.ref (aa_cx12 K)) (.type "BaseException")) (some true),
  fun K => HK.eqB (PySem.W.typeIn K (.ref (aa_cx12 K))) (some (.type "type")),
  fun K => PySem.W.hasDictIn K (aa_cx12 K),
  fun K => HK.fBN K (aa_ix12 K) "InvalidUnit.__init__" .none,
  fun K => HK.eqB (PySem.W.takerIn K (aa_cx12 K) "value") (some none),
  fun K => HK.eqB (PySem.W.findIn K (.ref (aa_cx12 K)) "value") (some none),
  fun K => HK.eqB (PySem.W.nsIn K mainGlobals "InvalidState") (some (some (.ref (aa_cx13 K)))),
  fun K => PySem.W.excInitIn K (aa_cx13 K) bm_ValueError "ValueError.__new__",
  fun K => PySem.W.excOver K (aa_cx13 K) bm_ValueError,
  fun K => HK.eqB (PySem.W.findIn K (.ref (aa_cx13 K)) "__setattr__") (some (some (.builtin "object.__setattr__"))),
  fun K => HK.eqB (PySem.W.findIn K (.ref (aa_cx13 K)) "__getattribute__") (some (some (.builtin "BaseException.__getattribute__"))),
  fun K => HK.eqB (PySem.W.findIn K (.ref (aa_cx13 K)) "__getattr__") (some none),
  fun K => HK.eqB (PySem.W.findIn K (.ref (aa_cx13 K)) "__init__") (some (some (.ref (aa_ix13 K)))),
  fun K => PySem.W.isFn K (.ref (aa_ix13 K)),
  fun K => PySem.W.keepIn K (.ref (aa_cx13 K)),
  fun K => HK.eqB (PySem.W.subIn K (.ref (aa_cx13 K)) (.type "BaseException")) (some true),
  fun K => HK.eqB (PySem.W.typeIn K (.ref (aa_cx13 K))) (some (.type "type")),
  fun K => PySem.W.hasDictIn K (aa_cx13 K),
  fun K => HK.fBN K (aa_ix13 K) "InvalidState.__init__" .none,
  fun K => HK.eqB (PySem.W.takerIn K (aa_cx13 K) "value") (some none),
  fun K => HK.eqB (PySem.W.findIn K (.ref (aa_cx13 K)) "value") (some none),
  fun K => HK.eqB (PySem.W.nsIn K mainGlobals "InvalidWish") (some (some (.ref (aa_cx14 K)))),
  fun K => PySem.W.excInitIn K (aa_cx14 K) bm_ValueError "ValueError.__new__",
  fun K => PySem.W.excOver K (aa_cx14 K) bm_ValueError,
  fun K => HK.eqB (PySem.W.findIn K (.ref (aa_cx14 K)) "__setattr__") (some (some (.builtin "object.__setattr__"))),
  fun K => HK.eqB (PySem.W.findIn K (.ref (aa_cx14 K)) "__getattribute__") (some (some (.builtin "BaseException.__getattribute__"))),
  fun K => HK.eqB (PySem.W.findIn K (.ref (aa_cx14 K)) "__getattr__") (some none),
  fun K => HK.eqB (PySem.W.findIn K (.ref (aa_cx14 K)) "__init__") (some (some (.ref (aa_ix14 K)))),
  fun K => PySem.W.isFn K (.ref (aa_ix14 K))]
def ex8 : List (PySem.W.Frag → Bool) := [
  fun K => PySem.W.keepIn K (.ref (aa_cx14 K)),
  fun K => HK.eqB (PySem.W.subIn K (.ref (aa_cx14 K)) (.type "BaseException")) (some true),
  fun K => HK.eqB (PySem.W.typeIn K (.ref (aa_cx14 K))) (some (.type "type")),
  fun K => PySem.W.hasDictIn K (aa_cx14 K),
  fun K => HK.fBN K (aa_ix14 K) "InvalidWish.__init__" .none,
  fun K => HK.eqB (PySem.W.takerIn K (aa_cx14 K) "value") (some none),
  fun K => HK.eqB (PySem.W.findIn K (.ref (aa_cx14 K)) "value") (some none),
  fun K => HK.eqB (PySem.W.nsIn K mainGlobals "InvalidWishes") (some (some (.ref (aa_cx15 K)))),
  fun K => PySem.W.excInitIn K (aa_cx15 K) bm_ValueError "ValueError.__new__",
  fun K => PySem.W.excOver K (aa_cx15 K) bm_ValueError,
  fun K => HK.eqB (PySem.W.findIn K (.ref (aa_cx15 K)) "__setattr__") (some (some (.builtin "object.__setattr__"))),
  fun K => HK.eqB (PySem.W.findIn K (.ref (aa_cx15 K)) "__getattribute__") (some (some (.builtin "BaseException.__getattribute__"))),
  fun K => HK.eqB (PySem.W.findIn K (.ref (aa_cx15 K)) "__getattr__") (some none),
  fun K => HK.eqB (PySem.W.findIn K (.ref (aa_cx15 K)) "__init__") (some (some (.ref (aa_ix15 K)))),
  fun K => PySem.W.isFn K (.ref (aa_ix15 K)),
  fun K => PySem.W.keepIn K (.ref (aa_cx15 K)),
  fun K => HK.eqB (PySem.W.subIn K (.ref (aa_cx15 K)) (.type "BaseException")) (some true),
  fun K => HK.eqB (PySem.W.typeIn K (.ref (aa_cx15 K))) (some (.type "type")),
  fun K => PySem.W.hasDictIn K (aa_cx15 K),
  fun K => HK.fBN K (aa_ix15 K) "InvalidWishes.__init__" .none,
  fun K => HK.eqB (PySem.W.takerIn K (aa_cx15 K) "value") (some none),
  fun K => HK.eqB (PySem.W.findIn K (.ref (aa_cx15 K)) "value") (some none),
  fun K => HK.eqB (PySem.W.nsIn K mainGlobals "InvalidDeed") (some (some (.ref (aa_cx16 K)))),
  fun K => PySem.W.excInitIn K (aa_cx16 K) bm_ValueError "ValueError.__new__",
  fun K => PySem.W.excOver K (aa_cx16 K) bm_ValueError,
  fun K => HK.eqB (PySem.W.findIn K (.ref (aa_cx16 K)) "__setattr__") (some (some (.builtin "object.__setattr__"))),
  fun K => HK.eqB (PySem.W.findIn K (.ref (aa_cx16 K)) "__getattribute__") (some (some (.builtin "BaseException.__getattribute__"))),
  fun K => HK.eqB (PySem.W.findIn K (.ref (aa_cx16 K)) "__getattr__") (some none),
  fun K => HK.eqB (PySem.W.findIn K (.ref (aa_cx16 K)) "__init__") (some (some (.ref (aa_ix16 K)))),
  fun K => PySem.W.isFn K (.ref (aa_ix16 K))]
def ex9 : List (PySem.W.Frag → Bool) := [
  fun K => PySem.W.keepIn K (.ref (aa_cx16 K)),
  fun K => HK.eqB (PySem.W.subIn K (.ref (aa_cx16 K)) (.type "BaseException")) (some true),
  fun K => HK.eqB (PySem.W.typeIn K (.ref (aa_cx16 K))) (some (.type "type")),
  fun K => PySem.W.hasDictIn K (aa_cx16 K),
  fun K => HK.fBN K (aa_ix16 K) "InvalidDeed.__init__" .none,
  fun K => HK.eqB (PySem.W.takerIn K (aa_cx16 K) "value") (some none),
  fun K => HK.eqB (PySem.W.findIn K (.ref (aa_cx16 K)) "value") (some none),
  fun K => HK.eqB (PySem.W.nsIn K mainGlobals "InvalidText") (some (some (.ref (aa_cx17 K)))),
  fun K => PySem.W.excInitIn K (aa_cx17 K) bm_ValueError "ValueError.__new__",
  fun K => PySem.W.excOver K (aa_cx17 K) bm_ValueError,
  fun K => HK.eqB (PySem.W.findIn K (.ref (aa_cx17 K)) "__setattr__") (some (some (.builtin "object.__setattr__"))),
  fun K => HK.eqB (PySem.W.findIn K (.ref (aa_cx17 K)) "__getattribute__") (some (some (.builtin "BaseException.__getattribute__"))),
  fun K => HK.eqB (PySem.W.findIn K (.ref (aa_cx17 K)) "__getattr__") (some none),
  fun K => HK.eqB (PySem.W.findIn K (.ref (aa_cx17 K)) "__init__") (some (some (.ref (aa_ix17 K)))),
  fun K => PySem.W.isFn K (.ref (aa_ix17 K)),
  fun K => PySem.W.keepIn K (.ref (aa_cx17 K)),
  fun K => HK.eqB (PySem.W.subIn K (.ref (aa_cx17 K)) (.type "BaseException")) (some true),
  fun K => HK.eqB (PySem.W.typeIn K (.ref (aa_cx17 K))) (some (.type "type")),
  fun K => PySem.W.hasDictIn K (aa_cx17 K),
  fun K => HK.fBN K (aa_ix17 K) "InvalidText.__init__" .none,
  fun K => HK.eqB (PySem.W.takerIn K (aa_cx17 K) "line") (some none),
  fun K => HK.eqB (PySem.W.findIn K (.ref (aa_cx17 K)) "line") (some none),
  fun K => HK.eqB (PySem.W.nsIn K mainGlobals "InvalidClaim") (some (some (.ref (aa_cx18 K)))),
  fun K => PySem.W.excInitIn K (aa_cx18 K) bm_ValueError "ValueError.__new__",
  fun K => PySem.W.excOver K (aa_cx18 K) bm_ValueError,
  fun K => HK.eqB (PySem.W.findIn K (.ref (aa_cx18 K)) "__setattr__") (some (some (.builtin "object.__setattr__"))),
  fun K => HK.eqB (PySem.W.findIn K (.ref (aa_cx18 K)) "__getattribute__") (some (some (.builtin "BaseException.__getattribute__"))),
  fun K => HK.eqB (PySem.W.findIn K (.ref (aa_cx18 K)) "__getattr__") (some none),
  fun K => HK.eqB (PySem.W.findIn K (.ref (aa_cx18 K)) "__init__") (some (some (.ref (aa_ix18 K)))),
  fun K => PySem.W.isFn K (.ref (aa_ix18 K))]
def ex10 : List (PySem.W.Frag → Bool) := [
  fun K => PySem.W.keepIn K (.ref (aa_cx18 K)),
  fun K => HK.eqB (PySem.W.subIn K (.ref (aa_cx18 K)) (.type "BaseException")) (some true),
  fun K => HK.eqB (PySem.W.typeIn K (.ref (aa_cx18 K))) (some (.type "type")),
  fun K => PySem.W.hasDictIn K (aa_cx18 K),
  fun K => HK.fBN K (aa_ix18 K) "InvalidClaim.__init__" .none,
  fun K => HK.eqB (PySem.W.takerIn K (aa_cx18 K) "value") (some none),
  fun K => HK.eqB (PySem.W.findIn K (.ref (aa_cx18 K)) "value") (some none),
  fun K => HK.eqB (PySem.W.nsIn K mainGlobals "InvalidCommand") (some (some (.ref (aa_cx19 K)))),
  fun K => PySem.W.excInitIn K (aa_cx19 K) bm_ValueError "ValueError.__new__",
  fun K => PySem.W.excOver K (aa_cx19 K) bm_ValueError,
  fun K => HK.eqB (PySem.W.findIn K (.ref (aa_cx19 K)) "__setattr__") (some (some (.builtin "object.__setattr__"))),
  fun K => HK.eqB (PySem.W.findIn K (.ref (aa_cx19 K)) "__getattribute__") (some (some (.builtin "BaseException.__getattribute__"))),
  fun K => HK.eqB (PySem.W.findIn K (.ref (aa_cx19 K)) "__getattr__") (some none),
  fun K => HK.eqB (PySem.W.findIn K (.ref (aa_cx19 K)) "__init__") (some (some (.ref (aa_ix19 K)))),
  fun K => PySem.W.isFn K (.ref (aa_ix19 K)),
  fun K => PySem.W.keepIn K (.ref (aa_cx19 K)),
  fun K => HK.eqB (PySem.W.subIn K (.ref (aa_cx19 K)) (.type "BaseException")) (some true),
  fun K => HK.eqB (PySem.W.typeIn K (.ref (aa_cx19 K))) (some (.type "type")),
  fun K => PySem.W.hasDictIn K (aa_cx19 K),
  fun K => HK.fBN K (aa_ix19 K) "InvalidCommand.__init__" .none,
  fun K => HK.eqB (PySem.W.takerIn K (aa_cx19 K) "value") (some none),
  fun K => HK.eqB (PySem.W.findIn K (.ref (aa_cx19 K)) "value") (some none),
  fun K => HK.eqB (PySem.W.nsIn K mainGlobals "IsTop") (some (some (.ref (aa_cx20 K)))),
  fun K => PySem.W.excInitIn K (aa_cx20 K) bm_RuntimeError "RuntimeError.__new__",
  fun K => PySem.W.excOver K (aa_cx20 K) bm_RuntimeError,
  fun K => HK.eqB (PySem.W.findIn K (.ref (aa_cx20 K)) "__setattr__") (some (some (.builtin "object.__setattr__"))),
  fun K => HK.eqB (PySem.W.findIn K (.ref (aa_cx20 K)) "__getattribute__") (some (some (.builtin "BaseException.__getattribute__"))),
  fun K => HK.eqB (PySem.W.findIn K (.ref (aa_cx20 K)) "__getattr__") (some none),
  fun K => HK.eqB (PySem.W.findIn K (.ref (aa_cx20 K)) "__init__") (some (some (.ref (aa_ix20 K)))),
  fun K => PySem.W.isFn K (.ref (aa_ix20 K))]
def ex11 : List (PySem.W.Frag → Bool) := [
  fun K => PySem.W.keepIn K (.ref (aa_cx20 K)),
  fun K => HK.eqB (PySem.W.subIn K (.ref (aa_cx20 K)) (.type "BaseException")) (some true),
  fun K => HK.eqB (PySem.W.typeIn K (.ref (aa_cx20 K))) (some (.type "type")),
  fun K => PySem.W.hasDictIn K (aa_cx20 K),
  fun K => HK.fBN K (aa_ix20 K) "IsTop.__init__" .none,
  fun K => HK.eqB (PySem.W.nsIn K mainGlobals "Struck") (some (some (.ref (aa_cx21 K)))),
  fun K => PySem.W.excInitIn K (aa_cx21 K) bm_RuntimeError "RuntimeError.__new__",
  fun K => PySem.W.excOver K (aa_cx21 K) bm_RuntimeError,
  fun K => HK.eqB (PySem.W.findIn K (.ref (aa_cx21 K)) "__setattr__") (some (some (.builtin "object.__setattr__"))),
  fun K => HK.eqB (PySem.W.findIn K (.ref (aa_cx21 K)) "__getattribute__") (some (some (.builtin "BaseException.__getattribute__"))),
  fun K => HK.eqB (PySem.W.findIn K (.ref (aa_cx21 K)) "__getattr__") (some none),
  fun K => HK.eqB (PySem.W.findIn K (.ref (aa_cx21 K)) "__init__") (some (some (.ref (aa_ix21 K)))),
  fun K => PySem.W.isFn K (.ref (aa_ix21 K)),
  fun K => PySem.W.keepIn K (.ref (aa_cx21 K)),
  fun K => HK.eqB (PySem.W.subIn K (.ref (aa_cx21 K)) (.type "BaseException")) (some true),
  fun K => HK.eqB (PySem.W.typeIn K (.ref (aa_cx21 K))) (some (.type "type")),
  fun K => PySem.W.hasDictIn K (aa_cx21 K),
  fun K => HK.fBN K (aa_ix21 K) "Struck.__init__" .none,
  fun K => HK.eqB (PySem.W.takerIn K (aa_cx21 K) "group") (some none),
  fun K => HK.eqB (PySem.W.findIn K (.ref (aa_cx21 K)) "group") (some none),
  fun K => HK.eqB (PySem.W.nsIn K mainGlobals "NotStruck") (some (some (.ref (aa_cx22 K)))),
  fun K => PySem.W.excInitIn K (aa_cx22 K) bm_RuntimeError "RuntimeError.__new__",
  fun K => PySem.W.excOver K (aa_cx22 K) bm_RuntimeError,
  fun K => HK.eqB (PySem.W.findIn K (.ref (aa_cx22 K)) "__setattr__") (some (some (.builtin "object.__setattr__"))),
  fun K => HK.eqB (PySem.W.findIn K (.ref (aa_cx22 K)) "__getattribute__") (some (some (.builtin "BaseException.__getattribute__"))),
  fun K => HK.eqB (PySem.W.findIn K (.ref (aa_cx22 K)) "__getattr__") (some none),
  fun K => HK.eqB (PySem.W.findIn K (.ref (aa_cx22 K)) "__init__") (some (some (.ref (aa_ix22 K)))),
  fun K => PySem.W.isFn K (.ref (aa_ix22 K)),
  fun K => PySem.W.keepIn K (.ref (aa_cx22 K)),
  fun K => HK.eqB (PySem.W.subIn K (.ref (aa_cx22 K)) (.type "BaseException")) (some true)]
def ex12 : List (PySem.W.Frag → Bool) := [
  fun K => HK.eqB (PySem.W.typeIn K (.ref (aa_cx22 K))) (some (.type "type")),
  fun K => PySem.W.hasDictIn K (aa_cx22 K),
  fun K => HK.fBN K (aa_ix22 K) "NotStruck.__init__" .none,
  fun K => HK.eqB (PySem.W.takerIn K (aa_cx22 K) "group") (some none),
  fun K => HK.eqB (PySem.W.findIn K (.ref (aa_cx22 K)) "group") (some none),
  fun K => HK.eqB (PySem.W.nsIn K mainGlobals "HasChildren") (some (some (.ref (aa_cx23 K)))),
  fun K => PySem.W.excInitIn K (aa_cx23 K) bm_RuntimeError "RuntimeError.__new__",
  fun K => PySem.W.excOver K (aa_cx23 K) bm_RuntimeError,
  fun K => HK.eqB (PySem.W.findIn K (.ref (aa_cx23 K)) "__setattr__") (some (some (.builtin "object.__setattr__"))),
  fun K => HK.eqB (PySem.W.findIn K (.ref (aa_cx23 K)) "__getattribute__") (some (some (.builtin "BaseException.__getattribute__"))),
  fun K => HK.eqB (PySem.W.findIn K (.ref (aa_cx23 K)) "__getattr__") (some none),
  fun K => HK.eqB (PySem.W.findIn K (.ref (aa_cx23 K)) "__init__") (some (some (.ref (aa_ix23 K)))),
  fun K => PySem.W.isFn K (.ref (aa_ix23 K)),
  fun K => PySem.W.keepIn K (.ref (aa_cx23 K)),
  fun K => HK.eqB (PySem.W.subIn K (.ref (aa_cx23 K)) (.type "BaseException")) (some true),
  fun K => HK.eqB (PySem.W.typeIn K (.ref (aa_cx23 K))) (some (.type "type")),
  fun K => PySem.W.hasDictIn K (aa_cx23 K),
  fun K => HK.fBN K (aa_ix23 K) "HasChildren.__init__" .none,
  fun K => HK.eqB (PySem.W.takerIn K (aa_cx23 K) "group") (some none),
  fun K => HK.eqB (PySem.W.findIn K (.ref (aa_cx23 K)) "group") (some none),
  fun K => HK.eqB (PySem.W.nsIn K mainGlobals "AtWork") (some (some (.ref (aa_cx24 K)))),
  fun K => PySem.W.excInitIn K (aa_cx24 K) bm_RuntimeError "RuntimeError.__new__",
  fun K => PySem.W.excOver K (aa_cx24 K) bm_RuntimeError,
  fun K => HK.eqB (PySem.W.findIn K (.ref (aa_cx24 K)) "__setattr__") (some (some (.builtin "object.__setattr__"))),
  fun K => HK.eqB (PySem.W.findIn K (.ref (aa_cx24 K)) "__getattribute__") (some (some (.builtin "BaseException.__getattribute__"))),
  fun K => HK.eqB (PySem.W.findIn K (.ref (aa_cx24 K)) "__getattr__") (some none),
  fun K => HK.eqB (PySem.W.findIn K (.ref (aa_cx24 K)) "__init__") (some (some (.ref (aa_ix24 K)))),
  fun K => PySem.W.isFn K (.ref (aa_ix24 K)),
  fun K => PySem.W.keepIn K (.ref (aa_cx24 K)),
  fun K => HK.eqB (PySem.W.subIn K (.ref (aa_cx24 K)) (.type "BaseException")) (some true)]
def ex13 : List (PySem.W.Frag → Bool) := [
  fun K => HK.eqB (PySem.W.typeIn K (.ref (aa_cx24 K))) (some (.type "type")),
  fun K => PySem.W.hasDictIn K (aa_cx24 K),
  fun K => HK.fBN K (aa_ix24 K) "AtWork.__init__" .none,
  fun K => HK.eqB (PySem.W.takerIn K (aa_cx24 K) "hand") (some none),
  fun K => HK.eqB (PySem.W.findIn K (.ref (aa_cx24 K)) "hand") (some none),
  fun K => HK.eqB (PySem.W.nsIn K mainGlobals "NoWalk") (some (some (.ref (aa_cx25 K)))),
  fun K => PySem.W.excInitIn K (aa_cx25 K) bm_RuntimeError "RuntimeError.__new__",
  fun K => PySem.W.excOver K (aa_cx25 K) bm_RuntimeError,
  fun K => HK.eqB (PySem.W.findIn K (.ref (aa_cx25 K)) "__setattr__") (some (some (.builtin "object.__setattr__"))),
  fun K => HK.eqB (PySem.W.findIn K (.ref (aa_cx25 K)) "__getattribute__") (some (some (.builtin "BaseException.__getattribute__"))),
  fun K => HK.eqB (PySem.W.findIn K (.ref (aa_cx25 K)) "__getattr__") (some none),
  fun K => HK.eqB (PySem.W.findIn K (.ref (aa_cx25 K)) "__init__") (some (some (.ref (aa_ix25 K)))),
  fun K => PySem.W.isFn K (.ref (aa_ix25 K)),
  fun K => PySem.W.keepIn K (.ref (aa_cx25 K)),
  fun K => HK.eqB (PySem.W.subIn K (.ref (aa_cx25 K)) (.type "BaseException")) (some true),
  fun K => HK.eqB (PySem.W.typeIn K (.ref (aa_cx25 K))) (some (.type "type")),
  fun K => PySem.W.hasDictIn K (aa_cx25 K),
  fun K => HK.fBN K (aa_ix25 K) "NoWalk.__init__" .none,
  fun K => HK.eqB (PySem.W.takerIn K (aa_cx25 K) "hand") (some none),
  fun K => HK.eqB (PySem.W.findIn K (.ref (aa_cx25 K)) "hand") (some none),
  fun K => HK.eqB (PySem.W.nsIn K mainGlobals "MustSettle") (some (some (.ref (aa_cx26 K)))),
  fun K => PySem.W.excInitIn K (aa_cx26 K) bm_RuntimeError "RuntimeError.__new__",
  fun K => PySem.W.excOver K (aa_cx26 K) bm_RuntimeError,
  fun K => HK.eqB (PySem.W.findIn K (.ref (aa_cx26 K)) "__setattr__") (some (some (.builtin "object.__setattr__"))),
  fun K => HK.eqB (PySem.W.findIn K (.ref (aa_cx26 K)) "__getattribute__") (some (some (.builtin "BaseException.__getattribute__"))),
  fun K => HK.eqB (PySem.W.findIn K (.ref (aa_cx26 K)) "__getattr__") (some none),
  fun K => HK.eqB (PySem.W.findIn K (.ref (aa_cx26 K)) "__init__") (some (some (.ref (aa_ix26 K)))),
  fun K => PySem.W.isFn K (.ref (aa_ix26 K)),
  fun K => PySem.W.keepIn K (.ref (aa_cx26 K)),
  fun K => HK.eqB (PySem.W.subIn K (.ref (aa_cx26 K)) (.type "BaseException")) (some true)]
def ex14 : List (PySem.W.Frag → Bool) := [
  fun K => HK.eqB (PySem.W.typeIn K (.ref (aa_cx26 K))) (some (.type "type")),
  fun K => PySem.W.hasDictIn K (aa_cx26 K),
  fun K => HK.fBN K (aa_ix26 K) "MustSettle.__init__" .none,
  fun K => HK.eqB (PySem.W.takerIn K (aa_cx26 K) "hand") (some none),
  fun K => HK.eqB (PySem.W.findIn K (.ref (aa_cx26 K)) "hand") (some none),
  fun K => HK.eqB (PySem.W.nsIn K mainGlobals "NoStock") (some (some (.ref (aa_cx27 K)))),
  fun K => PySem.W.excInitIn K (aa_cx27 K) bm_RuntimeError "RuntimeError.__new__",
  fun K => PySem.W.excOver K (aa_cx27 K) bm_RuntimeError,
  fun K => HK.eqB (PySem.W.findIn K (.ref (aa_cx27 K)) "__setattr__") (some (some (.builtin "object.__setattr__"))),
  fun K => HK.eqB (PySem.W.findIn K (.ref (aa_cx27 K)) "__getattribute__") (some (some (.builtin "BaseException.__getattribute__"))),
  fun K => HK.eqB (PySem.W.findIn K (.ref (aa_cx27 K)) "__getattr__") (some none),
  fun K => HK.eqB (PySem.W.findIn K (.ref (aa_cx27 K)) "__init__") (some (some (.ref (aa_ix27 K)))),
  fun K => PySem.W.isFn K (.ref (aa_ix27 K)),
  fun K => PySem.W.keepIn K (.ref (aa_cx27 K)),
  fun K => HK.eqB (PySem.W.subIn K (.ref (aa_cx27 K)) (.type "BaseException")) (some true),
  fun K => HK.eqB (PySem.W.typeIn K (.ref (aa_cx27 K))) (some (.type "type")),
  fun K => PySem.W.hasDictIn K (aa_cx27 K),
  fun K => HK.fBN K (aa_ix27 K) "NoStock.__init__" .none,
  fun K => HK.eqB (PySem.W.takerIn K (aa_cx27 K) "hand") (some none),
  fun K => HK.eqB (PySem.W.findIn K (.ref (aa_cx27 K)) "hand") (some none),
  fun K => HK.eqB (PySem.W.nsIn K mainGlobals "NotYours") (some (some (.ref (aa_cx28 K)))),
  fun K => PySem.W.excInitIn K (aa_cx28 K) bm_RuntimeError "RuntimeError.__new__",
  fun K => PySem.W.excOver K (aa_cx28 K) bm_RuntimeError,
  fun K => HK.eqB (PySem.W.findIn K (.ref (aa_cx28 K)) "__setattr__") (some (some (.builtin "object.__setattr__"))),
  fun K => HK.eqB (PySem.W.findIn K (.ref (aa_cx28 K)) "__getattribute__") (some (some (.builtin "BaseException.__getattribute__"))),
  fun K => HK.eqB (PySem.W.findIn K (.ref (aa_cx28 K)) "__getattr__") (some none),
  fun K => HK.eqB (PySem.W.findIn K (.ref (aa_cx28 K)) "__init__") (some (some (.ref (aa_ix28 K)))),
  fun K => PySem.W.isFn K (.ref (aa_ix28 K)),
  fun K => PySem.W.keepIn K (.ref (aa_cx28 K)),
  fun K => HK.eqB (PySem.W.subIn K (.ref (aa_cx28 K)) (.type "BaseException")) (some true)]
def ex15 : List (PySem.W.Frag → Bool) := [
  fun K => HK.eqB (PySem.W.typeIn K (.ref (aa_cx28 K))) (some (.type "type")),
  fun K => PySem.W.hasDictIn K (aa_cx28 K),
  fun K => HK.fBN K (aa_ix28 K) "NotYours.__init__" .none,
  fun K => HK.eqB (PySem.W.takerIn K (aa_cx28 K) "hand") (some none),
  fun K => HK.eqB (PySem.W.findIn K (.ref (aa_cx28 K)) "hand") (some none),
  fun K => HK.eqB (PySem.W.nsIn K mainGlobals "NotLiving") (some (some (.ref (aa_cx29 K)))),
  fun K => PySem.W.excInitIn K (aa_cx29 K) bm_RuntimeError "RuntimeError.__new__",
  fun K => PySem.W.excOver K (aa_cx29 K) bm_RuntimeError,
  fun K => HK.eqB (PySem.W.findIn K (.ref (aa_cx29 K)) "__setattr__") (some (some (.builtin "object.__setattr__"))),
  fun K => HK.eqB (PySem.W.findIn K (.ref (aa_cx29 K)) "__getattribute__") (some (some (.builtin "BaseException.__getattribute__"))),
  fun K => HK.eqB (PySem.W.findIn K (.ref (aa_cx29 K)) "__getattr__") (some none),
  fun K => HK.eqB (PySem.W.findIn K (.ref (aa_cx29 K)) "__init__") (some (some (.ref (aa_ix29 K)))),
  fun K => PySem.W.isFn K (.ref (aa_ix29 K)),
  fun K => PySem.W.keepIn K (.ref (aa_cx29 K)),
  fun K => HK.eqB (PySem.W.subIn K (.ref (aa_cx29 K)) (.type "BaseException")) (some true),
  fun K => HK.eqB (PySem.W.typeIn K (.ref (aa_cx29 K))) (some (.type "type")),
  fun K => PySem.W.hasDictIn K (aa_cx29 K),
  fun K => HK.fBN K (aa_ix29 K) "NotLiving.__init__" .none,
  fun K => HK.eqB (PySem.W.takerIn K (aa_cx29 K) "thing") (some none),
  fun K => HK.eqB (PySem.W.findIn K (.ref (aa_cx29 K)) "thing") (some none),
  fun K => HK.eqB (PySem.W.nsIn K mainGlobals "NoRow") (some (some (.ref (aa_cx30 K)))),
  fun K => PySem.W.excInitIn K (aa_cx30 K) bm_RuntimeError "RuntimeError.__new__",
  fun K => PySem.W.excOver K (aa_cx30 K) bm_RuntimeError,
  fun K => HK.eqB (PySem.W.findIn K (.ref (aa_cx30 K)) "__setattr__") (some (some (.builtin "object.__setattr__"))),
  fun K => HK.eqB (PySem.W.findIn K (.ref (aa_cx30 K)) "__getattribute__") (some (some (.builtin "BaseException.__getattribute__"))),
  fun K => HK.eqB (PySem.W.findIn K (.ref (aa_cx30 K)) "__getattr__") (some none),
  fun K => HK.eqB (PySem.W.findIn K (.ref (aa_cx30 K)) "__init__") (some (some (.ref (aa_ix30 K)))),
  fun K => PySem.W.isFn K (.ref (aa_ix30 K)),
  fun K => PySem.W.keepIn K (.ref (aa_cx30 K)),
  fun K => HK.eqB (PySem.W.subIn K (.ref (aa_cx30 K)) (.type "BaseException")) (some true)]
def ex16 : List (PySem.W.Frag → Bool) := [
  fun K => HK.eqB (PySem.W.typeIn K (.ref (aa_cx30 K))) (some (.type "type")),
  fun K => PySem.W.hasDictIn K (aa_cx30 K),
  fun K => HK.fBN K (aa_ix30 K) "NoRow.__init__" .none,
  fun K => HK.eqB (PySem.W.takerIn K (aa_cx30 K) "kind") (some none),
  fun K => HK.eqB (PySem.W.findIn K (.ref (aa_cx30 K)) "kind") (some none),
  fun K => HK.eqB (PySem.W.nsIn K mainGlobals "UnderWay") (some (some (.ref (aa_cx31 K)))),
  fun K => PySem.W.excInitIn K (aa_cx31 K) bm_RuntimeError "RuntimeError.__new__",
  fun K => PySem.W.excOver K (aa_cx31 K) bm_RuntimeError,
  fun K => HK.eqB (PySem.W.findIn K (.ref (aa_cx31 K)) "__setattr__") (some (some (.builtin "object.__setattr__"))),
  fun K => HK.eqB (PySem.W.findIn K (.ref (aa_cx31 K)) "__getattribute__") (some (some (.builtin "BaseException.__getattribute__"))),
  fun K => HK.eqB (PySem.W.findIn K (.ref (aa_cx31 K)) "__getattr__") (some none),
  fun K => HK.eqB (PySem.W.findIn K (.ref (aa_cx31 K)) "__init__") (some (some (.ref (aa_ix31 K)))),
  fun K => PySem.W.isFn K (.ref (aa_ix31 K)),
  fun K => PySem.W.keepIn K (.ref (aa_cx31 K)),
  fun K => HK.eqB (PySem.W.subIn K (.ref (aa_cx31 K)) (.type "BaseException")) (some true),
  fun K => HK.eqB (PySem.W.typeIn K (.ref (aa_cx31 K))) (some (.type "type")),
  fun K => PySem.W.hasDictIn K (aa_cx31 K),
  fun K => HK.fBN K (aa_ix31 K) "UnderWay.__init__" .none,
  fun K => HK.eqB (PySem.W.takerIn K (aa_cx31 K) "thing") (some none),
  fun K => HK.eqB (PySem.W.findIn K (.ref (aa_cx31 K)) "thing") (some none),
  fun K => HK.eqB (PySem.W.takerIn K (aa_cx31 K) "kind") (some none),
  fun K => HK.eqB (PySem.W.findIn K (.ref (aa_cx31 K)) "kind") (some none),
  fun K => HK.eqB (PySem.W.nsIn K mainGlobals "Held") (some (some (.ref (aa_cx32 K)))),
  fun K => PySem.W.excInitIn K (aa_cx32 K) bm_RuntimeError "RuntimeError.__new__",
  fun K => PySem.W.excOver K (aa_cx32 K) bm_RuntimeError,
  fun K => HK.eqB (PySem.W.findIn K (.ref (aa_cx32 K)) "__setattr__") (some (some (.builtin "object.__setattr__"))),
  fun K => HK.eqB (PySem.W.findIn K (.ref (aa_cx32 K)) "__getattribute__") (some (some (.builtin "BaseException.__getattribute__"))),
  fun K => HK.eqB (PySem.W.findIn K (.ref (aa_cx32 K)) "__getattr__") (some none),
  fun K => HK.eqB (PySem.W.findIn K (.ref (aa_cx32 K)) "__init__") (some (some (.ref (aa_ix32 K)))),
  fun K => PySem.W.isFn K (.ref (aa_ix32 K))]
def ex17 : List (PySem.W.Frag → Bool) := [
  fun K => PySem.W.keepIn K (.ref (aa_cx32 K)),
  fun K => HK.eqB (PySem.W.subIn K (.ref (aa_cx32 K)) (.type "BaseException")) (some true),
  fun K => HK.eqB (PySem.W.typeIn K (.ref (aa_cx32 K))) (some (.type "type")),
  fun K => PySem.W.hasDictIn K (aa_cx32 K),
  fun K => HK.fBN K (aa_ix32 K) "Held.__init__" .none,
  fun K => HK.eqB (PySem.W.takerIn K (aa_cx32 K) "thing") (some none),
  fun K => HK.eqB (PySem.W.findIn K (.ref (aa_cx32 K)) "thing") (some none),
  fun K => HK.eqB (PySem.W.takerIn K (aa_cx32 K) "kind") (some none),
  fun K => HK.eqB (PySem.W.findIn K (.ref (aa_cx32 K)) "kind") (some none),
  fun K => HK.eqB (PySem.W.nsIn K mainGlobals "NotKept") (some (some (.ref (aa_cx33 K)))),
  fun K => PySem.W.excInitIn K (aa_cx33 K) bm_RuntimeError "RuntimeError.__new__",
  fun K => PySem.W.excOver K (aa_cx33 K) bm_RuntimeError,
  fun K => HK.eqB (PySem.W.findIn K (.ref (aa_cx33 K)) "__setattr__") (some (some (.builtin "object.__setattr__"))),
  fun K => HK.eqB (PySem.W.findIn K (.ref (aa_cx33 K)) "__getattribute__") (some (some (.builtin "BaseException.__getattribute__"))),
  fun K => HK.eqB (PySem.W.findIn K (.ref (aa_cx33 K)) "__getattr__") (some none),
  fun K => HK.eqB (PySem.W.findIn K (.ref (aa_cx33 K)) "__init__") (some (some (.ref (aa_ix33 K)))),
  fun K => PySem.W.isFn K (.ref (aa_ix33 K)),
  fun K => PySem.W.keepIn K (.ref (aa_cx33 K)),
  fun K => HK.eqB (PySem.W.subIn K (.ref (aa_cx33 K)) (.type "BaseException")) (some true),
  fun K => HK.eqB (PySem.W.typeIn K (.ref (aa_cx33 K))) (some (.type "type")),
  fun K => PySem.W.hasDictIn K (aa_cx33 K),
  fun K => HK.fBN K (aa_ix33 K) "NotKept.__init__" .none,
  fun K => HK.eqB (PySem.W.takerIn K (aa_cx33 K) "wish") (some none),
  fun K => HK.eqB (PySem.W.findIn K (.ref (aa_cx33 K)) "wish") (some none),
  fun K => HK.eqB (PySem.W.nsIn K mainGlobals "NoEnd") (some (some (.ref (aa_cx34 K)))),
  fun K => PySem.W.excInitIn K (aa_cx34 K) bm_RuntimeError "RuntimeError.__new__",
  fun K => PySem.W.excOver K (aa_cx34 K) bm_RuntimeError,
  fun K => HK.eqB (PySem.W.findIn K (.ref (aa_cx34 K)) "__setattr__") (some (some (.builtin "object.__setattr__"))),
  fun K => HK.eqB (PySem.W.findIn K (.ref (aa_cx34 K)) "__getattribute__") (some (some (.builtin "BaseException.__getattribute__"))),
  fun K => HK.eqB (PySem.W.findIn K (.ref (aa_cx34 K)) "__getattr__") (some none)]
def ex18 : List (PySem.W.Frag → Bool) := [
  fun K => HK.eqB (PySem.W.findIn K (.ref (aa_cx34 K)) "__init__") (some (some (.ref (aa_ix34 K)))),
  fun K => PySem.W.isFn K (.ref (aa_ix34 K)),
  fun K => PySem.W.keepIn K (.ref (aa_cx34 K)),
  fun K => HK.eqB (PySem.W.subIn K (.ref (aa_cx34 K)) (.type "BaseException")) (some true),
  fun K => HK.eqB (PySem.W.typeIn K (.ref (aa_cx34 K))) (some (.type "type")),
  fun K => PySem.W.hasDictIn K (aa_cx34 K),
  fun K => HK.fBN K (aa_ix34 K) "NoEnd.__init__" .none,
  fun K => HK.eqB (PySem.W.nsIn K mainGlobals "Untrue") (some (some (.ref (aa_cx35 K)))),
  fun K => PySem.W.excInitIn K (aa_cx35 K) bm_RuntimeError "RuntimeError.__new__",
  fun K => PySem.W.excOver K (aa_cx35 K) bm_RuntimeError,
  fun K => HK.eqB (PySem.W.findIn K (.ref (aa_cx35 K)) "__setattr__") (some (some (.builtin "object.__setattr__"))),
  fun K => HK.eqB (PySem.W.findIn K (.ref (aa_cx35 K)) "__getattribute__") (some (some (.builtin "BaseException.__getattribute__"))),
  fun K => HK.eqB (PySem.W.findIn K (.ref (aa_cx35 K)) "__getattr__") (some none),
  fun K => HK.eqB (PySem.W.findIn K (.ref (aa_cx35 K)) "__init__") (some (some (.ref (aa_ix35 K)))),
  fun K => PySem.W.isFn K (.ref (aa_ix35 K)),
  fun K => PySem.W.keepIn K (.ref (aa_cx35 K)),
  fun K => HK.eqB (PySem.W.subIn K (.ref (aa_cx35 K)) (.type "BaseException")) (some true),
  fun K => HK.eqB (PySem.W.typeIn K (.ref (aa_cx35 K))) (some (.type "type")),
  fun K => PySem.W.hasDictIn K (aa_cx35 K),
  fun K => HK.fBN K (aa_ix35 K) "Untrue.__init__" .none,
  fun K => HK.eqB (PySem.W.nsIn K mainGlobals "NothingToUndo") (some (some (.ref (aa_cx36 K)))),
  fun K => PySem.W.excInitIn K (aa_cx36 K) bm_RuntimeError "RuntimeError.__new__",
  fun K => PySem.W.excOver K (aa_cx36 K) bm_RuntimeError,
  fun K => HK.eqB (PySem.W.findIn K (.ref (aa_cx36 K)) "__setattr__") (some (some (.builtin "object.__setattr__"))),
  fun K => HK.eqB (PySem.W.findIn K (.ref (aa_cx36 K)) "__getattribute__") (some (some (.builtin "BaseException.__getattribute__"))),
  fun K => HK.eqB (PySem.W.findIn K (.ref (aa_cx36 K)) "__getattr__") (some none),
  fun K => HK.eqB (PySem.W.findIn K (.ref (aa_cx36 K)) "__init__") (some (some (.ref (aa_ix36 K)))),
  fun K => PySem.W.isFn K (.ref (aa_ix36 K)),
  fun K => PySem.W.keepIn K (.ref (aa_cx36 K)),
  fun K => HK.eqB (PySem.W.subIn K (.ref (aa_cx36 K)) (.type "BaseException")) (some true)]
def ex19 : List (PySem.W.Frag → Bool) := [
  fun K => HK.eqB (PySem.W.typeIn K (.ref (aa_cx36 K))) (some (.type "type")),
  fun K => PySem.W.hasDictIn K (aa_cx36 K),
  fun K => HK.fBN K (aa_ix36 K) "NothingToUndo.__init__" .none,
  fun K => HK.eqB (PySem.W.nsIn K mainGlobals "DeedFailed") (some (some (.ref (aa_cx37 K)))),
  fun K => PySem.W.excInitIn K (aa_cx37 K) bm_RuntimeError "RuntimeError.__new__",
  fun K => PySem.W.excOver K (aa_cx37 K) bm_RuntimeError,
  fun K => HK.eqB (PySem.W.findIn K (.ref (aa_cx37 K)) "__setattr__") (some (some (.builtin "object.__setattr__"))),
  fun K => HK.eqB (PySem.W.findIn K (.ref (aa_cx37 K)) "__getattribute__") (some (some (.builtin "BaseException.__getattribute__"))),
  fun K => HK.eqB (PySem.W.findIn K (.ref (aa_cx37 K)) "__getattr__") (some none),
  fun K => HK.eqB (PySem.W.findIn K (.ref (aa_cx37 K)) "__init__") (some (some (.ref (aa_ix37 K)))),
  fun K => PySem.W.isFn K (.ref (aa_ix37 K)),
  fun K => PySem.W.keepIn K (.ref (aa_cx37 K)),
  fun K => HK.eqB (PySem.W.subIn K (.ref (aa_cx37 K)) (.type "BaseException")) (some true),
  fun K => HK.eqB (PySem.W.typeIn K (.ref (aa_cx37 K))) (some (.type "type")),
  fun K => PySem.W.hasDictIn K (aa_cx37 K),
  fun K => HK.fBN K (aa_ix37 K) "DeedFailed.__init__" .none,
  fun K => HK.eqB (PySem.W.takerIn K (aa_cx37 K) "position") (some none),
  fun K => HK.eqB (PySem.W.findIn K (.ref (aa_cx37 K)) "position") (some none),
  fun K => HK.eqB (PySem.W.nsIn K mainGlobals "CommandFailed") (some (some (.ref (aa_cx38 K)))),
  fun K => PySem.W.excInitIn K (aa_cx38 K) bm_RuntimeError "RuntimeError.__new__",
  fun K => PySem.W.excOver K (aa_cx38 K) bm_RuntimeError,
  fun K => HK.eqB (PySem.W.findIn K (.ref (aa_cx38 K)) "__setattr__") (some (some (.builtin "object.__setattr__"))),
  fun K => HK.eqB (PySem.W.findIn K (.ref (aa_cx38 K)) "__getattribute__") (some (some (.builtin "BaseException.__getattribute__"))),
  fun K => HK.eqB (PySem.W.findIn K (.ref (aa_cx38 K)) "__getattr__") (some none),
  fun K => HK.eqB (PySem.W.findIn K (.ref (aa_cx38 K)) "__init__") (some (some (.ref (aa_ix38 K)))),
  fun K => PySem.W.isFn K (.ref (aa_ix38 K)),
  fun K => PySem.W.keepIn K (.ref (aa_cx38 K)),
  fun K => HK.eqB (PySem.W.subIn K (.ref (aa_cx38 K)) (.type "BaseException")) (some true),
  fun K => HK.eqB (PySem.W.typeIn K (.ref (aa_cx38 K))) (some (.type "type")),
  fun K => PySem.W.hasDictIn K (aa_cx38 K)]
def ex20 : List (PySem.W.Frag → Bool) := [
  fun K => HK.fBN K (aa_ix38 K) "CommandFailed.__init__" .none,
  fun K => HK.eqB (PySem.W.takerIn K (aa_cx38 K) "position") (some none),
  fun K => HK.eqB (PySem.W.findIn K (.ref (aa_cx38 K)) "position") (some none),
  fun K => HK.eqB (PySem.W.nsIn K mainGlobals "TooMany") (some (some (.ref (aa_cx39 K)))),
  fun K => PySem.W.excInitIn K (aa_cx39 K) bm_ArithmeticError "ArithmeticError.__new__",
  fun K => PySem.W.excOver K (aa_cx39 K) bm_ArithmeticError,
  fun K => HK.eqB (PySem.W.findIn K (.ref (aa_cx39 K)) "__setattr__") (some (some (.builtin "object.__setattr__"))),
  fun K => HK.eqB (PySem.W.findIn K (.ref (aa_cx39 K)) "__getattribute__") (some (some (.builtin "BaseException.__getattribute__"))),
  fun K => HK.eqB (PySem.W.findIn K (.ref (aa_cx39 K)) "__getattr__") (some none),
  fun K => HK.eqB (PySem.W.findIn K (.ref (aa_cx39 K)) "__init__") (some (some (.ref (aa_ix39 K)))),
  fun K => PySem.W.isFn K (.ref (aa_ix39 K)),
  fun K => PySem.W.keepIn K (.ref (aa_cx39 K)),
  fun K => HK.eqB (PySem.W.subIn K (.ref (aa_cx39 K)) (.type "BaseException")) (some true),
  fun K => HK.eqB (PySem.W.typeIn K (.ref (aa_cx39 K))) (some (.type "type")),
  fun K => PySem.W.hasDictIn K (aa_cx39 K),
  fun K => HK.fBN K (aa_ix39 K) "TooMany.__init__" .none,
  fun K => HK.eqB (PySem.W.takerIn K (aa_cx39 K) "what") (some none),
  fun K => HK.eqB (PySem.W.findIn K (.ref (aa_cx39 K)) "what") (some none),
  fun K => HK.eqB (PySem.W.takerIn K (aa_cx39 K) "limit") (some none),
  fun K => HK.eqB (PySem.W.findIn K (.ref (aa_cx39 K)) "limit") (some none),
  fun K => HK.eqB (PySem.W.nsIn K mainGlobals "LimitError") (some (some (.ref (aa_cb_LimitError K)))),
  fun K => HK.eqB (PySem.W.nsIn K mainGlobals "StandError") (some (some (.ref (aa_cb_StandError K)))),
  fun K => HK.eqB (PySem.W.nsIn K mainGlobals "WayError") (some (some (.ref (aa_cb_WayError K)))),
  fun K => ktB K [(aa_cx1 K), (aa_cx2 K), (aa_cx3 K), (aa_cx4 K), (aa_cx5 K), (aa_cx6 K), (aa_cx7 K), (aa_cx8 K), (aa_cx9 K), (aa_cx10 K), (aa_cx11 K), (aa_cx12 K), (aa_cx13 K), (aa_cx14 K), (aa_cx15 K), (aa_cx16 K), (aa_cx17 K), (aa_cx18 K), (aa_cx19 K), (aa_cx20 K), (aa_cx21 K), (aa_cx22 K), (aa_cx23 K), (aa_cx24 K), (aa_cx25 K), (aa_cx26 K), (aa_cx27 K), (aa_cx28 K), (aa_cx29 K), (aa_cx30 K), (aa_cx31 K), (aa_cx32 K), (aa_cx33 K), (aa_cx34 K), (aa_cx35 K), (aa_cx36 K), (aa_cx37 K), (aa_cx38 K), (aa_cx39 K)],
  fun K => kuB K [(aa_cx1 K), (aa_cx2 K), (aa_cx3 K), (aa_cx4 K), (aa_cx5 K), (aa_cx6 K), (aa_cx7 K), (aa_cx8 K), (aa_cx9 K), (aa_cx10 K), (aa_cx11 K), (aa_cx12 K), (aa_cx13 K), (aa_cx14 K), (aa_cx15 K), (aa_cx16 K), (aa_cx17 K), (aa_cx18 K), (aa_cx19 K), (aa_cx20 K), (aa_cx21 K), (aa_cx22 K), (aa_cx23 K), (aa_cx24 K), (aa_cx25 K), (aa_cx26 K), (aa_cx27 K), (aa_cx28 K), (aa_cx29 K), (aa_cx30 K), (aa_cx31 K), (aa_cx32 K), (aa_cx33 K), (aa_cx34 K), (aa_cx35 K), (aa_cx36 K), (aa_cx37 K), (aa_cx38 K), (aa_cx39 K)] [.ref (aa_cb_WayError K), .ref (aa_cb_StandError K), .ref (aa_cb_LimitError K), .type "ValueError", .type "RuntimeError", .type "ArithmeticError", .type "LookupError", .type "TypeError", .type "NotImplementedError", .type "OverflowError", .type "ZeroDivisionError", .type "AttributeError", .type "KeyError", .type "IndexError", .type "StopIteration"],
  fun K => keB K [(aa_cx1 K), (aa_cx2 K), (aa_cx3 K), (aa_cx4 K), (aa_cx5 K), (aa_cx6 K), (aa_cx7 K), (aa_cx8 K), (aa_cx9 K), (aa_cx10 K), (aa_cx11 K), (aa_cx12 K), (aa_cx13 K), (aa_cx14 K), (aa_cx15 K), (aa_cx16 K), (aa_cx17 K), (aa_cx18 K), (aa_cx19 K), (aa_cx20 K), (aa_cx21 K), (aa_cx22 K), (aa_cx23 K), (aa_cx24 K), (aa_cx25 K), (aa_cx26 K), (aa_cx27 K), (aa_cx28 K), (aa_cx29 K), (aa_cx30 K), (aa_cx31 K), (aa_cx32 K), (aa_cx33 K), (aa_cx34 K), (aa_cx35 K), (aa_cx36 K), (aa_cx37 K), (aa_cx38 K), (aa_cx39 K)],
  fun K => HK.eqB (PySem.W.exmOne K (.ref (aa_cx5 K)) (.ref (aa_cb_WayError K))) (some true),
  fun K => HK.eqB (PySem.W.exmOne K (.ref (aa_cx32 K)) (.ref (aa_cb_WayError K))) (some false),
  fun K => HK.eqB (PySem.W.exmOne K (.ref (aa_cx32 K)) (.ref (aa_cb_StandError K))) (some true),
  fun K => HK.eqB (PySem.W.exmOne K (.ref (aa_cx39 K)) (.ref (aa_cb_WayError K))) (some false)]
def ex21 : List (PySem.W.Frag → Bool) := [
  fun K => HK.eqB (PySem.W.exmOne K (.ref (aa_cx39 K)) (.ref (aa_cb_StandError K))) (some false),
  fun K => HK.eqB (PySem.W.exmOne K (.ref (aa_cx39 K)) (.ref (aa_cb_LimitError K))) (some true),
  fun K => HK.eqB (PySem.W.nsIn K mainGlobals "ArithmeticError") (some none),
  fun K => HK.eqB (PySem.W.nsIn K mainGlobals "AttributeError") (some none),
  fun K => HK.eqB (PySem.W.nsIn K mainGlobals "IndexError") (some none),
  fun K => HK.eqB (PySem.W.nsIn K mainGlobals "KeyError") (some none),
  fun K => HK.eqB (PySem.W.nsIn K mainGlobals "LookupError") (some none),
  fun K => HK.eqB (PySem.W.nsIn K mainGlobals "NotImplementedError") (some none),
  fun K => HK.eqB (PySem.W.nsIn K mainGlobals "OverflowError") (some none),
  fun K => HK.eqB (PySem.W.nsIn K mainGlobals "RuntimeError") (some none),
  fun K => HK.eqB (PySem.W.nsIn K mainGlobals "StopIteration") (some none),
  fun K => HK.eqB (PySem.W.nsIn K mainGlobals "TypeError") (some none),
  fun K => HK.eqB (PySem.W.nsIn K mainGlobals "ValueError") (some none),
  fun K => HK.eqB (PySem.W.nsIn K mainGlobals "ZeroDivisionError") (some none),
  fun K => HK.eqB (PySem.W.nsIn K mainGlobals "abs") (some none),
  fun K => HK.eqB (PySem.W.nsIn K mainGlobals "all") (some none),
  fun K => HK.eqB (PySem.W.nsIn K mainGlobals "divmod") (some none),
  fun K => HK.eqB (PySem.W.nsIn K mainGlobals "int") (some none),
  fun K => HK.eqB (PySem.W.nsIn K mainGlobals "isinstance") (some none),
  fun K => HK.eqB (PySem.W.nsIn K mainGlobals "len") (some none),
  fun K => HK.eqB (PySem.W.nsIn K mainGlobals "max") (some none),
  fun K => HK.eqB (PySem.W.nsIn K mainGlobals "min") (some none),
  fun K => HK.eqB (PySem.W.nsIn K mainGlobals "range") (some none),
  fun K => HK.eqB (PySem.W.nsIn K mainGlobals "repr") (some none)]
def ex : List (PySem.W.Frag → Bool) := ex0 ++ (ex1 ++ (ex2 ++ (ex3 ++ (ex4 ++ (ex5 ++ (ex6 ++ (ex7 ++ (ex8 ++ (ex9 ++ (ex10 ++ (ex11 ++ (ex12 ++ (ex13 ++ (ex14 ++ (ex15 ++ (ex16 ++ (ex17 ++ (ex18 ++ (ex19 ++ (ex20 ++ (ex21)))))))))))))))))))))
def ats0 : List HK.At := [
  fun K => (aa_f1 K),
  fun K => (aa_f2 K),
  fun K => (aa_f3 K),
  fun K => (aa_f4 K),
  fun K => (aa_f5 K),
  fun K => (aa_f6 K),
  fun K => (aa_f7 K),
  fun K => (aa_f8 K),
  fun K => (aa_f9 K),
  fun K => (aa_f10 K),
  fun K => (aa_f11 K),
  fun K => (aa_ix1 K),
  fun K => (aa_ix2 K),
  fun K => (aa_ix3 K),
  fun K => (aa_ix4 K),
  fun K => (aa_ix5 K),
  fun K => (aa_ix6 K),
  fun K => (aa_ix7 K),
  fun K => (aa_ix8 K),
  fun K => (aa_ix9 K),
  fun K => (aa_ix10 K),
  fun K => (aa_ix11 K),
  fun K => (aa_ix12 K),
  fun K => (aa_ix13 K),
  fun K => (aa_ix14 K)]
def ats1 : List HK.At := [
  fun K => (aa_ix15 K),
  fun K => (aa_ix16 K),
  fun K => (aa_ix17 K),
  fun K => (aa_ix18 K),
  fun K => (aa_ix19 K),
  fun K => (aa_ix20 K),
  fun K => (aa_ix21 K),
  fun K => (aa_ix22 K),
  fun K => (aa_ix23 K),
  fun K => (aa_ix24 K),
  fun K => (aa_ix25 K),
  fun K => (aa_ix26 K),
  fun K => (aa_ix27 K),
  fun K => (aa_ix28 K),
  fun K => (aa_ix29 K),
  fun K => (aa_ix30 K),
  fun K => (aa_ix31 K),
  fun K => (aa_ix32 K),
  fun K => (aa_ix33 K),
  fun K => (aa_ix34 K),
  fun K => (aa_ix35 K),
  fun K => (aa_ix36 K),
  fun K => (aa_ix37 K),
  fun K => (aa_ix38 K),
  fun K => (aa_ix39 K)]
def ats : List HK.At := ats0 ++ (ats1)
def fvs0 : List He.FnW := [
  some ("_law_pot", "_law_pot", defArgs s_Lpot, .stmts (defBody s_Lpot), defScope s_Lpot, mainGlobals, [], builtinsNs),
  some ("_law_draw", "_law_draw", defArgs s_Ldraw, .stmts (defBody s_Ldraw), defScope s_Ldraw, mainGlobals, [], builtinsNs),
  some ("_law_pick", "_law_pick", defArgs s_Lpick, .stmts (defBody s_Lpick), defScope s_Lpick, mainGlobals, [], builtinsNs),
  some ("_law_made", "_law_made", defArgs s_Lmade, .stmts (defBody s_Lmade), defScope s_Lmade, mainGlobals, [], builtinsNs),
  some ("_law_named", "_law_named", defArgs s_Lnamed, .stmts (defBody s_Lnamed), defScope s_Lnamed, mainGlobals, [], builtinsNs),
  some ("_law_which", "_law_which", defArgs s_Lwhich, .stmts (defBody s_Lwhich), defScope s_Lwhich, mainGlobals, [], builtinsNs),
  some ("_law_tops", "_law_tops", defArgs s_Ltops, .stmts (defBody s_Ltops), defScope s_Ltops, mainGlobals, [], builtinsNs),
  some ("_law_kept_right", "_law_kept_right", defArgs s_Lkept_right, .stmts (defBody s_Lkept_right), defScope s_Lkept_right, mainGlobals, [], builtinsNs),
  some ("_law_caught", "_law_caught", defArgs s_Lcaught, .stmts (defBody s_Lcaught), defScope s_Lcaught, mainGlobals, [], builtinsNs),
  some ("_law_right", "_law_right", defArgs s_Lright, .stmts (defBody s_Lright), defScope s_Lright, mainGlobals, [], builtinsNs),
  some ("law", "law", defArgs s_law, .stmts (defBody s_law), defScope s_law, mainGlobals, [], builtinsNs),
  some ("__init__", "InvalidGroup.__init__", defArgs s_E_InvalidGroup, .stmts (defBody s_E_InvalidGroup), defScope s_E_InvalidGroup, mainGlobals, [], builtinsNs),
  some ("__init__", "InvalidParents.__init__", defArgs s_E_InvalidParents, .stmts (defBody s_E_InvalidParents), defScope s_E_InvalidParents, mainGlobals, [], builtinsNs),
  some ("__init__", "InvalidStruck.__init__", defArgs s_E_InvalidStruck, .stmts (defBody s_E_InvalidStruck), defScope s_E_InvalidStruck, mainGlobals, [], builtinsNs),
  some ("__init__", "InvalidKind.__init__", defArgs s_E_InvalidKind, .stmts (defBody s_E_InvalidKind), defScope s_E_InvalidKind, mainGlobals, [], builtinsNs),
  some ("__init__", "InvalidRow.__init__", defArgs s_E_InvalidRow, .stmts (defBody s_E_InvalidRow), defScope s_E_InvalidRow, mainGlobals, [], builtinsNs),
  some ("__init__", "InvalidWord.__init__", defArgs s_E_InvalidWord, .stmts (defBody s_E_InvalidWord), defScope s_E_InvalidWord, mainGlobals, [], builtinsNs),
  some ("__init__", "InvalidHolds.__init__", defArgs s_E_InvalidHolds, .stmts (defBody s_E_InvalidHolds), defScope s_E_InvalidHolds, mainGlobals, [], builtinsNs),
  some ("__init__", "InvalidHand.__init__", defArgs s_E_InvalidHand, .stmts (defBody s_E_InvalidHand), defScope s_E_InvalidHand, mainGlobals, [], builtinsNs),
  some ("__init__", "InvalidThing.__init__", defArgs s_E_InvalidThing, .stmts (defBody s_E_InvalidThing), defScope s_E_InvalidThing, mainGlobals, [], builtinsNs),
  some ("__init__", "InvalidLimit.__init__", defArgs s_E_InvalidLimit, .stmts (defBody s_E_InvalidLimit), defScope s_E_InvalidLimit, mainGlobals, [], builtinsNs),
  some ("__init__", "InvalidCount.__init__", defArgs s_E_InvalidCount, .stmts (defBody s_E_InvalidCount), defScope s_E_InvalidCount, mainGlobals, [], builtinsNs),
  some ("__init__", "InvalidUnit.__init__", defArgs s_E_InvalidUnit, .stmts (defBody s_E_InvalidUnit), defScope s_E_InvalidUnit, mainGlobals, [], builtinsNs),
  some ("__init__", "InvalidState.__init__", defArgs s_E_InvalidState, .stmts (defBody s_E_InvalidState), defScope s_E_InvalidState, mainGlobals, [], builtinsNs),
  some ("__init__", "InvalidWish.__init__", defArgs s_E_InvalidWish, .stmts (defBody s_E_InvalidWish), defScope s_E_InvalidWish, mainGlobals, [], builtinsNs)]
def fvs1 : List He.FnW := [
  some ("__init__", "InvalidWishes.__init__", defArgs s_E_InvalidWishes, .stmts (defBody s_E_InvalidWishes), defScope s_E_InvalidWishes, mainGlobals, [], builtinsNs),
  some ("__init__", "InvalidDeed.__init__", defArgs s_E_InvalidDeed, .stmts (defBody s_E_InvalidDeed), defScope s_E_InvalidDeed, mainGlobals, [], builtinsNs),
  some ("__init__", "InvalidText.__init__", defArgs s_E_InvalidText, .stmts (defBody s_E_InvalidText), defScope s_E_InvalidText, mainGlobals, [], builtinsNs),
  some ("__init__", "InvalidClaim.__init__", defArgs s_E_InvalidClaim, .stmts (defBody s_E_InvalidClaim), defScope s_E_InvalidClaim, mainGlobals, [], builtinsNs),
  some ("__init__", "InvalidCommand.__init__", defArgs s_E_InvalidCommand, .stmts (defBody s_E_InvalidCommand), defScope s_E_InvalidCommand, mainGlobals, [], builtinsNs),
  some ("__init__", "IsTop.__init__", defArgs s_E_IsTop, .stmts (defBody s_E_IsTop), defScope s_E_IsTop, mainGlobals, [], builtinsNs),
  some ("__init__", "Struck.__init__", defArgs s_E_Struck, .stmts (defBody s_E_Struck), defScope s_E_Struck, mainGlobals, [], builtinsNs),
  some ("__init__", "NotStruck.__init__", defArgs s_E_NotStruck, .stmts (defBody s_E_NotStruck), defScope s_E_NotStruck, mainGlobals, [], builtinsNs),
  some ("__init__", "HasChildren.__init__", defArgs s_E_HasChildren, .stmts (defBody s_E_HasChildren), defScope s_E_HasChildren, mainGlobals, [], builtinsNs),
  some ("__init__", "AtWork.__init__", defArgs s_E_AtWork, .stmts (defBody s_E_AtWork), defScope s_E_AtWork, mainGlobals, [], builtinsNs),
  some ("__init__", "NoWalk.__init__", defArgs s_E_NoWalk, .stmts (defBody s_E_NoWalk), defScope s_E_NoWalk, mainGlobals, [], builtinsNs),
  some ("__init__", "MustSettle.__init__", defArgs s_E_MustSettle, .stmts (defBody s_E_MustSettle), defScope s_E_MustSettle, mainGlobals, [], builtinsNs),
  some ("__init__", "NoStock.__init__", defArgs s_E_NoStock, .stmts (defBody s_E_NoStock), defScope s_E_NoStock, mainGlobals, [], builtinsNs),
  some ("__init__", "NotYours.__init__", defArgs s_E_NotYours, .stmts (defBody s_E_NotYours), defScope s_E_NotYours, mainGlobals, [], builtinsNs),
  some ("__init__", "NotLiving.__init__", defArgs s_E_NotLiving, .stmts (defBody s_E_NotLiving), defScope s_E_NotLiving, mainGlobals, [], builtinsNs),
  some ("__init__", "NoRow.__init__", defArgs s_E_NoRow, .stmts (defBody s_E_NoRow), defScope s_E_NoRow, mainGlobals, [], builtinsNs),
  some ("__init__", "UnderWay.__init__", defArgs s_E_UnderWay, .stmts (defBody s_E_UnderWay), defScope s_E_UnderWay, mainGlobals, [], builtinsNs),
  some ("__init__", "Held.__init__", defArgs s_E_Held, .stmts (defBody s_E_Held), defScope s_E_Held, mainGlobals, [], builtinsNs),
  some ("__init__", "NotKept.__init__", defArgs s_E_NotKept, .stmts (defBody s_E_NotKept), defScope s_E_NotKept, mainGlobals, [], builtinsNs),
  some ("__init__", "NoEnd.__init__", defArgs s_E_NoEnd, .stmts (defBody s_E_NoEnd), defScope s_E_NoEnd, mainGlobals, [], builtinsNs),
  some ("__init__", "Untrue.__init__", defArgs s_E_Untrue, .stmts (defBody s_E_Untrue), defScope s_E_Untrue, mainGlobals, [], builtinsNs),
  some ("__init__", "NothingToUndo.__init__", defArgs s_E_NothingToUndo, .stmts (defBody s_E_NothingToUndo), defScope s_E_NothingToUndo, mainGlobals, [], builtinsNs),
  some ("__init__", "DeedFailed.__init__", defArgs s_E_DeedFailed, .stmts (defBody s_E_DeedFailed), defScope s_E_DeedFailed, mainGlobals, [], builtinsNs),
  some ("__init__", "CommandFailed.__init__", defArgs s_E_CommandFailed, .stmts (defBody s_E_CommandFailed), defScope s_E_CommandFailed, mainGlobals, [], builtinsNs),
  some ("__init__", "TooMany.__init__", defArgs s_E_TooMany, .stmts (defBody s_E_TooMany), defScope s_E_TooMany, mainGlobals, [], builtinsNs)]
def fvs : List He.FnW := fvs0 ++ (fvs1)
def tbs : List He.Tab := []
def ls0 : List Str := ["WayError", "InvalidGroup", "InvalidParents", "InvalidStruck", "InvalidKind", "InvalidRow", "InvalidWord", "InvalidHolds", "InvalidHand", "InvalidThing", "InvalidLimit", "InvalidCount", "InvalidUnit", "InvalidState", "InvalidWish", "InvalidWishes", "InvalidDeed", "InvalidText", "InvalidClaim", "InvalidCommand", "StandError", "IsTop", "Struck", "NotStruck", "HasChildren", "AtWork", "NoWalk", "MustSettle", "NoStock", "NotYours"]
def ls1 : List Str := ["NotLiving", "NoRow", "UnderWay", "Held", "NotKept", "NoEnd", "Untrue", "NothingToUndo", "DeedFailed", "CommandFailed", "LimitError", "TooMany", "_law_pot", "_law_draw", "_law_pick", "_law_made", "_law_named", "_law_which", "_law_tops", "_law_kept_right", "_law_caught", "_law_right"]
def loose : List Str := ls0 ++ (ls1)
abbrev R : PySem.W.OpenRow := PySem.W.OpenLaw.row PySem.Challenge.rw_chargeways_k10_errors_and_what_they_keep
def as : List Addr := (List.range 1000).reverse
abbrev hk : PySem.W.Hook := HK.hook as ats fvs tbs ex
def ob (s : PySem.W.SharedT) : HK.Al := HK.obsM as ats tbs ex (HandSHeadRun.getT s)
theorem ob_eq (s : PySem.W.SharedT) : ob s = hk.obs s.abs := HK.obs_eq (HandSHeadRun.getT_eq s)
set_option maxHeartbeats 0 in
theorem run_f (w : World) : HandSHeadRun.RunEq R (PySem.W.view R.prog [54]) hk ob 11000 loose (w.withFollow "special-get-raises" false) := by
  intro os
  kernel_rfl
set_option maxHeartbeats 0 in
theorem run_t (w : World) : HandSHeadRun.RunEq R (PySem.W.view R.prog [54]) hk ob 11000 loose (w.withFollow "special-get-raises" true) := by
  intro os
  kernel_rfl
theorem run : ∀ w : World, HandSHeadRun.RunEq R (PySem.W.view R.prog [54]) hk ob 11000 loose w := PySem.W.byRow2 "special-get-raises" (P := fun w => HandSHeadRun.RunEq R (PySem.W.view R.prog [54]) hk ob 11000 loose w) run_f run_t
end Hd
namespace GL
open PySem PySem.Spec PyProof.Rows L2
abbrev Fre (A : Around) : Prop := A.guards = some []
/-- as FnOk, where nothing is being shown -/
structure FnG (P : Program) (w : World) (K : PySem.W.Frag) (mg : Str → Option Value) (base : Heap) (CX : CXT) (k : Nat) (f : Addr) (fd : FuncData) (ps : List Str) (sp : Sp) : Prop where
  many : ∀ vs H Q E, sp vs H Q E → vs.length = ps.length
  goes : ∀ {A : Around} {outer : List Env} {s : Shared} {H : Hp} {args : Args} {us : List Value} {vs : List V} {Q : VK} {E : XK}, Fre A → Room k A →
    Env0 P w K mg base A outer s H → BindsTo s fd args (ps.zip us) → Vals vs us → sp vs H Q E → codeAny (model P w) A (.call (.ref f) args) (CR CX outer P w H s Q E) s
section
variable {X : Cx} {CX : CXT} {k : Nat} {f C : Addr} {fd : FuncData} {ps ks : List Str} {sp : Sp} {dvs : List V} {ds : List Value} {E : XK} {x m : Str} {p pos apos : Pos} {e o : Expr} {es : List Expr} {kws : List Keyword} {ta : TE} {t tk : TA}
  {g : List Value → List Value → List Value} {gV : List V → List V → List V} {pins : List (Addr × Obj)} {σ : L2.St} {H : Hp} {s : Shared} {Q : VK} {us ws : List Value} {vs zs : List V}
/-- a call's result, taken into the caller's frame -/
theorem landed {code : Code} (hx : Passes CX X E) (I : Inv X pins σ H s) (h : codeAny (model X.prog X.w) X.A code (CR CX X.stack X.prog X.w H s Q E) s) :
    codeAny (model X.prog X.w) X.A code (fun r s' => match r with
      | .ok (.ret u) => EP X pins σ Q u s'
      | .ok _ => False
      | .error e => X.xe e s') s := by
  refine codeAny_mono h ?_
  intro r s' hq
  match r, hq with
  | .error e, hq => exact hx pins σ H s e s' I hq
  | .ok (.ret u), hq => exact I.after hq
  | .ok .next, hq => exact hq
  | .ok .brk, hq => exact hq
  | .ok .cont, hq => exact hq
theorem ran {v : Value} {args : List Value} {kw : List (Str × Value)} (h : codeAny (model X.prog X.w) X.A (.call v ⟨args, kw⟩) (fun r s' => match r with
      | .ok (.ret u) => EP X pins σ Q u s'
      | .ok _ => False
      | .error e => X.xe e s') s) : wpAny (model X.prog X.w) X.A (call v args kw) (EP X pins σ Q) X.xe s := by
  refine wpAny_call (codeAny_mono h ?_)
  intro r s' hq
  match r, hq with
  | .error e, hq => exact hq
  | .ok (.ret u), hq => exact hq
theorem ranF (G : Fre X.A) (F : FnG X.prog X.w X.K X.mg X.base CX k f fd ps sp) (hr : Room k X.A) (hb : Binds X.K fd ps ds) (hd : Vals dvs ds) (hx : Passes CX X E) (I : Inv X pins σ H s) (r : Vals vs us) (h : sp (vs ++ dvs) H Q E) :
    wpAny (model X.prog X.w) X.A (call (.ref f) us) (EP X pins σ Q) X.xe s :=
  have ra := r.append hd
  ran (landed hx I (F.goes G hr I.env0 (hb s us I.kIn (ra.length.symm.trans (F.many _ _ _ _ h))) ra h))
/-- f(e, ..) -/
theorem pc (G : Fre X.A) (F : FnG X.prog X.w X.K X.mg X.base CX k f fd ps sp) (hr : Room k X.A) (hg : Gl X x) (hm : X.mg x = some (.ref f)) (hk : PySem.W.keepIn X.K (.ref f) = true) (hb : Binds X.K fd ps ds) (hd : Vals dvs ds) (hx : Passes CX X E)
    (ha : PA X (e :: es) t) (ndb : (x == ("__debug__" : Str)) = false := by decide) (he : starEach (e :: es) X.env = (false, eval e X.env) :: starEach es X.env := by rfl) (hpl : (backTo pos (starEach es X.env)).any (·.1) = false := by rfl) :
    PE X (.Call (.Name x p) (e :: es) [] pos) (tCall sp dvs E t) where
  run := fun pins s σ H Q I h => wpAny_Call_Name_kw (ld_glob I hg hm
    (PySem.W.callWith_K I.ok.mod.kin hk (thn (ha.run pos pins s σ H _ I h) fun us s1 ⟨vs, H1, I1, r, q⟩ => ⟨I1.kIn, ranF G F hr hb hd hx I1 r q⟩) he hpl) ndb)
/-- o.m(e, ..) -/
theorem pm {pl : Sem Bool} (G : Fre X.A) (he : PE X o ta) (c : Cls X.K C) (hm : Meth X.K C m f) (F : FnG X.prog X.w X.K X.mg X.base CX k f fd ps sp) (hr : Room k X.A) (hb : Binds X.K fd ps ds) (hd : Vals dvs ds) (hx : Passes CX X E) (ha : PA X (e :: es) t)
    (hse : starEach (e :: es) X.env = (false, eval e X.env) :: starEach es X.env := by rfl) (hpl : (backTo pos (starEach es X.env)).any (·.1) = false := by rfl)
    (hev : eval (.Call (.Attribute o m apos) (e :: es) [] pos) X.env = (do
      let ov ← eval o X.env
      standAt apos.atName
      let (fn, frst) ← holding [ov] (getMethod ov m pl)
      callWith pos fn frst (backTo pos (starEach (e :: es) X.env)) (backToKw pos (keywordEach [] X.env))) := by rfl) : PE X (.Call (.Attribute o m apos) (e :: es) [] pos) (tMeth C m sp dvs E ta t) := by
  constructor
  intro pins s σ H Q I h
  refine PySem.W.methodCall_KW (pl := pl) (thn (he.run pins s σ H _ I h) ?_) hev
  rintro u s1 ⟨v, H1, I1, rv, a, dx, fs, rfl, ea, l, q⟩
  cases rv
  refine getmeth_ok I1 ea c hm l (PySem.W.callWith_K (first := [.ref a]) (h₀ := X.base) I.ok.mod.kin hm.kp (thn (ha.run pos pins s1 σ H1 _ I1 q) ?_) hse hpl)
  rintro us s2 ⟨vs, H2, I2, r, q2⟩
  exact ⟨I2.kIn, ranF (us := .ref a :: us) (vs := .ref a :: vs) G F hr hb hd hx I2 (.cons rfl r) q2⟩
end
/-- a body keeps its promise -/
theorem bodied {CX : CXT} {P : Program} {w : World} {K : PySem.W.Frag} {mg : Str → Option Value} {base : Heap} {k : Nat} {f : Addr} {name qual : Str} {params : Arguments} {body : List Stmt} {scope : Scope} {dV kV doc pm cdv ct oc : Value} {an od : Option Addr}
    {sl0 : Array (Option Value)} {N ps : List Str} {sp : Sp} (lk : K.lookup f = some ⟨oc, od, .func (PySem.W.fnOf name qual params body scope dV kV doc pm an cdv ct), sl0⟩) (hcd : PySem.W.codeIn K cdv qual = true) (S : FnScope N ps scope)
    (many : ∀ vs H Q E, sp vs H Q E → vs.length = ps.length)
    (hb : ∀ (A : Around) (outer : List Env) (s : Shared) (H : Hp) (vs : List V) (Q : VK) (E : XK), Fre (A.deeper (envOfC qual scope s.heap.objs.size f cdv)) → Room k (A.deeper (envOfC qual scope s.heap.objs.size f cdv)) → sp vs H Q E →
      ∃ tr, PSs (cxOf CX P w K mg base N qual scope f cdv A outer s H E) body tr ∧ tr { nx := fun _ H' => Q .non H', rt := Q } (start N vs) H) :
    FnG P w K mg base CX (k + 1) f (PySem.W.fnOf name qual params body scope dV kV doc pm an cdv ct) ps sp := by
  refine ⟨many, ?_⟩
  intro A outer s H args us vs Q E hgd hr e0 hbd r hsp
  have KI : K.In s.heap := e0.mod.kin.keeps fun b o e => (e0.bs b o e).1
  have kinds : ∀ y ∈ ps.zip us, scope.names.lookup y.1 = some .local ∨ (scope.names.lookup y.1 = some .cell ∧ ((cellsFrom (s.heap.objs.size + 1) scope.names []).lookup y.1).isSome = true) := by
    rintro ⟨n, v⟩ hy
    exact (S.par n (List.of_mem_zip hy).1).imp id fun q => ⟨q, PySem.W.cellsFrom_some _ _ _ (.inl q)⟩
  refine codeAny_call_function hr.depth (KI _ _ lk) rfl S.co S.gen rfl (PySem.W.codeRec_of KI hcd) (hbd _ _ _ _ (wpAny_newFunctionEnv_cells S.kind kinds ?_))
  rintro env rfl s1 x
  refine ⟨(e0.mod.nolimit.keeps fun b o e => (e0.bs b o e).1).keeps x.toInCall.keep, codeAny_func ?_⟩
  obtain ⟨t, ht, hq⟩ := hb A outer s H vs Q E hgd (hr.deeper _) hsp
  have I := inv_start (CX := CX) (E := E) S hr.hd e0 (many _ _ _ _ hsp) r x
  refine wpAny_mono (ht.run [] s1 (start N vs) H _ I hq) ?_ (fun _ _ z => z)
  intro fl s' z
  match fl, z with
  | .ret u, z =>
    obtain ⟨v, σ', H', J, rv, q⟩ := z
    exact ⟨v, H', J.os, J.bare, J.base, J.hok, rv, q⟩
  | .next, z =>
    obtain ⟨σ', H', J, q⟩ := z
    exact ⟨V.non, H', J.os, J.bare, J.base, J.hok, rfl, q⟩
  | .brk, z => exact z.elim fun _ z => z.elim fun _ z => z.2.elim
  | .cont, z => exact z.elim fun _ z => z.elim fun _ z => z.2.elim
section
variable {P : Program} {w : World} {K : PySem.W.Frag} {mg : Str → Option Value} {base : Heap} {x qual : Str} {st : Stmt} {f : Addr} {fd : FuncData} {N ps : List Str} {k : Nat} {sp : Sp} {CX : CXT}
theorem okG (F : L2.Fun K x qual st f fd) (S : FnScope N ps (defScope st)) (many : ∀ vs H Q E, sp vs H Q E → vs.length = ps.length)
    (hb : ∀ (cdv : Value) (A : Around) (outer : List Env) (s : Shared) (H : Hp) (vs : List V) (Q : VK) (E : XK), Fre (A.deeper (envOfC qual (defScope st) s.heap.objs.size f cdv)) → Room k (A.deeper (envOfC qual (defScope st) s.heap.objs.size f cdv)) → sp vs H Q E →
      ∃ t, PSs (cxOf CX0 P w K mg base N qual (defScope st) f cdv A outer s H E).nox (defBody st) t ∧ t { nx := fun _ H' => Q .non H', rt := Q } (start N vs) H) : FnG P w K mg base CX0 (k + 1) f fd ps sp := by
  obtain ⟨c0, o0, kV, doc, pm, an, cdv, ct, s0, rfl, lk, hcd⟩ := F.ex
  exact bodied lk hcd S many fun A outer s H vs Q E g hr hsp => (hb cdv A outer s H vs Q E g hr hsp).imp fun t z => ⟨z.1.nox, z.2⟩
end
end GL
namespace GL
open PySem PySem.Spec PyProof.Rows L2
/-! ### enumerate from any start, over lists and tuples -/
/-! ### sorted(t), t a tuple of ints -/
end GL
namespace GL
open PySem PySem.Spec PyProof.Rows L2
/-! ### enumerate(t, start=k), t a tuple -/
end GL
namespace GL
open PySem PySem.Spec PyProof.Rows L2
end GL
namespace GL
open PySem PySem.Spec PyProof.Rows L2
def kinds : List String := ["NoneType", "bool", "int", "str", "list", "tuple", "dict"]
/-! ### != by the own == -/
end GL
/-! Own errors, over any of Python's classes, with an __init__ that keeps one value or nothing: made, raised, read. -/
namespace PySem
namespace GX
open PySem.W PySem.Calls PyProof.Rows PySem.HandSPX Builtin Builtin.ObjectAttr
/-- an error's class at C, its __init__ at fI, over the class that newId makes -/
structure ErrT (K : Frag) (C fI : Addr) (bmB : List Value) (newId : String) : Prop where
  ini : excInitIn K C bmB newId = true
  ov : excOver K C bmB = true
  sa : findIn K (.ref C) "__setattr__" = some (some (.builtin "object.__setattr__"))
  ga : findIn K (.ref C) "__getattribute__" = some (some (.builtin "BaseException.__getattribute__"))
  gg : findIn K (.ref C) "__getattr__" = some none
  iC : findIn K (.ref C) "__init__" = some (some (.ref fI))
  fn : isFn K (.ref fI) = true
  kp : keepIn K (.ref C) = true
  exC : subIn K (.ref C) (.type "BaseException") = some true
  ty : typeIn K (.ref C) = some (.type "type")
  hd : hasDictIn K C = true
section
variable {prog : Program} {w : World} {A : Around} {E : Value → Shared → Prop} {R : Result → Shared → Prop} {K : Frag} {C fI x t : Addr} {bmB : List Value} {B newId initId : String}
/-- the first thing that an error keeps: its dict is made -/
theorem keeps_first {hp : Heap} {g : Array GenState} {dr : Drawn} {tt : Nat} {os : OsState} {name : Str} {tk : Tok} {v : Value} (SF : StoreFacts B bmB "object.__setattr__" "object") (X : K.In hp) (T : ErrT K C fI bmB newId) (ht : takerIn K C name = some none) (hx : hp.get? x = some (excObj C t none .none))
    (hq : ∀ h' tk' dx, (∀ b o, b ≠ x → hp.get? b = some o → h'.get? b = some o) → hp.objs.size ≤ dx → dx ≠ x → h'.get? x = some (excObj C t (some dx) .none) → h'.Ns1 dx (fun y => if y = name then some v else none) → R (.ok (.ret .none)) ⟨h', g, dr, tk', os⟩) :
    codeAny (model prog w) A (.call (.builtin "object.__setattr__") ⟨[.ref x, .str name tk, v], []⟩) R ⟨hp, g, dr, tt, os⟩ := by
  refine osa_openX (s := ⟨hp, g, dr, tt, os⟩) (od := none) SF X ⟨hx, rfl, rfl, trivial⟩ T.ov ht fun b => ?_
  obtain ⟨cd, hc, hdct⟩ := any_some T.hd
  have hlt : x < hp.objs.size := Heap.lt_size hx
  refine wpAny_bind (wpAny_pure (wpAny_bind (instanceDict_exc hx (looks_clsIn X hc) hdct ?_)))
  show wpAny _ _ (storeInDict hp.objs.size (.str name tk) name v) _ _ _
  have hnew : ((hp.push (dictOf [] 0)).update x fun o => { o with dict := some hp.objs.size }).get? hp.objs.size = some (dictOf [] 0) := (Heap.get?_update_ne _ _ _ _ (Nat.ne_of_gt hlt)).trans (Heap.get?_push_at rfl rfl)
  refine store_in_new ⟨dictOf [] 0, #[], _, hnew, rfl, fun e he => absurd he (by simp), fun _ => rfl⟩ fun h' tk' hns hsame => ?_
  have hx1 : (hp.push (dictOf [] 0)).get? x = some (excObj C t none .none) := Heap.get?_push_of_some _ hx
  refine hq h' tk' hp.objs.size (fun b o hb ho => ?_) (Nat.le_refl _) (Nat.ne_of_gt hlt) ?_ hns
  · exact (hsame.2 b (Nat.ne_of_lt (Heap.lt_size ho))).trans ((Heap.get?_update_ne _ _ _ _ hb).trans (Heap.get?_push_of_some _ ho))
  · exact (hsame.2 x (Nat.ne_of_lt hlt)).trans (Heap.get?_update_self _ hx1 rfl)
theorem ld_par {M : Model} {s : Shared} {name : Str} {scope : Scope} {L a : Addr} {cd : Value} {m : Str → Option Value} {y : Str} {pos : Pos} {v : Value} {Q : Value → Shared → Prop} (hn : s.heap.Ns L m) (hv : m y = some v) (h : Q v s)
    (hk : scope.kind = .function) (hl : (envOfC name scope L a cd).kindOf y = some .local) (hd : (y == ("__debug__" : Str)) = false) :
    wpAny M A (eval (.Name y pos) (envOfC name scope L a cd)) Q E s := wpAny_Name (wpAny_loadName_local hk hl hn hv h) hd
theorem one_fits {v : Value} : [v].length ≤ sizeLine := by
  rw [sizeLine_eq]
  exact (by decide : 1 ≤ 16777216)
/-- an error was made at e, its dict at d (or none) -/
structure Kept (h h' : Heap) (e C : Addr) (d : Option Addr) : Prop where
  keep : ∀ b o, h.get? b = some o → h'.get? b = some o
  new : h.objs.size ≤ e
  obj : ∃ oe vs, h'.get? e = some oe ∧ oe.cls = .ref C ∧ oe.dict = d ∧ oe.data = .fields vs ∧ vs[1]? = some .none
end
def ini0A (p1 : Pos) : Arguments := { posonlyargs := [], args := [{ arg := "self", annotation := none, pos := p1 }], vararg := none, kwonlyargs := [], kw_defaults := [], kwarg := none, defaults := [] }
def ini0S : Scope := { kind := .function, names := [(PySem.Str.ofString "self", .local)], isGenerator := false, isCoroutine := false, more := [] }
structure Err0 (K : Frag) (C fI : Addr) (bmB : List Value) (newId : String) : Prop extends ErrT K C fI bmB newId where
  code : ∃ (oc : Value) (od : Option Addr) (doc pm : Value) (an : Option Addr) (cdv ct : Value) (osl : Array (Option Value)) (qual : Str) (p1 q1 : Pos),
    K.lookup fI = some ⟨oc, od, .func (fnOf "__init__" qual (ini0A p1) [.Pass q1] ini0S .none .none doc pm an cdv ct), osl⟩ ∧ codeIn K cdv qual = true
section
variable {prog : Program} {w : World} {A : Around} {E : Value → Shared → Prop} {R : Result → Shared → Prop} {K : Frag} {C fI x t : Addr} {bmB : List Value} {B newId initId : String}
theorem made_0 {s : Shared} (FB : ExcBaseFacts B newId initId bmB) (T : Err0 K C fI bmB newId) (X : K.In s.heap) (hlim : s.heap.NoLimit) (hroom : A.depth + 1 < recursionLimit)
    (hq : ∀ h' tk e, Kept s.heap h' e C none → R (.ok (.ret (.ref e))) { s with heap := h', toks := tk }) : codeAny (model prog w) A (.call (.ref C) ⟨[], []⟩) R s := by
  obtain ⟨nm, N, qn, bs, bm, hdct, sn, sub, ab, col, dd, k0, k1, k2, k3, k5, hC, hT⟩ := excInit_of X T.ini
  obtain ⟨oc, od, doc, pm, an, cdv, ct, osl, qual, p1, q1, ho, hcd⟩ := T.code
  obtain ⟨hp, g, dr, tk, os⟩ := s
  have kk : ∀ b o, hp.get? b = some o → ((hp.push (kdv_tup [])).push (excO C hp.objs.size)).get? b = some o := fun b o e => Heap.get?_push_of_some _ (Heap.get?_push_of_some _ e)
  have hget : ((hp.push (kdv_tup [])).push (excO C hp.objs.size)).get? (hp.objs.size + 1) = some (excO C hp.objs.size) := by heap_get
  refine call_own FB hT hC (looks_findIn X T.iC) (fun self => bind_fn X self (beq_iff_eq.mp T.fn)) (Nat.zero_le _) ?_
  refine Att.call_fn (s := ⟨(hp.push (kdv_tup [])).push (excO C hp.objs.size), g, dr, tk, os⟩) (binds := [("self", .ref (hp.objs.size + 1))]) (X.keeps kk) (hlim.keeps kk) ho hcd hroom (.of_eq rfl) rfl (fun s₁ IC => ?_) rfl rfl rfl
  obtain ⟨h₁, tk₁, rfl⟩ := IC.toInCall.same
  have k2' : ∀ b o, ((hp.push (kdv_tup [])).push (excO C hp.objs.size)).get? b = some o → h₁.get? b = some o := IC.toInCall.keep
  show wpAny _ _ (execs _ _) _ _ _
  refine wpAny_execs_cons (wpAny_Pass ?_)
  show wpAny _ _ (execs _ _) _ _ _
  exact wpAny_execs_nil ⟨rfl, hq h₁ tk₁ (hp.objs.size + 1) ⟨fun b o e => k2' b o (kk b o e), Nat.le_succ _, _, _, k2' _ _ hget, rfl, rfl, rfl, rfl⟩⟩
end
end GX
end PySem
/-! try with several except clauses, each with a name or without. -/
namespace GL
open PySem PySem.Spec PyProof.Rows L2
/-- a clause: the class, its suite, the slot of its name -/
structure Cl where
  c : Value
  ts : Addr → Value → Option Addr → TS
  i : Option Nat
/-- the ends of a suite whose name stands in slot i: the name is gone behind it -/
def goneD (D : Ends) (i : Nat) : Ends := { nx := fun σ H => D.nx (σ.set i none) H, rt := D.rt, bk := fun σ H => D.bk (σ.set i none) H, ct := fun σ H => D.ct (σ.set i none) H }
def runCl (k : Cl) (D : Ends) (cls : Value) (d : Option Addr) (σ : L2.St) (H : Hp) : Prop := ∀ a, H a = none → match k.i with
  | none => k.ts a cls d D σ H
  | some i => k.ts a cls d (goneD D i) (σ.set i (some (.ref a))) H
/-- what the clauses wish of an error of the body -/
def wAny (K : PySem.W.Frag) (Wout : WX) (D : Ends) : List Cl → WX
  | [] => Wout
  | k :: r => fun cls d σ H => ∃ b, PySem.W.exmOne K cls k.c = some b ∧ (b = true → runCl k D cls d σ H) ∧ (b = false → wAny K Wout D r cls d σ H)
def SuiteOk (X : Cx) (sts : List Stmt) (ts : Addr → Value → Option Addr → TS) : Prop := ∀ (a : Addr) (oe : Obj) (cls : Value) (d : Option Addr) (pn : List (Addr × Obj)), Zc cls d oe → (∃ vs, oe.data = .fields vs) → PSs (X.suite a ((a, oe) :: pn)) sts (ts a cls d)
inductive Cls' (X : Cx) : List ExceptHandler → List Cl → Prop
  | nil : Cls' X [] []
  | plain {x : Str} {c : Value} {ts : Addr → Value → Option Addr → TS} {s₀ : Stmt} {sts : List Stmt} {p1 p2 : Pos} {hs : List ExceptHandler} {l : List Cl} (hc : Names X x c) (ok : SuiteOk X (s₀ :: sts) ts) (r : Cls' X hs l) :
      Cls' X (.ExceptHandler (some (.Name x p1)) none (s₀ :: sts) p2 :: hs) (⟨c, ts, none⟩ :: l)
  | named {x n : Str} {i : Nat} {c : Value} {ts : Addr → Value → Option Addr → TS} {s₀ : Stmt} {sts : List Stmt} {p1 p2 : Pos} {hs : List ExceptHandler} {l : List Cl} (hc : Names X x c) (hN : X.N.Nodup) (hi : X.N[i]? = some n) (hn : X.env.kindOf n = some .local) (ok : SuiteOk X (s₀ :: sts) ts) (r : Cls' X hs l) :
      Cls' X (.ExceptHandler (some (.Name x p1)) (some n) (s₀ :: sts) p2 :: hs) (⟨c, ts, some i⟩ :: l)
section
variable {X : Cx} {body : List Stmt} {h₁ : ExceptHandler} {hs' : List ExceptHandler} {l : List Cl} {pos : Pos} {tb : WX → TS} {Wout : WX}
/-- an error of the body on its way to the clauses -/
def caught (X : Cx) (pins : List (Addr × Obj)) (D : Ends) (hl : List ExceptHandler) (e : Value) (s1 : Shared) : Prop :=
  wpAny (model X.prog X.w) X.A (noteFrame e X.env) (fun _ s2 => wpAny (model X.prog X.w) X.A (setFlight e none) (fun _ s3 => wpAny (model X.prog X.w) X.A (handleBy e X.env hl) (SP X pins D) X.xe s3) X.xe s2) X.xe s1
theorem ps_try_any (est : X.stack = X.env :: X.outer) (efr : X.env.frame = some X.env.locals) (tk : Takes X Wout)
    (hbody : ∀ (W : WX) (pn : List (Addr × Obj)) (xe : Value → Shared → Prop), Takes (X.tr pn xe) W → PassesOwn (model X.prog X.w) X.A X.env xe → PSs (X.tr pn xe) body (tb W)) (hcl : Cls' X (h₁ :: hs') l) :
    PS X (.Try body (h₁ :: hs') [] [] pos) (fun D σ H => tb (wAny X.K Wout D l) D σ H) := by
  constructor
  intro pins s σ H D I hb0
  have okX := I.ok
  have frA : X.A.frames = some (X.env :: X.outer) := by
    rw [okX.frames, est]
  have land : Takes (X.tr (X.pn ++ pins) (caught X pins D (h₁ :: hs'))) (wAny X.K Wout D l) := by
    rintro u t1 ⟨e, Bz, sz, pz, σ1, H1, cls, d, rfl, Jt, nbz, upz, skz, hnone, eos, bare, wish⟩
    have J : Inv X pins σ1 H1 sz := Jt.ofTry okX
    have sk1 : Sky Bz (X.env :: X.outer) e (Zc cls d) X.env.locals t1.heap := by
      rw [← est]
      exact skz
    show wpAny (model X.prog X.w) X.A (noteFrame (.ref e) X.env) _ _ _
    refine Sky.land Zc.steady frA efr sk1 fun g1 fly1 u1 => ?_
    have J1 : Inv X pins σ1 H1 { t1 with heap := g1 } := J.landed nbz fly1.1 (upz.trans u1) eos bare
    obtain ⟨oz, vz, ez, zz, dz⟩ := fly1.there
    have outF : e ∉ frs (X.env :: X.outer) := fun hm => by
      obtain ⟨_, o2, e2, hno⟩ := fly1.2.2.1.mem hm
      rw [ez] at e2
      cases e2
      exact hno _ dz
    have outL : e ≠ X.env.locals := fun z => outF (List.mem_filterMap.mpr ⟨X.env, List.mem_cons_self, by rw [efr, z]⟩)
    have outS : e ∉ X.fs := fun hm => by
      obtain ⟨v, hv, q⟩ := List.mem_filterMap.mp hm
      exact outF (List.mem_filterMap.mpr ⟨v, List.mem_cons_of_mem _ hv, q⟩)
    have S1 := J1.suite ez dz hnone outL outS
    have kind : PySem.W.Looks (model X.prog X.w) g1 (typeOf (.ref e)) cls := fun A' Q' E' s3 k3 q3 => wpAny_typeOf_ref (k3 _ _ ez) (by
      rw [zz.1]
      exact q3)
    -- the class that a clause names
    have named : ∀ {x : Str} {c : Value} {p1 : Pos}, Names X x c → ∀ {Q' E' : Value → Shared → Prop}, Q' c { t1 with heap := g1 } → wpAny (model X.prog X.w) (X.A.mark (some (.ref e))) (eval (.Name x p1) X.env) Q' E' { t1 with heap := g1 } := fun {x c p1} nm {Q' E'} q3 => by
      obtain ⟨g3, d3, m3 | ⟨m3, b3, n3⟩⟩ := nm
      · exact ld_glob (X := X.suite e ((e, oz) :: (X.pn ++ pins))) S1 g3 m3 q3 d3
      · exact ld_blt (X := X.suite e ((e, oz) :: (X.pn ++ pins))) S1 g3 m3 b3 q3 n3 d3
    have walk : ∀ {hl : List ExceptHandler} {kl : List Cl}, Cls' X hl kl → wAny X.K Wout D kl cls d σ1 H1 → wpAny (model X.prog X.w) X.A (handleBy (.ref e) X.env hl) (SP X pins D) X.xe { t1 with heap := g1 } := by
      intro hl kl hk
      induction hk with
      | nil =>
        intro w0
        refine wpAny_handleBy_nil ?_
        obtain ⟨a1, a2, a3, oe, ve, Ta, oTa, tsa, b1, b2, b3, b4, b5⟩ := id fly1
        have up : wpAny (model X.prog X.w) X.A (setFlight (.ref e) X.env.frame) (fun _ s4 => wpAny (model X.prog X.w) X.A (throw (.ref e) : Sem Flow) (SP X pins D) X.xe s4) X.xe { t1 with heap := g1 } := by
          rw [efr]
          refine HandSPX.setFlight_upZ fly1 fun g4 fly4 u4 => wpAny_throw (tk _ _ ⟨e, Bz, sz, pins, σ1, H1, cls, d, rfl, J, nbz, (upz.trans u1).trans u4, .inr (.inr ?_), hnone, eos, bare, w0⟩)
          rw [est]
          exact fly4
        unfold PySem.passOn
        refine wpAny_bind (wpAny_field b1 b3 b4 ?_)
        rw [if_neg (show ¬ ((Value.ref Ta == Value.none) = true) from by simp)]
        first
          | exact wpAny_bind (wpAny_pure (wpAny_bind up))
          | exact wpAny_bind up
      | @plain x c ts s₀ sts p1 p2 hl' kl' hc ok r ih =>
        rintro ⟨b, hb, yes, no⟩
        refine wpAny_handleBy_cons (codeAny_handlers_test ?_) (by intro q; cases q)
        refine named hc ((PySem.W.exm_one (M := model X.prog X.w) J1.kIn kind hb).here ?_)
        cases b with
        | false =>
          show wpAny _ X.A (handleBy (.ref e) X.env hl') _ _ _
          exact ih (no rfl)
        | true =>
          refine codeAny_handlers_suite (HandSPX.lands_againZ fly1 fun g4 fly4 u4 => ?_)
          have J4 : Inv X pins σ1 H1 { t1 with heap := g4 } := J.landed nbz fly4.1 ((upz.trans u1).trans u4) eos bare
          obtain ⟨o4, v4, e4, z4, d4⟩ := fly4.there
          refine wpAny_mono ((ok e o4 cls d (X.pn ++ pins) z4 ⟨_, d4⟩).run [] _ _ H1 _ (J4.suite e4 d4 hnone outL outS) (yes rfl e hnone)) (fun fl t6 q => ?_) (fun _ _ z => False.elim z)
          match fl, q with
          | .next, ⟨σ6, H6, S6, q6⟩ => exact ⟨_, _, S6.unsuite okX, q6⟩
          | .brk, ⟨σ6, H6, S6, q6⟩ => exact ⟨_, _, S6.unsuite okX, q6⟩
          | .cont, ⟨σ6, H6, S6, q6⟩ => exact ⟨_, _, S6.unsuite okX, q6⟩
          | .ret u, ⟨v6, σ6, H6, S6, r6, q6⟩ => exact ⟨_, _, _, S6.unsuite okX, r6, q6⟩
      | @named x n i c ts s₀ sts p1 p2 hl' kl' hc hN hi hn ok r ih =>
        rintro ⟨b, hb, yes, no⟩
        refine wpAny_handleBy_cons (codeAny_handlers_test ?_) (by intro q; cases q)
        refine named hc ((PySem.W.exm_one (M := model X.prog X.w) J1.kIn kind hb).here ?_)
        cases b with
        | false =>
          show wpAny _ X.A (handleBy (.ref e) X.env hl') _ _ _
          exact ih (no rfl)
        | true =>
          refine codeAny_handlers_suite_as (HandSPX.lands_againZ fly1 fun g4 fly4 u4 => ?_)
          have J4 : Inv X pins σ1 H1 { t1 with heap := g4 } := J.landed nbz fly4.1 ((upz.trans u1).trans u4) eos bare
          obtain ⟨o4, v4, e4, z4, d4⟩ := fly4.there
          have S4 := J4.suite e4 d4 hnone outL outS
          refine store_ok (X := X.suite e ((e, o4) :: (X.pn ++ pins))) (v := .ref e) S4 hN hi (.inl hn) rfl (fun s5 S5 => ?_) (.inr hn)
          refine wpAny_mono ((ok e o4 cls d (X.pn ++ pins) z4 ⟨_, d4⟩).run [] s5 _ H1 _ S5 (yes rfl e hnone)) (fun fl t6 q => ?_) (fun _ _ z => False.elim z)
          have behind : ∀ {σ6 : L2.St} {H6 : Hp} {Q6 : Shared → Prop}, Inv (X.suite e ((e, o4) :: (X.pn ++ pins))) [] σ6 H6 t6 → (∀ s7, Inv X pins (σ6.set i none) H6 s7 → Q6 s7) →
              wpAny (model X.prog X.w) X.A (do bindName X.env n .none; unbindBehindTheSuite X.env n p2) (fun _ s7 => Q6 s7) X.xe t6 := fun {σ6 H6 Q6} S6 kk => gone_ok (S6.unsuite okX) hN hi hn kk
          match fl, q with
          | .next, ⟨σ6, H6, S6, q6⟩ => exact behind S6 fun s7 J7 => ⟨_, _, J7, q6⟩
          | .brk, ⟨σ6, H6, S6, q6⟩ => exact behind S6 fun s7 J7 => ⟨_, _, J7, q6⟩
          | .cont, ⟨σ6, H6, S6, q6⟩ => exact behind S6 fun s7 J7 => ⟨_, _, J7, q6⟩
          | .ret u, ⟨v6, σ6, H6, S6, r6, q6⟩ => exact behind S6 fun s7 J7 => ⟨_, _, _, J7, r6, q6⟩
    exact walk hcl wish
  refine wpAny_Try_except ?_
  refine wpAny_mono ((hbody (wAny X.K Wout D l) (X.pn ++ pins) (caught X pins D (h₁ :: hs')) land PassesOwn.looking).run [] s σ H D (I.toTry _) hb0) (fun fl t1 q => ?_) (fun _ _ z => z)
  match fl, q with
  | .next, ⟨σ1, H1, J, q1⟩ => exact wpAny_execs_nil ⟨σ1, H1, J.ofTry okX, q1⟩
  | .brk, ⟨σ1, H1, J, q1⟩ => exact ⟨σ1, H1, J.ofTry okX, q1⟩
  | .cont, ⟨σ1, H1, J, q1⟩ => exact ⟨σ1, H1, J.ofTry okX, q1⟩
  | .ret u, ⟨v1, σ1, H1, J, rv, q1⟩ => exact ⟨v1, σ1, H1, J.ofTry okX, rv, q1⟩
end
end GL
/-! own errors: made, raised, caught, read -/
namespace GL
open PySem PySem.Spec PyProof.Rows L2
theorem relO_one {v : V} {v' : Value} (r : RelV v v') (g f : Str) : RelO (List.lookup f [(g, v)]) (if f = g then some v' else none) := by
  by_cases hw : f = g
  · rw [if_pos hw, hw]
    simp only [List.lookup, beq_self_eq_true]
    exact r
  · rw [if_neg hw]
    have qw : (f == g) = false := by simpa using hw
    simp only [List.lookup, qw]
    trivial
/-! ### which clause takes which error -/
/-! ### defs that may raise -/
end GL
/-! == and != of two lists of a text and an instance, by the instances' own == -/
namespace PySem
end PySem
namespace GL
open PySem PySem.Spec PyProof.Rows L2
end GL
/-! isinstance(e, C), e an error of ours that a suite holds, with a dict of its own or without -/
namespace PySem
namespace GX
open PySem.W PySem.Calls PyProof.Rows PySem.HandSPX Builtin Builtin.ObjectAttr
/-- what isinstance asks of the error's class -/
structure ErrC (K : Frag) (D : Addr) : Prop where
  ga : findIn K (.ref D) "__getattribute__" = some (some (.builtin "BaseException.__getattribute__"))
  gg : findIn K (.ref D) "__getattr__" = some none
  sb : subIn K (.ref D) (.type "BaseException") = some true
  hd : hasDictIn K D = true
  cl : findIn K (.ref D) "__class__" = some (some (.builtin "object.__class__"))
  cg : specialIn K (.builtin "object.__class__") "__get__" = some (some (.builtin "getset_descriptor.__get__"))
  tk : takesIn K (.builtin "object.__class__") = some true
  mo : mroIn K D (.type "object") = some true
theorem ErrC.find {K : Frag} {D : Addr} (T : ErrC K D) : ∀ od : Option Obj, findObj K D od "__class__" = some (.bind (.builtin "getset_descriptor.__get__") (.builtin "object.__class__")) := fun od => by
  obtain ⟨cd, hc, _⟩ := any_some T.hd
  have hs : (clsIn K D).isSome = true := by rw [hc]; rfl
  cases od with
  | none => exact findObj_dataN hs T.cl T.cg T.tk
  | some od => exact findObj_data hs T.cl T.cg T.tk
section
variable {prog : Program} {w : World} {A : Around} {E : Value → Shared → Prop} {s : Shared} {K : Frag} {x D : Addr} {ox : Obj} {od : Option Obj}
theorem class_of_err {Q : Option Value → Shared → Prop} (T : ErrC K D) (X : K.In s.heap) (I : InstAt s.heap x ox D od) (h : Q (some (.ref D)) { s with toks := s.toks + 1 }) : wpAny (model prog w) A (getAttr? (.ref x) "__class__") Q E s := by
  obtain ⟨hp, gn, dr, tt, so⟩ := s
  have tyL := I.type (M := model prog w); have gaL := looks_findIn (M := model prog w) X T.ga
  have ggL := looks_findIn (M := model prog w) X T.gg; have fL := looks_find (M := model prog w) X I (T.find od)
  have subL : Looks (model prog w) hp (isInstance (.ref x) (.type "BaseException")) true := tyL.andThen (looks_subIn X T.sb)
  have ne : (Value.builtin "BaseException.__getattribute__" == Value.builtin "object.__getattribute__") = false := by decide +kernel
  have c1 : (onTheHeap (Value.ref D) && Value.builtin "BaseException.__getattribute__" == Value.builtin "object.__getattribute__") = false := by rw [ne]; rfl
  unfold getAttr? getAttrBy? getAttrBy
  refine wpAny_bind (wpAny_mkText (wpAny_bind (wpAny_attempt (wpAny_holding (wpAny_bind (tyL.at (wpAny_bind (gaL.at ?_))))))))
  show wpAny _ _ (if (onTheHeap (Value.ref D) && Value.builtin "BaseException.__getattribute__" == Value.builtin "object.__getattribute__") = true then _ else _) _ _ _
  rw [c1, if_neg Bool.false_ne_true]; unfold getAttrByItsOwn hookBefore
  refine wpAny_bind ?_; rw [if_pos (show onTheHeap (Value.ref D) = true from rfl)]; refine ggL.at ?_
  refine wpAny_bind (wpAny_attempt (wpAny_holding ?_)); unfold callGetattribute
  rw [show (false && onTheHeap (Value.builtin "BaseException.__getattribute__")) = false from rfl, if_neg Bool.false_ne_true]; unfold boundAndCalled
  rw [PySem.F.excAttr_ValueError.ga.bind (.ref x)]; refine wpAny_bind (wpAny_pure ?_)
  show wpAny _ _ (call (.builtin "BaseException.__getattribute__") [.ref x, .str "__class__" tt]) _ _ _
  refine wpAny_call (codeAny_call_builtin PySem.F.excAttr_ValueError.ga.plain PySem.F.entry_bexc_ga (@check_slot (model prog w) _ _ ⟨hp, gn, dr, tt + 1, so⟩ "BaseException.__getattribute__" "BaseException" "__getattribute__" (.ref x) [.str "__class__" tt] [] _ (by decide +kernel) (by decide +kernel) subL (PySem.F.args_bexc_ga (.ref x) (.str "__class__" tt)) ?_))
  unfold Builtin.«object.__getattribute__»
  refine wpAny_bind (wpAny_of_eq (a := ((Value.ref x : Value), [Value.str "__class__" tt])) (by first | rfl | (simp only [slotArgs]; rfl)) (wpAny_bind (wpAny_pure (wpAny_bind (tyL.at (wpAny_bind (fL.at ?_)))))))
  show wpAny _ _ (holding [Value.builtin "object.__class__"] (call (.builtin "getset_descriptor.__get__") [.builtin "object.__class__", .ref x, .ref D]) >>= ret) _ _ _
  refine wpAny_bind (wpAny_holding (wpAny_call (class_get (s := ⟨hp, gn, dr, tt + 1, so⟩) (ox := ox) (od := od) X I T.mo (wpAny_pure ?_))))
  show wpAny _ _ (handedOut (.ref D)) _ _ _
  rw [handedOut_of (v := .ref D) rfl]
  first
    | exact wpAny_pure (wpAny_pure h)
    | exact wpAny_pure h
    | exact wpAny_pure (wpAny_bind (wpAny_pure (wpAny_pure h)))
theorem kit_err (T : ErrC K D) : KitX K (.ref x) (.ref D) (fun h => InstAt h x ox D od) := by
  obtain ⟨cdD, hcD, _⟩ := any_some T.hd
  have at_ : ∃ c' d' sl', K.lookup D = some ⟨c', d', .cls cdD, sl'⟩ := by
    unfold clsIn at hcD
    split at hcD
    · rename_i c' d' cd' sl' ho
      cases hcD
      exact ⟨_, _, _, ho⟩
    · cases hcD
  obtain ⟨c', d', sl', ho⟩ := at_
  refine ⟨fun _ _ _ I => I.type, fun _ _ X _ => ?_, fun h tp dd its n sl X htp => ?_, fun X I k => class_of_err T X I k⟩
  · intro A' Q' E' s' k q
    unfold isType loadHead
    exact wpAny_bind (wpAny_loadPart (k _ _ (X _ _ ho)) (wpAny_pure q))
  · refine Bool.eq_false_iff.mpr fun q => ?_
    have e : D = tp := Value.ref.inj (beq_iff_eq.mp q)
    subst e
    have z := (X _ _ ho).symm.trans htp
    cases z
end
end GX
end PySem
namespace GL
open PySem PySem.Spec PyProof.Rows L2
end GL
/-! a lambda handed to a def, where nothing is being shown; defs whose code object has a table -/
namespace GL
open PySem PySem.Spec PyProof.Rows L2
end GL
/-! properties of own classes, calls of a local that holds a def, where nothing is being shown -/
namespace GL
open PySem PySem.Spec PyProof.Rows L2
end GL
/-! a dict laid into another one: {**d, ..} -/
namespace PySem
end PySem
namespace PySem
end PySem
namespace GL
open PySem PySem.Spec PyProof.Rows L2
end GL
/-! C(**d): what a call's mapping is read as -/
namespace PySem
end PySem
/-! C(**d) -/
namespace PySem
end PySem
namespace PySem
end PySem
namespace GL
open PySem PySem.Spec PyProof.Rows L2
end GL
/-! == and != of two dicts with the same keys, whose values are data -/
namespace GL
open PySem PySem.Spec PyProof.Rows L2
end GL
/-! {x!r}, x a text, a number, a truth value, a list or a tuple of data -/
namespace GL
open PySem PySem.Spec PyProof.Rows L2
end GL
/-! ### len(set(t)), t a tuple of texts, each once -/
namespace GL
open PySem PySem.Spec PyProof.Rows L2
/-! ### t in ts, data of any depth, ts a tuple -/
end GL
/-! x == o: x of a kind of Python's, o of an own class: o is asked -/
namespace PySem
end PySem
namespace GL
open PySem PySem.Spec PyProof.Rows L2
end GL
namespace GL
open PySem PySem.Spec PyProof.Rows L2
/-! ### != of two dicts -/
end GL
/-! ### tuples that are told with their object: no dict of their own -/
namespace GL
open PySem PySem.Spec PyProof.Rows L2
/-- a tuple's object as it is made -/
def Bare (o : Obj) : Prop := o.dict = none ∧ o.cls = .type "tuple"
/-- a display -/
def tTupX (t : TA) : TE := fun σ H Q => t σ H fun xs H1 => xs.length ≤ sizeLine ∧ ∀ p o, H1 p = none → Bare o → Q (.ref p) (upd H1 p (.frz o (.tup xs)))
section
variable {X : Cx} {es : List Expr} {t : TA} {pos : Pos} {pins : List (Addr × Obj)} {σ : L2.St} {H : Hp} {s : Shared}
theorem bare_laid {xs : List V} {us : List Value} (I : Inv X pins σ H s) (r : Vals xs us) (z : xs.length ≤ sizeLine) : Inv X pins σ (upd H s.heap.objs.size (.frz { cls := .type "tuple", data := .seq us.toArray } (.tup xs))) { s with heap := s.heap.push { cls := .type "tuple", data := .seq us.toArray } } :=
  I.laid (t' := s.toks) (fun b u e => Heap.get?_push_of_some _ e) (Nat.le_refl _) ⟨Heap.get?_push_size _ rfl, z, us, r, ⟨_, Heap.get?_push_size _ rfl, rfl, _, rfl⟩⟩
theorem pe_tupX {x1} (h : PA X es t) : PE X (.Tuple es x1 pos) (tTupX t) := by
  constructor
  intro pins s σ H Q I hq
  refine wpAny_Tuple_spliced (thn (h.run pos pins s σ H _ I hq) fun us s1 ⟨xs, H1, I1, r, z, q⟩ => ⟨by rw [← r.length]; exact z, ?_⟩)
  exact ⟨.ref s1.heap.objs.size, _, bare_laid I1 r z, rfl, q _ _ (I1.hok.fresh (Nat.le_refl _)) ⟨rfl, rfl⟩⟩
end
end GL
namespace My
open PySem PySem.Spec PyProof.Rows L2 GL
/-! ### words, rows, rules: no Python here -/
inductive Wd where
  | look | add | tri | live | home | off | fin | set | both | take | give | move | lift | settle | undo | leave | wait
deriving DecidableEq
def Wd.s : Wd → Str
  | .look => "look" | .add => "add" | .tri => "try" | .live => "live" | .home => "home" | .off => "off" | .fin => "end" | .set => "set" | .both => "both"
  | .take => "take" | .give => "give" | .move => "move" | .lift => "lift" | .settle => "settle" | .undo => "undo" | .leave => "leave" | .wait => "wait"
def allW : List Wd := [.look, .add, .tri, .live, .home, .off, .fin, .set, .both, .take, .give, .move, .lift, .settle, .undo, .leave, .wait]
theorem allW_mem (w : Wd) : w ∈ allW := by cases w <;> decide
theorem Wd.inj {a b : Wd} (h : a.s = b.s) : a = b := by
  have go : (allW.all fun a => allW.all fun b => decide (a.s = b.s → a = b)) = true := by decide +kernel
  have h1 := List.all_eq_true.mp (List.all_eq_true.mp go a (allW_mem a)) b (allW_mem b)
  exact of_decide_eq_true h1 h
theorem Wd.len (w : Wd) : w.s.length ≤ 6 := by cases w <;> decide +kernel
abbrev wV (w : Wd) : V := .str w.s
/-! rows as the program looks at them -/
abbrev Rw := List Wd
/-! rows as the law has them -/
def ext (ws : Rw) (us : Rw) : List Rw := (ws.filter fun w => !decide (w ∈ us)).map fun w => us ++ [w]
/-! rules of a book -/
inductive Pt where
  | take | give | move | lift | fails | shared | holds | batch | settles
deriving DecidableEq
def Pt.s : Pt → Str
  | .take => "take" | .give => "give" | .move => "move" | .lift => "lift" | .fails => "fails" | .shared => "shared" | .holds => "holds" | .batch => "batch" | .settles => "settles"
def allP : List Pt := [.take, .give, .move, .lift, .fails, .shared, .holds, .batch, .settles]
theorem allP_mem (p : Pt) : p ∈ allP := by cases p <;> decide
theorem Pt.inj {a b : Pt} (h : a.s = b.s) : a = b := by
  have go : (allP.all fun a => allP.all fun b => decide (a.s = b.s → a = b)) = true := by decide +kernel
  exact of_decide_eq_true (List.all_eq_true.mp (List.all_eq_true.mp go a (allP_mem a)) b (allP_mem b)) h
inductive Pv where
  | row (us : Rw) | hold (us : Rw) | wd (w : Wd) | bl (b : Bool) | int (n : Nat)
deriving DecidableEq
structure Ru where
  take : Rw
  give : Rw
  move : Rw
  lift : Rw
  fails : Wd
  shared : Bool
  holds : Rw
  batch : Nat
  settles : Bool
deriving DecidableEq
def Ru.get (r : Ru) : Pt → Pv
  | .take => .row r.take | .give => .row r.give | .move => .row r.move | .lift => .row r.lift | .fails => .wd r.fails | .shared => .bl r.shared | .holds => .hold r.holds | .batch => .int r.batch | .settles => .bl r.settles
end My
namespace My
open PySem PySem.Spec PyProof.Rows L2 GL Evl StX SkE
abbrev nV (n : Nat) : V := .int (n : Int)
def ExB (a : Addr) (H H' : Hp) : Prop := ∀ b o, b ≠ a → H b = some o → H' b = some o
theorem ExB.of {a : Addr} {H H' : Hp} (e : Ex H H') : ExB a H H' := fun b o _ h => e b o h
theorem ExB.refl (a : Addr) (H : Hp) : ExB a H H := fun _ _ _ h => h
theorem ExB.trans {a : Addr} {H H1 H2 : Hp} (x : ExB a H H1) (y : ExB a H1 H2) : ExB a H H2 := fun b o n h => y b o n (x b o n h)
theorem ExB.set {a : Addr} {H : Hp} {o : HO} : ExB a H (upd H a o) := fun b u n h => by
  rw [upd_ne n]
  exact h
theorem ExB.mut {a b : Addr} {H H' : Hp} {o : HO} (e : ExB a H H') (h : H b = none) : ExB a H (upd H' b o) := fun c u n hc => by
  rw [upd_ne (ne_of_none hc h)]
  exact e c u n hc
theorem ExB.all {a : Addr} {H0 H H' : Hp} (e0 : Ex H0 H) (h : H0 a = none) (e : ExB a H H') : Ex H0 H' := fun b o hb => e b o (ne_of_none hb h) (e0 b o hb)
def PotAt (H : Hp) (a : Addr) : Prop := ∃ x y : Int, H a = some (.lst [.int x, .int y]) ∧ 0 ≤ x ∧ 0 ≤ y ∧ y < 2147483600
theorem PotAt.ex {H H' : Hp} {a : Addr} (h : PotAt H a) (e : Ex H H') : PotAt H' a := by
  obtain ⟨x, y, h1, h2⟩ := h
  exact ⟨x, y, e _ _ h1, h2⟩
theorem PotAt.exB {H H' : Hp} {a b : Addr} (h : PotAt H a) (e : ExB b H H') (n : a ≠ b) : PotAt H' a := by
  obtain ⟨x, y, h1, h2⟩ := h
  exact ⟨x, y, e _ _ n h1, h2⟩
def sp_Lpot (K : PySem.W.Frag) : Sp := fun vs H Q _ => ∃ (a : Addr) (ns : List Int) (k : Nat), vs = [.ref a, .int (k : Int)] ∧ SqL K H a (ns.map V.int) ∧ ns.length ≤ 63 ∧ k < 3 ∧ ∀ H' p, H p = none → Ex H H' → PotAt H' p → Q (.ref p) H'
def sp_Ldraw : Sp := fun vs H Q _ => ∃ a, ∃ n : Nat, vs = [.ref a, nV n] ∧ PotAt H a ∧ 1 ≤ n ∧ n ≤ 1000 ∧ ∀ H' (d : Nat), ExB a H H' → PotAt H' a → d < n → Q (nV d) H'
theorem ev_raw {te : TE} {σ : L2.St} {H : Hp} {v : V} {Q : VK} (h : Ev te σ H v) (k : ∀ H1, Ex H H1 → Q v H1) : te σ H Q := h H (Ex.refl H) Q k
theorem cb_raw {r : List V → Hp → VK → Prop} {ta : TA} {σ : L2.St} {H : Hp} {vs : List V} {Q : VK} (h : EvA ta σ H vs) (k : ∀ H1, Ex H H1 → r vs H1 Q) : tCB r ta σ H Q := h H (Ex.refl H) _ k
theorem q_asgR {te : TE} {g : TG} {tz : TS} {D : Ends} {σ : L2.St} {H : Hp} (h : te σ H fun x H1 => g x σ H1 (tz D)) : tSeq (tAsg te g) tz D σ H := h
theorem s_retR {te : TE} {D : Ends} {σ : L2.St} {H : Hp} (h : te σ H D.rt) : tRet te D σ H := h
theorem no_pylong {x : Int} {n : Nat} (h : n ≤ 1000) : Builtin.divisionGoesByPylong x (n : Int) = false := by
  have hl : n.log2 < 10 := by
    by_cases e : n = 0
    · subst e
      decide
    · exact (Nat.log2_lt e).mpr (by omega)
  have hd : ¬ ((if ((n : Int) == 0) = true then 0 else (n : Int).natAbs.log2 / 30 + 1) > 300) := by
    rw [Int.natAbs_natCast]
    split <;> omega
  show (decide ((if ((n : Int) == 0) = true then 0 else (n : Int).natAbs.log2 / 30 + 1) > 300) && _) = false
  rw [decide_eq_false hd, Bool.false_and]
section
variable {K : PySem.W.Frag} {H : Hp}
theorem rc_lenL {a : Addr} {xs : List V} (h : SqL K H a xs) : RC (rLenS K) [.ref a] H (.int (xs.length : Int)) := fun H1 e Q q => ⟨a, xs, rfl, .inl (ex_l e h), q H1 (Ex.refl H1)⟩
theorem rc_max2 {i j : Int} : RC rMax2 [.int i, .int j] H (.int (if j > i then j else i)) := fun H1 _ Q q => ⟨i, j, rfl, q H1 (Ex.refl H1)⟩
theorem rc_int {i : Int} : RC (fun xs H Q => (∃ i, xs = [V.int i] ∧ Q (.int i) H) ∨ ∃ k, xs = [V.bl k] ∧ Q (.int (if k then 1 else 0)) H) [.int i] H (.int i) := fun H1 _ Q q => .inl ⟨i, rfl, q H1 (Ex.refl H1)⟩
theorem rc_abs {i : Int} : RC (fun xs H Q => ∃ i, xs = [V.int i] ∧ Q (.int (if i < 0 then -i else i)) H) [.int i] H (.int (if i < 0 then -i else i)) := fun H1 _ Q q => ⟨i, rfl, q H1 (Ex.refl H1)⟩
end
section
variable {P : Program} {w : World} {K : PySem.W.Frag} {mg : Str → Option Value} {base : Heap} {C : Addr} {H : Hp}
theorem dr {t : TA} {σ : L2.St} {Er : XK} {Q : VK} {a : Addr} {n : Nat} (h : EvA t σ H [.ref a, nV n]) (p : PotAt H a) (h1 : 1 ≤ n) (h2 : n ≤ 1000) (k : ∀ H' (d : Nat), ExB a H H' → PotAt H' a → d < n → Q (nV d) H') : tCall sp_Ldraw [] Er t σ H Q :=
  h H (Ex.refl H) _ fun H1 e1 => ⟨a, n, rfl, p.ex e1, h1, h2, fun H' d x p' hd => k H' d ((ExB.of e1).trans x) p' hd⟩
theorem yes_raw {σ : L2.St} {A B : Hp → Prop} (h : A H) : tYes σ H fun b H3 => if b = true then A H3 else B H3 := by
  show if true = true then A H else B H
  exact iteT h
theorem el_raw {te : TE} {σ : L2.St} {Q : VK} {xs : List V} (h : EvL te σ H xs) (k : ∀ p H1, H p = none → Ex H H1 → H1 p = some (.lst xs) → Q (.ref p) H1) : te σ H Q := h H (Ex.refl H) Q k
theorem op_raw {r : R2} {ta tb : TE} {σ : L2.St} {Q : VK} (h : ta σ H fun x H1 => tb σ H1 fun y H2 => r x y H2 Q) : tOp r ta tb σ H Q := h
end
theorem roomU {k : Nat} {A : Around} (h : Room k A) : A.units + 64 < cLine := by
  have := h.un
  omega
theorem given_all (n : Nat) (v : Nat → V) : given n (fun _ => true) v = (List.range n).map v := by
  unfold given
  rw [List.filter_eq_self.mpr (fun _ _ => rfl)]
section
variable {K : PySem.W.Frag} {σ : L2.St} {H : Hp} {te tb : TE} {ta : TA} {t tu : TT} {D : Ends} {tz : TS} {xs ys : List V} {b : Bool}
theorem et_yes : EvT tYes σ H true := fun H1 _ _ q => q H1 (Ex.refl H1)
theorem el_is (h : EvL te σ H xs) (e : xs = ys) : EvL te σ H ys := by
  rw [← e]
  exact h
theorem rc_all {p : Addr} {bs : List Bool} (h : H p = some (.lst (bs.map V.bl))) : RC (rAll K) [.ref p] H (.bl (bs.all id)) := fun H1 e Q q => ⟨p, bs, rfl, sq_of (e _ _ h), q H1 (Ex.refl H1)⟩
theorem ev_allB {bs : List Bool} (h : EvL te σ H (bs.map V.bl)) : Ev (tCB (rAll K) (tCons te tNil)) σ H (.bl (bs.all id)) := fun H1 e Q q => h H1 e _ fun p H2 hp e2 h2 => rc_all h2 H2 (Ex.refl H2) Q fun H3 e3 => q H3 (e2.trans e3)
theorem q_ext {l : Addr} {ta : TE} (hl : H l = some (.lst xs)) (ha : Ev ta σ H (.ref l)) (h : EvL te σ H ys) (hz : xs.length + ys.length ≤ 100000) (k : ∀ H1, Ex H H1 → tz D σ (upd H1 l (.lst (xs ++ ys)))) : tSeq (tDrop (tBM K "list" rExtend ta (tCons te tNil))) tz D σ H :=
  ha H (Ex.refl H) _ fun H1 e1 => ⟨Or.inl ⟨rfl, xs, sq_of (e1 _ _ hl)⟩, h H1 e1 _ fun b H2 hb e2 h2 => ⟨l, b, xs, ys, rfl, rfl, (e1.trans e2) _ _ hl, h2, sz_of hz, k H2 (e1.trans e2)⟩⟩
end
end My
namespace My
open PySem PySem.Spec PyProof.Rows L2 GL Evl StX SkE
/-! ### rows and rules in the heap -/
def isTup : HO → Bool
  | .tup _ => true
  | .frz _ (.tup _) => true
  | _ => false
/-- no tuple stands at b -/
def NoTup (H : Hp) (b : Addr) : Prop := ∀ u, H b = some u → isTup u = false
inductive RowAt (K : PySem.W.Frag) (H : Hp) (a : Addr) (us : Rw) : Prop where
  | tup (h : H a = some (.tup (us.map wV)))
  | fx {o : Obj} (h : H a = some (.frz o (.tup (us.map wV)))) (b : Bare o)
  | kst (h : ∀ H, SqT K H a (us.map wV)) (y : ∀ H, TyX K H (.ref a) (.type "tuple"))
section
variable {K : PySem.W.Frag} {H H' : Hp} {a b : Addr} {us ws : Rw}
theorem NoTup.lst {xs : List V} (h : H b = some (.lst xs)) : NoTup H b := fun u e => by
  rw [h] at e
  cases e
  rfl
theorem NoTup.dK {xs : List (Key × V)} (h : H b = some (.dK xs)) : NoTup H b := fun u e => by
  rw [h] at e
  cases e
  rfl
theorem NoTup.ins {C dx : Addr} {xs : List (Str × V)} (h : H b = some (.ins C dx xs)) : NoTup H b := fun u e => by
  rw [h] at e
  cases e
  rfl
theorem NoTup.none (h : H b = .none) : NoTup H b := fun u e => by
  rw [h] at e
  cases e
theorem RowAt.sq (h : RowAt K H a us) : SqT K H a (us.map wV) := by
  cases h with
  | tup h => exact st_of h
  | fx h _ => exact .inl (.inr ⟨_, h⟩)
  | kst h _ => exact h H
theorem RowAt.ty (h : RowAt K H a us) : TyX K H (.ref a) (.type "tuple") := by
  cases h with
  | tup h => exact .base (.tup h)
  | fx h _ => exact .fTuple h
  | kst _ y => exact y H
theorem RowAt.ex (h : RowAt K H a us) (e : Ex H H') : RowAt K H' a us := by
  cases h with
  | tup h => exact .tup (e _ _ h)
  | fx h b => exact .fx (e _ _ h) b
  | kst h y => exact .kst h y
/-- a place where no tuple stands may change -/
theorem RowAt.exB (h : RowAt K H a us) (e : ExB b H H') (n : NoTup H b) : RowAt K H' a us := by
  cases h with
  | tup h => exact .tup (e _ _ (fun q => Bool.noConfusion (n _ (q ▸ h))) h)
  | fx h c => exact .fx (e _ _ (fun q => Bool.noConfusion (n _ (q ▸ h))) h) c
  | kst h y => exact .kst h y
/-- a row: a tuple without a dict -/
inductive RowX (K : PySem.W.Frag) (H : Hp) (a : Addr) (us : Rw) : Prop where
  | fx {o : Obj} (h : H a = some (.frz o (.tup (us.map wV)))) (b : Bare o)
  | kst (h : ∀ H, SqT K H a (us.map wV)) (y : ∀ H, TyX K H (.ref a) (.type "tuple")) (t : ∃ o, K.lookup a = some o ∧ Bare o)
theorem RowX.at_ (h : RowX K H a us) : RowAt K H a us := by
  cases h with
  | fx h b => exact .fx h b
  | kst h y t => exact .kst h y
theorem RowX.sq (h : RowX K H a us) : SqT K H a (us.map wV) := h.at_.sq
theorem RowX.ex (h : RowX K H a us) (e : Ex H H') : RowX K H' a us := by
  cases h with
  | fx h b => exact .fx (e _ _ h) b
  | kst h y t => exact .kst h y t
theorem RowX.exB (h : RowX K H a us) (e : ExB b H H') (n : NoTup H b) : RowX K H' a us := by
  cases h with
  | fx h c => exact .fx (e _ _ (fun q => Bool.noConfusion (n _ (q ▸ h))) h) c
  | kst h y t => exact .kst h y t
def dW (w : Wd) : PyData := .str w.s
def dRow (us : Rw) : PyData := .tuple (us.map dW)
theorem dp_ws (H : Hp) : ∀ us : Rw, DpAll K H (us.map wV) (us.map dW)
  | [] => .nil
  | u :: us => .cons (.str _) (dp_ws H us)
theorem RowAt.dp (h : RowAt K H a us) : Dp K H (.ref a) (dRow us) := .tup h.sq (dp_ws H us)
theorem RowX.dp (h : RowX K H a us) : Dp K H (.ref a) (dRow us) := h.at_.dp
theorem shaped_of {d : PyData} (h1 : d.canLay0 = true) (h2 : d.depth ≤ 64) : SeqAt.shaped d = true := by
  show (d.canLay0 && decide (d.depth ≤ 64)) = true
  rw [h1, decide_eq_true h2]
  rfl
theorem w_ok (w : Wd) : PyData.strOk w.s = true := by cases w <;> decide +kernel
theorem lay_ws : ∀ us : Rw, PyData.canLayAll0 (us.map dW) = true
  | [] => rfl
  | u :: us => by
    show ((PyData.str u.s).canLay0 && PyData.canLayAll0 (us.map dW)) = true
    rw [lay_ws us]
    simp only [PyData.canLay0, w_ok, Bool.and_self]
theorem depth_ws : ∀ us : Rw, PyData.depthAll (us.map dW) ≤ 0
  | [] => Nat.le_refl _
  | u :: us => by
    show max (dW u).depth (PyData.depthAll (us.map dW)) ≤ 0
    exact Nat.max_le.mpr ⟨Nat.le_refl _, depth_ws us⟩
theorem row_lay (us : Rw) : (dRow us).canLay0 = true := lay_ws us
theorem row_depth (us : Rw) : (dRow us).depth ≤ 1 := by
  have := depth_ws us
  show (PyData.tuple (us.map dW)).depth ≤ 1
  simp only [PyData.depth]
  omega
theorem row_shaped (us : Rw) : SeqAt.shaped (dRow us) = true := shaped_of (row_lay us) (Nat.le_trans (row_depth us) (by decide))
end
/-! lists of rows -/
inductive RowsAt (K : PySem.W.Frag) (H : Hp) : List V → List Rw → Prop where
  | nil : RowsAt K H [] []
  | cons {a : Addr} {us : Rw} {vs : List V} {rs : List Rw} (h : RowX K H a us) (t : RowsAt K H vs rs) : RowsAt K H (.ref a :: vs) (us :: rs)
section
variable {K : PySem.W.Frag} {H H' : Hp} {vs ws : List V} {rs qs : List Rw}
theorem RowsAt.ex (h : RowsAt K H vs rs) (e : Ex H H') : RowsAt K H' vs rs := by
  induction h with
  | nil => exact .nil
  | cons h _ ih => exact .cons (h.ex e) ih
theorem RowsAt.len (h : RowsAt K H vs rs) : vs.length = rs.length := by
  induction h with
  | nil => rfl
  | cons _ _ ih => rw [List.length_cons, List.length_cons, ih]
theorem RowsAt.app (h : RowsAt K H vs rs) (h2 : RowsAt K H ws qs) : RowsAt K H (vs ++ ws) (rs ++ qs) := by
  induction h with
  | nil => exact h2
  | cons h _ ih => exact .cons h ih
theorem RowsAt.at (h : RowsAt K H vs rs) {i : Nat} {v : V} (hv : vs[i]? = some v) : ∃ a us, v = .ref a ∧ rs[i]? = some us ∧ RowX K H a us := by
  induction h generalizing i with
  | nil => simp at hv
  | @cons a us vs rs h _ ih =>
    cases i with
    | zero =>
      rw [List.getElem?_cons_zero] at hv
      exact ⟨a, us, (Option.some.inj hv).symm, rfl, h⟩
    | succ i =>
      rw [List.getElem?_cons_succ] at hv
      obtain ⟨b, ws, e, e2, hb⟩ := ih hv
      exact ⟨b, ws, e, by rw [List.getElem?_cons_succ]; exact e2, hb⟩
theorem RowsAt.mem (h : RowsAt K H vs rs) {v : V} (hv : v ∈ vs) : ∃ a us, v = .ref a ∧ us ∈ rs ∧ RowX K H a us := by
  obtain ⟨i, hi⟩ := List.getElem?_of_mem hv
  obtain ⟨a, us, e, e2, h2⟩ := h.at hi
  exact ⟨a, us, e, List.mem_of_getElem? e2, h2⟩
theorem RowsAt.dp (h : RowsAt K H vs rs) : DpAll K H vs (rs.map dRow) := by
  induction h with
  | nil => exact .nil
  | cons h _ ih => exact .cons h.dp ih
end
/-! parts -/
def Pv.At (K : PySem.W.Frag) (H : Hp) : Pv → V → Prop
  | .row us, v => ∃ a, v = .ref a ∧ RowX K H a us
  | .hold us, v => ∃ a, v = .ref a ∧ RowAt K H a us
  | .wd w, v => v = wV w
  | .bl b, v => v = .bl b
  | .int n, v => v = nV n
def Pv.d : Pv → PyData
  | .row us => dRow us
  | .hold us => dRow us
  | .wd w => dW w
  | .bl b => .bool b
  | .int n => .int n
section
variable {K : PySem.W.Frag} {H H' : Hp} {p q : Pv} {v : V} {b : Addr}
theorem Pv.At.ex (h : p.At K H v) (e : Ex H H') : p.At K H' v := by
  cases p with
  | row us =>
    obtain ⟨a, rfl, h⟩ := h
    exact ⟨a, rfl, h.ex e⟩
  | hold us =>
    obtain ⟨a, rfl, h⟩ := h
    exact ⟨a, rfl, h.ex e⟩
  | _ => exact h
theorem Pv.At.exB (h : p.At K H v) (e : ExB b H H') (n : NoTup H b) : p.At K H' v := by
  cases p with
  | row us =>
    obtain ⟨a, rfl, h⟩ := h
    exact ⟨a, rfl, h.exB e n⟩
  | hold us =>
    obtain ⟨a, rfl, h⟩ := h
    exact ⟨a, rfl, h.exB e n⟩
  | _ => exact h
theorem Pv.At.dp (h : p.At K H v) : Dp K H v p.d := by
  cases p with
  | row us =>
    obtain ⟨a, rfl, h⟩ := h
    exact h.dp
  | hold us =>
    obtain ⟨a, rfl, h⟩ := h
    exact h.dp
  | wd w =>
    cases h
    exact .str _
  | bl b =>
    cases h
    exact .bl b
  | int n =>
    cases h
    exact .int _
theorem Pv.shaped (p : Pv) : SeqAt.shaped p.d = true := by
  cases p with
  | row us => exact row_shaped us
  | hold us => exact row_shaped us
  | wd w => exact shaped_of (d := .str w.s) (by simp only [PyData.canLay0, w_ok]) (by simp only [PyData.depth]; omega)
  | bl b => exact shaped_of (d := .bool b) (by simp only [PyData.canLay0]) (by simp only [PyData.depth]; omega)
  | int n => exact shaped_of (d := .int n) (by simp only [PyData.canLay0]) (by simp only [PyData.depth]; omega)
end
/-! dicts of rules -/
abbrev kvs (ks : List Pt) (f : Pt → V) : List (Key × V) := ks.map fun p => (.inr p.s, f p)
/-- at d a dict with these keys, whose values are r's parts -/
def DictAt (K : PySem.W.Frag) (H : Hp) (d : Addr) (ks : List Pt) (r : Ru) : Prop := ∃ f : Pt → V, H d = some (.dK (kvs ks f)) ∧ ∀ p ∈ ks, (r.get p).At K H (f p)
section
variable {K : PySem.W.Frag} {H H' : Hp} {d b : Addr} {ks : List Pt} {r : Ru}
theorem DictAt.ex (h : DictAt K H d ks r) (e : Ex H H') : DictAt K H' d ks r := by
  obtain ⟨f, h1, h2⟩ := h
  exact ⟨f, e _ _ h1, fun p hp => (h2 p hp).ex e⟩
theorem DictAt.exB (h : DictAt K H d ks r) (e : ExB b H H') (nd : d ≠ b) (n : NoTup H b) : DictAt K H' d ks r := by
  obtain ⟨f, h1, h2⟩ := h
  exact ⟨f, e _ _ nd h1, fun p hp => (h2 p hp).exB e n⟩
end
end My
namespace My
open PySem PySem.Spec PyProof.Rows L2 GL Evl StX SkE
def fd : V → PyData
  | .int i => .int i
  | .str x => .str x
  | .bl b => .bool b
  | _ => .none
theorem text_len (B : Nat) : ∀ (ts : List Str) (k : Nat) (acc : Str), (∀ t ∈ ts, t.length ≤ B) → (textFrom k acc ts).length ≤ acc.length + ts.length * (B + 2)
  | [], k, acc, _ => by
    show acc.length ≤ acc.length + 0 * (B + 2)
    omega
  | t :: r, k, acc, h => by
    have ih := text_len B r (k + 1) (acc ++ (if k > 0 then ", " else "" : String) ++ t) fun y hy => h y (List.mem_cons_of_mem _ hy)
    have ht := h t List.mem_cons_self
    have e2 : (Str.ofString (if k > 0 then ", " else "")).length ≤ 2 := by
      split <;> decide
    rw [Str.length_append, Str.length_append] at ih
    show (textFrom (k + 1) (acc ++ (if k > 0 then ", " else "" : String) ++ t) r).length ≤ acc.length + (r.length + 1) * (B + 2)
    rw [Nat.add_mul, Nat.one_mul]
    omega
theorem list_text_len {B : Nat} {ts : List Str} (h : ∀ t ∈ ts, t.length ≤ B) : (listText ts).length ≤ ts.length * (B + 2) + 2 := by
  have q := text_len B ts 0 "[" h
  have e1 : (Str.ofString "[").length = 1 := by decide
  have e2 : (Str.ofString "]").length = 1 := by decide
  unfold listText
  rw [Str.length_append, e2]
  omega
theorem shownAll_mem : ∀ {ds : List PyData} {t : Str}, t ∈ PyData.shownAll ds → ∃ d ∈ ds, t = d.shown
  | [], t, h => by
    simp only [PyData.shownAll] at h
    cases h
  | d :: ds, t, h => by
    simp only [PyData.shownAll] at h
    rcases List.mem_cons.mp h with z | z
    · exact ⟨d, List.mem_cons_self, z⟩
    · obtain ⟨e, he, q⟩ := shownAll_mem z
      exact ⟨e, List.mem_cons_of_mem _ he, q⟩
theorem shownAll_len : ∀ ds : List PyData, (PyData.shownAll ds).length = ds.length
  | [] => by simp only [PyData.shownAll, List.length_nil]
  | d :: ds => by
    simp only [PyData.shownAll, List.length_cons]
    rw [shownAll_len ds]
theorem showableAll_of : ∀ {ds : List PyData}, (∀ d ∈ ds, d.showable = true) → PyData.showableAll ds = true
  | [], _ => by simp only [PyData.showableAll]
  | d :: ds, h => by
    simp only [PyData.showableAll, Bool.and_eq_true]
    exact ⟨h d List.mem_cons_self, showableAll_of fun e he => h e (List.mem_cons_of_mem _ he)⟩
theorem depthAll_of : ∀ {ds : List PyData} {k : Nat}, (∀ d ∈ ds, d.depth ≤ k) → PyData.depthAll ds ≤ k
  | [], _, _ => by
    simp only [PyData.depthAll]
    omega
  | d :: ds, k, h => by
    simp only [PyData.depthAll]
    have h1 := h d List.mem_cons_self
    have h2 := depthAll_of (ds := ds) (k := k) fun e he => h e (List.mem_cons_of_mem _ he)
    omega
def shw (xs : List V) : Str := (PyData.list (xs.map fd)).shown
structure Sm (d : PyData) (k B : Nat) : Prop where
  sh : d.showable = true
  nd : d.hasDict = false
  de : d.depth ≤ k
  ln : d.shown.length ≤ B
theorem Sm.mono {d : PyData} {k B k' B' : Nat} (h : Sm d k B) (hk : k ≤ k') (hB : B ≤ B') : Sm d k' B' := ⟨h.sh, h.nd, Nat.le_trans h.de hk, Nat.le_trans h.ln hB⟩
/-! texts of tuples, of parts -/
end My
/-! ### tuple(list), told with its object -/
namespace GL
open PySem PySem.Spec PyProof.Rows L2
end GL
namespace My
open PySem PySem.Spec PyProof.Rows L2 GL Evl StX SkE
/-! ### the laws' menus of rows -/
end My
/-! ### f(k = v, ..), by names alone -/
namespace GL
open PySem PySem.Spec PyProof.Rows L2
end GL
/-! isinstance(e, C), C a class of ours or a built-in one -/
namespace GL
open PySem PySem.Spec PyProof.Rows L2
end GL
/-! promises kept where lists with instances are being shown: what stands in the way (the guards) are the addresses L -/
namespace GL
open PySem PySem.Spec PyProof.Rows L2 Evl StX SkE
def Gu (L : List Addr) (g : List Code) : Prop := ∀ id v rest kw, Code.builtin id ⟨v :: rest, kw⟩ ∈ g → ∃ l ∈ L, v = .ref l
def FreL (L : List Addr) (A : Around) : Prop := ∃ g, A.guards = some g ∧ Gu L g
theorem FreL.of {A : Around} (h : Fre A) : FreL [] A := ⟨[], h, fun _ _ _ _ q => nomatch q⟩
structure FnL (L : List Addr) (P : Program) (w : World) (K : PySem.W.Frag) (mg : Str → Option Value) (base : Heap) (CX : CXT) (k : Nat) (f : Addr) (fd : FuncData) (ps : List Str) (sp : Sp) : Prop where
  many : ∀ vs H Q E, sp vs H Q E → vs.length = ps.length
  goes : ∀ {A : Around} {outer : List Env} {s : Shared} {H : Hp} {args : Args} {us : List Value} {vs : List V} {Q : VK} {E : XK}, FreL L A → Room k A →
    Env0 P w K mg base A outer s H → BindsTo s fd args (ps.zip us) → Vals vs us → sp vs H Q E → codeAny (model P w) A (.call (.ref f) args) (CR CX outer P w H s Q E) s
theorem FnL.g {P : Program} {w : World} {K : PySem.W.Frag} {mg : Str → Option Value} {base : Heap} {CX : CXT} {k : Nat} {f : Addr} {fd : FuncData} {ps : List Str} {sp : Sp} (F : FnL [] P w K mg base CX k f fd ps sp) : FnG P w K mg base CX k f fd ps sp :=
  ⟨F.many, fun h r e b v q => F.goes (FreL.of h) r e b v q⟩
/-! what is no data -/
def Odd (K : PySem.W.Frag) (H : Hp) (l : Addr) : Prop := ∃ xs a C dx fs, (SqL K H l xs ∨ SqT K H l xs) ∧ V.ref a ∈ xs ∧ H a = some (.ins C dx fs)
theorem Odd.ex {K : PySem.W.Frag} {H H' : Hp} {l : Addr} (h : Odd K H l) (e : Ex H H') : Odd K H' l := by
  obtain ⟨xs, a, C, dx, fs, h1, h2, h3⟩ := h
  exact ⟨xs, a, C, dx, fs, h1.imp (ex_l e) (ex_t e), h2, e _ _ h3⟩
end GL
/-! {x!r} of data where the guards are L; repr of a list whose members are instances with an own text, or data -/
namespace GL
open PySem PySem.Spec PyProof.Rows L2 Evl StX SkE
/-! ### members with a text -/
end GL
namespace GL
open PySem PySem.Spec PyProof.Rows L2 Evl StX SkE
end GL
namespace GL
open PySem PySem.Spec PyProof.Rows L2 Evl StX SkE
end GL
/-! data with dicts in it, as it is shown -/
namespace GL
open PySem PySem.Spec PyProof.Rows L2 Evl StX SkE
def keyD : Key → PyData
  | .inl i => .int i
  | .inr x => .str x
mutual
inductive Dx (K : PySem.W.Frag) (H : Hp) : V → PyData → Prop
  | non : Dx K H .non .none
  | bl (b : Bool) : Dx K H (.bl b) (.bool b)
  | int (i : Int) : Dx K H (.int i) (.int i)
  | str (x : Str) : Dx K H (.str x) (.str x)
  | lst {a : Addr} {xs : List V} {ds : List PyData} : SqL K H a xs → DxAll K H xs ds → Dx K H (.ref a) (.list ds)
  | tup {a : Addr} {xs : List V} {ds : List PyData} : SqT K H a xs → DxAll K H xs ds → Dx K H (.ref a) (.tuple ds)
  | dct {a : Addr} {kvs : List (Key × V)} {ds : List PyData} : H a = some (.dK kvs) → DxAll K H (kvs.map (·.2)) ds → Dx K H (.ref a) (.dict ((kvs.map fun p => keyD p.1).zip ds))
inductive DxAll (K : PySem.W.Frag) (H : Hp) : List V → List PyData → Prop
  | nil : DxAll K H [] []
  | cons {v : V} {vs : List V} {d : PyData} {ds : List PyData} : Dx K H v d → DxAll K H vs ds → DxAll K H (v :: vs) (d :: ds)
end
section
variable {K : PySem.W.Frag} {H H' : Hp}
theorem DxAll.len {vs : List V} {ds : List PyData} : DxAll K H vs ds → ds.length = vs.length
  | .nil => rfl
  | .cons _ t => by rw [List.length_cons, List.length_cons, DxAll.len t]
mutual
theorem Dx.ex (e : Ex H H') : ∀ {v : V} {d : PyData}, Dx K H v d → Dx K H' v d
  | _, _, .non => .non
  | _, _, .bl b => .bl b
  | _, _, .int i => .int i
  | _, _, .str x => .str x
  | _, _, .lst h t => .lst (ex_l e h) (DxAll.ex e t)
  | _, _, .tup h t => .tup (ex_t e h) (DxAll.ex e t)
  | _, _, .dct h t => .dct (e _ _ h) (DxAll.ex e t)
theorem DxAll.ex (e : Ex H H') : ∀ {vs : List V} {ds : List PyData}, DxAll K H vs ds → DxAll K H' vs ds
  | _, _, .nil => .nil
  | _, _, .cons h t => .cons (Dx.ex e h) (DxAll.ex e t)
end
end
section
variable {X : Cx} {pins : List (Addr × Obj)} {σ : L2.St} {H : Hp} {s : Shared}
/-- a value is read, and shown so -/
def Shw (X : Cx) (s : Shared) (u : Value) (d : PyData) : Prop := ∃ as bs, Reads s.heap u d as ∧ ReadAtMost s.heap d.depth bs ∧ ReprK X.prog X.w bs s.heap d.depth u d.shown
theorem shw_all {n : Nat} (one : ∀ d v u, d.depth ≤ n → Dx X.K H v d → RelV v u → d.showable = true → d.shown.length ≤ sizeLine → Shw X s u d) : ∀ ds vs us, DxAll X.K H vs ds → Vals vs us → PyData.depthAll ds ≤ n → PyData.showableAll ds = true → (∀ t ∈ PyData.shownAll ds, t.length ≤ sizeLine) →
    ∃ as bs, ReadsAll s.heap us ds as ∧ ReadAtMost s.heap (PyData.depthAll ds) bs ∧ ReprAllK X.prog X.w bs s.heap (PyData.depthAll ds) us (PyData.shownAll ds)
  | [], _, _, h, r, _, _, _ => by
    cases h
    cases r
    exact ⟨_, [], .nil, (fun _ z => nomatch z), .nil⟩
  | d :: ds, _, _, h, r, hd, hs, hz => by
    cases h with
    | cons h1 h2 =>
      cases r with
      | cons r1 r2 =>
        simp only [PyData.depthAll] at hd
        simp only [PyData.showableAll, Bool.and_eq_true] at hs
        simp only [PyData.shownAll] at hz ⊢
        simp only [PyData.depthAll]
        obtain ⟨a1, b1, q1, q2, q3⟩ := one d _ _ (by omega) h1 r1 hs.1 (hz _ List.mem_cons_self)
        obtain ⟨a2, b2, p1, p2, p3⟩ := shw_all one ds _ _ h2 r2 (by omega) hs.2 fun t ht => hz t (List.mem_cons_of_mem _ ht)
        exact ⟨_, b1 ++ b2, .cons q1 p1, (q2.mono (by omega)).append (p2.mono (by omega)), .cons ((q3.more fun b hb => List.mem_append_left _ hb).level_le (by omega)) (p3.more_le (fun b hb => List.mem_append_right _ hb) (by omega))⟩
theorem keys_read {prog : Program} {w : World} {es : List DictEntry} {ks : List (Key × Value)} {n : Nat} (p : Pairs (mixKind prog w) es ks) (hs : PyData.showableAll (ks.map fun p => keyD p.1) = true) (hz : ∀ t ∈ PyData.shownAll (ks.map fun p => keyD p.1), t.length ≤ sizeLine) :
    ∃ as, ReadsAll s.heap (es.map (·.key)) (ks.map fun p => keyD p.1) as ∧ ReprAllK X.prog X.w [] s.heap n (es.map (·.key)) (PyData.shownAll (ks.map fun p => keyD p.1)) := by
  induction p with
  | nil => exact ⟨_, .nil, .nil⟩
  | @cons e kv es ks h1 h2 _ ih =>
    simp only [List.map_cons, PyData.showableAll, Bool.and_eq_true] at hs
    simp only [List.map_cons, PyData.shownAll] at hz
    obtain ⟨as, i1, i2⟩ := ih hs.2 fun t ht => hz t (List.mem_cons_of_mem _ ht)
    have z1 := hz _ List.mem_cons_self
    rcases keyIs_shape (show keyIs kv.1 e.key = true from h1) with ⟨i, t, e1, e2⟩ | ⟨x, t, e1, e2⟩
    · rw [e1] at hs z1
      simp only [List.map_cons, PyData.shownAll, e1, e2]
      refine ⟨_, .cons (.int i t) i1, .cons ?_ i2⟩
      simp only [keyD, PyData.shown]
      exact .of_is (ReprIs.int t (by simpa [keyD, PyData.showable] using hs.1)) _ _ _
    · rw [e1] at hs z1
      simp only [List.map_cons, PyData.shownAll, e1, e2]
      refine ⟨_, .cons (.str x t) i1, .cons ?_ i2⟩
      simp only [keyD, PyData.shown]
      exact .of_is (ReprIs.str x t (by simpa only [keyD, PyData.shown] using z1)) _ _ _
theorem vals_pairs {prog : Program} {w : World} {kvs : List (Key × V)} {vs : List (Key × Value)} {es : List DictEntry} (r : KV kvs vs) (p : Pairs (mixKind prog w) es vs) : Vals (kvs.map (·.2)) (es.map (·.val)) := by
  induction p generalizing kvs with
  | nil =>
    cases r
    exact .nil
  | cons h1 h2 _ ih =>
    cases r with
    | cons q rt =>
      rw [List.map_cons, List.map_cons, h2]
      exact .cons q.2 (ih rt)
theorem zip_fst {α β : Type} : ∀ {xs : List α} {ys : List β}, xs.length = ys.length → (xs.zip ys).map (·.1) = xs
  | [], _, _ => rfl
  | x :: xs, y :: ys, h => by
    rw [List.zip_cons_cons, List.map_cons, zip_fst (by simpa using h)]
theorem zip_snd {α β : Type} : ∀ {xs : List α} {ys : List β}, xs.length = ys.length → (xs.zip ys).map (·.2) = ys
  | [], [], _ => rfl
  | x :: xs, y :: ys, h => by
    rw [List.zip_cons_cons, List.map_cons, zip_snd (by simpa using h)]
theorem shw (I : Inv X pins σ H s) : ∀ n d v u, d.depth ≤ n → Dx X.K H v d → RelV v u → d.showable = true → d.shown.length ≤ sizeLine → Shw X s u d := by
  have flat : ∀ d v u, Dx X.K H v d → RelV v u → d.showable = true → d.shown.length ≤ sizeLine → (∀ a, v ≠ .ref a) → Shw X s u d := by
    intro d v u h r hs hz nr
    cases h with
    | non =>
      cases r
      exact ⟨_, [], .none, (fun _ z => nomatch z), by simp only [PyData.shown]; exact .of_is ReprIs.none _ _ _⟩
    | bl b =>
      cases r
      exact ⟨_, [], .bool b, (fun _ z => nomatch z), by simp only [PyData.shown]; exact .of_is (ReprIs.bool b) _ _ _⟩
    | int i =>
      obtain ⟨t, rfl⟩ := r
      exact ⟨_, [], .int i t, (fun _ z => nomatch z), by simp only [PyData.shown]; exact .of_is (ReprIs.int t (by simpa [PyData.showable] using hs)) _ _ _⟩
    | str x =>
      obtain ⟨t, rfl⟩ := r
      exact ⟨_, [], .str x t, (fun _ z => nomatch z), by simp only [PyData.shown]; exact .of_is (ReprIs.str x t (by simpa only [PyData.shown] using hz)) _ _ _⟩
    | lst _ _ => exact absurd rfl (nr _)
    | tup _ _ => exact absurd rfl (nr _)
    | dct _ _ => exact absurd rfl (nr _)
  intro n
  induction n with
  | zero =>
    intro d v u hd h r hs hz
    cases h with
    | lst _ _ => simp only [PyData.depth] at hd; omega
    | tup _ _ => simp only [PyData.depth] at hd; omega
    | dct _ _ => simp only [PyData.depth] at hd; omega
    | non => exact flat _ _ _ .non r hs hz fun _ z => nomatch z
    | bl b => exact flat _ _ _ (.bl b) r hs hz fun _ z => nomatch z
    | int i => exact flat _ _ _ (.int i) r hs hz fun _ z => nomatch z
    | str x => exact flat _ _ _ (.str x) r hs hz fun _ z => nomatch z
  | succ n ih =>
    intro d v u hd h r hs hz
    cases h with
    | non => exact flat _ _ _ .non r hs hz fun _ z => nomatch z
    | bl b => exact flat _ _ _ (.bl b) r hs hz fun _ z => nomatch z
    | int i => exact flat _ _ _ (.int i) r hs hz fun _ z => nomatch z
    | str x => exact flat _ _ _ (.str x) r hs hz fun _ z => nomatch z
    | @lst a xs ds hq ha =>
      cases r
      simp only [PyData.depth] at hd
      simp only [PyData.showable] at hs
      have hz2 : (listText (PyData.shownAll ds)).length ≤ sizeLine := by simpa only [PyData.shown] using hz
      obtain ⟨its, rv, ⟨o, m, ho, hc, _, hdat⟩, _⟩ := I.list hq
      obtain ⟨as, bs, q1, q2, q3⟩ := shw_all ih ds _ _ ha rv (by omega) hs fun t ht => Nat.le_trans (listText_mem_le ht) hz2
      have rd : Reads s.heap (.ref a) (.list ds) _ := .list ho hc hdat q1
      have hna : a ∉ bs := not_mem_of_deeper rd (by simp only [PyData.depth]; omega) q2
      refine ⟨_, a :: bs, rd, ReadAtMost.cons rd (by simp only [PyData.depth]; omega) q2, ?_⟩
      simp only [PyData.depth, PyData.shown]
      cases its with
      | nil =>
        cases q1
        simp only [PyData.shownAll, listText_nil]
        exact ReprK.listEmpty ho hc hdat
      | cons x l => exact ReprK.list ho hc hdat hna (by simpa using q3.length_eq) fun i y e => q3.item i y (by simpa using e)
    | @tup a xs ds hq ha =>
      cases r
      simp only [PyData.depth] at hd
      simp only [PyData.showable] at hs
      have hz2 : (tupleText (PyData.shownAll ds)).length ≤ sizeLine := by simpa only [PyData.shown] using hz
      obtain ⟨its, rv, p, _⟩ := I.tuple hq
      obtain ⟨o, ho, hc, m, hdat⟩ := p
      obtain ⟨as, bs, q1, q2, q3⟩ := shw_all ih ds _ _ ha rv (by omega) hs fun t ht => Nat.le_trans (tupleText_mem_le ht) hz2
      have rd : Reads s.heap (.ref a) (.tuple ds) _ := .tuple ho hc hdat (by simpa using q1)
      have hna : a ∉ bs := not_mem_of_deeper rd (by simp only [PyData.depth]; omega) q2
      refine ⟨_, a :: bs, rd, ReadAtMost.cons rd (by simp only [PyData.depth]; omega) q2, ?_⟩
      simp only [PyData.depth, PyData.shown]
      exact ReprK.tuple ho hc hdat hna (by simpa using q3)
    | @dct a kvs ds hq ha =>
      cases r
      obtain ⟨_, hsys, vs, kv, o, es, ep, ho, hx, hdat, _, pr, _⟩ := dk_of I.hok hq
      have hc : o.cls = .type "dict" := hx.1
      have le := ha.len
      rw [List.length_map] at le
      have f1 := zip_fst (xs := kvs.map fun p => keyD p.1) (ys := ds) (by rw [List.length_map, le])
      have f2 := zip_snd (xs := kvs.map fun p => keyD p.1) (ys := ds) (by rw [List.length_map, le])
      have ek : (kvs.map fun p => keyD p.1) = vs.map fun p => keyD p.1 := by
        have z := congrArg (List.map keyD) kv.keys
        rw [List.map_map, List.map_map] at z
        exact z
      generalize hkv : (kvs.map fun p => keyD p.1).zip ds = kd at *
      simp only [PyData.depth] at hd
      simp only [PyData.showable] at hs
      have hz2 : (dictText (PyData.shownKv kd)).length ≤ sizeLine := by simpa only [PyData.shown] using hz
      obtain ⟨hs1, hs2⟩ := PyData.showableKv_split kd hs
      have d1 := PyData.depthAll_keys_le kd
      have d2 := PyData.depthAll_vals_le kd
      rw [f1] at hs1 d1
      rw [f2] at hs2 d2
      obtain ⟨as1, k1, k2⟩ := keys_read (X := X) (s := s) (n := PyData.depthKv kd) pr (by rw [← ek]; exact hs1) (fun t ht => by
        obtain ⟨p, hp, hl⟩ := PyData.shownKv_key_le kd t (by rw [f1, ek]; exact ht)
        exact Nat.le_trans hl (Nat.le_trans (dictText_mem_le hp) hz2))
      obtain ⟨as2, bs, q1, q2, q3⟩ := shw_all ih ds _ _ ha (vals_pairs kv pr) (by omega) hs2 fun t ht => by
        obtain ⟨p, hp, hl⟩ := PyData.shownKv_val_le kd t (by rw [f2]; exact ht)
        exact Nat.le_trans hl (Nat.le_trans (dictText_mem_le hp) hz2)
      have rd : Reads s.heap (.ref a) (.dict kd) _ := .dict ho hc hdat (by rw [f1, ek]; exact k1) (by rw [f2]; exact q1)
      have q2' := q2.mono d2
      have hna : a ∉ bs := not_mem_of_deeper rd (by simp only [PyData.depth]; omega) q2'
      refine ⟨_, a :: bs, rd, ReadAtMost.cons rd (by simp only [PyData.depth]; omega) q2', ?_⟩
      simp only [PyData.depth, PyData.shown, PyData.shownKv_eq]
      rw [f1, f2, ek]
      exact ReprK.dict ho hc hdat hsys hna (ReprEntriesK.of_two es.toList _ _ (k2.more_le (fun b hb => absurd hb List.not_mem_nil) (Nat.le_refl _)) (q3.more_le (fun _ h => h) d2))
/-- the text of such data behind an address -/
theorem shown_ref (I : Inv X pins σ H s) {a : Addr} {d : PyData} (h : Dx X.K H (.ref a) d) (hs : d.showable = true) (hz : d.shown.length ≤ sizeLine) : ∃ T idr, ShowsBy X.prog X.w s.heap a d T idr := by
  have ih := shw I d.depth
  cases h with
  | @lst _ xs ds hq ha =>
    simp only [PyData.showable] at hs
    have hz2 : (listText (PyData.shownAll ds)).length ≤ sizeLine := by simpa only [PyData.shown] using hz
    obtain ⟨its, rv, ⟨o, m, ho, hc, _, hdat⟩, _⟩ := I.list hq
    obtain ⟨as, bs, q1, q2, q3⟩ := shw_all ih ds _ _ ha rv (by simp only [PyData.depth]; omega) hs fun t ht => Nat.le_trans (listText_mem_le ht) hz2
    have rd : Reads s.heap (.ref a) (.list ds) _ := .list ho hc hdat q1
    have hna : a ∉ bs := not_mem_of_deeper rd (by simp only [PyData.depth]; omega) q2
    refine ⟨"list", "list.__repr__", F.slot_list_repr.toG, F.slot_list_str, F.slot_list_format, fun s' hk => ⟨o, hk _ _ ho, hc⟩, fun A E s' Q hg hu hk hQ => ?_⟩
    simp only [PyData.depth] at hu
    simp only [PyData.shown] at hQ
    cases its with
    | nil =>
      cases q1
      simp only [PyData.shownAll, listText_nil] at hQ
      exact call_list_repr_empty ⟨o, hk _ _ ho, hc⟩ (hk _ _ ho) hdat (hQ s'.heap _ _ fun _ _ e => e)
    | cons x l => exact call_list_reprK ho hc hdat hna (by simpa using q3.length_eq) (fun i y e => q3.item i y (by simpa using e)) hg (fun b _ => Clear.nil b) hu hk hQ hz2
  | @tup _ xs ds hq ha =>
    simp only [PyData.showable] at hs
    have hz2 : (tupleText (PyData.shownAll ds)).length ≤ sizeLine := by simpa only [PyData.shown] using hz
    obtain ⟨its, rv, p, _⟩ := I.tuple hq
    obtain ⟨o, ho, hc, m, hdat⟩ := p
    obtain ⟨as, bs, q1, q2, q3⟩ := shw_all ih ds _ _ ha rv (by simp only [PyData.depth]; omega) hs fun t ht => Nat.le_trans (tupleText_mem_le ht) hz2
    have rd : Reads s.heap (.ref a) (.tuple ds) _ := .tuple ho hc hdat (by simpa using q1)
    have hna : a ∉ bs := not_mem_of_deeper rd (by simp only [PyData.depth]; omega) q2
    refine ⟨"tuple", "tuple.__repr__", F.slot_tuple_repr, F.slot_tuple_str, F.slot_tuple_format, fun s' hk => ⟨o, hk _ _ ho, hc⟩, fun A E s' Q hg hu hk hQ => ?_⟩
    simp only [PyData.depth] at hu
    simp only [PyData.shown] at hQ
    exact call_tuple_reprK ho hc hdat hna (by simpa using q3) hg (fun b _ => Clear.nil b) hu hk hQ hz2
  | @dct _ kvs ds hq ha =>
    obtain ⟨_, hsys, vs, kv, o, es, ep, ho, hx, hdat, _, pr, _⟩ := dk_of I.hok hq
    have hc : o.cls = .type "dict" := hx.1
    have le := ha.len
    rw [List.length_map] at le
    have f1 := zip_fst (xs := kvs.map fun p => keyD p.1) (ys := ds) (by rw [List.length_map, le])
    have f2 := zip_snd (xs := kvs.map fun p => keyD p.1) (ys := ds) (by rw [List.length_map, le])
    have ek : (kvs.map fun p => keyD p.1) = vs.map fun p => keyD p.1 := by
      have z := congrArg (List.map keyD) kv.keys
      rw [List.map_map, List.map_map] at z
      exact z
    generalize hkv : (kvs.map fun p => keyD p.1).zip ds = kd at *
    simp only [PyData.showable] at hs
    have hz2 : (dictText (PyData.shownKv kd)).length ≤ sizeLine := by simpa only [PyData.shown] using hz
    obtain ⟨hs1, hs2⟩ := PyData.showableKv_split kd hs
    have d1 := PyData.depthAll_keys_le kd
    have d2 := PyData.depthAll_vals_le kd
    rw [f1] at hs1 d1
    rw [f2] at hs2 d2
    obtain ⟨as1, k1, k2⟩ := keys_read (X := X) (s := s) (n := PyData.depthKv kd) pr (by rw [← ek]; exact hs1) (fun t ht => by
      obtain ⟨p, hp, hl⟩ := PyData.shownKv_key_le kd t (by rw [f1, ek]; exact ht)
      exact Nat.le_trans hl (Nat.le_trans (dictText_mem_le hp) hz2))
    obtain ⟨as2, bs, q1, q2, q3⟩ := shw_all ih ds _ _ ha (vals_pairs kv pr) (by simp only [PyData.depth]; omega) hs2 fun t ht => by
      obtain ⟨p, hp, hl⟩ := PyData.shownKv_val_le kd t (by rw [f2]; exact ht)
      exact Nat.le_trans hl (Nat.le_trans (dictText_mem_le hp) hz2)
    have rd : Reads s.heap (.ref a) (.dict kd) _ := .dict ho hc hdat (by rw [f1, ek]; exact k1) (by rw [f2]; exact q1)
    have hna : a ∉ bs := not_mem_of_deeper rd (by simp only [PyData.depth]; omega) (q2.mono d2)
    refine ⟨"dict", "dict.__repr__", F.slot_dict_repr, F.slot_dict_str, F.slot_dict_format, fun s' hk => ⟨o, hk _ _ ho, hc⟩, fun A E s' Q hg hu hk hQ => ?_⟩
    simp only [PyData.depth] at hu
    simp only [PyData.shown, PyData.shownKv_eq] at hQ
    rw [f1, f2, ek] at hQ
    have hz3 := hz2
    rw [PyData.shownKv_eq, f1, f2, ek] at hz3
    exact call_dict_reprK ho hc hdat hsys hna (ReprEntriesK.of_two es.toList _ _ (k2.more_le (fun b hb => absurd hb List.not_mem_nil) (Nat.le_refl _)) (q3.more_le (fun _ h => h) d2)) hg (fun b _ => Clear.nil b) hu hk hQ hz3
/-- repr(x), x any such data -/
def rReprX (K : PySem.W.Frag) : List V → Hp → VK → Prop := fun xs H Q => ∃ v d, xs = [v] ∧ Dx K H v d ∧ d.showable = true ∧ d.depth ≤ 60 ∧ d.shown.length ≤ sizeLine ∧ Q (.str d.shown) H
theorem call_reprX (G : Fre X.A) (hu : X.A.units + 64 < cLine) : CallR X (.builtin "repr") (rReprX X.K) := by
  intro pins s σ H xs us Q I r h
  obtain ⟨v, d, rfl, hd, h2, h4, h5, q⟩ := h
  cases r with
  | cons r rt =>
    cases rt
    cases v with
    | ref a =>
      cases r
      obtain ⟨T, idr, S⟩ := shown_ref I hd h2 h5
      refine call_repr_slot (by omega) (S.typeIs s fun _ _ e => e) S.slotRepr (S.call X.A.in1 _ s _ G (by show X.A.units + 1 + d.depth < cLine; omega) (fun _ _ e => e) fun h' u tk hk => ⟨_, _, rfl, ⟨.str d.shown, H, I.kept hk, ⟨u, rfl⟩, q⟩⟩)
    | int i =>
      obtain ⟨t, rfl⟩ := r
      cases hd
      exact PySem.P.repr_of_int (by simpa [PyData.showable] using h2) ⟨.str (toString i), H, I.tok _, ⟨_, rfl⟩, by simpa only [PyData.shown] using q⟩
    | str x =>
      obtain ⟨t, rfl⟩ := r
      cases hd
      exact PySem.P.repr_of_str ⟨.str (reprText x), H, I.tok _, ⟨_, rfl⟩, by simpa only [PyData.shown] using q⟩ (by simpa only [PyData.shown] using h5)
    | non =>
      cases r
      cases hd
      exact PySem.P.repr_of_none ⟨.str "None", H, I.tok _, ⟨_, rfl⟩, by simpa only [PyData.shown] using q⟩
    | bl b =>
      cases r
      cases hd
      exact PySem.P.repr_of_bool ⟨.str (if b then "True" else "False"), H, I.tok _, ⟨_, rfl⟩, by simpa only [PyData.shown] using q⟩
    | _ => cases hd
end
end GL
/-! own errors that keep two values: kind, value -/
namespace PySem
namespace GX
open PySem.W PySem.Calls PyProof.Rows PySem.HandSPX Builtin Builtin.ObjectAttr
section
variable {prog : Program} {w : World} {A : Around} {E : Value → Shared → Prop} {R : Result → Shared → Prop} {K : Frag} {C fI x t : Addr} {bmB : List Value} {B newId initId : String}
/-- one thing more that an error keeps: it has its dict -/
theorem keeps_next {hp : Heap} {g : Array GenState} {dr : Drawn} {tt : Nat} {os : OsState} {name : Str} {tk : Tok} {v : Value} {dx : Addr} {m0 : Str → Option Value} {nl : List Str} (SF : StoreFacts B bmB "object.__setattr__" "object") (X : K.In hp) (T : ErrT K C fI bmB newId) (ht : takerIn K C name = some none) (hx : hp.get? x = some (excObj C t (some dx) .none))
    (hns : hp.Ns1 dx m0) (hw : Within m0 nl) (hz : nl.length ≤ 1000)
    (hq : ∀ h' tk', (∀ b o, b ≠ dx → hp.get? b = some o → h'.get? b = some o) → h'.Ns1 dx (fun y => if y = name then some v else m0 y) → R (.ok (.ret .none)) ⟨h', g, dr, tk', os⟩) :
    codeAny (model prog w) A (.call (.builtin "object.__setattr__") ⟨[.ref x, .str name tk, v], []⟩) R ⟨hp, g, dr, tt, os⟩ := by
  obtain ⟨oD, esD, epD, hoD, hdD, _⟩ := hns.count hw
  refine osa_openX (s := ⟨hp, g, dr, tt, os⟩) (od := some oD) SF X ⟨hx, rfl, rfl, hoD⟩ T.ov ht fun b => ?_
  obtain ⟨cd, hc, hdct⟩ := any_some T.hd
  refine wpAny_bind (wpAny_pure (wpAny_bind (wpAny_bind (wpAny_loadPart hx (wpAny_bind ((looks_clsIn X hc).here ?_))))))
  rw [hdct]
  refine wpAny_pure (a := some dx) ?_
  exact OEX.store_in_old hns hw hz fun h' tk' hn' hs => hq h' tk' (fun b o hb ho => (hs.2 b hb).trans ho) hn'
theorem two_fits {v u : Value} : [v, u].length ≤ sizeLine := by
  rw [sizeLine_eq]
  exact (by decide : 2 ≤ 16777216)
end
end GX
end PySem
namespace GL
open PySem PySem.Spec PyProof.Rows L2
end GL
/-! a tuple of one member that has a text -/
namespace GL
open PySem PySem.Spec PyProof.Rows L2 Evl StX SkE
end GL
/-! own errors made as values, by place and by keywords -/
namespace PySem
namespace GX
open PySem.W PySem.Calls PyProof.Rows PySem.HandSPX Builtin Builtin.ObjectAttr
section
variable {M : Model} {A : Around} {E : Value → Shared → Prop} {h : Heap} {g : Array GenState} {d : Drawn} {t : Nat} {os : OsState}
variable {nm q : Str} {C N : Addr} {bs bm bmB : List Value} {hdct : Bool} {sn : List Str} {sub : List Value} {ab : Bool} {col : Option Bool} {dd : Option Addr} {k0 k1 k2 k3 k5 : Option Value} {B newId initId : String} {rest : List Value} {kw : List (Str × Value)}
theorem kw_check {Q : Unit → Shared → Prop} (FB : ExcBaseFacts B newId initId bmB) (hT : ∀ X : String, bm.contains (.type X) = bmB.contains (.type X))
    (zC : h.get? C = some (excClassObj nm q C N bs bm hdct sn sub ab col dd k0 k1 k2 k3 k5 newId)) (hq : Q () ⟨h, g, d, t, os⟩) : wpAny M A (checkBuiltinCall newId ⟨.ref C :: rest, kw⟩) Q E ⟨h, g, d, t, os⟩ := by
  have c1 : (Value.ref C :: bm).contains (.type B) = true := by rw [List.contains_cons, hT, FB.hasB, Bool.or_true]
  have c2 := FB.noStar
  simp only [checkBuiltinCall, FB.newKind, FB.newSplit, FB.newRow]
  repeat (first | refine wpAny_loadPart_at zC ?_ | (refine wpAny_isSubtype_exc zC ?_; rw [c1]) | refine wpAny_staticBase_exc zC ?_ | refine wpAny_madeBy_exc zC ?_ | simp only [bne_self_eq_false, Bool.false_eq_true, if_false] | wp_step)
  exact hq
end
section
variable {prog : Program} {w : World} {A : Around} {E : Value → Shared → Prop} {R : Result → Shared → Prop} {h : Heap} {g : Array GenState} {d : Drawn} {t : Nat} {os : OsState}
variable {nm q : Str} {C N : Addr} {bs bm bmB : List Value} {hdct : Bool} {sn : List Str} {sub : List Value} {ab : Bool} {col : Option Bool} {dd : Option Addr} {k0 k1 k2 k3 k5 : Option Value} {B newId initId : String} {rest : List Value} {kw : List (Str × Value)}
theorem kw_new (FB : ExcBaseFacts B newId initId bmB) (hT : ∀ X : String, bm.contains (.type X) = bmB.contains (.type X))
    (zC : h.get? C = some (excClassObj nm q C N bs bm hdct sn sub ab col dd k0 k1 k2 k3 k5 newId))
    (hq : R (.ok (.ret (.ref (h.objs.size + 1)))) ⟨(h.push (kdv_tup rest)).push (excO C h.objs.size), g, d, t, os⟩) (hr : rest.length ≤ sizeLine) :
    codeAny (model prog w) A (.builtin newId ⟨.ref C :: rest, kw⟩) R ⟨h, g, d, t, os⟩ := by
  have ends := FB.ends
  have c1 : (Value.ref C :: bm).contains (.type B) = true := by rw [List.contains_cons, hT, FB.hasB, Bool.or_true]
  have c2 : (Value.ref C :: bm).contains (.type "AttributeError") = false := by rw [List.contains_cons, hT, FB.noAttr] <;> rfl
  have c3 : (Value.ref C :: bm).contains (.type "NameError") = false := by rw [List.contains_cons, hT, FB.noName] <;> rfl
  refine codeAny_builtinAt FB.entry ?_
  unfold Builtin.«BaseException.__new__»
  refine wpAt_bind ?_
  show wpAt _ _ _ (stack >>= _) _ _ _
  refine wpAt_bind (wpAt_stack fun _ _ => wpAt_of_wpAny ?_)
  wp_walk
  refine wpAt_of_wpAny ?_
  rw [FB.owner]
  repeat (first | with_reducible refine wpAny_madeHere_exc FB.canon zC ?_ | with_reducible refine wpAny_loadPart_at zC ?_ | (with_reducible refine wpAny_isSubtype_exc zC ?_; first | rw [c1] | rw [c2] | rw [c3]) | wp_step)
  show R _ _
  rw [Heap.size_push]
  exact hq
theorem kw_type (FB : ExcBaseFacts B newId initId bmB) (hT : ∀ X : String, bm.contains (.type X) = bmB.contains (.type X)) {fI : Addr} {Q : Fin → Shared → Prop}
    (zC : h.get? C = some (excClassObj nm q C N bs bm hdct sn sub ab col dd k0 k1 k2 k3 k5 newId))
    (hi : Looks (model prog w) h (typeLookup (.ref C) "__init__") (some (.ref fI))) (hb : ∀ self, Looks (model prog w) h (bindSpecial (.ref fI) self) (.ref fI, [self])) (hr : rest.length ≤ sizeLine)
    (hq : codeAny (model prog w) A (.call (.ref fI) ⟨.ref (h.objs.size + 1) :: rest, kw⟩)
      (fun r s' => match r with | .ok (.ret v) => v = .none ∧ Q (.done (.ret (.ref (h.objs.size + 1)))) s' | .ok _ => False | .error e => E e s')
      ⟨(h.push (kdv_tup rest)).push (excO C h.objs.size), g, d, t, os⟩) :
    wpAny (model prog w) A (Builtin.«type.__call__» ⟨.ref C :: rest, kw⟩) Q E ⟨h, g, d, t, os⟩ := by
  repeat (first | with_reducible refine wpAny_loadPart_at zC ?_ | with_reducible refine wpAny_madeBy_exc zC ?_ | wp_step)
  refine codeAny_call_builtin_code (Code.quiet_builtin _ FB.quiet) (kw_check FB hT zC ?_)
  refine kw_new FB hT zC ?_ hr
  show wpAny _ _ _ _ _ _
  have kk : ∀ b o, h.get? b = some o → ((h.push (kdv_tup rest)).push (excO C h.objs.size)).get? b = some o := fun b o e => Heap.get?_push_of_some _ (Heap.get?_push_of_some _ e)
  have zC1 := kk _ _ zC
  have zx : ((h.push (kdv_tup rest)).push (excO C h.objs.size)).get? (h.objs.size + 1) = some (excO C h.objs.size) := by heap_get
  have c4 : (Value.ref C :: bm).contains (.ref C) = true := by simp
  have i1 := hi.keeps kk
  have b1 := (hb (.ref (h.objs.size + 1))).keeps kk
  unfold isInstance
  repeat (first | with_reducible refine wpAny_loadPart_at zx ?_ | (with_reducible refine wpAny_isSubtype_exc zC1 ?_; rw [c4]) | wp_step)
  show wpAny _ _ (typeLookup (.ref C) _) _ _ _
  refine i1.at (wpAny_holding (wpAny_bind (b1.at ?_)))
  refine wpAny_bind (wpAny_call (codeAny_mono hq fun r s' z => ?_))
  rcases r with e | (v | _ | _ | _) <;> first | exact z | exact z.elim | skip
  obtain ⟨rfl, z⟩ := z
  first
    | exact wpAny_pure (wpAny_pure z)
    | (wp_walk; exact z)
theorem kw_call (FB : ExcBaseFacts B newId initId bmB) (hT : ∀ X : String, bm.contains (.type X) = bmB.contains (.type X)) {fI : Addr}
    (zC : h.get? C = some (excClassObj nm q C N bs bm hdct sn sub ab col dd k0 k1 k2 k3 k5 newId))
    (hi : Looks (model prog w) h (typeLookup (.ref C) "__init__") (some (.ref fI))) (hb : ∀ self, Looks (model prog w) h (bindSpecial (.ref fI) self) (.ref fI, [self])) (hr : rest.length ≤ sizeLine)
    (hq : codeAny (model prog w) (A.under (.builtin "type.__call__" ⟨.ref C :: rest, kw⟩)) (.call (.ref fI) ⟨.ref (h.objs.size + 1) :: rest, kw⟩) (InitBack (h.objs.size + 1) R)
      ⟨(h.push (kdv_tup rest)).push (excO C h.objs.size), g, d, t, os⟩) :
    codeAny (model prog w) A (.call (.ref C) ⟨rest, kw⟩) R ⟨h, g, d, t, os⟩ := by
  have f1 := tc_lookup
  have f2 := tc_bind (.ref C)
  have ty : (⟨h, g, d, t, os⟩ : Shared).TypeIs (.ref C) "type" := ⟨_, zC, rfl⟩
  refine codeAny_of_tree ?_
  show wpAny _ _ (callAny (.ref C) _) _ _ _
  repeat (any_goals (first | assumption | with_reducible refine wpAny_loadPart_at zC ?_ | wp_step))
  refine ⟨rfl, ?_⟩
  refine codeAny_call_builtin_at (Code.quiet_builtin _ (by decide +kernel)) entry_typeCall (wpAny_check_type_call_sub zC (kw_type FB hT zC hi hb hr ?_))
  refine codeAny_mono hq fun r s' z => ?_
  rcases r with e | (v | _ | _ | _) <;> exact z
end
def invalueA (p1 p2 : Pos) : Arguments := { posonlyargs := [], args := [{ arg := "self", annotation := none, pos := p1 }, { arg := "value", annotation := none, pos := p2 }], vararg := none, kwonlyargs := [], kw_defaults := [], kwarg := none, defaults := [] }
def invalueB (q1 q2 q3 q4 : Pos) : List Stmt := [.Assign [.Attribute (.Name "self" q1) "value" q2] (.Name "value" q3) q4]
def invalueS : Scope := { kind := .function, names := [(PySem.Str.ofString "self", .local), (PySem.Str.ofString "value", .local)], isGenerator := false, isCoroutine := false, more := [] }
/-- it keeps one value, as value -/
structure Evvalue (K : Frag) (C fI : Addr) (bmB : List Value) (newId : String) : Prop extends ErrT K C fI bmB newId where
  tk : takerIn K C "value" = some none
  no : findIn K (.ref C) "value" = some none
  code : ∃ (oc : Value) (od : Option Addr) (doc pm : Value) (an : Option Addr) (cdv ct : Value) (osl : Array (Option Value)) (qual : Str) (p1 p2 q1 q2 q3 q4 : Pos),
    K.lookup fI = some ⟨oc, od, .func (fnOf "__init__" qual (invalueA p1 p2) (invalueB q1 q2 q3 q4) invalueS .none .none doc pm an cdv ct), osl⟩ ∧ codeIn K cdv qual = true
section
variable {prog : Program} {w : World} {A : Around} {E : Value → Shared → Prop} {R : Result → Shared → Prop} {K : Frag} {C fI x t : Addr} {bmB : List Value} {B newId initId : String} {v : Value}
theorem ivn_value {s : Shared} {args : Args} (ha : args = ⟨[.ref x, v], []⟩ ∨ args = ⟨[.ref x], [("value", v)]⟩) (SF : StoreFacts B bmB "object.__setattr__" "object") (T : Evvalue K C fI bmB newId) (X : K.In s.heap) (hlim : s.heap.NoLimit) (hx : s.heap.get? x = some (excObj C t none .none)) (hroom : A.depth < recursionLimit)
    (hq : ∀ h' tk dx, (∀ b o, b ≠ x → s.heap.get? b = some o → h'.get? b = some o) → s.heap.objs.size ≤ dx → dx ≠ x → h'.get? x = some (excObj C t (some dx) .none) → h'.Ns1 dx (fun y => if y = "value" then some v else none) → R (.ok (.ret .none)) { s with heap := h', toks := tk }) :
    codeAny (model prog w) A (.call (.ref fI) args) R s := by
  obtain ⟨oc, od, doc, pm, an, cdv, ct, osl, qual, p1, p2, q1, q2, q3, q4, ho, hcd⟩ := T.code
  refine Att.call_fn (binds := [("self", .ref x), ("value", v)]) X hlim ho hcd hroom (by rcases ha with rfl | rfl <;> exact .of_eq rfl) rfl (fun s₁ IC => ?_) rfl rfl rfl
  obtain ⟨h1, tk1, rfl⟩ := IC.toInCall.same
  have kk : ∀ b o, s.heap.get? b = some o → h1.get? b = some o := IC.toInCall.keep
  have hn := IC.toInCall.ns
  show wpAny _ _ (execs _ _) _ _ _
  refine wpAny_execs_cons (plainObj_wpAny_Assign_Attribute ?_)
  refine ld_par (v := v) hn rfl (ld_par (v := .ref x) hn rfl ?_ rfl rfl (by decide)) rfl rfl (by decide)
  refine set_plain (X.keeps kk) (ox := excObj C t none .none) (od := none) ⟨kk _ _ hx, rfl, rfl, trivial⟩ T.sa ?_
  refine keeps_first SF (X.keeps kk) T.toErrT T.tk (kk _ _ hx) fun h3 tk3 dx k3 dn dne hx3 hn3 => ?_
  show wpAny _ _ (execs _ _) _ _ _
  have z : s.heap.objs.size < h1.objs.size := hn.lt
  exact wpAny_execs_nil (hq h3 tk3 dx (fun b o hb e => k3 b o hb (kk b o e)) (Nat.le_of_lt (Nat.lt_of_lt_of_le z dn)) dne hx3 hn3)
theorem mvn_value {s : Shared} {args : Args} (ha : args = ⟨[v], []⟩ ∨ args = ⟨[], [("value", v)]⟩) (SF : StoreFacts B bmB "object.__setattr__" "object") (FB : ExcBaseFacts B newId initId bmB) (T : Evvalue K C fI bmB newId) (X : K.In s.heap) (hlim : s.heap.NoLimit) (hroom : A.depth + 1 < recursionLimit)
    (hq : ∀ h' tk e d, Kept s.heap h' e C (some d) → s.heap.objs.size ≤ d → d ≠ e → h'.Ns1 d (fun y => if y = "value" then some v else none) → R (.ok (.ret (.ref e))) { s with heap := h', toks := tk }) :
    codeAny (model prog w) A (.call (.ref C) args) R s := by
  obtain ⟨nm, N, qn, bs, bm, hdct, sn, sub, ab, col, dd, k0, k1, k2, k3, k5, hC, hT⟩ := excInit_of X T.ini
  obtain ⟨hp, g, dr, tk, os⟩ := s
  obtain ⟨ps, kws⟩ := args
  have kk : ∀ b o, hp.get? b = some o → ((hp.push (kdv_tup ps)).push (excO C hp.objs.size)).get? b = some o := fun b o e => Heap.get?_push_of_some _ (Heap.get?_push_of_some _ e)
  have hget : ((hp.push (kdv_tup ps)).push (excO C hp.objs.size)).get? (hp.objs.size + 1) = some (excO C hp.objs.size) := by heap_get
  refine kw_call FB hT hC (looks_findIn X T.iC) (fun self => bind_fn X self (beq_iff_eq.mp T.fn)) (by rcases ha with z | z <;> cases z <;> first | exact Nat.zero_le _ | exact one_fits | exact two_fits) ?_
  refine ivn_value (x := hp.objs.size + 1) (v := v) (s := ⟨(hp.push (kdv_tup ps)).push (excO C hp.objs.size), g, dr, tk, os⟩) (by rcases ha with z | z <;> cases z; exact .inl rfl; exact .inr rfl) SF T (X.keeps kk) (hlim.keeps kk) hget hroom fun h' tk' dx k' dn dne hx hns => ?_
  have old : ∀ b o, hp.get? b = some o → h'.get? b = some o := fun b o e => k' b o (Nat.ne_of_lt (Nat.lt_succ_of_lt (Heap.lt_size e))) (kk b o e)
  have z : hp.objs.size + 1 + 1 ≤ dx := by
    have q := dn
    rw [Heap.size_push, Heap.size_push] at q
    exact q
  exact ⟨rfl, hq h' tk' (hp.objs.size + 1) dx ⟨old, Nat.le_succ _, _, _, hx, rfl, rfl, rfl, rfl⟩ (Nat.le_trans (Nat.le_trans (Nat.le_succ _) (Nat.le_succ _)) z) dne hns⟩
end
def inpositionA (p1 p2 : Pos) : Arguments := { posonlyargs := [], args := [{ arg := "self", annotation := none, pos := p1 }, { arg := "position", annotation := none, pos := p2 }], vararg := none, kwonlyargs := [], kw_defaults := [], kwarg := none, defaults := [] }
def inpositionB (q1 q2 q3 q4 : Pos) : List Stmt := [.Assign [.Attribute (.Name "self" q1) "position" q2] (.Name "position" q3) q4]
def inpositionS : Scope := { kind := .function, names := [(PySem.Str.ofString "self", .local), (PySem.Str.ofString "position", .local)], isGenerator := false, isCoroutine := false, more := [] }
/-- it keeps one value, as position -/
structure Evposition (K : Frag) (C fI : Addr) (bmB : List Value) (newId : String) : Prop extends ErrT K C fI bmB newId where
  tk : takerIn K C "position" = some none
  no : findIn K (.ref C) "position" = some none
  code : ∃ (oc : Value) (od : Option Addr) (doc pm : Value) (an : Option Addr) (cdv ct : Value) (osl : Array (Option Value)) (qual : Str) (p1 p2 q1 q2 q3 q4 : Pos),
    K.lookup fI = some ⟨oc, od, .func (fnOf "__init__" qual (inpositionA p1 p2) (inpositionB q1 q2 q3 q4) inpositionS .none .none doc pm an cdv ct), osl⟩ ∧ codeIn K cdv qual = true
section
variable {prog : Program} {w : World} {A : Around} {E : Value → Shared → Prop} {R : Result → Shared → Prop} {K : Frag} {C fI x t : Addr} {bmB : List Value} {B newId initId : String} {v : Value}
theorem ivn_position {s : Shared} {args : Args} (ha : args = ⟨[.ref x, v], []⟩ ∨ args = ⟨[.ref x], [("position", v)]⟩) (SF : StoreFacts B bmB "object.__setattr__" "object") (T : Evposition K C fI bmB newId) (X : K.In s.heap) (hlim : s.heap.NoLimit) (hx : s.heap.get? x = some (excObj C t none .none)) (hroom : A.depth < recursionLimit)
    (hq : ∀ h' tk dx, (∀ b o, b ≠ x → s.heap.get? b = some o → h'.get? b = some o) → s.heap.objs.size ≤ dx → dx ≠ x → h'.get? x = some (excObj C t (some dx) .none) → h'.Ns1 dx (fun y => if y = "position" then some v else none) → R (.ok (.ret .none)) { s with heap := h', toks := tk }) :
    codeAny (model prog w) A (.call (.ref fI) args) R s := by
  obtain ⟨oc, od, doc, pm, an, cdv, ct, osl, qual, p1, p2, q1, q2, q3, q4, ho, hcd⟩ := T.code
  refine Att.call_fn (binds := [("self", .ref x), ("position", v)]) X hlim ho hcd hroom (by rcases ha with rfl | rfl <;> exact .of_eq rfl) rfl (fun s₁ IC => ?_) rfl rfl rfl
  obtain ⟨h1, tk1, rfl⟩ := IC.toInCall.same
  have kk : ∀ b o, s.heap.get? b = some o → h1.get? b = some o := IC.toInCall.keep
  have hn := IC.toInCall.ns
  show wpAny _ _ (execs _ _) _ _ _
  refine wpAny_execs_cons (plainObj_wpAny_Assign_Attribute ?_)
  refine ld_par (v := v) hn rfl (ld_par (v := .ref x) hn rfl ?_ rfl rfl (by decide)) rfl rfl (by decide)
  refine set_plain (X.keeps kk) (ox := excObj C t none .none) (od := none) ⟨kk _ _ hx, rfl, rfl, trivial⟩ T.sa ?_
  refine keeps_first SF (X.keeps kk) T.toErrT T.tk (kk _ _ hx) fun h3 tk3 dx k3 dn dne hx3 hn3 => ?_
  show wpAny _ _ (execs _ _) _ _ _
  have z : s.heap.objs.size < h1.objs.size := hn.lt
  exact wpAny_execs_nil (hq h3 tk3 dx (fun b o hb e => k3 b o hb (kk b o e)) (Nat.le_of_lt (Nat.lt_of_lt_of_le z dn)) dne hx3 hn3)
theorem mvn_position {s : Shared} {args : Args} (ha : args = ⟨[v], []⟩ ∨ args = ⟨[], [("position", v)]⟩) (SF : StoreFacts B bmB "object.__setattr__" "object") (FB : ExcBaseFacts B newId initId bmB) (T : Evposition K C fI bmB newId) (X : K.In s.heap) (hlim : s.heap.NoLimit) (hroom : A.depth + 1 < recursionLimit)
    (hq : ∀ h' tk e d, Kept s.heap h' e C (some d) → s.heap.objs.size ≤ d → d ≠ e → h'.Ns1 d (fun y => if y = "position" then some v else none) → R (.ok (.ret (.ref e))) { s with heap := h', toks := tk }) :
    codeAny (model prog w) A (.call (.ref C) args) R s := by
  obtain ⟨nm, N, qn, bs, bm, hdct, sn, sub, ab, col, dd, k0, k1, k2, k3, k5, hC, hT⟩ := excInit_of X T.ini
  obtain ⟨hp, g, dr, tk, os⟩ := s
  obtain ⟨ps, kws⟩ := args
  have kk : ∀ b o, hp.get? b = some o → ((hp.push (kdv_tup ps)).push (excO C hp.objs.size)).get? b = some o := fun b o e => Heap.get?_push_of_some _ (Heap.get?_push_of_some _ e)
  have hget : ((hp.push (kdv_tup ps)).push (excO C hp.objs.size)).get? (hp.objs.size + 1) = some (excO C hp.objs.size) := by heap_get
  refine kw_call FB hT hC (looks_findIn X T.iC) (fun self => bind_fn X self (beq_iff_eq.mp T.fn)) (by rcases ha with z | z <;> cases z <;> first | exact Nat.zero_le _ | exact one_fits | exact two_fits) ?_
  refine ivn_position (x := hp.objs.size + 1) (v := v) (s := ⟨(hp.push (kdv_tup ps)).push (excO C hp.objs.size), g, dr, tk, os⟩) (by rcases ha with z | z <;> cases z; exact .inl rfl; exact .inr rfl) SF T (X.keeps kk) (hlim.keeps kk) hget hroom fun h' tk' dx k' dn dne hx hns => ?_
  have old : ∀ b o, hp.get? b = some o → h'.get? b = some o := fun b o e => k' b o (Nat.ne_of_lt (Nat.lt_succ_of_lt (Heap.lt_size e))) (kk b o e)
  have z : hp.objs.size + 1 + 1 ≤ dx := by
    have q := dn
    rw [Heap.size_push, Heap.size_push] at q
    exact q
  exact ⟨rfl, hq h' tk' (hp.objs.size + 1) dx ⟨old, Nat.le_succ _, _, _, hx, rfl, rfl, rfl, rfl⟩ (Nat.le_trans (Nat.le_trans (Nat.le_succ _) (Nat.le_succ _)) z) dne hns⟩
end
def inlineA (p1 p2 : Pos) : Arguments := { posonlyargs := [], args := [{ arg := "self", annotation := none, pos := p1 }, { arg := "line", annotation := none, pos := p2 }], vararg := none, kwonlyargs := [], kw_defaults := [], kwarg := none, defaults := [] }
def inlineB (q1 q2 q3 q4 : Pos) : List Stmt := [.Assign [.Attribute (.Name "self" q1) "line" q2] (.Name "line" q3) q4]
def inlineS : Scope := { kind := .function, names := [(PySem.Str.ofString "self", .local), (PySem.Str.ofString "line", .local)], isGenerator := false, isCoroutine := false, more := [] }
/-- it keeps one value, as line -/
structure Evline (K : Frag) (C fI : Addr) (bmB : List Value) (newId : String) : Prop extends ErrT K C fI bmB newId where
  tk : takerIn K C "line" = some none
  no : findIn K (.ref C) "line" = some none
  code : ∃ (oc : Value) (od : Option Addr) (doc pm : Value) (an : Option Addr) (cdv ct : Value) (osl : Array (Option Value)) (qual : Str) (p1 p2 q1 q2 q3 q4 : Pos),
    K.lookup fI = some ⟨oc, od, .func (fnOf "__init__" qual (inlineA p1 p2) (inlineB q1 q2 q3 q4) inlineS .none .none doc pm an cdv ct), osl⟩ ∧ codeIn K cdv qual = true
section
variable {prog : Program} {w : World} {A : Around} {E : Value → Shared → Prop} {R : Result → Shared → Prop} {K : Frag} {C fI x t : Addr} {bmB : List Value} {B newId initId : String} {v : Value}
theorem ivn_line {s : Shared} {args : Args} (ha : args = ⟨[.ref x, v], []⟩ ∨ args = ⟨[.ref x], [("line", v)]⟩) (SF : StoreFacts B bmB "object.__setattr__" "object") (T : Evline K C fI bmB newId) (X : K.In s.heap) (hlim : s.heap.NoLimit) (hx : s.heap.get? x = some (excObj C t none .none)) (hroom : A.depth < recursionLimit)
    (hq : ∀ h' tk dx, (∀ b o, b ≠ x → s.heap.get? b = some o → h'.get? b = some o) → s.heap.objs.size ≤ dx → dx ≠ x → h'.get? x = some (excObj C t (some dx) .none) → h'.Ns1 dx (fun y => if y = "line" then some v else none) → R (.ok (.ret .none)) { s with heap := h', toks := tk }) :
    codeAny (model prog w) A (.call (.ref fI) args) R s := by
  obtain ⟨oc, od, doc, pm, an, cdv, ct, osl, qual, p1, p2, q1, q2, q3, q4, ho, hcd⟩ := T.code
  refine Att.call_fn (binds := [("self", .ref x), ("line", v)]) X hlim ho hcd hroom (by rcases ha with rfl | rfl <;> exact .of_eq rfl) rfl (fun s₁ IC => ?_) rfl rfl rfl
  obtain ⟨h1, tk1, rfl⟩ := IC.toInCall.same
  have kk : ∀ b o, s.heap.get? b = some o → h1.get? b = some o := IC.toInCall.keep
  have hn := IC.toInCall.ns
  show wpAny _ _ (execs _ _) _ _ _
  refine wpAny_execs_cons (plainObj_wpAny_Assign_Attribute ?_)
  refine ld_par (v := v) hn rfl (ld_par (v := .ref x) hn rfl ?_ rfl rfl (by decide)) rfl rfl (by decide)
  refine set_plain (X.keeps kk) (ox := excObj C t none .none) (od := none) ⟨kk _ _ hx, rfl, rfl, trivial⟩ T.sa ?_
  refine keeps_first SF (X.keeps kk) T.toErrT T.tk (kk _ _ hx) fun h3 tk3 dx k3 dn dne hx3 hn3 => ?_
  show wpAny _ _ (execs _ _) _ _ _
  have z : s.heap.objs.size < h1.objs.size := hn.lt
  exact wpAny_execs_nil (hq h3 tk3 dx (fun b o hb e => k3 b o hb (kk b o e)) (Nat.le_of_lt (Nat.lt_of_lt_of_le z dn)) dne hx3 hn3)
theorem mvn_line {s : Shared} {args : Args} (ha : args = ⟨[v], []⟩ ∨ args = ⟨[], [("line", v)]⟩) (SF : StoreFacts B bmB "object.__setattr__" "object") (FB : ExcBaseFacts B newId initId bmB) (T : Evline K C fI bmB newId) (X : K.In s.heap) (hlim : s.heap.NoLimit) (hroom : A.depth + 1 < recursionLimit)
    (hq : ∀ h' tk e d, Kept s.heap h' e C (some d) → s.heap.objs.size ≤ d → d ≠ e → h'.Ns1 d (fun y => if y = "line" then some v else none) → R (.ok (.ret (.ref e))) { s with heap := h', toks := tk }) :
    codeAny (model prog w) A (.call (.ref C) args) R s := by
  obtain ⟨nm, N, qn, bs, bm, hdct, sn, sub, ab, col, dd, k0, k1, k2, k3, k5, hC, hT⟩ := excInit_of X T.ini
  obtain ⟨hp, g, dr, tk, os⟩ := s
  obtain ⟨ps, kws⟩ := args
  have kk : ∀ b o, hp.get? b = some o → ((hp.push (kdv_tup ps)).push (excO C hp.objs.size)).get? b = some o := fun b o e => Heap.get?_push_of_some _ (Heap.get?_push_of_some _ e)
  have hget : ((hp.push (kdv_tup ps)).push (excO C hp.objs.size)).get? (hp.objs.size + 1) = some (excO C hp.objs.size) := by heap_get
  refine kw_call FB hT hC (looks_findIn X T.iC) (fun self => bind_fn X self (beq_iff_eq.mp T.fn)) (by rcases ha with z | z <;> cases z <;> first | exact Nat.zero_le _ | exact one_fits | exact two_fits) ?_
  refine ivn_line (x := hp.objs.size + 1) (v := v) (s := ⟨(hp.push (kdv_tup ps)).push (excO C hp.objs.size), g, dr, tk, os⟩) (by rcases ha with z | z <;> cases z; exact .inl rfl; exact .inr rfl) SF T (X.keeps kk) (hlim.keeps kk) hget hroom fun h' tk' dx k' dn dne hx hns => ?_
  have old : ∀ b o, hp.get? b = some o → h'.get? b = some o := fun b o e => k' b o (Nat.ne_of_lt (Nat.lt_succ_of_lt (Heap.lt_size e))) (kk b o e)
  have z : hp.objs.size + 1 + 1 ≤ dx := by
    have q := dn
    rw [Heap.size_push, Heap.size_push] at q
    exact q
  exact ⟨rfl, hq h' tk' (hp.objs.size + 1) dx ⟨old, Nat.le_succ _, _, _, hx, rfl, rfl, rfl, rfl⟩ (Nat.le_trans (Nat.le_trans (Nat.le_succ _) (Nat.le_succ _)) z) dne hns⟩
end
def ingroupA (p1 p2 : Pos) : Arguments := { posonlyargs := [], args := [{ arg := "self", annotation := none, pos := p1 }, { arg := "group", annotation := none, pos := p2 }], vararg := none, kwonlyargs := [], kw_defaults := [], kwarg := none, defaults := [] }
def ingroupB (q1 q2 q3 q4 : Pos) : List Stmt := [.Assign [.Attribute (.Name "self" q1) "group" q2] (.Name "group" q3) q4]
def ingroupS : Scope := { kind := .function, names := [(PySem.Str.ofString "self", .local), (PySem.Str.ofString "group", .local)], isGenerator := false, isCoroutine := false, more := [] }
/-- it keeps one value, as group -/
structure Evgroup (K : Frag) (C fI : Addr) (bmB : List Value) (newId : String) : Prop extends ErrT K C fI bmB newId where
  tk : takerIn K C "group" = some none
  no : findIn K (.ref C) "group" = some none
  code : ∃ (oc : Value) (od : Option Addr) (doc pm : Value) (an : Option Addr) (cdv ct : Value) (osl : Array (Option Value)) (qual : Str) (p1 p2 q1 q2 q3 q4 : Pos),
    K.lookup fI = some ⟨oc, od, .func (fnOf "__init__" qual (ingroupA p1 p2) (ingroupB q1 q2 q3 q4) ingroupS .none .none doc pm an cdv ct), osl⟩ ∧ codeIn K cdv qual = true
section
variable {prog : Program} {w : World} {A : Around} {E : Value → Shared → Prop} {R : Result → Shared → Prop} {K : Frag} {C fI x t : Addr} {bmB : List Value} {B newId initId : String} {v : Value}
theorem ivn_group {s : Shared} {args : Args} (ha : args = ⟨[.ref x, v], []⟩ ∨ args = ⟨[.ref x], [("group", v)]⟩) (SF : StoreFacts B bmB "object.__setattr__" "object") (T : Evgroup K C fI bmB newId) (X : K.In s.heap) (hlim : s.heap.NoLimit) (hx : s.heap.get? x = some (excObj C t none .none)) (hroom : A.depth < recursionLimit)
    (hq : ∀ h' tk dx, (∀ b o, b ≠ x → s.heap.get? b = some o → h'.get? b = some o) → s.heap.objs.size ≤ dx → dx ≠ x → h'.get? x = some (excObj C t (some dx) .none) → h'.Ns1 dx (fun y => if y = "group" then some v else none) → R (.ok (.ret .none)) { s with heap := h', toks := tk }) :
    codeAny (model prog w) A (.call (.ref fI) args) R s := by
  obtain ⟨oc, od, doc, pm, an, cdv, ct, osl, qual, p1, p2, q1, q2, q3, q4, ho, hcd⟩ := T.code
  refine Att.call_fn (binds := [("self", .ref x), ("group", v)]) X hlim ho hcd hroom (by rcases ha with rfl | rfl <;> exact .of_eq rfl) rfl (fun s₁ IC => ?_) rfl rfl rfl
  obtain ⟨h1, tk1, rfl⟩ := IC.toInCall.same
  have kk : ∀ b o, s.heap.get? b = some o → h1.get? b = some o := IC.toInCall.keep
  have hn := IC.toInCall.ns
  show wpAny _ _ (execs _ _) _ _ _
  refine wpAny_execs_cons (plainObj_wpAny_Assign_Attribute ?_)
  refine ld_par (v := v) hn rfl (ld_par (v := .ref x) hn rfl ?_ rfl rfl (by decide)) rfl rfl (by decide)
  refine set_plain (X.keeps kk) (ox := excObj C t none .none) (od := none) ⟨kk _ _ hx, rfl, rfl, trivial⟩ T.sa ?_
  refine keeps_first SF (X.keeps kk) T.toErrT T.tk (kk _ _ hx) fun h3 tk3 dx k3 dn dne hx3 hn3 => ?_
  show wpAny _ _ (execs _ _) _ _ _
  have z : s.heap.objs.size < h1.objs.size := hn.lt
  exact wpAny_execs_nil (hq h3 tk3 dx (fun b o hb e => k3 b o hb (kk b o e)) (Nat.le_of_lt (Nat.lt_of_lt_of_le z dn)) dne hx3 hn3)
theorem mvn_group {s : Shared} {args : Args} (ha : args = ⟨[v], []⟩ ∨ args = ⟨[], [("group", v)]⟩) (SF : StoreFacts B bmB "object.__setattr__" "object") (FB : ExcBaseFacts B newId initId bmB) (T : Evgroup K C fI bmB newId) (X : K.In s.heap) (hlim : s.heap.NoLimit) (hroom : A.depth + 1 < recursionLimit)
    (hq : ∀ h' tk e d, Kept s.heap h' e C (some d) → s.heap.objs.size ≤ d → d ≠ e → h'.Ns1 d (fun y => if y = "group" then some v else none) → R (.ok (.ret (.ref e))) { s with heap := h', toks := tk }) :
    codeAny (model prog w) A (.call (.ref C) args) R s := by
  obtain ⟨nm, N, qn, bs, bm, hdct, sn, sub, ab, col, dd, k0, k1, k2, k3, k5, hC, hT⟩ := excInit_of X T.ini
  obtain ⟨hp, g, dr, tk, os⟩ := s
  obtain ⟨ps, kws⟩ := args
  have kk : ∀ b o, hp.get? b = some o → ((hp.push (kdv_tup ps)).push (excO C hp.objs.size)).get? b = some o := fun b o e => Heap.get?_push_of_some _ (Heap.get?_push_of_some _ e)
  have hget : ((hp.push (kdv_tup ps)).push (excO C hp.objs.size)).get? (hp.objs.size + 1) = some (excO C hp.objs.size) := by heap_get
  refine kw_call FB hT hC (looks_findIn X T.iC) (fun self => bind_fn X self (beq_iff_eq.mp T.fn)) (by rcases ha with z | z <;> cases z <;> first | exact Nat.zero_le _ | exact one_fits | exact two_fits) ?_
  refine ivn_group (x := hp.objs.size + 1) (v := v) (s := ⟨(hp.push (kdv_tup ps)).push (excO C hp.objs.size), g, dr, tk, os⟩) (by rcases ha with z | z <;> cases z; exact .inl rfl; exact .inr rfl) SF T (X.keeps kk) (hlim.keeps kk) hget hroom fun h' tk' dx k' dn dne hx hns => ?_
  have old : ∀ b o, hp.get? b = some o → h'.get? b = some o := fun b o e => k' b o (Nat.ne_of_lt (Nat.lt_succ_of_lt (Heap.lt_size e))) (kk b o e)
  have z : hp.objs.size + 1 + 1 ≤ dx := by
    have q := dn
    rw [Heap.size_push, Heap.size_push] at q
    exact q
  exact ⟨rfl, hq h' tk' (hp.objs.size + 1) dx ⟨old, Nat.le_succ _, _, _, hx, rfl, rfl, rfl, rfl⟩ (Nat.le_trans (Nat.le_trans (Nat.le_succ _) (Nat.le_succ _)) z) dne hns⟩
end
def inhandA (p1 p2 : Pos) : Arguments := { posonlyargs := [], args := [{ arg := "self", annotation := none, pos := p1 }, { arg := "hand", annotation := none, pos := p2 }], vararg := none, kwonlyargs := [], kw_defaults := [], kwarg := none, defaults := [] }
def inhandB (q1 q2 q3 q4 : Pos) : List Stmt := [.Assign [.Attribute (.Name "self" q1) "hand" q2] (.Name "hand" q3) q4]
def inhandS : Scope := { kind := .function, names := [(PySem.Str.ofString "self", .local), (PySem.Str.ofString "hand", .local)], isGenerator := false, isCoroutine := false, more := [] }
/-- it keeps one value, as hand -/
structure Evhand (K : Frag) (C fI : Addr) (bmB : List Value) (newId : String) : Prop extends ErrT K C fI bmB newId where
  tk : takerIn K C "hand" = some none
  no : findIn K (.ref C) "hand" = some none
  code : ∃ (oc : Value) (od : Option Addr) (doc pm : Value) (an : Option Addr) (cdv ct : Value) (osl : Array (Option Value)) (qual : Str) (p1 p2 q1 q2 q3 q4 : Pos),
    K.lookup fI = some ⟨oc, od, .func (fnOf "__init__" qual (inhandA p1 p2) (inhandB q1 q2 q3 q4) inhandS .none .none doc pm an cdv ct), osl⟩ ∧ codeIn K cdv qual = true
section
variable {prog : Program} {w : World} {A : Around} {E : Value → Shared → Prop} {R : Result → Shared → Prop} {K : Frag} {C fI x t : Addr} {bmB : List Value} {B newId initId : String} {v : Value}
theorem ivn_hand {s : Shared} {args : Args} (ha : args = ⟨[.ref x, v], []⟩ ∨ args = ⟨[.ref x], [("hand", v)]⟩) (SF : StoreFacts B bmB "object.__setattr__" "object") (T : Evhand K C fI bmB newId) (X : K.In s.heap) (hlim : s.heap.NoLimit) (hx : s.heap.get? x = some (excObj C t none .none)) (hroom : A.depth < recursionLimit)
    (hq : ∀ h' tk dx, (∀ b o, b ≠ x → s.heap.get? b = some o → h'.get? b = some o) → s.heap.objs.size ≤ dx → dx ≠ x → h'.get? x = some (excObj C t (some dx) .none) → h'.Ns1 dx (fun y => if y = "hand" then some v else none) → R (.ok (.ret .none)) { s with heap := h', toks := tk }) :
    codeAny (model prog w) A (.call (.ref fI) args) R s := by
  obtain ⟨oc, od, doc, pm, an, cdv, ct, osl, qual, p1, p2, q1, q2, q3, q4, ho, hcd⟩ := T.code
  refine Att.call_fn (binds := [("self", .ref x), ("hand", v)]) X hlim ho hcd hroom (by rcases ha with rfl | rfl <;> exact .of_eq rfl) rfl (fun s₁ IC => ?_) rfl rfl rfl
  obtain ⟨h1, tk1, rfl⟩ := IC.toInCall.same
  have kk : ∀ b o, s.heap.get? b = some o → h1.get? b = some o := IC.toInCall.keep
  have hn := IC.toInCall.ns
  show wpAny _ _ (execs _ _) _ _ _
  refine wpAny_execs_cons (plainObj_wpAny_Assign_Attribute ?_)
  refine ld_par (v := v) hn rfl (ld_par (v := .ref x) hn rfl ?_ rfl rfl (by decide)) rfl rfl (by decide)
  refine set_plain (X.keeps kk) (ox := excObj C t none .none) (od := none) ⟨kk _ _ hx, rfl, rfl, trivial⟩ T.sa ?_
  refine keeps_first SF (X.keeps kk) T.toErrT T.tk (kk _ _ hx) fun h3 tk3 dx k3 dn dne hx3 hn3 => ?_
  show wpAny _ _ (execs _ _) _ _ _
  have z : s.heap.objs.size < h1.objs.size := hn.lt
  exact wpAny_execs_nil (hq h3 tk3 dx (fun b o hb e => k3 b o hb (kk b o e)) (Nat.le_of_lt (Nat.lt_of_lt_of_le z dn)) dne hx3 hn3)
theorem mvn_hand {s : Shared} {args : Args} (ha : args = ⟨[v], []⟩ ∨ args = ⟨[], [("hand", v)]⟩) (SF : StoreFacts B bmB "object.__setattr__" "object") (FB : ExcBaseFacts B newId initId bmB) (T : Evhand K C fI bmB newId) (X : K.In s.heap) (hlim : s.heap.NoLimit) (hroom : A.depth + 1 < recursionLimit)
    (hq : ∀ h' tk e d, Kept s.heap h' e C (some d) → s.heap.objs.size ≤ d → d ≠ e → h'.Ns1 d (fun y => if y = "hand" then some v else none) → R (.ok (.ret (.ref e))) { s with heap := h', toks := tk }) :
    codeAny (model prog w) A (.call (.ref C) args) R s := by
  obtain ⟨nm, N, qn, bs, bm, hdct, sn, sub, ab, col, dd, k0, k1, k2, k3, k5, hC, hT⟩ := excInit_of X T.ini
  obtain ⟨hp, g, dr, tk, os⟩ := s
  obtain ⟨ps, kws⟩ := args
  have kk : ∀ b o, hp.get? b = some o → ((hp.push (kdv_tup ps)).push (excO C hp.objs.size)).get? b = some o := fun b o e => Heap.get?_push_of_some _ (Heap.get?_push_of_some _ e)
  have hget : ((hp.push (kdv_tup ps)).push (excO C hp.objs.size)).get? (hp.objs.size + 1) = some (excO C hp.objs.size) := by heap_get
  refine kw_call FB hT hC (looks_findIn X T.iC) (fun self => bind_fn X self (beq_iff_eq.mp T.fn)) (by rcases ha with z | z <;> cases z <;> first | exact Nat.zero_le _ | exact one_fits | exact two_fits) ?_
  refine ivn_hand (x := hp.objs.size + 1) (v := v) (s := ⟨(hp.push (kdv_tup ps)).push (excO C hp.objs.size), g, dr, tk, os⟩) (by rcases ha with z | z <;> cases z; exact .inl rfl; exact .inr rfl) SF T (X.keeps kk) (hlim.keeps kk) hget hroom fun h' tk' dx k' dn dne hx hns => ?_
  have old : ∀ b o, hp.get? b = some o → h'.get? b = some o := fun b o e => k' b o (Nat.ne_of_lt (Nat.lt_succ_of_lt (Heap.lt_size e))) (kk b o e)
  have z : hp.objs.size + 1 + 1 ≤ dx := by
    have q := dn
    rw [Heap.size_push, Heap.size_push] at q
    exact q
  exact ⟨rfl, hq h' tk' (hp.objs.size + 1) dx ⟨old, Nat.le_succ _, _, _, hx, rfl, rfl, rfl, rfl⟩ (Nat.le_trans (Nat.le_trans (Nat.le_succ _) (Nat.le_succ _)) z) dne hns⟩
end
def inthingA (p1 p2 : Pos) : Arguments := { posonlyargs := [], args := [{ arg := "self", annotation := none, pos := p1 }, { arg := "thing", annotation := none, pos := p2 }], vararg := none, kwonlyargs := [], kw_defaults := [], kwarg := none, defaults := [] }
def inthingB (q1 q2 q3 q4 : Pos) : List Stmt := [.Assign [.Attribute (.Name "self" q1) "thing" q2] (.Name "thing" q3) q4]
def inthingS : Scope := { kind := .function, names := [(PySem.Str.ofString "self", .local), (PySem.Str.ofString "thing", .local)], isGenerator := false, isCoroutine := false, more := [] }
/-- it keeps one value, as thing -/
structure Evthing (K : Frag) (C fI : Addr) (bmB : List Value) (newId : String) : Prop extends ErrT K C fI bmB newId where
  tk : takerIn K C "thing" = some none
  no : findIn K (.ref C) "thing" = some none
  code : ∃ (oc : Value) (od : Option Addr) (doc pm : Value) (an : Option Addr) (cdv ct : Value) (osl : Array (Option Value)) (qual : Str) (p1 p2 q1 q2 q3 q4 : Pos),
    K.lookup fI = some ⟨oc, od, .func (fnOf "__init__" qual (inthingA p1 p2) (inthingB q1 q2 q3 q4) inthingS .none .none doc pm an cdv ct), osl⟩ ∧ codeIn K cdv qual = true
section
variable {prog : Program} {w : World} {A : Around} {E : Value → Shared → Prop} {R : Result → Shared → Prop} {K : Frag} {C fI x t : Addr} {bmB : List Value} {B newId initId : String} {v : Value}
theorem ivn_thing {s : Shared} {args : Args} (ha : args = ⟨[.ref x, v], []⟩ ∨ args = ⟨[.ref x], [("thing", v)]⟩) (SF : StoreFacts B bmB "object.__setattr__" "object") (T : Evthing K C fI bmB newId) (X : K.In s.heap) (hlim : s.heap.NoLimit) (hx : s.heap.get? x = some (excObj C t none .none)) (hroom : A.depth < recursionLimit)
    (hq : ∀ h' tk dx, (∀ b o, b ≠ x → s.heap.get? b = some o → h'.get? b = some o) → s.heap.objs.size ≤ dx → dx ≠ x → h'.get? x = some (excObj C t (some dx) .none) → h'.Ns1 dx (fun y => if y = "thing" then some v else none) → R (.ok (.ret .none)) { s with heap := h', toks := tk }) :
    codeAny (model prog w) A (.call (.ref fI) args) R s := by
  obtain ⟨oc, od, doc, pm, an, cdv, ct, osl, qual, p1, p2, q1, q2, q3, q4, ho, hcd⟩ := T.code
  refine Att.call_fn (binds := [("self", .ref x), ("thing", v)]) X hlim ho hcd hroom (by rcases ha with rfl | rfl <;> exact .of_eq rfl) rfl (fun s₁ IC => ?_) rfl rfl rfl
  obtain ⟨h1, tk1, rfl⟩ := IC.toInCall.same
  have kk : ∀ b o, s.heap.get? b = some o → h1.get? b = some o := IC.toInCall.keep
  have hn := IC.toInCall.ns
  show wpAny _ _ (execs _ _) _ _ _
  refine wpAny_execs_cons (plainObj_wpAny_Assign_Attribute ?_)
  refine ld_par (v := v) hn rfl (ld_par (v := .ref x) hn rfl ?_ rfl rfl (by decide)) rfl rfl (by decide)
  refine set_plain (X.keeps kk) (ox := excObj C t none .none) (od := none) ⟨kk _ _ hx, rfl, rfl, trivial⟩ T.sa ?_
  refine keeps_first SF (X.keeps kk) T.toErrT T.tk (kk _ _ hx) fun h3 tk3 dx k3 dn dne hx3 hn3 => ?_
  show wpAny _ _ (execs _ _) _ _ _
  have z : s.heap.objs.size < h1.objs.size := hn.lt
  exact wpAny_execs_nil (hq h3 tk3 dx (fun b o hb e => k3 b o hb (kk b o e)) (Nat.le_of_lt (Nat.lt_of_lt_of_le z dn)) dne hx3 hn3)
theorem mvn_thing {s : Shared} {args : Args} (ha : args = ⟨[v], []⟩ ∨ args = ⟨[], [("thing", v)]⟩) (SF : StoreFacts B bmB "object.__setattr__" "object") (FB : ExcBaseFacts B newId initId bmB) (T : Evthing K C fI bmB newId) (X : K.In s.heap) (hlim : s.heap.NoLimit) (hroom : A.depth + 1 < recursionLimit)
    (hq : ∀ h' tk e d, Kept s.heap h' e C (some d) → s.heap.objs.size ≤ d → d ≠ e → h'.Ns1 d (fun y => if y = "thing" then some v else none) → R (.ok (.ret (.ref e))) { s with heap := h', toks := tk }) :
    codeAny (model prog w) A (.call (.ref C) args) R s := by
  obtain ⟨nm, N, qn, bs, bm, hdct, sn, sub, ab, col, dd, k0, k1, k2, k3, k5, hC, hT⟩ := excInit_of X T.ini
  obtain ⟨hp, g, dr, tk, os⟩ := s
  obtain ⟨ps, kws⟩ := args
  have kk : ∀ b o, hp.get? b = some o → ((hp.push (kdv_tup ps)).push (excO C hp.objs.size)).get? b = some o := fun b o e => Heap.get?_push_of_some _ (Heap.get?_push_of_some _ e)
  have hget : ((hp.push (kdv_tup ps)).push (excO C hp.objs.size)).get? (hp.objs.size + 1) = some (excO C hp.objs.size) := by heap_get
  refine kw_call FB hT hC (looks_findIn X T.iC) (fun self => bind_fn X self (beq_iff_eq.mp T.fn)) (by rcases ha with z | z <;> cases z <;> first | exact Nat.zero_le _ | exact one_fits | exact two_fits) ?_
  refine ivn_thing (x := hp.objs.size + 1) (v := v) (s := ⟨(hp.push (kdv_tup ps)).push (excO C hp.objs.size), g, dr, tk, os⟩) (by rcases ha with z | z <;> cases z; exact .inl rfl; exact .inr rfl) SF T (X.keeps kk) (hlim.keeps kk) hget hroom fun h' tk' dx k' dn dne hx hns => ?_
  have old : ∀ b o, hp.get? b = some o → h'.get? b = some o := fun b o e => k' b o (Nat.ne_of_lt (Nat.lt_succ_of_lt (Heap.lt_size e))) (kk b o e)
  have z : hp.objs.size + 1 + 1 ≤ dx := by
    have q := dn
    rw [Heap.size_push, Heap.size_push] at q
    exact q
  exact ⟨rfl, hq h' tk' (hp.objs.size + 1) dx ⟨old, Nat.le_succ _, _, _, hx, rfl, rfl, rfl, rfl⟩ (Nat.le_trans (Nat.le_trans (Nat.le_succ _) (Nat.le_succ _)) z) dne hns⟩
end
def inkindA (p1 p2 : Pos) : Arguments := { posonlyargs := [], args := [{ arg := "self", annotation := none, pos := p1 }, { arg := "kind", annotation := none, pos := p2 }], vararg := none, kwonlyargs := [], kw_defaults := [], kwarg := none, defaults := [] }
def inkindB (q1 q2 q3 q4 : Pos) : List Stmt := [.Assign [.Attribute (.Name "self" q1) "kind" q2] (.Name "kind" q3) q4]
def inkindS : Scope := { kind := .function, names := [(PySem.Str.ofString "self", .local), (PySem.Str.ofString "kind", .local)], isGenerator := false, isCoroutine := false, more := [] }
/-- it keeps one value, as kind -/
structure Evkind (K : Frag) (C fI : Addr) (bmB : List Value) (newId : String) : Prop extends ErrT K C fI bmB newId where
  tk : takerIn K C "kind" = some none
  no : findIn K (.ref C) "kind" = some none
  code : ∃ (oc : Value) (od : Option Addr) (doc pm : Value) (an : Option Addr) (cdv ct : Value) (osl : Array (Option Value)) (qual : Str) (p1 p2 q1 q2 q3 q4 : Pos),
    K.lookup fI = some ⟨oc, od, .func (fnOf "__init__" qual (inkindA p1 p2) (inkindB q1 q2 q3 q4) inkindS .none .none doc pm an cdv ct), osl⟩ ∧ codeIn K cdv qual = true
section
variable {prog : Program} {w : World} {A : Around} {E : Value → Shared → Prop} {R : Result → Shared → Prop} {K : Frag} {C fI x t : Addr} {bmB : List Value} {B newId initId : String} {v : Value}
theorem ivn_kind {s : Shared} {args : Args} (ha : args = ⟨[.ref x, v], []⟩ ∨ args = ⟨[.ref x], [("kind", v)]⟩) (SF : StoreFacts B bmB "object.__setattr__" "object") (T : Evkind K C fI bmB newId) (X : K.In s.heap) (hlim : s.heap.NoLimit) (hx : s.heap.get? x = some (excObj C t none .none)) (hroom : A.depth < recursionLimit)
    (hq : ∀ h' tk dx, (∀ b o, b ≠ x → s.heap.get? b = some o → h'.get? b = some o) → s.heap.objs.size ≤ dx → dx ≠ x → h'.get? x = some (excObj C t (some dx) .none) → h'.Ns1 dx (fun y => if y = "kind" then some v else none) → R (.ok (.ret .none)) { s with heap := h', toks := tk }) :
    codeAny (model prog w) A (.call (.ref fI) args) R s := by
  obtain ⟨oc, od, doc, pm, an, cdv, ct, osl, qual, p1, p2, q1, q2, q3, q4, ho, hcd⟩ := T.code
  refine Att.call_fn (binds := [("self", .ref x), ("kind", v)]) X hlim ho hcd hroom (by rcases ha with rfl | rfl <;> exact .of_eq rfl) rfl (fun s₁ IC => ?_) rfl rfl rfl
  obtain ⟨h1, tk1, rfl⟩ := IC.toInCall.same
  have kk : ∀ b o, s.heap.get? b = some o → h1.get? b = some o := IC.toInCall.keep
  have hn := IC.toInCall.ns
  show wpAny _ _ (execs _ _) _ _ _
  refine wpAny_execs_cons (plainObj_wpAny_Assign_Attribute ?_)
  refine ld_par (v := v) hn rfl (ld_par (v := .ref x) hn rfl ?_ rfl rfl (by decide)) rfl rfl (by decide)
  refine set_plain (X.keeps kk) (ox := excObj C t none .none) (od := none) ⟨kk _ _ hx, rfl, rfl, trivial⟩ T.sa ?_
  refine keeps_first SF (X.keeps kk) T.toErrT T.tk (kk _ _ hx) fun h3 tk3 dx k3 dn dne hx3 hn3 => ?_
  show wpAny _ _ (execs _ _) _ _ _
  have z : s.heap.objs.size < h1.objs.size := hn.lt
  exact wpAny_execs_nil (hq h3 tk3 dx (fun b o hb e => k3 b o hb (kk b o e)) (Nat.le_of_lt (Nat.lt_of_lt_of_le z dn)) dne hx3 hn3)
theorem mvn_kind {s : Shared} {args : Args} (ha : args = ⟨[v], []⟩ ∨ args = ⟨[], [("kind", v)]⟩) (SF : StoreFacts B bmB "object.__setattr__" "object") (FB : ExcBaseFacts B newId initId bmB) (T : Evkind K C fI bmB newId) (X : K.In s.heap) (hlim : s.heap.NoLimit) (hroom : A.depth + 1 < recursionLimit)
    (hq : ∀ h' tk e d, Kept s.heap h' e C (some d) → s.heap.objs.size ≤ d → d ≠ e → h'.Ns1 d (fun y => if y = "kind" then some v else none) → R (.ok (.ret (.ref e))) { s with heap := h', toks := tk }) :
    codeAny (model prog w) A (.call (.ref C) args) R s := by
  obtain ⟨nm, N, qn, bs, bm, hdct, sn, sub, ab, col, dd, k0, k1, k2, k3, k5, hC, hT⟩ := excInit_of X T.ini
  obtain ⟨hp, g, dr, tk, os⟩ := s
  obtain ⟨ps, kws⟩ := args
  have kk : ∀ b o, hp.get? b = some o → ((hp.push (kdv_tup ps)).push (excO C hp.objs.size)).get? b = some o := fun b o e => Heap.get?_push_of_some _ (Heap.get?_push_of_some _ e)
  have hget : ((hp.push (kdv_tup ps)).push (excO C hp.objs.size)).get? (hp.objs.size + 1) = some (excO C hp.objs.size) := by heap_get
  refine kw_call FB hT hC (looks_findIn X T.iC) (fun self => bind_fn X self (beq_iff_eq.mp T.fn)) (by rcases ha with z | z <;> cases z <;> first | exact Nat.zero_le _ | exact one_fits | exact two_fits) ?_
  refine ivn_kind (x := hp.objs.size + 1) (v := v) (s := ⟨(hp.push (kdv_tup ps)).push (excO C hp.objs.size), g, dr, tk, os⟩) (by rcases ha with z | z <;> cases z; exact .inl rfl; exact .inr rfl) SF T (X.keeps kk) (hlim.keeps kk) hget hroom fun h' tk' dx k' dn dne hx hns => ?_
  have old : ∀ b o, hp.get? b = some o → h'.get? b = some o := fun b o e => k' b o (Nat.ne_of_lt (Nat.lt_succ_of_lt (Heap.lt_size e))) (kk b o e)
  have z : hp.objs.size + 1 + 1 ≤ dx := by
    have q := dn
    rw [Heap.size_push, Heap.size_push] at q
    exact q
  exact ⟨rfl, hq h' tk' (hp.objs.size + 1) dx ⟨old, Nat.le_succ _, _, _, hx, rfl, rfl, rfl, rfl⟩ (Nat.le_trans (Nat.le_trans (Nat.le_succ _) (Nat.le_succ _)) z) dne hns⟩
end
def inwishA (p1 p2 : Pos) : Arguments := { posonlyargs := [], args := [{ arg := "self", annotation := none, pos := p1 }, { arg := "wish", annotation := none, pos := p2 }], vararg := none, kwonlyargs := [], kw_defaults := [], kwarg := none, defaults := [] }
def inwishB (q1 q2 q3 q4 : Pos) : List Stmt := [.Assign [.Attribute (.Name "self" q1) "wish" q2] (.Name "wish" q3) q4]
def inwishS : Scope := { kind := .function, names := [(PySem.Str.ofString "self", .local), (PySem.Str.ofString "wish", .local)], isGenerator := false, isCoroutine := false, more := [] }
/-- it keeps one value, as wish -/
structure Evwish (K : Frag) (C fI : Addr) (bmB : List Value) (newId : String) : Prop extends ErrT K C fI bmB newId where
  tk : takerIn K C "wish" = some none
  no : findIn K (.ref C) "wish" = some none
  code : ∃ (oc : Value) (od : Option Addr) (doc pm : Value) (an : Option Addr) (cdv ct : Value) (osl : Array (Option Value)) (qual : Str) (p1 p2 q1 q2 q3 q4 : Pos),
    K.lookup fI = some ⟨oc, od, .func (fnOf "__init__" qual (inwishA p1 p2) (inwishB q1 q2 q3 q4) inwishS .none .none doc pm an cdv ct), osl⟩ ∧ codeIn K cdv qual = true
section
variable {prog : Program} {w : World} {A : Around} {E : Value → Shared → Prop} {R : Result → Shared → Prop} {K : Frag} {C fI x t : Addr} {bmB : List Value} {B newId initId : String} {v : Value}
theorem ivn_wish {s : Shared} {args : Args} (ha : args = ⟨[.ref x, v], []⟩ ∨ args = ⟨[.ref x], [("wish", v)]⟩) (SF : StoreFacts B bmB "object.__setattr__" "object") (T : Evwish K C fI bmB newId) (X : K.In s.heap) (hlim : s.heap.NoLimit) (hx : s.heap.get? x = some (excObj C t none .none)) (hroom : A.depth < recursionLimit)
    (hq : ∀ h' tk dx, (∀ b o, b ≠ x → s.heap.get? b = some o → h'.get? b = some o) → s.heap.objs.size ≤ dx → dx ≠ x → h'.get? x = some (excObj C t (some dx) .none) → h'.Ns1 dx (fun y => if y = "wish" then some v else none) → R (.ok (.ret .none)) { s with heap := h', toks := tk }) :
    codeAny (model prog w) A (.call (.ref fI) args) R s := by
  obtain ⟨oc, od, doc, pm, an, cdv, ct, osl, qual, p1, p2, q1, q2, q3, q4, ho, hcd⟩ := T.code
  refine Att.call_fn (binds := [("self", .ref x), ("wish", v)]) X hlim ho hcd hroom (by rcases ha with rfl | rfl <;> exact .of_eq rfl) rfl (fun s₁ IC => ?_) rfl rfl rfl
  obtain ⟨h1, tk1, rfl⟩ := IC.toInCall.same
  have kk : ∀ b o, s.heap.get? b = some o → h1.get? b = some o := IC.toInCall.keep
  have hn := IC.toInCall.ns
  show wpAny _ _ (execs _ _) _ _ _
  refine wpAny_execs_cons (plainObj_wpAny_Assign_Attribute ?_)
  refine ld_par (v := v) hn rfl (ld_par (v := .ref x) hn rfl ?_ rfl rfl (by decide)) rfl rfl (by decide)
  refine set_plain (X.keeps kk) (ox := excObj C t none .none) (od := none) ⟨kk _ _ hx, rfl, rfl, trivial⟩ T.sa ?_
  refine keeps_first SF (X.keeps kk) T.toErrT T.tk (kk _ _ hx) fun h3 tk3 dx k3 dn dne hx3 hn3 => ?_
  show wpAny _ _ (execs _ _) _ _ _
  have z : s.heap.objs.size < h1.objs.size := hn.lt
  exact wpAny_execs_nil (hq h3 tk3 dx (fun b o hb e => k3 b o hb (kk b o e)) (Nat.le_of_lt (Nat.lt_of_lt_of_le z dn)) dne hx3 hn3)
theorem mvn_wish {s : Shared} {args : Args} (ha : args = ⟨[v], []⟩ ∨ args = ⟨[], [("wish", v)]⟩) (SF : StoreFacts B bmB "object.__setattr__" "object") (FB : ExcBaseFacts B newId initId bmB) (T : Evwish K C fI bmB newId) (X : K.In s.heap) (hlim : s.heap.NoLimit) (hroom : A.depth + 1 < recursionLimit)
    (hq : ∀ h' tk e d, Kept s.heap h' e C (some d) → s.heap.objs.size ≤ d → d ≠ e → h'.Ns1 d (fun y => if y = "wish" then some v else none) → R (.ok (.ret (.ref e))) { s with heap := h', toks := tk }) :
    codeAny (model prog w) A (.call (.ref C) args) R s := by
  obtain ⟨nm, N, qn, bs, bm, hdct, sn, sub, ab, col, dd, k0, k1, k2, k3, k5, hC, hT⟩ := excInit_of X T.ini
  obtain ⟨hp, g, dr, tk, os⟩ := s
  obtain ⟨ps, kws⟩ := args
  have kk : ∀ b o, hp.get? b = some o → ((hp.push (kdv_tup ps)).push (excO C hp.objs.size)).get? b = some o := fun b o e => Heap.get?_push_of_some _ (Heap.get?_push_of_some _ e)
  have hget : ((hp.push (kdv_tup ps)).push (excO C hp.objs.size)).get? (hp.objs.size + 1) = some (excO C hp.objs.size) := by heap_get
  refine kw_call FB hT hC (looks_findIn X T.iC) (fun self => bind_fn X self (beq_iff_eq.mp T.fn)) (by rcases ha with z | z <;> cases z <;> first | exact Nat.zero_le _ | exact one_fits | exact two_fits) ?_
  refine ivn_wish (x := hp.objs.size + 1) (v := v) (s := ⟨(hp.push (kdv_tup ps)).push (excO C hp.objs.size), g, dr, tk, os⟩) (by rcases ha with z | z <;> cases z; exact .inl rfl; exact .inr rfl) SF T (X.keeps kk) (hlim.keeps kk) hget hroom fun h' tk' dx k' dn dne hx hns => ?_
  have old : ∀ b o, hp.get? b = some o → h'.get? b = some o := fun b o e => k' b o (Nat.ne_of_lt (Nat.lt_succ_of_lt (Heap.lt_size e))) (kk b o e)
  have z : hp.objs.size + 1 + 1 ≤ dx := by
    have q := dn
    rw [Heap.size_push, Heap.size_push] at q
    exact q
  exact ⟨rfl, hq h' tk' (hp.objs.size + 1) dx ⟨old, Nat.le_succ _, _, _, hx, rfl, rfl, rfl, rfl⟩ (Nat.le_trans (Nat.le_trans (Nat.le_succ _) (Nat.le_succ _)) z) dne hns⟩
end
def inkind_valueA (p1 p2 p3 : Pos) : Arguments := { posonlyargs := [], args := [{ arg := "self", annotation := none, pos := p1 }, { arg := "kind", annotation := none, pos := p2 }, { arg := "value", annotation := none, pos := p3 }], vararg := none, kwonlyargs := [], kw_defaults := [], kwarg := none, defaults := [] }
def inkind_valueB (q1 q2 q3 q4 r1 r2 r3 r4 : Pos) : List Stmt := [.Assign [.Attribute (.Name "self" q1) "kind" q2] (.Name "kind" q3) q4, .Assign [.Attribute (.Name "self" r1) "value" r2] (.Name "value" r3) r4]
def inkind_valueS : Scope := { kind := .function, names := [(PySem.Str.ofString "self", .local), (PySem.Str.ofString "kind", .local), (PySem.Str.ofString "value", .local)], isGenerator := false, isCoroutine := false, more := [] }
/-- it keeps two values, as kind and value -/
structure Evkind_value (K : Frag) (C fI : Addr) (bmB : List Value) (newId : String) : Prop extends ErrT K C fI bmB newId where
  tk1 : takerIn K C "kind" = some none
  no1 : findIn K (.ref C) "kind" = some none
  tk2 : takerIn K C "value" = some none
  no2 : findIn K (.ref C) "value" = some none
  code : ∃ (oc : Value) (od : Option Addr) (doc pm : Value) (an : Option Addr) (cdv ct : Value) (osl : Array (Option Value)) (qual : Str) (p1 p2 p3 q1 q2 q3 q4 r1 r2 r3 r4 : Pos),
    K.lookup fI = some ⟨oc, od, .func (fnOf "__init__" qual (inkind_valueA p1 p2 p3) (inkind_valueB q1 q2 q3 q4 r1 r2 r3 r4) inkind_valueS .none .none doc pm an cdv ct), osl⟩ ∧ codeIn K cdv qual = true
section
variable {prog : Program} {w : World} {A : Around} {E : Value → Shared → Prop} {R : Result → Shared → Prop} {K : Frag} {C fI x t : Addr} {bmB : List Value} {B newId initId : String} {v u : Value}
theorem ivn_kind_value {s : Shared} {args : Args} (ha : args = ⟨[.ref x, v, u], []⟩ ∨ args = ⟨[.ref x], [("value", u), ("kind", v)]⟩) (SF : StoreFacts B bmB "object.__setattr__" "object") (T : Evkind_value K C fI bmB newId) (X : K.In s.heap) (hlim : s.heap.NoLimit) (nk : K.lookup x = none) (hx : s.heap.get? x = some (excObj C t none .none)) (hroom : A.depth < recursionLimit)
    (hq : ∀ h' tk dx, (∀ b o, b ≠ x → s.heap.get? b = some o → h'.get? b = some o) → s.heap.objs.size ≤ dx → dx ≠ x → h'.get? x = some (excObj C t (some dx) .none) → h'.Ns1 dx (fun y => if y = "value" then some u else if y = "kind" then some v else none) → R (.ok (.ret .none)) { s with heap := h', toks := tk }) :
    codeAny (model prog w) A (.call (.ref fI) args) R s := by
  obtain ⟨oc, od, doc, pm, an, cdv, ct, osl, qual, p1, p2, p3, q1, q2, q3, q4, r1, r2, r3, r4, ho, hcd⟩ := T.code
  refine Att.call_fn (binds := [("self", .ref x), ("kind", v), ("value", u)]) X hlim ho hcd hroom (by rcases ha with rfl | rfl <;> exact .of_eq rfl) rfl (fun s₁ IC => ?_) rfl rfl rfl
  obtain ⟨h1, tk1, rfl⟩ := IC.toInCall.same
  have kk : ∀ b o, s.heap.get? b = some o → h1.get? b = some o := IC.toInCall.keep
  have hn := IC.toInCall.ns
  show wpAny _ _ (execs _ _) _ _ _
  refine wpAny_execs_cons (plainObj_wpAny_Assign_Attribute ?_)
  refine ld_par (v := v) hn rfl (ld_par (v := .ref x) hn rfl ?_ rfl rfl (by decide)) rfl rfl (by decide)
  refine set_plain (X.keeps kk) (ox := excObj C t none .none) (od := none) ⟨kk _ _ hx, rfl, rfl, trivial⟩ T.sa ?_
  refine keeps_first SF (X.keeps kk) T.toErrT T.tk1 (kk _ _ hx) fun h3 tk3 dx k3 dn dne hx3 hn3 => ?_
  have z : s.heap.objs.size < h1.objs.size := hn.lt
  have hxl : x < s.heap.objs.size := Heap.lt_size hx
  have hl3 := hn.at fun o q => k3 _ o (Nat.ne_of_gt hxl) q
  show wpAny _ _ (execs _ _) _ _ _
  refine wpAny_execs_cons (plainObj_wpAny_Assign_Attribute ?_)
  refine ld_par (v := u) hl3 rfl (ld_par (v := .ref x) hl3 rfl ?_ rfl rfl (by decide)) rfl rfl (by decide)
  have kk3 : ∀ b o, b ≠ x → s.heap.get? b = some o → h3.get? b = some o := fun b o hb e => k3 b o hb (kk b o e)
  have X3 : K.In h3 := fun a o e => kk3 a o (fun z => by rw [z, nk] at e; cases e) (X a o e)
  have wi : Within (fun y => if y = "kind" then some v else none) ["kind"] := fun y hy => by
    by_cases e : y = "kind"
    · rw [e]
      exact List.mem_cons_self
    · dsimp only at hy
      rw [if_neg e] at hy
      exact absurd rfl hy
  obtain ⟨oD, esD, epD, hoD, hdD, _⟩ := hn3.count wi
  refine set_plain X3 (ox := excObj C t (some dx) .none) (od := some oD) ⟨hx3, rfl, rfl, hoD⟩ T.sa ?_
  have dlt : s.heap.objs.size ≤ dx := Nat.le_of_lt (Nat.lt_of_lt_of_le z dn)
  refine keeps_next SF X3 T.toErrT T.tk2 hx3 hn3 wi (by decide) fun h4 tk4 k4 hn4 => ?_
  show wpAny _ _ (execs _ _) _ _ _
  have ndx : ∀ b, b < s.heap.objs.size → b ≠ dx := fun b hb e => by
    rw [e] at hb
    omega
  exact wpAny_execs_nil (hq h4 tk4 dx (fun b o hb e => k4 b o (ndx b (Heap.lt_size e)) (kk3 b o hb e)) dlt dne (k4 _ _ (ndx x hxl) hx3) hn4)
theorem mvn_kind_value {s : Shared} {args : Args} (ha : args = ⟨[v, u], []⟩ ∨ args = ⟨[], [("value", u), ("kind", v)]⟩) (SF : StoreFacts B bmB "object.__setattr__" "object") (FB : ExcBaseFacts B newId initId bmB) (T : Evkind_value K C fI bmB newId) (X : K.In s.heap) (hlim : s.heap.NoLimit) (hroom : A.depth + 1 < recursionLimit)
    (hq : ∀ h' tk e d, Kept s.heap h' e C (some d) → s.heap.objs.size ≤ d → d ≠ e → h'.Ns1 d (fun y => if y = "value" then some u else if y = "kind" then some v else none) → R (.ok (.ret (.ref e))) { s with heap := h', toks := tk }) :
    codeAny (model prog w) A (.call (.ref C) args) R s := by
  obtain ⟨nm, N, qn, bs, bm, hdct, sn, sub, ab, col, dd, k0, k1, k2, k3, k5, hC, hT⟩ := excInit_of X T.ini
  obtain ⟨hp, g, dr, tk, os⟩ := s
  obtain ⟨ps, kws⟩ := args
  have kk : ∀ b o, hp.get? b = some o → ((hp.push (kdv_tup ps)).push (excO C hp.objs.size)).get? b = some o := fun b o e => Heap.get?_push_of_some _ (Heap.get?_push_of_some _ e)
  have hget : ((hp.push (kdv_tup ps)).push (excO C hp.objs.size)).get? (hp.objs.size + 1) = some (excO C hp.objs.size) := by heap_get
  have nk : K.lookup (hp.objs.size + 1) = none := by
    cases z : K.lookup (hp.objs.size + 1) with
    | none => rfl
    | some o =>
      have h2 : hp.objs.size + 1 < hp.objs.size := Heap.lt_size (X _ _ z)
      omega
  refine kw_call FB hT hC (looks_findIn X T.iC) (fun self => bind_fn X self (beq_iff_eq.mp T.fn)) (by rcases ha with z | z <;> cases z <;> first | exact Nat.zero_le _ | exact one_fits | exact two_fits) ?_
  refine ivn_kind_value (x := hp.objs.size + 1) (v := v) (u := u) (s := ⟨(hp.push (kdv_tup ps)).push (excO C hp.objs.size), g, dr, tk, os⟩) (by rcases ha with z | z <;> cases z; exact .inl rfl; exact .inr rfl) SF T (X.keeps kk) (hlim.keeps kk) nk hget hroom fun h' tk' dx k' dn dne hx hns => ?_
  have old : ∀ b o, hp.get? b = some o → h'.get? b = some o := fun b o e => k' b o (Nat.ne_of_lt (Nat.lt_succ_of_lt (Heap.lt_size e))) (kk b o e)
  have z : hp.objs.size + 1 + 1 ≤ dx := by
    have q := dn
    rw [Heap.size_push, Heap.size_push] at q
    exact q
  exact ⟨rfl, hq h' tk' (hp.objs.size + 1) dx ⟨old, Nat.le_succ _, _, _, hx, rfl, rfl, rfl, rfl⟩ (Nat.le_trans (Nat.le_trans (Nat.le_succ _) (Nat.le_succ _)) z) dne hns⟩
end
def inname_valueA (p1 p2 p3 : Pos) : Arguments := { posonlyargs := [], args := [{ arg := "self", annotation := none, pos := p1 }, { arg := "name", annotation := none, pos := p2 }, { arg := "value", annotation := none, pos := p3 }], vararg := none, kwonlyargs := [], kw_defaults := [], kwarg := none, defaults := [] }
def inname_valueB (q1 q2 q3 q4 r1 r2 r3 r4 : Pos) : List Stmt := [.Assign [.Attribute (.Name "self" q1) "name" q2] (.Name "name" q3) q4, .Assign [.Attribute (.Name "self" r1) "value" r2] (.Name "value" r3) r4]
def inname_valueS : Scope := { kind := .function, names := [(PySem.Str.ofString "self", .local), (PySem.Str.ofString "name", .local), (PySem.Str.ofString "value", .local)], isGenerator := false, isCoroutine := false, more := [] }
/-- it keeps two values, as name and value -/
structure Evname_value (K : Frag) (C fI : Addr) (bmB : List Value) (newId : String) : Prop extends ErrT K C fI bmB newId where
  tk1 : takerIn K C "name" = some none
  no1 : findIn K (.ref C) "name" = some none
  tk2 : takerIn K C "value" = some none
  no2 : findIn K (.ref C) "value" = some none
  code : ∃ (oc : Value) (od : Option Addr) (doc pm : Value) (an : Option Addr) (cdv ct : Value) (osl : Array (Option Value)) (qual : Str) (p1 p2 p3 q1 q2 q3 q4 r1 r2 r3 r4 : Pos),
    K.lookup fI = some ⟨oc, od, .func (fnOf "__init__" qual (inname_valueA p1 p2 p3) (inname_valueB q1 q2 q3 q4 r1 r2 r3 r4) inname_valueS .none .none doc pm an cdv ct), osl⟩ ∧ codeIn K cdv qual = true
section
variable {prog : Program} {w : World} {A : Around} {E : Value → Shared → Prop} {R : Result → Shared → Prop} {K : Frag} {C fI x t : Addr} {bmB : List Value} {B newId initId : String} {v u : Value}
theorem ivn_name_value {s : Shared} {args : Args} (ha : args = ⟨[.ref x, v, u], []⟩ ∨ args = ⟨[.ref x], [("value", u), ("name", v)]⟩) (SF : StoreFacts B bmB "object.__setattr__" "object") (T : Evname_value K C fI bmB newId) (X : K.In s.heap) (hlim : s.heap.NoLimit) (nk : K.lookup x = none) (hx : s.heap.get? x = some (excObj C t none .none)) (hroom : A.depth < recursionLimit)
    (hq : ∀ h' tk dx, (∀ b o, b ≠ x → s.heap.get? b = some o → h'.get? b = some o) → s.heap.objs.size ≤ dx → dx ≠ x → h'.get? x = some (excObj C t (some dx) .none) → h'.Ns1 dx (fun y => if y = "value" then some u else if y = "name" then some v else none) → R (.ok (.ret .none)) { s with heap := h', toks := tk }) :
    codeAny (model prog w) A (.call (.ref fI) args) R s := by
  obtain ⟨oc, od, doc, pm, an, cdv, ct, osl, qual, p1, p2, p3, q1, q2, q3, q4, r1, r2, r3, r4, ho, hcd⟩ := T.code
  refine Att.call_fn (binds := [("self", .ref x), ("name", v), ("value", u)]) X hlim ho hcd hroom (by rcases ha with rfl | rfl <;> exact .of_eq rfl) rfl (fun s₁ IC => ?_) rfl rfl rfl
  obtain ⟨h1, tk1, rfl⟩ := IC.toInCall.same
  have kk : ∀ b o, s.heap.get? b = some o → h1.get? b = some o := IC.toInCall.keep
  have hn := IC.toInCall.ns
  show wpAny _ _ (execs _ _) _ _ _
  refine wpAny_execs_cons (plainObj_wpAny_Assign_Attribute ?_)
  refine ld_par (v := v) hn rfl (ld_par (v := .ref x) hn rfl ?_ rfl rfl (by decide)) rfl rfl (by decide)
  refine set_plain (X.keeps kk) (ox := excObj C t none .none) (od := none) ⟨kk _ _ hx, rfl, rfl, trivial⟩ T.sa ?_
  refine keeps_first SF (X.keeps kk) T.toErrT T.tk1 (kk _ _ hx) fun h3 tk3 dx k3 dn dne hx3 hn3 => ?_
  have z : s.heap.objs.size < h1.objs.size := hn.lt
  have hxl : x < s.heap.objs.size := Heap.lt_size hx
  have hl3 := hn.at fun o q => k3 _ o (Nat.ne_of_gt hxl) q
  show wpAny _ _ (execs _ _) _ _ _
  refine wpAny_execs_cons (plainObj_wpAny_Assign_Attribute ?_)
  refine ld_par (v := u) hl3 rfl (ld_par (v := .ref x) hl3 rfl ?_ rfl rfl (by decide)) rfl rfl (by decide)
  have kk3 : ∀ b o, b ≠ x → s.heap.get? b = some o → h3.get? b = some o := fun b o hb e => k3 b o hb (kk b o e)
  have X3 : K.In h3 := fun a o e => kk3 a o (fun z => by rw [z, nk] at e; cases e) (X a o e)
  have wi : Within (fun y => if y = "name" then some v else none) ["name"] := fun y hy => by
    by_cases e : y = "name"
    · rw [e]
      exact List.mem_cons_self
    · dsimp only at hy
      rw [if_neg e] at hy
      exact absurd rfl hy
  obtain ⟨oD, esD, epD, hoD, hdD, _⟩ := hn3.count wi
  refine set_plain X3 (ox := excObj C t (some dx) .none) (od := some oD) ⟨hx3, rfl, rfl, hoD⟩ T.sa ?_
  have dlt : s.heap.objs.size ≤ dx := Nat.le_of_lt (Nat.lt_of_lt_of_le z dn)
  refine keeps_next SF X3 T.toErrT T.tk2 hx3 hn3 wi (by decide) fun h4 tk4 k4 hn4 => ?_
  show wpAny _ _ (execs _ _) _ _ _
  have ndx : ∀ b, b < s.heap.objs.size → b ≠ dx := fun b hb e => by
    rw [e] at hb
    omega
  exact wpAny_execs_nil (hq h4 tk4 dx (fun b o hb e => k4 b o (ndx b (Heap.lt_size e)) (kk3 b o hb e)) dlt dne (k4 _ _ (ndx x hxl) hx3) hn4)
theorem mvn_name_value {s : Shared} {args : Args} (ha : args = ⟨[v, u], []⟩ ∨ args = ⟨[], [("value", u), ("name", v)]⟩) (SF : StoreFacts B bmB "object.__setattr__" "object") (FB : ExcBaseFacts B newId initId bmB) (T : Evname_value K C fI bmB newId) (X : K.In s.heap) (hlim : s.heap.NoLimit) (hroom : A.depth + 1 < recursionLimit)
    (hq : ∀ h' tk e d, Kept s.heap h' e C (some d) → s.heap.objs.size ≤ d → d ≠ e → h'.Ns1 d (fun y => if y = "value" then some u else if y = "name" then some v else none) → R (.ok (.ret (.ref e))) { s with heap := h', toks := tk }) :
    codeAny (model prog w) A (.call (.ref C) args) R s := by
  obtain ⟨nm, N, qn, bs, bm, hdct, sn, sub, ab, col, dd, k0, k1, k2, k3, k5, hC, hT⟩ := excInit_of X T.ini
  obtain ⟨hp, g, dr, tk, os⟩ := s
  obtain ⟨ps, kws⟩ := args
  have kk : ∀ b o, hp.get? b = some o → ((hp.push (kdv_tup ps)).push (excO C hp.objs.size)).get? b = some o := fun b o e => Heap.get?_push_of_some _ (Heap.get?_push_of_some _ e)
  have hget : ((hp.push (kdv_tup ps)).push (excO C hp.objs.size)).get? (hp.objs.size + 1) = some (excO C hp.objs.size) := by heap_get
  have nk : K.lookup (hp.objs.size + 1) = none := by
    cases z : K.lookup (hp.objs.size + 1) with
    | none => rfl
    | some o =>
      have h2 : hp.objs.size + 1 < hp.objs.size := Heap.lt_size (X _ _ z)
      omega
  refine kw_call FB hT hC (looks_findIn X T.iC) (fun self => bind_fn X self (beq_iff_eq.mp T.fn)) (by rcases ha with z | z <;> cases z <;> first | exact Nat.zero_le _ | exact one_fits | exact two_fits) ?_
  refine ivn_name_value (x := hp.objs.size + 1) (v := v) (u := u) (s := ⟨(hp.push (kdv_tup ps)).push (excO C hp.objs.size), g, dr, tk, os⟩) (by rcases ha with z | z <;> cases z; exact .inl rfl; exact .inr rfl) SF T (X.keeps kk) (hlim.keeps kk) nk hget hroom fun h' tk' dx k' dn dne hx hns => ?_
  have old : ∀ b o, hp.get? b = some o → h'.get? b = some o := fun b o e => k' b o (Nat.ne_of_lt (Nat.lt_succ_of_lt (Heap.lt_size e))) (kk b o e)
  have z : hp.objs.size + 1 + 1 ≤ dx := by
    have q := dn
    rw [Heap.size_push, Heap.size_push] at q
    exact q
  exact ⟨rfl, hq h' tk' (hp.objs.size + 1) dx ⟨old, Nat.le_succ _, _, _, hx, rfl, rfl, rfl, rfl⟩ (Nat.le_trans (Nat.le_trans (Nat.le_succ _) (Nat.le_succ _)) z) dne hns⟩
end
def inthing_kindA (p1 p2 p3 : Pos) : Arguments := { posonlyargs := [], args := [{ arg := "self", annotation := none, pos := p1 }, { arg := "thing", annotation := none, pos := p2 }, { arg := "kind", annotation := none, pos := p3 }], vararg := none, kwonlyargs := [], kw_defaults := [], kwarg := none, defaults := [] }
def inthing_kindB (q1 q2 q3 q4 r1 r2 r3 r4 : Pos) : List Stmt := [.Assign [.Attribute (.Name "self" q1) "thing" q2] (.Name "thing" q3) q4, .Assign [.Attribute (.Name "self" r1) "kind" r2] (.Name "kind" r3) r4]
def inthing_kindS : Scope := { kind := .function, names := [(PySem.Str.ofString "self", .local), (PySem.Str.ofString "thing", .local), (PySem.Str.ofString "kind", .local)], isGenerator := false, isCoroutine := false, more := [] }
/-- it keeps two values, as thing and kind -/
structure Evthing_kind (K : Frag) (C fI : Addr) (bmB : List Value) (newId : String) : Prop extends ErrT K C fI bmB newId where
  tk1 : takerIn K C "thing" = some none
  no1 : findIn K (.ref C) "thing" = some none
  tk2 : takerIn K C "kind" = some none
  no2 : findIn K (.ref C) "kind" = some none
  code : ∃ (oc : Value) (od : Option Addr) (doc pm : Value) (an : Option Addr) (cdv ct : Value) (osl : Array (Option Value)) (qual : Str) (p1 p2 p3 q1 q2 q3 q4 r1 r2 r3 r4 : Pos),
    K.lookup fI = some ⟨oc, od, .func (fnOf "__init__" qual (inthing_kindA p1 p2 p3) (inthing_kindB q1 q2 q3 q4 r1 r2 r3 r4) inthing_kindS .none .none doc pm an cdv ct), osl⟩ ∧ codeIn K cdv qual = true
section
variable {prog : Program} {w : World} {A : Around} {E : Value → Shared → Prop} {R : Result → Shared → Prop} {K : Frag} {C fI x t : Addr} {bmB : List Value} {B newId initId : String} {v u : Value}
theorem ivn_thing_kind {s : Shared} {args : Args} (ha : args = ⟨[.ref x, v, u], []⟩ ∨ args = ⟨[.ref x], [("kind", u), ("thing", v)]⟩) (SF : StoreFacts B bmB "object.__setattr__" "object") (T : Evthing_kind K C fI bmB newId) (X : K.In s.heap) (hlim : s.heap.NoLimit) (nk : K.lookup x = none) (hx : s.heap.get? x = some (excObj C t none .none)) (hroom : A.depth < recursionLimit)
    (hq : ∀ h' tk dx, (∀ b o, b ≠ x → s.heap.get? b = some o → h'.get? b = some o) → s.heap.objs.size ≤ dx → dx ≠ x → h'.get? x = some (excObj C t (some dx) .none) → h'.Ns1 dx (fun y => if y = "kind" then some u else if y = "thing" then some v else none) → R (.ok (.ret .none)) { s with heap := h', toks := tk }) :
    codeAny (model prog w) A (.call (.ref fI) args) R s := by
  obtain ⟨oc, od, doc, pm, an, cdv, ct, osl, qual, p1, p2, p3, q1, q2, q3, q4, r1, r2, r3, r4, ho, hcd⟩ := T.code
  refine Att.call_fn (binds := [("self", .ref x), ("thing", v), ("kind", u)]) X hlim ho hcd hroom (by rcases ha with rfl | rfl <;> exact .of_eq rfl) rfl (fun s₁ IC => ?_) rfl rfl rfl
  obtain ⟨h1, tk1, rfl⟩ := IC.toInCall.same
  have kk : ∀ b o, s.heap.get? b = some o → h1.get? b = some o := IC.toInCall.keep
  have hn := IC.toInCall.ns
  show wpAny _ _ (execs _ _) _ _ _
  refine wpAny_execs_cons (plainObj_wpAny_Assign_Attribute ?_)
  refine ld_par (v := v) hn rfl (ld_par (v := .ref x) hn rfl ?_ rfl rfl (by decide)) rfl rfl (by decide)
  refine set_plain (X.keeps kk) (ox := excObj C t none .none) (od := none) ⟨kk _ _ hx, rfl, rfl, trivial⟩ T.sa ?_
  refine keeps_first SF (X.keeps kk) T.toErrT T.tk1 (kk _ _ hx) fun h3 tk3 dx k3 dn dne hx3 hn3 => ?_
  have z : s.heap.objs.size < h1.objs.size := hn.lt
  have hxl : x < s.heap.objs.size := Heap.lt_size hx
  have hl3 := hn.at fun o q => k3 _ o (Nat.ne_of_gt hxl) q
  show wpAny _ _ (execs _ _) _ _ _
  refine wpAny_execs_cons (plainObj_wpAny_Assign_Attribute ?_)
  refine ld_par (v := u) hl3 rfl (ld_par (v := .ref x) hl3 rfl ?_ rfl rfl (by decide)) rfl rfl (by decide)
  have kk3 : ∀ b o, b ≠ x → s.heap.get? b = some o → h3.get? b = some o := fun b o hb e => k3 b o hb (kk b o e)
  have X3 : K.In h3 := fun a o e => kk3 a o (fun z => by rw [z, nk] at e; cases e) (X a o e)
  have wi : Within (fun y => if y = "thing" then some v else none) ["thing"] := fun y hy => by
    by_cases e : y = "thing"
    · rw [e]
      exact List.mem_cons_self
    · dsimp only at hy
      rw [if_neg e] at hy
      exact absurd rfl hy
  obtain ⟨oD, esD, epD, hoD, hdD, _⟩ := hn3.count wi
  refine set_plain X3 (ox := excObj C t (some dx) .none) (od := some oD) ⟨hx3, rfl, rfl, hoD⟩ T.sa ?_
  have dlt : s.heap.objs.size ≤ dx := Nat.le_of_lt (Nat.lt_of_lt_of_le z dn)
  refine keeps_next SF X3 T.toErrT T.tk2 hx3 hn3 wi (by decide) fun h4 tk4 k4 hn4 => ?_
  show wpAny _ _ (execs _ _) _ _ _
  have ndx : ∀ b, b < s.heap.objs.size → b ≠ dx := fun b hb e => by
    rw [e] at hb
    omega
  exact wpAny_execs_nil (hq h4 tk4 dx (fun b o hb e => k4 b o (ndx b (Heap.lt_size e)) (kk3 b o hb e)) dlt dne (k4 _ _ (ndx x hxl) hx3) hn4)
theorem mvn_thing_kind {s : Shared} {args : Args} (ha : args = ⟨[v, u], []⟩ ∨ args = ⟨[], [("kind", u), ("thing", v)]⟩) (SF : StoreFacts B bmB "object.__setattr__" "object") (FB : ExcBaseFacts B newId initId bmB) (T : Evthing_kind K C fI bmB newId) (X : K.In s.heap) (hlim : s.heap.NoLimit) (hroom : A.depth + 1 < recursionLimit)
    (hq : ∀ h' tk e d, Kept s.heap h' e C (some d) → s.heap.objs.size ≤ d → d ≠ e → h'.Ns1 d (fun y => if y = "kind" then some u else if y = "thing" then some v else none) → R (.ok (.ret (.ref e))) { s with heap := h', toks := tk }) :
    codeAny (model prog w) A (.call (.ref C) args) R s := by
  obtain ⟨nm, N, qn, bs, bm, hdct, sn, sub, ab, col, dd, k0, k1, k2, k3, k5, hC, hT⟩ := excInit_of X T.ini
  obtain ⟨hp, g, dr, tk, os⟩ := s
  obtain ⟨ps, kws⟩ := args
  have kk : ∀ b o, hp.get? b = some o → ((hp.push (kdv_tup ps)).push (excO C hp.objs.size)).get? b = some o := fun b o e => Heap.get?_push_of_some _ (Heap.get?_push_of_some _ e)
  have hget : ((hp.push (kdv_tup ps)).push (excO C hp.objs.size)).get? (hp.objs.size + 1) = some (excO C hp.objs.size) := by heap_get
  have nk : K.lookup (hp.objs.size + 1) = none := by
    cases z : K.lookup (hp.objs.size + 1) with
    | none => rfl
    | some o =>
      have h2 : hp.objs.size + 1 < hp.objs.size := Heap.lt_size (X _ _ z)
      omega
  refine kw_call FB hT hC (looks_findIn X T.iC) (fun self => bind_fn X self (beq_iff_eq.mp T.fn)) (by rcases ha with z | z <;> cases z <;> first | exact Nat.zero_le _ | exact one_fits | exact two_fits) ?_
  refine ivn_thing_kind (x := hp.objs.size + 1) (v := v) (u := u) (s := ⟨(hp.push (kdv_tup ps)).push (excO C hp.objs.size), g, dr, tk, os⟩) (by rcases ha with z | z <;> cases z; exact .inl rfl; exact .inr rfl) SF T (X.keeps kk) (hlim.keeps kk) nk hget hroom fun h' tk' dx k' dn dne hx hns => ?_
  have old : ∀ b o, hp.get? b = some o → h'.get? b = some o := fun b o e => k' b o (Nat.ne_of_lt (Nat.lt_succ_of_lt (Heap.lt_size e))) (kk b o e)
  have z : hp.objs.size + 1 + 1 ≤ dx := by
    have q := dn
    rw [Heap.size_push, Heap.size_push] at q
    exact q
  exact ⟨rfl, hq h' tk' (hp.objs.size + 1) dx ⟨old, Nat.le_succ _, _, _, hx, rfl, rfl, rfl, rfl⟩ (Nat.le_trans (Nat.le_trans (Nat.le_succ _) (Nat.le_succ _)) z) dne hns⟩
end
def inwhat_limitA (p1 p2 p3 : Pos) : Arguments := { posonlyargs := [], args := [{ arg := "self", annotation := none, pos := p1 }, { arg := "what", annotation := none, pos := p2 }, { arg := "limit", annotation := none, pos := p3 }], vararg := none, kwonlyargs := [], kw_defaults := [], kwarg := none, defaults := [] }
def inwhat_limitB (q1 q2 q3 q4 r1 r2 r3 r4 : Pos) : List Stmt := [.Assign [.Attribute (.Name "self" q1) "what" q2] (.Name "what" q3) q4, .Assign [.Attribute (.Name "self" r1) "limit" r2] (.Name "limit" r3) r4]
def inwhat_limitS : Scope := { kind := .function, names := [(PySem.Str.ofString "self", .local), (PySem.Str.ofString "what", .local), (PySem.Str.ofString "limit", .local)], isGenerator := false, isCoroutine := false, more := [] }
/-- it keeps two values, as what and limit -/
structure Evwhat_limit (K : Frag) (C fI : Addr) (bmB : List Value) (newId : String) : Prop extends ErrT K C fI bmB newId where
  tk1 : takerIn K C "what" = some none
  no1 : findIn K (.ref C) "what" = some none
  tk2 : takerIn K C "limit" = some none
  no2 : findIn K (.ref C) "limit" = some none
  code : ∃ (oc : Value) (od : Option Addr) (doc pm : Value) (an : Option Addr) (cdv ct : Value) (osl : Array (Option Value)) (qual : Str) (p1 p2 p3 q1 q2 q3 q4 r1 r2 r3 r4 : Pos),
    K.lookup fI = some ⟨oc, od, .func (fnOf "__init__" qual (inwhat_limitA p1 p2 p3) (inwhat_limitB q1 q2 q3 q4 r1 r2 r3 r4) inwhat_limitS .none .none doc pm an cdv ct), osl⟩ ∧ codeIn K cdv qual = true
section
variable {prog : Program} {w : World} {A : Around} {E : Value → Shared → Prop} {R : Result → Shared → Prop} {K : Frag} {C fI x t : Addr} {bmB : List Value} {B newId initId : String} {v u : Value}
theorem ivn_what_limit {s : Shared} {args : Args} (ha : args = ⟨[.ref x, v, u], []⟩ ∨ args = ⟨[.ref x], [("limit", u), ("what", v)]⟩) (SF : StoreFacts B bmB "object.__setattr__" "object") (T : Evwhat_limit K C fI bmB newId) (X : K.In s.heap) (hlim : s.heap.NoLimit) (nk : K.lookup x = none) (hx : s.heap.get? x = some (excObj C t none .none)) (hroom : A.depth < recursionLimit)
    (hq : ∀ h' tk dx, (∀ b o, b ≠ x → s.heap.get? b = some o → h'.get? b = some o) → s.heap.objs.size ≤ dx → dx ≠ x → h'.get? x = some (excObj C t (some dx) .none) → h'.Ns1 dx (fun y => if y = "limit" then some u else if y = "what" then some v else none) → R (.ok (.ret .none)) { s with heap := h', toks := tk }) :
    codeAny (model prog w) A (.call (.ref fI) args) R s := by
  obtain ⟨oc, od, doc, pm, an, cdv, ct, osl, qual, p1, p2, p3, q1, q2, q3, q4, r1, r2, r3, r4, ho, hcd⟩ := T.code
  refine Att.call_fn (binds := [("self", .ref x), ("what", v), ("limit", u)]) X hlim ho hcd hroom (by rcases ha with rfl | rfl <;> exact .of_eq rfl) rfl (fun s₁ IC => ?_) rfl rfl rfl
  obtain ⟨h1, tk1, rfl⟩ := IC.toInCall.same
  have kk : ∀ b o, s.heap.get? b = some o → h1.get? b = some o := IC.toInCall.keep
  have hn := IC.toInCall.ns
  show wpAny _ _ (execs _ _) _ _ _
  refine wpAny_execs_cons (plainObj_wpAny_Assign_Attribute ?_)
  refine ld_par (v := v) hn rfl (ld_par (v := .ref x) hn rfl ?_ rfl rfl (by decide)) rfl rfl (by decide)
  refine set_plain (X.keeps kk) (ox := excObj C t none .none) (od := none) ⟨kk _ _ hx, rfl, rfl, trivial⟩ T.sa ?_
  refine keeps_first SF (X.keeps kk) T.toErrT T.tk1 (kk _ _ hx) fun h3 tk3 dx k3 dn dne hx3 hn3 => ?_
  have z : s.heap.objs.size < h1.objs.size := hn.lt
  have hxl : x < s.heap.objs.size := Heap.lt_size hx
  have hl3 := hn.at fun o q => k3 _ o (Nat.ne_of_gt hxl) q
  show wpAny _ _ (execs _ _) _ _ _
  refine wpAny_execs_cons (plainObj_wpAny_Assign_Attribute ?_)
  refine ld_par (v := u) hl3 rfl (ld_par (v := .ref x) hl3 rfl ?_ rfl rfl (by decide)) rfl rfl (by decide)
  have kk3 : ∀ b o, b ≠ x → s.heap.get? b = some o → h3.get? b = some o := fun b o hb e => k3 b o hb (kk b o e)
  have X3 : K.In h3 := fun a o e => kk3 a o (fun z => by rw [z, nk] at e; cases e) (X a o e)
  have wi : Within (fun y => if y = "what" then some v else none) ["what"] := fun y hy => by
    by_cases e : y = "what"
    · rw [e]
      exact List.mem_cons_self
    · dsimp only at hy
      rw [if_neg e] at hy
      exact absurd rfl hy
  obtain ⟨oD, esD, epD, hoD, hdD, _⟩ := hn3.count wi
  refine set_plain X3 (ox := excObj C t (some dx) .none) (od := some oD) ⟨hx3, rfl, rfl, hoD⟩ T.sa ?_
  have dlt : s.heap.objs.size ≤ dx := Nat.le_of_lt (Nat.lt_of_lt_of_le z dn)
  refine keeps_next SF X3 T.toErrT T.tk2 hx3 hn3 wi (by decide) fun h4 tk4 k4 hn4 => ?_
  show wpAny _ _ (execs _ _) _ _ _
  have ndx : ∀ b, b < s.heap.objs.size → b ≠ dx := fun b hb e => by
    rw [e] at hb
    omega
  exact wpAny_execs_nil (hq h4 tk4 dx (fun b o hb e => k4 b o (ndx b (Heap.lt_size e)) (kk3 b o hb e)) dlt dne (k4 _ _ (ndx x hxl) hx3) hn4)
theorem mvn_what_limit {s : Shared} {args : Args} (ha : args = ⟨[v, u], []⟩ ∨ args = ⟨[], [("limit", u), ("what", v)]⟩) (SF : StoreFacts B bmB "object.__setattr__" "object") (FB : ExcBaseFacts B newId initId bmB) (T : Evwhat_limit K C fI bmB newId) (X : K.In s.heap) (hlim : s.heap.NoLimit) (hroom : A.depth + 1 < recursionLimit)
    (hq : ∀ h' tk e d, Kept s.heap h' e C (some d) → s.heap.objs.size ≤ d → d ≠ e → h'.Ns1 d (fun y => if y = "limit" then some u else if y = "what" then some v else none) → R (.ok (.ret (.ref e))) { s with heap := h', toks := tk }) :
    codeAny (model prog w) A (.call (.ref C) args) R s := by
  obtain ⟨nm, N, qn, bs, bm, hdct, sn, sub, ab, col, dd, k0, k1, k2, k3, k5, hC, hT⟩ := excInit_of X T.ini
  obtain ⟨hp, g, dr, tk, os⟩ := s
  obtain ⟨ps, kws⟩ := args
  have kk : ∀ b o, hp.get? b = some o → ((hp.push (kdv_tup ps)).push (excO C hp.objs.size)).get? b = some o := fun b o e => Heap.get?_push_of_some _ (Heap.get?_push_of_some _ e)
  have hget : ((hp.push (kdv_tup ps)).push (excO C hp.objs.size)).get? (hp.objs.size + 1) = some (excO C hp.objs.size) := by heap_get
  have nk : K.lookup (hp.objs.size + 1) = none := by
    cases z : K.lookup (hp.objs.size + 1) with
    | none => rfl
    | some o =>
      have h2 : hp.objs.size + 1 < hp.objs.size := Heap.lt_size (X _ _ z)
      omega
  refine kw_call FB hT hC (looks_findIn X T.iC) (fun self => bind_fn X self (beq_iff_eq.mp T.fn)) (by rcases ha with z | z <;> cases z <;> first | exact Nat.zero_le _ | exact one_fits | exact two_fits) ?_
  refine ivn_what_limit (x := hp.objs.size + 1) (v := v) (u := u) (s := ⟨(hp.push (kdv_tup ps)).push (excO C hp.objs.size), g, dr, tk, os⟩) (by rcases ha with z | z <;> cases z; exact .inl rfl; exact .inr rfl) SF T (X.keeps kk) (hlim.keeps kk) nk hget hroom fun h' tk' dx k' dn dne hx hns => ?_
  have old : ∀ b o, hp.get? b = some o → h'.get? b = some o := fun b o e => k' b o (Nat.ne_of_lt (Nat.lt_succ_of_lt (Heap.lt_size e))) (kk b o e)
  have z : hp.objs.size + 1 + 1 ≤ dx := by
    have q := dn
    rw [Heap.size_push, Heap.size_push] at q
    exact q
  exact ⟨rfl, hq h' tk' (hp.objs.size + 1) dx ⟨old, Nat.le_succ _, _, _, hx, rfl, rfl, rfl, rfl⟩ (Nat.le_trans (Nat.le_trans (Nat.le_succ _) (Nat.le_succ _)) z) dne hns⟩
end
end GX
end PySem
namespace GL
open PySem PySem.Spec PyProof.Rows L2 Evl StX SkE
/-- an error at a, its class at C, its dict at d (or none) -/
def exi (C : Addr) (d : Option Addr) (a : Addr) : HO := .ext fun h => ∃ (oe : Obj) (vs : Array Value), h.get? a = some oe ∧ oe.cls = .ref C ∧ oe.dict = d ∧ oe.data = .fields vs
theorem exi_ok {P : Program} {w : World} {H : Hp} {h : Heap} {a C : Addr} {d : Option Addr} {oe : Obj} {vs : Array Value} (e : h.get? a = some oe) (z1 : oe.cls = .ref C) (z2 : oe.dict = d) (z3 : oe.data = .fields vs) : ObjOk P w H h a (exi C d a) :=
  ⟨⟨oe, vs, e, z1, z2, z3⟩, ⟨oe, e⟩, fun _ _ ⟨o, v, q, r⟩ k => ⟨o, v, k o q, r⟩⟩
/-- at a an error of the class at C that keeps fs -/
def ExAt (H : Hp) (a C : Addr) (fs : List (Str × V)) : Prop := (fs = [] ∧ H a = some (exi C none a)) ∨ ∃ d, H a = some (exi C (some d) a) ∧ H d = some (.xd fs)
theorem ExAt.ex {H H' : Hp} {a C : Addr} {fs : List (Str × V)} (h : ExAt H a C fs) (e : Ex H H') : ExAt H' a C fs := by
  rcases h with ⟨h1, h2⟩ | ⟨d, h1, h2⟩
  · exact .inl ⟨h1, e _ _ h2⟩
  · exact .inr ⟨d, e _ _ h1, e _ _ h2⟩
section
variable {X : Cx} {C fI : Addr} {bmB : List Value} {B newId initId : String} {x : Str} {p pos : Pos} {k : Nat}
/-- a made error, new: its own dict, new, keeps these -/
def tXv (C : Addr) (n : Nat) (f : List V → List (Str × V)) (ta : TA) : TE := fun σ H Q => ta σ H fun vs H1 => vs.length = n ∧ ∀ e d, H1 e = none → H1 d = none → d ≠ e → Q (.ref e) (upd (upd H1 d (.xd (f vs))) e (exi C (some d) e))
def tX0 (C : Addr) : TE := fun σ H Q => ∀ e, H e = none → Q (.ref e) (upd H e (exi C none e))
theorem val_of {pins : List (Addr × Obj)} {σ : L2.St} {H1 : Hp} {Q : VK} {hp h' : Heap} {g : Array GenState} {dr : Drawn} {tk tk' : Nat} {os : OsState} {e d : Addr} {fs : List (Str × V)} {mA : Str → Option Value} (I1 : Inv X pins σ H1 ⟨hp, g, dr, tk, os⟩) (M : GX.Kept hp h' e C (some d)) (hd : hp.objs.size ≤ d) (dne : d ≠ e)
    (hns : h'.Ns1 d mA) (rel : ∀ f, RelO (List.lookup f fs) (mA f)) (q1 : ∀ e d, H1 e = none → H1 d = none → d ≠ e → Q (.ref e) (upd (upd H1 d (.xd fs)) e (exi C (some d) e))) : EP X pins σ Q (.ref e) ⟨h', g, dr, tk', os⟩ := by
  obtain ⟨oe, fv, hoe, hc, hdc, hdat, h1⟩ := M.obj
  obtain ⟨G', g1, g2⟩ := restrict h' fun b => decide (b ≠ e)
  have same : ∀ b, b ≠ e → G'.get? b = h'.get? b := fun b hb => g1 b (decide_eq_true hb)
  have gone : G'.get? e = none := g2 e (by simp)
  have old : ∀ b o, hp.get? b = some o → G'.get? b = some o := fun b o q => (same b (Nat.ne_of_lt (Nat.lt_of_lt_of_le (Heap.lt_size q) M.new))).trans (M.keep b o q)
  have ok1 : ObjOk X.prog X.w (upd H1 d (.xd fs)) G' d (.xd fs) := ⟨_, hns.at (fun o q => (same d dne).trans q), rel⟩
  have J : Inv X pins σ (upd H1 d (.xd fs)) ⟨G', g, dr, tk', os⟩ := I1.laid (t' := tk') old hd ok1
  have ne1 : H1 e = none := I1.hok.fresh M.new
  have ne2 : (upd H1 d (.xd fs)) e = none := by rw [upd_ne dne.symm]; exact ne1
  have up : ∀ b u, G'.get? b = some u → h'.get? b = some u := fun b u q => by
    by_cases hb : b = e
    · rw [hb] at q
      cases gone.symm.trans q
    · exact (same b hb).symm.trans q
  exact ⟨.ref e, _, J.laidN (t' := tk') up gone ne2 (exi_ok hoe hc hdc hdat), rfl, q1 e d ne1 (I1.hok.fresh hd) dne⟩
theorem val_0 {pins : List (Addr × Obj)} {σ : L2.St} {H1 : Hp} {Q : VK} {hp h' : Heap} {g : Array GenState} {dr : Drawn} {tk tk' : Nat} {os : OsState} {e : Addr} (I1 : Inv X pins σ H1 ⟨hp, g, dr, tk, os⟩) (M : GX.Kept hp h' e C none) (q1 : ∀ e, H1 e = none → Q (.ref e) (upd H1 e (exi C none e))) : EP X pins σ Q (.ref e) ⟨h', g, dr, tk', os⟩ := by
  obtain ⟨oe, fv, hoe, hc, hdc, hdat, h1⟩ := M.obj
  have ne1 : H1 e = none := I1.hok.fresh M.new
  exact ⟨.ref e, _, I1.laid (t' := tk') M.keep M.new (exi_ok hoe hc hdc hdat), rfl, q1 e ne1⟩
/-- C(): an error that keeps nothing -/
theorem px_0 (FB : ExcBaseFacts B newId initId bmB) (T : GX.Err0 X.K C fI bmB newId) (hr : Room k X.A) (hg : Gl X x) (hm : X.mg x = some (.ref C)) (ndb : (x == ("__debug__" : Str)) = false := by decide) : PE X (.Call (.Name x p) [] [] pos) (tX0 C) := by
  constructor
  intro pins s σ H Q I h
  refine wpAny_Call_Name_kw (ld_glob I hg hm (PySem.W.callWith_K0 I.kIn T.kp ?_) ndb)
  have hlim := I.nolimit
  obtain ⟨hp, g, dr, tk, os⟩ := s
  exact wpAny_call (GX.made_0 FB T I.kIn hlim (by have := hr.dp; omega) fun h' tk' e M => val_0 I M h)
/-- C(e, ..) to be raised: its own dict, new, keeps these -/
def tMkF (C : Addr) (n : Nat) (f : List V → List (Str × V)) (ta : TA) : L2.St → Hp → XK → Prop := fun σ H Q => ta σ H fun vs H1 => vs.length = n ∧ ∀ d, H1 d = none → Q (.ref C) (some d) (upd H1 d (.xd (f vs)))
theorem out_F {pins : List (Addr × Obj)} {σ : L2.St} {H1 : Hp} {Q : XK} {hp h' : Heap} {g : Array GenState} {dr : Drawn} {tk tk' : Nat} {os : OsState} {e d : Addr} {fs : List (Str × V)} {mA : Str → Option Value} (T : GX.ErrT X.K C fI bmB newId) (I1 : Inv X pins σ H1 ⟨hp, g, dr, tk, os⟩) (M : GX.Kept hp h' e C (some d)) (hd : hp.objs.size ≤ d) (dne : d ≠ e)
    (hns : h'.Ns1 d mA) (rel : ∀ f, RelO (List.lookup f fs) (mA f)) (q1 : ∀ d, H1 d = none → Q (.ref C) (some d) (upd H1 d (.xd fs))) : MkP X pins σ Q (.ref e) ⟨h', g, dr, tk', os⟩ := by
  obtain ⟨oe, fv, hoe, hc, hdc, hdat, h1⟩ := M.obj
  obtain ⟨G', g1, g2⟩ := restrict h' fun b => decide (b ≠ e)
  have same : ∀ b, b ≠ e → G'.get? b = h'.get? b := fun b hb => g1 b (decide_eq_true hb)
  have gone : G'.get? e = none := g2 e (by simp)
  have old : ∀ b o, hp.get? b = some o → G'.get? b = some o := fun b o q => (same b (Nat.ne_of_lt (Nat.lt_of_lt_of_le (Heap.lt_size q) M.new))).trans (M.keep b o q)
  have ok1 : ObjOk X.prog X.w (upd H1 d (.xd fs)) G' d (.xd fs) := ⟨_, hns.at (fun o q => (same d dne).trans q), rel⟩
  have J : Inv X pins σ (upd H1 d (.xd fs)) ⟨G', g, dr, tk', os⟩ := I1.laid (t' := tk') old hd ok1
  refine ⟨e, oe, fv, ⟨G', g, dr, tk', os⟩, _, .ref C, some d, rfl, J, fun b o q => ?_, gone, hoe, ⟨hc, hdc⟩, hdat, h1, ?_, rfl, I1.bare, raises_own T.exC T.ty, q1 d (I1.hok.fresh hd)⟩
  · by_cases hb : b = e
    · rw [hb] at q
      cases gone.symm.trans q
    · exact (same b hb).symm.trans q
  · rw [upd_ne dne.symm]
    exact I1.hok.fresh M.new
theorem px_value {a : Expr} {ta : TA} (SF : StoreFacts B bmB "object.__setattr__" "object") (FB : ExcBaseFacts B newId initId bmB) (T : GX.Evvalue X.K C fI bmB newId) (hr : Room k X.A) (hg : Gl X x) (hm : X.mg x = some (.ref C)) (ha : PA X [a] ta) (ndb : (x == ("__debug__" : Str)) = false := by decide)
    (he : starEach (a :: []) X.env = (false, eval a X.env) :: starEach [] X.env := by rfl) (hpl : (backTo pos (starEach [] X.env)).any (·.1) = false := by rfl) : PE X (.Call (.Name x p) [a] [] pos) (tXv C 1 (fun vs => [("value", vs.getD 0 .non)]) ta) := by
  constructor
  intro pins s σ H Q I h
  refine wpAny_Call_Name_kw (ld_glob I hg hm ?_ ndb)
  refine PySem.W.callWith_K (h₀ := X.base) I.ok.mod.kin T.kp (thn (ha.run pos pins s σ H _ I h) fun us s1 hh => ?_) he hpl
  obtain ⟨vs, H1, I1, r1, l1, q1⟩ := hh
  refine ⟨I1.kIn, ?_⟩
  cases r1 with
  | nil => cases l1
  | cons rv rn =>
    cases rn with
    | cons _ _ => cases l1
    | nil =>
      have hlim := I1.nolimit
      obtain ⟨hp, g, dr, tk, os⟩ := s1
      exact wpAny_call (GX.mvn_value (.inl rfl) SF FB T I1.kIn hlim (by have := hr.dp; omega) fun h' tk' e d M hd dne hns => val_of I1 M hd dne hns (fun y => relO_one rv "value" y) q1)
theorem pxk_value {kws : List Keyword} {ta : TA} (SF : StoreFacts B bmB "object.__setattr__" "object") (FB : ExcBaseFacts B newId initId bmB) (T : GX.Evvalue X.K C fI bmB newId) (hr : Room k X.A) (hg : Gl X x) (hm : X.mg x = some (.ref C)) (ha : PK X kws ta) (hks : (backToKw pos (keywordEach kws X.env)).filterMap (·.1) = (["value"] : List Str) := by rfl) (hall : (backToKw pos (keywordEach kws X.env)).all (·.1.isSome) = true := by rfl)
    (hpl : (backToKw pos (keywordEach kws X.env)).any (·.1.isNone) = false := by rfl) (ndb : (x == ("__debug__" : Str)) = false := by decide) : PE X (.Call (.Name x p) [] kws pos) (tXv C 1 (fun vs => [("value", vs.getD 0 .non)]) ta) := by
  constructor
  intro pins s σ H Q I h
  refine wpAny_Call_Name_kw (ld_glob I hg hm ?_ ndb)
  refine PySem.W.callWith_KW0 (h₀ := X.base) I.ok.mod.kin T.kp hall (thn (ha.run pos pins s σ H _ I h) fun us s1 hh => ?_) hpl
  obtain ⟨vs, H1, I1, r1, l1, q1⟩ := hh
  rw [hks]
  refine ⟨I1.kIn, ?_⟩
  cases r1 with
  | nil => cases l1
  | cons rv rn =>
    cases rn with
    | cons _ _ => cases l1
    | nil =>
      have hlim := I1.nolimit
      obtain ⟨hp, g, dr, tk, os⟩ := s1
      exact wpAny_call (GX.mvn_value (.inr rfl) SF FB T I1.kIn hlim (by have := hr.dp; omega) fun h' tk' e d M hd dne hns => val_of I1 M hd dne hns (fun y => relO_one rv "value" y) q1)
theorem px_position {a : Expr} {ta : TA} (SF : StoreFacts B bmB "object.__setattr__" "object") (FB : ExcBaseFacts B newId initId bmB) (T : GX.Evposition X.K C fI bmB newId) (hr : Room k X.A) (hg : Gl X x) (hm : X.mg x = some (.ref C)) (ha : PA X [a] ta) (ndb : (x == ("__debug__" : Str)) = false := by decide)
    (he : starEach (a :: []) X.env = (false, eval a X.env) :: starEach [] X.env := by rfl) (hpl : (backTo pos (starEach [] X.env)).any (·.1) = false := by rfl) : PE X (.Call (.Name x p) [a] [] pos) (tXv C 1 (fun vs => [("position", vs.getD 0 .non)]) ta) := by
  constructor
  intro pins s σ H Q I h
  refine wpAny_Call_Name_kw (ld_glob I hg hm ?_ ndb)
  refine PySem.W.callWith_K (h₀ := X.base) I.ok.mod.kin T.kp (thn (ha.run pos pins s σ H _ I h) fun us s1 hh => ?_) he hpl
  obtain ⟨vs, H1, I1, r1, l1, q1⟩ := hh
  refine ⟨I1.kIn, ?_⟩
  cases r1 with
  | nil => cases l1
  | cons rv rn =>
    cases rn with
    | cons _ _ => cases l1
    | nil =>
      have hlim := I1.nolimit
      obtain ⟨hp, g, dr, tk, os⟩ := s1
      exact wpAny_call (GX.mvn_position (.inl rfl) SF FB T I1.kIn hlim (by have := hr.dp; omega) fun h' tk' e d M hd dne hns => val_of I1 M hd dne hns (fun y => relO_one rv "position" y) q1)
theorem pxk_position {kws : List Keyword} {ta : TA} (SF : StoreFacts B bmB "object.__setattr__" "object") (FB : ExcBaseFacts B newId initId bmB) (T : GX.Evposition X.K C fI bmB newId) (hr : Room k X.A) (hg : Gl X x) (hm : X.mg x = some (.ref C)) (ha : PK X kws ta) (hks : (backToKw pos (keywordEach kws X.env)).filterMap (·.1) = (["position"] : List Str) := by rfl) (hall : (backToKw pos (keywordEach kws X.env)).all (·.1.isSome) = true := by rfl)
    (hpl : (backToKw pos (keywordEach kws X.env)).any (·.1.isNone) = false := by rfl) (ndb : (x == ("__debug__" : Str)) = false := by decide) : PE X (.Call (.Name x p) [] kws pos) (tXv C 1 (fun vs => [("position", vs.getD 0 .non)]) ta) := by
  constructor
  intro pins s σ H Q I h
  refine wpAny_Call_Name_kw (ld_glob I hg hm ?_ ndb)
  refine PySem.W.callWith_KW0 (h₀ := X.base) I.ok.mod.kin T.kp hall (thn (ha.run pos pins s σ H _ I h) fun us s1 hh => ?_) hpl
  obtain ⟨vs, H1, I1, r1, l1, q1⟩ := hh
  rw [hks]
  refine ⟨I1.kIn, ?_⟩
  cases r1 with
  | nil => cases l1
  | cons rv rn =>
    cases rn with
    | cons _ _ => cases l1
    | nil =>
      have hlim := I1.nolimit
      obtain ⟨hp, g, dr, tk, os⟩ := s1
      exact wpAny_call (GX.mvn_position (.inr rfl) SF FB T I1.kIn hlim (by have := hr.dp; omega) fun h' tk' e d M hd dne hns => val_of I1 M hd dne hns (fun y => relO_one rv "position" y) q1)
theorem px_line {a : Expr} {ta : TA} (SF : StoreFacts B bmB "object.__setattr__" "object") (FB : ExcBaseFacts B newId initId bmB) (T : GX.Evline X.K C fI bmB newId) (hr : Room k X.A) (hg : Gl X x) (hm : X.mg x = some (.ref C)) (ha : PA X [a] ta) (ndb : (x == ("__debug__" : Str)) = false := by decide)
    (he : starEach (a :: []) X.env = (false, eval a X.env) :: starEach [] X.env := by rfl) (hpl : (backTo pos (starEach [] X.env)).any (·.1) = false := by rfl) : PE X (.Call (.Name x p) [a] [] pos) (tXv C 1 (fun vs => [("line", vs.getD 0 .non)]) ta) := by
  constructor
  intro pins s σ H Q I h
  refine wpAny_Call_Name_kw (ld_glob I hg hm ?_ ndb)
  refine PySem.W.callWith_K (h₀ := X.base) I.ok.mod.kin T.kp (thn (ha.run pos pins s σ H _ I h) fun us s1 hh => ?_) he hpl
  obtain ⟨vs, H1, I1, r1, l1, q1⟩ := hh
  refine ⟨I1.kIn, ?_⟩
  cases r1 with
  | nil => cases l1
  | cons rv rn =>
    cases rn with
    | cons _ _ => cases l1
    | nil =>
      have hlim := I1.nolimit
      obtain ⟨hp, g, dr, tk, os⟩ := s1
      exact wpAny_call (GX.mvn_line (.inl rfl) SF FB T I1.kIn hlim (by have := hr.dp; omega) fun h' tk' e d M hd dne hns => val_of I1 M hd dne hns (fun y => relO_one rv "line" y) q1)
theorem pxk_line {kws : List Keyword} {ta : TA} (SF : StoreFacts B bmB "object.__setattr__" "object") (FB : ExcBaseFacts B newId initId bmB) (T : GX.Evline X.K C fI bmB newId) (hr : Room k X.A) (hg : Gl X x) (hm : X.mg x = some (.ref C)) (ha : PK X kws ta) (hks : (backToKw pos (keywordEach kws X.env)).filterMap (·.1) = (["line"] : List Str) := by rfl) (hall : (backToKw pos (keywordEach kws X.env)).all (·.1.isSome) = true := by rfl)
    (hpl : (backToKw pos (keywordEach kws X.env)).any (·.1.isNone) = false := by rfl) (ndb : (x == ("__debug__" : Str)) = false := by decide) : PE X (.Call (.Name x p) [] kws pos) (tXv C 1 (fun vs => [("line", vs.getD 0 .non)]) ta) := by
  constructor
  intro pins s σ H Q I h
  refine wpAny_Call_Name_kw (ld_glob I hg hm ?_ ndb)
  refine PySem.W.callWith_KW0 (h₀ := X.base) I.ok.mod.kin T.kp hall (thn (ha.run pos pins s σ H _ I h) fun us s1 hh => ?_) hpl
  obtain ⟨vs, H1, I1, r1, l1, q1⟩ := hh
  rw [hks]
  refine ⟨I1.kIn, ?_⟩
  cases r1 with
  | nil => cases l1
  | cons rv rn =>
    cases rn with
    | cons _ _ => cases l1
    | nil =>
      have hlim := I1.nolimit
      obtain ⟨hp, g, dr, tk, os⟩ := s1
      exact wpAny_call (GX.mvn_line (.inr rfl) SF FB T I1.kIn hlim (by have := hr.dp; omega) fun h' tk' e d M hd dne hns => val_of I1 M hd dne hns (fun y => relO_one rv "line" y) q1)
theorem px_group {a : Expr} {ta : TA} (SF : StoreFacts B bmB "object.__setattr__" "object") (FB : ExcBaseFacts B newId initId bmB) (T : GX.Evgroup X.K C fI bmB newId) (hr : Room k X.A) (hg : Gl X x) (hm : X.mg x = some (.ref C)) (ha : PA X [a] ta) (ndb : (x == ("__debug__" : Str)) = false := by decide)
    (he : starEach (a :: []) X.env = (false, eval a X.env) :: starEach [] X.env := by rfl) (hpl : (backTo pos (starEach [] X.env)).any (·.1) = false := by rfl) : PE X (.Call (.Name x p) [a] [] pos) (tXv C 1 (fun vs => [("group", vs.getD 0 .non)]) ta) := by
  constructor
  intro pins s σ H Q I h
  refine wpAny_Call_Name_kw (ld_glob I hg hm ?_ ndb)
  refine PySem.W.callWith_K (h₀ := X.base) I.ok.mod.kin T.kp (thn (ha.run pos pins s σ H _ I h) fun us s1 hh => ?_) he hpl
  obtain ⟨vs, H1, I1, r1, l1, q1⟩ := hh
  refine ⟨I1.kIn, ?_⟩
  cases r1 with
  | nil => cases l1
  | cons rv rn =>
    cases rn with
    | cons _ _ => cases l1
    | nil =>
      have hlim := I1.nolimit
      obtain ⟨hp, g, dr, tk, os⟩ := s1
      exact wpAny_call (GX.mvn_group (.inl rfl) SF FB T I1.kIn hlim (by have := hr.dp; omega) fun h' tk' e d M hd dne hns => val_of I1 M hd dne hns (fun y => relO_one rv "group" y) q1)
theorem pxk_group {kws : List Keyword} {ta : TA} (SF : StoreFacts B bmB "object.__setattr__" "object") (FB : ExcBaseFacts B newId initId bmB) (T : GX.Evgroup X.K C fI bmB newId) (hr : Room k X.A) (hg : Gl X x) (hm : X.mg x = some (.ref C)) (ha : PK X kws ta) (hks : (backToKw pos (keywordEach kws X.env)).filterMap (·.1) = (["group"] : List Str) := by rfl) (hall : (backToKw pos (keywordEach kws X.env)).all (·.1.isSome) = true := by rfl)
    (hpl : (backToKw pos (keywordEach kws X.env)).any (·.1.isNone) = false := by rfl) (ndb : (x == ("__debug__" : Str)) = false := by decide) : PE X (.Call (.Name x p) [] kws pos) (tXv C 1 (fun vs => [("group", vs.getD 0 .non)]) ta) := by
  constructor
  intro pins s σ H Q I h
  refine wpAny_Call_Name_kw (ld_glob I hg hm ?_ ndb)
  refine PySem.W.callWith_KW0 (h₀ := X.base) I.ok.mod.kin T.kp hall (thn (ha.run pos pins s σ H _ I h) fun us s1 hh => ?_) hpl
  obtain ⟨vs, H1, I1, r1, l1, q1⟩ := hh
  rw [hks]
  refine ⟨I1.kIn, ?_⟩
  cases r1 with
  | nil => cases l1
  | cons rv rn =>
    cases rn with
    | cons _ _ => cases l1
    | nil =>
      have hlim := I1.nolimit
      obtain ⟨hp, g, dr, tk, os⟩ := s1
      exact wpAny_call (GX.mvn_group (.inr rfl) SF FB T I1.kIn hlim (by have := hr.dp; omega) fun h' tk' e d M hd dne hns => val_of I1 M hd dne hns (fun y => relO_one rv "group" y) q1)
theorem px_hand {a : Expr} {ta : TA} (SF : StoreFacts B bmB "object.__setattr__" "object") (FB : ExcBaseFacts B newId initId bmB) (T : GX.Evhand X.K C fI bmB newId) (hr : Room k X.A) (hg : Gl X x) (hm : X.mg x = some (.ref C)) (ha : PA X [a] ta) (ndb : (x == ("__debug__" : Str)) = false := by decide)
    (he : starEach (a :: []) X.env = (false, eval a X.env) :: starEach [] X.env := by rfl) (hpl : (backTo pos (starEach [] X.env)).any (·.1) = false := by rfl) : PE X (.Call (.Name x p) [a] [] pos) (tXv C 1 (fun vs => [("hand", vs.getD 0 .non)]) ta) := by
  constructor
  intro pins s σ H Q I h
  refine wpAny_Call_Name_kw (ld_glob I hg hm ?_ ndb)
  refine PySem.W.callWith_K (h₀ := X.base) I.ok.mod.kin T.kp (thn (ha.run pos pins s σ H _ I h) fun us s1 hh => ?_) he hpl
  obtain ⟨vs, H1, I1, r1, l1, q1⟩ := hh
  refine ⟨I1.kIn, ?_⟩
  cases r1 with
  | nil => cases l1
  | cons rv rn =>
    cases rn with
    | cons _ _ => cases l1
    | nil =>
      have hlim := I1.nolimit
      obtain ⟨hp, g, dr, tk, os⟩ := s1
      exact wpAny_call (GX.mvn_hand (.inl rfl) SF FB T I1.kIn hlim (by have := hr.dp; omega) fun h' tk' e d M hd dne hns => val_of I1 M hd dne hns (fun y => relO_one rv "hand" y) q1)
theorem pxk_hand {kws : List Keyword} {ta : TA} (SF : StoreFacts B bmB "object.__setattr__" "object") (FB : ExcBaseFacts B newId initId bmB) (T : GX.Evhand X.K C fI bmB newId) (hr : Room k X.A) (hg : Gl X x) (hm : X.mg x = some (.ref C)) (ha : PK X kws ta) (hks : (backToKw pos (keywordEach kws X.env)).filterMap (·.1) = (["hand"] : List Str) := by rfl) (hall : (backToKw pos (keywordEach kws X.env)).all (·.1.isSome) = true := by rfl)
    (hpl : (backToKw pos (keywordEach kws X.env)).any (·.1.isNone) = false := by rfl) (ndb : (x == ("__debug__" : Str)) = false := by decide) : PE X (.Call (.Name x p) [] kws pos) (tXv C 1 (fun vs => [("hand", vs.getD 0 .non)]) ta) := by
  constructor
  intro pins s σ H Q I h
  refine wpAny_Call_Name_kw (ld_glob I hg hm ?_ ndb)
  refine PySem.W.callWith_KW0 (h₀ := X.base) I.ok.mod.kin T.kp hall (thn (ha.run pos pins s σ H _ I h) fun us s1 hh => ?_) hpl
  obtain ⟨vs, H1, I1, r1, l1, q1⟩ := hh
  rw [hks]
  refine ⟨I1.kIn, ?_⟩
  cases r1 with
  | nil => cases l1
  | cons rv rn =>
    cases rn with
    | cons _ _ => cases l1
    | nil =>
      have hlim := I1.nolimit
      obtain ⟨hp, g, dr, tk, os⟩ := s1
      exact wpAny_call (GX.mvn_hand (.inr rfl) SF FB T I1.kIn hlim (by have := hr.dp; omega) fun h' tk' e d M hd dne hns => val_of I1 M hd dne hns (fun y => relO_one rv "hand" y) q1)
theorem px_thing {a : Expr} {ta : TA} (SF : StoreFacts B bmB "object.__setattr__" "object") (FB : ExcBaseFacts B newId initId bmB) (T : GX.Evthing X.K C fI bmB newId) (hr : Room k X.A) (hg : Gl X x) (hm : X.mg x = some (.ref C)) (ha : PA X [a] ta) (ndb : (x == ("__debug__" : Str)) = false := by decide)
    (he : starEach (a :: []) X.env = (false, eval a X.env) :: starEach [] X.env := by rfl) (hpl : (backTo pos (starEach [] X.env)).any (·.1) = false := by rfl) : PE X (.Call (.Name x p) [a] [] pos) (tXv C 1 (fun vs => [("thing", vs.getD 0 .non)]) ta) := by
  constructor
  intro pins s σ H Q I h
  refine wpAny_Call_Name_kw (ld_glob I hg hm ?_ ndb)
  refine PySem.W.callWith_K (h₀ := X.base) I.ok.mod.kin T.kp (thn (ha.run pos pins s σ H _ I h) fun us s1 hh => ?_) he hpl
  obtain ⟨vs, H1, I1, r1, l1, q1⟩ := hh
  refine ⟨I1.kIn, ?_⟩
  cases r1 with
  | nil => cases l1
  | cons rv rn =>
    cases rn with
    | cons _ _ => cases l1
    | nil =>
      have hlim := I1.nolimit
      obtain ⟨hp, g, dr, tk, os⟩ := s1
      exact wpAny_call (GX.mvn_thing (.inl rfl) SF FB T I1.kIn hlim (by have := hr.dp; omega) fun h' tk' e d M hd dne hns => val_of I1 M hd dne hns (fun y => relO_one rv "thing" y) q1)
theorem pxk_thing {kws : List Keyword} {ta : TA} (SF : StoreFacts B bmB "object.__setattr__" "object") (FB : ExcBaseFacts B newId initId bmB) (T : GX.Evthing X.K C fI bmB newId) (hr : Room k X.A) (hg : Gl X x) (hm : X.mg x = some (.ref C)) (ha : PK X kws ta) (hks : (backToKw pos (keywordEach kws X.env)).filterMap (·.1) = (["thing"] : List Str) := by rfl) (hall : (backToKw pos (keywordEach kws X.env)).all (·.1.isSome) = true := by rfl)
    (hpl : (backToKw pos (keywordEach kws X.env)).any (·.1.isNone) = false := by rfl) (ndb : (x == ("__debug__" : Str)) = false := by decide) : PE X (.Call (.Name x p) [] kws pos) (tXv C 1 (fun vs => [("thing", vs.getD 0 .non)]) ta) := by
  constructor
  intro pins s σ H Q I h
  refine wpAny_Call_Name_kw (ld_glob I hg hm ?_ ndb)
  refine PySem.W.callWith_KW0 (h₀ := X.base) I.ok.mod.kin T.kp hall (thn (ha.run pos pins s σ H _ I h) fun us s1 hh => ?_) hpl
  obtain ⟨vs, H1, I1, r1, l1, q1⟩ := hh
  rw [hks]
  refine ⟨I1.kIn, ?_⟩
  cases r1 with
  | nil => cases l1
  | cons rv rn =>
    cases rn with
    | cons _ _ => cases l1
    | nil =>
      have hlim := I1.nolimit
      obtain ⟨hp, g, dr, tk, os⟩ := s1
      exact wpAny_call (GX.mvn_thing (.inr rfl) SF FB T I1.kIn hlim (by have := hr.dp; omega) fun h' tk' e d M hd dne hns => val_of I1 M hd dne hns (fun y => relO_one rv "thing" y) q1)
theorem px_kind {a : Expr} {ta : TA} (SF : StoreFacts B bmB "object.__setattr__" "object") (FB : ExcBaseFacts B newId initId bmB) (T : GX.Evkind X.K C fI bmB newId) (hr : Room k X.A) (hg : Gl X x) (hm : X.mg x = some (.ref C)) (ha : PA X [a] ta) (ndb : (x == ("__debug__" : Str)) = false := by decide)
    (he : starEach (a :: []) X.env = (false, eval a X.env) :: starEach [] X.env := by rfl) (hpl : (backTo pos (starEach [] X.env)).any (·.1) = false := by rfl) : PE X (.Call (.Name x p) [a] [] pos) (tXv C 1 (fun vs => [("kind", vs.getD 0 .non)]) ta) := by
  constructor
  intro pins s σ H Q I h
  refine wpAny_Call_Name_kw (ld_glob I hg hm ?_ ndb)
  refine PySem.W.callWith_K (h₀ := X.base) I.ok.mod.kin T.kp (thn (ha.run pos pins s σ H _ I h) fun us s1 hh => ?_) he hpl
  obtain ⟨vs, H1, I1, r1, l1, q1⟩ := hh
  refine ⟨I1.kIn, ?_⟩
  cases r1 with
  | nil => cases l1
  | cons rv rn =>
    cases rn with
    | cons _ _ => cases l1
    | nil =>
      have hlim := I1.nolimit
      obtain ⟨hp, g, dr, tk, os⟩ := s1
      exact wpAny_call (GX.mvn_kind (.inl rfl) SF FB T I1.kIn hlim (by have := hr.dp; omega) fun h' tk' e d M hd dne hns => val_of I1 M hd dne hns (fun y => relO_one rv "kind" y) q1)
theorem pxk_kind {kws : List Keyword} {ta : TA} (SF : StoreFacts B bmB "object.__setattr__" "object") (FB : ExcBaseFacts B newId initId bmB) (T : GX.Evkind X.K C fI bmB newId) (hr : Room k X.A) (hg : Gl X x) (hm : X.mg x = some (.ref C)) (ha : PK X kws ta) (hks : (backToKw pos (keywordEach kws X.env)).filterMap (·.1) = (["kind"] : List Str) := by rfl) (hall : (backToKw pos (keywordEach kws X.env)).all (·.1.isSome) = true := by rfl)
    (hpl : (backToKw pos (keywordEach kws X.env)).any (·.1.isNone) = false := by rfl) (ndb : (x == ("__debug__" : Str)) = false := by decide) : PE X (.Call (.Name x p) [] kws pos) (tXv C 1 (fun vs => [("kind", vs.getD 0 .non)]) ta) := by
  constructor
  intro pins s σ H Q I h
  refine wpAny_Call_Name_kw (ld_glob I hg hm ?_ ndb)
  refine PySem.W.callWith_KW0 (h₀ := X.base) I.ok.mod.kin T.kp hall (thn (ha.run pos pins s σ H _ I h) fun us s1 hh => ?_) hpl
  obtain ⟨vs, H1, I1, r1, l1, q1⟩ := hh
  rw [hks]
  refine ⟨I1.kIn, ?_⟩
  cases r1 with
  | nil => cases l1
  | cons rv rn =>
    cases rn with
    | cons _ _ => cases l1
    | nil =>
      have hlim := I1.nolimit
      obtain ⟨hp, g, dr, tk, os⟩ := s1
      exact wpAny_call (GX.mvn_kind (.inr rfl) SF FB T I1.kIn hlim (by have := hr.dp; omega) fun h' tk' e d M hd dne hns => val_of I1 M hd dne hns (fun y => relO_one rv "kind" y) q1)
theorem px_wish {a : Expr} {ta : TA} (SF : StoreFacts B bmB "object.__setattr__" "object") (FB : ExcBaseFacts B newId initId bmB) (T : GX.Evwish X.K C fI bmB newId) (hr : Room k X.A) (hg : Gl X x) (hm : X.mg x = some (.ref C)) (ha : PA X [a] ta) (ndb : (x == ("__debug__" : Str)) = false := by decide)
    (he : starEach (a :: []) X.env = (false, eval a X.env) :: starEach [] X.env := by rfl) (hpl : (backTo pos (starEach [] X.env)).any (·.1) = false := by rfl) : PE X (.Call (.Name x p) [a] [] pos) (tXv C 1 (fun vs => [("wish", vs.getD 0 .non)]) ta) := by
  constructor
  intro pins s σ H Q I h
  refine wpAny_Call_Name_kw (ld_glob I hg hm ?_ ndb)
  refine PySem.W.callWith_K (h₀ := X.base) I.ok.mod.kin T.kp (thn (ha.run pos pins s σ H _ I h) fun us s1 hh => ?_) he hpl
  obtain ⟨vs, H1, I1, r1, l1, q1⟩ := hh
  refine ⟨I1.kIn, ?_⟩
  cases r1 with
  | nil => cases l1
  | cons rv rn =>
    cases rn with
    | cons _ _ => cases l1
    | nil =>
      have hlim := I1.nolimit
      obtain ⟨hp, g, dr, tk, os⟩ := s1
      exact wpAny_call (GX.mvn_wish (.inl rfl) SF FB T I1.kIn hlim (by have := hr.dp; omega) fun h' tk' e d M hd dne hns => val_of I1 M hd dne hns (fun y => relO_one rv "wish" y) q1)
theorem pxk_wish {kws : List Keyword} {ta : TA} (SF : StoreFacts B bmB "object.__setattr__" "object") (FB : ExcBaseFacts B newId initId bmB) (T : GX.Evwish X.K C fI bmB newId) (hr : Room k X.A) (hg : Gl X x) (hm : X.mg x = some (.ref C)) (ha : PK X kws ta) (hks : (backToKw pos (keywordEach kws X.env)).filterMap (·.1) = (["wish"] : List Str) := by rfl) (hall : (backToKw pos (keywordEach kws X.env)).all (·.1.isSome) = true := by rfl)
    (hpl : (backToKw pos (keywordEach kws X.env)).any (·.1.isNone) = false := by rfl) (ndb : (x == ("__debug__" : Str)) = false := by decide) : PE X (.Call (.Name x p) [] kws pos) (tXv C 1 (fun vs => [("wish", vs.getD 0 .non)]) ta) := by
  constructor
  intro pins s σ H Q I h
  refine wpAny_Call_Name_kw (ld_glob I hg hm ?_ ndb)
  refine PySem.W.callWith_KW0 (h₀ := X.base) I.ok.mod.kin T.kp hall (thn (ha.run pos pins s σ H _ I h) fun us s1 hh => ?_) hpl
  obtain ⟨vs, H1, I1, r1, l1, q1⟩ := hh
  rw [hks]
  refine ⟨I1.kIn, ?_⟩
  cases r1 with
  | nil => cases l1
  | cons rv rn =>
    cases rn with
    | cons _ _ => cases l1
    | nil =>
      have hlim := I1.nolimit
      obtain ⟨hp, g, dr, tk, os⟩ := s1
      exact wpAny_call (GX.mvn_wish (.inr rfl) SF FB T I1.kIn hlim (by have := hr.dp; omega) fun h' tk' e d M hd dne hns => val_of I1 M hd dne hns (fun y => relO_one rv "wish" y) q1)
theorem rel_kind_value {v u : V} {v' u' : Value} (r : RelV v v') (q : RelV u u') (f : Str) : RelO (List.lookup f [("kind", v), ("value", u)]) (if f = "value" then some u' else if f = "kind" then some v' else none) := by
  by_cases h1 : f = "kind"
  · subst h1
    rw [if_neg (by decide), if_pos rfl]
    exact r
  · by_cases h2 : f = "value"
    · subst h2
      rw [if_pos rfl]
      exact q
    · have q1 : (f == ("kind" : Str)) = false := by simpa using h1
      have q2 : (f == ("value" : Str)) = false := by simpa using h2
      rw [if_neg h2, if_neg h1]
      simp only [List.lookup, q1, q2]
      trivial
theorem px_kind_value {a b : Expr} {ta : TA} (SF : StoreFacts B bmB "object.__setattr__" "object") (FB : ExcBaseFacts B newId initId bmB) (T : GX.Evkind_value X.K C fI bmB newId) (hr : Room k X.A) (hg : Gl X x) (hm : X.mg x = some (.ref C)) (ha : PA X [a, b] ta) (ndb : (x == ("__debug__" : Str)) = false := by decide)
    (he : starEach (a :: [b]) X.env = (false, eval a X.env) :: starEach [b] X.env := by rfl) (hpl : (backTo pos (starEach [b] X.env)).any (·.1) = false := by rfl) : PE X (.Call (.Name x p) [a, b] [] pos) (tXv C 2 (fun vs => [("kind", vs.getD 0 .non), ("value", vs.getD 1 .non)]) ta) := by
  constructor
  intro pins s σ H Q I h
  refine wpAny_Call_Name_kw (ld_glob I hg hm ?_ ndb)
  refine PySem.W.callWith_K (h₀ := X.base) I.ok.mod.kin T.kp (thn (ha.run pos pins s σ H _ I h) fun us s1 hh => ?_) he hpl
  obtain ⟨vs, H1, I1, r1, l1, q1⟩ := hh
  refine ⟨I1.kIn, ?_⟩
  cases r1 with
  | nil => cases l1
  | cons rv rn =>
    cases rn with
    | nil => cases l1
    | cons ru rn =>
      cases rn with
      | cons _ _ => cases l1
      | nil =>
        have hlim := I1.nolimit
        obtain ⟨hp, g, dr, tk, os⟩ := s1
        exact wpAny_call (GX.mvn_kind_value (.inl rfl) SF FB T I1.kIn hlim (by have := hr.dp; omega) fun h' tk' e d M hd dne hns => val_of I1 M hd dne hns (fun y => rel_kind_value rv ru y) q1)
theorem pxk_kind_value {kws : List Keyword} {ta : TA} (SF : StoreFacts B bmB "object.__setattr__" "object") (FB : ExcBaseFacts B newId initId bmB) (T : GX.Evkind_value X.K C fI bmB newId) (hr : Room k X.A) (hg : Gl X x) (hm : X.mg x = some (.ref C)) (ha : PK X kws ta) (hks : (backToKw pos (keywordEach kws X.env)).filterMap (·.1) = (["value", "kind"] : List Str) := by rfl) (hall : (backToKw pos (keywordEach kws X.env)).all (·.1.isSome) = true := by rfl)
    (hpl : (backToKw pos (keywordEach kws X.env)).any (·.1.isNone) = false := by rfl) (ndb : (x == ("__debug__" : Str)) = false := by decide) : PE X (.Call (.Name x p) [] kws pos) (tXv C 2 (fun vs => [("kind", vs.getD 1 .non), ("value", vs.getD 0 .non)]) ta) := by
  constructor
  intro pins s σ H Q I h
  refine wpAny_Call_Name_kw (ld_glob I hg hm ?_ ndb)
  refine PySem.W.callWith_KW0 (h₀ := X.base) I.ok.mod.kin T.kp hall (thn (ha.run pos pins s σ H _ I h) fun us s1 hh => ?_) hpl
  obtain ⟨vs, H1, I1, r1, l1, q1⟩ := hh
  rw [hks]
  refine ⟨I1.kIn, ?_⟩
  cases r1 with
  | nil => cases l1
  | cons ru rn =>
    cases rn with
    | nil => cases l1
    | cons rv rn =>
      cases rn with
      | cons _ _ => cases l1
      | nil =>
        have hlim := I1.nolimit
        obtain ⟨hp, g, dr, tk, os⟩ := s1
        exact wpAny_call (GX.mvn_kind_value (.inr rfl) SF FB T I1.kIn hlim (by have := hr.dp; omega) fun h' tk' e d M hd dne hns => val_of I1 M hd dne hns (fun y => rel_kind_value rv ru y) q1)
theorem pmk_kind_value {a b : Expr} {ta : TA} (SF : StoreFacts B bmB "object.__setattr__" "object") (FB : ExcBaseFacts B newId initId bmB) (T : GX.Evkind_value X.K C fI bmB newId) (hr : Room k X.A) (hg : Gl X x) (hm : X.mg x = some (.ref C)) (ha : PA X [a, b] ta) (ndb : (x == ("__debug__" : Str)) = false := by decide)
    (he : starEach (a :: [b]) X.env = (false, eval a X.env) :: starEach [b] X.env := by rfl) (hpl : (backTo pos (starEach [b] X.env)).any (·.1) = false := by rfl) : PMk X (.Call (.Name x p) [a, b] [] pos) (tMkF C 2 (fun vs => [("kind", vs.getD 0 .non), ("value", vs.getD 1 .non)]) ta) := by
  intro pins s σ H Q I h
  refine wpAny_Call_Name_kw (ld_glob I hg hm ?_ ndb)
  refine PySem.W.callWith_K (h₀ := X.base) I.ok.mod.kin T.kp (thn (ha.run pos pins s σ H _ I h) fun us s1 hh => ?_) he hpl
  obtain ⟨vs, H1, I1, r1, l1, q1⟩ := hh
  refine ⟨I1.kIn, ?_⟩
  cases r1 with
  | nil => cases l1
  | cons rv rn =>
    cases rn with
    | nil => cases l1
    | cons ru rn =>
      cases rn with
      | cons _ _ => cases l1
      | nil =>
        have hlim := I1.nolimit
        obtain ⟨hp, g, dr, tk, os⟩ := s1
        exact wpAny_call (GX.mvn_kind_value (.inl rfl) SF FB T I1.kIn hlim (by have := hr.dp; omega) fun h' tk' e d M hd dne hns => out_F T.toErrT I1 M hd dne hns (fun y => rel_kind_value rv ru y) q1)
theorem rel_name_value {v u : V} {v' u' : Value} (r : RelV v v') (q : RelV u u') (f : Str) : RelO (List.lookup f [("name", v), ("value", u)]) (if f = "value" then some u' else if f = "name" then some v' else none) := by
  by_cases h1 : f = "name"
  · subst h1
    rw [if_neg (by decide), if_pos rfl]
    exact r
  · by_cases h2 : f = "value"
    · subst h2
      rw [if_pos rfl]
      exact q
    · have q1 : (f == ("name" : Str)) = false := by simpa using h1
      have q2 : (f == ("value" : Str)) = false := by simpa using h2
      rw [if_neg h2, if_neg h1]
      simp only [List.lookup, q1, q2]
      trivial
theorem px_name_value {a b : Expr} {ta : TA} (SF : StoreFacts B bmB "object.__setattr__" "object") (FB : ExcBaseFacts B newId initId bmB) (T : GX.Evname_value X.K C fI bmB newId) (hr : Room k X.A) (hg : Gl X x) (hm : X.mg x = some (.ref C)) (ha : PA X [a, b] ta) (ndb : (x == ("__debug__" : Str)) = false := by decide)
    (he : starEach (a :: [b]) X.env = (false, eval a X.env) :: starEach [b] X.env := by rfl) (hpl : (backTo pos (starEach [b] X.env)).any (·.1) = false := by rfl) : PE X (.Call (.Name x p) [a, b] [] pos) (tXv C 2 (fun vs => [("name", vs.getD 0 .non), ("value", vs.getD 1 .non)]) ta) := by
  constructor
  intro pins s σ H Q I h
  refine wpAny_Call_Name_kw (ld_glob I hg hm ?_ ndb)
  refine PySem.W.callWith_K (h₀ := X.base) I.ok.mod.kin T.kp (thn (ha.run pos pins s σ H _ I h) fun us s1 hh => ?_) he hpl
  obtain ⟨vs, H1, I1, r1, l1, q1⟩ := hh
  refine ⟨I1.kIn, ?_⟩
  cases r1 with
  | nil => cases l1
  | cons rv rn =>
    cases rn with
    | nil => cases l1
    | cons ru rn =>
      cases rn with
      | cons _ _ => cases l1
      | nil =>
        have hlim := I1.nolimit
        obtain ⟨hp, g, dr, tk, os⟩ := s1
        exact wpAny_call (GX.mvn_name_value (.inl rfl) SF FB T I1.kIn hlim (by have := hr.dp; omega) fun h' tk' e d M hd dne hns => val_of I1 M hd dne hns (fun y => rel_name_value rv ru y) q1)
theorem pxk_name_value {kws : List Keyword} {ta : TA} (SF : StoreFacts B bmB "object.__setattr__" "object") (FB : ExcBaseFacts B newId initId bmB) (T : GX.Evname_value X.K C fI bmB newId) (hr : Room k X.A) (hg : Gl X x) (hm : X.mg x = some (.ref C)) (ha : PK X kws ta) (hks : (backToKw pos (keywordEach kws X.env)).filterMap (·.1) = (["value", "name"] : List Str) := by rfl) (hall : (backToKw pos (keywordEach kws X.env)).all (·.1.isSome) = true := by rfl)
    (hpl : (backToKw pos (keywordEach kws X.env)).any (·.1.isNone) = false := by rfl) (ndb : (x == ("__debug__" : Str)) = false := by decide) : PE X (.Call (.Name x p) [] kws pos) (tXv C 2 (fun vs => [("name", vs.getD 1 .non), ("value", vs.getD 0 .non)]) ta) := by
  constructor
  intro pins s σ H Q I h
  refine wpAny_Call_Name_kw (ld_glob I hg hm ?_ ndb)
  refine PySem.W.callWith_KW0 (h₀ := X.base) I.ok.mod.kin T.kp hall (thn (ha.run pos pins s σ H _ I h) fun us s1 hh => ?_) hpl
  obtain ⟨vs, H1, I1, r1, l1, q1⟩ := hh
  rw [hks]
  refine ⟨I1.kIn, ?_⟩
  cases r1 with
  | nil => cases l1
  | cons ru rn =>
    cases rn with
    | nil => cases l1
    | cons rv rn =>
      cases rn with
      | cons _ _ => cases l1
      | nil =>
        have hlim := I1.nolimit
        obtain ⟨hp, g, dr, tk, os⟩ := s1
        exact wpAny_call (GX.mvn_name_value (.inr rfl) SF FB T I1.kIn hlim (by have := hr.dp; omega) fun h' tk' e d M hd dne hns => val_of I1 M hd dne hns (fun y => rel_name_value rv ru y) q1)
theorem rel_thing_kind {v u : V} {v' u' : Value} (r : RelV v v') (q : RelV u u') (f : Str) : RelO (List.lookup f [("thing", v), ("kind", u)]) (if f = "kind" then some u' else if f = "thing" then some v' else none) := by
  by_cases h1 : f = "thing"
  · subst h1
    rw [if_neg (by decide), if_pos rfl]
    exact r
  · by_cases h2 : f = "kind"
    · subst h2
      rw [if_pos rfl]
      exact q
    · have q1 : (f == ("thing" : Str)) = false := by simpa using h1
      have q2 : (f == ("kind" : Str)) = false := by simpa using h2
      rw [if_neg h2, if_neg h1]
      simp only [List.lookup, q1, q2]
      trivial
theorem px_thing_kind {a b : Expr} {ta : TA} (SF : StoreFacts B bmB "object.__setattr__" "object") (FB : ExcBaseFacts B newId initId bmB) (T : GX.Evthing_kind X.K C fI bmB newId) (hr : Room k X.A) (hg : Gl X x) (hm : X.mg x = some (.ref C)) (ha : PA X [a, b] ta) (ndb : (x == ("__debug__" : Str)) = false := by decide)
    (he : starEach (a :: [b]) X.env = (false, eval a X.env) :: starEach [b] X.env := by rfl) (hpl : (backTo pos (starEach [b] X.env)).any (·.1) = false := by rfl) : PE X (.Call (.Name x p) [a, b] [] pos) (tXv C 2 (fun vs => [("thing", vs.getD 0 .non), ("kind", vs.getD 1 .non)]) ta) := by
  constructor
  intro pins s σ H Q I h
  refine wpAny_Call_Name_kw (ld_glob I hg hm ?_ ndb)
  refine PySem.W.callWith_K (h₀ := X.base) I.ok.mod.kin T.kp (thn (ha.run pos pins s σ H _ I h) fun us s1 hh => ?_) he hpl
  obtain ⟨vs, H1, I1, r1, l1, q1⟩ := hh
  refine ⟨I1.kIn, ?_⟩
  cases r1 with
  | nil => cases l1
  | cons rv rn =>
    cases rn with
    | nil => cases l1
    | cons ru rn =>
      cases rn with
      | cons _ _ => cases l1
      | nil =>
        have hlim := I1.nolimit
        obtain ⟨hp, g, dr, tk, os⟩ := s1
        exact wpAny_call (GX.mvn_thing_kind (.inl rfl) SF FB T I1.kIn hlim (by have := hr.dp; omega) fun h' tk' e d M hd dne hns => val_of I1 M hd dne hns (fun y => rel_thing_kind rv ru y) q1)
theorem pxk_thing_kind {kws : List Keyword} {ta : TA} (SF : StoreFacts B bmB "object.__setattr__" "object") (FB : ExcBaseFacts B newId initId bmB) (T : GX.Evthing_kind X.K C fI bmB newId) (hr : Room k X.A) (hg : Gl X x) (hm : X.mg x = some (.ref C)) (ha : PK X kws ta) (hks : (backToKw pos (keywordEach kws X.env)).filterMap (·.1) = (["kind", "thing"] : List Str) := by rfl) (hall : (backToKw pos (keywordEach kws X.env)).all (·.1.isSome) = true := by rfl)
    (hpl : (backToKw pos (keywordEach kws X.env)).any (·.1.isNone) = false := by rfl) (ndb : (x == ("__debug__" : Str)) = false := by decide) : PE X (.Call (.Name x p) [] kws pos) (tXv C 2 (fun vs => [("thing", vs.getD 1 .non), ("kind", vs.getD 0 .non)]) ta) := by
  constructor
  intro pins s σ H Q I h
  refine wpAny_Call_Name_kw (ld_glob I hg hm ?_ ndb)
  refine PySem.W.callWith_KW0 (h₀ := X.base) I.ok.mod.kin T.kp hall (thn (ha.run pos pins s σ H _ I h) fun us s1 hh => ?_) hpl
  obtain ⟨vs, H1, I1, r1, l1, q1⟩ := hh
  rw [hks]
  refine ⟨I1.kIn, ?_⟩
  cases r1 with
  | nil => cases l1
  | cons ru rn =>
    cases rn with
    | nil => cases l1
    | cons rv rn =>
      cases rn with
      | cons _ _ => cases l1
      | nil =>
        have hlim := I1.nolimit
        obtain ⟨hp, g, dr, tk, os⟩ := s1
        exact wpAny_call (GX.mvn_thing_kind (.inr rfl) SF FB T I1.kIn hlim (by have := hr.dp; omega) fun h' tk' e d M hd dne hns => val_of I1 M hd dne hns (fun y => rel_thing_kind rv ru y) q1)
theorem pmk_thing_kind {a b : Expr} {ta : TA} (SF : StoreFacts B bmB "object.__setattr__" "object") (FB : ExcBaseFacts B newId initId bmB) (T : GX.Evthing_kind X.K C fI bmB newId) (hr : Room k X.A) (hg : Gl X x) (hm : X.mg x = some (.ref C)) (ha : PA X [a, b] ta) (ndb : (x == ("__debug__" : Str)) = false := by decide)
    (he : starEach (a :: [b]) X.env = (false, eval a X.env) :: starEach [b] X.env := by rfl) (hpl : (backTo pos (starEach [b] X.env)).any (·.1) = false := by rfl) : PMk X (.Call (.Name x p) [a, b] [] pos) (tMkF C 2 (fun vs => [("thing", vs.getD 0 .non), ("kind", vs.getD 1 .non)]) ta) := by
  intro pins s σ H Q I h
  refine wpAny_Call_Name_kw (ld_glob I hg hm ?_ ndb)
  refine PySem.W.callWith_K (h₀ := X.base) I.ok.mod.kin T.kp (thn (ha.run pos pins s σ H _ I h) fun us s1 hh => ?_) he hpl
  obtain ⟨vs, H1, I1, r1, l1, q1⟩ := hh
  refine ⟨I1.kIn, ?_⟩
  cases r1 with
  | nil => cases l1
  | cons rv rn =>
    cases rn with
    | nil => cases l1
    | cons ru rn =>
      cases rn with
      | cons _ _ => cases l1
      | nil =>
        have hlim := I1.nolimit
        obtain ⟨hp, g, dr, tk, os⟩ := s1
        exact wpAny_call (GX.mvn_thing_kind (.inl rfl) SF FB T I1.kIn hlim (by have := hr.dp; omega) fun h' tk' e d M hd dne hns => out_F T.toErrT I1 M hd dne hns (fun y => rel_thing_kind rv ru y) q1)
theorem rel_what_limit {v u : V} {v' u' : Value} (r : RelV v v') (q : RelV u u') (f : Str) : RelO (List.lookup f [("what", v), ("limit", u)]) (if f = "limit" then some u' else if f = "what" then some v' else none) := by
  by_cases h1 : f = "what"
  · subst h1
    rw [if_neg (by decide), if_pos rfl]
    exact r
  · by_cases h2 : f = "limit"
    · subst h2
      rw [if_pos rfl]
      exact q
    · have q1 : (f == ("what" : Str)) = false := by simpa using h1
      have q2 : (f == ("limit" : Str)) = false := by simpa using h2
      rw [if_neg h2, if_neg h1]
      simp only [List.lookup, q1, q2]
      trivial
theorem px_what_limit {a b : Expr} {ta : TA} (SF : StoreFacts B bmB "object.__setattr__" "object") (FB : ExcBaseFacts B newId initId bmB) (T : GX.Evwhat_limit X.K C fI bmB newId) (hr : Room k X.A) (hg : Gl X x) (hm : X.mg x = some (.ref C)) (ha : PA X [a, b] ta) (ndb : (x == ("__debug__" : Str)) = false := by decide)
    (he : starEach (a :: [b]) X.env = (false, eval a X.env) :: starEach [b] X.env := by rfl) (hpl : (backTo pos (starEach [b] X.env)).any (·.1) = false := by rfl) : PE X (.Call (.Name x p) [a, b] [] pos) (tXv C 2 (fun vs => [("what", vs.getD 0 .non), ("limit", vs.getD 1 .non)]) ta) := by
  constructor
  intro pins s σ H Q I h
  refine wpAny_Call_Name_kw (ld_glob I hg hm ?_ ndb)
  refine PySem.W.callWith_K (h₀ := X.base) I.ok.mod.kin T.kp (thn (ha.run pos pins s σ H _ I h) fun us s1 hh => ?_) he hpl
  obtain ⟨vs, H1, I1, r1, l1, q1⟩ := hh
  refine ⟨I1.kIn, ?_⟩
  cases r1 with
  | nil => cases l1
  | cons rv rn =>
    cases rn with
    | nil => cases l1
    | cons ru rn =>
      cases rn with
      | cons _ _ => cases l1
      | nil =>
        have hlim := I1.nolimit
        obtain ⟨hp, g, dr, tk, os⟩ := s1
        exact wpAny_call (GX.mvn_what_limit (.inl rfl) SF FB T I1.kIn hlim (by have := hr.dp; omega) fun h' tk' e d M hd dne hns => val_of I1 M hd dne hns (fun y => rel_what_limit rv ru y) q1)
theorem pxk_what_limit {kws : List Keyword} {ta : TA} (SF : StoreFacts B bmB "object.__setattr__" "object") (FB : ExcBaseFacts B newId initId bmB) (T : GX.Evwhat_limit X.K C fI bmB newId) (hr : Room k X.A) (hg : Gl X x) (hm : X.mg x = some (.ref C)) (ha : PK X kws ta) (hks : (backToKw pos (keywordEach kws X.env)).filterMap (·.1) = (["limit", "what"] : List Str) := by rfl) (hall : (backToKw pos (keywordEach kws X.env)).all (·.1.isSome) = true := by rfl)
    (hpl : (backToKw pos (keywordEach kws X.env)).any (·.1.isNone) = false := by rfl) (ndb : (x == ("__debug__" : Str)) = false := by decide) : PE X (.Call (.Name x p) [] kws pos) (tXv C 2 (fun vs => [("what", vs.getD 1 .non), ("limit", vs.getD 0 .non)]) ta) := by
  constructor
  intro pins s σ H Q I h
  refine wpAny_Call_Name_kw (ld_glob I hg hm ?_ ndb)
  refine PySem.W.callWith_KW0 (h₀ := X.base) I.ok.mod.kin T.kp hall (thn (ha.run pos pins s σ H _ I h) fun us s1 hh => ?_) hpl
  obtain ⟨vs, H1, I1, r1, l1, q1⟩ := hh
  rw [hks]
  refine ⟨I1.kIn, ?_⟩
  cases r1 with
  | nil => cases l1
  | cons ru rn =>
    cases rn with
    | nil => cases l1
    | cons rv rn =>
      cases rn with
      | cons _ _ => cases l1
      | nil =>
        have hlim := I1.nolimit
        obtain ⟨hp, g, dr, tk, os⟩ := s1
        exact wpAny_call (GX.mvn_what_limit (.inr rfl) SF FB T I1.kIn hlim (by have := hr.dp; omega) fun h' tk' e d M hd dne hns => val_of I1 M hd dne hns (fun y => rel_what_limit rv ru y) q1)
theorem pmk_what_limit {a b : Expr} {ta : TA} (SF : StoreFacts B bmB "object.__setattr__" "object") (FB : ExcBaseFacts B newId initId bmB) (T : GX.Evwhat_limit X.K C fI bmB newId) (hr : Room k X.A) (hg : Gl X x) (hm : X.mg x = some (.ref C)) (ha : PA X [a, b] ta) (ndb : (x == ("__debug__" : Str)) = false := by decide)
    (he : starEach (a :: [b]) X.env = (false, eval a X.env) :: starEach [b] X.env := by rfl) (hpl : (backTo pos (starEach [b] X.env)).any (·.1) = false := by rfl) : PMk X (.Call (.Name x p) [a, b] [] pos) (tMkF C 2 (fun vs => [("what", vs.getD 0 .non), ("limit", vs.getD 1 .non)]) ta) := by
  intro pins s σ H Q I h
  refine wpAny_Call_Name_kw (ld_glob I hg hm ?_ ndb)
  refine PySem.W.callWith_K (h₀ := X.base) I.ok.mod.kin T.kp (thn (ha.run pos pins s σ H _ I h) fun us s1 hh => ?_) he hpl
  obtain ⟨vs, H1, I1, r1, l1, q1⟩ := hh
  refine ⟨I1.kIn, ?_⟩
  cases r1 with
  | nil => cases l1
  | cons rv rn =>
    cases rn with
    | nil => cases l1
    | cons ru rn =>
      cases rn with
      | cons _ _ => cases l1
      | nil =>
        have hlim := I1.nolimit
        obtain ⟨hp, g, dr, tk, os⟩ := s1
        exact wpAny_call (GX.mvn_what_limit (.inl rfl) SF FB T I1.kIn hlim (by have := hr.dp; omega) fun h' tk' e d M hd dne hns => out_F T.toErrT I1 M hd dne hns (fun y => rel_what_limit rv ru y) q1)
end
/-! such an error, read, asked -/
/-- what is asked of its class where f is read -/
structure XfN (K : PySem.W.Frag) (C : Addr) (f : Str) : Prop extends XfC K C where
  no : PySem.W.findIn K (.ref C) f = some none
def tXr (K : PySem.W.Frag) (f : Str) (te : TE) : TE := fun σ H Q => te σ H fun x H1 => ∃ (a C d : Addr) (fs : List (Str × V)) (v : V), x = .ref a ∧ XfN K C f ∧ H1 a = some (exi C (some d) a) ∧ H1 d = some (.xd fs) ∧ fs.lookup f = some v ∧ Q v H1
theorem exi_inst {X : Cx} {pins : List (Addr × Obj)} {σ : L2.St} {H : Hp} {s : Shared} {a C d : Addr} {fs : List (Str × V)} (I : Inv X pins σ H s) (h1 : H a = some (exi C (some d) a)) (h2 : H d = some (.xd fs)) : ∃ (oe : Obj) (od : Obj) (mA : Str → Option Value), PySem.W.InstAt s.heap a oe C (some od) ∧ (∀ f, RelO (fs.lookup f) (mA f)) ∧ (∀ n, PySem.W.lookIn n od = some (mA n)) := by
  obtain ⟨⟨oe, vs, ho, z1, z2, z3⟩, _⟩ := (show ObjOk X.prog X.w H s.heap a (.ext _) from I.hok a _ h1)
  obtain ⟨mA, hns, hr⟩ := (show ObjOk X.prog X.w H s.heap d (.xd fs) from I.hok d _ h2)
  obtain ⟨od, hod, hl⟩ := lookIn_ns hns
  exact ⟨oe, od, mA, ⟨ho, z1, by unfold PySem.W.notCls; rw [z3] <;> rfl, by rw [z2]; exact hod⟩, hr, hl⟩
section
variable {X : Cx} {pos : Pos}
theorem pe_xr {e : Expr} {te : TE} {f : Str} (he : PE X e te) (hb : attributeBase e f X.env (eval e X.env) = eval e X.env := by rfl) : PE X (.Attribute e f pos) (tXr X.K f te) := by
  refine ⟨fun pins s σ H Q I h => ?_⟩
  refine attr_of hb (thn (he.run pins s σ H _ I h) fun u s1 hh => ?_)
  obtain ⟨x, H1, I1, rx, a, C, d, fs, v, rfl, T, h1, h2, l, q⟩ := hh
  obtain rfl : u = Value.ref a := rx
  obtain ⟨oe, od, mA, J, hr, hl⟩ := exi_inst I1 h1 h2
  obtain ⟨u, hu, ru⟩ := RelO.some_of (v := v) (o := mA f) (by rw [← l]; exact hr f)
  exact HandSPX.exc_get I1.kIn J T.ga T.gg T.exC (PySem.W.findObj_own T.hdC T.no rfl (by rw [hl, hu])) (handed_of ru) ⟨v, H1, I1.tok _, ru, q⟩
/-- isinstance(e, c), e such an error -/
def rIsE (K : PySem.W.Frag) : List V → Hp → VK → Prop := fun xs H Q => ∃ (a D : Addr) (fs : List (Str × V)) (c : V) (u : Value) (b : Bool), xs = [.ref a, c] ∧ ExAt H a D fs ∧ PySem.GX.ErrC K D ∧ ClsV c u ∧ PySem.W.kitOne K (.ref D) u = some b ∧ Q (.bl b) H
theorem call_isE : CallR X (.builtin "isinstance") (rIsE X.K) := by
  intro pins s σ H xs us Q I r h
  obtain ⟨a, D, fs, c, u, b, rfl, ha, T, kc, e, q⟩ := h
  cases r with
  | cons rx rr => cases rr with
    | cons rt rr =>
      cases rr
      cases rx
      cases kc.eq rt
      have J : ∃ oe od, PySem.W.InstAt s.heap a oe D od := by
        rcases ha with ⟨_, h1⟩ | ⟨d, h1, h2⟩
        · obtain ⟨⟨oe, vs, ho, z1, z2, z3⟩, _⟩ := (show ObjOk X.prog X.w H s.heap a (.ext _) from I.hok a _ h1)
          exact ⟨oe, none, ho, z1, by unfold PySem.W.notCls; rw [z3] <;> rfl, by rw [z2]; trivial⟩
        · obtain ⟨oe, od, mA, J, _⟩ := exi_inst I h1 h2
          exact ⟨oe, some od, J⟩
      obtain ⟨oe, od, J⟩ := J
      exact PySem.W.kia_one (PySem.GX.kit_err T) I.kIn J e (fun z => nomatch z) fun tk => ⟨.bl b, H, I.kept (t' := tk) fun _ _ z => z, rfl, q⟩
end
end GL
/-! tables of facts about own errors -/
namespace GL
open PySem PySem.Spec PyProof.Rows L2 Evl StX SkE
section
variable {K : PySem.W.Frag} {cs : List Addr} {ts : List Value} {i j : Nat} {D : Addr}
theorem kt_ok (h : ktB K cs = true) (hi : i < cs.length) (hj : j < cs.length) : PySem.W.kitOne K (.ref (cs.getD i 0)) (.ref (cs.getD j 0)) = some (decide (i = j)) :=
  of_decide_eq_true (List.all_eq_true.mp (List.all_eq_true.mp h i (List.mem_range.mpr hi)) j (List.mem_range.mpr hj))
theorem ku_ok (h : kuB K cs ts = true) (hi : i < cs.length) (hj : j < ts.length) : PySem.W.kitOne K (.ref (cs.getD i 0)) (ts.getD j .none) = some (topOf i j) :=
  of_decide_eq_true (List.all_eq_true.mp (List.all_eq_true.mp h i (List.mem_range.mpr hi)) j (List.mem_range.mpr hj))
theorem ke_ok (h : keB K cs = true) (hD : D ∈ cs) : PySem.GX.ErrC K D := by
  unfold keB at h
  rw [Bool.and_eq_true, Bool.and_eq_true] at h
  obtain ⟨h1, h2, h3⟩ := h
  have z := List.all_eq_true.mp h3 D hD
  unfold ecB at z
  simp only [Bool.and_eq_true] at z
  obtain ⟨a1, a2, a3, a4, a5, a6⟩ := z
  exact ⟨of_decide_eq_true a1, of_decide_eq_true a2, of_decide_eq_true a3, a4, of_decide_eq_true a5, of_decide_eq_true h1, of_decide_eq_true h2, of_decide_eq_true a6⟩
end
section
variable {K : PySem.W.Frag} {C fI : Addr} {bm : List Value} {nid : String}
theorem xf_of (T : PySem.GX.ErrT K C fI bm nid) : XfC K C := ⟨T.ga, T.gg, T.exC, T.hd⟩
theorem xn_of {f : Str} (T : PySem.GX.ErrT K C fI bm nid) (h : PySem.W.findIn K (.ref C) f = some none) : XfN K C f := ⟨xf_of T, h⟩
end
end GL
/-! what evaluates to data, also with dicts; its text -/
namespace My
open PySem PySem.Spec PyProof.Rows L2 GL Evl StX SkE
/-- short, also with dicts -/
structure SmX (d : PyData) (k B : Nat) : Prop where
  sh : d.showable = true
  de : d.depth ≤ k
  ln : d.shown.length ≤ B
theorem smX_list {ds : List PyData} {k B : Nat} (h : ∀ d ∈ ds, SmX d k B) : SmX (.list ds) (k + 1) (ds.length * (B + 2) + 2) := by
  refine ⟨?_, ?_, ?_⟩
  · simp only [PyData.showable]
    exact showableAll_of fun d hd => (h d hd).sh
  · simp only [PyData.depth]
    have := depthAll_of (ds := ds) (k := k) fun d hd => (h d hd).de
    omega
  · simp only [PyData.shown]
    have := list_text_len (B := B) (ts := PyData.shownAll ds) fun t ht => by
      obtain ⟨d, hd, rfl⟩ := shownAll_mem ht
      exact (h d hd).ln
    rw [shownAll_len] at this
    exact this
theorem SmX.mono {d : PyData} {k B k' B' : Nat} (h : SmX d k B) (hk : k ≤ k') (hB : B ≤ B') : SmX d k' B' := ⟨h.sh, Nat.le_trans h.de hk, Nat.le_trans h.ln hB⟩
def smXb (d : PyData) (k B : Nat) : Bool := d.showable && decide (d.depth ≤ k) && decide (d.shown.length ≤ B)
theorem smX_b {d : PyData} {k B : Nat} (h : smXb d k B = true) : SmX d k B := by
  unfold smXb at h
  simp only [Bool.and_eq_true, decide_eq_true_eq] at h
  exact ⟨h.1.1, h.1.2, h.2⟩
theorem given_rep (n : Nat) (v : V) : given n (fun _ => true) (fun _ => v) = List.replicate n v := by
  rw [given_all]
  exact List.ext_getElem (by simp) fun i h1 h2 => by simp
section
variable {K : PySem.W.Frag} {σ : L2.St} {H H' : Hp} {te ta tb : TE} {tA : TA} {t : TT} {D : Ends} {tz : TS} {xs ys zs : List V} {v x : V} {d : PyData} {ds : List PyData} {l : Addr} {Q : VK}
theorem dxs_rep (h : Dx K H v d) : ∀ n : Nat, DxAll K H (List.replicate n v) (List.replicate n d)
  | 0 => .nil
  | n + 1 => .cons h (dxs_rep h n)
theorem el_cat (ha : EvL ta σ H xs) (hb : ∀ H1, Ex H H1 → EvL tb σ H1 zs) (hl : xs.length + zs.length ≤ 100000) : EvL (tOp rCat ta tb) σ H (xs ++ zs) := fun H1 e Q q =>
  ha H1 e _ fun p H2 hp e2 h2 => hb H2 (e.trans e2) H2 (Ex.refl H2) _ fun r H3 hr e3 h3 => ⟨p, r, xs, zs, rfl, rfl, e3 _ _ h2, h3, sz_of hl, fun l hl2 => q l _ (fresh_back (e2.trans e3) hl2) ((e2.trans e3).trans (Ex.new hl2)) upd_same⟩
theorem rep_flat (m : Nat) : (List.replicate m [x]).flatten = List.replicate m x := by
  induction m with
  | zero => rfl
  | succ m ih =>
    rw [List.replicate_succ, List.flatten_cons, ih]
    rfl
theorem el_rep1 {n : Nat} (h : EvL te σ H [x]) (hn : ∀ H1, Ex H H1 → Ev tb σ H1 (nV n)) (hl : n ≤ 1000) : EvL (tOp rRep te tb) σ H (List.replicate n x) := fun H1 e Q q =>
  h H1 e _ fun p H2 hp e2 h2 => hn H2 (e.trans e2) H2 (Ex.refl H2) _ fun H3 e3 => ⟨p, n, [x], rfl, rfl, e3 _ _ h2, by omega, by omega, sz_of (by show 1 * (n : Int).toNat ≤ 100000; omega), fun r hr => q r _ (fresh_back (e2.trans e3) hr) ((e2.trans e3).trans (Ex.new hr)) (by
    rw [upd_same, Int.toNat_natCast, rep_flat])⟩
/-- over a new tuple -/
theorem el_lcTX {j : Nat} {vs : List Nat} (f : Nat → Bool) (g : Nat → V) (h : EvA tA σ H xs) (hz : xs.length ≤ 40000) (hw : ∀ x, wipe ((wipe σ vs).set j (some x)) vs = wipe σ vs)
    (ht : ∀ (i : Nat) (x : V) H1, Ex H H1 → xs[i]? = some x → EvT t ((wipe σ vs).set j (some x)) H1 (f i)) (he : ∀ (i : Nat) (x : V) H1, Ex H H1 → xs[i]? = some x → f i = true → Ev te ((wipe σ vs).set j (some x)) H1 (g i)) :
    EvL (tLc (iTup K (tTupX tA)) (gName j) t te vs) σ H (given xs.length f g) := fun H0 e Q q => h H0 e _ fun H1 e1 => ⟨by rw [sizeLine_eq]; omega, fun p o hp _ => by
  have e2 : Ex H1 (upd H1 p (.frz o (.tup xs))) := Ex.new hp
  have h2 : SqT K (upd H1 p (.frz o (.tup xs))) p xs := .inl (.inr ⟨o, upd_same⟩)
  generalize upd H1 p (.frz o (.tup xs)) = H2 at e2 h2
  exact ⟨p, rfl, ⟨xs, h2⟩, fun Dl hD => lc_it (walk_tup (K := K) (a := p) (xs := xs)) (Cw H2 f g Dl) ⟨hD, Ex.new hD, upd_same⟩ (fun i H' _ z => ex_t z.2.1 h2) (fun i x H' G hi z y => by
    obtain ⟨rfl, hx'⟩ := y
    exact ⟨hw x, cw_turn z (by omega) (ht i x H2 ((e.trans e1).trans e2) hx') (fun hf => he i x H2 ((e.trans e1).trans e2) hx' hf)⟩)
    (fun H' z => q Dl H' (fresh_back (e1.trans e2) z.1) ((e1.trans e2).trans z.2.1) z.2.2)⟩⟩
/-- evaluates to data -/
def EvX (K : PySem.W.Frag) (te : TE) (σ : L2.St) (H : Hp) (d : PyData) : Prop := ∀ H1, Ex H H1 → ∀ Q : VK, (∀ v H2, Ex H1 H2 → Dx K H2 v d → Q v H2) → te σ H1 Q
def EvXA (K : PySem.W.Frag) (tA : TA) (σ : L2.St) (H : Hp) (ds : List PyData) : Prop := ∀ H1, Ex H H1 → ∀ Q : List V → Hp → Prop, (∀ vs H2, Ex H1 H2 → DxAll K H2 vs ds → Q vs H2) → tA σ H1 Q
theorem EvX.mono (e : Ex H H') (h : EvX K te σ H d) : EvX K te σ H' d := fun H1 a Q q => h H1 (e.trans a) Q q
theorem x_ev (h : Ev te σ H v) (hd : Dx K H v d) : EvX K te σ H d := fun H1 e Q q => h H1 e _ fun H2 e2 => q v H2 e2 (hd.ex (e.trans e2))
theorem x_el (h : EvL te σ H xs) (hd : DxAll K H xs ds) : EvX K te σ H (.list ds) := fun H1 e Q q => h H1 e _ fun p H2 hp e2 h2 => q _ H2 e2 (.lst (sq_of h2) (DxAll.ex (e.trans e2) hd))
theorem xa_nil : EvXA K tNil σ H [] := fun H1 _ Q q => q [] H1 (Ex.refl H1) .nil
theorem xa_cons (h : EvX K te σ H d) (t : EvXA K tA σ H ds) : EvXA K (tCons te tA) σ H (d :: ds) := fun H1 e Q q => h H1 e _ fun v H2 e2 hv => t H2 (e.trans e2) _ fun vs H3 e3 hs => q _ H3 (e2.trans e3) (.cons (hv.ex e3) hs)
theorem x_lst (h : EvXA K tA σ H ds) (hl : ds.length ≤ 100000) : EvX K (tLst tA) σ H (.list ds) := fun H1 e Q q => h H1 e _ fun vs H2 e2 hs => ⟨sz_of (by rw [← hs.len]; exact hl), fun p hp => q _ _ (e2.trans (Ex.new hp)) (.lst (sq_of upd_same) (DxAll.ex (Ex.new hp) hs))⟩
theorem ev_reprX {k B : Nat} (h : EvX K te σ H d) (s : SmX d k B) (hk : k ≤ 60) (hB : B ≤ 100000) : Ev (tCB (rReprX K) (tCons te tNil)) σ H (.str d.shown) := fun H1 e Q q => h H1 e _ fun v H2 e2 hv => ⟨v, d, rfl, hv, s.sh, Nat.le_trans s.de hk, sz_of (Nat.le_trans s.ln hB), q H2 e2⟩
/-- l.extend(..), both one value many times -/
theorem q_extR {n m : Nat} (hl : H l = some (.lst (List.replicate n x))) (ha : Ev ta σ H (.ref l)) (h : EvL te σ H (List.replicate m x)) (hz : n + m ≤ 1000) (k : ∀ H2, ExB l H H2 → H2 l = some (.lst (List.replicate (n + m) x)) → tz D σ H2) : tSeq (tDrop (tBM K "list" rExtend ta (tCons te tNil))) tz D σ H := by
  refine q_ext hl ha h ?_ fun H1 e => k _ ((ExB.of e).trans ExB.set) ?_
  · rw [List.length_replicate, List.length_replicate]
    omega
  · rw [upd_same, List.replicate_append_replicate]
end
end My
namespace GL
open PySem PySem.Spec PyProof.Rows L2
section
variable {P : Program} {w : World} {K : PySem.W.Frag} {mg mb : Str → Option Value} {k : Nat} {fa a : Addr} {fd : FuncData} {x : Str} {sp : Sp} {s₁ : Shared} {vs : List Value} {ns : List Int}
/-- the law's call, from an abstract heap H that tracks at most the script at a -/
theorem law_core {H : Hp} (KX : K.In s₁.heap) (hns : s₁.heap.Ns mainGlobals mg) (hb : s₁.heap.Ns builtinsNs mb) (hbb : ∀ x : Str, x ≠ "__name__" → mb x = bootBuiltins x) (hlim : s₁.heap.NoLimit) (hg : s₁.gens = #[])
    (ha : s₁.heap.get? a = some { cls := .type "list", data := .seq vs.toArray }) (hr : Room k callerA)
    (F : ∀ base : Heap, K.In base → base.Ns mainGlobals mg → FnG P w K mg base CX0 k fa fd [x] sp) (hbind : ∀ (s : Shared) (u : Value), BindsTo s fd ⟨[u], []⟩ [(x, u)])
    (hO : Only H) (hok : HOk P w H s₁.heap) (hA : ∀ b, H b ≠ none → b = a) (hK : H a ≠ none → K.lookup a = none) (hsp : sp [.ref a] H (fun v _ => v = .bl true) fun _ _ _ => False) :
    codeAny (model P w) callerA (.call (.ref fa) ⟨[.ref a], []⟩) (fun r s' => r = .ok (.ret (.bool true)) ∧ OldK s₁.heap s'.heap ∧ s'.os = s₁.os ∧ AllBare s'.gens) s₁ := by
  have free : ∀ {b : Addr} {o : Obj} {es : Array DictEntry} {ep : Nat}, s₁.heap.get? b = some o → o.data = .dict es ep → H b = none := by
    intro b o es ep e d
    by_cases q : H b = none
    · exact q
    · cases hA b q
      rw [ha] at e
      cases e
      cases (show Data.seq vs.toArray _ = Data.dict es ep from d)
  have hid : ∀ {b : Addr} {m : Str → Option Value}, s₁.heap.Ns b m → (hidT s₁.heap H).Ns b m := fun ⟨o, es, ep, e, d, r⟩ => ⟨o, es, ep, hidT_get e (free e d), d, r⟩
  have inK : K.In (hidT s₁.heap H) := by
    intro b o e
    refine hidT_get (KX b o e) ?_
    by_cases q : H b = none
    · exact q
    · cases hA b q
      rw [hK q] at e
      cases e
  have lim : (hidT s₁.heap H).NoLimit := by
    obtain ⟨mc, h1, h2⟩ := hlim
    exact ⟨mc, hid h1, h2⟩
  have e0 : Env0 P w K mg (hidT s₁.heap H) callerA [] s₁ H := by
    refine ⟨rfl, ⟨inK, hid hns, ⟨mb, hid hb, hbb⟩, lim⟩, fun b o e => of_hidT e, Nat.le_of_eq (hidT_size _ _), trivial, fun b z => ?_, hok, .of_eq hg⟩
    cases (show b ∈ ([] : List Addr) from z)
  have run := (F _ inK (hid hns)).goes (A := callerA) (outer := []) (vs := [.ref a]) (us := [.ref a]) rfl hr e0 (hbind s₁ (.ref a)) (.cons rfl .nil) hsp
  refine codeAny_mono run ?_
  intro r s' z
  match r, z with
  | .error e, z => exact z.elim
  | .ok .next, z => exact z.elim
  | .ok .brk, z => exact z.elim
  | .ok .cont, z => exact z.elim
  | .ok (.ret u), z =>
    obtain ⟨v, H', os, bare, un, hok', r', q⟩ := z
    cases (show v = .bl true from q)
    obtain rfl : u = Value.bool true := r'
    refine ⟨rfl, OldK.of_keep fun b o e => ?_, os, bare⟩
    rcases hO b with q | ⟨ob, xs, q⟩
    · exact un.keep b o e q (List.not_mem_nil) (List.not_mem_nil)
    · obtain ⟨e1, _⟩ := hok b _ q
      obtain ⟨e2, _⟩ := hok' b _ (un.frzs b ob _ q)
      rw [e] at e1
      cases e1
      exact e2
/-- a heap that tracks one object -/
def one (a : Addr) (o : HO) : Hp := fun b => if b = a then some o else none
theorem one_off {a b : Addr} {o : HO} (h : b ≠ a) : one a o b = none := if_neg h
theorem law_at (KX : K.In s₁.heap) (hns : s₁.heap.Ns mainGlobals mg) (hb : s₁.heap.Ns builtinsNs mb) (hbb : ∀ x : Str, x ≠ "__name__" → mb x = bootBuiltins x) (hlim : s₁.heap.NoLimit) (hg : s₁.gens = #[])
    (ha : s₁.heap.get? a = some { cls := .type "list", data := .seq vs.toArray }) (hi : IntsAre vs ns) (hl : ns.length ≤ sizeLine) (hr : Room k callerA)
    (F : ∀ base : Heap, K.In base → base.Ns mainGlobals mg → FnG P w K mg base CX0 k fa fd [x] sp) (hbind : ∀ (s : Shared) (u : Value), BindsTo s fd ⟨[u], []⟩ [(x, u)])
    (hsp : ∀ H : Hp, Only H → SqL K H a (ns.map V.int) → sp [.ref a] H (fun v _ => v = .bl true) fun _ _ _ => False) :
    codeAny (model P w) callerA (.call (.ref fa) ⟨[.ref a], []⟩) (fun r s' => r = .ok (.ret (.bool true)) ∧ OldK s₁.heap s'.heap ∧ s'.os = s₁.os ∧ AllBare s'.gens) s₁ := by
  have rv := vals_ints hi
  have lenV := hi.length
  cases hk : K.lookup a with
  | some o =>
    have e := KX a o hk
    rw [ha] at e
    cases e
    have O : Only fun _ => none := fun _ => .inl rfl
    exact law_core KX hns hb hbb hlim hg ha hr F hbind O (fun b u z => nomatch z) (fun b z => absurd rfl z) (fun z => absurd rfl z) (hsp _ O (.inr ⟨_, vs.toArray, _, hk, rfl, rfl, rfl, by rw [List.size_toArray, lenV]; exact hl, by simpa using rv⟩))
  | none =>
    have at_ : one a (.frz { cls := .type "list", data := .seq vs.toArray } (.lst (ns.map V.int))) a = some (.frz { cls := .type "list", data := .seq vs.toArray } (.lst (ns.map V.int))) := if_pos rfl
    have O : Only (one a (.frz { cls := .type "list", data := .seq vs.toArray } (.lst (ns.map V.int)))) := by
      intro b
      by_cases h : b = a
      · subst h
        exact .inr ⟨_, _, at_⟩
      · exact .inl (one_off h)
    refine law_core KX hns hb hbb hlim hg ha hr F hbind O (fun b u z => ?_) (fun b z => ?_) (fun _ => hk) (hsp _ O (.inl (.inr ⟨_, at_⟩)))
    · by_cases h : b = a
      · subst h
        cases at_.symm.trans z
        exact ⟨ha, by rw [List.length_map]; exact hl, vs, _, rv, ha⟩
      · cases (one_off h).symm.trans z
    · by_cases h : b = a
      · exact h
      · exact absurd (one_off h) z
end
end GL
namespace HK
open PySem PySem.Spec PyProof.Rows L2 He
/-- a law: F gives the written part, the function object, the promise over every base -/
theorem walkH {l : PySem.W.OpenLaw} {k : Nat} {q : Program} {loose : List Str} {XP : (Str → Option Value) → Heap → Prop} {YP : World → Heap → Prop} {d : DefRec} {sp : PySem.W.Frag → Sp} {x : Str}
    (hn : l.most = some 63) (hdf : d.params.defaults = []) (hr : Room k callerA)
    (F : ∀ (w : World) (mg : Str → Option Value) (fa : Addr) (h : Heap), YP w h → h.Ns mainGlobals mg → mg d.name = some (.ref fa) →
      ∃ (K : PySem.W.Frag) (fd : FuncData), K.In h ∧ (∀ (s : Shared) (u : Value), BindsTo s fd ⟨[u], []⟩ [(x, u)]) ∧ ∀ base : Heap, K.In base → base.Ns mainGlobals mg → GL.FnG l.prog w K mg base CX0 k fa fd [x] (sp K))
    (hsp : ∀ (K : PySem.W.Frag) (H : Hp) (a : Addr) (ns : List Int), ns.length ≤ 63 → SqL K H a (ns.map V.int) → sp K [.ref a] H (fun v _ => v = .bl true) fun _ _ _ => False) :
    PySem.W.WalkO q loose XP YP l.row.toRowW d [] (fun f vs => PySem.call f vs) := by
  refine Att.attach_call hn hdf fun w s₀ s₁ mg mb fa o pm cd doc a vs ns G Y ho hd hcd hmg hobj hints hlen hg => ?_
  obtain ⟨K, fd, KX, hb, hF⟩ := F w mg fa _ Y G.T.g hmg
  exact GL.law_at KX G.T.g G.T.b G.T.builtins G.T.nolimit hg hobj hints (Nat.le_trans hlen (by decide)) hr hF hb fun H _ hS => hsp _ H a ns hlen hS
end HK
namespace My
open PySem PySem.Spec PyProof.Rows L2 GL
abbrev N_Lpot : List Str := ["_law_script", "_law_k", "_law_cell"]
theorem sc_Lpot : FnScope N_Lpot ["_law_script", "_law_k"] (defScope s_Lpot) := ⟨rfl, rfl, rfl, by decide +kernel, rfl, by decide +kernel, by decide +kernel⟩
abbrev N_Ldraw : List Str := ["_law_pot_here", "_law_sides", "_law_digit"]
theorem sc_Ldraw : FnScope N_Ldraw ["_law_pot_here", "_law_sides"] (defScope s_Ldraw) := ⟨rfl, rfl, rfl, by decide +kernel, rfl, by decide +kernel, by decide +kernel⟩
abbrev N_Lpick : List Str := ["_law_pot_here", "_law_some"]
theorem sc_Lpick : FnScope N_Lpick ["_law_pot_here", "_law_some"] (defScope s_Lpick) := ⟨rfl, rfl, rfl, by decide +kernel, rfl, by decide +kernel, by decide +kernel⟩
abbrev N_Lmade : List Str := ["_law_a", "_law_b", "_law_made_here"]
theorem sc_Lmade : FnScope N_Lmade ["_law_a", "_law_b"] (defScope s_Lmade) := ⟨rfl, rfl, rfl, by decide +kernel, rfl, by decide +kernel, by decide +kernel⟩
abbrev N_Lnamed : List Str := ["_law_a", "_law_b", "_law_made_here"]
theorem sc_Lnamed : FnScope N_Lnamed ["_law_a", "_law_b"] (defScope s_Lnamed) := ⟨rfl, rfl, rfl, by decide +kernel, rfl, by decide +kernel, by decide +kernel⟩
abbrev N_Lwhich : List Str := ["_law_e", "_law_found", "_law_at"]
theorem sc_Lwhich : FnScope N_Lwhich ["_law_e"] (defScope s_Lwhich) := ⟨rfl, rfl, rfl, by decide +kernel, rfl, by decide +kernel, by decide +kernel⟩
abbrev N_Ltops : List Str := ["_law_e", "_law_found", "_law_at"]
theorem sc_Ltops : FnScope N_Ltops ["_law_e"] (defScope s_Ltops) := ⟨rfl, rfl, rfl, by decide +kernel, rfl, by decide +kernel, by decide +kernel⟩
abbrev N_Lkept_right : List Str := ["_law_made_here", "_law_a", "_law_b", "_law_plain", "_law_kept", "_law_seconds", "_law_at"]
theorem sc_Lkept_right : FnScope N_Lkept_right ["_law_made_here", "_law_a", "_law_b"] (defScope s_Lkept_right) := ⟨rfl, rfl, rfl, by decide +kernel, rfl, by decide +kernel, by decide +kernel⟩
abbrev N_Lcaught : List Str := ["_law_a", "_law_b", "_law_way", "_law_said", "_law_e"]
theorem sc_Lcaught : FnScope N_Lcaught ["_law_a", "_law_b", "_law_way"] (defScope s_Lcaught) := ⟨rfl, rfl, rfl, by decide +kernel, rfl, by decide +kernel, by decide +kernel⟩
abbrev N_Lright : List Str := ["_law_pot_here", "_law_some", "_law_owed", "_law_turn", "_law_a", "_law_b", "_law_made_here", "_law_e", "_law_way", "_law_at"]
theorem sc_Lright : FnScope N_Lright ["_law_pot_here"] (defScope s_Lright) := ⟨rfl, rfl, rfl, by decide +kernel, rfl, by decide +kernel, by decide +kernel⟩
abbrev N_law : List Str := ["_law_script", "_law_k"]
theorem sc_law : FnScope N_law ["_law_script"] (defScope s_law) := ⟨rfl, rfl, rfl, by decide +kernel, rfl, by decide +kernel, by decide +kernel⟩
theorem sh_InvalidGroup : ∃ p1 p2 q1 q2 q3 q4, defArgs s_E_InvalidGroup = GX.invalueA p1 p2 ∧ defBody s_E_InvalidGroup = GX.invalueB q1 q2 q3 q4 ∧ defScope s_E_InvalidGroup = GX.invalueS := ⟨_, _, _, _, _, _, rfl, rfl, rfl⟩
theorem sh_InvalidParents : ∃ p1 p2 q1 q2 q3 q4, defArgs s_E_InvalidParents = GX.inpositionA p1 p2 ∧ defBody s_E_InvalidParents = GX.inpositionB q1 q2 q3 q4 ∧ defScope s_E_InvalidParents = GX.inpositionS := ⟨_, _, _, _, _, _, rfl, rfl, rfl⟩
theorem sh_InvalidStruck : ∃ p1 p2 q1 q2 q3 q4, defArgs s_E_InvalidStruck = GX.inpositionA p1 p2 ∧ defBody s_E_InvalidStruck = GX.inpositionB q1 q2 q3 q4 ∧ defScope s_E_InvalidStruck = GX.inpositionS := ⟨_, _, _, _, _, _, rfl, rfl, rfl⟩
theorem sh_InvalidKind : ∃ p1 p2 q1 q2 q3 q4, defArgs s_E_InvalidKind = GX.invalueA p1 p2 ∧ defBody s_E_InvalidKind = GX.invalueB q1 q2 q3 q4 ∧ defScope s_E_InvalidKind = GX.invalueS := ⟨_, _, _, _, _, _, rfl, rfl, rfl⟩
theorem sh_InvalidRow : ∃ p1 p2 p3 q1 q2 q3 q4 r1 r2 r3 r4, defArgs s_E_InvalidRow = GX.inkind_valueA p1 p2 p3 ∧ defBody s_E_InvalidRow = GX.inkind_valueB q1 q2 q3 q4 r1 r2 r3 r4 ∧ defScope s_E_InvalidRow = GX.inkind_valueS := ⟨_, _, _, _, _, _, _, _, _, _, _, rfl, rfl, rfl⟩
theorem sh_InvalidWord : ∃ p1 p2 p3 q1 q2 q3 q4 r1 r2 r3 r4, defArgs s_E_InvalidWord = GX.inname_valueA p1 p2 p3 ∧ defBody s_E_InvalidWord = GX.inname_valueB q1 q2 q3 q4 r1 r2 r3 r4 ∧ defScope s_E_InvalidWord = GX.inname_valueS := ⟨_, _, _, _, _, _, _, _, _, _, _, rfl, rfl, rfl⟩
theorem sh_InvalidHolds : ∃ p1 p2 q1 q2 q3 q4, defArgs s_E_InvalidHolds = GX.invalueA p1 p2 ∧ defBody s_E_InvalidHolds = GX.invalueB q1 q2 q3 q4 ∧ defScope s_E_InvalidHolds = GX.invalueS := ⟨_, _, _, _, _, _, rfl, rfl, rfl⟩
theorem sh_InvalidHand : ∃ p1 p2 q1 q2 q3 q4, defArgs s_E_InvalidHand = GX.invalueA p1 p2 ∧ defBody s_E_InvalidHand = GX.invalueB q1 q2 q3 q4 ∧ defScope s_E_InvalidHand = GX.invalueS := ⟨_, _, _, _, _, _, rfl, rfl, rfl⟩
theorem sh_InvalidThing : ∃ p1 p2 q1 q2 q3 q4, defArgs s_E_InvalidThing = GX.invalueA p1 p2 ∧ defBody s_E_InvalidThing = GX.invalueB q1 q2 q3 q4 ∧ defScope s_E_InvalidThing = GX.invalueS := ⟨_, _, _, _, _, _, rfl, rfl, rfl⟩
theorem sh_InvalidLimit : ∃ p1 p2 q1 q2 q3 q4, defArgs s_E_InvalidLimit = GX.invalueA p1 p2 ∧ defBody s_E_InvalidLimit = GX.invalueB q1 q2 q3 q4 ∧ defScope s_E_InvalidLimit = GX.invalueS := ⟨_, _, _, _, _, _, rfl, rfl, rfl⟩
theorem sh_InvalidCount : ∃ p1 p2 q1 q2 q3 q4, defArgs s_E_InvalidCount = GX.invalueA p1 p2 ∧ defBody s_E_InvalidCount = GX.invalueB q1 q2 q3 q4 ∧ defScope s_E_InvalidCount = GX.invalueS := ⟨_, _, _, _, _, _, rfl, rfl, rfl⟩
theorem sh_InvalidUnit : ∃ p1 p2 q1 q2 q3 q4, defArgs s_E_InvalidUnit = GX.invalueA p1 p2 ∧ defBody s_E_InvalidUnit = GX.invalueB q1 q2 q3 q4 ∧ defScope s_E_InvalidUnit = GX.invalueS := ⟨_, _, _, _, _, _, rfl, rfl, rfl⟩
theorem sh_InvalidState : ∃ p1 p2 q1 q2 q3 q4, defArgs s_E_InvalidState = GX.invalueA p1 p2 ∧ defBody s_E_InvalidState = GX.invalueB q1 q2 q3 q4 ∧ defScope s_E_InvalidState = GX.invalueS := ⟨_, _, _, _, _, _, rfl, rfl, rfl⟩
theorem sh_InvalidWish : ∃ p1 p2 q1 q2 q3 q4, defArgs s_E_InvalidWish = GX.invalueA p1 p2 ∧ defBody s_E_InvalidWish = GX.invalueB q1 q2 q3 q4 ∧ defScope s_E_InvalidWish = GX.invalueS := ⟨_, _, _, _, _, _, rfl, rfl, rfl⟩
theorem sh_InvalidWishes : ∃ p1 p2 q1 q2 q3 q4, defArgs s_E_InvalidWishes = GX.invalueA p1 p2 ∧ defBody s_E_InvalidWishes = GX.invalueB q1 q2 q3 q4 ∧ defScope s_E_InvalidWishes = GX.invalueS := ⟨_, _, _, _, _, _, rfl, rfl, rfl⟩
theorem sh_InvalidDeed : ∃ p1 p2 q1 q2 q3 q4, defArgs s_E_InvalidDeed = GX.invalueA p1 p2 ∧ defBody s_E_InvalidDeed = GX.invalueB q1 q2 q3 q4 ∧ defScope s_E_InvalidDeed = GX.invalueS := ⟨_, _, _, _, _, _, rfl, rfl, rfl⟩
theorem sh_InvalidText : ∃ p1 p2 q1 q2 q3 q4, defArgs s_E_InvalidText = GX.inlineA p1 p2 ∧ defBody s_E_InvalidText = GX.inlineB q1 q2 q3 q4 ∧ defScope s_E_InvalidText = GX.inlineS := ⟨_, _, _, _, _, _, rfl, rfl, rfl⟩
theorem sh_InvalidClaim : ∃ p1 p2 q1 q2 q3 q4, defArgs s_E_InvalidClaim = GX.invalueA p1 p2 ∧ defBody s_E_InvalidClaim = GX.invalueB q1 q2 q3 q4 ∧ defScope s_E_InvalidClaim = GX.invalueS := ⟨_, _, _, _, _, _, rfl, rfl, rfl⟩
theorem sh_InvalidCommand : ∃ p1 p2 q1 q2 q3 q4, defArgs s_E_InvalidCommand = GX.invalueA p1 p2 ∧ defBody s_E_InvalidCommand = GX.invalueB q1 q2 q3 q4 ∧ defScope s_E_InvalidCommand = GX.invalueS := ⟨_, _, _, _, _, _, rfl, rfl, rfl⟩
theorem sh_IsTop : ∃ p1 q1, defArgs s_E_IsTop = GX.ini0A p1 ∧ defBody s_E_IsTop = [.Pass q1] ∧ defScope s_E_IsTop = GX.ini0S := ⟨_, _, rfl, rfl, rfl⟩
theorem sh_Struck : ∃ p1 p2 q1 q2 q3 q4, defArgs s_E_Struck = GX.ingroupA p1 p2 ∧ defBody s_E_Struck = GX.ingroupB q1 q2 q3 q4 ∧ defScope s_E_Struck = GX.ingroupS := ⟨_, _, _, _, _, _, rfl, rfl, rfl⟩
theorem sh_NotStruck : ∃ p1 p2 q1 q2 q3 q4, defArgs s_E_NotStruck = GX.ingroupA p1 p2 ∧ defBody s_E_NotStruck = GX.ingroupB q1 q2 q3 q4 ∧ defScope s_E_NotStruck = GX.ingroupS := ⟨_, _, _, _, _, _, rfl, rfl, rfl⟩
theorem sh_HasChildren : ∃ p1 p2 q1 q2 q3 q4, defArgs s_E_HasChildren = GX.ingroupA p1 p2 ∧ defBody s_E_HasChildren = GX.ingroupB q1 q2 q3 q4 ∧ defScope s_E_HasChildren = GX.ingroupS := ⟨_, _, _, _, _, _, rfl, rfl, rfl⟩
theorem sh_AtWork : ∃ p1 p2 q1 q2 q3 q4, defArgs s_E_AtWork = GX.inhandA p1 p2 ∧ defBody s_E_AtWork = GX.inhandB q1 q2 q3 q4 ∧ defScope s_E_AtWork = GX.inhandS := ⟨_, _, _, _, _, _, rfl, rfl, rfl⟩
theorem sh_NoWalk : ∃ p1 p2 q1 q2 q3 q4, defArgs s_E_NoWalk = GX.inhandA p1 p2 ∧ defBody s_E_NoWalk = GX.inhandB q1 q2 q3 q4 ∧ defScope s_E_NoWalk = GX.inhandS := ⟨_, _, _, _, _, _, rfl, rfl, rfl⟩
theorem sh_MustSettle : ∃ p1 p2 q1 q2 q3 q4, defArgs s_E_MustSettle = GX.inhandA p1 p2 ∧ defBody s_E_MustSettle = GX.inhandB q1 q2 q3 q4 ∧ defScope s_E_MustSettle = GX.inhandS := ⟨_, _, _, _, _, _, rfl, rfl, rfl⟩
theorem sh_NoStock : ∃ p1 p2 q1 q2 q3 q4, defArgs s_E_NoStock = GX.inhandA p1 p2 ∧ defBody s_E_NoStock = GX.inhandB q1 q2 q3 q4 ∧ defScope s_E_NoStock = GX.inhandS := ⟨_, _, _, _, _, _, rfl, rfl, rfl⟩
theorem sh_NotYours : ∃ p1 p2 q1 q2 q3 q4, defArgs s_E_NotYours = GX.inhandA p1 p2 ∧ defBody s_E_NotYours = GX.inhandB q1 q2 q3 q4 ∧ defScope s_E_NotYours = GX.inhandS := ⟨_, _, _, _, _, _, rfl, rfl, rfl⟩
theorem sh_NotLiving : ∃ p1 p2 q1 q2 q3 q4, defArgs s_E_NotLiving = GX.inthingA p1 p2 ∧ defBody s_E_NotLiving = GX.inthingB q1 q2 q3 q4 ∧ defScope s_E_NotLiving = GX.inthingS := ⟨_, _, _, _, _, _, rfl, rfl, rfl⟩
theorem sh_NoRow : ∃ p1 p2 q1 q2 q3 q4, defArgs s_E_NoRow = GX.inkindA p1 p2 ∧ defBody s_E_NoRow = GX.inkindB q1 q2 q3 q4 ∧ defScope s_E_NoRow = GX.inkindS := ⟨_, _, _, _, _, _, rfl, rfl, rfl⟩
theorem sh_UnderWay : ∃ p1 p2 p3 q1 q2 q3 q4 r1 r2 r3 r4, defArgs s_E_UnderWay = GX.inthing_kindA p1 p2 p3 ∧ defBody s_E_UnderWay = GX.inthing_kindB q1 q2 q3 q4 r1 r2 r3 r4 ∧ defScope s_E_UnderWay = GX.inthing_kindS := ⟨_, _, _, _, _, _, _, _, _, _, _, rfl, rfl, rfl⟩
theorem sh_Held : ∃ p1 p2 p3 q1 q2 q3 q4 r1 r2 r3 r4, defArgs s_E_Held = GX.inthing_kindA p1 p2 p3 ∧ defBody s_E_Held = GX.inthing_kindB q1 q2 q3 q4 r1 r2 r3 r4 ∧ defScope s_E_Held = GX.inthing_kindS := ⟨_, _, _, _, _, _, _, _, _, _, _, rfl, rfl, rfl⟩
theorem sh_NotKept : ∃ p1 p2 q1 q2 q3 q4, defArgs s_E_NotKept = GX.inwishA p1 p2 ∧ defBody s_E_NotKept = GX.inwishB q1 q2 q3 q4 ∧ defScope s_E_NotKept = GX.inwishS := ⟨_, _, _, _, _, _, rfl, rfl, rfl⟩
theorem sh_NoEnd : ∃ p1 q1, defArgs s_E_NoEnd = GX.ini0A p1 ∧ defBody s_E_NoEnd = [.Pass q1] ∧ defScope s_E_NoEnd = GX.ini0S := ⟨_, _, rfl, rfl, rfl⟩
theorem sh_Untrue : ∃ p1 q1, defArgs s_E_Untrue = GX.ini0A p1 ∧ defBody s_E_Untrue = [.Pass q1] ∧ defScope s_E_Untrue = GX.ini0S := ⟨_, _, rfl, rfl, rfl⟩
theorem sh_NothingToUndo : ∃ p1 q1, defArgs s_E_NothingToUndo = GX.ini0A p1 ∧ defBody s_E_NothingToUndo = [.Pass q1] ∧ defScope s_E_NothingToUndo = GX.ini0S := ⟨_, _, rfl, rfl, rfl⟩
theorem sh_DeedFailed : ∃ p1 p2 q1 q2 q3 q4, defArgs s_E_DeedFailed = GX.inpositionA p1 p2 ∧ defBody s_E_DeedFailed = GX.inpositionB q1 q2 q3 q4 ∧ defScope s_E_DeedFailed = GX.inpositionS := ⟨_, _, _, _, _, _, rfl, rfl, rfl⟩
theorem sh_CommandFailed : ∃ p1 p2 q1 q2 q3 q4, defArgs s_E_CommandFailed = GX.inpositionA p1 p2 ∧ defBody s_E_CommandFailed = GX.inpositionB q1 q2 q3 q4 ∧ defScope s_E_CommandFailed = GX.inpositionS := ⟨_, _, _, _, _, _, rfl, rfl, rfl⟩
theorem sh_TooMany : ∃ p1 p2 p3 q1 q2 q3 q4 r1 r2 r3 r4, defArgs s_E_TooMany = GX.inwhat_limitA p1 p2 p3 ∧ defBody s_E_TooMany = GX.inwhat_limitB q1 q2 q3 q4 r1 r2 r3 r4 ∧ defScope s_E_TooMany = GX.inwhat_limitS := ⟨_, _, _, _, _, _, _, _, _, _, _, rfl, rfl, rfl⟩
set_option genInjectivity false in
set_option genSizeOf false in
structure Txt (K : PySem.W.Frag) (mg : Str → Option Value) (w : World) where
  f_Lpot : Addr
  fd_Lpot : FuncData
  F_Lpot : L2.Fun K "_law_pot" "_law_pot" s_Lpot f_Lpot fd_Lpot
  b_Lpot : Binds K fd_Lpot ["_law_script", "_law_k"] []
  m_Lpot : mg "_law_pot" = some (.ref f_Lpot)
  f_Ldraw : Addr
  fd_Ldraw : FuncData
  F_Ldraw : L2.Fun K "_law_draw" "_law_draw" s_Ldraw f_Ldraw fd_Ldraw
  b_Ldraw : Binds K fd_Ldraw ["_law_pot_here", "_law_sides"] []
  m_Ldraw : mg "_law_draw" = some (.ref f_Ldraw)
  f_Lpick : Addr
  fd_Lpick : FuncData
  F_Lpick : L2.Fun K "_law_pick" "_law_pick" s_Lpick f_Lpick fd_Lpick
  b_Lpick : Binds K fd_Lpick ["_law_pot_here", "_law_some"] []
  m_Lpick : mg "_law_pick" = some (.ref f_Lpick)
  f_Lmade : Addr
  fd_Lmade : FuncData
  F_Lmade : L2.Fun K "_law_made" "_law_made" s_Lmade f_Lmade fd_Lmade
  b_Lmade : Binds K fd_Lmade ["_law_a", "_law_b"] []
  m_Lmade : mg "_law_made" = some (.ref f_Lmade)
  f_Lnamed : Addr
  fd_Lnamed : FuncData
  F_Lnamed : L2.Fun K "_law_named" "_law_named" s_Lnamed f_Lnamed fd_Lnamed
  b_Lnamed : Binds K fd_Lnamed ["_law_a", "_law_b"] []
  m_Lnamed : mg "_law_named" = some (.ref f_Lnamed)
  f_Lwhich : Addr
  fd_Lwhich : FuncData
  F_Lwhich : L2.Fun K "_law_which" "_law_which" s_Lwhich f_Lwhich fd_Lwhich
  b_Lwhich : Binds K fd_Lwhich ["_law_e"] []
  m_Lwhich : mg "_law_which" = some (.ref f_Lwhich)
  f_Ltops : Addr
  fd_Ltops : FuncData
  F_Ltops : L2.Fun K "_law_tops" "_law_tops" s_Ltops f_Ltops fd_Ltops
  b_Ltops : Binds K fd_Ltops ["_law_e"] []
  m_Ltops : mg "_law_tops" = some (.ref f_Ltops)
  f_Lkept_right : Addr
  fd_Lkept_right : FuncData
  F_Lkept_right : L2.Fun K "_law_kept_right" "_law_kept_right" s_Lkept_right f_Lkept_right fd_Lkept_right
  b_Lkept_right : Binds K fd_Lkept_right ["_law_made_here", "_law_a", "_law_b"] []
  m_Lkept_right : mg "_law_kept_right" = some (.ref f_Lkept_right)
  f_Lcaught : Addr
  fd_Lcaught : FuncData
  F_Lcaught : L2.Fun K "_law_caught" "_law_caught" s_Lcaught f_Lcaught fd_Lcaught
  b_Lcaught : Binds K fd_Lcaught ["_law_a", "_law_b", "_law_way"] []
  m_Lcaught : mg "_law_caught" = some (.ref f_Lcaught)
  f_Lright : Addr
  fd_Lright : FuncData
  F_Lright : L2.Fun K "_law_right" "_law_right" s_Lright f_Lright fd_Lright
  b_Lright : Binds K fd_Lright ["_law_pot_here"] []
  m_Lright : mg "_law_right" = some (.ref f_Lright)
  f_law : Addr
  fd_law : FuncData
  F_law : L2.Fun K "law" "law" s_law f_law fd_law
  b_law : Binds K fd_law ["_law_script"] []
  m_law : mg "law" = some (.ref f_law)
  C_InvalidGroup : Addr
  I_InvalidGroup : Addr
  X_InvalidGroup : GX.Evvalue K C_InvalidGroup I_InvalidGroup bm_ValueError "ValueError.__new__"
  m_InvalidGroup : mg "InvalidGroup" = some (.ref C_InvalidGroup)
  C_InvalidParents : Addr
  I_InvalidParents : Addr
  X_InvalidParents : GX.Evposition K C_InvalidParents I_InvalidParents bm_ValueError "ValueError.__new__"
  m_InvalidParents : mg "InvalidParents" = some (.ref C_InvalidParents)
  C_InvalidStruck : Addr
  I_InvalidStruck : Addr
  X_InvalidStruck : GX.Evposition K C_InvalidStruck I_InvalidStruck bm_ValueError "ValueError.__new__"
  m_InvalidStruck : mg "InvalidStruck" = some (.ref C_InvalidStruck)
  C_InvalidKind : Addr
  I_InvalidKind : Addr
  X_InvalidKind : GX.Evvalue K C_InvalidKind I_InvalidKind bm_ValueError "ValueError.__new__"
  m_InvalidKind : mg "InvalidKind" = some (.ref C_InvalidKind)
  C_InvalidRow : Addr
  I_InvalidRow : Addr
  X_InvalidRow : GX.Evkind_value K C_InvalidRow I_InvalidRow bm_ValueError "ValueError.__new__"
  m_InvalidRow : mg "InvalidRow" = some (.ref C_InvalidRow)
  C_InvalidWord : Addr
  I_InvalidWord : Addr
  X_InvalidWord : GX.Evname_value K C_InvalidWord I_InvalidWord bm_ValueError "ValueError.__new__"
  m_InvalidWord : mg "InvalidWord" = some (.ref C_InvalidWord)
  C_InvalidHolds : Addr
  I_InvalidHolds : Addr
  X_InvalidHolds : GX.Evvalue K C_InvalidHolds I_InvalidHolds bm_ValueError "ValueError.__new__"
  m_InvalidHolds : mg "InvalidHolds" = some (.ref C_InvalidHolds)
  C_InvalidHand : Addr
  I_InvalidHand : Addr
  X_InvalidHand : GX.Evvalue K C_InvalidHand I_InvalidHand bm_ValueError "ValueError.__new__"
  m_InvalidHand : mg "InvalidHand" = some (.ref C_InvalidHand)
  C_InvalidThing : Addr
  I_InvalidThing : Addr
  X_InvalidThing : GX.Evvalue K C_InvalidThing I_InvalidThing bm_ValueError "ValueError.__new__"
  m_InvalidThing : mg "InvalidThing" = some (.ref C_InvalidThing)
  C_InvalidLimit : Addr
  I_InvalidLimit : Addr
  X_InvalidLimit : GX.Evvalue K C_InvalidLimit I_InvalidLimit bm_ValueError "ValueError.__new__"
  m_InvalidLimit : mg "InvalidLimit" = some (.ref C_InvalidLimit)
  C_InvalidCount : Addr
  I_InvalidCount : Addr
  X_InvalidCount : GX.Evvalue K C_InvalidCount I_InvalidCount bm_ValueError "ValueError.__new__"
  m_InvalidCount : mg "InvalidCount" = some (.ref C_InvalidCount)
  C_InvalidUnit : Addr
  I_InvalidUnit : Addr
  X_InvalidUnit : GX.Evvalue K C_InvalidUnit I_InvalidUnit bm_ValueError "ValueError.__new__"
  m_InvalidUnit : mg "InvalidUnit" = some (.ref C_InvalidUnit)
  C_InvalidState : Addr
  I_InvalidState : Addr
  X_InvalidState : GX.Evvalue K C_InvalidState I_InvalidState bm_ValueError "ValueError.__new__"
  m_InvalidState : mg "InvalidState" = some (.ref C_InvalidState)
  C_InvalidWish : Addr
  I_InvalidWish : Addr
  X_InvalidWish : GX.Evvalue K C_InvalidWish I_InvalidWish bm_ValueError "ValueError.__new__"
  m_InvalidWish : mg "InvalidWish" = some (.ref C_InvalidWish)
  C_InvalidWishes : Addr
  I_InvalidWishes : Addr
  X_InvalidWishes : GX.Evvalue K C_InvalidWishes I_InvalidWishes bm_ValueError "ValueError.__new__"
  m_InvalidWishes : mg "InvalidWishes" = some (.ref C_InvalidWishes)
  C_InvalidDeed : Addr
  I_InvalidDeed : Addr
  X_InvalidDeed : GX.Evvalue K C_InvalidDeed I_InvalidDeed bm_ValueError "ValueError.__new__"
  m_InvalidDeed : mg "InvalidDeed" = some (.ref C_InvalidDeed)
  C_InvalidText : Addr
  I_InvalidText : Addr
  X_InvalidText : GX.Evline K C_InvalidText I_InvalidText bm_ValueError "ValueError.__new__"
  m_InvalidText : mg "InvalidText" = some (.ref C_InvalidText)
  C_InvalidClaim : Addr
  I_InvalidClaim : Addr
  X_InvalidClaim : GX.Evvalue K C_InvalidClaim I_InvalidClaim bm_ValueError "ValueError.__new__"
  m_InvalidClaim : mg "InvalidClaim" = some (.ref C_InvalidClaim)
  C_InvalidCommand : Addr
  I_InvalidCommand : Addr
  X_InvalidCommand : GX.Evvalue K C_InvalidCommand I_InvalidCommand bm_ValueError "ValueError.__new__"
  m_InvalidCommand : mg "InvalidCommand" = some (.ref C_InvalidCommand)
  C_IsTop : Addr
  I_IsTop : Addr
  X_IsTop : GX.Err0 K C_IsTop I_IsTop bm_RuntimeError "RuntimeError.__new__"
  m_IsTop : mg "IsTop" = some (.ref C_IsTop)
  C_Struck : Addr
  I_Struck : Addr
  X_Struck : GX.Evgroup K C_Struck I_Struck bm_RuntimeError "RuntimeError.__new__"
  m_Struck : mg "Struck" = some (.ref C_Struck)
  C_NotStruck : Addr
  I_NotStruck : Addr
  X_NotStruck : GX.Evgroup K C_NotStruck I_NotStruck bm_RuntimeError "RuntimeError.__new__"
  m_NotStruck : mg "NotStruck" = some (.ref C_NotStruck)
  C_HasChildren : Addr
  I_HasChildren : Addr
  X_HasChildren : GX.Evgroup K C_HasChildren I_HasChildren bm_RuntimeError "RuntimeError.__new__"
  m_HasChildren : mg "HasChildren" = some (.ref C_HasChildren)
  C_AtWork : Addr
  I_AtWork : Addr
  X_AtWork : GX.Evhand K C_AtWork I_AtWork bm_RuntimeError "RuntimeError.__new__"
  m_AtWork : mg "AtWork" = some (.ref C_AtWork)
  C_NoWalk : Addr
  I_NoWalk : Addr
  X_NoWalk : GX.Evhand K C_NoWalk I_NoWalk bm_RuntimeError "RuntimeError.__new__"
  m_NoWalk : mg "NoWalk" = some (.ref C_NoWalk)
  C_MustSettle : Addr
  I_MustSettle : Addr
  X_MustSettle : GX.Evhand K C_MustSettle I_MustSettle bm_RuntimeError "RuntimeError.__new__"
  m_MustSettle : mg "MustSettle" = some (.ref C_MustSettle)
  C_NoStock : Addr
  I_NoStock : Addr
  X_NoStock : GX.Evhand K C_NoStock I_NoStock bm_RuntimeError "RuntimeError.__new__"
  m_NoStock : mg "NoStock" = some (.ref C_NoStock)
  C_NotYours : Addr
  I_NotYours : Addr
  X_NotYours : GX.Evhand K C_NotYours I_NotYours bm_RuntimeError "RuntimeError.__new__"
  m_NotYours : mg "NotYours" = some (.ref C_NotYours)
  C_NotLiving : Addr
  I_NotLiving : Addr
  X_NotLiving : GX.Evthing K C_NotLiving I_NotLiving bm_RuntimeError "RuntimeError.__new__"
  m_NotLiving : mg "NotLiving" = some (.ref C_NotLiving)
  C_NoRow : Addr
  I_NoRow : Addr
  X_NoRow : GX.Evkind K C_NoRow I_NoRow bm_RuntimeError "RuntimeError.__new__"
  m_NoRow : mg "NoRow" = some (.ref C_NoRow)
  C_UnderWay : Addr
  I_UnderWay : Addr
  X_UnderWay : GX.Evthing_kind K C_UnderWay I_UnderWay bm_RuntimeError "RuntimeError.__new__"
  m_UnderWay : mg "UnderWay" = some (.ref C_UnderWay)
  C_Held : Addr
  I_Held : Addr
  X_Held : GX.Evthing_kind K C_Held I_Held bm_RuntimeError "RuntimeError.__new__"
  m_Held : mg "Held" = some (.ref C_Held)
  C_NotKept : Addr
  I_NotKept : Addr
  X_NotKept : GX.Evwish K C_NotKept I_NotKept bm_RuntimeError "RuntimeError.__new__"
  m_NotKept : mg "NotKept" = some (.ref C_NotKept)
  C_NoEnd : Addr
  I_NoEnd : Addr
  X_NoEnd : GX.Err0 K C_NoEnd I_NoEnd bm_RuntimeError "RuntimeError.__new__"
  m_NoEnd : mg "NoEnd" = some (.ref C_NoEnd)
  C_Untrue : Addr
  I_Untrue : Addr
  X_Untrue : GX.Err0 K C_Untrue I_Untrue bm_RuntimeError "RuntimeError.__new__"
  m_Untrue : mg "Untrue" = some (.ref C_Untrue)
  C_NothingToUndo : Addr
  I_NothingToUndo : Addr
  X_NothingToUndo : GX.Err0 K C_NothingToUndo I_NothingToUndo bm_RuntimeError "RuntimeError.__new__"
  m_NothingToUndo : mg "NothingToUndo" = some (.ref C_NothingToUndo)
  C_DeedFailed : Addr
  I_DeedFailed : Addr
  X_DeedFailed : GX.Evposition K C_DeedFailed I_DeedFailed bm_RuntimeError "RuntimeError.__new__"
  m_DeedFailed : mg "DeedFailed" = some (.ref C_DeedFailed)
  C_CommandFailed : Addr
  I_CommandFailed : Addr
  X_CommandFailed : GX.Evposition K C_CommandFailed I_CommandFailed bm_RuntimeError "RuntimeError.__new__"
  m_CommandFailed : mg "CommandFailed" = some (.ref C_CommandFailed)
  C_TooMany : Addr
  I_TooMany : Addr
  X_TooMany : GX.Evwhat_limit K C_TooMany I_TooMany bm_ArithmeticError "ArithmeticError.__new__"
  m_TooMany : mg "TooMany" = some (.ref C_TooMany)
  C_LimitError : Addr
  m_LimitError : mg "LimitError" = some (.ref C_LimitError)
  C_StandError : Addr
  m_StandError : mg "StandError" = some (.ref C_StandError)
  C_WayError : Addr
  m_WayError : mg "WayError" = some (.ref C_WayError)
  kt : ktB K [C_InvalidGroup, C_InvalidParents, C_InvalidStruck, C_InvalidKind, C_InvalidRow, C_InvalidWord, C_InvalidHolds, C_InvalidHand, C_InvalidThing, C_InvalidLimit, C_InvalidCount, C_InvalidUnit, C_InvalidState, C_InvalidWish, C_InvalidWishes, C_InvalidDeed, C_InvalidText, C_InvalidClaim, C_InvalidCommand, C_IsTop, C_Struck, C_NotStruck, C_HasChildren, C_AtWork, C_NoWalk, C_MustSettle, C_NoStock, C_NotYours, C_NotLiving, C_NoRow, C_UnderWay, C_Held, C_NotKept, C_NoEnd, C_Untrue, C_NothingToUndo, C_DeedFailed, C_CommandFailed, C_TooMany] = true
  ku : kuB K [C_InvalidGroup, C_InvalidParents, C_InvalidStruck, C_InvalidKind, C_InvalidRow, C_InvalidWord, C_InvalidHolds, C_InvalidHand, C_InvalidThing, C_InvalidLimit, C_InvalidCount, C_InvalidUnit, C_InvalidState, C_InvalidWish, C_InvalidWishes, C_InvalidDeed, C_InvalidText, C_InvalidClaim, C_InvalidCommand, C_IsTop, C_Struck, C_NotStruck, C_HasChildren, C_AtWork, C_NoWalk, C_MustSettle, C_NoStock, C_NotYours, C_NotLiving, C_NoRow, C_UnderWay, C_Held, C_NotKept, C_NoEnd, C_Untrue, C_NothingToUndo, C_DeedFailed, C_CommandFailed, C_TooMany] [.ref C_WayError, .ref C_StandError, .ref C_LimitError, .type "ValueError", .type "RuntimeError", .type "ArithmeticError", .type "LookupError", .type "TypeError", .type "NotImplementedError", .type "OverflowError", .type "ZeroDivisionError", .type "AttributeError", .type "KeyError", .type "IndexError", .type "StopIteration"] = true
  ke : keB K [C_InvalidGroup, C_InvalidParents, C_InvalidStruck, C_InvalidKind, C_InvalidRow, C_InvalidWord, C_InvalidHolds, C_InvalidHand, C_InvalidThing, C_InvalidLimit, C_InvalidCount, C_InvalidUnit, C_InvalidState, C_InvalidWish, C_InvalidWishes, C_InvalidDeed, C_InvalidText, C_InvalidClaim, C_InvalidCommand, C_IsTop, C_Struck, C_NotStruck, C_HasChildren, C_AtWork, C_NoWalk, C_MustSettle, C_NoStock, C_NotYours, C_NotLiving, C_NoRow, C_UnderWay, C_Held, C_NotKept, C_NoEnd, C_Untrue, C_NothingToUndo, C_DeedFailed, C_CommandFailed, C_TooMany] = true
  q_InvalidRow_WayError : PySem.W.exmOne K (.ref C_InvalidRow) (.ref C_WayError) = some true
  q_Held_WayError : PySem.W.exmOne K (.ref C_Held) (.ref C_WayError) = some false
  q_Held_StandError : PySem.W.exmOne K (.ref C_Held) (.ref C_StandError) = some true
  q_TooMany_WayError : PySem.W.exmOne K (.ref C_TooMany) (.ref C_WayError) = some false
  q_TooMany_StandError : PySem.W.exmOne K (.ref C_TooMany) (.ref C_StandError) = some false
  q_TooMany_LimitError : PySem.W.exmOne K (.ref C_TooMany) (.ref C_LimitError) = some true
  z_ArithmeticError : mg "ArithmeticError" = none
  z_AttributeError : mg "AttributeError" = none
  z_IndexError : mg "IndexError" = none
  z_KeyError : mg "KeyError" = none
  z_LookupError : mg "LookupError" = none
  z_NotImplementedError : mg "NotImplementedError" = none
  z_OverflowError : mg "OverflowError" = none
  z_RuntimeError : mg "RuntimeError" = none
  z_StopIteration : mg "StopIteration" = none
  z_TypeError : mg "TypeError" = none
  z_ValueError : mg "ValueError" = none
  z_ZeroDivisionError : mg "ZeroDivisionError" = none
  z_abs : mg "abs" = none
  z_all : mg "all" = none
  z_divmod : mg "divmod" = none
  z_int : mg "int" = none
  z_isinstance : mg "isinstance" = none
  z_len : mg "len" = none
  z_max : mg "max" = none
  z_min : mg "min" = none
  z_range : mg "range" = none
  z_repr : mg "repr" = none
end My
/-! parents, ways, zones -/
namespace My
/-- the parents of the groups 1, 2, .. : each one ahead of its child -/
def Good (ps : List Nat) : Prop := ∀ i, i < ps.length → ps.getD i 0 ≤ i
def up (ps : List Nat) (g : Nat) : Nat := ps.getD (g - 1) 0
theorem Good.nil : Good [] := fun i h => absurd h (Nat.not_lt_zero i)
theorem Good.range (n : Nat) : Good (List.range n) := by
  intro i hi
  rw [List.length_range] at hi
  rw [List.getD_eq_getElem?_getD, List.getElem?_range hi]
  exact Nat.le_refl _
end My
namespace My
open PySem PySem.Spec PyProof.Rows L2 GL Evl StX SkE
/-! ### draws -/
def sp_Lpick : Sp := fun vs H Q _ => ∃ a l, ∃ xs : List V, vs = [.ref a, .ref l] ∧ PotAt H a ∧ l ≠ a ∧ H l = some (.lst xs) ∧ 1 ≤ xs.length ∧ xs.length ≤ 1000 ∧ ∀ H' v, ExB a H H' → PotAt H' a → v ∈ xs → Q v H'
section
variable {P : Program} {w : World} {K : PySem.W.Frag} {mg : Str → Option Value} {base : Heap} {C : Addr} {H H' : Hp} {σ : L2.St} {te tb ta : TE} {tA : TA} {E : XK} {D : Ends} {tz : TS} {a b d : Addr} {xs ys : List V}
theorem ok_Ldraw (T : Txt K mg w)  : FnG P w K mg base CX0 1 T.f_Ldraw T.fd_Ldraw ["_law_pot_here", "_law_sides"] sp_Ldraw := by
  skip
  refine okG T.F_Ldraw sc_Ldraw (fun vs H Q E h => ?_) (fun cdv A outer s H vs Q E gd hr h => ?_)
  · obtain ⟨_, _, rfl, _⟩ := h
    all_goals rfl
  · obtain ⟨a, n, rfl, ⟨x, y, hx, hx0, hy0, hy1⟩, hn, hn2, q⟩ := h
    refine ⟨_, (pss_cons (ps_if (pt_cmpR op_gt (pe_ix ix_list (pv 0) pe_int (fun _ _ => rfl)) pe_int (nomark _)) (pss_cons (ps_asg (pe_callB call_divmodW (by rfl) T.z_divmod boot_divmod (pa_cons (pe_ix ix_list (pv 0) pe_int (fun _ _ => rfl)) (pa_cons (pv 1) pa_nil))) (pg_tup rfl (pgs_cons (pg_sub (pv 0) pe_int set_list) (pgs_cons (pg_name (i := 2) sc_Ldraw.nd rfl (Or.inl rfl) (Or.inr rfl)) pgs_nil)))) (pss_one (ps_ret (pv 2)))) pss_nil) (pss_cons (ps_asg (pe_op op_mod (pe_callTy call_int1 (by rfl) T.z_int (by decide +kernel) (pa_cons (pe_op op_add (pe_op op_mul (pe_ix ix_list (pv 0) pe_int (fun _ _ => rfl)) pe_int) pe_int) pa_nil)) pe_int) (pg_sub (pv 0) pe_int set_list)) (pss_one (ps_ret (pe_op op_mod (pe_callTy call_int1 (by rfl) T.z_int (by decide +kernel) (pa_cons (pe_op op_fdiv (pe_op op_mod (pe_callTy call_int1 (by rfl) T.z_int (by decide +kernel) (pa_cons (pe_op op_mul (pe_ix ix_list (pv 0) pe_int (fun _ _ => rfl)) (pe_ix ix_list (pv 0) pe_int (fun _ _ => rfl))) pa_nil)) pe_int) pe_int) pa_nil)) (pv 1)))))), ?_⟩
    have at0 : ∀ H1, H1 a = some (.lst [.int x, .int y]) → Ev (tOp (rIxL K) (tVar 0) (tC (.int 0))) [some (.ref a), some (nV n), none] H1 (.int x) := fun H1 h => ev_op (ev_var rfl) ev_c (rv_ixL (sq_of h) (atI_nat (j := 0) rfl))
    refine q_when (et_test (ev_op (at0 _ hx) ev_c rv_I0)) (fun hb H1 e1 => ?_) fun hb H1 e1 => ?_
    · refine q_asgR (cb_raw (ea_cons (at0 _ (e1 _ _ hx)) (ea_cons (ev_var rfl) ea_nil)) fun H2 e2 => ⟨x, n, rfl, ⟨by omega, no_pylong hn2⟩, fun p hp => ?_⟩)
      have hx2 := e2 _ _ (e1 _ _ hx)
      have nap : a ≠ p := ne_of_none hx2 hp
      have hx3 : (upd H2 p (.tup [.int (x / n), .int (x % n)])) a = some (.lst [.int x, .int y]) := by
        rw [upd_ne nap]
        exact hx2
      refine ⟨p, _, rfl, st_of upd_same, rfl, _, _, rfl, _, rfl, a, _, 0, 0, rfl, rfl, hx3, rfl, _, _, rfl, rfl, ?_⟩
      have hlo := Int.emod_nonneg x (show (n : Int) ≠ 0 by omega)
      have hhi := Int.emod_lt_of_pos x (show (0 : Int) < n by omega)
      have hq := Int.ediv_nonneg hx0 (show (0 : Int) ≤ n by omega)
      refine s_ret (v := nV (x % n).toNat) (ev_is (ev_var rfl) (by show V.int _ = V.int _; congr 1; omega)) fun H4 e4 => q H4 _ ?_ ?_ (by omega)
      · exact (((ExB.of (e1.trans e2)).trans (ExB.of (Ex.new hp))).trans ExB.set).trans (ExB.of e4)
      · exact ⟨_, _, e4 _ _ upd_same, hq, hy0, hy1⟩
    · have at1 : ∀ H1 z, H1 a = some (.lst [.int x, .int z]) → Ev (tOp (rIxL K) (tVar 0) (tC (.int 1))) [some (.ref a), some (nV n), none] H1 (.int z) := fun H1 z h => ev_op (ev_var rfl) ev_c (rv_ixL (sq_of h) (atI_nat (j := 1) rfl))
      have h1 := e1 _ _ hx
      refine q_asgR (ev_raw (ev_op (ev_cb (ea_cons (ev_op (ev_op (at1 H1 y h1) ev_c (rv_I (.inl ⟨by omega, by omega⟩))) ev_c rv_I0) ea_nil) rc_int) ev_c (rv_I (by show (0 : Int) < 2147483549; omega))) fun H2 e2 => ?_)
      refine ⟨_, rfl, a, _, 1, 1, rfl, rfl, e2 _ _ h1, rfl, ?_⟩
      have b0 := Int.emod_nonneg (y * 40009 + 17011) (show (2147483549 : Int) ≠ 0 by omega)
      have b1 := Int.emod_lt_of_pos (y * 40009 + 17011) (show (0 : Int) < 2147483549 by omega)
      generalize (y * 40009 + 17011) % 2147483549 = z at b0 b1
      have h3 : (upd H2 a (.lst [.int x, .int z])) a = some (.lst [.int x, .int z]) := upd_same
      have x3 : ExB a H (upd H2 a (.lst [.int x, .int z])) := (ExB.of (e1.trans e2)).trans ExB.set
      show tRet _ _ _ _
      refine s_ret (v := nV ((z * z % 2147483587 / 11) % n).toNat) (ev_is (ev_op (ev_cb (ea_cons (ev_op (ev_op (ev_cb (ea_cons (ev_op (at1 _ z h3) (at1 _ z h3) (rv_I (.inl ⟨by omega, by omega⟩))) ea_nil) rc_int) ev_c (rv_I (by show (0 : Int) < 2147483587; omega))) ev_c (rv_I ⟨by decide, by decide⟩)) ea_nil) rc_int) (ev_var rfl) (rv_I (by show (0 : Int) < n; omega))) ?_) fun H4 e4 => q H4 _ (x3.trans (ExB.of e4)) ⟨x, z, e4 _ _ h3, hx0, b0, by omega⟩ ?_
      · have := Int.emod_nonneg (z * z % 2147483587 / 11) (show (n : Int) ≠ 0 by omega)
        show V.int _ = V.int _
        congr 1
        omega
      · have := Int.emod_lt_of_pos (z * z % 2147483587 / 11) (show (0 : Int) < n by omega)
        have := Int.emod_nonneg (z * z % 2147483587 / 11) (show (n : Int) ≠ 0 by omega)
        omega
theorem ok_Lpot (T : Txt K mg w)  : FnG P w K mg base CX0 1 T.f_Lpot T.fd_Lpot ["_law_script", "_law_k"] (sp_Lpot K) := by
  skip
  refine okG T.F_Lpot sc_Lpot (fun vs H Q E h => ?_) (fun cdv A outer s H vs Q E gd hr h => ?_)
  · obtain ⟨_, _, _, rfl, _⟩ := h
    all_goals rfl
  · obtain ⟨a, ns, k, rfl, hs, hl, hk, q⟩ := h
    refine ⟨_, (pss_cons (ps_set (i := 2) sc_Lpot.nd rfl (Or.inl rfl) (pe_op op_add (pe_op op_mul pe_int (pv 1)) pe_int)) (Evl.pss_cut (ps_if (pt_cmpR op_lt (pv 1) (pe_callB call_len_seq (by rfl) T.z_len PySem.boot_len (pa_cons (pv 0) pa_nil)) (nomark _)) (pss_one (ps_set (i := 2) sc_Lpot.nd rfl (Or.inl rfl) (pe_callB call_abs (by rfl) T.z_abs boot_abs (pa_cons (pe_ix ix_list (pv 0) (pv 1) (fun _ _ => rfl)) pa_nil)))) pss_nil) (pss_one (ps_ret (pe_lst (pa_cons (pe_callB (call_max2 rfl) (by rfl) T.z_max boot_max (pa_cons pe_int (pa_cons (pe_op op_sub (pv 2) (pe_op op_pow pe_int pe_int)) pa_nil))) (pa_cons (pe_op op_add (pe_op op_mod (pe_op op_mul (pe_callTy call_int1 (by rfl) T.z_int (by decide +kernel) (pa_cons (pe_op op_add (pe_op op_mod (pe_callTy call_int1 (by rfl) T.z_int (by decide +kernel) (pa_cons (pv 2) pa_nil)) pe_int) pe_int) pa_nil)) (pe_op op_pow (pe_op op_add (pe_op op_mul pe_int (pv 1)) pe_int) pe_int)) pe_int) pe_int) pa_nil))))))), ?_⟩
    refine q_asg (ev_op (ev_op ev_c (ev_var rfl) (rv_I (.inl ⟨by omega, by omega⟩))) ev_c rv_I0) fun H1 e1 => ?_
    refine q_cut (M := fun σ' H' => Ex H H' ∧ ∃ c : Int, 0 ≤ c ∧ σ' = [some (.ref a), some (.int (k : Int)), some (.int c)]) ?_ fun σ' H' z => ?_
    · refine s_when (et_test (ev_op (ev_var rfl) (ev_cb (ea_cons (ev_var rfl) ea_nil) (rc_lenL (ex_l e1 hs))) rv_I0)) (fun hb H2 e2 => ?_) fun hb H2 e2 => ⟨e1.trans e2, _, ?_, rfl⟩
      · have hlt : k < ns.length := by
          have := of_decide_eq_true hb
          rw [List.length_map] at this
          omega
        refine s_asg (ev_cb (ea_cons (ev_op (ev_var rfl) (ev_var rfl) (rv_ixL (ex_l (e1.trans e2) hs) (atI_nat (v := .int ns[k]) (by rw [List.getElem?_map, List.getElem?_eq_getElem hlt]; rfl)))) ea_nil) rc_abs) fun H3 e3 => ⟨e1.trans (e2.trans e3), _, ?_, rfl⟩
        split <;> omega
      · omega
    · obtain ⟨x2, c, hc, rfl⟩ := z
      have m0 := Int.emod_nonneg c (show (2147483543 : Int) ≠ 0 by omega)
      have m1 := Int.emod_lt_of_pos c (show (0 : Int) < 2147483543 by omega)
      refine s_retL (xs := [.int (if c - 10 ^ (18 : Int).toNat > 0 then c - 10 ^ (18 : Int).toNat else 0), .int ((c % 2147483543 + 7) * (2 * (k : Int) + 3) ^ (3 : Int).toNat % 2147483489 + 1)])
        (el_lst (ea_cons (ev_cb (ea_cons ev_c (ea_cons (ev_op (ev_var rfl) (ev_op ev_c ev_c (rv_I ⟨by decide, by decide, by decide⟩)) rv_I0) ea_nil)) rc_max2) (ea_cons (ev_op (ev_op (ev_op (ev_cb (ea_cons (ev_op (ev_op (ev_cb (ea_cons (ev_var rfl) ea_nil) rc_int) ev_c (rv_I (by show (0 : Int) < 2147483543; omega))) ev_c rv_I0) ea_nil) rc_int)
          (ev_op (ev_op (ev_op ev_c (ev_var rfl) (rv_I (.inl ⟨by omega, by omega⟩))) ev_c rv_I0) ev_c (rv_I ⟨by decide, by decide, by omega⟩)) (rv_I (.inl ⟨by omega, by omega⟩))) ev_c (rv_I (by show (0 : Int) < 2147483489; omega))) ev_c rv_I0) ea_nil)) (by show 2 ≤ 100000; omega)) fun p H3 hp e3 h3 => q H3 p (fresh_back x2 hp) (x2.trans e3) ⟨_, _, h3, ?_, ?_, ?_⟩
      · split <;> omega
      · have := Int.emod_nonneg ((c % 2147483543 + 7) * (2 * (k : Int) + 3) ^ (3 : Int).toNat) (show (2147483489 : Int) ≠ 0 by omega)
        omega
      · have := Int.emod_lt_of_pos ((c % 2147483543 + 7) * (2 * (k : Int) + 3) ^ (3 : Int).toNat) (show (0 : Int) < 2147483489 by omega)
        omega
theorem ok_Lpick (T : Txt K mg w) (G_Ldraw : FnG P w K mg base CX0 1 T.f_Ldraw T.fd_Ldraw ["_law_pot_here", "_law_sides"] sp_Ldraw) : FnG P w K mg base CX0 2 T.f_Lpick T.fd_Lpick ["_law_pot_here", "_law_some"] sp_Lpick := by
  skip
  refine okG T.F_Lpick sc_Lpick (fun vs H Q E h => ?_) (fun cdv A outer s H vs Q E gd hr h => ?_)
  · obtain ⟨_, _, _, rfl, _⟩ := h
    all_goals rfl
  · obtain ⟨a, l, xs, rfl, hp, nla, hl, h1, h2, q⟩ := h
    refine ⟨_, (pss_one (ps_ret (pe_ix ix_list (pv 1) (pc gd G_Ldraw (hr.mono (by decide)) (by rfl) T.m_Ldraw T.F_Ldraw.kp T.b_Ldraw .nil pass0 (pa_cons (pv 0) (pa_cons (pe_callB call_len_seq (by rfl) T.z_len PySem.boot_len (pa_cons (pv 1) pa_nil)) pa_nil))) (fun _ _ => rfl)))), ?_⟩
    refine s_retR (op_raw (ev_raw (ev_var (v := .ref l) rfl) fun H1 e1 => ?_))
    refine dr (n := xs.length) (ea_cons (ev_var rfl) (ea_cons (ev_len (ev_var rfl) (sq_of (e1 _ _ hl))) ea_nil)) (hp.ex e1) h1 h2 fun H2 d x2 p2 hd => ?_
    exact ⟨l, xs, (d : Int), xs[d], rfl, rfl, sq_of (x2 _ _ nla (e1 _ _ hl)), atI_nat (List.getElem?_eq_getElem hd), q H2 _ ((ExB.of e1).trans x2) p2 (List.getElem_mem hd)⟩
end
end My
namespace My
open PySem PySem.Spec PyProof.Rows L2 GL Evl StX SkE
/-! ### errors, made -/
abbrev EQ : Type := Addr × List (Str × V)
inductive ErsAt (H : Hp) : List V → List EQ → Prop where
  | nil : ErsAt H [] []
  | cons {a C : Addr} {fs : List (Str × V)} {vs : List V} {qs : List EQ} (h : ExAt H a C fs) (t : ErsAt H vs qs) : ErsAt H (.ref a :: vs) ((C, fs) :: qs)
section
variable {H H' : Hp} {l a C : Addr} {fs : List (Str × V)} {vs ys xs : List V} {qs rs : List EQ}
theorem ErsAt.ex (h : ErsAt H vs qs) (e : Ex H H') : ErsAt H' vs qs := by
  induction h with
  | nil => exact .nil
  | cons h _ ih => exact .cons (h.ex e) ih
theorem ErsAt.app (h : ErsAt H vs qs) (h2 : ErsAt H ys rs) : ErsAt H (vs ++ ys) (qs ++ rs) := by
  induction h with
  | nil => exact h2
  | cons h _ ih => exact .cons h ih
theorem ErsAt.len (h : ErsAt H vs qs) : vs.length = qs.length := by
  induction h with
  | nil => rfl
  | cons _ _ ih => rw [List.length_cons, List.length_cons, ih]
theorem exi_no {d : Option Addr} {xs : List V} : exi C d a ≠ .lst xs := fun z => by
  unfold exi at z
  cases z
theorem ex_exL (h : ExAt H a C fs) (e : ExB l H H') (hl : H l = some (.lst xs)) : ExAt H' a C fs := by
  have n1 : ∀ {o : HO} {b : Addr}, H b = some o → (∀ ys, o ≠ .lst ys) → b ≠ l := fun {o b} hb n z => by
    rw [z, hl] at hb
    exact n xs (Option.some.inj hb).symm
  rcases h with ⟨h1, h2⟩ | ⟨d, h1, h2⟩
  · exact .inl ⟨h1, e _ _ (n1 h2 fun _ => exi_no) h2⟩
  · exact .inr ⟨d, e _ _ (n1 h1 fun _ => exi_no) h1, e _ _ (n1 h2 fun _ z => nomatch z) h2⟩
theorem ErsAt.exL (h : ErsAt H vs qs) (e : ExB l H H') (hl : H l = some (.lst xs)) : ErsAt H' vs qs := by
  induction h with
  | nil => exact .nil
  | cons h _ ih => exact .cons (ex_exL h e hl) ih
theorem ErsAt.at (h : ErsAt H vs qs) {i : Nat} {q : EQ} (hq : qs[i]? = some q) : ∃ a, vs[i]? = some (.ref a) ∧ ExAt H a q.1 q.2 := by
  induction h generalizing i with
  | nil => simp at hq
  | @cons a C fs vs qs h _ ih =>
    cases i with
    | zero =>
      rw [List.getElem?_cons_zero] at hq
      obtain rfl := Option.some.inj hq
      exact ⟨a, rfl, h⟩
    | succ i =>
      rw [List.getElem?_cons_succ] at hq ⊢
      exact ih hq
end
section
variable {K : PySem.W.Frag} {C l : Addr} {H H' : Hp} {σ : L2.St} {te ta tb : TE} {tA : TA} {D : Ends} {tz : TS} {xs vs : List V} {fs : List (Str × V)} {qs rs : List EQ} {Q : VK}
/-- evaluates to an error, new errors -/
def EvE (te : TE) (σ : L2.St) (H : Hp) (C : Addr) (fs : List (Str × V)) : Prop := ∀ H1, Ex H H1 → ∀ Q : VK, (∀ e H2, Ex H1 H2 → ExAt H2 e C fs → Q (.ref e) H2) → te σ H1 Q
def EvEA (tA : TA) (σ : L2.St) (H : Hp) (qs : List EQ) : Prop := ∀ H1, Ex H H1 → ∀ Q : List V → Hp → Prop, (∀ ys H2, Ex H1 H2 → ErsAt H2 ys qs → Q ys H2) → tA σ H1 Q
def EvEs (te : TE) (σ : L2.St) (H : Hp) (qs : List EQ) : Prop := ∀ H1, Ex H H1 → ∀ Q : VK, (∀ p ys H2, H1 p = none → Ex H1 H2 → H2 p = some (.lst ys) → ErsAt H2 ys qs → Q (.ref p) H2) → te σ H1 Q
theorem ee_v {n : Nat} {f : List V → List (Str × V)} (h : EvA tA σ H vs) (hn : vs.length = n) : EvE (tXv C n f tA) σ H C (f vs) := fun H1 x Q q => h H1 x _ fun H2 x2 => ⟨hn, fun e d he hd ne => by
  have hd2 : (upd H2 d (.xd (f vs))) e = none := by rw [upd_ne ne.symm]; exact he
  exact q e _ ((x2.trans (Ex.new hd)).trans (Ex.new hd2)) (.inr ⟨d, upd_same, by rw [upd_ne ne, upd_same]⟩)⟩
theorem ee_0 : EvE (tX0 C) σ H C [] := fun H1 x Q q e he => q e _ (Ex.new he) (.inl ⟨rfl, upd_same⟩)
theorem eea_nil : EvEA tNil σ H [] := fun H1 _ Q q => q [] H1 (Ex.refl H1) .nil
theorem eea_cons (h : EvE te σ H C fs) (t : EvEA tA σ H qs) : EvEA (tCons te tA) σ H ((C, fs) :: qs) := fun H1 x Q q => h H1 x _ fun e H2 x2 he => t H2 (x.trans x2) _ fun ys H3 x3 hy => q _ H3 (x2.trans x3) (.cons (he.ex x3) hy)
theorem ees_lst (h : EvEA tA σ H qs) (hl : qs.length ≤ 1000) : EvEs (tLst tA) σ H qs := fun H1 x Q q => h H1 x _ fun ys H2 x2 hy => ⟨by rw [hy.len, sizeLine_eq]; omega, fun p hp => q p ys _ (fresh_back x2 hp) (x2.trans (Ex.new hp)) upd_same (hy.ex (Ex.new hp))⟩
theorem q_asgE {i : Nat} (h : EvEs te σ H qs) (k : ∀ p ys H1, H p = none → Ex H H1 → H1 p = some (.lst ys) → ErsAt H1 ys qs → tz D (σ.set i (some (.ref p))) H1) : tSeq (tAsg te (gName i)) tz D σ H := h H (Ex.refl H) _ k
theorem q_extE (hl : H l = some (.lst xs)) (hx : ErsAt H xs qs) (ha : Ev ta σ H (.ref l)) (h : EvEs te σ H rs) (hz : qs.length + rs.length ≤ 10000) (k : ∀ H1 ys, Ex H H1 → ErsAt (upd H1 l (.lst ys)) ys (qs ++ rs) → tz D σ (upd H1 l (.lst ys))) : tSeq (tDrop (tBM K "list" rExtend ta (tCons te tNil))) tz D σ H :=
  ha H (Ex.refl H) _ fun H1 e1 => ⟨Or.inl ⟨rfl, xs, sq_of (e1 _ _ hl)⟩, h H1 e1 _ fun b ys H2 hb e2 h2 hy => ⟨l, b, xs, ys, rfl, rfl, (e1.trans e2) _ _ hl, h2, by rw [hx.len, hy.len, sizeLine_eq]; omega, k H2 _ (e1.trans e2) (((hx.ex (e1.trans e2)).app hy).exL ExB.set ((e1.trans e2) _ _ hl))⟩⟩
theorem cons1_raw {QA : List V → Hp → Prop} (h : te σ H fun x H1 => QA [x] H1) : tCons te tNil σ H QA := h
theorem cons_rw {QA : List V → Hp → Prop} (h : te σ H fun x H1 => tA σ H1 fun vs H2 => QA (x :: vs) H2) : tCons te tA σ H QA := h
theorem cons_ev {QA : List V → Hp → Prop} {x : V} (h : Ev te σ H x) (k : ∀ H1, Ex H H1 → tA σ H1 fun xs H2 => QA (x :: xs) H2) : tCons te tA σ H QA := h H (Ex.refl H) _ k
theorem nil_raw {QA : List V → Hp → Prop} (h : QA [] H) : tNil σ H QA := h
theorem call_raw0 {sp : Sp} {E : XK} (h : tA σ H fun vs H1 => sp (vs ++ []) H1 Q E) : tCall sp [] E tA σ H Q := h
theorem lst_raw (h : tA σ H fun xs H1 => xs.length ≤ sizeLine ∧ ∀ p, H1 p = none → Q (.ref p) (upd H1 p (.lst xs))) : tLst tA σ H Q := h
theorem ev_raw' {v : V} (h : Ev te σ H v) (k : ∀ H1, Ex H H1 → Q v H1) : te σ H Q := h H (Ex.refl H) Q k
end
/-- all errors, by place -/
def errQ {K : PySem.W.Frag} {mg : Str → Option Value} {w : World} (T : Txt K mg w) (a b : V) : List EQ := ([(T.C_InvalidGroup, [("value", a)]), (T.C_InvalidParents, [("position", a)]), (T.C_InvalidStruck, [("position", a)]), (T.C_InvalidKind, [("value", a)]), (T.C_InvalidRow, [("kind", a), ("value", b)]), (T.C_InvalidWord, [("name", a), ("value", b)])] : List EQ) ++ ([(T.C_InvalidHolds, [("value", a)]), (T.C_InvalidHand, [("value", a)]), (T.C_InvalidThing, [("value", a)]), (T.C_InvalidLimit, [("value", a)]), (T.C_InvalidCount, [("value", a)]), (T.C_InvalidUnit, [("value", a)])] : List EQ) ++ ([(T.C_InvalidState, [("value", a)]), (T.C_InvalidWish, [("value", a)]), (T.C_InvalidWishes, [("value", a)]), (T.C_InvalidDeed, [("value", a)]), (T.C_InvalidText, [("line", a)]), (T.C_InvalidClaim, [("value", a)])] : List EQ) ++ ([(T.C_InvalidCommand, [("value", a)]), (T.C_IsTop, []), (T.C_Struck, [("group", a)]), (T.C_NotStruck, [("group", a)]), (T.C_HasChildren, [("group", a)]), (T.C_AtWork, [("hand", a)]), (T.C_NoWalk, [("hand", a)])] : List EQ) ++ ([(T.C_MustSettle, [("hand", a)]), (T.C_NoStock, [("hand", a)]), (T.C_NotYours, [("hand", a)]), (T.C_NotLiving, [("thing", a)]), (T.C_NoRow, [("kind", a)]), (T.C_UnderWay, [("thing", a), ("kind", b)]), (T.C_Held, [("thing", a), ("kind", b)])] : List EQ) ++ ([(T.C_NotKept, [("wish", a)]), (T.C_NoEnd, []), (T.C_Untrue, []), (T.C_NothingToUndo, []), (T.C_DeedFailed, [("position", a)]), (T.C_CommandFailed, [("position", a)])] : List EQ) ++ ([(T.C_TooMany, [("what", a), ("limit", b)])] : List EQ)
def sp_Lmade {K : PySem.W.Frag} {mg : Str → Option Value} {w : World} (T : Txt K mg w) : Sp := fun vs H Q _ => ∃ a b, vs = [a, b] ∧ ∀ H' p ys, H p = none → Ex H H' → H' p = some (.lst ys) → ErsAt H' ys (errQ T a b) → Q (.ref p) H'
section
variable {P : Program} {w : World} {K : PySem.W.Frag} {mg : Str → Option Value} {base : Heap} {H H' : Hp} {σ : L2.St} {te tb ta : TE} {tA : TA} {E : XK} {D : Ends} {tz : TS}
theorem ok_Lmade (T : Txt K mg w)  : FnG P w K mg base CX0 1 T.f_Lmade T.fd_Lmade ["_law_a", "_law_b"] (sp_Lmade T) := by
  skip
  refine okG T.F_Lmade sc_Lmade (fun vs H Q E h => ?_) (fun cdv A outer s H vs Q E gd hr h => ?_)
  · obtain ⟨_, _, rfl, _⟩ := h
    all_goals rfl
  · obtain ⟨a, b, rfl, q⟩ := h
    refine ⟨_, (pss_cons (ps_set (i := 2) sc_Lmade.nd rfl (Or.inl rfl) (pe_lst (pa_cons (px_value PySem.F.store_ValueError PySem.F.excBase_ValueError T.X_InvalidGroup hr (by rfl) T.m_InvalidGroup (pa_cons (pv 0) pa_nil)) (pa_cons (px_position PySem.F.store_ValueError PySem.F.excBase_ValueError T.X_InvalidParents hr (by rfl) T.m_InvalidParents (pa_cons (pv 0) pa_nil)) (pa_cons (px_position PySem.F.store_ValueError PySem.F.excBase_ValueError T.X_InvalidStruck hr (by rfl) T.m_InvalidStruck (pa_cons (pv 0) pa_nil)) (pa_cons (px_value PySem.F.store_ValueError PySem.F.excBase_ValueError T.X_InvalidKind hr (by rfl) T.m_InvalidKind (pa_cons (pv 0) pa_nil)) (pa_cons (px_kind_value PySem.F.store_ValueError PySem.F.excBase_ValueError T.X_InvalidRow hr (by rfl) T.m_InvalidRow (pa_cons (pv 0) (pa_cons (pv 1) pa_nil))) (pa_cons (px_name_value PySem.F.store_ValueError PySem.F.excBase_ValueError T.X_InvalidWord hr (by rfl) T.m_InvalidWord (pa_cons (pv 0) (pa_cons (pv 1) pa_nil))) pa_nil)))))))) (pss_cons (ps_expr (pe_bm PySem.F.plainAttrs_list PySem.F.slot_list_extend PySem.F.type_list_extend mt_extend (pv 2) (pa_cons (pe_lst (pa_cons (px_value PySem.F.store_ValueError PySem.F.excBase_ValueError T.X_InvalidHolds hr (by rfl) T.m_InvalidHolds (pa_cons (pv 0) pa_nil)) (pa_cons (px_value PySem.F.store_ValueError PySem.F.excBase_ValueError T.X_InvalidHand hr (by rfl) T.m_InvalidHand (pa_cons (pv 0) pa_nil)) (pa_cons (px_value PySem.F.store_ValueError PySem.F.excBase_ValueError T.X_InvalidThing hr (by rfl) T.m_InvalidThing (pa_cons (pv 0) pa_nil)) (pa_cons (px_value PySem.F.store_ValueError PySem.F.excBase_ValueError T.X_InvalidLimit hr (by rfl) T.m_InvalidLimit (pa_cons (pv 0) pa_nil)) (pa_cons (px_value PySem.F.store_ValueError PySem.F.excBase_ValueError T.X_InvalidCount hr (by rfl) T.m_InvalidCount (pa_cons (pv 0) pa_nil)) (pa_cons (px_value PySem.F.store_ValueError PySem.F.excBase_ValueError T.X_InvalidUnit hr (by rfl) T.m_InvalidUnit (pa_cons (pv 0) pa_nil)) pa_nil))))))) pa_nil))) (pss_cons (ps_expr (pe_bm PySem.F.plainAttrs_list PySem.F.slot_list_extend PySem.F.type_list_extend mt_extend (pv 2) (pa_cons (pe_lst (pa_cons (px_value PySem.F.store_ValueError PySem.F.excBase_ValueError T.X_InvalidState hr (by rfl) T.m_InvalidState (pa_cons (pv 0) pa_nil)) (pa_cons (px_value PySem.F.store_ValueError PySem.F.excBase_ValueError T.X_InvalidWish hr (by rfl) T.m_InvalidWish (pa_cons (pv 0) pa_nil)) (pa_cons (px_value PySem.F.store_ValueError PySem.F.excBase_ValueError T.X_InvalidWishes hr (by rfl) T.m_InvalidWishes (pa_cons (pv 0) pa_nil)) (pa_cons (px_value PySem.F.store_ValueError PySem.F.excBase_ValueError T.X_InvalidDeed hr (by rfl) T.m_InvalidDeed (pa_cons (pv 0) pa_nil)) (pa_cons (px_line PySem.F.store_ValueError PySem.F.excBase_ValueError T.X_InvalidText hr (by rfl) T.m_InvalidText (pa_cons (pv 0) pa_nil)) (pa_cons (px_value PySem.F.store_ValueError PySem.F.excBase_ValueError T.X_InvalidClaim hr (by rfl) T.m_InvalidClaim (pa_cons (pv 0) pa_nil)) pa_nil))))))) pa_nil))) (pss_cons (ps_expr (pe_bm PySem.F.plainAttrs_list PySem.F.slot_list_extend PySem.F.type_list_extend mt_extend (pv 2) (pa_cons (pe_lst (pa_cons (px_value PySem.F.store_ValueError PySem.F.excBase_ValueError T.X_InvalidCommand hr (by rfl) T.m_InvalidCommand (pa_cons (pv 0) pa_nil)) (pa_cons (px_0 PySem.F.excBase_RuntimeError T.X_IsTop hr (by rfl) T.m_IsTop) (pa_cons (px_group PySem.F.store_RuntimeError PySem.F.excBase_RuntimeError T.X_Struck hr (by rfl) T.m_Struck (pa_cons (pv 0) pa_nil)) (pa_cons (px_group PySem.F.store_RuntimeError PySem.F.excBase_RuntimeError T.X_NotStruck hr (by rfl) T.m_NotStruck (pa_cons (pv 0) pa_nil)) (pa_cons (px_group PySem.F.store_RuntimeError PySem.F.excBase_RuntimeError T.X_HasChildren hr (by rfl) T.m_HasChildren (pa_cons (pv 0) pa_nil)) (pa_cons (px_hand PySem.F.store_RuntimeError PySem.F.excBase_RuntimeError T.X_AtWork hr (by rfl) T.m_AtWork (pa_cons (pv 0) pa_nil)) (pa_cons (px_hand PySem.F.store_RuntimeError PySem.F.excBase_RuntimeError T.X_NoWalk hr (by rfl) T.m_NoWalk (pa_cons (pv 0) pa_nil)) pa_nil)))))))) pa_nil))) (pss_cons (ps_expr (pe_bm PySem.F.plainAttrs_list PySem.F.slot_list_extend PySem.F.type_list_extend mt_extend (pv 2) (pa_cons (pe_lst (pa_cons (px_hand PySem.F.store_RuntimeError PySem.F.excBase_RuntimeError T.X_MustSettle hr (by rfl) T.m_MustSettle (pa_cons (pv 0) pa_nil)) (pa_cons (px_hand PySem.F.store_RuntimeError PySem.F.excBase_RuntimeError T.X_NoStock hr (by rfl) T.m_NoStock (pa_cons (pv 0) pa_nil)) (pa_cons (px_hand PySem.F.store_RuntimeError PySem.F.excBase_RuntimeError T.X_NotYours hr (by rfl) T.m_NotYours (pa_cons (pv 0) pa_nil)) (pa_cons (px_thing PySem.F.store_RuntimeError PySem.F.excBase_RuntimeError T.X_NotLiving hr (by rfl) T.m_NotLiving (pa_cons (pv 0) pa_nil)) (pa_cons (px_kind PySem.F.store_RuntimeError PySem.F.excBase_RuntimeError T.X_NoRow hr (by rfl) T.m_NoRow (pa_cons (pv 0) pa_nil)) (pa_cons (px_thing_kind PySem.F.store_RuntimeError PySem.F.excBase_RuntimeError T.X_UnderWay hr (by rfl) T.m_UnderWay (pa_cons (pv 0) (pa_cons (pv 1) pa_nil))) (pa_cons (px_thing_kind PySem.F.store_RuntimeError PySem.F.excBase_RuntimeError T.X_Held hr (by rfl) T.m_Held (pa_cons (pv 0) (pa_cons (pv 1) pa_nil))) pa_nil)))))))) pa_nil))) (pss_cons (ps_expr (pe_bm PySem.F.plainAttrs_list PySem.F.slot_list_extend PySem.F.type_list_extend mt_extend (pv 2) (pa_cons (pe_lst (pa_cons (px_wish PySem.F.store_RuntimeError PySem.F.excBase_RuntimeError T.X_NotKept hr (by rfl) T.m_NotKept (pa_cons (pv 0) pa_nil)) (pa_cons (px_0 PySem.F.excBase_RuntimeError T.X_NoEnd hr (by rfl) T.m_NoEnd) (pa_cons (px_0 PySem.F.excBase_RuntimeError T.X_Untrue hr (by rfl) T.m_Untrue) (pa_cons (px_0 PySem.F.excBase_RuntimeError T.X_NothingToUndo hr (by rfl) T.m_NothingToUndo) (pa_cons (px_position PySem.F.store_RuntimeError PySem.F.excBase_RuntimeError T.X_DeedFailed hr (by rfl) T.m_DeedFailed (pa_cons (pv 0) pa_nil)) (pa_cons (px_position PySem.F.store_RuntimeError PySem.F.excBase_RuntimeError T.X_CommandFailed hr (by rfl) T.m_CommandFailed (pa_cons (pv 0) pa_nil)) pa_nil))))))) pa_nil))) (pss_one (ps_ret (pe_op op_cat (pv 2) (pe_lst (pa_cons (px_what_limit PySem.F.store_ArithmeticError PySem.F.excBase_ArithmeticError T.X_TooMany hr (by rfl) T.m_TooMany (pa_cons (pv 0) (pa_cons (pv 1) pa_nil))) pa_nil))))))))))), ?_⟩
    refine q_asgE (ees_lst (eea_cons (ee_v (vs := [a]) (ea_cons (ev_var rfl) ea_nil) rfl) (eea_cons (ee_v (vs := [a]) (ea_cons (ev_var rfl) ea_nil) rfl) (eea_cons (ee_v (vs := [a]) (ea_cons (ev_var rfl) ea_nil) rfl) (eea_cons (ee_v (vs := [a]) (ea_cons (ev_var rfl) ea_nil) rfl) (eea_cons (ee_v (vs := [a, b]) (ea_cons (ev_var rfl) (ea_cons (ev_var rfl) ea_nil)) rfl) (eea_cons (ee_v (vs := [a, b]) (ea_cons (ev_var rfl) (ea_cons (ev_var rfl) ea_nil)) rfl) eea_nil)))))) (by show 6 ≤ 1000; omega)) fun p ys0 H0 hp e0 h0 r0 => ?_
    show tSeq _ _ _ [some a, some b, some (.ref p)] H0
    refine q_extE h0 r0 (ev_var rfl) (ees_lst (eea_cons (ee_v (vs := [a]) (ea_cons (ev_var rfl) ea_nil) rfl) (eea_cons (ee_v (vs := [a]) (ea_cons (ev_var rfl) ea_nil) rfl) (eea_cons (ee_v (vs := [a]) (ea_cons (ev_var rfl) ea_nil) rfl) (eea_cons (ee_v (vs := [a]) (ea_cons (ev_var rfl) ea_nil) rfl) (eea_cons (ee_v (vs := [a]) (ea_cons (ev_var rfl) ea_nil) rfl) (eea_cons (ee_v (vs := [a]) (ea_cons (ev_var rfl) ea_nil) rfl) eea_nil)))))) (by show 6 ≤ 1000; omega)) (by show 6 + 6 ≤ 10000; omega) fun G1 ys1 g1 r1 => ?_
    have e1 := (e0.trans g1).mut (o := .lst ys1) hp
    have h1 : (upd G1 p (.lst ys1)) p = some (.lst ys1) := upd_same
    generalize upd G1 p (.lst ys1) = H1 at e1 h1 r1
    refine q_extE h1 r1 (ev_var rfl) (ees_lst (eea_cons (ee_v (vs := [a]) (ea_cons (ev_var rfl) ea_nil) rfl) (eea_cons (ee_v (vs := [a]) (ea_cons (ev_var rfl) ea_nil) rfl) (eea_cons (ee_v (vs := [a]) (ea_cons (ev_var rfl) ea_nil) rfl) (eea_cons (ee_v (vs := [a]) (ea_cons (ev_var rfl) ea_nil) rfl) (eea_cons (ee_v (vs := [a]) (ea_cons (ev_var rfl) ea_nil) rfl) (eea_cons (ee_v (vs := [a]) (ea_cons (ev_var rfl) ea_nil) rfl) eea_nil)))))) (by show 6 ≤ 1000; omega)) (by show 12 + 6 ≤ 10000; omega) fun G2 ys2 g2 r2 => ?_
    have e2 := (e1.trans g2).mut (o := .lst ys2) hp
    have h2 : (upd G2 p (.lst ys2)) p = some (.lst ys2) := upd_same
    generalize upd G2 p (.lst ys2) = H2 at e2 h2 r2
    refine q_extE h2 r2 (ev_var rfl) (ees_lst (eea_cons (ee_v (vs := [a]) (ea_cons (ev_var rfl) ea_nil) rfl) (eea_cons ee_0 (eea_cons (ee_v (vs := [a]) (ea_cons (ev_var rfl) ea_nil) rfl) (eea_cons (ee_v (vs := [a]) (ea_cons (ev_var rfl) ea_nil) rfl) (eea_cons (ee_v (vs := [a]) (ea_cons (ev_var rfl) ea_nil) rfl) (eea_cons (ee_v (vs := [a]) (ea_cons (ev_var rfl) ea_nil) rfl) (eea_cons (ee_v (vs := [a]) (ea_cons (ev_var rfl) ea_nil) rfl) eea_nil))))))) (by show 7 ≤ 1000; omega)) (by show 18 + 7 ≤ 10000; omega) fun G3 ys3 g3 r3 => ?_
    have e3 := (e2.trans g3).mut (o := .lst ys3) hp
    have h3 : (upd G3 p (.lst ys3)) p = some (.lst ys3) := upd_same
    generalize upd G3 p (.lst ys3) = H3 at e3 h3 r3
    refine q_extE h3 r3 (ev_var rfl) (ees_lst (eea_cons (ee_v (vs := [a]) (ea_cons (ev_var rfl) ea_nil) rfl) (eea_cons (ee_v (vs := [a]) (ea_cons (ev_var rfl) ea_nil) rfl) (eea_cons (ee_v (vs := [a]) (ea_cons (ev_var rfl) ea_nil) rfl) (eea_cons (ee_v (vs := [a]) (ea_cons (ev_var rfl) ea_nil) rfl) (eea_cons (ee_v (vs := [a]) (ea_cons (ev_var rfl) ea_nil) rfl) (eea_cons (ee_v (vs := [a, b]) (ea_cons (ev_var rfl) (ea_cons (ev_var rfl) ea_nil)) rfl) (eea_cons (ee_v (vs := [a, b]) (ea_cons (ev_var rfl) (ea_cons (ev_var rfl) ea_nil)) rfl) eea_nil))))))) (by show 7 ≤ 1000; omega)) (by show 25 + 7 ≤ 10000; omega) fun G4 ys4 g4 r4 => ?_
    have e4 := (e3.trans g4).mut (o := .lst ys4) hp
    have h4 : (upd G4 p (.lst ys4)) p = some (.lst ys4) := upd_same
    generalize upd G4 p (.lst ys4) = H4 at e4 h4 r4
    refine q_extE h4 r4 (ev_var rfl) (ees_lst (eea_cons (ee_v (vs := [a]) (ea_cons (ev_var rfl) ea_nil) rfl) (eea_cons ee_0 (eea_cons ee_0 (eea_cons ee_0 (eea_cons (ee_v (vs := [a]) (ea_cons (ev_var rfl) ea_nil) rfl) (eea_cons (ee_v (vs := [a]) (ea_cons (ev_var rfl) ea_nil) rfl) eea_nil)))))) (by show 6 ≤ 1000; omega)) (by show 32 + 6 ≤ 10000; omega) fun G5 ys5 g5 r5 => ?_
    have e5 := (e4.trans g5).mut (o := .lst ys5) hp
    have h5 : (upd G5 p (.lst ys5)) p = some (.lst ys5) := upd_same
    generalize upd G5 p (.lst ys5) = H5 at e5 h5 r5
    refine s_retR (op_raw (ev_raw (ev_var (v := .ref p) rfl) fun G g => (ees_lst (eea_cons (ee_v (vs := [a, b]) (ea_cons (ev_var rfl) (ea_cons (ev_var rfl) ea_nil)) rfl) eea_nil) (by show 1 ≤ 1000; omega)) G g _ fun b2 ys2 G2 hb2 g2 h2 r2 => ⟨p, b2, ys5, ys2, rfl, rfl, (g.trans g2) _ _ h5, h2, by rw [r5.len, r2.len, sizeLine_eq]; show 38 + 1 ≤ 16777216; omega, fun p2 hp2 => ?_⟩))
    have x3 := (g.trans g2).trans (Ex.new (o := .lst (ys5 ++ ys2)) hp2)
    exact q _ p2 _ (fresh_back (e5.trans (g.trans g2)) hp2) (e5.trans x3) upd_same ((r5.ex x3).app (r2.ex (Ex.new hp2)))
theorem ok_Lnamed (T : Txt K mg w)  : FnG P w K mg base CX0 1 T.f_Lnamed T.fd_Lnamed ["_law_a", "_law_b"] (sp_Lmade T) := by
  skip
  refine okG T.F_Lnamed sc_Lnamed (fun vs H Q E h => ?_) (fun cdv A outer s H vs Q E gd hr h => ?_)
  · obtain ⟨_, _, rfl, _⟩ := h
    all_goals rfl
  · obtain ⟨a, b, rfl, q⟩ := h
    refine ⟨_, (pss_cons (ps_set (i := 2) sc_Lnamed.nd rfl (Or.inl rfl) (pe_lst (pa_cons (pxk_value PySem.F.store_ValueError PySem.F.excBase_ValueError T.X_InvalidGroup hr (by rfl) T.m_InvalidGroup (pk_cons (pv 0) pk_nil)) (pa_cons (pxk_position PySem.F.store_ValueError PySem.F.excBase_ValueError T.X_InvalidParents hr (by rfl) T.m_InvalidParents (pk_cons (pv 0) pk_nil)) (pa_cons (pxk_position PySem.F.store_ValueError PySem.F.excBase_ValueError T.X_InvalidStruck hr (by rfl) T.m_InvalidStruck (pk_cons (pv 0) pk_nil)) (pa_cons (pxk_value PySem.F.store_ValueError PySem.F.excBase_ValueError T.X_InvalidKind hr (by rfl) T.m_InvalidKind (pk_cons (pv 0) pk_nil)) pa_nil)))))) (pss_cons (ps_expr (pe_bm PySem.F.plainAttrs_list PySem.F.slot_list_extend PySem.F.type_list_extend mt_extend (pv 2) (pa_cons (pe_lst (pa_cons (pxk_kind_value PySem.F.store_ValueError PySem.F.excBase_ValueError T.X_InvalidRow hr (by rfl) T.m_InvalidRow (pk_cons (pv 1) (pk_cons (pv 0) pk_nil))) (pa_cons (pxk_name_value PySem.F.store_ValueError PySem.F.excBase_ValueError T.X_InvalidWord hr (by rfl) T.m_InvalidWord (pk_cons (pv 1) (pk_cons (pv 0) pk_nil))) (pa_cons (pxk_value PySem.F.store_ValueError PySem.F.excBase_ValueError T.X_InvalidHolds hr (by rfl) T.m_InvalidHolds (pk_cons (pv 0) pk_nil)) pa_nil)))) pa_nil))) (pss_cons (ps_expr (pe_bm PySem.F.plainAttrs_list PySem.F.slot_list_extend PySem.F.type_list_extend mt_extend (pv 2) (pa_cons (pe_lst (pa_cons (pxk_value PySem.F.store_ValueError PySem.F.excBase_ValueError T.X_InvalidHand hr (by rfl) T.m_InvalidHand (pk_cons (pv 0) pk_nil)) (pa_cons (pxk_value PySem.F.store_ValueError PySem.F.excBase_ValueError T.X_InvalidThing hr (by rfl) T.m_InvalidThing (pk_cons (pv 0) pk_nil)) (pa_cons (pxk_value PySem.F.store_ValueError PySem.F.excBase_ValueError T.X_InvalidLimit hr (by rfl) T.m_InvalidLimit (pk_cons (pv 0) pk_nil)) (pa_cons (pxk_value PySem.F.store_ValueError PySem.F.excBase_ValueError T.X_InvalidCount hr (by rfl) T.m_InvalidCount (pk_cons (pv 0) pk_nil)) pa_nil))))) pa_nil))) (pss_cons (ps_expr (pe_bm PySem.F.plainAttrs_list PySem.F.slot_list_extend PySem.F.type_list_extend mt_extend (pv 2) (pa_cons (pe_lst (pa_cons (pxk_value PySem.F.store_ValueError PySem.F.excBase_ValueError T.X_InvalidUnit hr (by rfl) T.m_InvalidUnit (pk_cons (pv 0) pk_nil)) (pa_cons (pxk_value PySem.F.store_ValueError PySem.F.excBase_ValueError T.X_InvalidState hr (by rfl) T.m_InvalidState (pk_cons (pv 0) pk_nil)) (pa_cons (pxk_value PySem.F.store_ValueError PySem.F.excBase_ValueError T.X_InvalidWish hr (by rfl) T.m_InvalidWish (pk_cons (pv 0) pk_nil)) (pa_cons (pxk_value PySem.F.store_ValueError PySem.F.excBase_ValueError T.X_InvalidWishes hr (by rfl) T.m_InvalidWishes (pk_cons (pv 0) pk_nil)) pa_nil))))) pa_nil))) (pss_cons (ps_expr (pe_bm PySem.F.plainAttrs_list PySem.F.slot_list_extend PySem.F.type_list_extend mt_extend (pv 2) (pa_cons (pe_lst (pa_cons (pxk_value PySem.F.store_ValueError PySem.F.excBase_ValueError T.X_InvalidDeed hr (by rfl) T.m_InvalidDeed (pk_cons (pv 0) pk_nil)) (pa_cons (pxk_line PySem.F.store_ValueError PySem.F.excBase_ValueError T.X_InvalidText hr (by rfl) T.m_InvalidText (pk_cons (pv 0) pk_nil)) (pa_cons (pxk_value PySem.F.store_ValueError PySem.F.excBase_ValueError T.X_InvalidClaim hr (by rfl) T.m_InvalidClaim (pk_cons (pv 0) pk_nil)) (pa_cons (pxk_value PySem.F.store_ValueError PySem.F.excBase_ValueError T.X_InvalidCommand hr (by rfl) T.m_InvalidCommand (pk_cons (pv 0) pk_nil)) pa_nil))))) pa_nil))) (pss_cons (ps_expr (pe_bm PySem.F.plainAttrs_list PySem.F.slot_list_extend PySem.F.type_list_extend mt_extend (pv 2) (pa_cons (pe_lst (pa_cons (px_0 PySem.F.excBase_RuntimeError T.X_IsTop hr (by rfl) T.m_IsTop) (pa_cons (pxk_group PySem.F.store_RuntimeError PySem.F.excBase_RuntimeError T.X_Struck hr (by rfl) T.m_Struck (pk_cons (pv 0) pk_nil)) (pa_cons (pxk_group PySem.F.store_RuntimeError PySem.F.excBase_RuntimeError T.X_NotStruck hr (by rfl) T.m_NotStruck (pk_cons (pv 0) pk_nil)) (pa_cons (pxk_group PySem.F.store_RuntimeError PySem.F.excBase_RuntimeError T.X_HasChildren hr (by rfl) T.m_HasChildren (pk_cons (pv 0) pk_nil)) (pa_cons (pxk_hand PySem.F.store_RuntimeError PySem.F.excBase_RuntimeError T.X_AtWork hr (by rfl) T.m_AtWork (pk_cons (pv 0) pk_nil)) (pa_cons (pxk_hand PySem.F.store_RuntimeError PySem.F.excBase_RuntimeError T.X_NoWalk hr (by rfl) T.m_NoWalk (pk_cons (pv 0) pk_nil)) pa_nil))))))) pa_nil))) (pss_cons (ps_expr (pe_bm PySem.F.plainAttrs_list PySem.F.slot_list_extend PySem.F.type_list_extend mt_extend (pv 2) (pa_cons (pe_lst (pa_cons (pxk_hand PySem.F.store_RuntimeError PySem.F.excBase_RuntimeError T.X_MustSettle hr (by rfl) T.m_MustSettle (pk_cons (pv 0) pk_nil)) (pa_cons (pxk_hand PySem.F.store_RuntimeError PySem.F.excBase_RuntimeError T.X_NoStock hr (by rfl) T.m_NoStock (pk_cons (pv 0) pk_nil)) (pa_cons (pxk_hand PySem.F.store_RuntimeError PySem.F.excBase_RuntimeError T.X_NotYours hr (by rfl) T.m_NotYours (pk_cons (pv 0) pk_nil)) (pa_cons (pxk_thing PySem.F.store_RuntimeError PySem.F.excBase_RuntimeError T.X_NotLiving hr (by rfl) T.m_NotLiving (pk_cons (pv 0) pk_nil)) (pa_cons (pxk_kind PySem.F.store_RuntimeError PySem.F.excBase_RuntimeError T.X_NoRow hr (by rfl) T.m_NoRow (pk_cons (pv 0) pk_nil)) pa_nil)))))) pa_nil))) (pss_cons (ps_expr (pe_bm PySem.F.plainAttrs_list PySem.F.slot_list_extend PySem.F.type_list_extend mt_extend (pv 2) (pa_cons (pe_lst (pa_cons (pxk_thing_kind PySem.F.store_RuntimeError PySem.F.excBase_RuntimeError T.X_UnderWay hr (by rfl) T.m_UnderWay (pk_cons (pv 1) (pk_cons (pv 0) pk_nil))) (pa_cons (pxk_thing_kind PySem.F.store_RuntimeError PySem.F.excBase_RuntimeError T.X_Held hr (by rfl) T.m_Held (pk_cons (pv 1) (pk_cons (pv 0) pk_nil))) (pa_cons (pxk_wish PySem.F.store_RuntimeError PySem.F.excBase_RuntimeError T.X_NotKept hr (by rfl) T.m_NotKept (pk_cons (pv 0) pk_nil)) (pa_cons (px_0 PySem.F.excBase_RuntimeError T.X_NoEnd hr (by rfl) T.m_NoEnd) (pa_cons (px_0 PySem.F.excBase_RuntimeError T.X_Untrue hr (by rfl) T.m_Untrue) pa_nil)))))) pa_nil))) (pss_cons (ps_expr (pe_bm PySem.F.plainAttrs_list PySem.F.slot_list_extend PySem.F.type_list_extend mt_extend (pv 2) (pa_cons (pe_lst (pa_cons (px_0 PySem.F.excBase_RuntimeError T.X_NothingToUndo hr (by rfl) T.m_NothingToUndo) (pa_cons (pxk_position PySem.F.store_RuntimeError PySem.F.excBase_RuntimeError T.X_DeedFailed hr (by rfl) T.m_DeedFailed (pk_cons (pv 0) pk_nil)) (pa_cons (pxk_position PySem.F.store_RuntimeError PySem.F.excBase_RuntimeError T.X_CommandFailed hr (by rfl) T.m_CommandFailed (pk_cons (pv 0) pk_nil)) (pa_cons (pxk_what_limit PySem.F.store_ArithmeticError PySem.F.excBase_ArithmeticError T.X_TooMany hr (by rfl) T.m_TooMany (pk_cons (pv 1) (pk_cons (pv 0) pk_nil))) pa_nil))))) pa_nil))) (pss_one (ps_ret (pv 2)))))))))))), ?_⟩
    refine q_asgE (ees_lst (eea_cons (ee_v (vs := [a]) (ea_cons (ev_var rfl) ea_nil) rfl) (eea_cons (ee_v (vs := [a]) (ea_cons (ev_var rfl) ea_nil) rfl) (eea_cons (ee_v (vs := [a]) (ea_cons (ev_var rfl) ea_nil) rfl) (eea_cons (ee_v (vs := [a]) (ea_cons (ev_var rfl) ea_nil) rfl) eea_nil)))) (by show 4 ≤ 1000; omega)) fun p ys0 H0 hp e0 h0 r0 => ?_
    show tSeq _ _ _ [some a, some b, some (.ref p)] H0
    refine q_extE h0 r0 (ev_var rfl) (ees_lst (eea_cons (ee_v (vs := [b, a]) (ea_cons (ev_var rfl) (ea_cons (ev_var rfl) ea_nil)) rfl) (eea_cons (ee_v (vs := [b, a]) (ea_cons (ev_var rfl) (ea_cons (ev_var rfl) ea_nil)) rfl) (eea_cons (ee_v (vs := [a]) (ea_cons (ev_var rfl) ea_nil) rfl) eea_nil))) (by show 3 ≤ 1000; omega)) (by show 4 + 3 ≤ 10000; omega) fun G1 ys1 g1 r1 => ?_
    have e1 := (e0.trans g1).mut (o := .lst ys1) hp
    have h1 : (upd G1 p (.lst ys1)) p = some (.lst ys1) := upd_same
    generalize upd G1 p (.lst ys1) = H1 at e1 h1 r1
    refine q_extE h1 r1 (ev_var rfl) (ees_lst (eea_cons (ee_v (vs := [a]) (ea_cons (ev_var rfl) ea_nil) rfl) (eea_cons (ee_v (vs := [a]) (ea_cons (ev_var rfl) ea_nil) rfl) (eea_cons (ee_v (vs := [a]) (ea_cons (ev_var rfl) ea_nil) rfl) (eea_cons (ee_v (vs := [a]) (ea_cons (ev_var rfl) ea_nil) rfl) eea_nil)))) (by show 4 ≤ 1000; omega)) (by show 7 + 4 ≤ 10000; omega) fun G2 ys2 g2 r2 => ?_
    have e2 := (e1.trans g2).mut (o := .lst ys2) hp
    have h2 : (upd G2 p (.lst ys2)) p = some (.lst ys2) := upd_same
    generalize upd G2 p (.lst ys2) = H2 at e2 h2 r2
    refine q_extE h2 r2 (ev_var rfl) (ees_lst (eea_cons (ee_v (vs := [a]) (ea_cons (ev_var rfl) ea_nil) rfl) (eea_cons (ee_v (vs := [a]) (ea_cons (ev_var rfl) ea_nil) rfl) (eea_cons (ee_v (vs := [a]) (ea_cons (ev_var rfl) ea_nil) rfl) (eea_cons (ee_v (vs := [a]) (ea_cons (ev_var rfl) ea_nil) rfl) eea_nil)))) (by show 4 ≤ 1000; omega)) (by show 11 + 4 ≤ 10000; omega) fun G3 ys3 g3 r3 => ?_
    have e3 := (e2.trans g3).mut (o := .lst ys3) hp
    have h3 : (upd G3 p (.lst ys3)) p = some (.lst ys3) := upd_same
    generalize upd G3 p (.lst ys3) = H3 at e3 h3 r3
    refine q_extE h3 r3 (ev_var rfl) (ees_lst (eea_cons (ee_v (vs := [a]) (ea_cons (ev_var rfl) ea_nil) rfl) (eea_cons (ee_v (vs := [a]) (ea_cons (ev_var rfl) ea_nil) rfl) (eea_cons (ee_v (vs := [a]) (ea_cons (ev_var rfl) ea_nil) rfl) (eea_cons (ee_v (vs := [a]) (ea_cons (ev_var rfl) ea_nil) rfl) eea_nil)))) (by show 4 ≤ 1000; omega)) (by show 15 + 4 ≤ 10000; omega) fun G4 ys4 g4 r4 => ?_
    have e4 := (e3.trans g4).mut (o := .lst ys4) hp
    have h4 : (upd G4 p (.lst ys4)) p = some (.lst ys4) := upd_same
    generalize upd G4 p (.lst ys4) = H4 at e4 h4 r4
    refine q_extE h4 r4 (ev_var rfl) (ees_lst (eea_cons ee_0 (eea_cons (ee_v (vs := [a]) (ea_cons (ev_var rfl) ea_nil) rfl) (eea_cons (ee_v (vs := [a]) (ea_cons (ev_var rfl) ea_nil) rfl) (eea_cons (ee_v (vs := [a]) (ea_cons (ev_var rfl) ea_nil) rfl) (eea_cons (ee_v (vs := [a]) (ea_cons (ev_var rfl) ea_nil) rfl) (eea_cons (ee_v (vs := [a]) (ea_cons (ev_var rfl) ea_nil) rfl) eea_nil)))))) (by show 6 ≤ 1000; omega)) (by show 19 + 6 ≤ 10000; omega) fun G5 ys5 g5 r5 => ?_
    have e5 := (e4.trans g5).mut (o := .lst ys5) hp
    have h5 : (upd G5 p (.lst ys5)) p = some (.lst ys5) := upd_same
    generalize upd G5 p (.lst ys5) = H5 at e5 h5 r5
    refine q_extE h5 r5 (ev_var rfl) (ees_lst (eea_cons (ee_v (vs := [a]) (ea_cons (ev_var rfl) ea_nil) rfl) (eea_cons (ee_v (vs := [a]) (ea_cons (ev_var rfl) ea_nil) rfl) (eea_cons (ee_v (vs := [a]) (ea_cons (ev_var rfl) ea_nil) rfl) (eea_cons (ee_v (vs := [a]) (ea_cons (ev_var rfl) ea_nil) rfl) (eea_cons (ee_v (vs := [a]) (ea_cons (ev_var rfl) ea_nil) rfl) eea_nil))))) (by show 5 ≤ 1000; omega)) (by show 25 + 5 ≤ 10000; omega) fun G6 ys6 g6 r6 => ?_
    have e6 := (e5.trans g6).mut (o := .lst ys6) hp
    have h6 : (upd G6 p (.lst ys6)) p = some (.lst ys6) := upd_same
    generalize upd G6 p (.lst ys6) = H6 at e6 h6 r6
    refine q_extE h6 r6 (ev_var rfl) (ees_lst (eea_cons (ee_v (vs := [b, a]) (ea_cons (ev_var rfl) (ea_cons (ev_var rfl) ea_nil)) rfl) (eea_cons (ee_v (vs := [b, a]) (ea_cons (ev_var rfl) (ea_cons (ev_var rfl) ea_nil)) rfl) (eea_cons (ee_v (vs := [a]) (ea_cons (ev_var rfl) ea_nil) rfl) (eea_cons ee_0 (eea_cons ee_0 eea_nil))))) (by show 5 ≤ 1000; omega)) (by show 30 + 5 ≤ 10000; omega) fun G7 ys7 g7 r7 => ?_
    have e7 := (e6.trans g7).mut (o := .lst ys7) hp
    have h7 : (upd G7 p (.lst ys7)) p = some (.lst ys7) := upd_same
    generalize upd G7 p (.lst ys7) = H7 at e7 h7 r7
    refine q_extE h7 r7 (ev_var rfl) (ees_lst (eea_cons ee_0 (eea_cons (ee_v (vs := [a]) (ea_cons (ev_var rfl) ea_nil) rfl) (eea_cons (ee_v (vs := [a]) (ea_cons (ev_var rfl) ea_nil) rfl) (eea_cons (ee_v (vs := [b, a]) (ea_cons (ev_var rfl) (ea_cons (ev_var rfl) ea_nil)) rfl) eea_nil)))) (by show 4 ≤ 1000; omega)) (by show 35 + 4 ≤ 10000; omega) fun G8 ys8 g8 r8 => ?_
    have e8 := (e7.trans g8).mut (o := .lst ys8) hp
    have h8 : (upd G8 p (.lst ys8)) p = some (.lst ys8) := upd_same
    generalize upd G8 p (.lst ys8) = H8 at e8 h8 r8
    exact s_ret (ev_var rfl) fun G g => q G p ys8 hp (e8.trans g) (g _ _ h8) (r8.ex g)
end
end My
namespace My
open PySem PySem.Spec PyProof.Rows L2 GL Evl StX SkE
/-! ### of which class an error is -/
def Txt.cs {K : PySem.W.Frag} {mg : Str → Option Value} {w : World} (T : Txt K mg w) : List Addr := [T.C_InvalidGroup, T.C_InvalidParents, T.C_InvalidStruck, T.C_InvalidKind, T.C_InvalidRow, T.C_InvalidWord, T.C_InvalidHolds, T.C_InvalidHand, T.C_InvalidThing, T.C_InvalidLimit, T.C_InvalidCount, T.C_InvalidUnit, T.C_InvalidState, T.C_InvalidWish, T.C_InvalidWishes, T.C_InvalidDeed, T.C_InvalidText, T.C_InvalidClaim, T.C_InvalidCommand, T.C_IsTop, T.C_Struck, T.C_NotStruck, T.C_HasChildren, T.C_AtWork, T.C_NoWalk, T.C_MustSettle, T.C_NoStock, T.C_NotYours, T.C_NotLiving, T.C_NoRow, T.C_UnderWay, T.C_Held, T.C_NotKept, T.C_NoEnd, T.C_Untrue, T.C_NothingToUndo, T.C_DeedFailed, T.C_CommandFailed, T.C_TooMany]
def Txt.ts {K : PySem.W.Frag} {mg : Str → Option Value} {w : World} (T : Txt K mg w) : List Value := [.ref T.C_WayError, .ref T.C_StandError, .ref T.C_LimitError, .type "ValueError", .type "RuntimeError", .type "ArithmeticError", .type "LookupError", .type "TypeError", .type "NotImplementedError", .type "OverflowError", .type "ZeroDivisionError", .type "AttributeError", .type "KeyError", .type "IndexError", .type "StopIteration"]
def owedN (i : Nat) : List Nat := if i < 19 then [0, 3] else if i < 38 then [1, 4] else [2, 5]
theorem given_nat (n : Nat) (f : Nat → Bool) : given n f (fun j => nV j) = ((List.range n).filter f).map nV := rfl
theorem g_which {i : Nat} (h : i < 39) : given 39 (fun j => decide (i = j)) (fun j => nV j) = [nV i] := by
  have go : ((List.range 39).all fun i => decide ((List.range 39).filter (fun j => decide (i = j)) = [i])) = true := by decide +kernel
  rw [given_nat, of_decide_eq_true (List.all_eq_true.mp go i (List.mem_range.mpr h))]
  rfl
theorem g_tops {i : Nat} (h : i < 39) : given 15 (fun j => topOf i j) (fun j => nV j) = (owedN i).map nV := by
  have go : ((List.range 39).all fun i => decide ((List.range 15).filter (fun j => topOf i j) = owedN i)) = true := by decide +kernel
  rw [given_nat, of_decide_eq_true (List.all_eq_true.mp go i (List.mem_range.mpr h))]
def sp_Lwhich {K : PySem.W.Frag} {mg : Str → Option Value} {w : World} (T : Txt K mg w) : Sp := fun vs H Q _ => ∃ e i fs, vs = [.ref e] ∧ i < 39 ∧ ExAt H e (T.cs.getD i 0) fs ∧ RetL [nV i] H Q
def sp_Ltops {K : PySem.W.Frag} {mg : Str → Option Value} {w : World} (T : Txt K mg w) : Sp := fun vs H Q _ => ∃ e i fs, vs = [.ref e] ∧ i < 39 ∧ ExAt H e (T.cs.getD i 0) fs ∧ RetL ((owedN i).map nV) H Q
section
variable {P : Program} {w : World} {K : PySem.W.Frag} {mg : Str → Option Value} {base : Heap} {T : Txt K mg w} {H H' : Hp} {σ : L2.St} {te tb ta : TE} {tA : TA} {E : XK} {D : Ends} {tz : TS} {e : Addr} {fs : List (Str × V)} {i : Nat}
def bsV (g : Nat → Bool) (n : Nat) : List V := (List.range n).map fun j => .bl (g j)
theorem bsV_add (g : Nat → Bool) (n m : Nat) : bsV g n ++ (List.range m).map (fun j => V.bl (g (n + j))) = bsV g (n + m) := by
  unfold bsV
  rw [List.range_add, List.map_append, List.map_map]
  rfl
theorem bsV_len (g : Nat → Bool) (n : Nat) : (bsV g n).length = n := by
  unfold bsV
  rw [List.length_map, List.length_range]
theorem bsV_at (g : Nat → Bool) {n j : Nat} (h : j < n) : (bsV g n)[j]? = some (.bl (g j)) := by
  unfold bsV
  rw [List.getElem?_map, List.getElem?_range h]
  rfl
/-- found.extend([..]), found a list of truths -/
theorem q_extB {l : Addr} {ys : List V} {g : Nat → Bool} (n m : Nat) (hl : H l = some (.lst (bsV g n))) (ha : Ev ta σ H (.ref l)) (h : EvL te σ H ys) (hy : (List.range m).map (fun j => V.bl (g (n + j))) = ys) (hz : n + m ≤ 1000) (k : ∀ H2, ExB l H H2 → H2 l = some (.lst (bsV g (n + m))) → tz D σ H2) : tSeq (tDrop (tBM K "list" rExtend ta (tCons te tNil))) tz D σ H := by
  refine q_ext hl ha h ?_ fun H1 x => k _ ((ExB.of x).trans ExB.set) ?_
  · rw [bsV_len, ← hy, List.length_map, List.length_range]
    omega
  · rw [upd_same, ← hy, bsV_add]
theorem cs_mem (h : i < 39) : T.cs.getD i 0 ∈ T.cs := by
  have l : T.cs.length = 39 := rfl
  rw [List.getD_eq_getElem?_getD, List.getElem?_eq_getElem (by omega)]
  exact List.getElem_mem _
theorem ev_isC {D : Addr} (j : Nat) (hi : i < 39) (he : ExAt H e (T.cs.getD i 0) fs) (hs : σ[0]? = some (some (.ref e))) (hj : j < 39) (hD : T.cs.getD j 0 = D) : Ev (tCB (rIsE K) (tCons (tVar 0) (tCons (tC (.ref D)) tNil))) σ H (.bl (decide (i = j))) :=
  ev_cb (ea_cons (ev_var hs) (ea_cons ev_c ea_nil)) fun H1 x Q q => ⟨e, _, fs, _, _, _, rfl, he.ex x, ke_ok (show keB K T.cs = true from T.ke) (cs_mem hi), .own D, by rw [← hD]; exact kt_ok (show ktB K T.cs = true from T.kt) hi hj, q H1 (Ex.refl H1)⟩
theorem ev_isT {c : V} {u : Value} (j : Nat) (hi : i < 39) (he : ExAt H e (T.cs.getD i 0) fs) (hs : σ[0]? = some (some (.ref e))) (hj : j < 15) (hc : ClsV c u) (hD : T.ts.getD j .none = u) : Ev (tCB (rIsE K) (tCons (tVar 0) (tCons (tC c) tNil))) σ H (.bl (topOf i j)) :=
  ev_cb (ea_cons (ev_var hs) (ea_cons ev_c ea_nil)) fun H1 x Q q => ⟨e, _, fs, _, _, _, rfl, he.ex x, ke_ok (show keB K T.cs = true from T.ke) (cs_mem hi), hc, by rw [← hD]; exact ku_ok (show kuB K T.cs T.ts = true from T.ku) hi hj, q H1 (Ex.refl H1)⟩
theorem ok_Lwhich (T : Txt K mg w)  : FnG P w K mg base CX0 1 T.f_Lwhich T.fd_Lwhich ["_law_e"] (sp_Lwhich T) := by
  skip
  refine okG T.F_Lwhich sc_Lwhich (fun vs H Q E h => ?_) (fun cdv A outer s H vs Q E gd hr h => ?_)
  · obtain ⟨_, _, _, rfl, _⟩ := h
    all_goals rfl
  · obtain ⟨e, i, fs, rfl, hi, he, q⟩ := h
    refine ⟨_, (pss_cons (ps_set (i := 1) sc_Lwhich.nd rfl (Or.inr rfl) (pe_lst (pa_cons (pe_callB call_isE (by rfl) T.z_isinstance boot_isinstance (pa_cons (pv 0) (pa_cons (pe_glob (v := .ref T.C_InvalidGroup) (by rfl) T.m_InvalidGroup rfl) pa_nil))) (pa_cons (pe_callB call_isE (by rfl) T.z_isinstance boot_isinstance (pa_cons (pv 0) (pa_cons (pe_glob (v := .ref T.C_InvalidParents) (by rfl) T.m_InvalidParents rfl) pa_nil))) (pa_cons (pe_callB call_isE (by rfl) T.z_isinstance boot_isinstance (pa_cons (pv 0) (pa_cons (pe_glob (v := .ref T.C_InvalidStruck) (by rfl) T.m_InvalidStruck rfl) pa_nil))) pa_nil))))) (pss_cons (ps_expr (pe_bm PySem.F.plainAttrs_list PySem.F.slot_list_extend PySem.F.type_list_extend mt_extend (pv 1) (pa_cons (pe_lst (pa_cons (pe_callB call_isE (by rfl) T.z_isinstance boot_isinstance (pa_cons (pv 0) (pa_cons (pe_glob (v := .ref T.C_InvalidKind) (by rfl) T.m_InvalidKind rfl) pa_nil))) (pa_cons (pe_callB call_isE (by rfl) T.z_isinstance boot_isinstance (pa_cons (pv 0) (pa_cons (pe_glob (v := .ref T.C_InvalidRow) (by rfl) T.m_InvalidRow rfl) pa_nil))) (pa_cons (pe_callB call_isE (by rfl) T.z_isinstance boot_isinstance (pa_cons (pv 0) (pa_cons (pe_glob (v := .ref T.C_InvalidWord) (by rfl) T.m_InvalidWord rfl) pa_nil))) pa_nil)))) pa_nil))) (pss_cons (ps_expr (pe_bm PySem.F.plainAttrs_list PySem.F.slot_list_extend PySem.F.type_list_extend mt_extend (pv 1) (pa_cons (pe_lst (pa_cons (pe_callB call_isE (by rfl) T.z_isinstance boot_isinstance (pa_cons (pv 0) (pa_cons (pe_glob (v := .ref T.C_InvalidHolds) (by rfl) T.m_InvalidHolds rfl) pa_nil))) (pa_cons (pe_callB call_isE (by rfl) T.z_isinstance boot_isinstance (pa_cons (pv 0) (pa_cons (pe_glob (v := .ref T.C_InvalidHand) (by rfl) T.m_InvalidHand rfl) pa_nil))) (pa_cons (pe_callB call_isE (by rfl) T.z_isinstance boot_isinstance (pa_cons (pv 0) (pa_cons (pe_glob (v := .ref T.C_InvalidThing) (by rfl) T.m_InvalidThing rfl) pa_nil))) pa_nil)))) pa_nil))) (pss_cons (ps_expr (pe_bm PySem.F.plainAttrs_list PySem.F.slot_list_extend PySem.F.type_list_extend mt_extend (pv 1) (pa_cons (pe_lst (pa_cons (pe_callB call_isE (by rfl) T.z_isinstance boot_isinstance (pa_cons (pv 0) (pa_cons (pe_glob (v := .ref T.C_InvalidLimit) (by rfl) T.m_InvalidLimit rfl) pa_nil))) (pa_cons (pe_callB call_isE (by rfl) T.z_isinstance boot_isinstance (pa_cons (pv 0) (pa_cons (pe_glob (v := .ref T.C_InvalidCount) (by rfl) T.m_InvalidCount rfl) pa_nil))) (pa_cons (pe_callB call_isE (by rfl) T.z_isinstance boot_isinstance (pa_cons (pv 0) (pa_cons (pe_glob (v := .ref T.C_InvalidUnit) (by rfl) T.m_InvalidUnit rfl) pa_nil))) pa_nil)))) pa_nil))) (pss_cons (ps_expr (pe_bm PySem.F.plainAttrs_list PySem.F.slot_list_extend PySem.F.type_list_extend mt_extend (pv 1) (pa_cons (pe_lst (pa_cons (pe_callB call_isE (by rfl) T.z_isinstance boot_isinstance (pa_cons (pv 0) (pa_cons (pe_glob (v := .ref T.C_InvalidState) (by rfl) T.m_InvalidState rfl) pa_nil))) (pa_cons (pe_callB call_isE (by rfl) T.z_isinstance boot_isinstance (pa_cons (pv 0) (pa_cons (pe_glob (v := .ref T.C_InvalidWish) (by rfl) T.m_InvalidWish rfl) pa_nil))) (pa_cons (pe_callB call_isE (by rfl) T.z_isinstance boot_isinstance (pa_cons (pv 0) (pa_cons (pe_glob (v := .ref T.C_InvalidWishes) (by rfl) T.m_InvalidWishes rfl) pa_nil))) pa_nil)))) pa_nil))) (pss_cons (ps_expr (pe_bm PySem.F.plainAttrs_list PySem.F.slot_list_extend PySem.F.type_list_extend mt_extend (pv 1) (pa_cons (pe_lst (pa_cons (pe_callB call_isE (by rfl) T.z_isinstance boot_isinstance (pa_cons (pv 0) (pa_cons (pe_glob (v := .ref T.C_InvalidDeed) (by rfl) T.m_InvalidDeed rfl) pa_nil))) (pa_cons (pe_callB call_isE (by rfl) T.z_isinstance boot_isinstance (pa_cons (pv 0) (pa_cons (pe_glob (v := .ref T.C_InvalidText) (by rfl) T.m_InvalidText rfl) pa_nil))) (pa_cons (pe_callB call_isE (by rfl) T.z_isinstance boot_isinstance (pa_cons (pv 0) (pa_cons (pe_glob (v := .ref T.C_InvalidClaim) (by rfl) T.m_InvalidClaim rfl) pa_nil))) pa_nil)))) pa_nil))) (pss_cons (ps_expr (pe_bm PySem.F.plainAttrs_list PySem.F.slot_list_extend PySem.F.type_list_extend mt_extend (pv 1) (pa_cons (pe_lst (pa_cons (pe_callB call_isE (by rfl) T.z_isinstance boot_isinstance (pa_cons (pv 0) (pa_cons (pe_glob (v := .ref T.C_InvalidCommand) (by rfl) T.m_InvalidCommand rfl) pa_nil))) (pa_cons (pe_callB call_isE (by rfl) T.z_isinstance boot_isinstance (pa_cons (pv 0) (pa_cons (pe_glob (v := .ref T.C_IsTop) (by rfl) T.m_IsTop rfl) pa_nil))) (pa_cons (pe_callB call_isE (by rfl) T.z_isinstance boot_isinstance (pa_cons (pv 0) (pa_cons (pe_glob (v := .ref T.C_Struck) (by rfl) T.m_Struck rfl) pa_nil))) pa_nil)))) pa_nil))) (pss_cons (ps_expr (pe_bm PySem.F.plainAttrs_list PySem.F.slot_list_extend PySem.F.type_list_extend mt_extend (pv 1) (pa_cons (pe_lst (pa_cons (pe_callB call_isE (by rfl) T.z_isinstance boot_isinstance (pa_cons (pv 0) (pa_cons (pe_glob (v := .ref T.C_NotStruck) (by rfl) T.m_NotStruck rfl) pa_nil))) (pa_cons (pe_callB call_isE (by rfl) T.z_isinstance boot_isinstance (pa_cons (pv 0) (pa_cons (pe_glob (v := .ref T.C_HasChildren) (by rfl) T.m_HasChildren rfl) pa_nil))) (pa_cons (pe_callB call_isE (by rfl) T.z_isinstance boot_isinstance (pa_cons (pv 0) (pa_cons (pe_glob (v := .ref T.C_AtWork) (by rfl) T.m_AtWork rfl) pa_nil))) pa_nil)))) pa_nil))) (pss_cons (ps_expr (pe_bm PySem.F.plainAttrs_list PySem.F.slot_list_extend PySem.F.type_list_extend mt_extend (pv 1) (pa_cons (pe_lst (pa_cons (pe_callB call_isE (by rfl) T.z_isinstance boot_isinstance (pa_cons (pv 0) (pa_cons (pe_glob (v := .ref T.C_NoWalk) (by rfl) T.m_NoWalk rfl) pa_nil))) (pa_cons (pe_callB call_isE (by rfl) T.z_isinstance boot_isinstance (pa_cons (pv 0) (pa_cons (pe_glob (v := .ref T.C_MustSettle) (by rfl) T.m_MustSettle rfl) pa_nil))) (pa_cons (pe_callB call_isE (by rfl) T.z_isinstance boot_isinstance (pa_cons (pv 0) (pa_cons (pe_glob (v := .ref T.C_NoStock) (by rfl) T.m_NoStock rfl) pa_nil))) pa_nil)))) pa_nil))) (pss_cons (ps_expr (pe_bm PySem.F.plainAttrs_list PySem.F.slot_list_extend PySem.F.type_list_extend mt_extend (pv 1) (pa_cons (pe_lst (pa_cons (pe_callB call_isE (by rfl) T.z_isinstance boot_isinstance (pa_cons (pv 0) (pa_cons (pe_glob (v := .ref T.C_NotYours) (by rfl) T.m_NotYours rfl) pa_nil))) (pa_cons (pe_callB call_isE (by rfl) T.z_isinstance boot_isinstance (pa_cons (pv 0) (pa_cons (pe_glob (v := .ref T.C_NotLiving) (by rfl) T.m_NotLiving rfl) pa_nil))) (pa_cons (pe_callB call_isE (by rfl) T.z_isinstance boot_isinstance (pa_cons (pv 0) (pa_cons (pe_glob (v := .ref T.C_NoRow) (by rfl) T.m_NoRow rfl) pa_nil))) pa_nil)))) pa_nil))) (pss_cons (ps_expr (pe_bm PySem.F.plainAttrs_list PySem.F.slot_list_extend PySem.F.type_list_extend mt_extend (pv 1) (pa_cons (pe_lst (pa_cons (pe_callB call_isE (by rfl) T.z_isinstance boot_isinstance (pa_cons (pv 0) (pa_cons (pe_glob (v := .ref T.C_UnderWay) (by rfl) T.m_UnderWay rfl) pa_nil))) (pa_cons (pe_callB call_isE (by rfl) T.z_isinstance boot_isinstance (pa_cons (pv 0) (pa_cons (pe_glob (v := .ref T.C_Held) (by rfl) T.m_Held rfl) pa_nil))) (pa_cons (pe_callB call_isE (by rfl) T.z_isinstance boot_isinstance (pa_cons (pv 0) (pa_cons (pe_glob (v := .ref T.C_NotKept) (by rfl) T.m_NotKept rfl) pa_nil))) (pa_cons (pe_callB call_isE (by rfl) T.z_isinstance boot_isinstance (pa_cons (pv 0) (pa_cons (pe_glob (v := .ref T.C_NoEnd) (by rfl) T.m_NoEnd rfl) pa_nil))) pa_nil))))) pa_nil))) (pss_cons (ps_expr (pe_bm PySem.F.plainAttrs_list PySem.F.slot_list_extend PySem.F.type_list_extend mt_extend (pv 1) (pa_cons (pe_lst (pa_cons (pe_callB call_isE (by rfl) T.z_isinstance boot_isinstance (pa_cons (pv 0) (pa_cons (pe_glob (v := .ref T.C_Untrue) (by rfl) T.m_Untrue rfl) pa_nil))) (pa_cons (pe_callB call_isE (by rfl) T.z_isinstance boot_isinstance (pa_cons (pv 0) (pa_cons (pe_glob (v := .ref T.C_NothingToUndo) (by rfl) T.m_NothingToUndo rfl) pa_nil))) (pa_cons (pe_callB call_isE (by rfl) T.z_isinstance boot_isinstance (pa_cons (pv 0) (pa_cons (pe_glob (v := .ref T.C_DeedFailed) (by rfl) T.m_DeedFailed rfl) pa_nil))) pa_nil)))) pa_nil))) (pss_cons (ps_expr (pe_bm PySem.F.plainAttrs_list PySem.F.slot_list_extend PySem.F.type_list_extend mt_extend (pv 1) (pa_cons (pe_lst (pa_cons (pe_callB call_isE (by rfl) T.z_isinstance boot_isinstance (pa_cons (pv 0) (pa_cons (pe_glob (v := .ref T.C_CommandFailed) (by rfl) T.m_CommandFailed rfl) pa_nil))) (pa_cons (pe_callB call_isE (by rfl) T.z_isinstance boot_isinstance (pa_cons (pv 0) (pa_cons (pe_glob (v := .ref T.C_TooMany) (by rfl) T.m_TooMany rfl) pa_nil))) pa_nil))) pa_nil))) (pss_one (ps_ret (pe_lc (own := [("_law_at", 2)]) (g := gName 2) rfl sc_Lwhich.nd (pi_range1 (by rfl) T.z_range (pa_cons (pe_callB call_len_seq (by rfl) T.z_len PySem.boot_len (pa_cons (pv 1) pa_nil)) pa_nil)) (blkOk_by (N := N_Lwhich) (sc := defScope s_Lwhich) (by decide +kernel)) (fun _ _ _ _ _ => (pg_name (i := 2) sc_Lwhich.nd rfl (Or.inl rfl) (Or.inr rfl))) (fun _ _ _ _ _ => pts_one (pt_val (pe_ix (show IxR _ (rIxL K) from ix_list) (pv 1) (pv 2) (fun _ _ => rfl)))) (fun _ _ _ _ _ => (pv 2)))))))))))))))))), ?_⟩
    refine q_asgL (xs := [.bl (decide (i = 0)), .bl (decide (i = 1)), .bl (decide (i = 2))]) (el_lst (ea_cons (ev_isC (T := T) 0 hi he rfl (by decide) rfl) (ea_cons (ev_isC (T := T) 1 hi he rfl (by decide) rfl) (ea_cons (ev_isC (T := T) 2 hi he rfl (by decide) rfl) ea_nil))) (by show 3 ≤ 100000; omega)) fun p H0 hp e0 h00 => ?_
    show tSeq _ _ _ [some (.ref e), some (.ref p), none] H0
    have h0 : H0 p = some (.lst (bsV (fun j => (decide (i = j))) 3)) := h00
    refine q_extB (g := (fun j => (decide (i = j)))) 3 3 h0 (ev_var rfl) (el_lst (ea_cons (ev_isC (T := T) 3 hi (he.ex e0) rfl (by decide) rfl) (ea_cons (ev_isC (T := T) 4 hi (he.ex e0) rfl (by decide) rfl) (ea_cons (ev_isC (T := T) 5 hi (he.ex e0) rfl (by decide) rfl) ea_nil))) (by show 3 ≤ 100000; omega)) rfl (by omega) fun H1 x1 z1 => ?_
    have e1 := ExB.all e0 hp x1
    have h1 : H1 p = some (.lst (bsV (fun j => (decide (i = j))) 6)) := z1
    refine q_extB (g := (fun j => (decide (i = j)))) 6 3 h1 (ev_var rfl) (el_lst (ea_cons (ev_isC (T := T) 6 hi (he.ex e1) rfl (by decide) rfl) (ea_cons (ev_isC (T := T) 7 hi (he.ex e1) rfl (by decide) rfl) (ea_cons (ev_isC (T := T) 8 hi (he.ex e1) rfl (by decide) rfl) ea_nil))) (by show 3 ≤ 100000; omega)) rfl (by omega) fun H2 x2 z2 => ?_
    have e2 := ExB.all e1 hp x2
    have h2 : H2 p = some (.lst (bsV (fun j => (decide (i = j))) 9)) := z2
    refine q_extB (g := (fun j => (decide (i = j)))) 9 3 h2 (ev_var rfl) (el_lst (ea_cons (ev_isC (T := T) 9 hi (he.ex e2) rfl (by decide) rfl) (ea_cons (ev_isC (T := T) 10 hi (he.ex e2) rfl (by decide) rfl) (ea_cons (ev_isC (T := T) 11 hi (he.ex e2) rfl (by decide) rfl) ea_nil))) (by show 3 ≤ 100000; omega)) rfl (by omega) fun H3 x3 z3 => ?_
    have e3 := ExB.all e2 hp x3
    have h3 : H3 p = some (.lst (bsV (fun j => (decide (i = j))) 12)) := z3
    refine q_extB (g := (fun j => (decide (i = j)))) 12 3 h3 (ev_var rfl) (el_lst (ea_cons (ev_isC (T := T) 12 hi (he.ex e3) rfl (by decide) rfl) (ea_cons (ev_isC (T := T) 13 hi (he.ex e3) rfl (by decide) rfl) (ea_cons (ev_isC (T := T) 14 hi (he.ex e3) rfl (by decide) rfl) ea_nil))) (by show 3 ≤ 100000; omega)) rfl (by omega) fun H4 x4 z4 => ?_
    have e4 := ExB.all e3 hp x4
    have h4 : H4 p = some (.lst (bsV (fun j => (decide (i = j))) 15)) := z4
    refine q_extB (g := (fun j => (decide (i = j)))) 15 3 h4 (ev_var rfl) (el_lst (ea_cons (ev_isC (T := T) 15 hi (he.ex e4) rfl (by decide) rfl) (ea_cons (ev_isC (T := T) 16 hi (he.ex e4) rfl (by decide) rfl) (ea_cons (ev_isC (T := T) 17 hi (he.ex e4) rfl (by decide) rfl) ea_nil))) (by show 3 ≤ 100000; omega)) rfl (by omega) fun H5 x5 z5 => ?_
    have e5 := ExB.all e4 hp x5
    have h5 : H5 p = some (.lst (bsV (fun j => (decide (i = j))) 18)) := z5
    refine q_extB (g := (fun j => (decide (i = j)))) 18 3 h5 (ev_var rfl) (el_lst (ea_cons (ev_isC (T := T) 18 hi (he.ex e5) rfl (by decide) rfl) (ea_cons (ev_isC (T := T) 19 hi (he.ex e5) rfl (by decide) rfl) (ea_cons (ev_isC (T := T) 20 hi (he.ex e5) rfl (by decide) rfl) ea_nil))) (by show 3 ≤ 100000; omega)) rfl (by omega) fun H6 x6 z6 => ?_
    have e6 := ExB.all e5 hp x6
    have h6 : H6 p = some (.lst (bsV (fun j => (decide (i = j))) 21)) := z6
    refine q_extB (g := (fun j => (decide (i = j)))) 21 3 h6 (ev_var rfl) (el_lst (ea_cons (ev_isC (T := T) 21 hi (he.ex e6) rfl (by decide) rfl) (ea_cons (ev_isC (T := T) 22 hi (he.ex e6) rfl (by decide) rfl) (ea_cons (ev_isC (T := T) 23 hi (he.ex e6) rfl (by decide) rfl) ea_nil))) (by show 3 ≤ 100000; omega)) rfl (by omega) fun H7 x7 z7 => ?_
    have e7 := ExB.all e6 hp x7
    have h7 : H7 p = some (.lst (bsV (fun j => (decide (i = j))) 24)) := z7
    refine q_extB (g := (fun j => (decide (i = j)))) 24 3 h7 (ev_var rfl) (el_lst (ea_cons (ev_isC (T := T) 24 hi (he.ex e7) rfl (by decide) rfl) (ea_cons (ev_isC (T := T) 25 hi (he.ex e7) rfl (by decide) rfl) (ea_cons (ev_isC (T := T) 26 hi (he.ex e7) rfl (by decide) rfl) ea_nil))) (by show 3 ≤ 100000; omega)) rfl (by omega) fun H8 x8 z8 => ?_
    have e8 := ExB.all e7 hp x8
    have h8 : H8 p = some (.lst (bsV (fun j => (decide (i = j))) 27)) := z8
    refine q_extB (g := (fun j => (decide (i = j)))) 27 3 h8 (ev_var rfl) (el_lst (ea_cons (ev_isC (T := T) 27 hi (he.ex e8) rfl (by decide) rfl) (ea_cons (ev_isC (T := T) 28 hi (he.ex e8) rfl (by decide) rfl) (ea_cons (ev_isC (T := T) 29 hi (he.ex e8) rfl (by decide) rfl) ea_nil))) (by show 3 ≤ 100000; omega)) rfl (by omega) fun H9 x9 z9 => ?_
    have e9 := ExB.all e8 hp x9
    have h9 : H9 p = some (.lst (bsV (fun j => (decide (i = j))) 30)) := z9
    refine q_extB (g := (fun j => (decide (i = j)))) 30 4 h9 (ev_var rfl) (el_lst (ea_cons (ev_isC (T := T) 30 hi (he.ex e9) rfl (by decide) rfl) (ea_cons (ev_isC (T := T) 31 hi (he.ex e9) rfl (by decide) rfl) (ea_cons (ev_isC (T := T) 32 hi (he.ex e9) rfl (by decide) rfl) (ea_cons (ev_isC (T := T) 33 hi (he.ex e9) rfl (by decide) rfl) ea_nil)))) (by show 4 ≤ 100000; omega)) rfl (by omega) fun H10 x10 z10 => ?_
    have e10 := ExB.all e9 hp x10
    have h10 : H10 p = some (.lst (bsV (fun j => (decide (i = j))) 34)) := z10
    refine q_extB (g := (fun j => (decide (i = j)))) 34 3 h10 (ev_var rfl) (el_lst (ea_cons (ev_isC (T := T) 34 hi (he.ex e10) rfl (by decide) rfl) (ea_cons (ev_isC (T := T) 35 hi (he.ex e10) rfl (by decide) rfl) (ea_cons (ev_isC (T := T) 36 hi (he.ex e10) rfl (by decide) rfl) ea_nil))) (by show 3 ≤ 100000; omega)) rfl (by omega) fun H11 x11 z11 => ?_
    have e11 := ExB.all e10 hp x11
    have h11 : H11 p = some (.lst (bsV (fun j => (decide (i = j))) 37)) := z11
    refine q_extB (g := (fun j => (decide (i = j)))) 37 2 h11 (ev_var rfl) (el_lst (ea_cons (ev_isC (T := T) 37 hi (he.ex e11) rfl (by decide) rfl) (ea_cons (ev_isC (T := T) 38 hi (he.ex e11) rfl (by decide) rfl) ea_nil)) (by show 2 ≤ 100000; omega)) rfl (by omega) fun H12 x12 z12 => ?_
    have e12 := ExB.all e11 hp x12
    have h12 : H12 p = some (.lst (bsV (fun j => (decide (i = j))) 39)) := z12
    refine s_retL (el_is (el_lcR1 (n := (39 : Int)) (fun j => (decide (i = j))) (fun j => nV j) (ea_cons (ev_is (ev_len (ev_var rfl) (sq_of h12)) (by rw [bsV_len]; rfl)) ea_nil) (by omega) (fun _ => rfl) (fun j G x hj => et_test (ev_op (ev_var rfl) (ev_var rfl) (rv_ixL (sq_of (x _ _ h12)) (atI_nat (bsV_at (fun j => (decide (i = j))) (by omega)))))) (fun j G x hj _ => ev_var rfl)) (g_which hi)) fun r G hr x hG => q r G (fresh_back e12 hr) (e12.trans x) hG
theorem ok_Ltops (T : Txt K mg w)  : FnG P w K mg base CX0 1 T.f_Ltops T.fd_Ltops ["_law_e"] (sp_Ltops T) := by
  skip
  refine okG T.F_Ltops sc_Ltops (fun vs H Q E h => ?_) (fun cdv A outer s H vs Q E gd hr h => ?_)
  · obtain ⟨_, _, _, rfl, _⟩ := h
    all_goals rfl
  · obtain ⟨e, i, fs, rfl, hi, he, q⟩ := h
    refine ⟨_, (pss_cons (ps_set (i := 1) sc_Ltops.nd rfl (Or.inr rfl) (pe_lst (pa_cons (pe_callB call_isE (by rfl) T.z_isinstance boot_isinstance (pa_cons (pv 0) (pa_cons (pe_glob (v := .ref T.C_WayError) (by rfl) T.m_WayError rfl) pa_nil))) (pa_cons (pe_callB call_isE (by rfl) T.z_isinstance boot_isinstance (pa_cons (pv 0) (pa_cons (pe_glob (v := .ref T.C_StandError) (by rfl) T.m_StandError rfl) pa_nil))) (pa_cons (pe_callB call_isE (by rfl) T.z_isinstance boot_isinstance (pa_cons (pv 0) (pa_cons (pe_glob (v := .ref T.C_LimitError) (by rfl) T.m_LimitError rfl) pa_nil))) pa_nil))))) (pss_cons (ps_expr (pe_bm PySem.F.plainAttrs_list PySem.F.slot_list_extend PySem.F.type_list_extend mt_extend (pv 1) (pa_cons (pe_lst (pa_cons (pe_callB call_isE (by rfl) T.z_isinstance boot_isinstance (pa_cons (pv 0) (pa_cons (pe_bltn (v := .ty "ValueError") (u := .type "ValueError") (by rfl) T.z_ValueError (by decide +kernel) rfl) pa_nil))) (pa_cons (pe_callB call_isE (by rfl) T.z_isinstance boot_isinstance (pa_cons (pv 0) (pa_cons (pe_bltn (v := .ty "RuntimeError") (u := .type "RuntimeError") (by rfl) T.z_RuntimeError (by decide +kernel) rfl) pa_nil))) (pa_cons (pe_callB call_isE (by rfl) T.z_isinstance boot_isinstance (pa_cons (pv 0) (pa_cons (pe_bltn (v := .ty "ArithmeticError") (u := .type "ArithmeticError") (by rfl) T.z_ArithmeticError (by decide +kernel) rfl) pa_nil))) pa_nil)))) pa_nil))) (pss_cons (ps_expr (pe_bm PySem.F.plainAttrs_list PySem.F.slot_list_extend PySem.F.type_list_extend mt_extend (pv 1) (pa_cons (pe_lst (pa_cons (pe_callB call_isE (by rfl) T.z_isinstance boot_isinstance (pa_cons (pv 0) (pa_cons (pe_bltn (v := .ty "LookupError") (u := .type "LookupError") (by rfl) T.z_LookupError (by decide +kernel) rfl) pa_nil))) (pa_cons (pe_callB call_isE (by rfl) T.z_isinstance boot_isinstance (pa_cons (pv 0) (pa_cons (pe_bltn (v := .ty "TypeError") (u := .type "TypeError") (by rfl) T.z_TypeError (by decide +kernel) rfl) pa_nil))) (pa_cons (pe_callB call_isE (by rfl) T.z_isinstance boot_isinstance (pa_cons (pv 0) (pa_cons (pe_bltn (v := .ty "NotImplementedError") (u := .type "NotImplementedError") (by rfl) T.z_NotImplementedError (by decide +kernel) rfl) pa_nil))) pa_nil)))) pa_nil))) (pss_cons (ps_expr (pe_bm PySem.F.plainAttrs_list PySem.F.slot_list_extend PySem.F.type_list_extend mt_extend (pv 1) (pa_cons (pe_lst (pa_cons (pe_callB call_isE (by rfl) T.z_isinstance boot_isinstance (pa_cons (pv 0) (pa_cons (pe_bltn (v := .ty "OverflowError") (u := .type "OverflowError") (by rfl) T.z_OverflowError (by decide +kernel) rfl) pa_nil))) (pa_cons (pe_callB call_isE (by rfl) T.z_isinstance boot_isinstance (pa_cons (pv 0) (pa_cons (pe_bltn (v := .ty "ZeroDivisionError") (u := .type "ZeroDivisionError") (by rfl) T.z_ZeroDivisionError (by decide +kernel) rfl) pa_nil))) (pa_cons (pe_callB call_isE (by rfl) T.z_isinstance boot_isinstance (pa_cons (pv 0) (pa_cons (pe_bltn (v := .ty "AttributeError") (u := .type "AttributeError") (by rfl) T.z_AttributeError (by decide +kernel) rfl) pa_nil))) pa_nil)))) pa_nil))) (pss_cons (ps_expr (pe_bm PySem.F.plainAttrs_list PySem.F.slot_list_extend PySem.F.type_list_extend mt_extend (pv 1) (pa_cons (pe_lst (pa_cons (pe_callB call_isE (by rfl) T.z_isinstance boot_isinstance (pa_cons (pv 0) (pa_cons (pe_bltn (v := .ty "KeyError") (u := .type "KeyError") (by rfl) T.z_KeyError (by decide +kernel) rfl) pa_nil))) (pa_cons (pe_callB call_isE (by rfl) T.z_isinstance boot_isinstance (pa_cons (pv 0) (pa_cons (pe_bltn (v := .ty "IndexError") (u := .type "IndexError") (by rfl) T.z_IndexError (by decide +kernel) rfl) pa_nil))) (pa_cons (pe_callB call_isE (by rfl) T.z_isinstance boot_isinstance (pa_cons (pv 0) (pa_cons (pe_bltn (v := .ty "StopIteration") (u := .type "StopIteration") (by rfl) T.z_StopIteration (by decide +kernel) rfl) pa_nil))) pa_nil)))) pa_nil))) (pss_one (ps_ret (pe_lc (own := [("_law_at", 2)]) (g := gName 2) rfl sc_Ltops.nd (pi_range1 (by rfl) T.z_range (pa_cons (pe_callB call_len_seq (by rfl) T.z_len PySem.boot_len (pa_cons (pv 1) pa_nil)) pa_nil)) (blkOk_by (N := N_Ltops) (sc := defScope s_Ltops) (by decide +kernel)) (fun _ _ _ _ _ => (pg_name (i := 2) sc_Ltops.nd rfl (Or.inl rfl) (Or.inr rfl))) (fun _ _ _ _ _ => pts_one (pt_val (pe_ix (show IxR _ (rIxL K) from ix_list) (pv 1) (pv 2) (fun _ _ => rfl)))) (fun _ _ _ _ _ => (pv 2)))))))))), ?_⟩
    refine q_asgL (xs := [.bl (topOf i 0), .bl (topOf i 1), .bl (topOf i 2)]) (el_lst (ea_cons (ev_isT (T := T) 0 hi he rfl (by decide) (.own _) rfl) (ea_cons (ev_isT (T := T) 1 hi he rfl (by decide) (.own _) rfl) (ea_cons (ev_isT (T := T) 2 hi he rfl (by decide) (.own _) rfl) ea_nil))) (by show 3 ≤ 100000; omega)) fun p H0 hp e0 h00 => ?_
    show tSeq _ _ _ [some (.ref e), some (.ref p), none] H0
    have h0 : H0 p = some (.lst (bsV (fun j => (topOf i j)) 3)) := h00
    refine q_extB (g := (fun j => (topOf i j))) 3 3 h0 (ev_var rfl) (el_lst (ea_cons (ev_isT (T := T) 3 hi (he.ex e0) rfl (by decide) (.ty _) rfl) (ea_cons (ev_isT (T := T) 4 hi (he.ex e0) rfl (by decide) (.ty _) rfl) (ea_cons (ev_isT (T := T) 5 hi (he.ex e0) rfl (by decide) (.ty _) rfl) ea_nil))) (by show 3 ≤ 100000; omega)) rfl (by omega) fun H1 x1 z1 => ?_
    have e1 := ExB.all e0 hp x1
    have h1 : H1 p = some (.lst (bsV (fun j => (topOf i j)) 6)) := z1
    refine q_extB (g := (fun j => (topOf i j))) 6 3 h1 (ev_var rfl) (el_lst (ea_cons (ev_isT (T := T) 6 hi (he.ex e1) rfl (by decide) (.ty _) rfl) (ea_cons (ev_isT (T := T) 7 hi (he.ex e1) rfl (by decide) (.ty _) rfl) (ea_cons (ev_isT (T := T) 8 hi (he.ex e1) rfl (by decide) (.ty _) rfl) ea_nil))) (by show 3 ≤ 100000; omega)) rfl (by omega) fun H2 x2 z2 => ?_
    have e2 := ExB.all e1 hp x2
    have h2 : H2 p = some (.lst (bsV (fun j => (topOf i j)) 9)) := z2
    refine q_extB (g := (fun j => (topOf i j))) 9 3 h2 (ev_var rfl) (el_lst (ea_cons (ev_isT (T := T) 9 hi (he.ex e2) rfl (by decide) (.ty _) rfl) (ea_cons (ev_isT (T := T) 10 hi (he.ex e2) rfl (by decide) (.ty _) rfl) (ea_cons (ev_isT (T := T) 11 hi (he.ex e2) rfl (by decide) (.ty _) rfl) ea_nil))) (by show 3 ≤ 100000; omega)) rfl (by omega) fun H3 x3 z3 => ?_
    have e3 := ExB.all e2 hp x3
    have h3 : H3 p = some (.lst (bsV (fun j => (topOf i j)) 12)) := z3
    refine q_extB (g := (fun j => (topOf i j))) 12 3 h3 (ev_var rfl) (el_lst (ea_cons (ev_isT (T := T) 12 hi (he.ex e3) rfl (by decide) (.ty _) rfl) (ea_cons (ev_isT (T := T) 13 hi (he.ex e3) rfl (by decide) (.ty _) rfl) (ea_cons (ev_isT (T := T) 14 hi (he.ex e3) rfl (by decide) (.ty _) rfl) ea_nil))) (by show 3 ≤ 100000; omega)) rfl (by omega) fun H4 x4 z4 => ?_
    have e4 := ExB.all e3 hp x4
    have h4 : H4 p = some (.lst (bsV (fun j => (topOf i j)) 15)) := z4
    refine s_retL (el_is (el_lcR1 (n := (15 : Int)) (fun j => (topOf i j)) (fun j => nV j) (ea_cons (ev_is (ev_len (ev_var rfl) (sq_of h4)) (by rw [bsV_len]; rfl)) ea_nil) (by omega) (fun _ => rfl) (fun j G x hj => et_test (ev_op (ev_var rfl) (ev_var rfl) (rv_ixL (sq_of (x _ _ h4)) (atI_nat (bsV_at (fun j => (topOf i j)) (by omega)))))) (fun j G x hj _ => ev_var rfl)) (g_tops hi)) fun r G hr x hG => q r G (fresh_back e4 hr) (e4.trans x) hG
end
end My
namespace My
open PySem PySem.Spec PyProof.Rows L2 GL Evl StX SkE
/-! ### what an error keeps -/
def sp_Lkept {K : PySem.W.Frag} {mg : Str → Option Value} {w : World} (T : Txt K mg w) : Sp := fun vs H Q _ => ∃ p a b ys da db, vs = [.ref p, a, b] ∧ H p = some (.lst ys) ∧ ErsAt H ys (errQ T a b) ∧ Dx K H a da ∧ Dx K H b db ∧ SmX da 2 60 ∧ SmX db 2 60 ∧ RetV (.bl true) H Q
theorem lk1 {f : Str} {v : V} : List.lookup f [(f, v)] = some v := by simp [List.lookup]
theorem lk2a {f g : Str} {v u : V} : List.lookup f [(f, v), (g, u)] = some v := by simp [List.lookup]
theorem lk2b {f g : Str} {v u : V} (h : ¬ g = f) : List.lookup g [(f, v), (g, u)] = some u := by
  have q : (g == f) = false := by simpa using h
  simp [List.lookup, q]
section
variable {P : Program} {w : World} {K : PySem.W.Frag} {mg : Str → Option Value} {base : Heap} {T : Txt K mg w} {H H' : Hp} {σ : L2.St} {te tb ta : TE} {tA : TA} {E : XK} {D : Ends} {tz : TS} {p : Addr} {ys : List V} {qs : List EQ} {a b v : V} {f : Str} {da db : PyData}
/-- the error j keeps v as f -/
def Keeps (K : PySem.W.Frag) (qs : List EQ) (j : Nat) (f : Str) (v : V) : Prop := ∃ q : EQ, qs[j]? = some q ∧ XfN K q.1 f ∧ q.2.lookup f = some v
theorem ev_x {j : Nat} (hl : H p = some (.lst ys)) (r : ErsAt H ys qs) (hp : Ev ta σ H (.ref p)) (hi : Ev tb σ H (nV j)) (kp : Keeps K qs j f v) : Ev (tXr K f (tOp (rIxL K) ta tb)) σ H v := fun H1 x Q k => by
  obtain ⟨q, hq, xf, l⟩ := kp
  obtain ⟨e, ha, he⟩ := r.at hq
  exact (ev_op hp hi (rv_ixL (sq_of hl) (atI_nat ha)) : Ev _ _ _ (.ref e)) H1 x _ fun H2 x2 => by
    rcases he.ex (x.trans x2) with ⟨h, _⟩ | ⟨d, h1, h2⟩
    · rw [h] at l
      cases l
    · exact ⟨e, q.1, d, q.2, v, rfl, xf, h1, h2, l, k H2 x2⟩
/-- [errors[i].f for i in js] -/
theorem el_keep {js : List Nat} {i : Nat} {vs : List Nat} {tl : TE} {l : Addr} (hl : H p = some (.lst ys)) (r : ErsAt H ys qs) (h0 : ∀ x, ((wipe σ vs).set i (some x))[0]? = some (some (.ref p))) (hi : ∀ x, ((wipe σ vs).set i (some x))[i]? = some (some x)) (hw : ∀ x, wipe ((wipe σ vs).set i (some x)) vs = wipe σ vs) (hz : js.length ≤ 100)
    (h : Ev tl σ H (.ref l)) (hx : SqL K H l (js.map nV)) (kp : ∀ j ∈ js, Keeps K qs j f v) : EvL (tLc (iList K tl) (gName i) tYes (tXr K f (tOp (rIxL K) (tVar 0) (tVar i))) vs) σ H (List.replicate js.length v) := by
  refine el_is (el_lcL (fun _ => true) (fun _ => v) h hx (by rw [List.length_map]; omega) hw (fun _ _ _ _ _ => et_yes) fun k x H1 e1 hk _ => ?_) (by rw [given_rep, List.length_map])
  rw [List.getElem?_map] at hk
  obtain ⟨j, hj, rfl⟩ := Option.map_eq_some_iff.mp hk
  exact ev_x (e1 _ _ hl) (r.ex e1) (ev_var (h0 _)) (ev_var (hi _)) (kp j (List.mem_of_getElem? hj))
theorem el_keepT {js : List Nat} {i : Nat} {vs : List Nat} (hl : H p = some (.lst ys)) (r : ErsAt H ys qs) (h0 : ∀ x, ((wipe σ vs).set i (some x))[0]? = some (some (.ref p))) (hi : ∀ x, ((wipe σ vs).set i (some x))[i]? = some (some x)) (hw : ∀ x, wipe ((wipe σ vs).set i (some x)) vs = wipe σ vs) (hz : js.length ≤ 100)
    (h : EvA tA σ H (js.map nV)) (kp : ∀ j ∈ js, Keeps K qs j f v) : EvL (tLc (iTup K (tTupX tA)) (gName i) tYes (tXr K f (tOp (rIxL K) (tVar 0) (tVar i))) vs) σ H (List.replicate js.length v) := by
  refine el_is (el_lcTX (fun _ => true) (fun _ => v) h (by rw [List.length_map]; omega) hw (fun _ _ _ _ _ => et_yes) fun k x H1 e1 hk _ => ?_) (by rw [given_rep, List.length_map])
  rw [List.getElem?_map] at hk
  obtain ⟨j, hj, rfl⟩ := Option.map_eq_some_iff.mp hk
  exact ev_x (e1 _ _ hl) (r.ex e1) (ev_var (h0 _)) (ev_var (hi _)) (kp j (List.mem_of_getElem? hj))
theorem sm_kept (h1 : SmX da 2 60) (h2 : SmX db 2 60) : SmX (.list [.list (List.replicate 35 da), .list (List.replicate 5 db)]) 4 6000 := by
  have s : ∀ {d : PyData} {n : Nat}, n ≤ 35 → SmX d 2 60 → SmX (.list (List.replicate n d)) 3 2200 := fun {d n} hn h => (smX_list (k := 2) (B := 60) fun d' hd => by
    rw [List.eq_of_mem_replicate hd]
    exact h).mono (Nat.le_refl _) (by rw [List.length_replicate]; omega)
  refine (smX_list (k := 3) (B := 2200) fun d hd => ?_).mono (Nat.le_refl _) (by show 2 * (2200 + 2) + 2 ≤ 6000; omega)
  simp only [List.mem_cons, List.not_mem_nil, or_false] at hd
  rcases hd with rfl | rfl
  · exact s (Nat.le_refl _) h1
  · exact s (by omega) h2
theorem ok_Lkept_right (T : Txt K mg w)  : FnG P w K mg base CX0 1 T.f_Lkept_right T.fd_Lkept_right ["_law_made_here", "_law_a", "_law_b"] (sp_Lkept T) := by
  skip
  refine okG T.F_Lkept_right sc_Lkept_right (fun vs H Q E h => ?_) (fun cdv A outer s H vs Q E gd hr h => ?_)
  · obtain ⟨_, _, _, _, _, _, rfl, _⟩ := h
    all_goals rfl
  · obtain ⟨p, a, b, ys, da, db, rfl, hl, r, ha, hb, sa, sb, q⟩ := h
    refine ⟨_, (pss_cons (ps_set (i := 3) sc_Lkept_right.nd rfl (Or.inl rfl) (pe_lst (pa_cons pe_int (pa_cons pe_int (pa_cons pe_int (pa_cons pe_int (pa_cons pe_int (pa_cons pe_int (pa_cons pe_int (pa_cons pe_int (pa_cons pe_int (pa_cons pe_int (pa_cons pe_int (pa_cons pe_int (pa_cons pe_int (pa_cons pe_int pa_nil)))))))))))))))) (pss_cons (ps_set (i := 4) sc_Lkept_right.nd rfl (Or.inl rfl) (pe_op op_cat (pe_lc (own := [("_law_at", 6)]) (g := gName 6) rfl sc_Lkept_right.nd (pi_list (pv 3)) (blkOk_by (N := N_Lkept_right) (sc := defScope s_Lkept_right) (by decide +kernel)) (fun _ _ _ _ _ => (pg_name (i := 6) sc_Lkept_right.nd rfl (Or.inl rfl) (Or.inr rfl))) (fun _ _ _ _ _ => pts_nil) (fun _ _ _ _ _ => (show PE _ _ (tXr K _ _) from pe_xr (pe_ix (show IxR _ (rIxL K) from ix_list) (pv 0) (pv 6) (fun _ _ => rfl))))) (pe_lc (own := [("_law_at", 6)]) (g := gName 6) rfl sc_Lkept_right.nd (pi_tup (pe_tupX (pa_cons pe_int (pa_cons pe_int (pa_cons pe_int (pa_cons pe_int pa_nil)))))) (blkOk_by (N := N_Lkept_right) (sc := defScope s_Lkept_right) (by decide +kernel)) (fun _ _ _ _ _ => (pg_name (i := 6) sc_Lkept_right.nd rfl (Or.inl rfl) (Or.inr rfl))) (fun _ _ _ _ _ => pts_nil) (fun _ _ _ _ _ => (show PE _ _ (tXr K _ _) from pe_xr (pe_ix (show IxR _ (rIxL K) from ix_list) (pv 0) (pv 6) (fun _ _ => rfl))))))) (pss_cons (ps_expr (pe_bm PySem.F.plainAttrs_list PySem.F.slot_list_extend PySem.F.type_list_extend mt_extend (pv 4) (pa_cons (pe_lst (pa_cons (pe_xr (pe_ix ix_list (pv 0) pe_int (fun _ _ => rfl))) (pa_cons (pe_xr (pe_ix ix_list (pv 0) pe_int (fun _ _ => rfl))) (pa_cons (pe_xr (pe_ix ix_list (pv 0) pe_int (fun _ _ => rfl))) (pa_cons (pe_xr (pe_ix ix_list (pv 0) pe_int (fun _ _ => rfl))) (pa_cons (pe_xr (pe_ix ix_list (pv 0) pe_int (fun _ _ => rfl))) (pa_cons (pe_xr (pe_ix ix_list (pv 0) pe_int (fun _ _ => rfl))) pa_nil))))))) pa_nil))) (pss_cons (ps_expr (pe_bm PySem.F.plainAttrs_list PySem.F.slot_list_extend PySem.F.type_list_extend mt_extend (pv 4) (pa_cons (pe_op op_cat (pe_lc (own := [("_law_at", 6)]) (g := gName 6) rfl sc_Lkept_right.nd (pi_tup (pe_tupX (pa_cons pe_int (pa_cons pe_int (pa_cons pe_int pa_nil))))) (blkOk_by (N := N_Lkept_right) (sc := defScope s_Lkept_right) (by decide +kernel)) (fun _ _ _ _ _ => (pg_name (i := 6) sc_Lkept_right.nd rfl (Or.inl rfl) (Or.inr rfl))) (fun _ _ _ _ _ => pts_nil) (fun _ _ _ _ _ => (show PE _ _ (tXr K _ _) from pe_xr (pe_ix (show IxR _ (rIxL K) from ix_list) (pv 0) (pv 6) (fun _ _ => rfl))))) (pe_lc (own := [("_law_at", 6)]) (g := gName 6) rfl sc_Lkept_right.nd (pi_tup (pe_tupX (pa_cons pe_int (pa_cons pe_int (pa_cons pe_int (pa_cons pe_int (pa_cons pe_int pa_nil))))))) (blkOk_by (N := N_Lkept_right) (sc := defScope s_Lkept_right) (by decide +kernel)) (fun _ _ _ _ _ => (pg_name (i := 6) sc_Lkept_right.nd rfl (Or.inl rfl) (Or.inr rfl))) (fun _ _ _ _ _ => pts_nil) (fun _ _ _ _ _ => (show PE _ _ (tXr K _ _) from pe_xr (pe_ix (show IxR _ (rIxL K) from ix_list) (pv 0) (pv 6) (fun _ _ => rfl)))))) pa_nil))) (pss_cons (ps_expr (pe_bm PySem.F.plainAttrs_list PySem.F.slot_list_extend PySem.F.type_list_extend mt_extend (pv 4) (pa_cons (pe_lc (own := [("_law_at", 6)]) (g := gName 6) rfl sc_Lkept_right.nd (pi_tup (pe_tupX (pa_cons pe_int (pa_cons pe_int (pa_cons pe_int pa_nil))))) (blkOk_by (N := N_Lkept_right) (sc := defScope s_Lkept_right) (by decide +kernel)) (fun _ _ _ _ _ => (pg_name (i := 6) sc_Lkept_right.nd rfl (Or.inl rfl) (Or.inr rfl))) (fun _ _ _ _ _ => pts_nil) (fun _ _ _ _ _ => (show PE _ _ (tXr K _ _) from pe_xr (pe_ix (show IxR _ (rIxL K) from ix_list) (pv 0) (pv 6) (fun _ _ => rfl))))) pa_nil))) (pss_cons (ps_set (i := 5) sc_Lkept_right.nd rfl (Or.inl rfl) (pe_lst (pa_cons (pe_xr (pe_ix ix_list (pv 0) pe_int (fun _ _ => rfl))) (pa_cons (pe_xr (pe_ix ix_list (pv 0) pe_int (fun _ _ => rfl))) (pa_cons (pe_xr (pe_ix ix_list (pv 0) pe_int (fun _ _ => rfl))) (pa_cons (pe_xr (pe_ix ix_list (pv 0) pe_int (fun _ _ => rfl))) (pa_cons (pe_xr (pe_ix ix_list (pv 0) pe_int (fun _ _ => rfl))) pa_nil))))))) (pss_one (ps_ret (pe_cmpR op_eq (pe_callB (call_reprX gd (roomU hr)) (by rfl) T.z_repr boot_repr (pa_cons (pe_lst (pa_cons (pv 4) (pa_cons (pv 5) pa_nil))) pa_nil)) (pe_callB (call_reprX gd (roomU hr)) (by rfl) T.z_repr boot_repr (pa_cons (pe_lst (pa_cons (pe_op op_rep (pe_lst (pa_cons (pv 1) pa_nil)) pe_int) (pa_cons (pe_op op_rep (pe_lst (pa_cons (pv 2) pa_nil)) pe_int) pa_nil))) pa_nil)) (nomark _)))))))))), ?_⟩
    have k1 : ∀ j ∈ ([0, 3, 6, 7, 8, 9, 10, 11, 12, 13, 14, 15, 17, 18] : List Nat), Keeps K (errQ T a b) j "value" a := fun j hj => by
      simp only [List.mem_cons, List.not_mem_nil, or_false] at hj
      rcases hj with rfl | rfl | rfl | rfl | rfl | rfl | rfl | rfl | rfl | rfl | rfl | rfl | rfl | rfl
      · exact ⟨_, rfl, xn_of T.X_InvalidGroup.toErrT T.X_InvalidGroup.no, lk1⟩
      · exact ⟨_, rfl, xn_of T.X_InvalidKind.toErrT T.X_InvalidKind.no, lk1⟩
      · exact ⟨_, rfl, xn_of T.X_InvalidHolds.toErrT T.X_InvalidHolds.no, lk1⟩
      · exact ⟨_, rfl, xn_of T.X_InvalidHand.toErrT T.X_InvalidHand.no, lk1⟩
      · exact ⟨_, rfl, xn_of T.X_InvalidThing.toErrT T.X_InvalidThing.no, lk1⟩
      · exact ⟨_, rfl, xn_of T.X_InvalidLimit.toErrT T.X_InvalidLimit.no, lk1⟩
      · exact ⟨_, rfl, xn_of T.X_InvalidCount.toErrT T.X_InvalidCount.no, lk1⟩
      · exact ⟨_, rfl, xn_of T.X_InvalidUnit.toErrT T.X_InvalidUnit.no, lk1⟩
      · exact ⟨_, rfl, xn_of T.X_InvalidState.toErrT T.X_InvalidState.no, lk1⟩
      · exact ⟨_, rfl, xn_of T.X_InvalidWish.toErrT T.X_InvalidWish.no, lk1⟩
      · exact ⟨_, rfl, xn_of T.X_InvalidWishes.toErrT T.X_InvalidWishes.no, lk1⟩
      · exact ⟨_, rfl, xn_of T.X_InvalidDeed.toErrT T.X_InvalidDeed.no, lk1⟩
      · exact ⟨_, rfl, xn_of T.X_InvalidClaim.toErrT T.X_InvalidClaim.no, lk1⟩
      · exact ⟨_, rfl, xn_of T.X_InvalidCommand.toErrT T.X_InvalidCommand.no, lk1⟩
    have k2 : ∀ j ∈ ([1, 2, 36, 37] : List Nat), Keeps K (errQ T a b) j "position" a := fun j hj => by
      simp only [List.mem_cons, List.not_mem_nil, or_false] at hj
      rcases hj with rfl | rfl | rfl | rfl
      · exact ⟨_, rfl, xn_of T.X_InvalidParents.toErrT T.X_InvalidParents.no, lk1⟩
      · exact ⟨_, rfl, xn_of T.X_InvalidStruck.toErrT T.X_InvalidStruck.no, lk1⟩
      · exact ⟨_, rfl, xn_of T.X_DeedFailed.toErrT T.X_DeedFailed.no, lk1⟩
      · exact ⟨_, rfl, xn_of T.X_CommandFailed.toErrT T.X_CommandFailed.no, lk1⟩
    have k3 : ∀ j ∈ ([20, 21, 22] : List Nat), Keeps K (errQ T a b) j "group" a := fun j hj => by
      simp only [List.mem_cons, List.not_mem_nil, or_false] at hj
      rcases hj with rfl | rfl | rfl
      · exact ⟨_, rfl, xn_of T.X_Struck.toErrT T.X_Struck.no, lk1⟩
      · exact ⟨_, rfl, xn_of T.X_NotStruck.toErrT T.X_NotStruck.no, lk1⟩
      · exact ⟨_, rfl, xn_of T.X_HasChildren.toErrT T.X_HasChildren.no, lk1⟩
    have k4 : ∀ j ∈ ([23, 24, 25, 26, 27] : List Nat), Keeps K (errQ T a b) j "hand" a := fun j hj => by
      simp only [List.mem_cons, List.not_mem_nil, or_false] at hj
      rcases hj with rfl | rfl | rfl | rfl | rfl
      · exact ⟨_, rfl, xn_of T.X_AtWork.toErrT T.X_AtWork.no, lk1⟩
      · exact ⟨_, rfl, xn_of T.X_NoWalk.toErrT T.X_NoWalk.no, lk1⟩
      · exact ⟨_, rfl, xn_of T.X_MustSettle.toErrT T.X_MustSettle.no, lk1⟩
      · exact ⟨_, rfl, xn_of T.X_NoStock.toErrT T.X_NoStock.no, lk1⟩
      · exact ⟨_, rfl, xn_of T.X_NotYours.toErrT T.X_NotYours.no, lk1⟩
    have k5 : ∀ j ∈ ([28, 30, 31] : List Nat), Keeps K (errQ T a b) j "thing" a := fun j hj => by
      simp only [List.mem_cons, List.not_mem_nil, or_false] at hj
      rcases hj with rfl | rfl | rfl
      · exact ⟨_, rfl, xn_of T.X_NotLiving.toErrT T.X_NotLiving.no, lk1⟩
      · exact ⟨_, rfl, xn_of T.X_UnderWay.toErrT T.X_UnderWay.no1, lk2a⟩
      · exact ⟨_, rfl, xn_of T.X_Held.toErrT T.X_Held.no1, lk2a⟩
    refine q_asgL (xs := ([0, 3, 6, 7, 8, 9, 10, 11, 12, 13, 14, 15, 17, 18] : List Nat).map nV) (el_lst (ea_cons (ev_is ev_c rfl) (ea_cons (ev_is ev_c rfl) (ea_cons (ev_is ev_c rfl) (ea_cons (ev_is ev_c rfl) (ea_cons (ev_is ev_c rfl) (ea_cons (ev_is ev_c rfl) (ea_cons (ev_is ev_c rfl) (ea_cons (ev_is ev_c rfl) (ea_cons (ev_is ev_c rfl) (ea_cons (ev_is ev_c rfl) (ea_cons (ev_is ev_c rfl) (ea_cons (ev_is ev_c rfl) (ea_cons (ev_is ev_c rfl) (ea_cons (ev_is ev_c rfl) ea_nil)))))))))))))) (by show 14 ≤ 100000; omega)) fun pl H1 hpl e1 h1 => ?_
    show tSeq _ _ _ [some (.ref p), some a, some b, some (.ref pl), none, none, none] H1
    refine q_asgL (xs := List.replicate 18 a) (el_is (el_cat (el_keep (e1 _ _ hl) (r.ex e1) (fun _ => rfl) (fun _ => rfl) (fun _ => rfl) (by decide) (ev_var rfl) (sq_of h1) k1) (fun G x => el_keepT (js := [1, 2, 36, 37]) ((e1.trans x) _ _ hl) (r.ex (e1.trans x)) (fun _ => rfl) (fun _ => rfl) (fun _ => rfl) (by decide) (ea_cons (ev_is ev_c rfl) (ea_cons (ev_is ev_c rfl) (ea_cons (ev_is ev_c rfl) (ea_cons (ev_is ev_c rfl) ea_nil)))) k2) (by rw [List.length_replicate, List.length_replicate]; decide)) (by rw [List.replicate_append_replicate]; rfl)) fun kp H2 hkp e2 h2 => ?_
    show tSeq _ _ _ [some (.ref p), some a, some b, some (.ref pl), some (.ref kp), none, none] H2
    have x2 := e1.trans e2
    have kp0 : H kp = none := fresh_back e1 hkp
    refine q_extR (n := 18) (m := 6) h2 (ev_var rfl) (el_lst (vs := List.replicate 6 a) (ea_cons (ev_x (j := 4) (f := "kind") (v := a) (x2 _ _ hl) (r.ex x2) (ev_var rfl) (ev_is ev_c rfl) ⟨_, rfl, xn_of T.X_InvalidRow.toErrT T.X_InvalidRow.no1, lk2a⟩) (ea_cons (ev_x (j := 5) (f := "name") (v := a) (x2 _ _ hl) (r.ex x2) (ev_var rfl) (ev_is ev_c rfl) ⟨_, rfl, xn_of T.X_InvalidWord.toErrT T.X_InvalidWord.no1, lk2a⟩) (ea_cons (ev_x (j := 16) (f := "line") (v := a) (x2 _ _ hl) (r.ex x2) (ev_var rfl) (ev_is ev_c rfl) ⟨_, rfl, xn_of T.X_InvalidText.toErrT T.X_InvalidText.no, lk1⟩) (ea_cons (ev_x (j := 32) (f := "wish") (v := a) (x2 _ _ hl) (r.ex x2) (ev_var rfl) (ev_is ev_c rfl) ⟨_, rfl, xn_of T.X_NotKept.toErrT T.X_NotKept.no, lk1⟩) (ea_cons (ev_x (j := 29) (f := "kind") (v := a) (x2 _ _ hl) (r.ex x2) (ev_var rfl) (ev_is ev_c rfl) ⟨_, rfl, xn_of T.X_NoRow.toErrT T.X_NoRow.no, lk1⟩) (ea_cons (ev_x (j := 38) (f := "what") (v := a) (x2 _ _ hl) (r.ex x2) (ev_var rfl) (ev_is ev_c rfl) ⟨_, rfl, xn_of T.X_TooMany.toErrT T.X_TooMany.no1, lk2a⟩) ea_nil)))))) (by show 6 ≤ 100000; omega)) (by decide) fun H3 z3 h3 => ?_
    have x3 := ExB.all x2 kp0 z3
    refine q_extR (n := 24) (m := 8) h3 (ev_var rfl) (el_is (el_cat (el_keepT (js := [20, 21, 22]) (x3 _ _ hl) (r.ex x3) (fun _ => rfl) (fun _ => rfl) (fun _ => rfl) (by decide) (ea_cons (ev_is ev_c rfl) (ea_cons (ev_is ev_c rfl) (ea_cons (ev_is ev_c rfl) ea_nil))) k3) (fun G x => el_keepT (js := [23, 24, 25, 26, 27]) ((x3.trans x) _ _ hl) (r.ex (x3.trans x)) (fun _ => rfl) (fun _ => rfl) (fun _ => rfl) (by decide) (ea_cons (ev_is ev_c rfl) (ea_cons (ev_is ev_c rfl) (ea_cons (ev_is ev_c rfl) (ea_cons (ev_is ev_c rfl) (ea_cons (ev_is ev_c rfl) ea_nil))))) k4) (by rw [List.length_replicate, List.length_replicate]; decide)) (by rw [List.replicate_append_replicate]; rfl)) (by decide) fun H4 z4 h4 => ?_
    have x4 := ExB.all x3 kp0 z4
    refine q_extR (n := 32) (m := 3) h4 (ev_var rfl) (el_keepT (js := [28, 30, 31]) (x4 _ _ hl) (r.ex x4) (fun _ => rfl) (fun _ => rfl) (fun _ => rfl) (by decide) (ea_cons (ev_is ev_c rfl) (ea_cons (ev_is ev_c rfl) (ea_cons (ev_is ev_c rfl) ea_nil))) k5) (by decide) fun H5 z5 h5 => ?_
    have x5 := ExB.all x4 kp0 z5
    refine q_asgL (xs := List.replicate 5 b) (el_lst (vs := List.replicate 5 b) (ea_cons (ev_x (j := 4) (f := "value") (v := b) (x5 _ _ hl) (r.ex x5) (ev_var rfl) (ev_is ev_c rfl) ⟨_, rfl, xn_of T.X_InvalidRow.toErrT T.X_InvalidRow.no2, (lk2b (by decide))⟩) (ea_cons (ev_x (j := 5) (f := "value") (v := b) (x5 _ _ hl) (r.ex x5) (ev_var rfl) (ev_is ev_c rfl) ⟨_, rfl, xn_of T.X_InvalidWord.toErrT T.X_InvalidWord.no2, (lk2b (by decide))⟩) (ea_cons (ev_x (j := 30) (f := "kind") (v := b) (x5 _ _ hl) (r.ex x5) (ev_var rfl) (ev_is ev_c rfl) ⟨_, rfl, xn_of T.X_UnderWay.toErrT T.X_UnderWay.no2, (lk2b (by decide))⟩) (ea_cons (ev_x (j := 31) (f := "kind") (v := b) (x5 _ _ hl) (r.ex x5) (ev_var rfl) (ev_is ev_c rfl) ⟨_, rfl, xn_of T.X_Held.toErrT T.X_Held.no2, (lk2b (by decide))⟩) (ea_cons (ev_x (j := 38) (f := "limit") (v := b) (x5 _ _ hl) (r.ex x5) (ev_var rfl) (ev_is ev_c rfl) ⟨_, rfl, xn_of T.X_TooMany.toErrT T.X_TooMany.no2, (lk2b (by decide))⟩) ea_nil))))) (by show 5 ≤ 100000; omega)) fun ks H6 hks e6 h6 => ?_
    show tRet _ _ [some (.ref p), some a, some b, some (.ref pl), some (.ref kp), some (.ref ks), none] H6
    have x6 := x5.trans e6
    have ha6 := ha.ex x6
    have hb6 := hb.ex x6
    have sm := sm_kept sa sb
    refine s_ret (ev_is (ev_op (ev_reprX (d := .list [.list (List.replicate 35 da), .list (List.replicate 5 db)]) (x_lst (xa_cons (x_ev (ev_var rfl) (.lst (sq_of (e6 _ _ h5)) (dxs_rep ha6 35))) (xa_cons (x_ev (ev_var rfl) (.lst (sq_of h6) (dxs_rep hb6 5))) xa_nil)) (by show 2 ≤ 100000; omega)) sm (by omega) (by omega)) (ev_reprX (d := .list [.list (List.replicate 35 da), .list (List.replicate 5 db)]) (x_lst (xa_cons (x_el (el_rep1 (n := 35) (el_lst (ea_cons (ev_var rfl) ea_nil) (by show 1 ≤ 100000; omega)) (fun _ _ => ev_is ev_c rfl) (by decide)) (dxs_rep ha6 35)) (xa_cons (x_el (el_rep1 (n := 5) (el_lst (ea_cons (ev_var rfl) ea_nil) (by show 1 ≤ 100000; omega)) (fun _ _ => ev_is ev_c rfl) (by decide)) (dxs_rep hb6 5)) xa_nil)) (by show 2 ≤ 100000; omega)) sm (by omega) (by omega)) (rv_eq rfl)) (congrArg V.bl (decide_eq_true rfl))) fun G x => q G (x6.trans x)
end
end My
namespace My
open PySem PySem.Spec PyProof.Rows L2 GL Evl StX SkE
/-! ### what is caught -/
def sp_Lcaught (K : PySem.W.Frag) : Sp := fun vs H Q _ => ∃ (a b : V) (n : Nat) (da : PyData), vs = [a, b, nV n] ∧ n < 3 ∧ Dx K H a da ∧ SmX da 2 60 ∧ RetV (.bl true) H Q
theorem takes_never {X : Cx} : Takes X (fun _ _ _ _ => False) := fun _ _ ⟨_, _, _, _, _, _, _, _, _, _, _, _, _, _, _, _, w⟩ => w.elim
section
variable {P : Program} {w : World} {K : PySem.W.Frag} {mg : Str → Option Value} {base : Heap} {T : Txt K mg w} {H H' : Hp} {σ : L2.St} {te tb ta : TE} {tA : TA} {E : XK} {D : Ends} {tz : TS} {a b v : V} {f : Str} {da : PyData} {C e d : Addr} {fs : List (Str × V)}
theorem ev_xf (hs : Ev te σ H (.ref e)) (hd : H d = some (.xd fs)) (l : fs.lookup f = some v) : Ev (tXf e (.ref C) (some d) C f te) σ H v := fun H1 x Q q => hs H1 x _ fun H2 x2 => ⟨rfl, rfl, d, fs, v, rfl, (x.trans x2) _ _ hd, l, q H2 x2⟩
theorem sm_two {n : Nat} (hn : n < 3) (h : SmX da 2 60) : SmX (.list [.int n, da]) 3 200 := (smX_list (k := 2) (B := 60) fun d hd => by
  simp only [List.mem_cons, List.not_mem_nil, or_false] at hd
  rcases hd with rfl | rfl
  · have go : ∀ n < 3, smXb (.int ((n : Nat) : Int)) 2 60 = true := by decide +kernel
    exact smX_b (go n hn)
  · exact h).mono (Nat.le_refl _) (by show 2 * (60 + 2) + 2 ≤ 200; omega)
theorem ok_Lcaught (T : Txt K mg w)  : FnG P w K mg base CX0 1 T.f_Lcaught T.fd_Lcaught ["_law_a", "_law_b", "_law_way"] (sp_Lcaught K) := by
  skip
  refine okG T.F_Lcaught sc_Lcaught (fun vs H Q E h => ?_) (fun cdv A outer s H vs Q E gd hr h => ?_)
  · obtain ⟨_, _, _, _, rfl, _⟩ := h
    all_goals rfl
  · obtain ⟨a, b, n, da, rfl, hn, ha, sa, q⟩ := h
    refine ⟨_, (pss_cons (ps_set (i := 3) sc_Lcaught.nd rfl (Or.inl rfl) (pe_lst pa_nil)) (pss_cons (ps_try_any rfl rfl takes_never (fun W pn xe tkW po => (pss_cons (ps_if (pt_cmpR op_eq (pv 2) pe_int (nomark _)) (pss_one (ps_raise rfl tkW (pmk_kind_value PySem.F.store_ValueError PySem.F.excBase_ValueError T.X_InvalidRow hr (by rfl) T.m_InvalidRow (pa_cons (pv 0) (pa_cons (pv 1) pa_nil))))) pss_nil) (pss_cons (ps_if (pt_cmpR op_eq (pv 2) pe_int (nomark _)) (pss_one (ps_raise rfl tkW (pmk_thing_kind PySem.F.store_RuntimeError PySem.F.excBase_RuntimeError T.X_Held hr (by rfl) T.m_Held (pa_cons (pv 0) (pa_cons (pv 1) pa_nil))))) pss_nil) (pss_one (ps_raise rfl tkW (pmk_what_limit PySem.F.store_ArithmeticError PySem.F.excBase_ArithmeticError T.X_TooMany hr (by rfl) T.m_TooMany (pa_cons (pv 0) (pa_cons (pv 1) pa_nil)))))))) (.named (i := 4) ⟨by rfl, by decide, .inl T.m_WayError⟩ sc_Lcaught.nd rfl rfl (fun a oe cls d pn hz hf => (pss_one (ps_set (i := 3) sc_Lcaught.nd rfl (Or.inl rfl) (pe_lst (pa_cons pe_int (pa_cons (pe_xf (xf_of T.X_InvalidRow.toErrT) T.X_InvalidRow.no1 hz hf (pv 4)) pa_nil)))))) (.named (i := 4) ⟨by rfl, by decide, .inl T.m_StandError⟩ sc_Lcaught.nd rfl rfl (fun a oe cls d pn hz hf => (pss_one (ps_set (i := 3) sc_Lcaught.nd rfl (Or.inl rfl) (pe_lst (pa_cons pe_int (pa_cons (pe_xf (xf_of T.X_Held.toErrT) T.X_Held.no1 hz hf (pv 4)) pa_nil)))))) (.named (i := 4) ⟨by rfl, by decide, .inl T.m_LimitError⟩ sc_Lcaught.nd rfl rfl (fun a oe cls d pn hz hf => (pss_one (ps_set (i := 3) sc_Lcaught.nd rfl (Or.inl rfl) (pe_lst (pa_cons pe_int (pa_cons (pe_xf (xf_of T.X_TooMany.toErrT) T.X_TooMany.no1 hz hf (pv 4)) pa_nil)))))) .nil)))) (pss_one (ps_ret (pe_cmpR op_eq (pe_callB (call_reprX gd (roomU hr)) (by rfl) T.z_repr boot_repr (pa_cons (pv 3) pa_nil)) (pe_callB (call_reprX gd (roomU hr)) (by rfl) T.z_repr boot_repr (pa_cons (pe_lst (pa_cons (pv 2) (pa_cons (pv 0) pa_nil))) pa_nil)) (nomark _)))))), ?_⟩
    refine q_asgL (xs := []) (el_lst ea_nil (Nat.zero_le _)) fun p0 H0 hp0 e0 h0 => ?_
    have fin : ∀ (p : Addr) (G : Hp), Ex H G → G p = some (.lst [nV n, a]) → tRet (tOp rEq (tCB (rReprX K) (tCons (tVar 3) tNil)) (tCB (rReprX K) (tCons (tLst (tCons (tVar 2) (tCons (tVar 0) tNil))) tNil))) { nx := fun _ H' => Q .non H', rt := Q } [some a, some b, some (nV n), some (.ref p), none] G := fun p G x hp => by
      have s := sm_two hn sa
      exact s_ret (ev_is (ev_op (ev_reprX (d := .list [.int n, da]) (x_ev (ev_var rfl) (.lst (sq_of hp) (.cons (.int _) (.cons (ha.ex x) .nil)))) s (by omega) (by omega)) (ev_reprX (d := .list [.int n, da]) (x_lst (xa_cons (x_ev (ev_var rfl) (.int _)) (xa_cons (x_ev (ev_var rfl) (ha.ex x)) xa_nil)) (by show 2 ≤ 100000; omega)) s (by omega) (by omega)) (rv_eq rfl)) (congrArg V.bl (decide_eq_true rfl))) fun G2 x2 => q G2 (x.trans x2)
    obtain rfl | rfl | rfl : n = 0 ∨ n = 1 ∨ n = 2 := by omega
    · show tSeq _ _ _ _ H0
      refine q_when (b := true) (et_is (et_test (ev_op (ev_var rfl) ev_c (rv_eq rfl))) (by decide)) (fun _ G0 g0 => ?_) fun z => nomatch z
      refine (ea_cons (ev_var rfl) (ea_cons (ev_var rfl) ea_nil) : EvA _ _ _ [a, b]) G0 (Ex.refl _) _ fun J j => ⟨rfl, fun d hd => ?_⟩
      have hdd : (upd J d (.xd [("kind", a), ("value", b)])) d = some (.xd [("kind", a), ("value", b)]) := upd_same
      have xJ : Ex H (upd J d (.xd [("kind", a), ("value", b)])) := ((e0.trans g0).trans j).trans (Ex.new hd)
      show wAny _ _ _ _ _ _ _ (upd J d (.xd [("kind", a), ("value", b)]))
      generalize upd J d (.xd [("kind", a), ("value", b)]) = J2 at hdd xJ ⊢
      refine ⟨true, T.q_InvalidRow_WayError, fun _ e he => ?_, fun z => nomatch z⟩
      exact s_asgL (el_lst (ea_cons (ev_is ev_c rfl) (ea_cons (ev_xf (ev_var rfl) hdd lk2a) ea_nil)) (by show 2 ≤ 100000; omega)) fun p G hp x hG => fin p G (xJ.trans x) hG
    · show tSeq _ _ _ _ H0
      refine q_when (b := false) (et_is (et_test (ev_op (ev_var rfl) ev_c (rv_eq rfl))) (by decide)) (fun z => nomatch z) fun _ G0 g0 => ?_
      refine q_when (b := true) (et_is (et_test (ev_op (ev_var rfl) ev_c (rv_eq rfl))) (by decide)) (fun _ G1 g1 => ?_) fun z => nomatch z
      refine (ea_cons (ev_var rfl) (ea_cons (ev_var rfl) ea_nil) : EvA _ _ _ [a, b]) G1 (Ex.refl _) _ fun J j => ⟨rfl, fun d hd => ?_⟩
      have hdd : (upd J d (.xd [("thing", a), ("kind", b)])) d = some (.xd [("thing", a), ("kind", b)]) := upd_same
      have xJ : Ex H (upd J d (.xd [("thing", a), ("kind", b)])) := (((e0.trans g0).trans g1).trans j).trans (Ex.new hd)
      show wAny _ _ _ _ _ _ _ (upd J d (.xd [("thing", a), ("kind", b)]))
      generalize upd J d (.xd [("thing", a), ("kind", b)]) = J2 at hdd xJ ⊢
      refine ⟨false, T.q_Held_WayError, (fun z => nomatch z), fun _ => ⟨true, T.q_Held_StandError, fun _ e he => ?_, fun z => nomatch z⟩⟩
      exact s_asgL (el_lst (ea_cons (ev_is ev_c rfl) (ea_cons (ev_xf (ev_var rfl) hdd lk2a) ea_nil)) (by show 2 ≤ 100000; omega)) fun p G hp x hG => fin p G (xJ.trans x) hG
    · show tSeq _ _ _ _ H0
      refine q_when (b := false) (et_is (et_test (ev_op (ev_var rfl) ev_c (rv_eq rfl))) (by decide)) (fun z => nomatch z) fun _ G0 g0 => ?_
      refine q_when (b := false) (et_is (et_test (ev_op (ev_var rfl) ev_c (rv_eq rfl))) (by decide)) (fun z => nomatch z) fun _ G1 g1 => ?_
      refine (ea_cons (ev_var rfl) (ea_cons (ev_var rfl) ea_nil) : EvA _ _ _ [a, b]) G1 (Ex.refl _) _ fun J j => ⟨rfl, fun d hd => ?_⟩
      have hdd : (upd J d (.xd [("what", a), ("limit", b)])) d = some (.xd [("what", a), ("limit", b)]) := upd_same
      have xJ : Ex H (upd J d (.xd [("what", a), ("limit", b)])) := (((e0.trans g0).trans g1).trans j).trans (Ex.new hd)
      show wAny _ _ _ _ _ _ _ (upd J d (.xd [("what", a), ("limit", b)]))
      generalize upd J d (.xd [("what", a), ("limit", b)]) = J2 at hdd xJ ⊢
      refine ⟨false, T.q_TooMany_WayError, (fun z => nomatch z), fun _ => ⟨false, T.q_TooMany_StandError, (fun z => nomatch z), fun _ => ⟨true, T.q_TooMany_LimitError, fun _ e he => ?_, fun z => nomatch z⟩⟩⟩
      exact s_asgL (el_lst (ea_cons (ev_is ev_c rfl) (ea_cons (ev_xf (ev_var rfl) hdd lk2a) ea_nil)) (by show 2 ≤ 100000; omega)) fun p G hp x hG => fin p G (xJ.trans x) hG
end
end My
namespace My
open PySem PySem.Spec PyProof.Rows L2 GL Evl StX SkE
/-! ### the law -/
def sp_Lright : Sp := fun vs H Q _ => ∃ a, vs = [.ref a] ∧ PotAt H a ∧ ∀ H', ExB a H H' → Q (.bl true) H'
def sp_law (K : PySem.W.Frag) : Sp := fun vs H Q _ => ∃ (a : Addr) (ns : List Int), vs = [.ref a] ∧ SqL K H a (ns.map V.int) ∧ ns.length ≤ 63 ∧ ∀ H', Q (.bl true) H'
def hole (r : Addr) (H : Hp) : Hp := fun b => if b = r then none else H b
section
variable {r b : Addr} {H H' : Hp} {o : HO}
theorem hole_ne (h : b ≠ r) : hole r H b = H b := if_neg h
theorem hole_exB (e : ExB r H H') : Ex (hole r H) H' := fun b o h => by
  by_cases z : b = r
  · unfold hole at h
    rw [if_pos z] at h
    cases h
  · rw [hole_ne z] at h
    exact e b o z h
theorem hole_mono (e : ExB r H H') : Ex (hole r H) (hole r H') := fun b o h => by
  by_cases z : b = r
  · unfold hole at h
    rw [if_pos z] at h
    cases h
  · rw [hole_ne z] at h ⊢
    exact e b o z h
theorem PotAt.ne (h : PotAt H r) (hd : H b = none) : b ≠ r := fun e => by
  obtain ⟨x, y, h1, _⟩ := h
  rw [e, h1] at hd
  cases hd
end
/-! lists of lists of numbers -/
def dNs (ns : List Nat) : PyData := .list (ns.map fun (n : Nat) => PyData.int (n : Int))
def dNN (nss : List (List Nat)) : PyData := .list (nss.map dNs)
/-- new lists of numbers, told by ys -/
def NNF (H1 : Hp) (p : Addr) (H2 : Hp) (ys : List V) (nss : List (List Nat)) : Prop := Paired (fun y (ns : List Nat) => ∃ q, y = .ref q ∧ H1 q = none ∧ q ≠ p ∧ H2 q = some (.lst (ns.map nV))) ys nss
theorem paired_snoc {α β : Type} {F : α → β → Prop} : ∀ {xs : List α} {ys : List β} {x : α} {y : β}, Paired F xs ys → F x y → Paired F (xs ++ [x]) (ys ++ [y])
  | _, _, _, _, .nil, h => .cons h .nil
  | _, _, _, _, .cons h t, h2 => .cons h (paired_snoc t h2)
theorem paired_app {α β : Type} {F : α → β → Prop} : ∀ {xs zs : List α} {ys ws : List β}, Paired F xs ys → Paired F zs ws → Paired F (xs ++ zs) (ys ++ ws)
  | _, _, _, _, .nil, h => h
  | _, _, _, _, .cons h t, h2 => .cons h (paired_app t h2)
theorem paired_rep {α β : Type} {F : α → β → Prop} {x : α} {y : β} (h : F x y) : ∀ n : Nat, Paired F (List.replicate n x) (List.replicate n y)
  | 0 => .nil
  | n + 1 => .cons h (paired_rep h n)
section
variable {K : PySem.W.Frag} {H H' H0 H1 H2 : Hp} {σ : L2.St} {te ta tb tl : TE} {tA : TA} {xs ys : List V} {nss mss : List (List Nat)} {p a : Addr} {Q : VK} {D : Ends} {tz : TS}
mutual
theorem dpx (e : Ex H H') : ∀ {v : V} {d : PyData}, Dp K H v d → Dp K H' v d
  | _, _, .non => .non
  | _, _, .bl b => .bl b
  | _, _, .int i => .int i
  | _, _, .str x => .str x
  | _, _, .lst h t => .lst (ex_l e h) (dpxA e t)
  | _, _, .tup h t => .tup (ex_t e h) (dpxA e t)
theorem dpxA (e : Ex H H') : ∀ {vs : List V} {ds : List PyData}, DpAll K H vs ds → DpAll K H' vs ds
  | _, _, .nil => .nil
  | _, _, .cons h t => .cons (dpx e h) (dpxA e t)
end
theorem dp_nats : ∀ ns : List Nat, DpAll K H (ns.map nV) (ns.map fun (n : Nat) => PyData.int (n : Int))
  | [] => .nil
  | n :: ns => .cons (.int _) (dp_nats ns)
theorem NNF.dp (h : NNF H1 p H2 ys nss) : DpAll K H2 ys (nss.map dNs) := by
  unfold NNF at h
  induction h with
  | nil => exact .nil
  | cons h _ ih =>
    obtain ⟨q, rfl, _, _, hq⟩ := h
    exact .cons (.lst (sq_of hq) (dp_nats _)) ih
theorem NNF.exB (h : NNF H1 p H2 ys nss) (hp : PotAt H1 a) (e : ExB a H2 H') : NNF H1 p H' ys nss := L2.Paired.mapP h fun y ns z => by
  obtain ⟨q, rfl, h1, h2, h3⟩ := z
  exact ⟨q, rfl, h1, h2, e _ _ (hp.ne h1) h3⟩
def EvNN (te : TE) (σ : L2.St) (H : Hp) (nss : List (List Nat)) : Prop := ∀ H1, Ex H H1 → ∀ Q : VK, (∀ p ys H2, H1 p = none → Ex H1 H2 → H2 p = some (.lst ys) → NNF H1 p H2 ys nss → Q (.ref p) H2) → te σ H1 Q
theorem NNF.to (h : NNF H1 p H2 ys nss) (e0 : Ex H0 H1) (e : Ex H2 H') {r : Addr} (hr : H2 r = none) : NNF H0 r H' ys nss := L2.Paired.mapP h fun y ns z => by
  obtain ⟨q, rfl, h1, h2, h3⟩ := z
  exact ⟨q, rfl, fresh_back e0 h1, ne_of_none h3 hr, e _ _ h3⟩
theorem enn_one {ns : List Nat} (h : EvL te σ H (ns.map nV)) : EvNN (tLst (tCons te tNil)) σ H [ns] := fun H1 e Q q => h H1 e _ fun p H2 hp e2 h2 => ⟨by show 1 ≤ sizeLine; decide, fun r hr => q r _ _ (fresh_back e2 hr) (e2.trans (Ex.new hr)) upd_same (.cons ⟨p, rfl, hp, ne_of_none h2 hr, (Ex.new hr) _ _ h2⟩ .nil)⟩
theorem enn_rep {ns : List Nat} {n : Nat} (h : EvNN te σ H [ns]) (hn : n ≤ 100) : EvNN (tOp rRep te (tC (.int (n : Int)))) σ H (List.replicate n ns) := fun H1 e Q q => h H1 e _ fun p ys H2 hp e2 h2 r2 => by
  unfold NNF at r2
  cases r2 with
  | cons h t =>
    cases t
    obtain ⟨z, rfl, z1, z2, z3⟩ := h
    exact ev_raw' ev_c fun H3 e3 => ⟨p, (n : Int), [.ref z], rfl, rfl, e3 _ _ h2, by omega, by omega, by rw [sizeLine_eq, Int.toNat_natCast]; show 1 * n ≤ _; omega, fun r hr => q r (List.replicate n (.ref z)) _ (fresh_back (e2.trans e3) hr) ((e2.trans e3).trans (Ex.new hr)) (by rw [upd_same, Int.toNat_natCast, rep_flat]) (paired_rep ⟨z, rfl, z1, ne_of_none (e3 _ _ z3) hr, (Ex.new hr) _ _ (e3 _ _ z3)⟩ n)⟩
theorem enn_cat (ha : EvNN ta σ H nss) (hb : EvNN tb σ H mss) (hl : nss.length + mss.length ≤ 1000) : EvNN (tOp rCat ta tb) σ H (nss ++ mss) := fun H1 e Q q => ha H1 e _ fun p ys H2 hp e2 h2 r2 => hb H2 (e.trans e2) _ fun p' ys' H3 hp' e3 h3 r3 => by
  have l1 : ys.length = nss.length := r2.length
  have l2 : ys'.length = mss.length := r3.length
  exact ⟨p, p', ys, ys', rfl, rfl, e3 _ _ h2, h3, by rw [sizeLine_eq]; omega, fun r hr => q r _ _ (fresh_back (e2.trans e3) hr) ((e2.trans e3).trans (Ex.new hr)) upd_same (paired_app (L2.Paired.mapP r2 fun y ns z => by
    obtain ⟨u, rfl, u1, u2, u3⟩ := z
    exact ⟨u, rfl, u1, ne_of_none (e3 _ _ u3) hr, (Ex.new hr) _ _ (e3 _ _ u3)⟩) (r3.to e2 (Ex.new hr) hr))⟩
/-- [te for x in xs], each a new list of numbers -/
theorem nn_turn {f : Nat → List Nat} {i : Nat} {Dl : Addr} {G : Hp} (hD : H1 Dl = none) (hz : i ≤ 1000) (x1 : Ex H1 G) (hy : G Dl = some (.lst ys)) (nn : NNF H1 Dl G ys ((List.range i).map f)) {σ2 : L2.St} (h : EvL te σ2 G ((f i).map nV)) :
    te σ2 G fun y H4 => ∃ acc, H4 Dl = some (.lst acc) ∧ acc.length < sizeLine ∧ (fun k G => Ex H1 G ∧ ∃ ys, G Dl = some (.lst ys) ∧ NNF H1 Dl G ys ((List.range k).map f)) (i + 1) (upd H4 Dl (.lst (acc ++ [y]))) := by
  have ly : ys.length = i := by
    have := nn.length
    rw [List.length_map, List.length_range] at this
    exact this
  refine el_raw h fun p G2 hp g hg => ⟨ys, g _ _ hy, by rw [sizeLine_eq]; omega, (x1.trans g).mut hD, ys ++ [.ref p], upd_same, ?_⟩
  have npD : p ≠ Dl := fun z => by rw [z, hy] at hp; cases hp
  have nw : NNF H1 Dl (upd G2 Dl (.lst (ys ++ [.ref p]))) ys ((List.range i).map f) := L2.Paired.mapP nn fun y ns z => by
    obtain ⟨u, rfl, u1, u2, u3⟩ := z
    exact ⟨u, rfl, u1, u2, by rw [upd_ne u2]; exact g _ _ u3⟩
  rw [List.range_succ, List.map_append]
  exact paired_snoc nw ⟨p, rfl, fresh_back x1 hp, npD, by rw [upd_ne npD]; exact hg⟩
theorem enn_lcL {j : Nat} {vs : List Nat} {l : Addr} (f : Nat → List Nat) (h : Ev tl σ H (.ref l)) (hx : H l = some (.lst xs)) (hz : xs.length ≤ 1000) (hw : ∀ x, wipe ((wipe σ vs).set j (some x)) vs = wipe σ vs) (he : ∀ (i : Nat) (x : V) H1, Ex H H1 → xs[i]? = some x → EvL te ((wipe σ vs).set j (some x)) H1 ((f i).map nV)) :
    EvNN (tLc (iList K tl) (gName j) tYes te vs) σ H ((List.range xs.length).map f) := fun H0 e Q q => h H0 e _ fun H1 e1 => ⟨l, rfl, ⟨xs, sq_of ((e.trans e1) _ _ hx)⟩, fun Dl hD => lc_list (xs := xs) (fun k G => Ex H1 G ∧ ∃ ys, G Dl = some (.lst ys) ∧ NNF H1 Dl G ys ((List.range k).map f)) ⟨Ex.new hD, [], upd_same, .nil⟩
    (fun i G _ z => sq_of (z.1 _ _ ((e.trans e1) _ _ hx))) (fun i x G hx' z => by
    obtain ⟨x1, ys, hy, nn⟩ := z
    have hi := (List.getElem?_eq_some_iff.mp hx').1
    exact ⟨hw x, yes_raw (nn_turn hD (by omega) x1 hy nn (he i x G ((e.trans e1).trans x1) hx'))⟩) fun G z => by
    obtain ⟨x1, ys, hy, nn⟩ := z
    exact q Dl ys G (fresh_back e1 hD) (e1.trans x1) hy (L2.Paired.mapP nn fun y ns z => by
      obtain ⟨u, rfl, u1, u2, u3⟩ := z
      exact ⟨u, rfl, fresh_back e1 u1, u2, u3⟩)⟩
theorem enn_lcR {j n : Nat} {vs : List Nat} (f : Nat → List Nat) (h : EvA tA σ H [nV n]) (hn : n ≤ 1000) (hw : ∀ x, wipe ((wipe σ vs).set j (some x)) vs = wipe σ vs) (he : ∀ (i : Nat) H1, Ex H H1 → i < n → EvL te ((wipe σ vs).set j (some (nV i))) H1 ((f i).map nV)) :
    EvNN (tLc (iRng1 tA) (gName j) tYes te vs) σ H ((List.range n).map f) := fun H0 e Q q => h H0 e _ fun H1 e1 => ⟨(n : Int), rfl, by omega, by omega, fun Dl hD => lc_range (lo := 0) (n := (n : Int).toNat) (fun k G => Ex H1 G ∧ ∃ ys, G Dl = some (.lst ys) ∧ NNF H1 Dl G ys ((List.range k).map f)) ⟨Ex.new hD, [], upd_same, .nil⟩ (fun i G hi z => by
    have e0 : (0 : Int) + (i : Int) = (i : Int) := Int.zero_add _
    rw [e0]
    obtain ⟨x1, ys, hy, nn⟩ := z
    exact ⟨hw _, yes_raw (nn_turn hD (by omega) x1 hy nn (he i G ((e.trans e1).trans x1) (by omega)))⟩) fun G z => by
    rw [Int.toNat_natCast] at z
    obtain ⟨x1, ys, hy, nn⟩ := z
    exact q Dl ys G (fresh_back e1 hD) (e1.trans x1) hy (L2.Paired.mapP nn fun y ns z => by
      obtain ⟨u, rfl, u1, u2, u3⟩ := z
      exact ⟨u, rfl, fresh_back e1 u1, u2, u3⟩)⟩
/-- such lists, told alike, are not unlike -/
theorem ev_nnne (ha : EvNN ta σ H nss) (hb : EvNN tb σ H nss) (hs : SeqAt.shaped (dNN nss) = true) : Ev (tOp (rNeD K) ta tb) σ H (.bl false) := fun H1 e Q q => ha H1 e _ fun p ys H2 hp e2 h2 r2 => hb H2 (e.trans e2) _ fun p' ys' H3 hp' e3 h3 r3 => ⟨dNN nss, dNN nss, .lst (sq_of (e3 _ _ h2)) ((r2.to (Ex.refl _) e3 (r := p') hp').dp), .lst (sq_of h3) r3.dp, hs, hs, by
  rw [SeqAt.eqv_refl _ (SeqAt.canLay_of_shaped hs)]
  exact q H3 (e2.trans e3)⟩
theorem ev_nnneV {l : Addr} {G0 : Hp} (ha : EvNN ta σ H nss) (hb : Ev tb σ H (.ref l)) (hl : H l = some (.lst ys)) (hn : NNF G0 l H ys nss) (hs : SeqAt.shaped (dNN nss) = true) : Ev (tOp (rNeD K) ta tb) σ H (.bl false) := fun H1 e Q q => ha H1 e _ fun p zs H2 hp e2 h2 r2 => hb H2 (e.trans e2) _ fun H3 e3 => ⟨dNN nss, dNN nss, .lst (sq_of (e3 _ _ h2)) (by
    have := r2.dp (K := K)
    exact dpxA e3 this), .lst (sq_of (((e.trans e2).trans e3) _ _ hl)) (dpxA ((e.trans e2).trans e3) hn.dp), hs, hs, by
  rw [SeqAt.eqv_refl _ (SeqAt.canLay_of_shaped hs)]
  exact q H3 (e2.trans e3)⟩
/-! values of any sort, beside a pot -/
def EvH (K : PySem.W.Frag) (a : Addr) (te : TE) (σ : L2.St) (H : Hp) (d : PyData) : Prop := ∀ H1, Ex H H1 → ∀ Q : VK, (∀ v H2, Ex H1 H2 → Dx K (hole a H2) v d → Q v H2) → te σ H1 Q
def EvHA (K : PySem.W.Frag) (a : Addr) (tA : TA) (σ : L2.St) (H : Hp) (ds : List PyData) : Prop := ∀ H1, Ex H H1 → ∀ Q : List V → Hp → Prop, (∀ vs H2, Ex H1 H2 → DxAll K (hole a H2) vs ds → Q vs H2) → tA σ H1 Q
variable {d : PyData} {ds : List PyData} {v : V}
theorem h_c (h : Ev te σ H v) (hd : ∀ G, Dx K G v d) : EvH K a te σ H d := fun H1 e Q q => h H1 e _ fun H2 e2 => q v H2 e2 (hd _)
theorem ha_nil : EvHA K a tNil σ H [] := fun H1 _ Q q => q [] H1 (Ex.refl H1) .nil
theorem ha_cons (h : EvH K a te σ H d) (t : EvHA K a tA σ H ds) : EvHA K a (tCons te tA) σ H (d :: ds) := fun H1 e Q q => h H1 e _ fun v H2 e2 hv => t H2 (e.trans e2) _ fun vs H3 e3 hs => q _ H3 (e2.trans e3) (.cons (hv.ex (hole_mono (ExB.of e3))) hs)
theorem tupx_rawX (h : tA σ H fun xs H1 => xs.length ≤ sizeLine ∧ ∀ p o, H1 p = none → Bare o → Q (.ref p) (upd H1 p (.frz o (.tup xs)))) : tTupX tA σ H Q := h
theorem h_tup (hp : PotAt H a) (h : EvHA K a tA σ H ds) (hl : ds.length ≤ 1000) : EvH K a (tTupX tA) σ H (.tuple ds) := fun H1 e Q q => h H1 e _ fun vs H2 e2 hs => ⟨by rw [← hs.len, sizeLine_eq]; omega, fun p o hn _ => q _ _ (e2.trans (Ex.new hn)) (.tup (.inl (.inr ⟨o, by rw [hole_ne ((hp.ex (e.trans e2)).ne hn), upd_same]⟩)) (DxAll.ex (hole_mono (ExB.of (Ex.new hn))) hs))⟩
theorem h_lst (hp : PotAt H a) (h : EvHA K a tA σ H ds) (hl : ds.length ≤ 1000) : EvH K a (tLst tA) σ H (.list ds) := fun H1 e Q q => h H1 e _ fun vs H2 e2 hs => ⟨by rw [← hs.len, sizeLine_eq]; omega, fun p hn => q _ _ (e2.trans (Ex.new hn)) (.lst (.inl (.inl (by rw [hole_ne ((hp.ex (e.trans e2)).ne hn), upd_same]))) (DxAll.ex (hole_mono (ExB.of (Ex.new hn))) hs))⟩
theorem h_dict {k : Str} (hp : PotAt H a) : EvH K a (tDisp [(tC (.str k), tLst (tCons (tC (.int 2)) tNil))]) σ H (.dict [(.str k, .list [.int 2])]) := fun H1 e Q q dd hd => ev_raw' ev_c fun H2 e2 => (el_lst (ea_cons ev_c ea_nil) (by show 1 ≤ 100000; omega) : EvL _ _ H2 [.int 2]) H2 (Ex.refl H2) _ fun p H3 hn e3 h3 => by
  have x0 : Ex (upd H1 dd (.dK [])) H3 := e2.trans e3
  have pot3 : PotAt H3 a := ((hp.ex e).ex ((Ex.new hd).trans x0))
  have npa : p ≠ a := (((hp.ex e).ex (Ex.new hd)).ex e2).ne hn
  have nda : dd ≠ a := (hp.ex e).ne hd
  have npd : p ≠ dd := fun z => by
    have := e2 _ _ (upd_same (H := H1) (a := dd) (o := .dK []))
    rw [← z, hn] at this
    cases this
  refine ⟨x0 _ _ upd_same, [(.inr k, .ref p)], rfl, (by show 1 ≤ 15; omega), q _ _ (Ex.mut ((Ex.new hd).trans x0) hd) ?_⟩
  refine .dct (kvs := [(.inr k, .ref p)]) (ds := [.list [.int 2]]) ?_ (.cons (.lst (.inl (.inl ?_)) (.cons (.int 2) .nil)) .nil)
  · rw [hole_ne nda, upd_same]
    rfl
  · rw [hole_ne npa, upd_ne npd]
    exact h3
theorem dx_mem : ∀ {vs : List V} {ds : List PyData}, DxAll K H vs ds → v ∈ vs → ∃ d ∈ ds, Dx K H v d
  | _, _, .nil, h => absurd h List.not_mem_nil
  | _, _, .cons h t, m => by
    rcases List.mem_cons.mp m with rfl | m
    · exact ⟨_, List.mem_cons_self, h⟩
    · obtain ⟨d, hd, q⟩ := dx_mem t m
      exact ⟨d, List.mem_cons_of_mem _ hd, q⟩
theorem ret_raw2 {s1 s2 : V} {i j : Nat} {QQ : L2.St → Hp → Prop} {t : Addr} {ob : Obj} (h : H t = some (.frz ob (.tup [s1, s2]))) (q : QQ ((σ.set i (some s1)).set j (some s2)) H) : gTup K 2 (gCons (gName i) (gCons (gName j) gNil)) (.ref t) σ H QQ :=
  ⟨t, [s1, s2], rfl, .inl (.inr ⟨ob, h⟩), rfl, s1, _, rfl, s2, _, rfl, rfl, q⟩
end
def anyD : List PyData := [.none, .int 0, .int 1, .int 7, .bool true, .bool false, .str "", .str "a", .str "take", .tuple [.int 1, .str "b"], .tuple [], .list [.int 1], .dict [(.str "a", .list [.int 2])], .int (0 - 1), .int (10 ^ (39 : Int).toNat), .tuple [.str "take", .int 0, .int 1]]
theorem any_sm {d : PyData} (h : d ∈ anyD) : SmX d 2 60 := by
  have go : (anyD.all fun d => smXb d 2 60) = true := by decide +kernel
  exact smX_b (List.all_eq_true.mp go d h)
theorem sh_which : SeqAt.shaped (dNN ((List.range 39).map fun i => [i])) = true := by decide +kernel
theorem sh_owed : SeqAt.shaped (dNN ((List.range 39).map owedN)) = true := by decide +kernel
theorem owed_eq : List.replicate 19 [0, 3] ++ List.replicate 19 [1, 4] ++ [[2, 5]] = (List.range 39).map owedN := by decide +kernel
section
variable {P : Program} {w : World} {K : PySem.W.Frag} {mg : Str → Option Value} {base : Heap} {T : Txt K mg w} {H H' : Hp} {σ : L2.St} {te tb ta : TE} {tA : TA} {E Er : XK} {D : Ends} {tz : TS} {a b v : V} {p : Addr} {ys : List V}
theorem err_cls : (errQ T a b).map (·.1) = T.cs := rfl
theorem err_len : (errQ T a b).length = 39 := rfl
theorem err_at (h : ErsAt H ys (errQ T a b)) {i : Nat} {x : V} (hx : ys[i]? = some x) : ∃ e fs, x = .ref e ∧ i < 39 ∧ ExAt H e (T.cs.getD i 0) fs := by
  have hi : i < ys.length := (List.getElem?_eq_some_iff.mp hx).1
  rw [h.len, err_len] at hi
  have hq : (errQ T a b)[i]? = some (errQ T a b)[i] := List.getElem?_eq_getElem (by rw [err_len]; exact hi)
  obtain ⟨e, he, hE⟩ := h.at hq
  rw [hx] at he
  refine ⟨e, (errQ T a b)[i].2, Option.some.inj he, hi, ?_⟩
  have ec : T.cs.getD i 0 = (errQ T a b)[i].1 := by
    rw [← err_cls (T := T) (a := a) (b := b), List.getD_eq_getElem?_getD, List.getElem?_map, hq]
    rfl
  rw [ec]
  exact hE
theorem rc_min2 {i j : Int} : RC (fun xs H Q => ∃ i j, xs = [V.int i, V.int j] ∧ Q (.int (if j < i then j else i)) H) [.int i, .int j] H (.int (if j < i then j else i)) := fun H1 _ Q q => ⟨i, j, rfl, q H1 (Ex.refl H1)⟩
theorem cbl {a b : Bool} (h : a = b) : V.bl a = V.bl b := congrArg V.bl h
theorem all_rep (n : Nat) : (List.replicate n true).all id = true := by
  induction n with
  | zero => rfl
  | succ n ih => exact ih
theorem ev_rightPot {ta tb : TE} {a : Addr} {ns : List Int} {k : Nat} {Er Er' : XK} (ha : Ev ta σ H (.ref a)) (hb : Ev tb σ H (.int (k : Int))) (hs : SqL K H a (ns.map V.int)) (hl : ns.length ≤ 63) (hk : k < 3) : Ev (tCall sp_Lright [] Er (tCons (tCall (sp_Lpot K) [] Er' (tCons ta (tCons tb tNil))) tNil)) σ H (.bl true) := fun H1 e Q q =>
  ha H1 e _ fun H2 e2 => hb H2 (e.trans e2) _ fun H3 e3 => ⟨a, ns, k, rfl, ex_l ((e.trans e2).trans e3) hs, hl, hk, fun H4 p hp e4 p4 => ⟨p, rfl, p4, fun H5 x5 => q H5 ((e2.trans e3).trans (ExB.all e4 hp x5))⟩⟩
theorem q_forRaw {K : PySem.W.Frag} {tl : TE} {g : TG} {tu tz : TS} {D : Ends} {σ : L2.St} {H : Hp} (h : tl σ H fun x H1 => ∃ p, x = .ref p ∧ (∃ xs, SqL K H1 p xs) ∧ tFor (fun _ H R => R (Itl K p) H) g tu { D with nx := tz D } σ H1) : tSeq (tFor (iList K tl) g tu) tz D σ H := h
theorem forRaw {K : PySem.W.Frag} {p : Addr} {xs : List V} {g : TG} {tu tz : TS} {D : Ends} {σ : L2.St} {H : Hp} (Pv : Nat → L2.St → Hp → Prop) (h0 : Pv 0 σ H) (hl : ∀ i σ' H', i ≤ xs.length → Pv i σ' H' → SqL K H' p xs)
    (hs : ∀ i x σ' H', xs[i]? = some x → Pv i σ' H' → g x σ' H' fun σ2 H2 => tu { D with nx := Pv (i + 1), ct := Pv (i + 1), bk := tz D } σ2 H2) (hd : ∀ σ' H', Pv xs.length σ' H' → tz D σ' H') : tFor (fun _ H R => R (Itl K p) H) g tu { D with nx := tz D } σ H :=
  for_list Pv h0 hl hs hd
theorem ok_Lright (T : Txt K mg w) (G_Lpick : FnG P w K mg base CX0 2 T.f_Lpick T.fd_Lpick ["_law_pot_here", "_law_some"] sp_Lpick) (G_Lmade : FnG P w K mg base CX0 1 T.f_Lmade T.fd_Lmade ["_law_a", "_law_b"] (sp_Lmade T)) (G_Lnamed : FnG P w K mg base CX0 1 T.f_Lnamed T.fd_Lnamed ["_law_a", "_law_b"] (sp_Lmade T)) (G_Lkept_right : FnG P w K mg base CX0 1 T.f_Lkept_right T.fd_Lkept_right ["_law_made_here", "_law_a", "_law_b"] (sp_Lkept T)) (G_Lwhich : FnG P w K mg base CX0 1 T.f_Lwhich T.fd_Lwhich ["_law_e"] (sp_Lwhich T)) (G_Ltops : FnG P w K mg base CX0 1 T.f_Ltops T.fd_Ltops ["_law_e"] (sp_Ltops T)) (G_Lcaught : FnG P w K mg base CX0 1 T.f_Lcaught T.fd_Lcaught ["_law_a", "_law_b", "_law_way"] (sp_Lcaught K)) : FnG P w K mg base CX0 3 T.f_Lright T.fd_Lright ["_law_pot_here"] sp_Lright := by
  skip
  refine okG T.F_Lright sc_Lright (fun vs H Q E h => ?_) (fun cdv A outer s H vs Q E gd hr h => ?_)
  · obtain ⟨_, rfl, _⟩ := h
    all_goals rfl
  · obtain ⟨a, rfl, hp, q⟩ := h
    refine ⟨_, (pss_cons (ps_set (i := 1) sc_Lright.nd rfl (Or.inl rfl) (pe_lst (pa_cons pe_non (pa_cons pe_int (pa_cons pe_int (pa_cons pe_int (pa_cons pe_bl (pa_cons pe_bl (pa_cons pe_str (pa_cons pe_str (pa_cons pe_str (pa_cons (pe_tupX (pa_cons pe_int (pa_cons pe_str pa_nil))) (pa_cons (pe_tupX pa_nil) (pa_cons (pe_lst (pa_cons pe_int pa_nil)) (pa_cons (pe_disp (pps_cons pe_str (pe_lst (pa_cons pe_int pa_nil)) pps_nil) rfl rfl (by simp) (by simp)) (pa_cons (pe_op op_sub pe_int pe_int) (pa_cons (pe_op op_pow pe_int pe_int) (pa_cons (pe_tupX (pa_cons pe_str (pa_cons pe_int (pa_cons pe_int pa_nil)))) pa_nil)))))))))))))))))) (pss_cons (ps_set (i := 2) sc_Lright.nd rfl (Or.inl rfl) (pe_op op_cat (pe_op op_cat (pe_op op_rep (pe_lst (pa_cons (pe_lst (pa_cons pe_int (pa_cons pe_int pa_nil))) pa_nil)) pe_int) (pe_op op_rep (pe_lst (pa_cons (pe_lst (pa_cons pe_int (pa_cons pe_int pa_nil))) pa_nil)) pe_int)) (pe_lst (pa_cons (pe_lst (pa_cons pe_int (pa_cons pe_int pa_nil))) pa_nil)))) (pss_cons (ps_for PassesOwn.never rfl (pi_range1 (by rfl) T.z_range (pa_cons pe_int pa_nil)) (pg_name (i := 3) sc_Lright.nd rfl (Or.inl rfl) (Or.inr rfl)) (pss_cons (ps_asg (pe_tupX (pa_cons (pc gd G_Lpick (hr.mono (by decide)) (by rfl) T.m_Lpick T.F_Lpick.kp T.b_Lpick .nil pass0 (pa_cons (pv 0) (pa_cons (pv 1) pa_nil))) (pa_cons (pc gd G_Lpick (hr.mono (by decide)) (by rfl) T.m_Lpick T.F_Lpick.kp T.b_Lpick .nil pass0 (pa_cons (pv 0) (pa_cons (pv 1) pa_nil))) pa_nil))) (pg_tup rfl (pgs_cons (pg_name (i := 4) sc_Lright.nd rfl (Or.inr rfl) (Or.inl rfl)) (pgs_cons (pg_name (i := 5) sc_Lright.nd rfl (Or.inr rfl) (Or.inl rfl)) pgs_nil)))) (pss_cons (ps_for PassesOwn.never rfl (pi_list (pe_lst (pa_cons (pc gd G_Lmade (hr.mono (by decide)) (by rfl) T.m_Lmade T.F_Lmade.kp T.b_Lmade .nil pass0 (pa_cons (pv 4) (pa_cons (pv 5) pa_nil))) (pa_cons (pc gd G_Lnamed (hr.mono (by decide)) (by rfl) T.m_Lnamed T.F_Lnamed.kp T.b_Lnamed .nil pass0 (pa_cons (pv 4) (pa_cons (pv 5) pa_nil))) pa_nil)))) (pg_name (i := 6) sc_Lright.nd rfl (Or.inl rfl) (Or.inr rfl)) (pss_cons (ps_if ((pw_or (pt_not (pt_val (pc gd G_Lkept_right (hr.mono (by decide)) (by rfl) T.m_Lkept_right T.F_Lkept_right.kp T.b_Lkept_right .nil pass0 (pa_cons (pv 6) (pa_cons (pv 4) (pa_cons (pv 5) pa_nil)))))) (pw_or1 (pt_cmpR (op_neD (roomU hr)) (pe_lc (own := [("_law_e", 7)]) (g := gName 7) rfl sc_Lright.nd (pi_list (pv 6)) (blkOk_by (N := N_Lright) (sc := defScope s_Lright) (by decide +kernel)) (fun _ _ _ _ _ => (pg_name (i := 7) sc_Lright.nd rfl (Or.inl rfl) (Or.inr rfl))) (fun _ _ _ _ _ => pts_nil) (fun _ _ _ _ _ => (pc gd G_Lwhich (hr.mono (by decide)) (by rfl) T.m_Lwhich T.F_Lwhich.kp T.b_Lwhich .nil pass0 (pa_cons (pv 7) pa_nil)))) (pe_lc (own := [("_law_at", 9)]) (g := gName 9) rfl sc_Lright.nd (pi_range1 (by rfl) T.z_range (pa_cons pe_int pa_nil)) (blkOk_by (N := N_Lright) (sc := defScope s_Lright) (by decide +kernel)) (fun _ _ _ _ _ => (pg_name (i := 9) sc_Lright.nd rfl (Or.inl rfl) (Or.inr rfl))) (fun _ _ _ _ _ => pts_nil) (fun _ _ _ _ _ => (pe_lst (pa_cons (pv 9) pa_nil)))) (nomark _))))).pt (pss_one (ps_ret pe_bl)) pss_nil) (pss_one (ps_if (pt_cmpR (op_neD (roomU hr)) (pe_lc (own := [("_law_e", 7)]) (g := gName 7) rfl sc_Lright.nd (pi_list (pv 6)) (blkOk_by (N := N_Lright) (sc := defScope s_Lright) (by decide +kernel)) (fun _ _ _ _ _ => (pg_name (i := 7) sc_Lright.nd rfl (Or.inl rfl) (Or.inr rfl))) (fun _ _ _ _ _ => pts_nil) (fun _ _ _ _ _ => (pc gd G_Ltops (hr.mono (by decide)) (by rfl) T.m_Ltops T.F_Ltops.kp T.b_Ltops .nil pass0 (pa_cons (pv 7) pa_nil)))) (pv 2) (nomark _)) (pss_one (ps_ret pe_bl)) pss_nil)))) (pss_one (ps_if (pt_not (pt_val (pe_callB (cr_all rfl) (by rfl) T.z_all boot_all (pa_cons (pe_lc (own := [("_law_way", 8)]) (g := gName 8) rfl sc_Lright.nd (pi_range1 (by rfl) T.z_range (pa_cons pe_int pa_nil)) (blkOk_by (N := N_Lright) (sc := defScope s_Lright) (by decide +kernel)) (fun _ _ _ _ _ => (pg_name (i := 8) sc_Lright.nd rfl (Or.inl rfl) (Or.inr rfl))) (fun _ _ _ _ _ => pts_nil) (fun _ _ _ _ _ => (pc gd G_Lcaught (hr.mono (by decide)) (by rfl) T.m_Lcaught T.F_Lcaught.kp T.b_Lcaught .nil pass0 (pa_cons (pv 4) (pa_cons (pv 5) (pa_cons (pv 8) pa_nil)))))) pa_nil)))) (pss_one (ps_ret pe_bl)) pss_nil))))) (pss_one (ps_ret pe_bl))))), ?_⟩
    have c0 : ∀ {σ : L2.St} {H : Hp} {v : V} {d : PyData}, (∀ G, Dx K G v d) → EvH K a (tC v) σ H d := fun h => h_c ev_c h
    have args : ∀ σ : L2.St, EvHA K a _ σ H anyD := fun σ => (ha_cons (c0 fun _ => .non) (ha_cons (c0 fun _ => .int _) (ha_cons (c0 fun _ => .int _) (ha_cons (c0 fun _ => .int _) (ha_cons (c0 fun _ => .bl _) (ha_cons (c0 fun _ => .bl _) (ha_cons (c0 fun _ => .str _) (ha_cons (c0 fun _ => .str _) (ha_cons (c0 fun _ => .str _) (ha_cons (h_tup hp (ha_cons (c0 fun _ => .int _) (ha_cons (c0 fun _ => .str _) ha_nil)) (by decide)) (ha_cons (h_tup hp ha_nil (by decide)) (ha_cons (h_lst hp (ha_cons (c0 fun _ => .int _) ha_nil) (by decide)) (ha_cons (h_dict hp) (ha_cons (h_c (v := .int (0 - 1)) (ev_op ev_c ev_c (rv_I0 (g := fun i j => .int (i - j)) (i := 0) (j := 1))) fun _ => .int _) (ha_cons (h_c (v := .int (10 ^ (39 : Int).toNat)) (ev_op ev_c ev_c (rv_I (C := CPow) (g := fun i j => .int (i ^ j.toNat)) (i := 10) (j := 39) ⟨by decide, by decide, by decide⟩)) fun _ => .int _) (ha_cons (h_tup hp (ha_cons (c0 fun _ => .str _) (ha_cons (c0 fun _ => .int _) (ha_cons (c0 fun _ => .int _) ha_nil))) (by decide)) ha_nil))))))))))))))))
    refine q_asgR (lst_raw (args _ H (Ex.refl H) _ fun xs H1 e1 hxs => ⟨by rw [← hxs.len, sizeLine_eq]; decide, fun ps hps => ?_⟩))
    have lx : xs.length = 16 := hxs.len.symm
    have x2 : Ex H (upd H1 ps (.lst xs)) := e1.trans (Ex.new hps)
    have hp2 : PotAt (upd H1 ps (.lst xs)) a := hp.ex x2
    have nps : ps ≠ a := (hp.ex e1).ne hps
    have d2 : DxAll K (hole a (upd H1 ps (.lst xs))) xs anyD := DxAll.ex (hole_mono (ExB.of (Ex.new hps))) hxs
    have h2 : (upd H1 ps (.lst xs)) ps = some (.lst xs) := upd_same
    show tSeq _ _ _ [some (.ref a), some (.ref ps), none, none, none, none, none, none, none, none] (upd H1 ps (.lst xs))
    generalize upd H1 ps (.lst xs) = H2 at x2 hp2 d2 h2 ⊢
    have two : ∀ {G : Hp} {x y : Nat}, EvL (tLst (tCons (tC (.int (x : Int))) (tCons (tC (.int (y : Int))) tNil))) [some (.ref a), some (.ref ps), none, none, none, none, none, none, none, none] G ([x, y].map nV) := el_lst (ea_cons ev_c (ea_cons ev_c ea_nil)) (by show 2 ≤ 100000; omega)
    refine q_asgR (enn_cat (enn_cat (enn_rep (n := 19) (enn_one (two (x := 0) (y := 3))) (by omega)) (enn_rep (n := 19) (enn_one (two (x := 1) (y := 4))) (by omega)) (by decide)) (enn_one (two (x := 2) (y := 5))) (by decide) H2 (Ex.refl H2) _ fun po zs H3 npo e3 h3 r3 => ?_)
    rw [owed_eq] at r3
    have hp3 : PotAt H3 a := hp2.ex e3
    have npa : po ≠ a := hp2.ne npo
    have k3 : ∀ {G : Hp}, ExB a H3 G → ∀ {v : V}, v ∈ xs → ∃ d ∈ anyD, Dx K G v d := fun x v hv => by
      obtain ⟨d, hd, z⟩ := dx_mem d2 hv
      exact ⟨d, hd, z.ex ((hole_mono (ExB.of e3)).trans (hole_exB x))⟩
    show tSeq _ _ _ [some (.ref a), some (.ref ps), some (.ref po), none, none, none, none, none, none, none] H3
    refine q_forR1 (n := 3) (ea_cons ev_c ea_nil) (by omega) (fun i σ' G => ∃ x3 x4 x5 x6, σ' = [some (.ref a), some (.ref ps), some (.ref po), x3, x4, x5, x6, none, none, none] ∧ ExB a H3 G ∧ PotAt G a) (fun G g => ⟨_, _, _, _, rfl, ExB.of g, hp3.ex g⟩) (fun i σ' G hi z => ?_) (fun σ' G z => ?_)
    · obtain ⟨x3, x4, x5, x6, rfl, xG, pG⟩ := z
      show tSeq _ _ _ [some (.ref a), some (.ref ps), some (.ref po), some (nV i), x4, x5, x6, none, none, none] G
      have pick : ∀ {F : Hp} {Q' : VK} {Er : XK}, ExB a H3 F → PotAt F a → (∀ F' v, ExB a F F' → PotAt F' a → v ∈ xs → Q' v F') → tCall sp_Lpick [] Er (tCons (tVar 0) (tCons (tVar 1) tNil)) [some (.ref a), some (.ref ps), some (.ref po), some (nV i), x4, x5, x6, none, none, none] F Q' := fun {F Q' Er} xF pF k => call_raw0 (cons_ev (ev_var rfl) fun F1 f1 => cons_ev (ev_var rfl) fun F2 f2 => nil_raw ⟨a, ps, xs, rfl, pF.ex (f1.trans f2), nps, (f1.trans f2) _ _ (xF _ _ nps (e3 _ _ h2)), by omega, by omega, fun F' v x p m => k F' v ((ExB.of (f1.trans f2)).trans x) p m⟩)
      refine q_asgR (tupx_rawX (cons_rw (pick xG pG fun G1 v1 y1 p1 m1 => cons1_raw (pick (xG.trans y1) p1 fun G2 v2 y2 p2 m2 => ⟨sz_of (by show 2 ≤ 100000; omega), fun t ob ht _ => ret_raw2 upd_same ?_⟩))))
      have xT : ExB a H3 (upd G2 t (.frz ob (.tup [v1, v2]))) := ((xG.trans y1).trans y2).trans (ExB.of (Ex.new ht))
      have pT : PotAt (upd G2 t (.frz ob (.tup [v1, v2]))) a := p2.ex (Ex.new ht)
      show tSeq _ _ _ [some (.ref a), some (.ref ps), some (.ref po), some (nV i), some v1, some v2, x6, none, none, none] (upd G2 t (.frz ob (.tup [v1, v2])))
      generalize upd G2 t (.frz ob (.tup [v1, v2])) = G3 at xT pT ⊢
      obtain ⟨da, ma, dva⟩ := k3 xT m1
      obtain ⟨db, mb, dvb⟩ := k3 xT m2
      have sa := any_sm ma
      have sb := any_sm mb
      have owed : G3 po = some (.lst zs) := xT _ _ npa h3
      have owr : NNF H2 po G3 zs ((List.range 39).map owedN) := r3.exB hp2 xT
      refine q_forRaw (lst_raw (cons_rw (call_raw0 (cons_ev (ev_var rfl) fun F1 f1 => cons_ev (ev_var rfl) fun F2 f2 => nil_raw ⟨v1, v2, rfl, fun G4 ma1 yy1 nm1 g4 hm1 r41 => cons1_raw (call_raw0 (cons_ev (ev_var rfl) fun F3 f3 => cons_ev (ev_var rfl) fun F4 f4 => nil_raw ⟨v1, v2, rfl, fun G5 ma2 yy2 nm2 g5 hm2 r52 => ⟨sz_of (by show 2 ≤ 100000; omega), fun pl hpl => ?_⟩⟩))⟩))))
      have z5 : Ex G4 G5 := (f3.trans f4).trans g5
      have z6 : Ex G3 (upd G5 pl (.lst [.ref ma1, .ref ma2])) := (((f1.trans f2).trans g4).trans z5).trans (Ex.new hpl)
      have b1 : (upd G5 pl (.lst [.ref ma1, .ref ma2])) ma1 = some (.lst yy1) := (Ex.new hpl) _ _ (z5 _ _ hm1)
      have b2 : (upd G5 pl (.lst [.ref ma1, .ref ma2])) ma2 = some (.lst yy2) := (Ex.new hpl) _ _ hm2
      have c1 : ErsAt (upd G5 pl (.lst [.ref ma1, .ref ma2])) yy1 (errQ T v1 v2) := r41.ex (z5.trans (Ex.new hpl))
      have c2 : ErsAt (upd G5 pl (.lst [.ref ma1, .ref ma2])) yy2 (errQ T v1 v2) := r52.ex (Ex.new hpl)
      have hpl6 : (upd G5 pl (.lst [.ref ma1, .ref ma2])) pl = some (.lst [.ref ma1, .ref ma2]) := upd_same
      generalize upd G5 pl (.lst [.ref ma1, .ref ma2]) = G6 at z6 b1 b2 c1 c2 hpl6 ⊢
      refine ⟨pl, rfl, ⟨_, sq_of hpl6⟩, forRaw (xs := [.ref ma1, .ref ma2]) (fun _ σ' F => ∃ x6, σ' = [some (.ref a), some (.ref ps), some (.ref po), some (nV i), some v1, some v2, x6, none, none, none] ∧ Ex G6 F) ⟨_, rfl, Ex.refl _⟩ (fun _ _ F _ z => ?_) (fun k x σ' F hx z => ?_) (fun σ' F z => ?_)⟩
      · obtain ⟨_, _, z⟩ := z
        exact sq_of (z _ _ hpl6)
      · obtain ⟨x6', rfl, z⟩ := z
        obtain ⟨m, yy, rfl, hm, rm⟩ : ∃ m yy, x = .ref m ∧ F m = some (.lst yy) ∧ ErsAt F yy (errQ T v1 v2) := by
          cases k with
          | zero => exact ⟨ma1, yy1, (Option.some.inj hx).symm, z _ _ b1, c1.ex z⟩
          | succ k =>
            cases k with
            | zero => exact ⟨ma2, yy2, (Option.some.inj hx).symm, z _ _ b2, c2.ex z⟩
            | succ k => exact absurd hx (by simp)
        have ly : yy.length = 39 := rm.len
        have zF := z6.trans z
        show tSeq _ _ _ [some (.ref a), some (.ref ps), some (.ref po), some (nV i), some v1, some v2, some (.ref m), none, none, none] F
        have lw : ∀ F', Ex F F' → EvNN (tLc (iList K (tVar 6)) (gName 7) tYes (tCall (sp_Lwhich T) [] E0 (tCons (tVar 7) tNil)) [7]) [some (.ref a), some (.ref ps), some (.ref po), some (nV i), some v1, some v2, some (.ref m), none, none, none] F' ((List.range 39).map fun i => [i]) := fun F' f => by
          have := enn_lcL (K := K) (te := tCall (sp_Lwhich T) [] E0 (tCons (tVar 7) tNil)) (tl := tVar 6) (σ := [some (.ref a), some (.ref ps), some (.ref po), some (nV i), some v1, some v2, some (.ref m), none, none, none]) (H := F') (j := 7) (vs := [7]) (fun i => [i]) (ev_var rfl) (f _ _ hm) (by omega) (fun _ => rfl) (fun k x F1 f1 hk => by
            obtain ⟨e, fs, rfl, hk39, hE⟩ := err_at (rm.ex (f.trans f1)) hk
            exact el_call (ea_cons (ev_var rfl) ea_nil) fun F2 f2 Q2 q2 _ => ⟨e, k, fs, rfl, hk39, hE.ex f2, fun p F3 hp3 f3 h3 => q2 p F3 hp3 f3 h3⟩)
          rwa [ly] at this
        have lt : ∀ F', Ex F F' → EvNN (tLc (iList K (tVar 6)) (gName 7) tYes (tCall (sp_Ltops T) [] E0 (tCons (tVar 7) tNil)) [7]) [some (.ref a), some (.ref ps), some (.ref po), some (nV i), some v1, some v2, some (.ref m), none, none, none] F' ((List.range 39).map owedN) := fun F' f => by
          have := enn_lcL (K := K) (te := tCall (sp_Ltops T) [] E0 (tCons (tVar 7) tNil)) (tl := tVar 6) (σ := [some (.ref a), some (.ref ps), some (.ref po), some (nV i), some v1, some v2, some (.ref m), none, none, none]) (H := F') (j := 7) (vs := [7]) owedN (ev_var rfl) (f _ _ hm) (by omega) (fun _ => rfl) (fun k x F1 f1 hk => by
            obtain ⟨e, fs, rfl, hk39, hE⟩ := err_at (rm.ex (f.trans f1)) hk
            exact el_call (ea_cons (ev_var rfl) ea_nil) fun F2 f2 Q2 q2 _ => ⟨e, k, fs, rfl, hk39, hE.ex f2, fun p F3 hp3 f3 h3 => q2 p F3 hp3 f3 h3⟩)
          rwa [ly] at this
        refine q_when (b := false) (et_or (a := false) (b := false) (et_not (a := true) (et_B (ev_call (ea_cons (ev_var rfl) (ea_cons (ev_var rfl) (ea_cons (ev_var rfl) ea_nil))) fun F2 f2 Q2 q2 _ => ⟨m, v1, v2, yy, da, db, rfl, f2 _ _ hm, rm.ex f2, dva.ex (zF.trans f2), dvb.ex (zF.trans f2), sa, sb, q2⟩))) fun _ => et_test (ev_nnne (lw F (Ex.refl F)) (enn_lcR (n := 39) (fun i => [i]) (ea_cons (ev_is ev_c rfl) ea_nil) (by omega) (fun _ => rfl) fun k F2 f2 _ => el_lst (ea_cons (ev_var rfl) ea_nil) (by show 1 ≤ 100000; omega)) sh_which)) (fun z => nomatch z) fun _ F1 f1 => ?_
        exact s_when (b := false) (et_test (ev_nnneV (G0 := H2) (lt F1 f1) (ev_var rfl) ((zF.trans f1) _ _ owed) (owr.exB hp2 (ExB.of (zF.trans f1))) sh_owed)) (fun z => nomatch z) fun _ F2 f2 => ⟨_, rfl, (z.trans f1).trans f2⟩
      · obtain ⟨x6', rfl, z⟩ := z
        have zF := z6.trans z
        refine s_when (b := false) (et_not (a := true) (et_B (ev_is (ev_allB (bs := List.replicate 3 true) (el_is (el_lcR1 (n := 3) (fun _ => true) (fun _ => .bl true) (ea_cons ev_c ea_nil) (by omega) (fun _ => rfl) (fun _ _ _ _ => et_yes) fun k F1 f1 hk _ => ev_call (ea_cons (ev_var rfl) (ea_cons (ev_var rfl) (ea_cons (ev_var rfl) ea_nil))) fun F2 f2 Q2 q2 _ => ⟨v1, v2, k, da, rfl, by omega, dva.ex ((zF.trans f1).trans f2), sa, q2⟩) (by rw [given_rep]; rfl))) (cbl (all_rep 3))))) (fun z => nomatch z) fun _ F1 f1 => ?_
        exact ⟨_, _, _, _, rfl, xT.trans (ExB.of (zF.trans f1)), pT.ex (zF.trans f1)⟩
    · obtain ⟨x3, x4, x5, x6, rfl, xG, pG⟩ := z
      exact s_ret ev_c fun F f => q F (((ExB.of (x2.trans e3)).trans xG).trans (ExB.of f))
theorem ok_law (T : Txt K mg w) (G_Lright : FnG P w K mg base CX0 3 T.f_Lright T.fd_Lright ["_law_pot_here"] sp_Lright) (G_Lpot : FnG P w K mg base CX0 1 T.f_Lpot T.fd_Lpot ["_law_script", "_law_k"] (sp_Lpot K)) : FnG P w K mg base CX0 4 T.f_law T.fd_law ["_law_script"] (sp_law K) := by
  skip
  refine okG T.F_law sc_law (fun vs H Q E h => ?_) (fun cdv A outer s H vs Q E gd hr h => ?_)
  · obtain ⟨_, _, rfl, _⟩ := h
    all_goals rfl
  · obtain ⟨a, ns, rfl, hs, hl, q⟩ := h
    refine ⟨_, (pss_one (ps_ret (pe_callB (cr_all rfl) (by rfl) T.z_all boot_all (pa_cons (pe_lc (own := [("_law_k", 1)]) (g := gName 1) rfl sc_law.nd (pi_range1 (by rfl) T.z_range (pa_cons (pe_callB (call_max2 rfl) (by rfl) T.z_max boot_max (pa_cons pe_int (pa_cons (pe_callB (call_min2 rfl) (by rfl) T.z_min boot_min (pa_cons pe_int (pa_cons (pe_callB call_len_seq (by rfl) T.z_len PySem.boot_len (pa_cons (pv 0) pa_nil)) pa_nil))) pa_nil))) pa_nil)) (blkOk_by (N := N_law) (sc := defScope s_law) (by decide +kernel)) (fun _ _ _ _ _ => (pg_name (i := 1) sc_law.nd rfl (Or.inl rfl) (Or.inr rfl))) (fun _ _ _ _ _ => pts_nil) (fun _ _ _ _ _ => (pc gd G_Lright (hr.mono (by decide)) (by rfl) T.m_Lright T.F_Lright.kp T.b_Lright .nil pass0 (pa_cons (pc gd G_Lpot (hr.mono (by decide)) (by rfl) T.m_Lpot T.F_Lpot.kp T.b_Lpot .nil pass0 (pa_cons (pv 0) (pa_cons (pv 1) pa_nil))) pa_nil)))) pa_nil)))), ?_⟩
    have hn : ∃ n : Nat, n ≤ 3 ∧ Ev (tCB (fun xs H Q => ∃ i j, xs = [V.int i, V.int j] ∧ Q (.int (if j > i then j else i)) H) (tCons (tC (.int 1)) (tCons (tCB (fun xs H Q => ∃ i j, xs = [V.int i, V.int j] ∧ Q (.int (if j < i then j else i)) H) (tCons (tC (.int 3)) (tCons (tCB (rLenS K) (tCons (tVar 0) tNil)) tNil))) tNil))) [some (.ref a), none] H (nV n) := by
      refine ⟨if ns.length < 3 then max 1 ns.length else 3, by split <;> omega, ev_is (ev_cb (ea_cons ev_c (ea_cons (ev_cb (ea_cons ev_c (ea_cons (ev_cb (ea_cons (ev_var rfl) ea_nil) (rc_lenL hs)) ea_nil)) rc_min2) ea_nil)) rc_max2) (congrArg V.int ?_)⟩
      rw [List.length_map]
      split <;> split <;> split <;> omega
    obtain ⟨n, hn2, hev⟩ := hn
    refine s_ret (v := .bl true) (ev_is (ev_allB (bs := List.replicate n true) (el_is (el_lcR1 (n := (n : Int)) (fun _ => true) (fun _ => .bl true) (ea_cons hev ea_nil) (by omega) (fun _ => rfl) (fun i H3 e3 hi => et_yes) (fun i H3 e3 hi _ => ev_rightPot (ev_var rfl) (ev_var rfl) (ex_l e3 hs) hl (by omega))) (by
      rw [given_rep, Int.toNat_natCast, List.map_replicate]))) (cbl (all_rep n))) fun H2 e2 => q H2
end
end My
namespace My
open PySem PySem.Spec PyProof.Rows L2 GL Evl StX SkE
section
variable {P : Program} {w : World} {K : PySem.W.Frag} {mg : Str → Option Value} {base : Heap}
theorem ok_text (T : Txt K mg w) : FnG P w K mg base CX0 4 T.f_law T.fd_law ["_law_script"] (sp_law K) := by
  have G_Ldraw : FnG P w K mg base CX0 1 T.f_Ldraw T.fd_Ldraw ["_law_pot_here", "_law_sides"] sp_Ldraw := My.ok_Ldraw T 
  have G_Lpick : FnG P w K mg base CX0 2 T.f_Lpick T.fd_Lpick ["_law_pot_here", "_law_some"] sp_Lpick := My.ok_Lpick T G_Ldraw
  have G_Lmade : FnG P w K mg base CX0 1 T.f_Lmade T.fd_Lmade ["_law_a", "_law_b"] (sp_Lmade T) := My.ok_Lmade T 
  have G_Lnamed : FnG P w K mg base CX0 1 T.f_Lnamed T.fd_Lnamed ["_law_a", "_law_b"] (sp_Lmade T) := My.ok_Lnamed T 
  have G_Lkept_right : FnG P w K mg base CX0 1 T.f_Lkept_right T.fd_Lkept_right ["_law_made_here", "_law_a", "_law_b"] (sp_Lkept T) := My.ok_Lkept_right T 
  have G_Lwhich : FnG P w K mg base CX0 1 T.f_Lwhich T.fd_Lwhich ["_law_e"] (sp_Lwhich T) := My.ok_Lwhich T 
  have G_Ltops : FnG P w K mg base CX0 1 T.f_Ltops T.fd_Ltops ["_law_e"] (sp_Ltops T) := My.ok_Ltops T 
  have G_Lcaught : FnG P w K mg base CX0 1 T.f_Lcaught T.fd_Lcaught ["_law_a", "_law_b", "_law_way"] (sp_Lcaught K) := My.ok_Lcaught T 
  have G_Lright : FnG P w K mg base CX0 3 T.f_Lright T.fd_Lright ["_law_pot_here"] sp_Lright := My.ok_Lright T G_Lpick G_Lmade G_Lnamed G_Lkept_right G_Lwhich G_Ltops G_Lcaught
  have G_Lpot : FnG P w K mg base CX0 1 T.f_Lpot T.fd_Lpot ["_law_script", "_law_k"] (sp_Lpot K) := My.ok_Lpot T 
  have G_law : FnG P w K mg base CX0 4 T.f_law T.fd_law ["_law_script"] (sp_law K) := My.ok_law T G_Lright G_Lpot
  exact G_law
end
theorem law_start {K : PySem.W.Frag} {H : Hp} {a : Addr} {ns : List Int} (h : SqL K H a (ns.map V.int)) (hl : ns.length ≤ 63) : sp_law K [.ref a] H (fun v _ => v = .bl true) fun _ _ _ => False := ⟨a, ns, rfl, h, hl, fun _ => rfl⟩
theorem all_mk {l : PySem.W.OpenLaw} {w : World} {K : PySem.W.Frag} {h : Heap} {mg : Str → Option Value} {fa : Addr} (X : K.In h) (G : h.Ns mainGlobals mg) (hfa : mg "law" = some (.ref fa))
    {f1 f2 f3 f4 f5 f6 f7 f8 f9 f10 f11 cx1 ix1 cx2 ix2 cx3 ix3 cx4 ix4 cx5 ix5 cx6 ix6 cx7 ix7 cx8 ix8 cx9 ix9 cx10 ix10 cx11 ix11 cx12 ix12 cx13 ix13 cx14 ix14 cx15 ix15 cx16 ix16 cx17 ix17 cx18 ix18 cx19 ix19 cx20 ix20 cx21 ix21 cx22 ix22 cx23 ix23 cx24 ix24 cx25 ix25 cx26 ix26 cx27 ix27 cx28 ix28 cx29 ix29 cx30 ix30 cx31 ix31 cx32 ix32 cx33 ix33 cx34 ix34 cx35 ix35 cx36 ix36 cx37 ix37 cx38 ix38 cx39 ix39 cb_LimitError cb_StandError cb_WayError : Addr} {od1 an1 od2 an2 od3 an3 od4 an4 od5 an5 od6 an6 od7 an7 od8 an8 od9 an9 od10 an10 od11 an11 xod1 xan1 xod2 xan2 xod3 xan3 xod4 xan4 xod5 xan5 xod6 xan6 xod7 xan7 xod8 xan8 xod9 xan9 xod10 xan10 xod11 xan11 xod12 xan12 xod13 xan13 xod14 xan14 xod15 xan15 xod16 xan16 xod17 xan17 xod18 xan18 xod19 xan19 xod20 xan20 xod21 xan21 xod22 xan22 xod23 xan23 xod24 xan24 xod25 xan25 xod26 xan26 xod27 xan27 xod28 xan28 xod29 xan29 xod30 xan30 xod31 xan31 xod32 xan32 xod33 xan33 xod34 xan34 xod35 xan35 xod36 xan36 xod37 xan37 xod38 xan38 xod39 xan39 : Option Addr} {sl1 sl2 sl3 sl4 sl5 sl6 sl7 sl8 sl9 sl10 sl11 xsl1 xsl2 xsl3 xsl4 xsl5 xsl6 xsl7 xsl8 xsl9 xsl10 xsl11 xsl12 xsl13 xsl14 xsl15 xsl16 xsl17 xsl18 xsl19 xsl20 xsl21 xsl22 xsl23 xsl24 xsl25 xsl26 xsl27 xsl28 xsl29 xsl30 xsl31 xsl32 xsl33 xsl34 xsl35 xsl36 xsl37 xsl38 xsl39 : Array (Option Value)} {oc1 kV1 dc1 pm1 cd1 ct1 oc2 kV2 dc2 pm2 cd2 ct2 oc3 kV3 dc3 pm3 cd3 ct3 oc4 kV4 dc4 pm4 cd4 ct4 oc5 kV5 dc5 pm5 cd5 ct5 oc6 kV6 dc6 pm6 cd6 ct6 oc7 kV7 dc7 pm7 cd7 ct7 oc8 kV8 dc8 pm8 cd8 ct8 oc9 kV9 dc9 pm9 cd9 ct9 oc10 kV10 dc10 pm10 cd10 ct10 oc11 kV11 dc11 pm11 cd11 ct11 xoc1 xdc1 xpm1 xcd1 xct1 xoc2 xdc2 xpm2 xcd2 xct2 xoc3 xdc3 xpm3 xcd3 xct3 xoc4 xdc4 xpm4 xcd4 xct4 xoc5 xdc5 xpm5 xcd5 xct5 xoc6 xdc6 xpm6 xcd6 xct6 xoc7 xdc7 xpm7 xcd7 xct7 xoc8 xdc8 xpm8 xcd8 xct8 xoc9 xdc9 xpm9 xcd9 xct9 xoc10 xdc10 xpm10 xcd10 xct10 xoc11 xdc11 xpm11 xcd11 xct11 xoc12 xdc12 xpm12 xcd12 xct12 xoc13 xdc13 xpm13 xcd13 xct13 xoc14 xdc14 xpm14 xcd14 xct14 xoc15 xdc15 xpm15 xcd15 xct15 xoc16 xdc16 xpm16 xcd16 xct16 xoc17 xdc17 xpm17 xcd17 xct17 xoc18 xdc18 xpm18 xcd18 xct18 xoc19 xdc19 xpm19 xcd19 xct19 xoc20 xdc20 xpm20 xcd20 xct20 xoc21 xdc21 xpm21 xcd21 xct21 xoc22 xdc22 xpm22 xcd22 xct22 xoc23 xdc23 xpm23 xcd23 xct23 xoc24 xdc24 xpm24 xcd24 xct24 xoc25 xdc25 xpm25 xcd25 xct25 xoc26 xdc26 xpm26 xcd26 xct26 xoc27 xdc27 xpm27 xcd27 xct27 xoc28 xdc28 xpm28 xcd28 xct28 xoc29 xdc29 xpm29 xcd29 xct29 xoc30 xdc30 xpm30 xcd30 xct30 xoc31 xdc31 xpm31 xcd31 xct31 xoc32 xdc32 xpm32 xcd32 xct32 xoc33 xdc33 xpm33 xcd33 xct33 xoc34 xdc34 xpm34 xcd34 xct34 xoc35 xdc35 xpm35 xcd35 xct35 xoc36 xdc36 xpm36 xcd36 xct36 xoc37 xdc37 xpm37 xcd37 xct37 xoc38 xdc38 xpm38 xcd38 xct38 xoc39 xdc39 xpm39 xcd39 xct39 : Value}
    (a1 : PySem.W.nsIn K mainGlobals "_law_pot" = some (some (.ref f1)))
    (l1 : K.lookup f1 = some ⟨oc1, od1, .func (PySem.W.fnOf "_law_pot" "_law_pot" (defArgs s_Lpot) (defBody s_Lpot) (defScope s_Lpot) .none kV1 dc1 pm1 an1 cd1 ct1), sl1⟩)
    (c1 : PySem.W.codeIn K cd1 "_law_pot" = true)
    (k1 : PySem.W.keepIn K (.ref f1) = true)
    (a2 : PySem.W.nsIn K mainGlobals "_law_draw" = some (some (.ref f2)))
    (l2 : K.lookup f2 = some ⟨oc2, od2, .func (PySem.W.fnOf "_law_draw" "_law_draw" (defArgs s_Ldraw) (defBody s_Ldraw) (defScope s_Ldraw) .none kV2 dc2 pm2 an2 cd2 ct2), sl2⟩)
    (c2 : PySem.W.codeIn K cd2 "_law_draw" = true)
    (k2 : PySem.W.keepIn K (.ref f2) = true)
    (a3 : PySem.W.nsIn K mainGlobals "_law_pick" = some (some (.ref f3)))
    (l3 : K.lookup f3 = some ⟨oc3, od3, .func (PySem.W.fnOf "_law_pick" "_law_pick" (defArgs s_Lpick) (defBody s_Lpick) (defScope s_Lpick) .none kV3 dc3 pm3 an3 cd3 ct3), sl3⟩)
    (c3 : PySem.W.codeIn K cd3 "_law_pick" = true)
    (k3 : PySem.W.keepIn K (.ref f3) = true)
    (a4 : PySem.W.nsIn K mainGlobals "_law_made" = some (some (.ref f4)))
    (l4 : K.lookup f4 = some ⟨oc4, od4, .func (PySem.W.fnOf "_law_made" "_law_made" (defArgs s_Lmade) (defBody s_Lmade) (defScope s_Lmade) .none kV4 dc4 pm4 an4 cd4 ct4), sl4⟩)
    (c4 : PySem.W.codeIn K cd4 "_law_made" = true)
    (k4 : PySem.W.keepIn K (.ref f4) = true)
    (a5 : PySem.W.nsIn K mainGlobals "_law_named" = some (some (.ref f5)))
    (l5 : K.lookup f5 = some ⟨oc5, od5, .func (PySem.W.fnOf "_law_named" "_law_named" (defArgs s_Lnamed) (defBody s_Lnamed) (defScope s_Lnamed) .none kV5 dc5 pm5 an5 cd5 ct5), sl5⟩)
    (c5 : PySem.W.codeIn K cd5 "_law_named" = true)
    (k5 : PySem.W.keepIn K (.ref f5) = true)
    (a6 : PySem.W.nsIn K mainGlobals "_law_which" = some (some (.ref f6)))
    (l6 : K.lookup f6 = some ⟨oc6, od6, .func (PySem.W.fnOf "_law_which" "_law_which" (defArgs s_Lwhich) (defBody s_Lwhich) (defScope s_Lwhich) .none kV6 dc6 pm6 an6 cd6 ct6), sl6⟩)
    (c6 : PySem.W.codeIn K cd6 "_law_which" = true)
    (k6 : PySem.W.keepIn K (.ref f6) = true)
    (a7 : PySem.W.nsIn K mainGlobals "_law_tops" = some (some (.ref f7)))
    (l7 : K.lookup f7 = some ⟨oc7, od7, .func (PySem.W.fnOf "_law_tops" "_law_tops" (defArgs s_Ltops) (defBody s_Ltops) (defScope s_Ltops) .none kV7 dc7 pm7 an7 cd7 ct7), sl7⟩)
    (c7 : PySem.W.codeIn K cd7 "_law_tops" = true)
    (k7 : PySem.W.keepIn K (.ref f7) = true)
    (a8 : PySem.W.nsIn K mainGlobals "_law_kept_right" = some (some (.ref f8)))
    (l8 : K.lookup f8 = some ⟨oc8, od8, .func (PySem.W.fnOf "_law_kept_right" "_law_kept_right" (defArgs s_Lkept_right) (defBody s_Lkept_right) (defScope s_Lkept_right) .none kV8 dc8 pm8 an8 cd8 ct8), sl8⟩)
    (c8 : PySem.W.codeIn K cd8 "_law_kept_right" = true)
    (k8 : PySem.W.keepIn K (.ref f8) = true)
    (a9 : PySem.W.nsIn K mainGlobals "_law_caught" = some (some (.ref f9)))
    (l9 : K.lookup f9 = some ⟨oc9, od9, .func (PySem.W.fnOf "_law_caught" "_law_caught" (defArgs s_Lcaught) (defBody s_Lcaught) (defScope s_Lcaught) .none kV9 dc9 pm9 an9 cd9 ct9), sl9⟩)
    (c9 : PySem.W.codeIn K cd9 "_law_caught" = true)
    (k9 : PySem.W.keepIn K (.ref f9) = true)
    (a10 : PySem.W.nsIn K mainGlobals "_law_right" = some (some (.ref f10)))
    (l10 : K.lookup f10 = some ⟨oc10, od10, .func (PySem.W.fnOf "_law_right" "_law_right" (defArgs s_Lright) (defBody s_Lright) (defScope s_Lright) .none kV10 dc10 pm10 an10 cd10 ct10), sl10⟩)
    (c10 : PySem.W.codeIn K cd10 "_law_right" = true)
    (k10 : PySem.W.keepIn K (.ref f10) = true)
    (a11 : PySem.W.nsIn K mainGlobals "law" = some (some (.ref f11)))
    (l11 : K.lookup f11 = some ⟨oc11, od11, .func (PySem.W.fnOf "law" "law" (defArgs s_law) (defBody s_law) (defScope s_law) .none kV11 dc11 pm11 an11 cd11 ct11), sl11⟩)
    (c11 : PySem.W.codeIn K cd11 "law" = true)
    (k11 : PySem.W.keepIn K (.ref f11) = true)
    (xa1 : PySem.W.nsIn K mainGlobals "InvalidGroup" = some (some (.ref cx1)))
    (xi1 : PySem.W.excInitIn K cx1 bm_ValueError "ValueError.__new__" = true)
    (xo1 : PySem.W.excOver K cx1 bm_ValueError = true)
    (xs1 : PySem.W.findIn K (.ref cx1) "__setattr__" = some (some (.builtin "object.__setattr__")))
    (xg1 : PySem.W.findIn K (.ref cx1) "__getattribute__" = some (some (.builtin "BaseException.__getattribute__")))
    (xh1 : PySem.W.findIn K (.ref cx1) "__getattr__" = some none)
    (xc1 : PySem.W.findIn K (.ref cx1) "__init__" = some (some (.ref ix1)))
    (xf1 : PySem.W.isFn K (.ref ix1) = true)
    (xk1 : PySem.W.keepIn K (.ref cx1) = true)
    (xb1 : PySem.W.subIn K (.ref cx1) (.type "BaseException") = some true)
    (xt1 : PySem.W.typeIn K (.ref cx1) = some (.type "type"))
    (xd1 : PySem.W.hasDictIn K cx1 = true)
    (xl1 : K.lookup ix1 = some ⟨xoc1, xod1, .func (PySem.W.fnOf "__init__" "InvalidGroup.__init__" (defArgs s_E_InvalidGroup) (defBody s_E_InvalidGroup) (defScope s_E_InvalidGroup) .none .none xdc1 xpm1 xan1 xcd1 xct1), xsl1⟩)
    (xe1 : PySem.W.codeIn K xcd1 "InvalidGroup.__init__" = true)
    (xn1 : PySem.W.takerIn K cx1 "value" = some none)
    (xm1 : PySem.W.findIn K (.ref cx1) "value" = some none)
    (xa2 : PySem.W.nsIn K mainGlobals "InvalidParents" = some (some (.ref cx2)))
    (xi2 : PySem.W.excInitIn K cx2 bm_ValueError "ValueError.__new__" = true)
    (xo2 : PySem.W.excOver K cx2 bm_ValueError = true)
    (xs2 : PySem.W.findIn K (.ref cx2) "__setattr__" = some (some (.builtin "object.__setattr__")))
    (xg2 : PySem.W.findIn K (.ref cx2) "__getattribute__" = some (some (.builtin "BaseException.__getattribute__")))
    (xh2 : PySem.W.findIn K (.ref cx2) "__getattr__" = some none)
    (xc2 : PySem.W.findIn K (.ref cx2) "__init__" = some (some (.ref ix2)))
    (xf2 : PySem.W.isFn K (.ref ix2) = true)
    (xk2 : PySem.W.keepIn K (.ref cx2) = true)
    (xb2 : PySem.W.subIn K (.ref cx2) (.type "BaseException") = some true)
    (xt2 : PySem.W.typeIn K (.ref cx2) = some (.type "type"))
    (xd2 : PySem.W.hasDictIn K cx2 = true)
    (xl2 : K.lookup ix2 = some ⟨xoc2, xod2, .func (PySem.W.fnOf "__init__" "InvalidParents.__init__" (defArgs s_E_InvalidParents) (defBody s_E_InvalidParents) (defScope s_E_InvalidParents) .none .none xdc2 xpm2 xan2 xcd2 xct2), xsl2⟩)
    (xe2 : PySem.W.codeIn K xcd2 "InvalidParents.__init__" = true)
    (xn2 : PySem.W.takerIn K cx2 "position" = some none)
    (xm2 : PySem.W.findIn K (.ref cx2) "position" = some none)
    (xa3 : PySem.W.nsIn K mainGlobals "InvalidStruck" = some (some (.ref cx3)))
    (xi3 : PySem.W.excInitIn K cx3 bm_ValueError "ValueError.__new__" = true)
    (xo3 : PySem.W.excOver K cx3 bm_ValueError = true)
    (xs3 : PySem.W.findIn K (.ref cx3) "__setattr__" = some (some (.builtin "object.__setattr__")))
    (xg3 : PySem.W.findIn K (.ref cx3) "__getattribute__" = some (some (.builtin "BaseException.__getattribute__")))
    (xh3 : PySem.W.findIn K (.ref cx3) "__getattr__" = some none)
    (xc3 : PySem.W.findIn K (.ref cx3) "__init__" = some (some (.ref ix3)))
    (xf3 : PySem.W.isFn K (.ref ix3) = true)
    (xk3 : PySem.W.keepIn K (.ref cx3) = true)
    (xb3 : PySem.W.subIn K (.ref cx3) (.type "BaseException") = some true)
    (xt3 : PySem.W.typeIn K (.ref cx3) = some (.type "type"))
    (xd3 : PySem.W.hasDictIn K cx3 = true)
    (xl3 : K.lookup ix3 = some ⟨xoc3, xod3, .func (PySem.W.fnOf "__init__" "InvalidStruck.__init__" (defArgs s_E_InvalidStruck) (defBody s_E_InvalidStruck) (defScope s_E_InvalidStruck) .none .none xdc3 xpm3 xan3 xcd3 xct3), xsl3⟩)
    (xe3 : PySem.W.codeIn K xcd3 "InvalidStruck.__init__" = true)
    (xn3 : PySem.W.takerIn K cx3 "position" = some none)
    (xm3 : PySem.W.findIn K (.ref cx3) "position" = some none)
    (xa4 : PySem.W.nsIn K mainGlobals "InvalidKind" = some (some (.ref cx4)))
    (xi4 : PySem.W.excInitIn K cx4 bm_ValueError "ValueError.__new__" = true)
    (xo4 : PySem.W.excOver K cx4 bm_ValueError = true)
    (xs4 : PySem.W.findIn K (.ref cx4) "__setattr__" = some (some (.builtin "object.__setattr__")))
    (xg4 : PySem.W.findIn K (.ref cx4) "__getattribute__" = some (some (.builtin "BaseException.__getattribute__")))
    (xh4 : PySem.W.findIn K (.ref cx4) "__getattr__" = some none)
    (xc4 : PySem.W.findIn K (.ref cx4) "__init__" = some (some (.ref ix4)))
    (xf4 : PySem.W.isFn K (.ref ix4) = true)
    (xk4 : PySem.W.keepIn K (.ref cx4) = true)
    (xb4 : PySem.W.subIn K (.ref cx4) (.type "BaseException") = some true)
    (xt4 : PySem.W.typeIn K (.ref cx4) = some (.type "type"))
    (xd4 : PySem.W.hasDictIn K cx4 = true)
    (xl4 : K.lookup ix4 = some ⟨xoc4, xod4, .func (PySem.W.fnOf "__init__" "InvalidKind.__init__" (defArgs s_E_InvalidKind) (defBody s_E_InvalidKind) (defScope s_E_InvalidKind) .none .none xdc4 xpm4 xan4 xcd4 xct4), xsl4⟩)
    (xe4 : PySem.W.codeIn K xcd4 "InvalidKind.__init__" = true)
    (xn4 : PySem.W.takerIn K cx4 "value" = some none)
    (xm4 : PySem.W.findIn K (.ref cx4) "value" = some none)
    (xa5 : PySem.W.nsIn K mainGlobals "InvalidRow" = some (some (.ref cx5)))
    (xi5 : PySem.W.excInitIn K cx5 bm_ValueError "ValueError.__new__" = true)
    (xo5 : PySem.W.excOver K cx5 bm_ValueError = true)
    (xs5 : PySem.W.findIn K (.ref cx5) "__setattr__" = some (some (.builtin "object.__setattr__")))
    (xg5 : PySem.W.findIn K (.ref cx5) "__getattribute__" = some (some (.builtin "BaseException.__getattribute__")))
    (xh5 : PySem.W.findIn K (.ref cx5) "__getattr__" = some none)
    (xc5 : PySem.W.findIn K (.ref cx5) "__init__" = some (some (.ref ix5)))
    (xf5 : PySem.W.isFn K (.ref ix5) = true)
    (xk5 : PySem.W.keepIn K (.ref cx5) = true)
    (xb5 : PySem.W.subIn K (.ref cx5) (.type "BaseException") = some true)
    (xt5 : PySem.W.typeIn K (.ref cx5) = some (.type "type"))
    (xd5 : PySem.W.hasDictIn K cx5 = true)
    (xl5 : K.lookup ix5 = some ⟨xoc5, xod5, .func (PySem.W.fnOf "__init__" "InvalidRow.__init__" (defArgs s_E_InvalidRow) (defBody s_E_InvalidRow) (defScope s_E_InvalidRow) .none .none xdc5 xpm5 xan5 xcd5 xct5), xsl5⟩)
    (xe5 : PySem.W.codeIn K xcd5 "InvalidRow.__init__" = true)
    (xn1_5 : PySem.W.takerIn K cx5 "kind" = some none)
    (xm1_5 : PySem.W.findIn K (.ref cx5) "kind" = some none)
    (xn2_5 : PySem.W.takerIn K cx5 "value" = some none)
    (xm2_5 : PySem.W.findIn K (.ref cx5) "value" = some none)
    (xa6 : PySem.W.nsIn K mainGlobals "InvalidWord" = some (some (.ref cx6)))
    (xi6 : PySem.W.excInitIn K cx6 bm_ValueError "ValueError.__new__" = true)
    (xo6 : PySem.W.excOver K cx6 bm_ValueError = true)
    (xs6 : PySem.W.findIn K (.ref cx6) "__setattr__" = some (some (.builtin "object.__setattr__")))
    (xg6 : PySem.W.findIn K (.ref cx6) "__getattribute__" = some (some (.builtin "BaseException.__getattribute__")))
    (xh6 : PySem.W.findIn K (.ref cx6) "__getattr__" = some none)
    (xc6 : PySem.W.findIn K (.ref cx6) "__init__" = some (some (.ref ix6)))
    (xf6 : PySem.W.isFn K (.ref ix6) = true)
    (xk6 : PySem.W.keepIn K (.ref cx6) = true)
    (xb6 : PySem.W.subIn K (.ref cx6) (.type "BaseException") = some true)
    (xt6 : PySem.W.typeIn K (.ref cx6) = some (.type "type"))
    (xd6 : PySem.W.hasDictIn K cx6 = true)
    (xl6 : K.lookup ix6 = some ⟨xoc6, xod6, .func (PySem.W.fnOf "__init__" "InvalidWord.__init__" (defArgs s_E_InvalidWord) (defBody s_E_InvalidWord) (defScope s_E_InvalidWord) .none .none xdc6 xpm6 xan6 xcd6 xct6), xsl6⟩)
    (xe6 : PySem.W.codeIn K xcd6 "InvalidWord.__init__" = true)
    (xn1_6 : PySem.W.takerIn K cx6 "name" = some none)
    (xm1_6 : PySem.W.findIn K (.ref cx6) "name" = some none)
    (xn2_6 : PySem.W.takerIn K cx6 "value" = some none)
    (xm2_6 : PySem.W.findIn K (.ref cx6) "value" = some none)
    (xa7 : PySem.W.nsIn K mainGlobals "InvalidHolds" = some (some (.ref cx7)))
    (xi7 : PySem.W.excInitIn K cx7 bm_ValueError "ValueError.__new__" = true)
    (xo7 : PySem.W.excOver K cx7 bm_ValueError = true)
    (xs7 : PySem.W.findIn K (.ref cx7) "__setattr__" = some (some (.builtin "object.__setattr__")))
    (xg7 : PySem.W.findIn K (.ref cx7) "__getattribute__" = some (some (.builtin "BaseException.__getattribute__")))
    (xh7 : PySem.W.findIn K (.ref cx7) "__getattr__" = some none)
    (xc7 : PySem.W.findIn K (.ref cx7) "__init__" = some (some (.ref ix7)))
    (xf7 : PySem.W.isFn K (.ref ix7) = true)
    (xk7 : PySem.W.keepIn K (.ref cx7) = true)
    (xb7 : PySem.W.subIn K (.ref cx7) (.type "BaseException") = some true)
    (xt7 : PySem.W.typeIn K (.ref cx7) = some (.type "type"))
    (xd7 : PySem.W.hasDictIn K cx7 = true)
    (xl7 : K.lookup ix7 = some ⟨xoc7, xod7, .func (PySem.W.fnOf "__init__" "InvalidHolds.__init__" (defArgs s_E_InvalidHolds) (defBody s_E_InvalidHolds) (defScope s_E_InvalidHolds) .none .none xdc7 xpm7 xan7 xcd7 xct7), xsl7⟩)
    (xe7 : PySem.W.codeIn K xcd7 "InvalidHolds.__init__" = true)
    (xn7 : PySem.W.takerIn K cx7 "value" = some none)
    (xm7 : PySem.W.findIn K (.ref cx7) "value" = some none)
    (xa8 : PySem.W.nsIn K mainGlobals "InvalidHand" = some (some (.ref cx8)))
    (xi8 : PySem.W.excInitIn K cx8 bm_ValueError "ValueError.__new__" = true)
    (xo8 : PySem.W.excOver K cx8 bm_ValueError = true)
    (xs8 : PySem.W.findIn K (.ref cx8) "__setattr__" = some (some (.builtin "object.__setattr__")))
    (xg8 : PySem.W.findIn K (.ref cx8) "__getattribute__" = some (some (.builtin "BaseException.__getattribute__")))
    (xh8 : PySem.W.findIn K (.ref cx8) "__getattr__" = some none)
    (xc8 : PySem.W.findIn K (.ref cx8) "__init__" = some (some (.ref ix8)))
    (xf8 : PySem.W.isFn K (.ref ix8) = true)
    (xk8 : PySem.W.keepIn K (.ref cx8) = true)
    (xb8 : PySem.W.subIn K (.ref cx8) (.type "BaseException") = some true)
    (xt8 : PySem.W.typeIn K (.ref cx8) = some (.type "type"))
    (xd8 : PySem.W.hasDictIn K cx8 = true)
    (xl8 : K.lookup ix8 = some ⟨xoc8, xod8, .func (PySem.W.fnOf "__init__" "InvalidHand.__init__" (defArgs s_E_InvalidHand) (defBody s_E_InvalidHand) (defScope s_E_InvalidHand) .none .none xdc8 xpm8 xan8 xcd8 xct8), xsl8⟩)
    (xe8 : PySem.W.codeIn K xcd8 "InvalidHand.__init__" = true)
    (xn8 : PySem.W.takerIn K cx8 "value" = some none)
    (xm8 : PySem.W.findIn K (.ref cx8) "value" = some none)
    (xa9 : PySem.W.nsIn K mainGlobals "InvalidThing" = some (some (.ref cx9)))
    (xi9 : PySem.W.excInitIn K cx9 bm_ValueError "ValueError.__new__" = true)
    (xo9 : PySem.W.excOver K cx9 bm_ValueError = true)
    (xs9 : PySem.W.findIn K (.ref cx9) "__setattr__" = some (some (.builtin "object.__setattr__")))
    (xg9 : PySem.W.findIn K (.ref cx9) "__getattribute__" = some (some (.builtin "BaseException.__getattribute__")))
    (xh9 : PySem.W.findIn K (.ref cx9) "__getattr__" = some none)
    (xc9 : PySem.W.findIn K (.ref cx9) "__init__" = some (some (.ref ix9)))
    (xf9 : PySem.W.isFn K (.ref ix9) = true)
    (xk9 : PySem.W.keepIn K (.ref cx9) = true)
    (xb9 : PySem.W.subIn K (.ref cx9) (.type "BaseException") = some true)
    (xt9 : PySem.W.typeIn K (.ref cx9) = some (.type "type"))
    (xd9 : PySem.W.hasDictIn K cx9 = true)
    (xl9 : K.lookup ix9 = some ⟨xoc9, xod9, .func (PySem.W.fnOf "__init__" "InvalidThing.__init__" (defArgs s_E_InvalidThing) (defBody s_E_InvalidThing) (defScope s_E_InvalidThing) .none .none xdc9 xpm9 xan9 xcd9 xct9), xsl9⟩)
    (xe9 : PySem.W.codeIn K xcd9 "InvalidThing.__init__" = true)
    (xn9 : PySem.W.takerIn K cx9 "value" = some none)
    (xm9 : PySem.W.findIn K (.ref cx9) "value" = some none)
    (xa10 : PySem.W.nsIn K mainGlobals "InvalidLimit" = some (some (.ref cx10)))
    (xi10 : PySem.W.excInitIn K cx10 bm_ValueError "ValueError.__new__" = true)
    (xo10 : PySem.W.excOver K cx10 bm_ValueError = true)
    (xs10 : PySem.W.findIn K (.ref cx10) "__setattr__" = some (some (.builtin "object.__setattr__")))
    (xg10 : PySem.W.findIn K (.ref cx10) "__getattribute__" = some (some (.builtin "BaseException.__getattribute__")))
    (xh10 : PySem.W.findIn K (.ref cx10) "__getattr__" = some none)
    (xc10 : PySem.W.findIn K (.ref cx10) "__init__" = some (some (.ref ix10)))
    (xf10 : PySem.W.isFn K (.ref ix10) = true)
    (xk10 : PySem.W.keepIn K (.ref cx10) = true)
    (xb10 : PySem.W.subIn K (.ref cx10) (.type "BaseException") = some true)
    (xt10 : PySem.W.typeIn K (.ref cx10) = some (.type "type"))
    (xd10 : PySem.W.hasDictIn K cx10 = true)
    (xl10 : K.lookup ix10 = some ⟨xoc10, xod10, .func (PySem.W.fnOf "__init__" "InvalidLimit.__init__" (defArgs s_E_InvalidLimit) (defBody s_E_InvalidLimit) (defScope s_E_InvalidLimit) .none .none xdc10 xpm10 xan10 xcd10 xct10), xsl10⟩)
    (xe10 : PySem.W.codeIn K xcd10 "InvalidLimit.__init__" = true)
    (xn10 : PySem.W.takerIn K cx10 "value" = some none)
    (xm10 : PySem.W.findIn K (.ref cx10) "value" = some none)
    (xa11 : PySem.W.nsIn K mainGlobals "InvalidCount" = some (some (.ref cx11)))
    (xi11 : PySem.W.excInitIn K cx11 bm_ValueError "ValueError.__new__" = true)
    (xo11 : PySem.W.excOver K cx11 bm_ValueError = true)
    (xs11 : PySem.W.findIn K (.ref cx11) "__setattr__" = some (some (.builtin "object.__setattr__")))
    (xg11 : PySem.W.findIn K (.ref cx11) "__getattribute__" = some (some (.builtin "BaseException.__getattribute__")))
    (xh11 : PySem.W.findIn K (.ref cx11) "__getattr__" = some none)
    (xc11 : PySem.W.findIn K (.ref cx11) "__init__" = some (some (.ref ix11)))
    (xf11 : PySem.W.isFn K (.ref ix11) = true)
    (xk11 : PySem.W.keepIn K (.ref cx11) = true)
    (xb11 : PySem.W.subIn K (.ref cx11) (.type "BaseException") = some true)
    (xt11 : PySem.W.typeIn K (.ref cx11) = some (.type "type"))
    (xd11 : PySem.W.hasDictIn K cx11 = true)
    (xl11 : K.lookup ix11 = some ⟨xoc11, xod11, .func (PySem.W.fnOf "__init__" "InvalidCount.__init__" (defArgs s_E_InvalidCount) (defBody s_E_InvalidCount) (defScope s_E_InvalidCount) .none .none xdc11 xpm11 xan11 xcd11 xct11), xsl11⟩)
    (xe11 : PySem.W.codeIn K xcd11 "InvalidCount.__init__" = true)
    (xn11 : PySem.W.takerIn K cx11 "value" = some none)
    (xm11 : PySem.W.findIn K (.ref cx11) "value" = some none)
    (xa12 : PySem.W.nsIn K mainGlobals "InvalidUnit" = some (some (.ref cx12)))
    (xi12 : PySem.W.excInitIn K cx12 bm_ValueError "ValueError.__new__" = true)
    (xo12 : PySem.W.excOver K cx12 bm_ValueError = true)
    (xs12 : PySem.W.findIn K (.ref cx12) "__setattr__" = some (some (.builtin "object.__setattr__")))
    (xg12 : PySem.W.findIn K (.ref cx12) "__getattribute__" = some (some (.builtin "BaseException.__getattribute__")))
    (xh12 : PySem.W.findIn K (.ref cx12) "__getattr__" = some none)
    (xc12 : PySem.W.findIn K (.ref cx12) "__init__" = some (some (.ref ix12)))
    (xf12 : PySem.W.isFn K (.ref ix12) = true)
    (xk12 : PySem.W.keepIn K (.ref cx12) = true)
    (xb12 : PySem.W.subIn K (.ref cx12) (.type "BaseException") = some true)
    (xt12 : PySem.W.typeIn K (.ref cx12) = some (.type "type"))
    (xd12 : PySem.W.hasDictIn K cx12 = true)
    (xl12 : K.lookup ix12 = some ⟨xoc12, xod12, .func (PySem.W.fnOf "__init__" "InvalidUnit.__init__" (defArgs s_E_InvalidUnit) (defBody s_E_InvalidUnit) (defScope s_E_InvalidUnit) .none .none xdc12 xpm12 xan12 xcd12 xct12), xsl12⟩)
    (xe12 : PySem.W.codeIn K xcd12 "InvalidUnit.__init__" = true)
    (xn12 : PySem.W.takerIn K cx12 "value" = some none)
    (xm12 : PySem.W.findIn K (.ref cx12) "value" = some none)
    (xa13 : PySem.W.nsIn K mainGlobals "InvalidState" = some (some (.ref cx13)))
    (xi13 : PySem.W.excInitIn K cx13 bm_ValueError "ValueError.__new__" = true)
    (xo13 : PySem.W.excOver K cx13 bm_ValueError = true)
    (xs13 : PySem.W.findIn K (.ref cx13) "__setattr__" = some (some (.builtin "object.__setattr__")))
    (xg13 : PySem.W.findIn K (.ref cx13) "__getattribute__" = some (some (.builtin "BaseException.__getattribute__")))
    (xh13 : PySem.W.findIn K (.ref cx13) "__getattr__" = some none)
    (xc13 : PySem.W.findIn K (.ref cx13) "__init__" = some (some (.ref ix13)))
    (xf13 : PySem.W.isFn K (.ref ix13) = true)
    (xk13 : PySem.W.keepIn K (.ref cx13) = true)
    (xb13 : PySem.W.subIn K (.ref cx13) (.type "BaseException") = some true)
    (xt13 : PySem.W.typeIn K (.ref cx13) = some (.type "type"))
    (xd13 : PySem.W.hasDictIn K cx13 = true)
    (xl13 : K.lookup ix13 = some ⟨xoc13, xod13, .func (PySem.W.fnOf "__init__" "InvalidState.__init__" (defArgs s_E_InvalidState) (defBody s_E_InvalidState) (defScope s_E_InvalidState) .none .none xdc13 xpm13 xan13 xcd13 xct13), xsl13⟩)
    (xe13 : PySem.W.codeIn K xcd13 "InvalidState.__init__" = true)
    (xn13 : PySem.W.takerIn K cx13 "value" = some none)
    (xm13 : PySem.W.findIn K (.ref cx13) "value" = some none)
    (xa14 : PySem.W.nsIn K mainGlobals "InvalidWish" = some (some (.ref cx14)))
    (xi14 : PySem.W.excInitIn K cx14 bm_ValueError "ValueError.__new__" = true)
    (xo14 : PySem.W.excOver K cx14 bm_ValueError = true)
    (xs14 : PySem.W.findIn K (.ref cx14) "__setattr__" = some (some (.builtin "object.__setattr__")))
    (xg14 : PySem.W.findIn K (.ref cx14) "__getattribute__" = some (some (.builtin "BaseException.__getattribute__")))
    (xh14 : PySem.W.findIn K (.ref cx14) "__getattr__" = some none)
    (xc14 : PySem.W.findIn K (.ref cx14) "__init__" = some (some (.ref ix14)))
    (xf14 : PySem.W.isFn K (.ref ix14) = true)
    (xk14 : PySem.W.keepIn K (.ref cx14) = true)
    (xb14 : PySem.W.subIn K (.ref cx14) (.type "BaseException") = some true)
    (xt14 : PySem.W.typeIn K (.ref cx14) = some (.type "type"))
    (xd14 : PySem.W.hasDictIn K cx14 = true)
    (xl14 : K.lookup ix14 = some ⟨xoc14, xod14, .func (PySem.W.fnOf "__init__" "InvalidWish.__init__" (defArgs s_E_InvalidWish) (defBody s_E_InvalidWish) (defScope s_E_InvalidWish) .none .none xdc14 xpm14 xan14 xcd14 xct14), xsl14⟩)
    (xe14 : PySem.W.codeIn K xcd14 "InvalidWish.__init__" = true)
    (xn14 : PySem.W.takerIn K cx14 "value" = some none)
    (xm14 : PySem.W.findIn K (.ref cx14) "value" = some none)
    (xa15 : PySem.W.nsIn K mainGlobals "InvalidWishes" = some (some (.ref cx15)))
    (xi15 : PySem.W.excInitIn K cx15 bm_ValueError "ValueError.__new__" = true)
    (xo15 : PySem.W.excOver K cx15 bm_ValueError = true)
    (xs15 : PySem.W.findIn K (.ref cx15) "__setattr__" = some (some (.builtin "object.__setattr__")))
    (xg15 : PySem.W.findIn K (.ref cx15) "__getattribute__" = some (some (.builtin "BaseException.__getattribute__")))
    (xh15 : PySem.W.findIn K (.ref cx15) "__getattr__" = some none)
    (xc15 : PySem.W.findIn K (.ref cx15) "__init__" = some (some (.ref ix15)))
    (xf15 : PySem.W.isFn K (.ref ix15) = true)
    (xk15 : PySem.W.keepIn K (.ref cx15) = true)
    (xb15 : PySem.W.subIn K (.ref cx15) (.type "BaseException") = some true)
    (xt15 : PySem.W.typeIn K (.ref cx15) = some (.type "type"))
    (xd15 : PySem.W.hasDictIn K cx15 = true)
    (xl15 : K.lookup ix15 = some ⟨xoc15, xod15, .func (PySem.W.fnOf "__init__" "InvalidWishes.__init__" (defArgs s_E_InvalidWishes) (defBody s_E_InvalidWishes) (defScope s_E_InvalidWishes) .none .none xdc15 xpm15 xan15 xcd15 xct15), xsl15⟩)
    (xe15 : PySem.W.codeIn K xcd15 "InvalidWishes.__init__" = true)
    (xn15 : PySem.W.takerIn K cx15 "value" = some none)
    (xm15 : PySem.W.findIn K (.ref cx15) "value" = some none)
    (xa16 : PySem.W.nsIn K mainGlobals "InvalidDeed" = some (some (.ref cx16)))
    (xi16 : PySem.W.excInitIn K cx16 bm_ValueError "ValueError.__new__" = true)
    (xo16 : PySem.W.excOver K cx16 bm_ValueError = true)
    (xs16 : PySem.W.findIn K (.ref cx16) "__setattr__" = some (some (.builtin "object.__setattr__")))
    (xg16 : PySem.W.findIn K (.ref cx16) "__getattribute__" = some (some (.builtin "BaseException.__getattribute__")))
    (xh16 : PySem.W.findIn K (.ref cx16) "__getattr__" = some none)
    (xc16 : PySem.W.findIn K (.ref cx16) "__init__" = some (some (.ref ix16)))
    (xf16 : PySem.W.isFn K (.ref ix16) = true)
    (xk16 : PySem.W.keepIn K (.ref cx16) = true)
    (xb16 : PySem.W.subIn K (.ref cx16) (.type "BaseException") = some true)
    (xt16 : PySem.W.typeIn K (.ref cx16) = some (.type "type"))
    (xd16 : PySem.W.hasDictIn K cx16 = true)
    (xl16 : K.lookup ix16 = some ⟨xoc16, xod16, .func (PySem.W.fnOf "__init__" "InvalidDeed.__init__" (defArgs s_E_InvalidDeed) (defBody s_E_InvalidDeed) (defScope s_E_InvalidDeed) .none .none xdc16 xpm16 xan16 xcd16 xct16), xsl16⟩)
    (xe16 : PySem.W.codeIn K xcd16 "InvalidDeed.__init__" = true)
    (xn16 : PySem.W.takerIn K cx16 "value" = some none)
    (xm16 : PySem.W.findIn K (.ref cx16) "value" = some none)
    (xa17 : PySem.W.nsIn K mainGlobals "InvalidText" = some (some (.ref cx17)))
    (xi17 : PySem.W.excInitIn K cx17 bm_ValueError "ValueError.__new__" = true)
    (xo17 : PySem.W.excOver K cx17 bm_ValueError = true)
    (xs17 : PySem.W.findIn K (.ref cx17) "__setattr__" = some (some (.builtin "object.__setattr__")))
    (xg17 : PySem.W.findIn K (.ref cx17) "__getattribute__" = some (some (.builtin "BaseException.__getattribute__")))
    (xh17 : PySem.W.findIn K (.ref cx17) "__getattr__" = some none)
    (xc17 : PySem.W.findIn K (.ref cx17) "__init__" = some (some (.ref ix17)))
    (xf17 : PySem.W.isFn K (.ref ix17) = true)
    (xk17 : PySem.W.keepIn K (.ref cx17) = true)
    (xb17 : PySem.W.subIn K (.ref cx17) (.type "BaseException") = some true)
    (xt17 : PySem.W.typeIn K (.ref cx17) = some (.type "type"))
    (xd17 : PySem.W.hasDictIn K cx17 = true)
    (xl17 : K.lookup ix17 = some ⟨xoc17, xod17, .func (PySem.W.fnOf "__init__" "InvalidText.__init__" (defArgs s_E_InvalidText) (defBody s_E_InvalidText) (defScope s_E_InvalidText) .none .none xdc17 xpm17 xan17 xcd17 xct17), xsl17⟩)
    (xe17 : PySem.W.codeIn K xcd17 "InvalidText.__init__" = true)
    (xn17 : PySem.W.takerIn K cx17 "line" = some none)
    (xm17 : PySem.W.findIn K (.ref cx17) "line" = some none)
    (xa18 : PySem.W.nsIn K mainGlobals "InvalidClaim" = some (some (.ref cx18)))
    (xi18 : PySem.W.excInitIn K cx18 bm_ValueError "ValueError.__new__" = true)
    (xo18 : PySem.W.excOver K cx18 bm_ValueError = true)
    (xs18 : PySem.W.findIn K (.ref cx18) "__setattr__" = some (some (.builtin "object.__setattr__")))
    (xg18 : PySem.W.findIn K (.ref cx18) "__getattribute__" = some (some (.builtin "BaseException.__getattribute__")))
    (xh18 : PySem.W.findIn K (.ref cx18) "__getattr__" = some none)
    (xc18 : PySem.W.findIn K (.ref cx18) "__init__" = some (some (.ref ix18)))
    (xf18 : PySem.W.isFn K (.ref ix18) = true)
    (xk18 : PySem.W.keepIn K (.ref cx18) = true)
    (xb18 : PySem.W.subIn K (.ref cx18) (.type "BaseException") = some true)
    (xt18 : PySem.W.typeIn K (.ref cx18) = some (.type "type"))
    (xd18 : PySem.W.hasDictIn K cx18 = true)
    (xl18 : K.lookup ix18 = some ⟨xoc18, xod18, .func (PySem.W.fnOf "__init__" "InvalidClaim.__init__" (defArgs s_E_InvalidClaim) (defBody s_E_InvalidClaim) (defScope s_E_InvalidClaim) .none .none xdc18 xpm18 xan18 xcd18 xct18), xsl18⟩)
    (xe18 : PySem.W.codeIn K xcd18 "InvalidClaim.__init__" = true)
    (xn18 : PySem.W.takerIn K cx18 "value" = some none)
    (xm18 : PySem.W.findIn K (.ref cx18) "value" = some none)
    (xa19 : PySem.W.nsIn K mainGlobals "InvalidCommand" = some (some (.ref cx19)))
    (xi19 : PySem.W.excInitIn K cx19 bm_ValueError "ValueError.__new__" = true)
    (xo19 : PySem.W.excOver K cx19 bm_ValueError = true)
    (xs19 : PySem.W.findIn K (.ref cx19) "__setattr__" = some (some (.builtin "object.__setattr__")))
    (xg19 : PySem.W.findIn K (.ref cx19) "__getattribute__" = some (some (.builtin "BaseException.__getattribute__")))
    (xh19 : PySem.W.findIn K (.ref cx19) "__getattr__" = some none)
    (xc19 : PySem.W.findIn K (.ref cx19) "__init__" = some (some (.ref ix19)))
    (xf19 : PySem.W.isFn K (.ref ix19) = true)
    (xk19 : PySem.W.keepIn K (.ref cx19) = true)
    (xb19 : PySem.W.subIn K (.ref cx19) (.type "BaseException") = some true)
    (xt19 : PySem.W.typeIn K (.ref cx19) = some (.type "type"))
    (xd19 : PySem.W.hasDictIn K cx19 = true)
    (xl19 : K.lookup ix19 = some ⟨xoc19, xod19, .func (PySem.W.fnOf "__init__" "InvalidCommand.__init__" (defArgs s_E_InvalidCommand) (defBody s_E_InvalidCommand) (defScope s_E_InvalidCommand) .none .none xdc19 xpm19 xan19 xcd19 xct19), xsl19⟩)
    (xe19 : PySem.W.codeIn K xcd19 "InvalidCommand.__init__" = true)
    (xn19 : PySem.W.takerIn K cx19 "value" = some none)
    (xm19 : PySem.W.findIn K (.ref cx19) "value" = some none)
    (xa20 : PySem.W.nsIn K mainGlobals "IsTop" = some (some (.ref cx20)))
    (xi20 : PySem.W.excInitIn K cx20 bm_RuntimeError "RuntimeError.__new__" = true)
    (xo20 : PySem.W.excOver K cx20 bm_RuntimeError = true)
    (xs20 : PySem.W.findIn K (.ref cx20) "__setattr__" = some (some (.builtin "object.__setattr__")))
    (xg20 : PySem.W.findIn K (.ref cx20) "__getattribute__" = some (some (.builtin "BaseException.__getattribute__")))
    (xh20 : PySem.W.findIn K (.ref cx20) "__getattr__" = some none)
    (xc20 : PySem.W.findIn K (.ref cx20) "__init__" = some (some (.ref ix20)))
    (xf20 : PySem.W.isFn K (.ref ix20) = true)
    (xk20 : PySem.W.keepIn K (.ref cx20) = true)
    (xb20 : PySem.W.subIn K (.ref cx20) (.type "BaseException") = some true)
    (xt20 : PySem.W.typeIn K (.ref cx20) = some (.type "type"))
    (xd20 : PySem.W.hasDictIn K cx20 = true)
    (xl20 : K.lookup ix20 = some ⟨xoc20, xod20, .func (PySem.W.fnOf "__init__" "IsTop.__init__" (defArgs s_E_IsTop) (defBody s_E_IsTop) (defScope s_E_IsTop) .none .none xdc20 xpm20 xan20 xcd20 xct20), xsl20⟩)
    (xe20 : PySem.W.codeIn K xcd20 "IsTop.__init__" = true)
    (xa21 : PySem.W.nsIn K mainGlobals "Struck" = some (some (.ref cx21)))
    (xi21 : PySem.W.excInitIn K cx21 bm_RuntimeError "RuntimeError.__new__" = true)
    (xo21 : PySem.W.excOver K cx21 bm_RuntimeError = true)
    (xs21 : PySem.W.findIn K (.ref cx21) "__setattr__" = some (some (.builtin "object.__setattr__")))
    (xg21 : PySem.W.findIn K (.ref cx21) "__getattribute__" = some (some (.builtin "BaseException.__getattribute__")))
    (xh21 : PySem.W.findIn K (.ref cx21) "__getattr__" = some none)
    (xc21 : PySem.W.findIn K (.ref cx21) "__init__" = some (some (.ref ix21)))
    (xf21 : PySem.W.isFn K (.ref ix21) = true)
    (xk21 : PySem.W.keepIn K (.ref cx21) = true)
    (xb21 : PySem.W.subIn K (.ref cx21) (.type "BaseException") = some true)
    (xt21 : PySem.W.typeIn K (.ref cx21) = some (.type "type"))
    (xd21 : PySem.W.hasDictIn K cx21 = true)
    (xl21 : K.lookup ix21 = some ⟨xoc21, xod21, .func (PySem.W.fnOf "__init__" "Struck.__init__" (defArgs s_E_Struck) (defBody s_E_Struck) (defScope s_E_Struck) .none .none xdc21 xpm21 xan21 xcd21 xct21), xsl21⟩)
    (xe21 : PySem.W.codeIn K xcd21 "Struck.__init__" = true)
    (xn21 : PySem.W.takerIn K cx21 "group" = some none)
    (xm21 : PySem.W.findIn K (.ref cx21) "group" = some none)
    (xa22 : PySem.W.nsIn K mainGlobals "NotStruck" = some (some (.ref cx22)))
    (xi22 : PySem.W.excInitIn K cx22 bm_RuntimeError "RuntimeError.__new__" = true)
    (xo22 : PySem.W.excOver K cx22 bm_RuntimeError = true)
    (xs22 : PySem.W.findIn K (.ref cx22) "__setattr__" = some (some (.builtin "object.__setattr__")))
    (xg22 : PySem.W.findIn K (.ref cx22) "__getattribute__" = some (some (.builtin "BaseException.__getattribute__")))
    (xh22 : PySem.W.findIn K (.ref cx22) "__getattr__" = some none)
    (xc22 : PySem.W.findIn K (.ref cx22) "__init__" = some (some (.ref ix22)))
    (xf22 : PySem.W.isFn K (.ref ix22) = true)
    (xk22 : PySem.W.keepIn K (.ref cx22) = true)
    (xb22 : PySem.W.subIn K (.ref cx22) (.type "BaseException") = some true)
    (xt22 : PySem.W.typeIn K (.ref cx22) = some (.type "type"))
    (xd22 : PySem.W.hasDictIn K cx22 = true)
    (xl22 : K.lookup ix22 = some ⟨xoc22, xod22, .func (PySem.W.fnOf "__init__" "NotStruck.__init__" (defArgs s_E_NotStruck) (defBody s_E_NotStruck) (defScope s_E_NotStruck) .none .none xdc22 xpm22 xan22 xcd22 xct22), xsl22⟩)
    (xe22 : PySem.W.codeIn K xcd22 "NotStruck.__init__" = true)
    (xn22 : PySem.W.takerIn K cx22 "group" = some none)
    (xm22 : PySem.W.findIn K (.ref cx22) "group" = some none)
    (xa23 : PySem.W.nsIn K mainGlobals "HasChildren" = some (some (.ref cx23)))
    (xi23 : PySem.W.excInitIn K cx23 bm_RuntimeError "RuntimeError.__new__" = true)
    (xo23 : PySem.W.excOver K cx23 bm_RuntimeError = true)
    (xs23 : PySem.W.findIn K (.ref cx23) "__setattr__" = some (some (.builtin "object.__setattr__")))
    (xg23 : PySem.W.findIn K (.ref cx23) "__getattribute__" = some (some (.builtin "BaseException.__getattribute__")))
    (xh23 : PySem.W.findIn K (.ref cx23) "__getattr__" = some none)
    (xc23 : PySem.W.findIn K (.ref cx23) "__init__" = some (some (.ref ix23)))
    (xf23 : PySem.W.isFn K (.ref ix23) = true)
    (xk23 : PySem.W.keepIn K (.ref cx23) = true)
    (xb23 : PySem.W.subIn K (.ref cx23) (.type "BaseException") = some true)
    (xt23 : PySem.W.typeIn K (.ref cx23) = some (.type "type"))
    (xd23 : PySem.W.hasDictIn K cx23 = true)
    (xl23 : K.lookup ix23 = some ⟨xoc23, xod23, .func (PySem.W.fnOf "__init__" "HasChildren.__init__" (defArgs s_E_HasChildren) (defBody s_E_HasChildren) (defScope s_E_HasChildren) .none .none xdc23 xpm23 xan23 xcd23 xct23), xsl23⟩)
    (xe23 : PySem.W.codeIn K xcd23 "HasChildren.__init__" = true)
    (xn23 : PySem.W.takerIn K cx23 "group" = some none)
    (xm23 : PySem.W.findIn K (.ref cx23) "group" = some none)
    (xa24 : PySem.W.nsIn K mainGlobals "AtWork" = some (some (.ref cx24)))
    (xi24 : PySem.W.excInitIn K cx24 bm_RuntimeError "RuntimeError.__new__" = true)
    (xo24 : PySem.W.excOver K cx24 bm_RuntimeError = true)
    (xs24 : PySem.W.findIn K (.ref cx24) "__setattr__" = some (some (.builtin "object.__setattr__")))
    (xg24 : PySem.W.findIn K (.ref cx24) "__getattribute__" = some (some (.builtin "BaseException.__getattribute__")))
    (xh24 : PySem.W.findIn K (.ref cx24) "__getattr__" = some none)
    (xc24 : PySem.W.findIn K (.ref cx24) "__init__" = some (some (.ref ix24)))
    (xf24 : PySem.W.isFn K (.ref ix24) = true)
    (xk24 : PySem.W.keepIn K (.ref cx24) = true)
    (xb24 : PySem.W.subIn K (.ref cx24) (.type "BaseException") = some true)
    (xt24 : PySem.W.typeIn K (.ref cx24) = some (.type "type"))
    (xd24 : PySem.W.hasDictIn K cx24 = true)
    (xl24 : K.lookup ix24 = some ⟨xoc24, xod24, .func (PySem.W.fnOf "__init__" "AtWork.__init__" (defArgs s_E_AtWork) (defBody s_E_AtWork) (defScope s_E_AtWork) .none .none xdc24 xpm24 xan24 xcd24 xct24), xsl24⟩)
    (xe24 : PySem.W.codeIn K xcd24 "AtWork.__init__" = true)
    (xn24 : PySem.W.takerIn K cx24 "hand" = some none)
    (xm24 : PySem.W.findIn K (.ref cx24) "hand" = some none)
    (xa25 : PySem.W.nsIn K mainGlobals "NoWalk" = some (some (.ref cx25)))
    (xi25 : PySem.W.excInitIn K cx25 bm_RuntimeError "RuntimeError.__new__" = true)
    (xo25 : PySem.W.excOver K cx25 bm_RuntimeError = true)
    (xs25 : PySem.W.findIn K (.ref cx25) "__setattr__" = some (some (.builtin "object.__setattr__")))
    (xg25 : PySem.W.findIn K (.ref cx25) "__getattribute__" = some (some (.builtin "BaseException.__getattribute__")))
    (xh25 : PySem.W.findIn K (.ref cx25) "__getattr__" = some none)
    (xc25 : PySem.W.findIn K (.ref cx25) "__init__" = some (some (.ref ix25)))
    (xf25 : PySem.W.isFn K (.ref ix25) = true)
    (xk25 : PySem.W.keepIn K (.ref cx25) = true)
    (xb25 : PySem.W.subIn K (.ref cx25) (.type "BaseException") = some true)
    (xt25 : PySem.W.typeIn K (.ref cx25) = some (.type "type"))
    (xd25 : PySem.W.hasDictIn K cx25 = true)
    (xl25 : K.lookup ix25 = some ⟨xoc25, xod25, .func (PySem.W.fnOf "__init__" "NoWalk.__init__" (defArgs s_E_NoWalk) (defBody s_E_NoWalk) (defScope s_E_NoWalk) .none .none xdc25 xpm25 xan25 xcd25 xct25), xsl25⟩)
    (xe25 : PySem.W.codeIn K xcd25 "NoWalk.__init__" = true)
    (xn25 : PySem.W.takerIn K cx25 "hand" = some none)
    (xm25 : PySem.W.findIn K (.ref cx25) "hand" = some none)
    (xa26 : PySem.W.nsIn K mainGlobals "MustSettle" = some (some (.ref cx26)))
    (xi26 : PySem.W.excInitIn K cx26 bm_RuntimeError "RuntimeError.__new__" = true)
    (xo26 : PySem.W.excOver K cx26 bm_RuntimeError = true)
    (xs26 : PySem.W.findIn K (.ref cx26) "__setattr__" = some (some (.builtin "object.__setattr__")))
    (xg26 : PySem.W.findIn K (.ref cx26) "__getattribute__" = some (some (.builtin "BaseException.__getattribute__")))
    (xh26 : PySem.W.findIn K (.ref cx26) "__getattr__" = some none)
    (xc26 : PySem.W.findIn K (.ref cx26) "__init__" = some (some (.ref ix26)))
    (xf26 : PySem.W.isFn K (.ref ix26) = true)
    (xk26 : PySem.W.keepIn K (.ref cx26) = true)
    (xb26 : PySem.W.subIn K (.ref cx26) (.type "BaseException") = some true)
    (xt26 : PySem.W.typeIn K (.ref cx26) = some (.type "type"))
    (xd26 : PySem.W.hasDictIn K cx26 = true)
    (xl26 : K.lookup ix26 = some ⟨xoc26, xod26, .func (PySem.W.fnOf "__init__" "MustSettle.__init__" (defArgs s_E_MustSettle) (defBody s_E_MustSettle) (defScope s_E_MustSettle) .none .none xdc26 xpm26 xan26 xcd26 xct26), xsl26⟩)
    (xe26 : PySem.W.codeIn K xcd26 "MustSettle.__init__" = true)
    (xn26 : PySem.W.takerIn K cx26 "hand" = some none)
    (xm26 : PySem.W.findIn K (.ref cx26) "hand" = some none)
    (xa27 : PySem.W.nsIn K mainGlobals "NoStock" = some (some (.ref cx27)))
    (xi27 : PySem.W.excInitIn K cx27 bm_RuntimeError "RuntimeError.__new__" = true)
    (xo27 : PySem.W.excOver K cx27 bm_RuntimeError = true)
    (xs27 : PySem.W.findIn K (.ref cx27) "__setattr__" = some (some (.builtin "object.__setattr__")))
    (xg27 : PySem.W.findIn K (.ref cx27) "__getattribute__" = some (some (.builtin "BaseException.__getattribute__")))
    (xh27 : PySem.W.findIn K (.ref cx27) "__getattr__" = some none)
    (xc27 : PySem.W.findIn K (.ref cx27) "__init__" = some (some (.ref ix27)))
    (xf27 : PySem.W.isFn K (.ref ix27) = true)
    (xk27 : PySem.W.keepIn K (.ref cx27) = true)
    (xb27 : PySem.W.subIn K (.ref cx27) (.type "BaseException") = some true)
    (xt27 : PySem.W.typeIn K (.ref cx27) = some (.type "type"))
    (xd27 : PySem.W.hasDictIn K cx27 = true)
    (xl27 : K.lookup ix27 = some ⟨xoc27, xod27, .func (PySem.W.fnOf "__init__" "NoStock.__init__" (defArgs s_E_NoStock) (defBody s_E_NoStock) (defScope s_E_NoStock) .none .none xdc27 xpm27 xan27 xcd27 xct27), xsl27⟩)
    (xe27 : PySem.W.codeIn K xcd27 "NoStock.__init__" = true)
    (xn27 : PySem.W.takerIn K cx27 "hand" = some none)
    (xm27 : PySem.W.findIn K (.ref cx27) "hand" = some none)
    (xa28 : PySem.W.nsIn K mainGlobals "NotYours" = some (some (.ref cx28)))
    (xi28 : PySem.W.excInitIn K cx28 bm_RuntimeError "RuntimeError.__new__" = true)
    (xo28 : PySem.W.excOver K cx28 bm_RuntimeError = true)
    (xs28 : PySem.W.findIn K (.ref cx28) "__setattr__" = some (some (.builtin "object.__setattr__")))
    (xg28 : PySem.W.findIn K (.ref cx28) "__getattribute__" = some (some (.builtin "BaseException.__getattribute__")))
    (xh28 : PySem.W.findIn K (.ref cx28) "__getattr__" = some none)
    (xc28 : PySem.W.findIn K (.ref cx28) "__init__" = some (some (.ref ix28)))
    (xf28 : PySem.W.isFn K (.ref ix28) = true)
    (xk28 : PySem.W.keepIn K (.ref cx28) = true)
    (xb28 : PySem.W.subIn K (.ref cx28) (.type "BaseException") = some true)
    (xt28 : PySem.W.typeIn K (.ref cx28) = some (.type "type"))
    (xd28 : PySem.W.hasDictIn K cx28 = true)
    (xl28 : K.lookup ix28 = some ⟨xoc28, xod28, .func (PySem.W.fnOf "__init__" "NotYours.__init__" (defArgs s_E_NotYours) (defBody s_E_NotYours) (defScope s_E_NotYours) .none .none xdc28 xpm28 xan28 xcd28 xct28), xsl28⟩)
    (xe28 : PySem.W.codeIn K xcd28 "NotYours.__init__" = true)
    (xn28 : PySem.W.takerIn K cx28 "hand" = some none)
    (xm28 : PySem.W.findIn K (.ref cx28) "hand" = some none)
    (xa29 : PySem.W.nsIn K mainGlobals "NotLiving" = some (some (.ref cx29)))
    (xi29 : PySem.W.excInitIn K cx29 bm_RuntimeError "RuntimeError.__new__" = true)
    (xo29 : PySem.W.excOver K cx29 bm_RuntimeError = true)
    (xs29 : PySem.W.findIn K (.ref cx29) "__setattr__" = some (some (.builtin "object.__setattr__")))
    (xg29 : PySem.W.findIn K (.ref cx29) "__getattribute__" = some (some (.builtin "BaseException.__getattribute__")))
    (xh29 : PySem.W.findIn K (.ref cx29) "__getattr__" = some none)
    (xc29 : PySem.W.findIn K (.ref cx29) "__init__" = some (some (.ref ix29)))
    (xf29 : PySem.W.isFn K (.ref ix29) = true)
    (xk29 : PySem.W.keepIn K (.ref cx29) = true)
    (xb29 : PySem.W.subIn K (.ref cx29) (.type "BaseException") = some true)
    (xt29 : PySem.W.typeIn K (.ref cx29) = some (.type "type"))
    (xd29 : PySem.W.hasDictIn K cx29 = true)
    (xl29 : K.lookup ix29 = some ⟨xoc29, xod29, .func (PySem.W.fnOf "__init__" "NotLiving.__init__" (defArgs s_E_NotLiving) (defBody s_E_NotLiving) (defScope s_E_NotLiving) .none .none xdc29 xpm29 xan29 xcd29 xct29), xsl29⟩)
    (xe29 : PySem.W.codeIn K xcd29 "NotLiving.__init__" = true)
    (xn29 : PySem.W.takerIn K cx29 "thing" = some none)
    (xm29 : PySem.W.findIn K (.ref cx29) "thing" = some none)
    (xa30 : PySem.W.nsIn K mainGlobals "NoRow" = some (some (.ref cx30)))
    (xi30 : PySem.W.excInitIn K cx30 bm_RuntimeError "RuntimeError.__new__" = true)
    (xo30 : PySem.W.excOver K cx30 bm_RuntimeError = true)
    (xs30 : PySem.W.findIn K (.ref cx30) "__setattr__" = some (some (.builtin "object.__setattr__")))
    (xg30 : PySem.W.findIn K (.ref cx30) "__getattribute__" = some (some (.builtin "BaseException.__getattribute__")))
    (xh30 : PySem.W.findIn K (.ref cx30) "__getattr__" = some none)
    (xc30 : PySem.W.findIn K (.ref cx30) "__init__" = some (some (.ref ix30)))
    (xf30 : PySem.W.isFn K (.ref ix30) = true)
    (xk30 : PySem.W.keepIn K (.ref cx30) = true)
    (xb30 : PySem.W.subIn K (.ref cx30) (.type "BaseException") = some true)
    (xt30 : PySem.W.typeIn K (.ref cx30) = some (.type "type"))
    (xd30 : PySem.W.hasDictIn K cx30 = true)
    (xl30 : K.lookup ix30 = some ⟨xoc30, xod30, .func (PySem.W.fnOf "__init__" "NoRow.__init__" (defArgs s_E_NoRow) (defBody s_E_NoRow) (defScope s_E_NoRow) .none .none xdc30 xpm30 xan30 xcd30 xct30), xsl30⟩)
    (xe30 : PySem.W.codeIn K xcd30 "NoRow.__init__" = true)
    (xn30 : PySem.W.takerIn K cx30 "kind" = some none)
    (xm30 : PySem.W.findIn K (.ref cx30) "kind" = some none)
    (xa31 : PySem.W.nsIn K mainGlobals "UnderWay" = some (some (.ref cx31)))
    (xi31 : PySem.W.excInitIn K cx31 bm_RuntimeError "RuntimeError.__new__" = true)
    (xo31 : PySem.W.excOver K cx31 bm_RuntimeError = true)
    (xs31 : PySem.W.findIn K (.ref cx31) "__setattr__" = some (some (.builtin "object.__setattr__")))
    (xg31 : PySem.W.findIn K (.ref cx31) "__getattribute__" = some (some (.builtin "BaseException.__getattribute__")))
    (xh31 : PySem.W.findIn K (.ref cx31) "__getattr__" = some none)
    (xc31 : PySem.W.findIn K (.ref cx31) "__init__" = some (some (.ref ix31)))
    (xf31 : PySem.W.isFn K (.ref ix31) = true)
    (xk31 : PySem.W.keepIn K (.ref cx31) = true)
    (xb31 : PySem.W.subIn K (.ref cx31) (.type "BaseException") = some true)
    (xt31 : PySem.W.typeIn K (.ref cx31) = some (.type "type"))
    (xd31 : PySem.W.hasDictIn K cx31 = true)
    (xl31 : K.lookup ix31 = some ⟨xoc31, xod31, .func (PySem.W.fnOf "__init__" "UnderWay.__init__" (defArgs s_E_UnderWay) (defBody s_E_UnderWay) (defScope s_E_UnderWay) .none .none xdc31 xpm31 xan31 xcd31 xct31), xsl31⟩)
    (xe31 : PySem.W.codeIn K xcd31 "UnderWay.__init__" = true)
    (xn1_31 : PySem.W.takerIn K cx31 "thing" = some none)
    (xm1_31 : PySem.W.findIn K (.ref cx31) "thing" = some none)
    (xn2_31 : PySem.W.takerIn K cx31 "kind" = some none)
    (xm2_31 : PySem.W.findIn K (.ref cx31) "kind" = some none)
    (xa32 : PySem.W.nsIn K mainGlobals "Held" = some (some (.ref cx32)))
    (xi32 : PySem.W.excInitIn K cx32 bm_RuntimeError "RuntimeError.__new__" = true)
    (xo32 : PySem.W.excOver K cx32 bm_RuntimeError = true)
    (xs32 : PySem.W.findIn K (.ref cx32) "__setattr__" = some (some (.builtin "object.__setattr__")))
    (xg32 : PySem.W.findIn K (.ref cx32) "__getattribute__" = some (some (.builtin "BaseException.__getattribute__")))
    (xh32 : PySem.W.findIn K (.ref cx32) "__getattr__" = some none)
    (xc32 : PySem.W.findIn K (.ref cx32) "__init__" = some (some (.ref ix32)))
    (xf32 : PySem.W.isFn K (.ref ix32) = true)
    (xk32 : PySem.W.keepIn K (.ref cx32) = true)
    (xb32 : PySem.W.subIn K (.ref cx32) (.type "BaseException") = some true)
    (xt32 : PySem.W.typeIn K (.ref cx32) = some (.type "type"))
    (xd32 : PySem.W.hasDictIn K cx32 = true)
    (xl32 : K.lookup ix32 = some ⟨xoc32, xod32, .func (PySem.W.fnOf "__init__" "Held.__init__" (defArgs s_E_Held) (defBody s_E_Held) (defScope s_E_Held) .none .none xdc32 xpm32 xan32 xcd32 xct32), xsl32⟩)
    (xe32 : PySem.W.codeIn K xcd32 "Held.__init__" = true)
    (xn1_32 : PySem.W.takerIn K cx32 "thing" = some none)
    (xm1_32 : PySem.W.findIn K (.ref cx32) "thing" = some none)
    (xn2_32 : PySem.W.takerIn K cx32 "kind" = some none)
    (xm2_32 : PySem.W.findIn K (.ref cx32) "kind" = some none)
    (xa33 : PySem.W.nsIn K mainGlobals "NotKept" = some (some (.ref cx33)))
    (xi33 : PySem.W.excInitIn K cx33 bm_RuntimeError "RuntimeError.__new__" = true)
    (xo33 : PySem.W.excOver K cx33 bm_RuntimeError = true)
    (xs33 : PySem.W.findIn K (.ref cx33) "__setattr__" = some (some (.builtin "object.__setattr__")))
    (xg33 : PySem.W.findIn K (.ref cx33) "__getattribute__" = some (some (.builtin "BaseException.__getattribute__")))
    (xh33 : PySem.W.findIn K (.ref cx33) "__getattr__" = some none)
    (xc33 : PySem.W.findIn K (.ref cx33) "__init__" = some (some (.ref ix33)))
    (xf33 : PySem.W.isFn K (.ref ix33) = true)
    (xk33 : PySem.W.keepIn K (.ref cx33) = true)
    (xb33 : PySem.W.subIn K (.ref cx33) (.type "BaseException") = some true)
    (xt33 : PySem.W.typeIn K (.ref cx33) = some (.type "type"))
    (xd33 : PySem.W.hasDictIn K cx33 = true)
    (xl33 : K.lookup ix33 = some ⟨xoc33, xod33, .func (PySem.W.fnOf "__init__" "NotKept.__init__" (defArgs s_E_NotKept) (defBody s_E_NotKept) (defScope s_E_NotKept) .none .none xdc33 xpm33 xan33 xcd33 xct33), xsl33⟩)
    (xe33 : PySem.W.codeIn K xcd33 "NotKept.__init__" = true)
    (xn33 : PySem.W.takerIn K cx33 "wish" = some none)
    (xm33 : PySem.W.findIn K (.ref cx33) "wish" = some none)
    (xa34 : PySem.W.nsIn K mainGlobals "NoEnd" = some (some (.ref cx34)))
    (xi34 : PySem.W.excInitIn K cx34 bm_RuntimeError "RuntimeError.__new__" = true)
    (xo34 : PySem.W.excOver K cx34 bm_RuntimeError = true)
    (xs34 : PySem.W.findIn K (.ref cx34) "__setattr__" = some (some (.builtin "object.__setattr__")))
    (xg34 : PySem.W.findIn K (.ref cx34) "__getattribute__" = some (some (.builtin "BaseException.__getattribute__")))
    (xh34 : PySem.W.findIn K (.ref cx34) "__getattr__" = some none)
    (xc34 : PySem.W.findIn K (.ref cx34) "__init__" = some (some (.ref ix34)))
    (xf34 : PySem.W.isFn K (.ref ix34) = true)
    (xk34 : PySem.W.keepIn K (.ref cx34) = true)
    (xb34 : PySem.W.subIn K (.ref cx34) (.type "BaseException") = some true)
    (xt34 : PySem.W.typeIn K (.ref cx34) = some (.type "type"))
    (xd34 : PySem.W.hasDictIn K cx34 = true)
    (xl34 : K.lookup ix34 = some ⟨xoc34, xod34, .func (PySem.W.fnOf "__init__" "NoEnd.__init__" (defArgs s_E_NoEnd) (defBody s_E_NoEnd) (defScope s_E_NoEnd) .none .none xdc34 xpm34 xan34 xcd34 xct34), xsl34⟩)
    (xe34 : PySem.W.codeIn K xcd34 "NoEnd.__init__" = true)
    (xa35 : PySem.W.nsIn K mainGlobals "Untrue" = some (some (.ref cx35)))
    (xi35 : PySem.W.excInitIn K cx35 bm_RuntimeError "RuntimeError.__new__" = true)
    (xo35 : PySem.W.excOver K cx35 bm_RuntimeError = true)
    (xs35 : PySem.W.findIn K (.ref cx35) "__setattr__" = some (some (.builtin "object.__setattr__")))
    (xg35 : PySem.W.findIn K (.ref cx35) "__getattribute__" = some (some (.builtin "BaseException.__getattribute__")))
    (xh35 : PySem.W.findIn K (.ref cx35) "__getattr__" = some none)
    (xc35 : PySem.W.findIn K (.ref cx35) "__init__" = some (some (.ref ix35)))
    (xf35 : PySem.W.isFn K (.ref ix35) = true)
    (xk35 : PySem.W.keepIn K (.ref cx35) = true)
    (xb35 : PySem.W.subIn K (.ref cx35) (.type "BaseException") = some true)
    (xt35 : PySem.W.typeIn K (.ref cx35) = some (.type "type"))
    (xd35 : PySem.W.hasDictIn K cx35 = true)
    (xl35 : K.lookup ix35 = some ⟨xoc35, xod35, .func (PySem.W.fnOf "__init__" "Untrue.__init__" (defArgs s_E_Untrue) (defBody s_E_Untrue) (defScope s_E_Untrue) .none .none xdc35 xpm35 xan35 xcd35 xct35), xsl35⟩)
    (xe35 : PySem.W.codeIn K xcd35 "Untrue.__init__" = true)
    (xa36 : PySem.W.nsIn K mainGlobals "NothingToUndo" = some (some (.ref cx36)))
    (xi36 : PySem.W.excInitIn K cx36 bm_RuntimeError "RuntimeError.__new__" = true)
    (xo36 : PySem.W.excOver K cx36 bm_RuntimeError = true)
    (xs36 : PySem.W.findIn K (.ref cx36) "__setattr__" = some (some (.builtin "object.__setattr__")))
    (xg36 : PySem.W.findIn K (.ref cx36) "__getattribute__" = some (some (.builtin "BaseException.__getattribute__")))
    (xh36 : PySem.W.findIn K (.ref cx36) "__getattr__" = some none)
    (xc36 : PySem.W.findIn K (.ref cx36) "__init__" = some (some (.ref ix36)))
    (xf36 : PySem.W.isFn K (.ref ix36) = true)
    (xk36 : PySem.W.keepIn K (.ref cx36) = true)
    (xb36 : PySem.W.subIn K (.ref cx36) (.type "BaseException") = some true)
    (xt36 : PySem.W.typeIn K (.ref cx36) = some (.type "type"))
    (xd36 : PySem.W.hasDictIn K cx36 = true)
    (xl36 : K.lookup ix36 = some ⟨xoc36, xod36, .func (PySem.W.fnOf "__init__" "NothingToUndo.__init__" (defArgs s_E_NothingToUndo) (defBody s_E_NothingToUndo) (defScope s_E_NothingToUndo) .none .none xdc36 xpm36 xan36 xcd36 xct36), xsl36⟩)
    (xe36 : PySem.W.codeIn K xcd36 "NothingToUndo.__init__" = true)
    (xa37 : PySem.W.nsIn K mainGlobals "DeedFailed" = some (some (.ref cx37)))
    (xi37 : PySem.W.excInitIn K cx37 bm_RuntimeError "RuntimeError.__new__" = true)
    (xo37 : PySem.W.excOver K cx37 bm_RuntimeError = true)
    (xs37 : PySem.W.findIn K (.ref cx37) "__setattr__" = some (some (.builtin "object.__setattr__")))
    (xg37 : PySem.W.findIn K (.ref cx37) "__getattribute__" = some (some (.builtin "BaseException.__getattribute__")))
    (xh37 : PySem.W.findIn K (.ref cx37) "__getattr__" = some none)
    (xc37 : PySem.W.findIn K (.ref cx37) "__init__" = some (some (.ref ix37)))
    (xf37 : PySem.W.isFn K (.ref ix37) = true)
    (xk37 : PySem.W.keepIn K (.ref cx37) = true)
    (xb37 : PySem.W.subIn K (.ref cx37) (.type "BaseException") = some true)
    (xt37 : PySem.W.typeIn K (.ref cx37) = some (.type "type"))
    (xd37 : PySem.W.hasDictIn K cx37 = true)
    (xl37 : K.lookup ix37 = some ⟨xoc37, xod37, .func (PySem.W.fnOf "__init__" "DeedFailed.__init__" (defArgs s_E_DeedFailed) (defBody s_E_DeedFailed) (defScope s_E_DeedFailed) .none .none xdc37 xpm37 xan37 xcd37 xct37), xsl37⟩)
    (xe37 : PySem.W.codeIn K xcd37 "DeedFailed.__init__" = true)
    (xn37 : PySem.W.takerIn K cx37 "position" = some none)
    (xm37 : PySem.W.findIn K (.ref cx37) "position" = some none)
    (xa38 : PySem.W.nsIn K mainGlobals "CommandFailed" = some (some (.ref cx38)))
    (xi38 : PySem.W.excInitIn K cx38 bm_RuntimeError "RuntimeError.__new__" = true)
    (xo38 : PySem.W.excOver K cx38 bm_RuntimeError = true)
    (xs38 : PySem.W.findIn K (.ref cx38) "__setattr__" = some (some (.builtin "object.__setattr__")))
    (xg38 : PySem.W.findIn K (.ref cx38) "__getattribute__" = some (some (.builtin "BaseException.__getattribute__")))
    (xh38 : PySem.W.findIn K (.ref cx38) "__getattr__" = some none)
    (xc38 : PySem.W.findIn K (.ref cx38) "__init__" = some (some (.ref ix38)))
    (xf38 : PySem.W.isFn K (.ref ix38) = true)
    (xk38 : PySem.W.keepIn K (.ref cx38) = true)
    (xb38 : PySem.W.subIn K (.ref cx38) (.type "BaseException") = some true)
    (xt38 : PySem.W.typeIn K (.ref cx38) = some (.type "type"))
    (xd38 : PySem.W.hasDictIn K cx38 = true)
    (xl38 : K.lookup ix38 = some ⟨xoc38, xod38, .func (PySem.W.fnOf "__init__" "CommandFailed.__init__" (defArgs s_E_CommandFailed) (defBody s_E_CommandFailed) (defScope s_E_CommandFailed) .none .none xdc38 xpm38 xan38 xcd38 xct38), xsl38⟩)
    (xe38 : PySem.W.codeIn K xcd38 "CommandFailed.__init__" = true)
    (xn38 : PySem.W.takerIn K cx38 "position" = some none)
    (xm38 : PySem.W.findIn K (.ref cx38) "position" = some none)
    (xa39 : PySem.W.nsIn K mainGlobals "TooMany" = some (some (.ref cx39)))
    (xi39 : PySem.W.excInitIn K cx39 bm_ArithmeticError "ArithmeticError.__new__" = true)
    (xo39 : PySem.W.excOver K cx39 bm_ArithmeticError = true)
    (xs39 : PySem.W.findIn K (.ref cx39) "__setattr__" = some (some (.builtin "object.__setattr__")))
    (xg39 : PySem.W.findIn K (.ref cx39) "__getattribute__" = some (some (.builtin "BaseException.__getattribute__")))
    (xh39 : PySem.W.findIn K (.ref cx39) "__getattr__" = some none)
    (xc39 : PySem.W.findIn K (.ref cx39) "__init__" = some (some (.ref ix39)))
    (xf39 : PySem.W.isFn K (.ref ix39) = true)
    (xk39 : PySem.W.keepIn K (.ref cx39) = true)
    (xb39 : PySem.W.subIn K (.ref cx39) (.type "BaseException") = some true)
    (xt39 : PySem.W.typeIn K (.ref cx39) = some (.type "type"))
    (xd39 : PySem.W.hasDictIn K cx39 = true)
    (xl39 : K.lookup ix39 = some ⟨xoc39, xod39, .func (PySem.W.fnOf "__init__" "TooMany.__init__" (defArgs s_E_TooMany) (defBody s_E_TooMany) (defScope s_E_TooMany) .none .none xdc39 xpm39 xan39 xcd39 xct39), xsl39⟩)
    (xe39 : PySem.W.codeIn K xcd39 "TooMany.__init__" = true)
    (xn1_39 : PySem.W.takerIn K cx39 "what" = some none)
    (xm1_39 : PySem.W.findIn K (.ref cx39) "what" = some none)
    (xn2_39 : PySem.W.takerIn K cx39 "limit" = some none)
    (xm2_39 : PySem.W.findIn K (.ref cx39) "limit" = some none)
    (ab_LimitError : PySem.W.nsIn K mainGlobals "LimitError" = some (some (.ref cb_LimitError)))
    (ab_StandError : PySem.W.nsIn K mainGlobals "StandError" = some (some (.ref cb_StandError)))
    (ab_WayError : PySem.W.nsIn K mainGlobals "WayError" = some (some (.ref cb_WayError)))
    (kt : ktB K [cx1, cx2, cx3, cx4, cx5, cx6, cx7, cx8, cx9, cx10, cx11, cx12, cx13, cx14, cx15, cx16, cx17, cx18, cx19, cx20, cx21, cx22, cx23, cx24, cx25, cx26, cx27, cx28, cx29, cx30, cx31, cx32, cx33, cx34, cx35, cx36, cx37, cx38, cx39] = true)
    (ku : kuB K [cx1, cx2, cx3, cx4, cx5, cx6, cx7, cx8, cx9, cx10, cx11, cx12, cx13, cx14, cx15, cx16, cx17, cx18, cx19, cx20, cx21, cx22, cx23, cx24, cx25, cx26, cx27, cx28, cx29, cx30, cx31, cx32, cx33, cx34, cx35, cx36, cx37, cx38, cx39] [.ref cb_WayError, .ref cb_StandError, .ref cb_LimitError, .type "ValueError", .type "RuntimeError", .type "ArithmeticError", .type "LookupError", .type "TypeError", .type "NotImplementedError", .type "OverflowError", .type "ZeroDivisionError", .type "AttributeError", .type "KeyError", .type "IndexError", .type "StopIteration"] = true)
    (ke : keB K [cx1, cx2, cx3, cx4, cx5, cx6, cx7, cx8, cx9, cx10, cx11, cx12, cx13, cx14, cx15, cx16, cx17, cx18, cx19, cx20, cx21, cx22, cx23, cx24, cx25, cx26, cx27, cx28, cx29, cx30, cx31, cx32, cx33, cx34, cx35, cx36, cx37, cx38, cx39] = true)
    (q_InvalidRow_WayError : PySem.W.exmOne K (.ref cx5) (.ref cb_WayError) = some true)
    (q_Held_WayError : PySem.W.exmOne K (.ref cx32) (.ref cb_WayError) = some false)
    (q_Held_StandError : PySem.W.exmOne K (.ref cx32) (.ref cb_StandError) = some true)
    (q_TooMany_WayError : PySem.W.exmOne K (.ref cx39) (.ref cb_WayError) = some false)
    (q_TooMany_StandError : PySem.W.exmOne K (.ref cx39) (.ref cb_StandError) = some false)
    (q_TooMany_LimitError : PySem.W.exmOne K (.ref cx39) (.ref cb_LimitError) = some true)
    (z_ArithmeticError : PySem.W.nsIn K mainGlobals "ArithmeticError" = some none)
    (z_AttributeError : PySem.W.nsIn K mainGlobals "AttributeError" = some none)
    (z_IndexError : PySem.W.nsIn K mainGlobals "IndexError" = some none)
    (z_KeyError : PySem.W.nsIn K mainGlobals "KeyError" = some none)
    (z_LookupError : PySem.W.nsIn K mainGlobals "LookupError" = some none)
    (z_NotImplementedError : PySem.W.nsIn K mainGlobals "NotImplementedError" = some none)
    (z_OverflowError : PySem.W.nsIn K mainGlobals "OverflowError" = some none)
    (z_RuntimeError : PySem.W.nsIn K mainGlobals "RuntimeError" = some none)
    (z_StopIteration : PySem.W.nsIn K mainGlobals "StopIteration" = some none)
    (z_TypeError : PySem.W.nsIn K mainGlobals "TypeError" = some none)
    (z_ValueError : PySem.W.nsIn K mainGlobals "ValueError" = some none)
    (z_ZeroDivisionError : PySem.W.nsIn K mainGlobals "ZeroDivisionError" = some none)
    (z_abs : PySem.W.nsIn K mainGlobals "abs" = some none)
    (z_all : PySem.W.nsIn K mainGlobals "all" = some none)
    (z_divmod : PySem.W.nsIn K mainGlobals "divmod" = some none)
    (z_int : PySem.W.nsIn K mainGlobals "int" = some none)
    (z_isinstance : PySem.W.nsIn K mainGlobals "isinstance" = some none)
    (z_len : PySem.W.nsIn K mainGlobals "len" = some none)
    (z_max : PySem.W.nsIn K mainGlobals "max" = some none)
    (z_min : PySem.W.nsIn K mainGlobals "min" = some none)
    (z_range : PySem.W.nsIn K mainGlobals "range" = some none)
    (z_repr : PySem.W.nsIn K mainGlobals "repr" = some none)
    : ∃ fd : FuncData, (∀ (s : Shared) (v : Value), BindsTo s fd ⟨[v], []⟩ [("_law_script", v)]) ∧ ∀ base : Heap, K.In base → base.Ns mainGlobals mg → FnG l.prog w K mg base CX0 4 fa fd ["_law_script"] (sp_law K) := by
  cases hfa.symm.trans (PySem.W.mg_of X G a11)
  have F1 := fun_mk (st := s_Lpot) l1 c1 k1
  have B1 := F1.binds (ps := ["_law_script", "_law_k"]) fun _ _ _ _ _ _ us hl => match us, hl with | [_, _], _ => rfl
  have F2 := fun_mk (st := s_Ldraw) l2 c2 k2
  have B2 := F2.binds (ps := ["_law_pot_here", "_law_sides"]) fun _ _ _ _ _ _ us hl => match us, hl with | [_, _], _ => rfl
  have F3 := fun_mk (st := s_Lpick) l3 c3 k3
  have B3 := F3.binds (ps := ["_law_pot_here", "_law_some"]) fun _ _ _ _ _ _ us hl => match us, hl with | [_, _], _ => rfl
  have F4 := fun_mk (st := s_Lmade) l4 c4 k4
  have B4 := F4.binds (ps := ["_law_a", "_law_b"]) fun _ _ _ _ _ _ us hl => match us, hl with | [_, _], _ => rfl
  have F5 := fun_mk (st := s_Lnamed) l5 c5 k5
  have B5 := F5.binds (ps := ["_law_a", "_law_b"]) fun _ _ _ _ _ _ us hl => match us, hl with | [_, _], _ => rfl
  have F6 := fun_mk (st := s_Lwhich) l6 c6 k6
  have B6 := F6.binds (ps := ["_law_e"]) fun _ _ _ _ _ _ us hl => match us, hl with | [_], _ => rfl
  have F7 := fun_mk (st := s_Ltops) l7 c7 k7
  have B7 := F7.binds (ps := ["_law_e"]) fun _ _ _ _ _ _ us hl => match us, hl with | [_], _ => rfl
  have F8 := fun_mk (st := s_Lkept_right) l8 c8 k8
  have B8 := F8.binds (ps := ["_law_made_here", "_law_a", "_law_b"]) fun _ _ _ _ _ _ us hl => match us, hl with | [_, _, _], _ => rfl
  have F9 := fun_mk (st := s_Lcaught) l9 c9 k9
  have B9 := F9.binds (ps := ["_law_a", "_law_b", "_law_way"]) fun _ _ _ _ _ _ us hl => match us, hl with | [_, _, _], _ => rfl
  have F10 := fun_mk (st := s_Lright) l10 c10 k10
  have B10 := F10.binds (ps := ["_law_pot_here"]) fun _ _ _ _ _ _ us hl => match us, hl with | [_], _ => rfl
  have F11 := fun_mk (st := s_law) l11 c11 k11
  have B11 := F11.binds (ps := ["_law_script"]) fun _ _ _ _ _ _ us hl => match us, hl with | [_], _ => rfl
  obtain ⟨xp1_1, xp2_1, xq1_1, xq2_1, xq3_1, xq4_1, xr1_1, xr2_1, xr3_1⟩ := sh_InvalidGroup
  rw [xr1_1, xr2_1, xr3_1] at xl1
  obtain ⟨xp1_2, xp2_2, xq1_2, xq2_2, xq3_2, xq4_2, xr1_2, xr2_2, xr3_2⟩ := sh_InvalidParents
  rw [xr1_2, xr2_2, xr3_2] at xl2
  obtain ⟨xp1_3, xp2_3, xq1_3, xq2_3, xq3_3, xq4_3, xr1_3, xr2_3, xr3_3⟩ := sh_InvalidStruck
  rw [xr1_3, xr2_3, xr3_3] at xl3
  obtain ⟨xp1_4, xp2_4, xq1_4, xq2_4, xq3_4, xq4_4, xr1_4, xr2_4, xr3_4⟩ := sh_InvalidKind
  rw [xr1_4, xr2_4, xr3_4] at xl4
  obtain ⟨xp1_5, xp2_5, xp3_5, xq1_5, xq2_5, xq3_5, xq4_5, xs1_5, xs2_5, xs3_5, xs4_5, xr1_5, xr2_5, xr3_5⟩ := sh_InvalidRow
  rw [xr1_5, xr2_5, xr3_5] at xl5
  obtain ⟨xp1_6, xp2_6, xp3_6, xq1_6, xq2_6, xq3_6, xq4_6, xs1_6, xs2_6, xs3_6, xs4_6, xr1_6, xr2_6, xr3_6⟩ := sh_InvalidWord
  rw [xr1_6, xr2_6, xr3_6] at xl6
  obtain ⟨xp1_7, xp2_7, xq1_7, xq2_7, xq3_7, xq4_7, xr1_7, xr2_7, xr3_7⟩ := sh_InvalidHolds
  rw [xr1_7, xr2_7, xr3_7] at xl7
  obtain ⟨xp1_8, xp2_8, xq1_8, xq2_8, xq3_8, xq4_8, xr1_8, xr2_8, xr3_8⟩ := sh_InvalidHand
  rw [xr1_8, xr2_8, xr3_8] at xl8
  obtain ⟨xp1_9, xp2_9, xq1_9, xq2_9, xq3_9, xq4_9, xr1_9, xr2_9, xr3_9⟩ := sh_InvalidThing
  rw [xr1_9, xr2_9, xr3_9] at xl9
  obtain ⟨xp1_10, xp2_10, xq1_10, xq2_10, xq3_10, xq4_10, xr1_10, xr2_10, xr3_10⟩ := sh_InvalidLimit
  rw [xr1_10, xr2_10, xr3_10] at xl10
  obtain ⟨xp1_11, xp2_11, xq1_11, xq2_11, xq3_11, xq4_11, xr1_11, xr2_11, xr3_11⟩ := sh_InvalidCount
  rw [xr1_11, xr2_11, xr3_11] at xl11
  obtain ⟨xp1_12, xp2_12, xq1_12, xq2_12, xq3_12, xq4_12, xr1_12, xr2_12, xr3_12⟩ := sh_InvalidUnit
  rw [xr1_12, xr2_12, xr3_12] at xl12
  obtain ⟨xp1_13, xp2_13, xq1_13, xq2_13, xq3_13, xq4_13, xr1_13, xr2_13, xr3_13⟩ := sh_InvalidState
  rw [xr1_13, xr2_13, xr3_13] at xl13
  obtain ⟨xp1_14, xp2_14, xq1_14, xq2_14, xq3_14, xq4_14, xr1_14, xr2_14, xr3_14⟩ := sh_InvalidWish
  rw [xr1_14, xr2_14, xr3_14] at xl14
  obtain ⟨xp1_15, xp2_15, xq1_15, xq2_15, xq3_15, xq4_15, xr1_15, xr2_15, xr3_15⟩ := sh_InvalidWishes
  rw [xr1_15, xr2_15, xr3_15] at xl15
  obtain ⟨xp1_16, xp2_16, xq1_16, xq2_16, xq3_16, xq4_16, xr1_16, xr2_16, xr3_16⟩ := sh_InvalidDeed
  rw [xr1_16, xr2_16, xr3_16] at xl16
  obtain ⟨xp1_17, xp2_17, xq1_17, xq2_17, xq3_17, xq4_17, xr1_17, xr2_17, xr3_17⟩ := sh_InvalidText
  rw [xr1_17, xr2_17, xr3_17] at xl17
  obtain ⟨xp1_18, xp2_18, xq1_18, xq2_18, xq3_18, xq4_18, xr1_18, xr2_18, xr3_18⟩ := sh_InvalidClaim
  rw [xr1_18, xr2_18, xr3_18] at xl18
  obtain ⟨xp1_19, xp2_19, xq1_19, xq2_19, xq3_19, xq4_19, xr1_19, xr2_19, xr3_19⟩ := sh_InvalidCommand
  rw [xr1_19, xr2_19, xr3_19] at xl19
  obtain ⟨xp1_20, xq1_20, xr1_20, xr2_20, xr3_20⟩ := sh_IsTop
  rw [xr1_20, xr2_20, xr3_20] at xl20
  obtain ⟨xp1_21, xp2_21, xq1_21, xq2_21, xq3_21, xq4_21, xr1_21, xr2_21, xr3_21⟩ := sh_Struck
  rw [xr1_21, xr2_21, xr3_21] at xl21
  obtain ⟨xp1_22, xp2_22, xq1_22, xq2_22, xq3_22, xq4_22, xr1_22, xr2_22, xr3_22⟩ := sh_NotStruck
  rw [xr1_22, xr2_22, xr3_22] at xl22
  obtain ⟨xp1_23, xp2_23, xq1_23, xq2_23, xq3_23, xq4_23, xr1_23, xr2_23, xr3_23⟩ := sh_HasChildren
  rw [xr1_23, xr2_23, xr3_23] at xl23
  obtain ⟨xp1_24, xp2_24, xq1_24, xq2_24, xq3_24, xq4_24, xr1_24, xr2_24, xr3_24⟩ := sh_AtWork
  rw [xr1_24, xr2_24, xr3_24] at xl24
  obtain ⟨xp1_25, xp2_25, xq1_25, xq2_25, xq3_25, xq4_25, xr1_25, xr2_25, xr3_25⟩ := sh_NoWalk
  rw [xr1_25, xr2_25, xr3_25] at xl25
  obtain ⟨xp1_26, xp2_26, xq1_26, xq2_26, xq3_26, xq4_26, xr1_26, xr2_26, xr3_26⟩ := sh_MustSettle
  rw [xr1_26, xr2_26, xr3_26] at xl26
  obtain ⟨xp1_27, xp2_27, xq1_27, xq2_27, xq3_27, xq4_27, xr1_27, xr2_27, xr3_27⟩ := sh_NoStock
  rw [xr1_27, xr2_27, xr3_27] at xl27
  obtain ⟨xp1_28, xp2_28, xq1_28, xq2_28, xq3_28, xq4_28, xr1_28, xr2_28, xr3_28⟩ := sh_NotYours
  rw [xr1_28, xr2_28, xr3_28] at xl28
  obtain ⟨xp1_29, xp2_29, xq1_29, xq2_29, xq3_29, xq4_29, xr1_29, xr2_29, xr3_29⟩ := sh_NotLiving
  rw [xr1_29, xr2_29, xr3_29] at xl29
  obtain ⟨xp1_30, xp2_30, xq1_30, xq2_30, xq3_30, xq4_30, xr1_30, xr2_30, xr3_30⟩ := sh_NoRow
  rw [xr1_30, xr2_30, xr3_30] at xl30
  obtain ⟨xp1_31, xp2_31, xp3_31, xq1_31, xq2_31, xq3_31, xq4_31, xs1_31, xs2_31, xs3_31, xs4_31, xr1_31, xr2_31, xr3_31⟩ := sh_UnderWay
  rw [xr1_31, xr2_31, xr3_31] at xl31
  obtain ⟨xp1_32, xp2_32, xp3_32, xq1_32, xq2_32, xq3_32, xq4_32, xs1_32, xs2_32, xs3_32, xs4_32, xr1_32, xr2_32, xr3_32⟩ := sh_Held
  rw [xr1_32, xr2_32, xr3_32] at xl32
  obtain ⟨xp1_33, xp2_33, xq1_33, xq2_33, xq3_33, xq4_33, xr1_33, xr2_33, xr3_33⟩ := sh_NotKept
  rw [xr1_33, xr2_33, xr3_33] at xl33
  obtain ⟨xp1_34, xq1_34, xr1_34, xr2_34, xr3_34⟩ := sh_NoEnd
  rw [xr1_34, xr2_34, xr3_34] at xl34
  obtain ⟨xp1_35, xq1_35, xr1_35, xr2_35, xr3_35⟩ := sh_Untrue
  rw [xr1_35, xr2_35, xr3_35] at xl35
  obtain ⟨xp1_36, xq1_36, xr1_36, xr2_36, xr3_36⟩ := sh_NothingToUndo
  rw [xr1_36, xr2_36, xr3_36] at xl36
  obtain ⟨xp1_37, xp2_37, xq1_37, xq2_37, xq3_37, xq4_37, xr1_37, xr2_37, xr3_37⟩ := sh_DeedFailed
  rw [xr1_37, xr2_37, xr3_37] at xl37
  obtain ⟨xp1_38, xp2_38, xq1_38, xq2_38, xq3_38, xq4_38, xr1_38, xr2_38, xr3_38⟩ := sh_CommandFailed
  rw [xr1_38, xr2_38, xr3_38] at xl38
  obtain ⟨xp1_39, xp2_39, xp3_39, xq1_39, xq2_39, xq3_39, xq4_39, xs1_39, xs2_39, xs3_39, xs4_39, xr1_39, xr2_39, xr3_39⟩ := sh_TooMany
  rw [xr1_39, xr2_39, xr3_39] at xl39
  let T : Txt K mg w := {
    f_Lpot := f1,
    fd_Lpot := PySem.W.fnOf "_law_pot" "_law_pot" (defArgs s_Lpot) (defBody s_Lpot) (defScope s_Lpot) .none kV1 dc1 pm1 an1 cd1 ct1,
    F_Lpot := F1,
    b_Lpot := B1,
    m_Lpot := PySem.W.mg_of X G a1,
    f_Ldraw := f2,
    fd_Ldraw := PySem.W.fnOf "_law_draw" "_law_draw" (defArgs s_Ldraw) (defBody s_Ldraw) (defScope s_Ldraw) .none kV2 dc2 pm2 an2 cd2 ct2,
    F_Ldraw := F2,
    b_Ldraw := B2,
    m_Ldraw := PySem.W.mg_of X G a2,
    f_Lpick := f3,
    fd_Lpick := PySem.W.fnOf "_law_pick" "_law_pick" (defArgs s_Lpick) (defBody s_Lpick) (defScope s_Lpick) .none kV3 dc3 pm3 an3 cd3 ct3,
    F_Lpick := F3,
    b_Lpick := B3,
    m_Lpick := PySem.W.mg_of X G a3,
    f_Lmade := f4,
    fd_Lmade := PySem.W.fnOf "_law_made" "_law_made" (defArgs s_Lmade) (defBody s_Lmade) (defScope s_Lmade) .none kV4 dc4 pm4 an4 cd4 ct4,
    F_Lmade := F4,
    b_Lmade := B4,
    m_Lmade := PySem.W.mg_of X G a4,
    f_Lnamed := f5,
    fd_Lnamed := PySem.W.fnOf "_law_named" "_law_named" (defArgs s_Lnamed) (defBody s_Lnamed) (defScope s_Lnamed) .none kV5 dc5 pm5 an5 cd5 ct5,
    F_Lnamed := F5,
    b_Lnamed := B5,
    m_Lnamed := PySem.W.mg_of X G a5,
    f_Lwhich := f6,
    fd_Lwhich := PySem.W.fnOf "_law_which" "_law_which" (defArgs s_Lwhich) (defBody s_Lwhich) (defScope s_Lwhich) .none kV6 dc6 pm6 an6 cd6 ct6,
    F_Lwhich := F6,
    b_Lwhich := B6,
    m_Lwhich := PySem.W.mg_of X G a6,
    f_Ltops := f7,
    fd_Ltops := PySem.W.fnOf "_law_tops" "_law_tops" (defArgs s_Ltops) (defBody s_Ltops) (defScope s_Ltops) .none kV7 dc7 pm7 an7 cd7 ct7,
    F_Ltops := F7,
    b_Ltops := B7,
    m_Ltops := PySem.W.mg_of X G a7,
    f_Lkept_right := f8,
    fd_Lkept_right := PySem.W.fnOf "_law_kept_right" "_law_kept_right" (defArgs s_Lkept_right) (defBody s_Lkept_right) (defScope s_Lkept_right) .none kV8 dc8 pm8 an8 cd8 ct8,
    F_Lkept_right := F8,
    b_Lkept_right := B8,
    m_Lkept_right := PySem.W.mg_of X G a8,
    f_Lcaught := f9,
    fd_Lcaught := PySem.W.fnOf "_law_caught" "_law_caught" (defArgs s_Lcaught) (defBody s_Lcaught) (defScope s_Lcaught) .none kV9 dc9 pm9 an9 cd9 ct9,
    F_Lcaught := F9,
    b_Lcaught := B9,
    m_Lcaught := PySem.W.mg_of X G a9,
    f_Lright := f10,
    fd_Lright := PySem.W.fnOf "_law_right" "_law_right" (defArgs s_Lright) (defBody s_Lright) (defScope s_Lright) .none kV10 dc10 pm10 an10 cd10 ct10,
    F_Lright := F10,
    b_Lright := B10,
    m_Lright := PySem.W.mg_of X G a10,
    f_law := fa,
    fd_law := PySem.W.fnOf "law" "law" (defArgs s_law) (defBody s_law) (defScope s_law) .none kV11 dc11 pm11 an11 cd11 ct11,
    F_law := F11,
    b_law := B11,
    m_law := PySem.W.mg_of X G a11,
    C_InvalidGroup := cx1,
    I_InvalidGroup := ix1,
    X_InvalidGroup := ⟨⟨xi1, xo1, xs1, xg1, xh1, xc1, xf1, xk1, xb1, xt1, xd1⟩, xn1, xm1, ⟨_, _, _, _, _, _, _, _, _, _, _, _, _, _, _, xl1, xe1⟩⟩,
    m_InvalidGroup := PySem.W.mg_of X G xa1,
    C_InvalidParents := cx2,
    I_InvalidParents := ix2,
    X_InvalidParents := ⟨⟨xi2, xo2, xs2, xg2, xh2, xc2, xf2, xk2, xb2, xt2, xd2⟩, xn2, xm2, ⟨_, _, _, _, _, _, _, _, _, _, _, _, _, _, _, xl2, xe2⟩⟩,
    m_InvalidParents := PySem.W.mg_of X G xa2,
    C_InvalidStruck := cx3,
    I_InvalidStruck := ix3,
    X_InvalidStruck := ⟨⟨xi3, xo3, xs3, xg3, xh3, xc3, xf3, xk3, xb3, xt3, xd3⟩, xn3, xm3, ⟨_, _, _, _, _, _, _, _, _, _, _, _, _, _, _, xl3, xe3⟩⟩,
    m_InvalidStruck := PySem.W.mg_of X G xa3,
    C_InvalidKind := cx4,
    I_InvalidKind := ix4,
    X_InvalidKind := ⟨⟨xi4, xo4, xs4, xg4, xh4, xc4, xf4, xk4, xb4, xt4, xd4⟩, xn4, xm4, ⟨_, _, _, _, _, _, _, _, _, _, _, _, _, _, _, xl4, xe4⟩⟩,
    m_InvalidKind := PySem.W.mg_of X G xa4,
    C_InvalidRow := cx5,
    I_InvalidRow := ix5,
    X_InvalidRow := ⟨⟨xi5, xo5, xs5, xg5, xh5, xc5, xf5, xk5, xb5, xt5, xd5⟩, xn1_5, xm1_5, xn2_5, xm2_5, ⟨_, _, _, _, _, _, _, _, _, _, _, _, _, _, _, _, _, _, _, _, xl5, xe5⟩⟩,
    m_InvalidRow := PySem.W.mg_of X G xa5,
    C_InvalidWord := cx6,
    I_InvalidWord := ix6,
    X_InvalidWord := ⟨⟨xi6, xo6, xs6, xg6, xh6, xc6, xf6, xk6, xb6, xt6, xd6⟩, xn1_6, xm1_6, xn2_6, xm2_6, ⟨_, _, _, _, _, _, _, _, _, _, _, _, _, _, _, _, _, _, _, _, xl6, xe6⟩⟩,
    m_InvalidWord := PySem.W.mg_of X G xa6,
    C_InvalidHolds := cx7,
    I_InvalidHolds := ix7,
    X_InvalidHolds := ⟨⟨xi7, xo7, xs7, xg7, xh7, xc7, xf7, xk7, xb7, xt7, xd7⟩, xn7, xm7, ⟨_, _, _, _, _, _, _, _, _, _, _, _, _, _, _, xl7, xe7⟩⟩,
    m_InvalidHolds := PySem.W.mg_of X G xa7,
    C_InvalidHand := cx8,
    I_InvalidHand := ix8,
    X_InvalidHand := ⟨⟨xi8, xo8, xs8, xg8, xh8, xc8, xf8, xk8, xb8, xt8, xd8⟩, xn8, xm8, ⟨_, _, _, _, _, _, _, _, _, _, _, _, _, _, _, xl8, xe8⟩⟩,
    m_InvalidHand := PySem.W.mg_of X G xa8,
    C_InvalidThing := cx9,
    I_InvalidThing := ix9,
    X_InvalidThing := ⟨⟨xi9, xo9, xs9, xg9, xh9, xc9, xf9, xk9, xb9, xt9, xd9⟩, xn9, xm9, ⟨_, _, _, _, _, _, _, _, _, _, _, _, _, _, _, xl9, xe9⟩⟩,
    m_InvalidThing := PySem.W.mg_of X G xa9,
    C_InvalidLimit := cx10,
    I_InvalidLimit := ix10,
    X_InvalidLimit := ⟨⟨xi10, xo10, xs10, xg10, xh10, xc10, xf10, xk10, xb10, xt10, xd10⟩, xn10, xm10, ⟨_, _, _, _, _, _, _, _, _, _, _, _, _, _, _, xl10, xe10⟩⟩,
    m_InvalidLimit := PySem.W.mg_of X G xa10,
    C_InvalidCount := cx11,
    I_InvalidCount := ix11,
    X_InvalidCount := ⟨⟨xi11, xo11, xs11, xg11, xh11, xc11, xf11, xk11, xb11, xt11, xd11⟩, xn11, xm11, ⟨_, _, _, _, _, _, _, _, _, _, _, _, _, _, _, xl11, xe11⟩⟩,
    m_InvalidCount := PySem.W.mg_of X G xa11,
    C_InvalidUnit := cx12,
    I_InvalidUnit := ix12,
    X_InvalidUnit := ⟨⟨xi12, xo12, xs12, xg12, xh12, xc12, xf12, xk12, xb12, xt12, xd12⟩, xn12, xm12, ⟨_, _, _, _, _, _, _, _, _, _, _, _, _, _, _, xl12, xe12⟩⟩,
    m_InvalidUnit := PySem.W.mg_of X G xa12,
    C_InvalidState := cx13,
    I_InvalidState := ix13,
    X_InvalidState := ⟨⟨xi13, xo13, xs13, xg13, xh13, xc13, xf13, xk13, xb13, xt13, xd13⟩, xn13, xm13, ⟨_, _, _, _, _, _, _, _, _, _, _, _, _, _, _, xl13, xe13⟩⟩,
    m_InvalidState := PySem.W.mg_of X G xa13,
    C_InvalidWish := cx14,
    I_InvalidWish := ix14,
    X_InvalidWish := ⟨⟨xi14, xo14, xs14, xg14, xh14, xc14, xf14, xk14, xb14, xt14, xd14⟩, xn14, xm14, ⟨_, _, _, _, _, _, _, _, _, _, _, _, _, _, _, xl14, xe14⟩⟩,
    m_InvalidWish := PySem.W.mg_of X G xa14,
    C_InvalidWishes := cx15,
    I_InvalidWishes := ix15,
    X_InvalidWishes := ⟨⟨xi15, xo15, xs15, xg15, xh15, xc15, xf15, xk15, xb15, xt15, xd15⟩, xn15, xm15, ⟨_, _, _, _, _, _, _, _, _, _, _, _, _, _, _, xl15, xe15⟩⟩,
    m_InvalidWishes := PySem.W.mg_of X G xa15,
    C_InvalidDeed := cx16,
    I_InvalidDeed := ix16,
    X_InvalidDeed := ⟨⟨xi16, xo16, xs16, xg16, xh16, xc16, xf16, xk16, xb16, xt16, xd16⟩, xn16, xm16, ⟨_, _, _, _, _, _, _, _, _, _, _, _, _, _, _, xl16, xe16⟩⟩,
    m_InvalidDeed := PySem.W.mg_of X G xa16,
    C_InvalidText := cx17,
    I_InvalidText := ix17,
    X_InvalidText := ⟨⟨xi17, xo17, xs17, xg17, xh17, xc17, xf17, xk17, xb17, xt17, xd17⟩, xn17, xm17, ⟨_, _, _, _, _, _, _, _, _, _, _, _, _, _, _, xl17, xe17⟩⟩,
    m_InvalidText := PySem.W.mg_of X G xa17,
    C_InvalidClaim := cx18,
    I_InvalidClaim := ix18,
    X_InvalidClaim := ⟨⟨xi18, xo18, xs18, xg18, xh18, xc18, xf18, xk18, xb18, xt18, xd18⟩, xn18, xm18, ⟨_, _, _, _, _, _, _, _, _, _, _, _, _, _, _, xl18, xe18⟩⟩,
    m_InvalidClaim := PySem.W.mg_of X G xa18,
    C_InvalidCommand := cx19,
    I_InvalidCommand := ix19,
    X_InvalidCommand := ⟨⟨xi19, xo19, xs19, xg19, xh19, xc19, xf19, xk19, xb19, xt19, xd19⟩, xn19, xm19, ⟨_, _, _, _, _, _, _, _, _, _, _, _, _, _, _, xl19, xe19⟩⟩,
    m_InvalidCommand := PySem.W.mg_of X G xa19,
    C_IsTop := cx20,
    I_IsTop := ix20,
    X_IsTop := ⟨⟨xi20, xo20, xs20, xg20, xh20, xc20, xf20, xk20, xb20, xt20, xd20⟩, ⟨_, _, _, _, _, _, _, _, _, _, _, xl20, xe20⟩⟩,
    m_IsTop := PySem.W.mg_of X G xa20,
    C_Struck := cx21,
    I_Struck := ix21,
    X_Struck := ⟨⟨xi21, xo21, xs21, xg21, xh21, xc21, xf21, xk21, xb21, xt21, xd21⟩, xn21, xm21, ⟨_, _, _, _, _, _, _, _, _, _, _, _, _, _, _, xl21, xe21⟩⟩,
    m_Struck := PySem.W.mg_of X G xa21,
    C_NotStruck := cx22,
    I_NotStruck := ix22,
    X_NotStruck := ⟨⟨xi22, xo22, xs22, xg22, xh22, xc22, xf22, xk22, xb22, xt22, xd22⟩, xn22, xm22, ⟨_, _, _, _, _, _, _, _, _, _, _, _, _, _, _, xl22, xe22⟩⟩,
    m_NotStruck := PySem.W.mg_of X G xa22,
    C_HasChildren := cx23,
    I_HasChildren := ix23,
    X_HasChildren := ⟨⟨xi23, xo23, xs23, xg23, xh23, xc23, xf23, xk23, xb23, xt23, xd23⟩, xn23, xm23, ⟨_, _, _, _, _, _, _, _, _, _, _, _, _, _, _, xl23, xe23⟩⟩,
    m_HasChildren := PySem.W.mg_of X G xa23,
    C_AtWork := cx24,
    I_AtWork := ix24,
    X_AtWork := ⟨⟨xi24, xo24, xs24, xg24, xh24, xc24, xf24, xk24, xb24, xt24, xd24⟩, xn24, xm24, ⟨_, _, _, _, _, _, _, _, _, _, _, _, _, _, _, xl24, xe24⟩⟩,
    m_AtWork := PySem.W.mg_of X G xa24,
    C_NoWalk := cx25,
    I_NoWalk := ix25,
    X_NoWalk := ⟨⟨xi25, xo25, xs25, xg25, xh25, xc25, xf25, xk25, xb25, xt25, xd25⟩, xn25, xm25, ⟨_, _, _, _, _, _, _, _, _, _, _, _, _, _, _, xl25, xe25⟩⟩,
    m_NoWalk := PySem.W.mg_of X G xa25,
    C_MustSettle := cx26,
    I_MustSettle := ix26,
    X_MustSettle := ⟨⟨xi26, xo26, xs26, xg26, xh26, xc26, xf26, xk26, xb26, xt26, xd26⟩, xn26, xm26, ⟨_, _, _, _, _, _, _, _, _, _, _, _, _, _, _, xl26, xe26⟩⟩,
    m_MustSettle := PySem.W.mg_of X G xa26,
    C_NoStock := cx27,
    I_NoStock := ix27,
    X_NoStock := ⟨⟨xi27, xo27, xs27, xg27, xh27, xc27, xf27, xk27, xb27, xt27, xd27⟩, xn27, xm27, ⟨_, _, _, _, _, _, _, _, _, _, _, _, _, _, _, xl27, xe27⟩⟩,
    m_NoStock := PySem.W.mg_of X G xa27,
    C_NotYours := cx28,
    I_NotYours := ix28,
    X_NotYours := ⟨⟨xi28, xo28, xs28, xg28, xh28, xc28, xf28, xk28, xb28, xt28, xd28⟩, xn28, xm28, ⟨_, _, _, _, _, _, _, _, _, _, _, _, _, _, _, xl28, xe28⟩⟩,
    m_NotYours := PySem.W.mg_of X G xa28,
    C_NotLiving := cx29,
    I_NotLiving := ix29,
    X_NotLiving := ⟨⟨xi29, xo29, xs29, xg29, xh29, xc29, xf29, xk29, xb29, xt29, xd29⟩, xn29, xm29, ⟨_, _, _, _, _, _, _, _, _, _, _, _, _, _, _, xl29, xe29⟩⟩,
    m_NotLiving := PySem.W.mg_of X G xa29,
    C_NoRow := cx30,
    I_NoRow := ix30,
    X_NoRow := ⟨⟨xi30, xo30, xs30, xg30, xh30, xc30, xf30, xk30, xb30, xt30, xd30⟩, xn30, xm30, ⟨_, _, _, _, _, _, _, _, _, _, _, _, _, _, _, xl30, xe30⟩⟩,
    m_NoRow := PySem.W.mg_of X G xa30,
    C_UnderWay := cx31,
    I_UnderWay := ix31,
    X_UnderWay := ⟨⟨xi31, xo31, xs31, xg31, xh31, xc31, xf31, xk31, xb31, xt31, xd31⟩, xn1_31, xm1_31, xn2_31, xm2_31, ⟨_, _, _, _, _, _, _, _, _, _, _, _, _, _, _, _, _, _, _, _, xl31, xe31⟩⟩,
    m_UnderWay := PySem.W.mg_of X G xa31,
    C_Held := cx32,
    I_Held := ix32,
    X_Held := ⟨⟨xi32, xo32, xs32, xg32, xh32, xc32, xf32, xk32, xb32, xt32, xd32⟩, xn1_32, xm1_32, xn2_32, xm2_32, ⟨_, _, _, _, _, _, _, _, _, _, _, _, _, _, _, _, _, _, _, _, xl32, xe32⟩⟩,
    m_Held := PySem.W.mg_of X G xa32,
    C_NotKept := cx33,
    I_NotKept := ix33,
    X_NotKept := ⟨⟨xi33, xo33, xs33, xg33, xh33, xc33, xf33, xk33, xb33, xt33, xd33⟩, xn33, xm33, ⟨_, _, _, _, _, _, _, _, _, _, _, _, _, _, _, xl33, xe33⟩⟩,
    m_NotKept := PySem.W.mg_of X G xa33,
    C_NoEnd := cx34,
    I_NoEnd := ix34,
    X_NoEnd := ⟨⟨xi34, xo34, xs34, xg34, xh34, xc34, xf34, xk34, xb34, xt34, xd34⟩, ⟨_, _, _, _, _, _, _, _, _, _, _, xl34, xe34⟩⟩,
    m_NoEnd := PySem.W.mg_of X G xa34,
    C_Untrue := cx35,
    I_Untrue := ix35,
    X_Untrue := ⟨⟨xi35, xo35, xs35, xg35, xh35, xc35, xf35, xk35, xb35, xt35, xd35⟩, ⟨_, _, _, _, _, _, _, _, _, _, _, xl35, xe35⟩⟩,
    m_Untrue := PySem.W.mg_of X G xa35,
    C_NothingToUndo := cx36,
    I_NothingToUndo := ix36,
    X_NothingToUndo := ⟨⟨xi36, xo36, xs36, xg36, xh36, xc36, xf36, xk36, xb36, xt36, xd36⟩, ⟨_, _, _, _, _, _, _, _, _, _, _, xl36, xe36⟩⟩,
    m_NothingToUndo := PySem.W.mg_of X G xa36,
    C_DeedFailed := cx37,
    I_DeedFailed := ix37,
    X_DeedFailed := ⟨⟨xi37, xo37, xs37, xg37, xh37, xc37, xf37, xk37, xb37, xt37, xd37⟩, xn37, xm37, ⟨_, _, _, _, _, _, _, _, _, _, _, _, _, _, _, xl37, xe37⟩⟩,
    m_DeedFailed := PySem.W.mg_of X G xa37,
    C_CommandFailed := cx38,
    I_CommandFailed := ix38,
    X_CommandFailed := ⟨⟨xi38, xo38, xs38, xg38, xh38, xc38, xf38, xk38, xb38, xt38, xd38⟩, xn38, xm38, ⟨_, _, _, _, _, _, _, _, _, _, _, _, _, _, _, xl38, xe38⟩⟩,
    m_CommandFailed := PySem.W.mg_of X G xa38,
    C_TooMany := cx39,
    I_TooMany := ix39,
    X_TooMany := ⟨⟨xi39, xo39, xs39, xg39, xh39, xc39, xf39, xk39, xb39, xt39, xd39⟩, xn1_39, xm1_39, xn2_39, xm2_39, ⟨_, _, _, _, _, _, _, _, _, _, _, _, _, _, _, _, _, _, _, _, xl39, xe39⟩⟩,
    m_TooMany := PySem.W.mg_of X G xa39,
    C_LimitError := cb_LimitError,
    m_LimitError := PySem.W.mg_of X G ab_LimitError,
    C_StandError := cb_StandError,
    m_StandError := PySem.W.mg_of X G ab_StandError,
    C_WayError := cb_WayError,
    m_WayError := PySem.W.mg_of X G ab_WayError,
    kt := kt,
    ku := ku,
    ke := ke,
    q_InvalidRow_WayError := q_InvalidRow_WayError,
    q_Held_WayError := q_Held_WayError,
    q_Held_StandError := q_Held_StandError,
    q_TooMany_WayError := q_TooMany_WayError,
    q_TooMany_StandError := q_TooMany_StandError,
    q_TooMany_LimitError := q_TooMany_LimitError,
    z_ArithmeticError := PySem.W.mg_none_of X G z_ArithmeticError,
    z_AttributeError := PySem.W.mg_none_of X G z_AttributeError,
    z_IndexError := PySem.W.mg_none_of X G z_IndexError,
    z_KeyError := PySem.W.mg_none_of X G z_KeyError,
    z_LookupError := PySem.W.mg_none_of X G z_LookupError,
    z_NotImplementedError := PySem.W.mg_none_of X G z_NotImplementedError,
    z_OverflowError := PySem.W.mg_none_of X G z_OverflowError,
    z_RuntimeError := PySem.W.mg_none_of X G z_RuntimeError,
    z_StopIteration := PySem.W.mg_none_of X G z_StopIteration,
    z_TypeError := PySem.W.mg_none_of X G z_TypeError,
    z_ValueError := PySem.W.mg_none_of X G z_ValueError,
    z_ZeroDivisionError := PySem.W.mg_none_of X G z_ZeroDivisionError,
    z_abs := PySem.W.mg_none_of X G z_abs,
    z_all := PySem.W.mg_none_of X G z_all,
    z_divmod := PySem.W.mg_none_of X G z_divmod,
    z_int := PySem.W.mg_none_of X G z_int,
    z_isinstance := PySem.W.mg_none_of X G z_isinstance,
    z_len := PySem.W.mg_none_of X G z_len,
    z_max := PySem.W.mg_none_of X G z_max,
    z_min := PySem.W.mg_none_of X G z_min,
    z_range := PySem.W.mg_none_of X G z_range,
    z_repr := PySem.W.mg_none_of X G z_repr }
  exact ⟨T.fd_law, fun s v => .of_eq rfl, fun base _ _ => ok_text T⟩
end My
namespace Hd
open PySem PySem.Spec PyProof.Rows L2 GL My
theorem all_hk {l : PySem.W.OpenLaw} {w : World} {K : PySem.W.Frag} {h : Heap} {mg : Str → Option Value} {fa : Addr} (X : K.In h) (G : h.Ns mainGlobals mg) (hfa : mg "law" = some (.ref fa)) (c : HK.Says ats fvs tbs ex w K) : ∃ fd : FuncData, (∀ (s : Shared) (v : Value), BindsTo s fd ⟨[v], []⟩ [("_law_script", v)]) ∧ ∀ base : Heap, K.In base → base.Ns mainGlobals mg → FnG l.prog w K mg base CX0 4 fa fd ["_law_script"] (sp_law K) := by
  have a1 : PySem.W.nsIn K mainGlobals "_law_pot" = some (some (.ref (aa_f1 K))) := HK.eqB_ok (c.fact 0)
  obtain ⟨oc1, od1, kV1, dc1, pm1, an1, cd1, ct1, sl1, l1, c1⟩ := HK.f_ok (c.fn 0) (c.fact 1)
  have k1 : PySem.W.keepIn K (.ref (aa_f1 K)) = true := c.fact 2
  have a2 : PySem.W.nsIn K mainGlobals "_law_draw" = some (some (.ref (aa_f2 K))) := HK.eqB_ok (c.fact 3)
  obtain ⟨oc2, od2, kV2, dc2, pm2, an2, cd2, ct2, sl2, l2, c2⟩ := HK.f_ok (c.fn 1) (c.fact 4)
  have k2 : PySem.W.keepIn K (.ref (aa_f2 K)) = true := c.fact 5
  have a3 : PySem.W.nsIn K mainGlobals "_law_pick" = some (some (.ref (aa_f3 K))) := HK.eqB_ok (c.fact 6)
  obtain ⟨oc3, od3, kV3, dc3, pm3, an3, cd3, ct3, sl3, l3, c3⟩ := HK.f_ok (c.fn 2) (c.fact 7)
  have k3 : PySem.W.keepIn K (.ref (aa_f3 K)) = true := c.fact 8
  have a4 : PySem.W.nsIn K mainGlobals "_law_made" = some (some (.ref (aa_f4 K))) := HK.eqB_ok (c.fact 9)
  obtain ⟨oc4, od4, kV4, dc4, pm4, an4, cd4, ct4, sl4, l4, c4⟩ := HK.f_ok (c.fn 3) (c.fact 10)
  have k4 : PySem.W.keepIn K (.ref (aa_f4 K)) = true := c.fact 11
  have a5 : PySem.W.nsIn K mainGlobals "_law_named" = some (some (.ref (aa_f5 K))) := HK.eqB_ok (c.fact 12)
  obtain ⟨oc5, od5, kV5, dc5, pm5, an5, cd5, ct5, sl5, l5, c5⟩ := HK.f_ok (c.fn 4) (c.fact 13)
  have k5 : PySem.W.keepIn K (.ref (aa_f5 K)) = true := c.fact 14
  have a6 : PySem.W.nsIn K mainGlobals "_law_which" = some (some (.ref (aa_f6 K))) := HK.eqB_ok (c.fact 15)
  obtain ⟨oc6, od6, kV6, dc6, pm6, an6, cd6, ct6, sl6, l6, c6⟩ := HK.f_ok (c.fn 5) (c.fact 16)
  have k6 : PySem.W.keepIn K (.ref (aa_f6 K)) = true := c.fact 17
  have a7 : PySem.W.nsIn K mainGlobals "_law_tops" = some (some (.ref (aa_f7 K))) := HK.eqB_ok (c.fact 18)
  obtain ⟨oc7, od7, kV7, dc7, pm7, an7, cd7, ct7, sl7, l7, c7⟩ := HK.f_ok (c.fn 6) (c.fact 19)
  have k7 : PySem.W.keepIn K (.ref (aa_f7 K)) = true := c.fact 20
  have a8 : PySem.W.nsIn K mainGlobals "_law_kept_right" = some (some (.ref (aa_f8 K))) := HK.eqB_ok (c.fact 21)
  obtain ⟨oc8, od8, kV8, dc8, pm8, an8, cd8, ct8, sl8, l8, c8⟩ := HK.f_ok (c.fn 7) (c.fact 22)
  have k8 : PySem.W.keepIn K (.ref (aa_f8 K)) = true := c.fact 23
  have a9 : PySem.W.nsIn K mainGlobals "_law_caught" = some (some (.ref (aa_f9 K))) := HK.eqB_ok (c.fact 24)
  obtain ⟨oc9, od9, kV9, dc9, pm9, an9, cd9, ct9, sl9, l9, c9⟩ := HK.f_ok (c.fn 8) (c.fact 25)
  have k9 : PySem.W.keepIn K (.ref (aa_f9 K)) = true := c.fact 26
  have a10 : PySem.W.nsIn K mainGlobals "_law_right" = some (some (.ref (aa_f10 K))) := HK.eqB_ok (c.fact 27)
  obtain ⟨oc10, od10, kV10, dc10, pm10, an10, cd10, ct10, sl10, l10, c10⟩ := HK.f_ok (c.fn 9) (c.fact 28)
  have k10 : PySem.W.keepIn K (.ref (aa_f10 K)) = true := c.fact 29
  have a11 : PySem.W.nsIn K mainGlobals "law" = some (some (.ref (aa_f11 K))) := HK.eqB_ok (c.fact 30)
  obtain ⟨oc11, od11, kV11, dc11, pm11, an11, cd11, ct11, sl11, l11, c11⟩ := HK.f_ok (c.fn 10) (c.fact 31)
  have k11 : PySem.W.keepIn K (.ref (aa_f11 K)) = true := c.fact 32
  have xa1 : PySem.W.nsIn K mainGlobals "InvalidGroup" = some (some (.ref (aa_cx1 K))) := HK.eqB_ok (c.fact 33)
  have xi1 : PySem.W.excInitIn K (aa_cx1 K) bm_ValueError "ValueError.__new__" = true := c.fact 34
  have xo1 : PySem.W.excOver K (aa_cx1 K) bm_ValueError = true := c.fact 35
  have xs1 : PySem.W.findIn K (.ref (aa_cx1 K)) "__setattr__" = some (some (.builtin "object.__setattr__")) := HK.eqB_ok (c.fact 36)
  have xg1 : PySem.W.findIn K (.ref (aa_cx1 K)) "__getattribute__" = some (some (.builtin "BaseException.__getattribute__")) := HK.eqB_ok (c.fact 37)
  have xh1 : PySem.W.findIn K (.ref (aa_cx1 K)) "__getattr__" = some none := HK.eqB_ok (c.fact 38)
  have xc1 : PySem.W.findIn K (.ref (aa_cx1 K)) "__init__" = some (some (.ref (aa_ix1 K))) := HK.eqB_ok (c.fact 39)
  have xf1 : PySem.W.isFn K (.ref (aa_ix1 K)) = true := c.fact 40
  have xk1 : PySem.W.keepIn K (.ref (aa_cx1 K)) = true := c.fact 41
  have xb1 : PySem.W.subIn K (.ref (aa_cx1 K)) (.type "BaseException") = some true := HK.eqB_ok (c.fact 42)
  have xt1 : PySem.W.typeIn K (.ref (aa_cx1 K)) = some (.type "type") := HK.eqB_ok (c.fact 43)
  have xd1 : PySem.W.hasDictIn K (aa_cx1 K) = true := c.fact 44
  obtain ⟨xoc1, xod1, xdc1, xpm1, xan1, xcd1, xct1, xsl1, xl1, xe1⟩ := HK.f_okN (c.fn 11) (c.fact 45)
  have xn1 : PySem.W.takerIn K (aa_cx1 K) "value" = some none := HK.eqB_ok (c.fact 46)
  have xm1 : PySem.W.findIn K (.ref (aa_cx1 K)) "value" = some none := HK.eqB_ok (c.fact 47)
  have xa2 : PySem.W.nsIn K mainGlobals "InvalidParents" = some (some (.ref (aa_cx2 K))) := HK.eqB_ok (c.fact 48)
  have xi2 : PySem.W.excInitIn K (aa_cx2 K) bm_ValueError "ValueError.__new__" = true := c.fact 49
  have xo2 : PySem.W.excOver K (aa_cx2 K) bm_ValueError = true := c.fact 50
  have xs2 : PySem.W.findIn K (.ref (aa_cx2 K)) "__setattr__" = some (some (.builtin "object.__setattr__")) := HK.eqB_ok (c.fact 51)
  have xg2 : PySem.W.findIn K (.ref (aa_cx2 K)) "__getattribute__" = some (some (.builtin "BaseException.__getattribute__")) := HK.eqB_ok (c.fact 52)
  have xh2 : PySem.W.findIn K (.ref (aa_cx2 K)) "__getattr__" = some none := HK.eqB_ok (c.fact 53)
  have xc2 : PySem.W.findIn K (.ref (aa_cx2 K)) "__init__" = some (some (.ref (aa_ix2 K))) := HK.eqB_ok (c.fact 54)
  have xf2 : PySem.W.isFn K (.ref (aa_ix2 K)) = true := c.fact 55
  have xk2 : PySem.W.keepIn K (.ref (aa_cx2 K)) = true := c.fact 56
  have xb2 : PySem.W.subIn K (.ref (aa_cx2 K)) (.type "BaseException") = some true := HK.eqB_ok (c.fact 57)
  have xt2 : PySem.W.typeIn K (.ref (aa_cx2 K)) = some (.type "type") := HK.eqB_ok (c.fact 58)
  have xd2 : PySem.W.hasDictIn K (aa_cx2 K) = true := c.fact 59
  obtain ⟨xoc2, xod2, xdc2, xpm2, xan2, xcd2, xct2, xsl2, xl2, xe2⟩ := HK.f_okN (c.fn 12) (c.fact 60)
  have xn2 : PySem.W.takerIn K (aa_cx2 K) "position" = some none := HK.eqB_ok (c.fact 61)
  have xm2 : PySem.W.findIn K (.ref (aa_cx2 K)) "position" = some none := HK.eqB_ok (c.fact 62)
  have xa3 : PySem.W.nsIn K mainGlobals "InvalidStruck" = some (some (.ref (aa_cx3 K))) := HK.eqB_ok (c.fact 63)
  have xi3 : PySem.W.excInitIn K (aa_cx3 K) bm_ValueError "ValueError.__new__" = true := c.fact 64
  have xo3 : PySem.W.excOver K (aa_cx3 K) bm_ValueError = true := c.fact 65
  have xs3 : PySem.W.findIn K (.ref (aa_cx3 K)) "__setattr__" = some (some (.builtin "object.__setattr__")) := HK.eqB_ok (c.fact 66)
  have xg3 : PySem.W.findIn K (.ref (aa_cx3 K)) "__getattribute__" = some (some (.builtin "BaseException.__getattribute__")) := HK.eqB_ok (c.fact 67)
  have xh3 : PySem.W.findIn K (.ref (aa_cx3 K)) "__getattr__" = some none := HK.eqB_ok (c.fact 68)
  have xc3 : PySem.W.findIn K (.ref (aa_cx3 K)) "__init__" = some (some (.ref (aa_ix3 K))) := HK.eqB_ok (c.fact 69)
  have xf3 : PySem.W.isFn K (.ref (aa_ix3 K)) = true := c.fact 70
  have xk3 : PySem.W.keepIn K (.ref (aa_cx3 K)) = true := c.fact 71
  have xb3 : PySem.W.subIn K (.ref (aa_cx3 K)) (.type "BaseException") = some true := HK.eqB_ok (c.fact 72)
  have xt3 : PySem.W.typeIn K (.ref (aa_cx3 K)) = some (.type "type") := HK.eqB_ok (c.fact 73)
  have xd3 : PySem.W.hasDictIn K (aa_cx3 K) = true := c.fact 74
  obtain ⟨xoc3, xod3, xdc3, xpm3, xan3, xcd3, xct3, xsl3, xl3, xe3⟩ := HK.f_okN (c.fn 13) (c.fact 75)
  have xn3 : PySem.W.takerIn K (aa_cx3 K) "position" = some none := HK.eqB_ok (c.fact 76)
  have xm3 : PySem.W.findIn K (.ref (aa_cx3 K)) "position" = some none := HK.eqB_ok (c.fact 77)
  have xa4 : PySem.W.nsIn K mainGlobals "InvalidKind" = some (some (.ref (aa_cx4 K))) := HK.eqB_ok (c.fact 78)
  have xi4 : PySem.W.excInitIn K (aa_cx4 K) bm_ValueError "ValueError.__new__" = true := c.fact 79
  have xo4 : PySem.W.excOver K (aa_cx4 K) bm_ValueError = true := c.fact 80
  have xs4 : PySem.W.findIn K (.ref (aa_cx4 K)) "__setattr__" = some (some (.builtin "object.__setattr__")) := HK.eqB_ok (c.fact 81)
  have xg4 : PySem.W.findIn K (.ref (aa_cx4 K)) "__getattribute__" = some (some (.builtin "BaseException.__getattribute__")) := HK.eqB_ok (c.fact 82)
  have xh4 : PySem.W.findIn K (.ref (aa_cx4 K)) "__getattr__" = some none := HK.eqB_ok (c.fact 83)
  have xc4 : PySem.W.findIn K (.ref (aa_cx4 K)) "__init__" = some (some (.ref (aa_ix4 K))) := HK.eqB_ok (c.fact 84)
  have xf4 : PySem.W.isFn K (.ref (aa_ix4 K)) = true := c.fact 85
  have xk4 : PySem.W.keepIn K (.ref (aa_cx4 K)) = true := c.fact 86
  have xb4 : PySem.W.subIn K (.ref (aa_cx4 K)) (.type "BaseException") = some true := HK.eqB_ok (c.fact 87)
  have xt4 : PySem.W.typeIn K (.ref (aa_cx4 K)) = some (.type "type") := HK.eqB_ok (c.fact 88)
  have xd4 : PySem.W.hasDictIn K (aa_cx4 K) = true := c.fact 89
  obtain ⟨xoc4, xod4, xdc4, xpm4, xan4, xcd4, xct4, xsl4, xl4, xe4⟩ := HK.f_okN (c.fn 14) (c.fact 90)
  have xn4 : PySem.W.takerIn K (aa_cx4 K) "value" = some none := HK.eqB_ok (c.fact 91)
  have xm4 : PySem.W.findIn K (.ref (aa_cx4 K)) "value" = some none := HK.eqB_ok (c.fact 92)
  have xa5 : PySem.W.nsIn K mainGlobals "InvalidRow" = some (some (.ref (aa_cx5 K))) := HK.eqB_ok (c.fact 93)
  have xi5 : PySem.W.excInitIn K (aa_cx5 K) bm_ValueError "ValueError.__new__" = true := c.fact 94
  have xo5 : PySem.W.excOver K (aa_cx5 K) bm_ValueError = true := c.fact 95
  have xs5 : PySem.W.findIn K (.ref (aa_cx5 K)) "__setattr__" = some (some (.builtin "object.__setattr__")) := HK.eqB_ok (c.fact 96)
  have xg5 : PySem.W.findIn K (.ref (aa_cx5 K)) "__getattribute__" = some (some (.builtin "BaseException.__getattribute__")) := HK.eqB_ok (c.fact 97)
  have xh5 : PySem.W.findIn K (.ref (aa_cx5 K)) "__getattr__" = some none := HK.eqB_ok (c.fact 98)
  have xc5 : PySem.W.findIn K (.ref (aa_cx5 K)) "__init__" = some (some (.ref (aa_ix5 K))) := HK.eqB_ok (c.fact 99)
  have xf5 : PySem.W.isFn K (.ref (aa_ix5 K)) = true := c.fact 100
  have xk5 : PySem.W.keepIn K (.ref (aa_cx5 K)) = true := c.fact 101
  have xb5 : PySem.W.subIn K (.ref (aa_cx5 K)) (.type "BaseException") = some true := HK.eqB_ok (c.fact 102)
  have xt5 : PySem.W.typeIn K (.ref (aa_cx5 K)) = some (.type "type") := HK.eqB_ok (c.fact 103)
  have xd5 : PySem.W.hasDictIn K (aa_cx5 K) = true := c.fact 104
  obtain ⟨xoc5, xod5, xdc5, xpm5, xan5, xcd5, xct5, xsl5, xl5, xe5⟩ := HK.f_okN (c.fn 15) (c.fact 105)
  have xn1_5 : PySem.W.takerIn K (aa_cx5 K) "kind" = some none := HK.eqB_ok (c.fact 106)
  have xm1_5 : PySem.W.findIn K (.ref (aa_cx5 K)) "kind" = some none := HK.eqB_ok (c.fact 107)
  have xn2_5 : PySem.W.takerIn K (aa_cx5 K) "value" = some none := HK.eqB_ok (c.fact 108)
  have xm2_5 : PySem.W.findIn K (.ref (aa_cx5 K)) "value" = some none := HK.eqB_ok (c.fact 109)
  have xa6 : PySem.W.nsIn K mainGlobals "InvalidWord" = some (some (.ref (aa_cx6 K))) := HK.eqB_ok (c.fact 110)
  have xi6 : PySem.W.excInitIn K (aa_cx6 K) bm_ValueError "ValueError.__new__" = true := c.fact 111
  have xo6 : PySem.W.excOver K (aa_cx6 K) bm_ValueError = true := c.fact 112
  have xs6 : PySem.W.findIn K (.ref (aa_cx6 K)) "__setattr__" = some (some (.builtin "object.__setattr__")) := HK.eqB_ok (c.fact 113)
  have xg6 : PySem.W.findIn K (.ref (aa_cx6 K)) "__getattribute__" = some (some (.builtin "BaseException.__getattribute__")) := HK.eqB_ok (c.fact 114)
  have xh6 : PySem.W.findIn K (.ref (aa_cx6 K)) "__getattr__" = some none := HK.eqB_ok (c.fact 115)
  have xc6 : PySem.W.findIn K (.ref (aa_cx6 K)) "__init__" = some (some (.ref (aa_ix6 K))) := HK.eqB_ok (c.fact 116)
  have xf6 : PySem.W.isFn K (.ref (aa_ix6 K)) = true := c.fact 117
  have xk6 : PySem.W.keepIn K (.ref (aa_cx6 K)) = true := c.fact 118
  have xb6 : PySem.W.subIn K (.ref (aa_cx6 K)) (.type "BaseException") = some true := HK.eqB_ok (c.fact 119)
  have xt6 : PySem.W.typeIn K (.ref (aa_cx6 K)) = some (.type "type") := HK.eqB_ok (c.fact 120)
  have xd6 : PySem.W.hasDictIn K (aa_cx6 K) = true := c.fact 121
  obtain ⟨xoc6, xod6, xdc6, xpm6, xan6, xcd6, xct6, xsl6, xl6, xe6⟩ := HK.f_okN (c.fn 16) (c.fact 122)
  have xn1_6 : PySem.W.takerIn K (aa_cx6 K) "name" = some none := HK.eqB_ok (c.fact 123)
  have xm1_6 : PySem.W.findIn K (.ref (aa_cx6 K)) "name" = some none := HK.eqB_ok (c.fact 124)
  have xn2_6 : PySem.W.takerIn K (aa_cx6 K) "value" = some none := HK.eqB_ok (c.fact 125)
  have xm2_6 : PySem.W.findIn K (.ref (aa_cx6 K)) "value" = some none := HK.eqB_ok (c.fact 126)
  have xa7 : PySem.W.nsIn K mainGlobals "InvalidHolds" = some (some (.ref (aa_cx7 K))) := HK.eqB_ok (c.fact 127)
  have xi7 : PySem.W.excInitIn K (aa_cx7 K) bm_ValueError "ValueError.__new__" = true := c.fact 128
  have xo7 : PySem.W.excOver K (aa_cx7 K) bm_ValueError = true := c.fact 129
  have xs7 : PySem.W.findIn K (.ref (aa_cx7 K)) "__setattr__" = some (some (.builtin "object.__setattr__")) := HK.eqB_ok (c.fact 130)
  have xg7 : PySem.W.findIn K (.ref (aa_cx7 K)) "__getattribute__" = some (some (.builtin "BaseException.__getattribute__")) := HK.eqB_ok (c.fact 131)
  have xh7 : PySem.W.findIn K (.ref (aa_cx7 K)) "__getattr__" = some none := HK.eqB_ok (c.fact 132)
  have xc7 : PySem.W.findIn K (.ref (aa_cx7 K)) "__init__" = some (some (.ref (aa_ix7 K))) := HK.eqB_ok (c.fact 133)
  have xf7 : PySem.W.isFn K (.ref (aa_ix7 K)) = true := c.fact 134
  have xk7 : PySem.W.keepIn K (.ref (aa_cx7 K)) = true := c.fact 135
  have xb7 : PySem.W.subIn K (.ref (aa_cx7 K)) (.type "BaseException") = some true := HK.eqB_ok (c.fact 136)
  have xt7 : PySem.W.typeIn K (.ref (aa_cx7 K)) = some (.type "type") := HK.eqB_ok (c.fact 137)
  have xd7 : PySem.W.hasDictIn K (aa_cx7 K) = true := c.fact 138
  obtain ⟨xoc7, xod7, xdc7, xpm7, xan7, xcd7, xct7, xsl7, xl7, xe7⟩ := HK.f_okN (c.fn 17) (c.fact 139)
  have xn7 : PySem.W.takerIn K (aa_cx7 K) "value" = some none := HK.eqB_ok (c.fact 140)
  have xm7 : PySem.W.findIn K (.ref (aa_cx7 K)) "value" = some none := HK.eqB_ok (c.fact 141)
  have xa8 : PySem.W.nsIn K mainGlobals "InvalidHand" = some (some (.ref (aa_cx8 K))) := HK.eqB_ok (c.fact 142)
  have xi8 : PySem.W.excInitIn K (aa_cx8 K) bm_ValueError "ValueError.__new__" = true := c.fact 143
  have xo8 : PySem.W.excOver K (aa_cx8 K) bm_ValueError = true := c.fact 144
  have xs8 : PySem.W.findIn K (.ref (aa_cx8 K)) "__setattr__" = some (some (.builtin "object.__setattr__")) := HK.eqB_ok (c.fact 145)
  have xg8 : PySem.W.findIn K (.ref (aa_cx8 K)) "__getattribute__" = some (some (.builtin "BaseException.__getattribute__")) := HK.eqB_ok (c.fact 146)
  have xh8 : PySem.W.findIn K (.ref (aa_cx8 K)) "__getattr__" = some none := HK.eqB_ok (c.fact 147)
  have xc8 : PySem.W.findIn K (.ref (aa_cx8 K)) "__init__" = some (some (.ref (aa_ix8 K))) := HK.eqB_ok (c.fact 148)
  have xf8 : PySem.W.isFn K (.ref (aa_ix8 K)) = true := c.fact 149
  have xk8 : PySem.W.keepIn K (.ref (aa_cx8 K)) = true := c.fact 150
  have xb8 : PySem.W.subIn K (.ref (aa_cx8 K)) (.type "BaseException") = some true := HK.eqB_ok (c.fact 151)
  have xt8 : PySem.W.typeIn K (.ref (aa_cx8 K)) = some (.type "type") := HK.eqB_ok (c.fact 152)
  have xd8 : PySem.W.hasDictIn K (aa_cx8 K) = true := c.fact 153
  obtain ⟨xoc8, xod8, xdc8, xpm8, xan8, xcd8, xct8, xsl8, xl8, xe8⟩ := HK.f_okN (c.fn 18) (c.fact 154)
  have xn8 : PySem.W.takerIn K (aa_cx8 K) "value" = some none := HK.eqB_ok (c.fact 155)
  have xm8 : PySem.W.findIn K (.ref (aa_cx8 K)) "value" = some none := HK.eqB_ok (c.fact 156)
  have xa9 : PySem.W.nsIn K mainGlobals "InvalidThing" = some (some (.ref (aa_cx9 K))) := HK.eqB_ok (c.fact 157)
  have xi9 : PySem.W.excInitIn K (aa_cx9 K) bm_ValueError "ValueError.__new__" = true := c.fact 158
  have xo9 : PySem.W.excOver K (aa_cx9 K) bm_ValueError = true := c.fact 159
  have xs9 : PySem.W.findIn K (.ref (aa_cx9 K)) "__setattr__" = some (some (.builtin "object.__setattr__")) := HK.eqB_ok (c.fact 160)
  have xg9 : PySem.W.findIn K (.ref (aa_cx9 K)) "__getattribute__" = some (some (.builtin "BaseException.__getattribute__")) := HK.eqB_ok (c.fact 161)
  have xh9 : PySem.W.findIn K (.ref (aa_cx9 K)) "__getattr__" = some none := HK.eqB_ok (c.fact 162)
  have xc9 : PySem.W.findIn K (.ref (aa_cx9 K)) "__init__" = some (some (.ref (aa_ix9 K))) := HK.eqB_ok (c.fact 163)
  have xf9 : PySem.W.isFn K (.ref (aa_ix9 K)) = true := c.fact 164
  have xk9 : PySem.W.keepIn K (.ref (aa_cx9 K)) = true := c.fact 165
  have xb9 : PySem.W.subIn K (.ref (aa_cx9 K)) (.type "BaseException") = some true := HK.eqB_ok (c.fact 166)
  have xt9 : PySem.W.typeIn K (.ref (aa_cx9 K)) = some (.type "type") := HK.eqB_ok (c.fact 167)
  have xd9 : PySem.W.hasDictIn K (aa_cx9 K) = true := c.fact 168
  obtain ⟨xoc9, xod9, xdc9, xpm9, xan9, xcd9, xct9, xsl9, xl9, xe9⟩ := HK.f_okN (c.fn 19) (c.fact 169)
  have xn9 : PySem.W.takerIn K (aa_cx9 K) "value" = some none := HK.eqB_ok (c.fact 170)
  have xm9 : PySem.W.findIn K (.ref (aa_cx9 K)) "value" = some none := HK.eqB_ok (c.fact 171)
  have xa10 : PySem.W.nsIn K mainGlobals "InvalidLimit" = some (some (.ref (aa_cx10 K))) := HK.eqB_ok (c.fact 172)
  have xi10 : PySem.W.excInitIn K (aa_cx10 K) bm_ValueError "ValueError.__new__" = true := c.fact 173
  have xo10 : PySem.W.excOver K (aa_cx10 K) bm_ValueError = true := c.fact 174
  have xs10 : PySem.W.findIn K (.ref (aa_cx10 K)) "__setattr__" = some (some (.builtin "object.__setattr__")) := HK.eqB_ok (c.fact 175)
  have xg10 : PySem.W.findIn K (.ref (aa_cx10 K)) "__getattribute__" = some (some (.builtin "BaseException.__getattribute__")) := HK.eqB_ok (c.fact 176)
  have xh10 : PySem.W.findIn K (.ref (aa_cx10 K)) "__getattr__" = some none := HK.eqB_ok (c.fact 177)
  have xc10 : PySem.W.findIn K (.ref (aa_cx10 K)) "__init__" = some (some (.ref (aa_ix10 K))) := HK.eqB_ok (c.fact 178)
  have xf10 : PySem.W.isFn K (.ref (aa_ix10 K)) = true := c.fact 179
  have xk10 : PySem.W.keepIn K (.ref (aa_cx10 K)) = true := c.fact 180
  have xb10 : PySem.W.subIn K (.ref (aa_cx10 K)) (.type "BaseException") = some true := HK.eqB_ok (c.fact 181)
  have xt10 : PySem.W.typeIn K (.ref (aa_cx10 K)) = some (.type "type") := HK.eqB_ok (c.fact 182)
  have xd10 : PySem.W.hasDictIn K (aa_cx10 K) = true := c.fact 183
  obtain ⟨xoc10, xod10, xdc10, xpm10, xan10, xcd10, xct10, xsl10, xl10, xe10⟩ := HK.f_okN (c.fn 20) (c.fact 184)
  have xn10 : PySem.W.takerIn K (aa_cx10 K) "value" = some none := HK.eqB_ok (c.fact 185)
  have xm10 : PySem.W.findIn K (.ref (aa_cx10 K)) "value" = some none := HK.eqB_ok (c.fact 186)
  have xa11 : PySem.W.nsIn K mainGlobals "InvalidCount" = some (some (.ref (aa_cx11 K))) := HK.eqB_ok (c.fact 187)
  have xi11 : PySem.W.excInitIn K (aa_cx11 K) bm_ValueError "ValueError.__new__" = true := c.fact 188
  have xo11 : PySem.W.excOver K (aa_cx11 K) bm_ValueError = true := c.fact 189
  have xs11 : PySem.W.findIn K (.ref (aa_cx11 K)) "__setattr__" = some (some (.builtin "object.__setattr__")) := HK.eqB_ok (c.fact 190)
  have xg11 : PySem.W.findIn K (.ref (aa_cx11 K)) "__getattribute__" = some (some (.builtin "BaseException.__getattribute__")) := HK.eqB_ok (c.fact 191)
  have xh11 : PySem.W.findIn K (.ref (aa_cx11 K)) "__getattr__" = some none := HK.eqB_ok (c.fact 192)
  have xc11 : PySem.W.findIn K (.ref (aa_cx11 K)) "__init__" = some (some (.ref (aa_ix11 K))) := HK.eqB_ok (c.fact 193)
  have xf11 : PySem.W.isFn K (.ref (aa_ix11 K)) = true := c.fact 194
  have xk11 : PySem.W.keepIn K (.ref (aa_cx11 K)) = true := c.fact 195
  have xb11 : PySem.W.subIn K (.ref (aa_cx11 K)) (.type "BaseException") = some true := HK.eqB_ok (c.fact 196)
  have xt11 : PySem.W.typeIn K (.ref (aa_cx11 K)) = some (.type "type") := HK.eqB_ok (c.fact 197)
  have xd11 : PySem.W.hasDictIn K (aa_cx11 K) = true := c.fact 198
  obtain ⟨xoc11, xod11, xdc11, xpm11, xan11, xcd11, xct11, xsl11, xl11, xe11⟩ := HK.f_okN (c.fn 21) (c.fact 199)
  have xn11 : PySem.W.takerIn K (aa_cx11 K) "value" = some none := HK.eqB_ok (c.fact 200)
  have xm11 : PySem.W.findIn K (.ref (aa_cx11 K)) "value" = some none := HK.eqB_ok (c.fact 201)
  have xa12 : PySem.W.nsIn K mainGlobals "InvalidUnit" = some (some (.ref (aa_cx12 K))) := HK.eqB_ok (c.fact 202)
  have xi12 : PySem.W.excInitIn K (aa_cx12 K) bm_ValueError "ValueError.__new__" = true := c.fact 203
  have xo12 : PySem.W.excOver K (aa_cx12 K) bm_ValueError = true := c.fact 204
  have xs12 : PySem.W.findIn K (.ref (aa_cx12 K)) "__setattr__" = some (some (.builtin "object.__setattr__")) := HK.eqB_ok (c.fact 205)
  have xg12 : PySem.W.findIn K (.ref (aa_cx12 K)) "__getattribute__" = some (some (.builtin "BaseException.__getattribute__")) := HK.eqB_ok (c.fact 206)
  have xh12 : PySem.W.findIn K (.ref (aa_cx12 K)) "__getattr__" = some none := HK.eqB_ok (c.fact 207)
  have xc12 : PySem.W.findIn K (.ref (aa_cx12 K)) "__init__" = some (some (.ref (aa_ix12 K))) := HK.eqB_ok (c.fact 208)
  have xf12 : PySem.W.isFn K (.ref (aa_ix12 K)) = true := c.fact 209
  have xk12 : PySem.W.keepIn K (.ref (aa_cx12 K)) = true := c.fact 210
  have xb12 : PySem.W.subIn K (.ref (aa_cx12 K)) (.type "BaseException") = some true := HK.eqB_ok (c.fact 211)
  have xt12 : PySem.W.typeIn K (.ref (aa_cx12 K)) = some (.type "type") := HK.eqB_ok (c.fact 212)
  have xd12 : PySem.W.hasDictIn K (aa_cx12 K) = true := c.fact 213
  obtain ⟨xoc12, xod12, xdc12, xpm12, xan12, xcd12, xct12, xsl12, xl12, xe12⟩ := HK.f_okN (c.fn 22) (c.fact 214)
  have xn12 : PySem.W.takerIn K (aa_cx12 K) "value" = some none := HK.eqB_ok (c.fact 215)
  have xm12 : PySem.W.findIn K (.ref (aa_cx12 K)) "value" = some none := HK.eqB_ok (c.fact 216)
  have xa13 : PySem.W.nsIn K mainGlobals "InvalidState" = some (some (.ref (aa_cx13 K))) := HK.eqB_ok (c.fact 217)
  have xi13 : PySem.W.excInitIn K (aa_cx13 K) bm_ValueError "ValueError.__new__" = true := c.fact 218
  have xo13 : PySem.W.excOver K (aa_cx13 K) bm_ValueError = true := c.fact 219
  have xs13 : PySem.W.findIn K (.ref (aa_cx13 K)) "__setattr__" = some (some (.builtin "object.__setattr__")) := HK.eqB_ok (c.fact 220)
  have xg13 : PySem.W.findIn K (.ref (aa_cx13 K)) "__getattribute__" = some (some (.builtin "BaseException.__getattribute__")) := HK.eqB_ok (c.fact 221)
  have xh13 : PySem.W.findIn K (.ref (aa_cx13 K)) "__getattr__" = some none := HK.eqB_ok (c.fact 222)
  have xc13 : PySem.W.findIn K (.ref (aa_cx13 K)) "__init__" = some (some (.ref (aa_ix13 K))) := HK.eqB_ok (c.fact 223)
  have xf13 : PySem.W.isFn K (.ref (aa_ix13 K)) = true := c.fact 224
  have xk13 : PySem.W.keepIn K (.ref (aa_cx13 K)) = true := c.fact 225
  have xb13 : PySem.W.subIn K (.ref (aa_cx13 K)) (.type "BaseException") = some true := HK.eqB_ok (c.fact 226)
  have xt13 : PySem.W.typeIn K (.ref (aa_cx13 K)) = some (.type "type") := HK.eqB_ok (c.fact 227)
  have xd13 : PySem.W.hasDictIn K (aa_cx13 K) = true := c.fact 228
  obtain ⟨xoc13, xod13, xdc13, xpm13, xan13, xcd13, xct13, xsl13, xl13, xe13⟩ := HK.f_okN (c.fn 23) (c.fact 229)
  have xn13 : PySem.W.takerIn K (aa_cx13 K) "value" = some none := HK.eqB_ok (c.fact 230)
  have xm13 : PySem.W.findIn K (.ref (aa_cx13 K)) "value" = some none := HK.eqB_ok (c.fact 231)
  have xa14 : PySem.W.nsIn K mainGlobals "InvalidWish" = some (some (.ref (aa_cx14 K))) := HK.eqB_ok (c.fact 232)
  have xi14 : PySem.W.excInitIn K (aa_cx14 K) bm_ValueError "ValueError.__new__" = true := c.fact 233
  have xo14 : PySem.W.excOver K (aa_cx14 K) bm_ValueError = true := c.fact 234
  have xs14 : PySem.W.findIn K (.ref (aa_cx14 K)) "__setattr__" = some (some (.builtin "object.__setattr__")) := HK.eqB_ok (c.fact 235)
  have xg14 : PySem.W.findIn K (.ref (aa_cx14 K)) "__getattribute__" = some (some (.builtin "BaseException.__getattribute__")) := HK.eqB_ok (c.fact 236)
  have xh14 : PySem.W.findIn K (.ref (aa_cx14 K)) "__getattr__" = some none := HK.eqB_ok (c.fact 237)
  have xc14 : PySem.W.findIn K (.ref (aa_cx14 K)) "__init__" = some (some (.ref (aa_ix14 K))) := HK.eqB_ok (c.fact 238)
  have xf14 : PySem.W.isFn K (.ref (aa_ix14 K)) = true := c.fact 239
  have xk14 : PySem.W.keepIn K (.ref (aa_cx14 K)) = true := c.fact 240
  have xb14 : PySem.W.subIn K (.ref (aa_cx14 K)) (.type "BaseException") = some true := HK.eqB_ok (c.fact 241)
  have xt14 : PySem.W.typeIn K (.ref (aa_cx14 K)) = some (.type "type") := HK.eqB_ok (c.fact 242)
  have xd14 : PySem.W.hasDictIn K (aa_cx14 K) = true := c.fact 243
  obtain ⟨xoc14, xod14, xdc14, xpm14, xan14, xcd14, xct14, xsl14, xl14, xe14⟩ := HK.f_okN (c.fn 24) (c.fact 244)
  have xn14 : PySem.W.takerIn K (aa_cx14 K) "value" = some none := HK.eqB_ok (c.fact 245)
  have xm14 : PySem.W.findIn K (.ref (aa_cx14 K)) "value" = some none := HK.eqB_ok (c.fact 246)
  have xa15 : PySem.W.nsIn K mainGlobals "InvalidWishes" = some (some (.ref (aa_cx15 K))) := HK.eqB_ok (c.fact 247)
  have xi15 : PySem.W.excInitIn K (aa_cx15 K) bm_ValueError "ValueError.__new__" = true := c.fact 248
  have xo15 : PySem.W.excOver K (aa_cx15 K) bm_ValueError = true := c.fact 249
  have xs15 : PySem.W.findIn K (.ref (aa_cx15 K)) "__setattr__" = some (some (.builtin "object.__setattr__")) := HK.eqB_ok (c.fact 250)
  have xg15 : PySem.W.findIn K (.ref (aa_cx15 K)) "__getattribute__" = some (some (.builtin "BaseException.__getattribute__")) := HK.eqB_ok (c.fact 251)
  have xh15 : PySem.W.findIn K (.ref (aa_cx15 K)) "__getattr__" = some none := HK.eqB_ok (c.fact 252)
  have xc15 : PySem.W.findIn K (.ref (aa_cx15 K)) "__init__" = some (some (.ref (aa_ix15 K))) := HK.eqB_ok (c.fact 253)
  have xf15 : PySem.W.isFn K (.ref (aa_ix15 K)) = true := c.fact 254
  have xk15 : PySem.W.keepIn K (.ref (aa_cx15 K)) = true := c.fact 255
  have xb15 : PySem.W.subIn K (.ref (aa_cx15 K)) (.type "BaseException") = some true := HK.eqB_ok (c.fact 256)
  have xt15 : PySem.W.typeIn K (.ref (aa_cx15 K)) = some (.type "type") := HK.eqB_ok (c.fact 257)
  have xd15 : PySem.W.hasDictIn K (aa_cx15 K) = true := c.fact 258
  obtain ⟨xoc15, xod15, xdc15, xpm15, xan15, xcd15, xct15, xsl15, xl15, xe15⟩ := HK.f_okN (c.fn 25) (c.fact 259)
  have xn15 : PySem.W.takerIn K (aa_cx15 K) "value" = some none := HK.eqB_ok (c.fact 260)
  have xm15 : PySem.W.findIn K (.ref (aa_cx15 K)) "value" = some none := HK.eqB_ok (c.fact 261)
  have xa16 : PySem.W.nsIn K mainGlobals "InvalidDeed" = some (some (.ref (aa_cx16 K))) := HK.eqB_ok (c.fact 262)
  have xi16 : PySem.W.excInitIn K (aa_cx16 K) bm_ValueError "ValueError.__new__" = true := c.fact 263
  have xo16 : PySem.W.excOver K (aa_cx16 K) bm_ValueError = true := c.fact 264
  have xs16 : PySem.W.findIn K (.ref (aa_cx16 K)) "__setattr__" = some (some (.builtin "object.__setattr__")) := HK.eqB_ok (c.fact 265)
  have xg16 : PySem.W.findIn K (.ref (aa_cx16 K)) "__getattribute__" = some (some (.builtin "BaseException.__getattribute__")) := HK.eqB_ok (c.fact 266)
  have xh16 : PySem.W.findIn K (.ref (aa_cx16 K)) "__getattr__" = some none := HK.eqB_ok (c.fact 267)
  have xc16 : PySem.W.findIn K (.ref (aa_cx16 K)) "__init__" = some (some (.ref (aa_ix16 K))) := HK.eqB_ok (c.fact 268)
  have xf16 : PySem.W.isFn K (.ref (aa_ix16 K)) = true := c.fact 269
  have xk16 : PySem.W.keepIn K (.ref (aa_cx16 K)) = true := c.fact 270
  have xb16 : PySem.W.subIn K (.ref (aa_cx16 K)) (.type "BaseException") = some true := HK.eqB_ok (c.fact 271)
  have xt16 : PySem.W.typeIn K (.ref (aa_cx16 K)) = some (.type "type") := HK.eqB_ok (c.fact 272)
  have xd16 : PySem.W.hasDictIn K (aa_cx16 K) = true := c.fact 273
  obtain ⟨xoc16, xod16, xdc16, xpm16, xan16, xcd16, xct16, xsl16, xl16, xe16⟩ := HK.f_okN (c.fn 26) (c.fact 274)
  have xn16 : PySem.W.takerIn K (aa_cx16 K) "value" = some none := HK.eqB_ok (c.fact 275)
  have xm16 : PySem.W.findIn K (.ref (aa_cx16 K)) "value" = some none := HK.eqB_ok (c.fact 276)
  have xa17 : PySem.W.nsIn K mainGlobals "InvalidText" = some (some (.ref (aa_cx17 K))) := HK.eqB_ok (c.fact 277)
  have xi17 : PySem.W.excInitIn K (aa_cx17 K) bm_ValueError "ValueError.__new__" = true := c.fact 278
  have xo17 : PySem.W.excOver K (aa_cx17 K) bm_ValueError = true := c.fact 279
  have xs17 : PySem.W.findIn K (.ref (aa_cx17 K)) "__setattr__" = some (some (.builtin "object.__setattr__")) := HK.eqB_ok (c.fact 280)
  have xg17 : PySem.W.findIn K (.ref (aa_cx17 K)) "__getattribute__" = some (some (.builtin "BaseException.__getattribute__")) := HK.eqB_ok (c.fact 281)
  have xh17 : PySem.W.findIn K (.ref (aa_cx17 K)) "__getattr__" = some none := HK.eqB_ok (c.fact 282)
  have xc17 : PySem.W.findIn K (.ref (aa_cx17 K)) "__init__" = some (some (.ref (aa_ix17 K))) := HK.eqB_ok (c.fact 283)
  have xf17 : PySem.W.isFn K (.ref (aa_ix17 K)) = true := c.fact 284
  have xk17 : PySem.W.keepIn K (.ref (aa_cx17 K)) = true := c.fact 285
  have xb17 : PySem.W.subIn K (.ref (aa_cx17 K)) (.type "BaseException") = some true := HK.eqB_ok (c.fact 286)
  have xt17 : PySem.W.typeIn K (.ref (aa_cx17 K)) = some (.type "type") := HK.eqB_ok (c.fact 287)
  have xd17 : PySem.W.hasDictIn K (aa_cx17 K) = true := c.fact 288
  obtain ⟨xoc17, xod17, xdc17, xpm17, xan17, xcd17, xct17, xsl17, xl17, xe17⟩ := HK.f_okN (c.fn 27) (c.fact 289)
  have xn17 : PySem.W.takerIn K (aa_cx17 K) "line" = some none := HK.eqB_ok (c.fact 290)
  have xm17 : PySem.W.findIn K (.ref (aa_cx17 K)) "line" = some none := HK.eqB_ok (c.fact 291)
  have xa18 : PySem.W.nsIn K mainGlobals "InvalidClaim" = some (some (.ref (aa_cx18 K))) := HK.eqB_ok (c.fact 292)
  have xi18 : PySem.W.excInitIn K (aa_cx18 K) bm_ValueError "ValueError.__new__" = true := c.fact 293
  have xo18 : PySem.W.excOver K (aa_cx18 K) bm_ValueError = true := c.fact 294
  have xs18 : PySem.W.findIn K (.ref (aa_cx18 K)) "__setattr__" = some (some (.builtin "object.__setattr__")) := HK.eqB_ok (c.fact 295)
  have xg18 : PySem.W.findIn K (.ref (aa_cx18 K)) "__getattribute__" = some (some (.builtin "BaseException.__getattribute__")) := HK.eqB_ok (c.fact 296)
  have xh18 : PySem.W.findIn K (.ref (aa_cx18 K)) "__getattr__" = some none := HK.eqB_ok (c.fact 297)
  have xc18 : PySem.W.findIn K (.ref (aa_cx18 K)) "__init__" = some (some (.ref (aa_ix18 K))) := HK.eqB_ok (c.fact 298)
  have xf18 : PySem.W.isFn K (.ref (aa_ix18 K)) = true := c.fact 299
  have xk18 : PySem.W.keepIn K (.ref (aa_cx18 K)) = true := c.fact 300
  have xb18 : PySem.W.subIn K (.ref (aa_cx18 K)) (.type "BaseException") = some true := HK.eqB_ok (c.fact 301)
  have xt18 : PySem.W.typeIn K (.ref (aa_cx18 K)) = some (.type "type") := HK.eqB_ok (c.fact 302)
  have xd18 : PySem.W.hasDictIn K (aa_cx18 K) = true := c.fact 303
  obtain ⟨xoc18, xod18, xdc18, xpm18, xan18, xcd18, xct18, xsl18, xl18, xe18⟩ := HK.f_okN (c.fn 28) (c.fact 304)
  have xn18 : PySem.W.takerIn K (aa_cx18 K) "value" = some none := HK.eqB_ok (c.fact 305)
  have xm18 : PySem.W.findIn K (.ref (aa_cx18 K)) "value" = some none := HK.eqB_ok (c.fact 306)
  have xa19 : PySem.W.nsIn K mainGlobals "InvalidCommand" = some (some (.ref (aa_cx19 K))) := HK.eqB_ok (c.fact 307)
  have xi19 : PySem.W.excInitIn K (aa_cx19 K) bm_ValueError "ValueError.__new__" = true := c.fact 308
  have xo19 : PySem.W.excOver K (aa_cx19 K) bm_ValueError = true := c.fact 309
  have xs19 : PySem.W.findIn K (.ref (aa_cx19 K)) "__setattr__" = some (some (.builtin "object.__setattr__")) := HK.eqB_ok (c.fact 310)
  have xg19 : PySem.W.findIn K (.ref (aa_cx19 K)) "__getattribute__" = some (some (.builtin "BaseException.__getattribute__")) := HK.eqB_ok (c.fact 311)
  have xh19 : PySem.W.findIn K (.ref (aa_cx19 K)) "__getattr__" = some none := HK.eqB_ok (c.fact 312)
  have xc19 : PySem.W.findIn K (.ref (aa_cx19 K)) "__init__" = some (some (.ref (aa_ix19 K))) := HK.eqB_ok (c.fact 313)
  have xf19 : PySem.W.isFn K (.ref (aa_ix19 K)) = true := c.fact 314
  have xk19 : PySem.W.keepIn K (.ref (aa_cx19 K)) = true := c.fact 315
  have xb19 : PySem.W.subIn K (.ref (aa_cx19 K)) (.type "BaseException") = some true := HK.eqB_ok (c.fact 316)
  have xt19 : PySem.W.typeIn K (.ref (aa_cx19 K)) = some (.type "type") := HK.eqB_ok (c.fact 317)
  have xd19 : PySem.W.hasDictIn K (aa_cx19 K) = true := c.fact 318
  obtain ⟨xoc19, xod19, xdc19, xpm19, xan19, xcd19, xct19, xsl19, xl19, xe19⟩ := HK.f_okN (c.fn 29) (c.fact 319)
  have xn19 : PySem.W.takerIn K (aa_cx19 K) "value" = some none := HK.eqB_ok (c.fact 320)
  have xm19 : PySem.W.findIn K (.ref (aa_cx19 K)) "value" = some none := HK.eqB_ok (c.fact 321)
  have xa20 : PySem.W.nsIn K mainGlobals "IsTop" = some (some (.ref (aa_cx20 K))) := HK.eqB_ok (c.fact 322)
  have xi20 : PySem.W.excInitIn K (aa_cx20 K) bm_RuntimeError "RuntimeError.__new__" = true := c.fact 323
  have xo20 : PySem.W.excOver K (aa_cx20 K) bm_RuntimeError = true := c.fact 324
  have xs20 : PySem.W.findIn K (.ref (aa_cx20 K)) "__setattr__" = some (some (.builtin "object.__setattr__")) := HK.eqB_ok (c.fact 325)
  have xg20 : PySem.W.findIn K (.ref (aa_cx20 K)) "__getattribute__" = some (some (.builtin "BaseException.__getattribute__")) := HK.eqB_ok (c.fact 326)
  have xh20 : PySem.W.findIn K (.ref (aa_cx20 K)) "__getattr__" = some none := HK.eqB_ok (c.fact 327)
  have xc20 : PySem.W.findIn K (.ref (aa_cx20 K)) "__init__" = some (some (.ref (aa_ix20 K))) := HK.eqB_ok (c.fact 328)
  have xf20 : PySem.W.isFn K (.ref (aa_ix20 K)) = true := c.fact 329
  have xk20 : PySem.W.keepIn K (.ref (aa_cx20 K)) = true := c.fact 330
  have xb20 : PySem.W.subIn K (.ref (aa_cx20 K)) (.type "BaseException") = some true := HK.eqB_ok (c.fact 331)
  have xt20 : PySem.W.typeIn K (.ref (aa_cx20 K)) = some (.type "type") := HK.eqB_ok (c.fact 332)
  have xd20 : PySem.W.hasDictIn K (aa_cx20 K) = true := c.fact 333
  obtain ⟨xoc20, xod20, xdc20, xpm20, xan20, xcd20, xct20, xsl20, xl20, xe20⟩ := HK.f_okN (c.fn 30) (c.fact 334)
  have xa21 : PySem.W.nsIn K mainGlobals "Struck" = some (some (.ref (aa_cx21 K))) := HK.eqB_ok (c.fact 335)
  have xi21 : PySem.W.excInitIn K (aa_cx21 K) bm_RuntimeError "RuntimeError.__new__" = true := c.fact 336
  have xo21 : PySem.W.excOver K (aa_cx21 K) bm_RuntimeError = true := c.fact 337
  have xs21 : PySem.W.findIn K (.ref (aa_cx21 K)) "__setattr__" = some (some (.builtin "object.__setattr__")) := HK.eqB_ok (c.fact 338)
  have xg21 : PySem.W.findIn K (.ref (aa_cx21 K)) "__getattribute__" = some (some (.builtin "BaseException.__getattribute__")) := HK.eqB_ok (c.fact 339)
  have xh21 : PySem.W.findIn K (.ref (aa_cx21 K)) "__getattr__" = some none := HK.eqB_ok (c.fact 340)
  have xc21 : PySem.W.findIn K (.ref (aa_cx21 K)) "__init__" = some (some (.ref (aa_ix21 K))) := HK.eqB_ok (c.fact 341)
  have xf21 : PySem.W.isFn K (.ref (aa_ix21 K)) = true := c.fact 342
  have xk21 : PySem.W.keepIn K (.ref (aa_cx21 K)) = true := c.fact 343
  have xb21 : PySem.W.subIn K (.ref (aa_cx21 K)) (.type "BaseException") = some true := HK.eqB_ok (c.fact 344)
  have xt21 : PySem.W.typeIn K (.ref (aa_cx21 K)) = some (.type "type") := HK.eqB_ok (c.fact 345)
  have xd21 : PySem.W.hasDictIn K (aa_cx21 K) = true := c.fact 346
  obtain ⟨xoc21, xod21, xdc21, xpm21, xan21, xcd21, xct21, xsl21, xl21, xe21⟩ := HK.f_okN (c.fn 31) (c.fact 347)
  have xn21 : PySem.W.takerIn K (aa_cx21 K) "group" = some none := HK.eqB_ok (c.fact 348)
  have xm21 : PySem.W.findIn K (.ref (aa_cx21 K)) "group" = some none := HK.eqB_ok (c.fact 349)
  have xa22 : PySem.W.nsIn K mainGlobals "NotStruck" = some (some (.ref (aa_cx22 K))) := HK.eqB_ok (c.fact 350)
  have xi22 : PySem.W.excInitIn K (aa_cx22 K) bm_RuntimeError "RuntimeError.__new__" = true := c.fact 351
  have xo22 : PySem.W.excOver K (aa_cx22 K) bm_RuntimeError = true := c.fact 352
  have xs22 : PySem.W.findIn K (.ref (aa_cx22 K)) "__setattr__" = some (some (.builtin "object.__setattr__")) := HK.eqB_ok (c.fact 353)
  have xg22 : PySem.W.findIn K (.ref (aa_cx22 K)) "__getattribute__" = some (some (.builtin "BaseException.__getattribute__")) := HK.eqB_ok (c.fact 354)
  have xh22 : PySem.W.findIn K (.ref (aa_cx22 K)) "__getattr__" = some none := HK.eqB_ok (c.fact 355)
  have xc22 : PySem.W.findIn K (.ref (aa_cx22 K)) "__init__" = some (some (.ref (aa_ix22 K))) := HK.eqB_ok (c.fact 356)
  have xf22 : PySem.W.isFn K (.ref (aa_ix22 K)) = true := c.fact 357
  have xk22 : PySem.W.keepIn K (.ref (aa_cx22 K)) = true := c.fact 358
  have xb22 : PySem.W.subIn K (.ref (aa_cx22 K)) (.type "BaseException") = some true := HK.eqB_ok (c.fact 359)
  have xt22 : PySem.W.typeIn K (.ref (aa_cx22 K)) = some (.type "type") := HK.eqB_ok (c.fact 360)
  have xd22 : PySem.W.hasDictIn K (aa_cx22 K) = true := c.fact 361
  obtain ⟨xoc22, xod22, xdc22, xpm22, xan22, xcd22, xct22, xsl22, xl22, xe22⟩ := HK.f_okN (c.fn 32) (c.fact 362)
  have xn22 : PySem.W.takerIn K (aa_cx22 K) "group" = some none := HK.eqB_ok (c.fact 363)
  have xm22 : PySem.W.findIn K (.ref (aa_cx22 K)) "group" = some none := HK.eqB_ok (c.fact 364)
  have xa23 : PySem.W.nsIn K mainGlobals "HasChildren" = some (some (.ref (aa_cx23 K))) := HK.eqB_ok (c.fact 365)
  have xi23 : PySem.W.excInitIn K (aa_cx23 K) bm_RuntimeError "RuntimeError.__new__" = true := c.fact 366
  have xo23 : PySem.W.excOver K (aa_cx23 K) bm_RuntimeError = true := c.fact 367
  have xs23 : PySem.W.findIn K (.ref (aa_cx23 K)) "__setattr__" = some (some (.builtin "object.__setattr__")) := HK.eqB_ok (c.fact 368)
  have xg23 : PySem.W.findIn K (.ref (aa_cx23 K)) "__getattribute__" = some (some (.builtin "BaseException.__getattribute__")) := HK.eqB_ok (c.fact 369)
  have xh23 : PySem.W.findIn K (.ref (aa_cx23 K)) "__getattr__" = some none := HK.eqB_ok (c.fact 370)
  have xc23 : PySem.W.findIn K (.ref (aa_cx23 K)) "__init__" = some (some (.ref (aa_ix23 K))) := HK.eqB_ok (c.fact 371)
  have xf23 : PySem.W.isFn K (.ref (aa_ix23 K)) = true := c.fact 372
  have xk23 : PySem.W.keepIn K (.ref (aa_cx23 K)) = true := c.fact 373
  have xb23 : PySem.W.subIn K (.ref (aa_cx23 K)) (.type "BaseException") = some true := HK.eqB_ok (c.fact 374)
  have xt23 : PySem.W.typeIn K (.ref (aa_cx23 K)) = some (.type "type") := HK.eqB_ok (c.fact 375)
  have xd23 : PySem.W.hasDictIn K (aa_cx23 K) = true := c.fact 376
  obtain ⟨xoc23, xod23, xdc23, xpm23, xan23, xcd23, xct23, xsl23, xl23, xe23⟩ := HK.f_okN (c.fn 33) (c.fact 377)
  have xn23 : PySem.W.takerIn K (aa_cx23 K) "group" = some none := HK.eqB_ok (c.fact 378)
  have xm23 : PySem.W.findIn K (.ref (aa_cx23 K)) "group" = some none := HK.eqB_ok (c.fact 379)
  have xa24 : PySem.W.nsIn K mainGlobals "AtWork" = some (some (.ref (aa_cx24 K))) := HK.eqB_ok (c.fact 380)
  have xi24 : PySem.W.excInitIn K (aa_cx24 K) bm_RuntimeError "RuntimeError.__new__" = true := c.fact 381
  have xo24 : PySem.W.excOver K (aa_cx24 K) bm_RuntimeError = true := c.fact 382
  have xs24 : PySem.W.findIn K (.ref (aa_cx24 K)) "__setattr__" = some (some (.builtin "object.__setattr__")) := HK.eqB_ok (c.fact 383)
  have xg24 : PySem.W.findIn K (.ref (aa_cx24 K)) "__getattribute__" = some (some (.builtin "BaseException.__getattribute__")) := HK.eqB_ok (c.fact 384)
  have xh24 : PySem.W.findIn K (.ref (aa_cx24 K)) "__getattr__" = some none := HK.eqB_ok (c.fact 385)
  have xc24 : PySem.W.findIn K (.ref (aa_cx24 K)) "__init__" = some (some (.ref (aa_ix24 K))) := HK.eqB_ok (c.fact 386)
  have xf24 : PySem.W.isFn K (.ref (aa_ix24 K)) = true := c.fact 387
  have xk24 : PySem.W.keepIn K (.ref (aa_cx24 K)) = true := c.fact 388
  have xb24 : PySem.W.subIn K (.ref (aa_cx24 K)) (.type "BaseException") = some true := HK.eqB_ok (c.fact 389)
  have xt24 : PySem.W.typeIn K (.ref (aa_cx24 K)) = some (.type "type") := HK.eqB_ok (c.fact 390)
  have xd24 : PySem.W.hasDictIn K (aa_cx24 K) = true := c.fact 391
  obtain ⟨xoc24, xod24, xdc24, xpm24, xan24, xcd24, xct24, xsl24, xl24, xe24⟩ := HK.f_okN (c.fn 34) (c.fact 392)
  have xn24 : PySem.W.takerIn K (aa_cx24 K) "hand" = some none := HK.eqB_ok (c.fact 393)
  have xm24 : PySem.W.findIn K (.ref (aa_cx24 K)) "hand" = some none := HK.eqB_ok (c.fact 394)
  have xa25 : PySem.W.nsIn K mainGlobals "NoWalk" = some (some (.ref (aa_cx25 K))) := HK.eqB_ok (c.fact 395)
  have xi25 : PySem.W.excInitIn K (aa_cx25 K) bm_RuntimeError "RuntimeError.__new__" = true := c.fact 396
  have xo25 : PySem.W.excOver K (aa_cx25 K) bm_RuntimeError = true := c.fact 397
  have xs25 : PySem.W.findIn K (.ref (aa_cx25 K)) "__setattr__" = some (some (.builtin "object.__setattr__")) := HK.eqB_ok (c.fact 398)
  have xg25 : PySem.W.findIn K (.ref (aa_cx25 K)) "__getattribute__" = some (some (.builtin "BaseException.__getattribute__")) := HK.eqB_ok (c.fact 399)
  have xh25 : PySem.W.findIn K (.ref (aa_cx25 K)) "__getattr__" = some none := HK.eqB_ok (c.fact 400)
  have xc25 : PySem.W.findIn K (.ref (aa_cx25 K)) "__init__" = some (some (.ref (aa_ix25 K))) := HK.eqB_ok (c.fact 401)
  have xf25 : PySem.W.isFn K (.ref (aa_ix25 K)) = true := c.fact 402
  have xk25 : PySem.W.keepIn K (.ref (aa_cx25 K)) = true := c.fact 403
  have xb25 : PySem.W.subIn K (.ref (aa_cx25 K)) (.type "BaseException") = some true := HK.eqB_ok (c.fact 404)
  have xt25 : PySem.W.typeIn K (.ref (aa_cx25 K)) = some (.type "type") := HK.eqB_ok (c.fact 405)
  have xd25 : PySem.W.hasDictIn K (aa_cx25 K) = true := c.fact 406
  obtain ⟨xoc25, xod25, xdc25, xpm25, xan25, xcd25, xct25, xsl25, xl25, xe25⟩ := HK.f_okN (c.fn 35) (c.fact 407)
  have xn25 : PySem.W.takerIn K (aa_cx25 K) "hand" = some none := HK.eqB_ok (c.fact 408)
  have xm25 : PySem.W.findIn K (.ref (aa_cx25 K)) "hand" = some none := HK.eqB_ok (c.fact 409)
  have xa26 : PySem.W.nsIn K mainGlobals "MustSettle" = some (some (.ref (aa_cx26 K))) := HK.eqB_ok (c.fact 410)
  have xi26 : PySem.W.excInitIn K (aa_cx26 K) bm_RuntimeError "RuntimeError.__new__" = true := c.fact 411
  have xo26 : PySem.W.excOver K (aa_cx26 K) bm_RuntimeError = true := c.fact 412
  have xs26 : PySem.W.findIn K (.ref (aa_cx26 K)) "__setattr__" = some (some (.builtin "object.__setattr__")) := HK.eqB_ok (c.fact 413)
  have xg26 : PySem.W.findIn K (.ref (aa_cx26 K)) "__getattribute__" = some (some (.builtin "BaseException.__getattribute__")) := HK.eqB_ok (c.fact 414)
  have xh26 : PySem.W.findIn K (.ref (aa_cx26 K)) "__getattr__" = some none := HK.eqB_ok (c.fact 415)
  have xc26 : PySem.W.findIn K (.ref (aa_cx26 K)) "__init__" = some (some (.ref (aa_ix26 K))) := HK.eqB_ok (c.fact 416)
  have xf26 : PySem.W.isFn K (.ref (aa_ix26 K)) = true := c.fact 417
  have xk26 : PySem.W.keepIn K (.ref (aa_cx26 K)) = true := c.fact 418
  have xb26 : PySem.W.subIn K (.ref (aa_cx26 K)) (.type "BaseException") = some true := HK.eqB_ok (c.fact 419)
  have xt26 : PySem.W.typeIn K (.ref (aa_cx26 K)) = some (.type "type") := HK.eqB_ok (c.fact 420)
  have xd26 : PySem.W.hasDictIn K (aa_cx26 K) = true := c.fact 421
  obtain ⟨xoc26, xod26, xdc26, xpm26, xan26, xcd26, xct26, xsl26, xl26, xe26⟩ := HK.f_okN (c.fn 36) (c.fact 422)
  have xn26 : PySem.W.takerIn K (aa_cx26 K) "hand" = some none := HK.eqB_ok (c.fact 423)
  have xm26 : PySem.W.findIn K (.ref (aa_cx26 K)) "hand" = some none := HK.eqB_ok (c.fact 424)
  have xa27 : PySem.W.nsIn K mainGlobals "NoStock" = some (some (.ref (aa_cx27 K))) := HK.eqB_ok (c.fact 425)
  have xi27 : PySem.W.excInitIn K (aa_cx27 K) bm_RuntimeError "RuntimeError.__new__" = true := c.fact 426
  have xo27 : PySem.W.excOver K (aa_cx27 K) bm_RuntimeError = true := c.fact 427
  have xs27 : PySem.W.findIn K (.ref (aa_cx27 K)) "__setattr__" = some (some (.builtin "object.__setattr__")) := HK.eqB_ok (c.fact 428)
  have xg27 : PySem.W.findIn K (.ref (aa_cx27 K)) "__getattribute__" = some (some (.builtin "BaseException.__getattribute__")) := HK.eqB_ok (c.fact 429)
  have xh27 : PySem.W.findIn K (.ref (aa_cx27 K)) "__getattr__" = some none := HK.eqB_ok (c.fact 430)
  have xc27 : PySem.W.findIn K (.ref (aa_cx27 K)) "__init__" = some (some (.ref (aa_ix27 K))) := HK.eqB_ok (c.fact 431)
  have xf27 : PySem.W.isFn K (.ref (aa_ix27 K)) = true := c.fact 432
  have xk27 : PySem.W.keepIn K (.ref (aa_cx27 K)) = true := c.fact 433
  have xb27 : PySem.W.subIn K (.ref (aa_cx27 K)) (.type "BaseException") = some true := HK.eqB_ok (c.fact 434)
  have xt27 : PySem.W.typeIn K (.ref (aa_cx27 K)) = some (.type "type") := HK.eqB_ok (c.fact 435)
  have xd27 : PySem.W.hasDictIn K (aa_cx27 K) = true := c.fact 436
  obtain ⟨xoc27, xod27, xdc27, xpm27, xan27, xcd27, xct27, xsl27, xl27, xe27⟩ := HK.f_okN (c.fn 37) (c.fact 437)
  have xn27 : PySem.W.takerIn K (aa_cx27 K) "hand" = some none := HK.eqB_ok (c.fact 438)
  have xm27 : PySem.W.findIn K (.ref (aa_cx27 K)) "hand" = some none := HK.eqB_ok (c.fact 439)
  have xa28 : PySem.W.nsIn K mainGlobals "NotYours" = some (some (.ref (aa_cx28 K))) := HK.eqB_ok (c.fact 440)
  have xi28 : PySem.W.excInitIn K (aa_cx28 K) bm_RuntimeError "RuntimeError.__new__" = true := c.fact 441
  have xo28 : PySem.W.excOver K (aa_cx28 K) bm_RuntimeError = true := c.fact 442
  have xs28 : PySem.W.findIn K (.ref (aa_cx28 K)) "__setattr__" = some (some (.builtin "object.__setattr__")) := HK.eqB_ok (c.fact 443)
  have xg28 : PySem.W.findIn K (.ref (aa_cx28 K)) "__getattribute__" = some (some (.builtin "BaseException.__getattribute__")) := HK.eqB_ok (c.fact 444)
  have xh28 : PySem.W.findIn K (.ref (aa_cx28 K)) "__getattr__" = some none := HK.eqB_ok (c.fact 445)
  have xc28 : PySem.W.findIn K (.ref (aa_cx28 K)) "__init__" = some (some (.ref (aa_ix28 K))) := HK.eqB_ok (c.fact 446)
  have xf28 : PySem.W.isFn K (.ref (aa_ix28 K)) = true := c.fact 447
  have xk28 : PySem.W.keepIn K (.ref (aa_cx28 K)) = true := c.fact 448
  have xb28 : PySem.W.subIn K (.ref (aa_cx28 K)) (.type "BaseException") = some true := HK.eqB_ok (c.fact 449)
  have xt28 : PySem.W.typeIn K (.ref (aa_cx28 K)) = some (.type "type") := HK.eqB_ok (c.fact 450)
  have xd28 : PySem.W.hasDictIn K (aa_cx28 K) = true := c.fact 451
  obtain ⟨xoc28, xod28, xdc28, xpm28, xan28, xcd28, xct28, xsl28, xl28, xe28⟩ := HK.f_okN (c.fn 38) (c.fact 452)
  have xn28 : PySem.W.takerIn K (aa_cx28 K) "hand" = some none := HK.eqB_ok (c.fact 453)
  have xm28 : PySem.W.findIn K (.ref (aa_cx28 K)) "hand" = some none := HK.eqB_ok (c.fact 454)
  have xa29 : PySem.W.nsIn K mainGlobals "NotLiving" = some (some (.ref (aa_cx29 K))) := HK.eqB_ok (c.fact 455)
  have xi29 : PySem.W.excInitIn K (aa_cx29 K) bm_RuntimeError "RuntimeError.__new__" = true := c.fact 456
  have xo29 : PySem.W.excOver K (aa_cx29 K) bm_RuntimeError = true := c.fact 457
  have xs29 : PySem.W.findIn K (.ref (aa_cx29 K)) "__setattr__" = some (some (.builtin "object.__setattr__")) := HK.eqB_ok (c.fact 458)
  have xg29 : PySem.W.findIn K (.ref (aa_cx29 K)) "__getattribute__" = some (some (.builtin "BaseException.__getattribute__")) := HK.eqB_ok (c.fact 459)
  have xh29 : PySem.W.findIn K (.ref (aa_cx29 K)) "__getattr__" = some none := HK.eqB_ok (c.fact 460)
  have xc29 : PySem.W.findIn K (.ref (aa_cx29 K)) "__init__" = some (some (.ref (aa_ix29 K))) := HK.eqB_ok (c.fact 461)
  have xf29 : PySem.W.isFn K (.ref (aa_ix29 K)) = true := c.fact 462
  have xk29 : PySem.W.keepIn K (.ref (aa_cx29 K)) = true := c.fact 463
  have xb29 : PySem.W.subIn K (.ref (aa_cx29 K)) (.type "BaseException") = some true := HK.eqB_ok (c.fact 464)
  have xt29 : PySem.W.typeIn K (.ref (aa_cx29 K)) = some (.type "type") := HK.eqB_ok (c.fact 465)
  have xd29 : PySem.W.hasDictIn K (aa_cx29 K) = true := c.fact 466
  obtain ⟨xoc29, xod29, xdc29, xpm29, xan29, xcd29, xct29, xsl29, xl29, xe29⟩ := HK.f_okN (c.fn 39) (c.fact 467)
  have xn29 : PySem.W.takerIn K (aa_cx29 K) "thing" = some none := HK.eqB_ok (c.fact 468)
  have xm29 : PySem.W.findIn K (.ref (aa_cx29 K)) "thing" = some none := HK.eqB_ok (c.fact 469)
  have xa30 : PySem.W.nsIn K mainGlobals "NoRow" = some (some (.ref (aa_cx30 K))) := HK.eqB_ok (c.fact 470)
  have xi30 : PySem.W.excInitIn K (aa_cx30 K) bm_RuntimeError "RuntimeError.__new__" = true := c.fact 471
  have xo30 : PySem.W.excOver K (aa_cx30 K) bm_RuntimeError = true := c.fact 472
  have xs30 : PySem.W.findIn K (.ref (aa_cx30 K)) "__setattr__" = some (some (.builtin "object.__setattr__")) := HK.eqB_ok (c.fact 473)
  have xg30 : PySem.W.findIn K (.ref (aa_cx30 K)) "__getattribute__" = some (some (.builtin "BaseException.__getattribute__")) := HK.eqB_ok (c.fact 474)
  have xh30 : PySem.W.findIn K (.ref (aa_cx30 K)) "__getattr__" = some none := HK.eqB_ok (c.fact 475)
  have xc30 : PySem.W.findIn K (.ref (aa_cx30 K)) "__init__" = some (some (.ref (aa_ix30 K))) := HK.eqB_ok (c.fact 476)
  have xf30 : PySem.W.isFn K (.ref (aa_ix30 K)) = true := c.fact 477
  have xk30 : PySem.W.keepIn K (.ref (aa_cx30 K)) = true := c.fact 478
  have xb30 : PySem.W.subIn K (.ref (aa_cx30 K)) (.type "BaseException") = some true := HK.eqB_ok (c.fact 479)
  have xt30 : PySem.W.typeIn K (.ref (aa_cx30 K)) = some (.type "type") := HK.eqB_ok (c.fact 480)
  have xd30 : PySem.W.hasDictIn K (aa_cx30 K) = true := c.fact 481
  obtain ⟨xoc30, xod30, xdc30, xpm30, xan30, xcd30, xct30, xsl30, xl30, xe30⟩ := HK.f_okN (c.fn 40) (c.fact 482)
  have xn30 : PySem.W.takerIn K (aa_cx30 K) "kind" = some none := HK.eqB_ok (c.fact 483)
  have xm30 : PySem.W.findIn K (.ref (aa_cx30 K)) "kind" = some none := HK.eqB_ok (c.fact 484)
  have xa31 : PySem.W.nsIn K mainGlobals "UnderWay" = some (some (.ref (aa_cx31 K))) := HK.eqB_ok (c.fact 485)
  have xi31 : PySem.W.excInitIn K (aa_cx31 K) bm_RuntimeError "RuntimeError.__new__" = true := c.fact 486
  have xo31 : PySem.W.excOver K (aa_cx31 K) bm_RuntimeError = true := c.fact 487
  have xs31 : PySem.W.findIn K (.ref (aa_cx31 K)) "__setattr__" = some (some (.builtin "object.__setattr__")) := HK.eqB_ok (c.fact 488)
  have xg31 : PySem.W.findIn K (.ref (aa_cx31 K)) "__getattribute__" = some (some (.builtin "BaseException.__getattribute__")) := HK.eqB_ok (c.fact 489)
  have xh31 : PySem.W.findIn K (.ref (aa_cx31 K)) "__getattr__" = some none := HK.eqB_ok (c.fact 490)
  have xc31 : PySem.W.findIn K (.ref (aa_cx31 K)) "__init__" = some (some (.ref (aa_ix31 K))) := HK.eqB_ok (c.fact 491)
  have xf31 : PySem.W.isFn K (.ref (aa_ix31 K)) = true := c.fact 492
  have xk31 : PySem.W.keepIn K (.ref (aa_cx31 K)) = true := c.fact 493
  have xb31 : PySem.W.subIn K (.ref (aa_cx31 K)) (.type "BaseException") = some true := HK.eqB_ok (c.fact 494)
  have xt31 : PySem.W.typeIn K (.ref (aa_cx31 K)) = some (.type "type") := HK.eqB_ok (c.fact 495)
  have xd31 : PySem.W.hasDictIn K (aa_cx31 K) = true := c.fact 496
  obtain ⟨xoc31, xod31, xdc31, xpm31, xan31, xcd31, xct31, xsl31, xl31, xe31⟩ := HK.f_okN (c.fn 41) (c.fact 497)
  have xn1_31 : PySem.W.takerIn K (aa_cx31 K) "thing" = some none := HK.eqB_ok (c.fact 498)
  have xm1_31 : PySem.W.findIn K (.ref (aa_cx31 K)) "thing" = some none := HK.eqB_ok (c.fact 499)
  have xn2_31 : PySem.W.takerIn K (aa_cx31 K) "kind" = some none := HK.eqB_ok (c.fact 500)
  have xm2_31 : PySem.W.findIn K (.ref (aa_cx31 K)) "kind" = some none := HK.eqB_ok (c.fact 501)
  have xa32 : PySem.W.nsIn K mainGlobals "Held" = some (some (.ref (aa_cx32 K))) := HK.eqB_ok (c.fact 502)
  have xi32 : PySem.W.excInitIn K (aa_cx32 K) bm_RuntimeError "RuntimeError.__new__" = true := c.fact 503
  have xo32 : PySem.W.excOver K (aa_cx32 K) bm_RuntimeError = true := c.fact 504
  have xs32 : PySem.W.findIn K (.ref (aa_cx32 K)) "__setattr__" = some (some (.builtin "object.__setattr__")) := HK.eqB_ok (c.fact 505)
  have xg32 : PySem.W.findIn K (.ref (aa_cx32 K)) "__getattribute__" = some (some (.builtin "BaseException.__getattribute__")) := HK.eqB_ok (c.fact 506)
  have xh32 : PySem.W.findIn K (.ref (aa_cx32 K)) "__getattr__" = some none := HK.eqB_ok (c.fact 507)
  have xc32 : PySem.W.findIn K (.ref (aa_cx32 K)) "__init__" = some (some (.ref (aa_ix32 K))) := HK.eqB_ok (c.fact 508)
  have xf32 : PySem.W.isFn K (.ref (aa_ix32 K)) = true := c.fact 509
  have xk32 : PySem.W.keepIn K (.ref (aa_cx32 K)) = true := c.fact 510
  have xb32 : PySem.W.subIn K (.ref (aa_cx32 K)) (.type "BaseException") = some true := HK.eqB_ok (c.fact 511)
  have xt32 : PySem.W.typeIn K (.ref (aa_cx32 K)) = some (.type "type") := HK.eqB_ok (c.fact 512)
  have xd32 : PySem.W.hasDictIn K (aa_cx32 K) = true := c.fact 513
  obtain ⟨xoc32, xod32, xdc32, xpm32, xan32, xcd32, xct32, xsl32, xl32, xe32⟩ := HK.f_okN (c.fn 42) (c.fact 514)
  have xn1_32 : PySem.W.takerIn K (aa_cx32 K) "thing" = some none := HK.eqB_ok (c.fact 515)
  have xm1_32 : PySem.W.findIn K (.ref (aa_cx32 K)) "thing" = some none := HK.eqB_ok (c.fact 516)
  have xn2_32 : PySem.W.takerIn K (aa_cx32 K) "kind" = some none := HK.eqB_ok (c.fact 517)
  have xm2_32 : PySem.W.findIn K (.ref (aa_cx32 K)) "kind" = some none := HK.eqB_ok (c.fact 518)
  have xa33 : PySem.W.nsIn K mainGlobals "NotKept" = some (some (.ref (aa_cx33 K))) := HK.eqB_ok (c.fact 519)
  have xi33 : PySem.W.excInitIn K (aa_cx33 K) bm_RuntimeError "RuntimeError.__new__" = true := c.fact 520
  have xo33 : PySem.W.excOver K (aa_cx33 K) bm_RuntimeError = true := c.fact 521
  have xs33 : PySem.W.findIn K (.ref (aa_cx33 K)) "__setattr__" = some (some (.builtin "object.__setattr__")) := HK.eqB_ok (c.fact 522)
  have xg33 : PySem.W.findIn K (.ref (aa_cx33 K)) "__getattribute__" = some (some (.builtin "BaseException.__getattribute__")) := HK.eqB_ok (c.fact 523)
  have xh33 : PySem.W.findIn K (.ref (aa_cx33 K)) "__getattr__" = some none := HK.eqB_ok (c.fact 524)
  have xc33 : PySem.W.findIn K (.ref (aa_cx33 K)) "__init__" = some (some (.ref (aa_ix33 K))) := HK.eqB_ok (c.fact 525)
  have xf33 : PySem.W.isFn K (.ref (aa_ix33 K)) = true := c.fact 526
  have xk33 : PySem.W.keepIn K (.ref (aa_cx33 K)) = true := c.fact 527
  have xb33 : PySem.W.subIn K (.ref (aa_cx33 K)) (.type "BaseException") = some true := HK.eqB_ok (c.fact 528)
  have xt33 : PySem.W.typeIn K (.ref (aa_cx33 K)) = some (.type "type") := HK.eqB_ok (c.fact 529)
  have xd33 : PySem.W.hasDictIn K (aa_cx33 K) = true := c.fact 530
  obtain ⟨xoc33, xod33, xdc33, xpm33, xan33, xcd33, xct33, xsl33, xl33, xe33⟩ := HK.f_okN (c.fn 43) (c.fact 531)
  have xn33 : PySem.W.takerIn K (aa_cx33 K) "wish" = some none := HK.eqB_ok (c.fact 532)
  have xm33 : PySem.W.findIn K (.ref (aa_cx33 K)) "wish" = some none := HK.eqB_ok (c.fact 533)
  have xa34 : PySem.W.nsIn K mainGlobals "NoEnd" = some (some (.ref (aa_cx34 K))) := HK.eqB_ok (c.fact 534)
  have xi34 : PySem.W.excInitIn K (aa_cx34 K) bm_RuntimeError "RuntimeError.__new__" = true := c.fact 535
  have xo34 : PySem.W.excOver K (aa_cx34 K) bm_RuntimeError = true := c.fact 536
  have xs34 : PySem.W.findIn K (.ref (aa_cx34 K)) "__setattr__" = some (some (.builtin "object.__setattr__")) := HK.eqB_ok (c.fact 537)
  have xg34 : PySem.W.findIn K (.ref (aa_cx34 K)) "__getattribute__" = some (some (.builtin "BaseException.__getattribute__")) := HK.eqB_ok (c.fact 538)
  have xh34 : PySem.W.findIn K (.ref (aa_cx34 K)) "__getattr__" = some none := HK.eqB_ok (c.fact 539)
  have xc34 : PySem.W.findIn K (.ref (aa_cx34 K)) "__init__" = some (some (.ref (aa_ix34 K))) := HK.eqB_ok (c.fact 540)
  have xf34 : PySem.W.isFn K (.ref (aa_ix34 K)) = true := c.fact 541
  have xk34 : PySem.W.keepIn K (.ref (aa_cx34 K)) = true := c.fact 542
  have xb34 : PySem.W.subIn K (.ref (aa_cx34 K)) (.type "BaseException") = some true := HK.eqB_ok (c.fact 543)
  have xt34 : PySem.W.typeIn K (.ref (aa_cx34 K)) = some (.type "type") := HK.eqB_ok (c.fact 544)
  have xd34 : PySem.W.hasDictIn K (aa_cx34 K) = true := c.fact 545
  obtain ⟨xoc34, xod34, xdc34, xpm34, xan34, xcd34, xct34, xsl34, xl34, xe34⟩ := HK.f_okN (c.fn 44) (c.fact 546)
  have xa35 : PySem.W.nsIn K mainGlobals "Untrue" = some (some (.ref (aa_cx35 K))) := HK.eqB_ok (c.fact 547)
  have xi35 : PySem.W.excInitIn K (aa_cx35 K) bm_RuntimeError "RuntimeError.__new__" = true := c.fact 548
  have xo35 : PySem.W.excOver K (aa_cx35 K) bm_RuntimeError = true := c.fact 549
  have xs35 : PySem.W.findIn K (.ref (aa_cx35 K)) "__setattr__" = some (some (.builtin "object.__setattr__")) := HK.eqB_ok (c.fact 550)
  have xg35 : PySem.W.findIn K (.ref (aa_cx35 K)) "__getattribute__" = some (some (.builtin "BaseException.__getattribute__")) := HK.eqB_ok (c.fact 551)
  have xh35 : PySem.W.findIn K (.ref (aa_cx35 K)) "__getattr__" = some none := HK.eqB_ok (c.fact 552)
  have xc35 : PySem.W.findIn K (.ref (aa_cx35 K)) "__init__" = some (some (.ref (aa_ix35 K))) := HK.eqB_ok (c.fact 553)
  have xf35 : PySem.W.isFn K (.ref (aa_ix35 K)) = true := c.fact 554
  have xk35 : PySem.W.keepIn K (.ref (aa_cx35 K)) = true := c.fact 555
  have xb35 : PySem.W.subIn K (.ref (aa_cx35 K)) (.type "BaseException") = some true := HK.eqB_ok (c.fact 556)
  have xt35 : PySem.W.typeIn K (.ref (aa_cx35 K)) = some (.type "type") := HK.eqB_ok (c.fact 557)
  have xd35 : PySem.W.hasDictIn K (aa_cx35 K) = true := c.fact 558
  obtain ⟨xoc35, xod35, xdc35, xpm35, xan35, xcd35, xct35, xsl35, xl35, xe35⟩ := HK.f_okN (c.fn 45) (c.fact 559)
  have xa36 : PySem.W.nsIn K mainGlobals "NothingToUndo" = some (some (.ref (aa_cx36 K))) := HK.eqB_ok (c.fact 560)
  have xi36 : PySem.W.excInitIn K (aa_cx36 K) bm_RuntimeError "RuntimeError.__new__" = true := c.fact 561
  have xo36 : PySem.W.excOver K (aa_cx36 K) bm_RuntimeError = true := c.fact 562
  have xs36 : PySem.W.findIn K (.ref (aa_cx36 K)) "__setattr__" = some (some (.builtin "object.__setattr__")) := HK.eqB_ok (c.fact 563)
  have xg36 : PySem.W.findIn K (.ref (aa_cx36 K)) "__getattribute__" = some (some (.builtin "BaseException.__getattribute__")) := HK.eqB_ok (c.fact 564)
  have xh36 : PySem.W.findIn K (.ref (aa_cx36 K)) "__getattr__" = some none := HK.eqB_ok (c.fact 565)
  have xc36 : PySem.W.findIn K (.ref (aa_cx36 K)) "__init__" = some (some (.ref (aa_ix36 K))) := HK.eqB_ok (c.fact 566)
  have xf36 : PySem.W.isFn K (.ref (aa_ix36 K)) = true := c.fact 567
  have xk36 : PySem.W.keepIn K (.ref (aa_cx36 K)) = true := c.fact 568
  have xb36 : PySem.W.subIn K (.ref (aa_cx36 K)) (.type "BaseException") = some true := HK.eqB_ok (c.fact 569)
  have xt36 : PySem.W.typeIn K (.ref (aa_cx36 K)) = some (.type "type") := HK.eqB_ok (c.fact 570)
  have xd36 : PySem.W.hasDictIn K (aa_cx36 K) = true := c.fact 571
  obtain ⟨xoc36, xod36, xdc36, xpm36, xan36, xcd36, xct36, xsl36, xl36, xe36⟩ := HK.f_okN (c.fn 46) (c.fact 572)
  have xa37 : PySem.W.nsIn K mainGlobals "DeedFailed" = some (some (.ref (aa_cx37 K))) := HK.eqB_ok (c.fact 573)
  have xi37 : PySem.W.excInitIn K (aa_cx37 K) bm_RuntimeError "RuntimeError.__new__" = true := c.fact 574
  have xo37 : PySem.W.excOver K (aa_cx37 K) bm_RuntimeError = true := c.fact 575
  have xs37 : PySem.W.findIn K (.ref (aa_cx37 K)) "__setattr__" = some (some (.builtin "object.__setattr__")) := HK.eqB_ok (c.fact 576)
  have xg37 : PySem.W.findIn K (.ref (aa_cx37 K)) "__getattribute__" = some (some (.builtin "BaseException.__getattribute__")) := HK.eqB_ok (c.fact 577)
  have xh37 : PySem.W.findIn K (.ref (aa_cx37 K)) "__getattr__" = some none := HK.eqB_ok (c.fact 578)
  have xc37 : PySem.W.findIn K (.ref (aa_cx37 K)) "__init__" = some (some (.ref (aa_ix37 K))) := HK.eqB_ok (c.fact 579)
  have xf37 : PySem.W.isFn K (.ref (aa_ix37 K)) = true := c.fact 580
  have xk37 : PySem.W.keepIn K (.ref (aa_cx37 K)) = true := c.fact 581
  have xb37 : PySem.W.subIn K (.ref (aa_cx37 K)) (.type "BaseException") = some true := HK.eqB_ok (c.fact 582)
  have xt37 : PySem.W.typeIn K (.ref (aa_cx37 K)) = some (.type "type") := HK.eqB_ok (c.fact 583)
  have xd37 : PySem.W.hasDictIn K (aa_cx37 K) = true := c.fact 584
  obtain ⟨xoc37, xod37, xdc37, xpm37, xan37, xcd37, xct37, xsl37, xl37, xe37⟩ := HK.f_okN (c.fn 47) (c.fact 585)
  have xn37 : PySem.W.takerIn K (aa_cx37 K) "position" = some none := HK.eqB_ok (c.fact 586)
  have xm37 : PySem.W.findIn K (.ref (aa_cx37 K)) "position" = some none := HK.eqB_ok (c.fact 587)
  have xa38 : PySem.W.nsIn K mainGlobals "CommandFailed" = some (some (.ref (aa_cx38 K))) := HK.eqB_ok (c.fact 588)
  have xi38 : PySem.W.excInitIn K (aa_cx38 K) bm_RuntimeError "RuntimeError.__new__" = true := c.fact 589
  have xo38 : PySem.W.excOver K (aa_cx38 K) bm_RuntimeError = true := c.fact 590
  have xs38 : PySem.W.findIn K (.ref (aa_cx38 K)) "__setattr__" = some (some (.builtin "object.__setattr__")) := HK.eqB_ok (c.fact 591)
  have xg38 : PySem.W.findIn K (.ref (aa_cx38 K)) "__getattribute__" = some (some (.builtin "BaseException.__getattribute__")) := HK.eqB_ok (c.fact 592)
  have xh38 : PySem.W.findIn K (.ref (aa_cx38 K)) "__getattr__" = some none := HK.eqB_ok (c.fact 593)
  have xc38 : PySem.W.findIn K (.ref (aa_cx38 K)) "__init__" = some (some (.ref (aa_ix38 K))) := HK.eqB_ok (c.fact 594)
  have xf38 : PySem.W.isFn K (.ref (aa_ix38 K)) = true := c.fact 595
  have xk38 : PySem.W.keepIn K (.ref (aa_cx38 K)) = true := c.fact 596
  have xb38 : PySem.W.subIn K (.ref (aa_cx38 K)) (.type "BaseException") = some true := HK.eqB_ok (c.fact 597)
  have xt38 : PySem.W.typeIn K (.ref (aa_cx38 K)) = some (.type "type") := HK.eqB_ok (c.fact 598)
  have xd38 : PySem.W.hasDictIn K (aa_cx38 K) = true := c.fact 599
  obtain ⟨xoc38, xod38, xdc38, xpm38, xan38, xcd38, xct38, xsl38, xl38, xe38⟩ := HK.f_okN (c.fn 48) (c.fact 600)
  have xn38 : PySem.W.takerIn K (aa_cx38 K) "position" = some none := HK.eqB_ok (c.fact 601)
  have xm38 : PySem.W.findIn K (.ref (aa_cx38 K)) "position" = some none := HK.eqB_ok (c.fact 602)
  have xa39 : PySem.W.nsIn K mainGlobals "TooMany" = some (some (.ref (aa_cx39 K))) := HK.eqB_ok (c.fact 603)
  have xi39 : PySem.W.excInitIn K (aa_cx39 K) bm_ArithmeticError "ArithmeticError.__new__" = true := c.fact 604
  have xo39 : PySem.W.excOver K (aa_cx39 K) bm_ArithmeticError = true := c.fact 605
  have xs39 : PySem.W.findIn K (.ref (aa_cx39 K)) "__setattr__" = some (some (.builtin "object.__setattr__")) := HK.eqB_ok (c.fact 606)
  have xg39 : PySem.W.findIn K (.ref (aa_cx39 K)) "__getattribute__" = some (some (.builtin "BaseException.__getattribute__")) := HK.eqB_ok (c.fact 607)
  have xh39 : PySem.W.findIn K (.ref (aa_cx39 K)) "__getattr__" = some none := HK.eqB_ok (c.fact 608)
  have xc39 : PySem.W.findIn K (.ref (aa_cx39 K)) "__init__" = some (some (.ref (aa_ix39 K))) := HK.eqB_ok (c.fact 609)
  have xf39 : PySem.W.isFn K (.ref (aa_ix39 K)) = true := c.fact 610
  have xk39 : PySem.W.keepIn K (.ref (aa_cx39 K)) = true := c.fact 611
  have xb39 : PySem.W.subIn K (.ref (aa_cx39 K)) (.type "BaseException") = some true := HK.eqB_ok (c.fact 612)
  have xt39 : PySem.W.typeIn K (.ref (aa_cx39 K)) = some (.type "type") := HK.eqB_ok (c.fact 613)
  have xd39 : PySem.W.hasDictIn K (aa_cx39 K) = true := c.fact 614
  obtain ⟨xoc39, xod39, xdc39, xpm39, xan39, xcd39, xct39, xsl39, xl39, xe39⟩ := HK.f_okN (c.fn 49) (c.fact 615)
  have xn1_39 : PySem.W.takerIn K (aa_cx39 K) "what" = some none := HK.eqB_ok (c.fact 616)
  have xm1_39 : PySem.W.findIn K (.ref (aa_cx39 K)) "what" = some none := HK.eqB_ok (c.fact 617)
  have xn2_39 : PySem.W.takerIn K (aa_cx39 K) "limit" = some none := HK.eqB_ok (c.fact 618)
  have xm2_39 : PySem.W.findIn K (.ref (aa_cx39 K)) "limit" = some none := HK.eqB_ok (c.fact 619)
  have ab_LimitError : PySem.W.nsIn K mainGlobals "LimitError" = some (some (.ref (aa_cb_LimitError K))) := HK.eqB_ok (c.fact 620)
  have ab_StandError : PySem.W.nsIn K mainGlobals "StandError" = some (some (.ref (aa_cb_StandError K))) := HK.eqB_ok (c.fact 621)
  have ab_WayError : PySem.W.nsIn K mainGlobals "WayError" = some (some (.ref (aa_cb_WayError K))) := HK.eqB_ok (c.fact 622)
  have kt : ktB K [(aa_cx1 K), (aa_cx2 K), (aa_cx3 K), (aa_cx4 K), (aa_cx5 K), (aa_cx6 K), (aa_cx7 K), (aa_cx8 K), (aa_cx9 K), (aa_cx10 K), (aa_cx11 K), (aa_cx12 K), (aa_cx13 K), (aa_cx14 K), (aa_cx15 K), (aa_cx16 K), (aa_cx17 K), (aa_cx18 K), (aa_cx19 K), (aa_cx20 K), (aa_cx21 K), (aa_cx22 K), (aa_cx23 K), (aa_cx24 K), (aa_cx25 K), (aa_cx26 K), (aa_cx27 K), (aa_cx28 K), (aa_cx29 K), (aa_cx30 K), (aa_cx31 K), (aa_cx32 K), (aa_cx33 K), (aa_cx34 K), (aa_cx35 K), (aa_cx36 K), (aa_cx37 K), (aa_cx38 K), (aa_cx39 K)] = true := c.fact 623
  have ku : kuB K [(aa_cx1 K), (aa_cx2 K), (aa_cx3 K), (aa_cx4 K), (aa_cx5 K), (aa_cx6 K), (aa_cx7 K), (aa_cx8 K), (aa_cx9 K), (aa_cx10 K), (aa_cx11 K), (aa_cx12 K), (aa_cx13 K), (aa_cx14 K), (aa_cx15 K), (aa_cx16 K), (aa_cx17 K), (aa_cx18 K), (aa_cx19 K), (aa_cx20 K), (aa_cx21 K), (aa_cx22 K), (aa_cx23 K), (aa_cx24 K), (aa_cx25 K), (aa_cx26 K), (aa_cx27 K), (aa_cx28 K), (aa_cx29 K), (aa_cx30 K), (aa_cx31 K), (aa_cx32 K), (aa_cx33 K), (aa_cx34 K), (aa_cx35 K), (aa_cx36 K), (aa_cx37 K), (aa_cx38 K), (aa_cx39 K)] [.ref (aa_cb_WayError K), .ref (aa_cb_StandError K), .ref (aa_cb_LimitError K), .type "ValueError", .type "RuntimeError", .type "ArithmeticError", .type "LookupError", .type "TypeError", .type "NotImplementedError", .type "OverflowError", .type "ZeroDivisionError", .type "AttributeError", .type "KeyError", .type "IndexError", .type "StopIteration"] = true := c.fact 624
  have ke : keB K [(aa_cx1 K), (aa_cx2 K), (aa_cx3 K), (aa_cx4 K), (aa_cx5 K), (aa_cx6 K), (aa_cx7 K), (aa_cx8 K), (aa_cx9 K), (aa_cx10 K), (aa_cx11 K), (aa_cx12 K), (aa_cx13 K), (aa_cx14 K), (aa_cx15 K), (aa_cx16 K), (aa_cx17 K), (aa_cx18 K), (aa_cx19 K), (aa_cx20 K), (aa_cx21 K), (aa_cx22 K), (aa_cx23 K), (aa_cx24 K), (aa_cx25 K), (aa_cx26 K), (aa_cx27 K), (aa_cx28 K), (aa_cx29 K), (aa_cx30 K), (aa_cx31 K), (aa_cx32 K), (aa_cx33 K), (aa_cx34 K), (aa_cx35 K), (aa_cx36 K), (aa_cx37 K), (aa_cx38 K), (aa_cx39 K)] = true := c.fact 625
  have q_InvalidRow_WayError : PySem.W.exmOne K (.ref (aa_cx5 K)) (.ref (aa_cb_WayError K)) = some true := HK.eqB_ok (c.fact 626)
  have q_Held_WayError : PySem.W.exmOne K (.ref (aa_cx32 K)) (.ref (aa_cb_WayError K)) = some false := HK.eqB_ok (c.fact 627)
  have q_Held_StandError : PySem.W.exmOne K (.ref (aa_cx32 K)) (.ref (aa_cb_StandError K)) = some true := HK.eqB_ok (c.fact 628)
  have q_TooMany_WayError : PySem.W.exmOne K (.ref (aa_cx39 K)) (.ref (aa_cb_WayError K)) = some false := HK.eqB_ok (c.fact 629)
  have q_TooMany_StandError : PySem.W.exmOne K (.ref (aa_cx39 K)) (.ref (aa_cb_StandError K)) = some false := HK.eqB_ok (c.fact 630)
  have q_TooMany_LimitError : PySem.W.exmOne K (.ref (aa_cx39 K)) (.ref (aa_cb_LimitError K)) = some true := HK.eqB_ok (c.fact 631)
  have z_ArithmeticError : PySem.W.nsIn K mainGlobals "ArithmeticError" = some none := HK.eqB_ok (c.fact 632)
  have z_AttributeError : PySem.W.nsIn K mainGlobals "AttributeError" = some none := HK.eqB_ok (c.fact 633)
  have z_IndexError : PySem.W.nsIn K mainGlobals "IndexError" = some none := HK.eqB_ok (c.fact 634)
  have z_KeyError : PySem.W.nsIn K mainGlobals "KeyError" = some none := HK.eqB_ok (c.fact 635)
  have z_LookupError : PySem.W.nsIn K mainGlobals "LookupError" = some none := HK.eqB_ok (c.fact 636)
  have z_NotImplementedError : PySem.W.nsIn K mainGlobals "NotImplementedError" = some none := HK.eqB_ok (c.fact 637)
  have z_OverflowError : PySem.W.nsIn K mainGlobals "OverflowError" = some none := HK.eqB_ok (c.fact 638)
  have z_RuntimeError : PySem.W.nsIn K mainGlobals "RuntimeError" = some none := HK.eqB_ok (c.fact 639)
  have z_StopIteration : PySem.W.nsIn K mainGlobals "StopIteration" = some none := HK.eqB_ok (c.fact 640)
  have z_TypeError : PySem.W.nsIn K mainGlobals "TypeError" = some none := HK.eqB_ok (c.fact 641)
  have z_ValueError : PySem.W.nsIn K mainGlobals "ValueError" = some none := HK.eqB_ok (c.fact 642)
  have z_ZeroDivisionError : PySem.W.nsIn K mainGlobals "ZeroDivisionError" = some none := HK.eqB_ok (c.fact 643)
  have z_abs : PySem.W.nsIn K mainGlobals "abs" = some none := HK.eqB_ok (c.fact 644)
  have z_all : PySem.W.nsIn K mainGlobals "all" = some none := HK.eqB_ok (c.fact 645)
  have z_divmod : PySem.W.nsIn K mainGlobals "divmod" = some none := HK.eqB_ok (c.fact 646)
  have z_int : PySem.W.nsIn K mainGlobals "int" = some none := HK.eqB_ok (c.fact 647)
  have z_isinstance : PySem.W.nsIn K mainGlobals "isinstance" = some none := HK.eqB_ok (c.fact 648)
  have z_len : PySem.W.nsIn K mainGlobals "len" = some none := HK.eqB_ok (c.fact 649)
  have z_max : PySem.W.nsIn K mainGlobals "max" = some none := HK.eqB_ok (c.fact 650)
  have z_min : PySem.W.nsIn K mainGlobals "min" = some none := HK.eqB_ok (c.fact 651)
  have z_range : PySem.W.nsIn K mainGlobals "range" = some none := HK.eqB_ok (c.fact 652)
  have z_repr : PySem.W.nsIn K mainGlobals "repr" = some none := HK.eqB_ok (c.fact 653)
  exact all_mk X G hfa a1 l1 c1 k1 a2 l2 c2 k2 a3 l3 c3 k3 a4 l4 c4 k4 a5 l5 c5 k5 a6 l6 c6 k6 a7 l7 c7 k7 a8 l8 c8 k8 a9 l9 c9 k9 a10 l10 c10 k10 a11 l11 c11 k11 xa1 xi1 xo1 xs1 xg1 xh1 xc1 xf1 xk1 xb1 xt1 xd1 xl1 xe1 xn1 xm1 xa2 xi2 xo2 xs2 xg2 xh2 xc2 xf2 xk2 xb2 xt2 xd2 xl2 xe2 xn2 xm2 xa3 xi3 xo3 xs3 xg3 xh3 xc3 xf3 xk3 xb3 xt3 xd3 xl3 xe3 xn3 xm3 xa4 xi4 xo4 xs4 xg4 xh4 xc4 xf4 xk4 xb4 xt4 xd4 xl4 xe4 xn4 xm4 xa5 xi5 xo5 xs5 xg5 xh5 xc5 xf5 xk5 xb5 xt5 xd5 xl5 xe5 xn1_5 xm1_5 xn2_5 xm2_5 xa6 xi6 xo6 xs6 xg6 xh6 xc6 xf6 xk6 xb6 xt6 xd6 xl6 xe6 xn1_6 xm1_6 xn2_6 xm2_6 xa7 xi7 xo7 xs7 xg7 xh7 xc7 xf7 xk7 xb7 xt7 xd7 xl7 xe7 xn7 xm7 xa8 xi8 xo8 xs8 xg8 xh8 xc8 xf8 xk8 xb8 xt8 xd8 xl8 xe8 xn8 xm8 xa9 xi9 xo9 xs9 xg9 xh9 xc9 xf9 xk9 xb9 xt9 xd9 xl9 xe9 xn9 xm9 xa10 xi10 xo10 xs10 xg10 xh10 xc10 xf10 xk10 xb10 xt10 xd10 xl10 xe10 xn10 xm10 xa11 xi11 xo11 xs11 xg11 xh11 xc11 xf11 xk11 xb11 xt11 xd11 xl11 xe11 xn11 xm11 xa12 xi12 xo12 xs12 xg12 xh12 xc12 xf12 xk12 xb12 xt12 xd12 xl12 xe12 xn12 xm12 xa13 xi13 xo13 xs13 xg13 xh13 xc13 xf13 xk13 xb13 xt13 xd13 xl13 xe13 xn13 xm13 xa14 xi14 xo14 xs14 xg14 xh14 xc14 xf14 xk14 xb14 xt14 xd14 xl14 xe14 xn14 xm14 xa15 xi15 xo15 xs15 xg15 xh15 xc15 xf15 xk15 xb15 xt15 xd15 xl15 xe15 xn15 xm15 xa16 xi16 xo16 xs16 xg16 xh16 xc16 xf16 xk16 xb16 xt16 xd16 xl16 xe16 xn16 xm16 xa17 xi17 xo17 xs17 xg17 xh17 xc17 xf17 xk17 xb17 xt17 xd17 xl17 xe17 xn17 xm17 xa18 xi18 xo18 xs18 xg18 xh18 xc18 xf18 xk18 xb18 xt18 xd18 xl18 xe18 xn18 xm18 xa19 xi19 xo19 xs19 xg19 xh19 xc19 xf19 xk19 xb19 xt19 xd19 xl19 xe19 xn19 xm19 xa20 xi20 xo20 xs20 xg20 xh20 xc20 xf20 xk20 xb20 xt20 xd20 xl20 xe20 xa21 xi21 xo21 xs21 xg21 xh21 xc21 xf21 xk21 xb21 xt21 xd21 xl21 xe21 xn21 xm21 xa22 xi22 xo22 xs22 xg22 xh22 xc22 xf22 xk22 xb22 xt22 xd22 xl22 xe22 xn22 xm22 xa23 xi23 xo23 xs23 xg23 xh23 xc23 xf23 xk23 xb23 xt23 xd23 xl23 xe23 xn23 xm23 xa24 xi24 xo24 xs24 xg24 xh24 xc24 xf24 xk24 xb24 xt24 xd24 xl24 xe24 xn24 xm24 xa25 xi25 xo25 xs25 xg25 xh25 xc25 xf25 xk25 xb25 xt25 xd25 xl25 xe25 xn25 xm25 xa26 xi26 xo26 xs26 xg26 xh26 xc26 xf26 xk26 xb26 xt26 xd26 xl26 xe26 xn26 xm26 xa27 xi27 xo27 xs27 xg27 xh27 xc27 xf27 xk27 xb27 xt27 xd27 xl27 xe27 xn27 xm27 xa28 xi28 xo28 xs28 xg28 xh28 xc28 xf28 xk28 xb28 xt28 xd28 xl28 xe28 xn28 xm28 xa29 xi29 xo29 xs29 xg29 xh29 xc29 xf29 xk29 xb29 xt29 xd29 xl29 xe29 xn29 xm29 xa30 xi30 xo30 xs30 xg30 xh30 xc30 xf30 xk30 xb30 xt30 xd30 xl30 xe30 xn30 xm30 xa31 xi31 xo31 xs31 xg31 xh31 xc31 xf31 xk31 xb31 xt31 xd31 xl31 xe31 xn1_31 xm1_31 xn2_31 xm2_31 xa32 xi32 xo32 xs32 xg32 xh32 xc32 xf32 xk32 xb32 xt32 xd32 xl32 xe32 xn1_32 xm1_32 xn2_32 xm2_32 xa33 xi33 xo33 xs33 xg33 xh33 xc33 xf33 xk33 xb33 xt33 xd33 xl33 xe33 xn33 xm33 xa34 xi34 xo34 xs34 xg34 xh34 xc34 xf34 xk34 xb34 xt34 xd34 xl34 xe34 xa35 xi35 xo35 xs35 xg35 xh35 xc35 xf35 xk35 xb35 xt35 xd35 xl35 xe35 xa36 xi36 xo36 xs36 xg36 xh36 xc36 xf36 xk36 xb36 xt36 xd36 xl36 xe36 xa37 xi37 xo37 xs37 xg37 xh37 xc37 xf37 xk37 xb37 xt37 xd37 xl37 xe37 xn37 xm37 xa38 xi38 xo38 xs38 xg38 xh38 xc38 xf38 xk38 xb38 xt38 xd38 xl38 xe38 xn38 xm38 xa39 xi39 xo39 xs39 xg39 xh39 xc39 xf39 xk39 xb39 xt39 xd39 xl39 xe39 xn1_39 xm1_39 xn2_39 xm2_39 ab_LimitError ab_StandError ab_WayError kt ku ke q_InvalidRow_WayError q_Held_WayError q_Held_StandError q_TooMany_WayError q_TooMany_StandError q_TooMany_LimitError z_ArithmeticError z_AttributeError z_IndexError z_KeyError z_LookupError z_NotImplementedError z_OverflowError z_RuntimeError z_StopIteration z_TypeError z_ValueError z_ZeroDivisionError z_abs z_all z_divmod z_int z_isinstance z_len z_max z_min z_range z_repr
end Hd
open PySem PySem.W PySem.Calls PyProof.Rows in
set_option maxRecDepth 100000 in
set_option maxHeartbeats 0 in
theorem PySem.Challenge.cw_chargeways_k10_errors_and_what_they_keep_holds : PySem.Challenge.rw_chargeways_k10_errors_and_what_they_keep.Holds := by
  w_on; o_law
  refine HandSHeadRun.head_any (r := OpenLaw.row PySem.Challenge.rw_chargeways_k10_errors_and_what_they_keep) (q := view (OpenLaw.row PySem.Challenge.rw_chargeways_k10_errors_and_what_they_keep).prog [54]) (H := Hd.hk) (ob := Hd.ob) (M := 11000) (loose := Hd.loose) (d := HandSHeadRun.topDef (OpenLaw.row PySem.Challenge.rw_chargeways_k10_errors_and_what_they_keep).prog 54) (kwd := []) Hd.ob_eq
    (by kernel_rfl) (fun s => by kernel_rfl) Hd.run (by kernel_rfl) (by kernel_rfl) (by kernel_rfl) (by rfl) (by first | assumption | decide +kernel) (by decide +kernel) ⟨rfl, rfl, rfl, rfl, rfl, by decide +kernel⟩ ?hw ?hc
  case hw => w_witness2
  case hc =>
    refine HK.walkH (l := PySem.Challenge.rw_chargeways_k10_errors_and_what_they_keep) (k := 4) (x := "_law_script") (sp := My.sp_law) rfl (by kernel_rfl) ⟨rfl, by decide, by decide⟩ ?F (fun K H a ns hl hS => My.law_start hS hl)
    intro w mg fa h Y G hmg0
    obtain ⟨K, KX, c⟩ := Y
    have hmg : mg ("law" : PySem.Str) = some (.ref fa) := by
      have e : (HandSHeadRun.topDef (OpenLaw.row PySem.Challenge.rw_chargeways_k10_errors_and_what_they_keep).prog 54).name = ("law" : PySem.Str) := by kernel_rfl
      rw [← e]
      exact hmg0
    obtain ⟨fd, hb, hF⟩ := Hd.all_hk (l := PySem.Challenge.rw_chargeways_k10_errors_and_what_they_keep) KX G hmg c
    exact ⟨K, fd, KX, hb, hF⟩
#print axioms PySem.Challenge.cw_chargeways_k10_errors_and_what_they_keep_holds
