import PyProof.Rows.All
import Wide.All
import OpenK.AllK
import Wide.FinOn
import HandS.ForMost
import HandS.Strs
import HandS.IsInst
import HandS.Evl
import HandS.MakeKw
import HandS.WideBits
import HandS.Star
import HandS.Walk
import HandS.Conv
import HandS.RaiseMore
import HandS.FStr
import HandS.Style
import HandS.More
import HandS.OwnEq
import PyProof.InstNe
import HandS.Text
import HandS.Small
import HandS.ListItems
import HandS.Defaults
import HandS.Comp
import HandS.CallLocal
import PyProof.P3Eq
import PyProof.MeetsIn
import PyProof.FString4
import PyProof.EqKinds
import PyProof.EqAt
import PyProof.DictUpdate
import PyProof.DictDisplay
import PyProof.DictCopy
import KE.KStar
import KE.KExcInit
import HandS.Zip
import HandS.TupAny
import HandS.TryMany
import HandS.Text
import HandS.Property
import HandS.MakeKwOnly
import HandS.Lambda
import HandS.Iter
import HandS.ExcOwn
import HandS.ExcIs
import HandS.ExcInit
import HandS.Exc
import HandS.EndTab
import HandS.DictEq
import HandS.Deep
import KE.GoesEnumKw
import PySem.Challenge.RW_chargeways_k90_whole_texts_both_ways
import KE.KStateDown
import HandS.Base
import HandS.Call
import HandS.Ends
import HandS.Words
import HandS.Dict
import HandS.Head0
import HandS.Head1
import HandS.Head2
import HandS.HeadEnd
import HandS.HeadHook1
import HandS.HeadHook2
import HandS.HeadHook3
import HandS.HeadHook4
set_option Elab.async false
set_option linter.all false
set_option maxRecDepth 100000
set_option maxHeartbeats 4000000
/-! Promises kept where no repr is under way (the guards are empty): calls, methods, makings, bodies. -/
/-! the head by one observation: facts of the heap behind the top, each a Bool -/
namespace HK
open PySem PySem.Spec PyProof.Rows L2 He
abbrev At : Type := PySem.W.Frag → Addr
/-- what stands at an address, if a function -/
def fnAt (K : PySem.W.Frag) (a : Addr) : FnW := match K.lookup a with
  | some ⟨_, _, .func fd, _⟩ => some (fd.name, fd.qualname, fd.params, fd.body, fd.scope, fd.globals, fd.closure, fd.builtins)
  | _ => none
/-- the function behind a property -/
def pfA (K : PySem.W.Frag) (p : Addr) : Addr := match PySem.W.recIn K p "property" with
  | some (.ref f :: _) => f
  | _ => 0
def pfB (K : PySem.W.Frag) (p : Addr) : Bool := match PySem.W.recIn K p "property" with
  | some (.ref _ :: _) => true
  | _ => false
theorem pf_ok {K : PySem.W.Frag} {p : Addr} (c : pfB K p = true) : ∃ pl : List Value, PySem.W.recIn K p "property" = some (.ref (pfA K p) :: pl) := by
  unfold pfB at c
  unfold pfA
  cases z : PySem.W.recIn K p "property" with
  | none =>
    rw [z] at c
    cases c
  | some l =>
    rw [z] at c
    cases l with
    | nil => cases c
    | cons x l =>
      cases x with
      | ref f => exact ⟨l, rfl⟩
      | _ => cases c
abbrev Al : Type := Bool × List FnW × List (Option (List (Option (Str × Int))))
def obsK (at_ : List At) (ts : List Tab) (ex : List (PySem.W.Frag → Bool)) (K : PySem.W.Frag) : Al := (ex.all fun b => b K, at_.map (fun p => fnAt K (p K)), ts.map fun t => dicW K (t.1 K))
def obsM (as : List Addr) (at_ : List At) (ts : List Tab) (ex : List (PySem.W.Frag → Bool)) (g : Addr → Option Obj) : Al := obsK at_ ts ex (frT g as)
def valM (fv : List FnW) (ts : List Tab) (w : World) : Al := (true, fv, ts.map fun t => some (keysIn w.params t.2))
/-- what is told -/
def Says (at_ : List At) (fv : List FnW) (ts : List Tab) (ex : List (PySem.W.Frag → Bool)) (w : World) (K : PySem.W.Frag) : Prop := obsK at_ ts ex K = valM fv ts w
def hook (as : List Addr) (at_ : List At) (fv : List FnW) (ts : List Tab) (ex : List (PySem.W.Frag → Bool)) : PySem.W.Hook where
  α := Al
  obs := fun s => obsM as at_ ts ex s.heap.get?
  val := fun w => valM fv ts w
  says := fun w h => ∃ K : PySem.W.Frag, K.In h ∧ Says at_ fv ts ex w K
  of := fun _ _ e => ⟨_, frT_in, e⟩
  keeps := fun _ _ _ ⟨K, hK, c⟩ k => ⟨K, PySem.W.Frag.In.keeps hK k, c⟩
theorem obs_eq {as : List Addr} {at_ : List At} {fv : List FnW} {ts : List Tab} {ex : List (PySem.W.Frag → Bool)} {g : Addr → Option Obj} {s : Shared} (h : ∀ a, g a = s.heap.get? a) : obsM as at_ ts ex g = (hook as at_ fv ts ex).obs s := by
  have e : g = s.heap.get? := funext h
  rw [e] <;> rfl
section
variable {at_ : List At} {fv : List FnW} {ts : List Tab} {ex : List (PySem.W.Frag → Bool)} {w : World} {K : PySem.W.Frag}
theorem Says.fact (c : Says at_ fv ts ex w K) (i : Nat) {b : PySem.W.Frag → Bool} (h : ex[i]? = some b := by rfl) : b K = true := by
  have c1 : (ex.all fun b => b K) = true := congrArg (fun z : Al => z.1) c
  exact List.all_eq_true.mp c1 b (List.mem_of_getElem? h)
theorem Says.fn (c : Says at_ fv ts ex w K) (i : Nat) {p : At} {v : FnW} (h : at_[i]? = some p := by rfl) (hv : fv[i]? = some v := by rfl) : fnAt K (p K) = v := by
  have e : at_.map (fun p => fnAt K (p K)) = fv := congrArg (fun z : Al => z.2.1) c
  have e2 : (at_.map (fun p => fnAt K (p K)))[i]? = fv[i]? := by rw [e]
  rw [List.getElem?_map, h, hv] at e2
  exact Option.some.inj e2
theorem Says.tab (c : Says at_ fv ts ex w K) (i : Nat) {t : Tab} (h : ts[i]? = some t := by rfl) : dicW K (t.1 K) = some (keysIn w.params t.2) := by
  have e : ts.map (fun t => dicW K (t.1 K)) = ts.map fun t => some (keysIn w.params t.2) := congrArg (fun z : Al => z.2.2) c
  have e2 : (ts.map fun t => dicW K (t.1 K))[i]? = (ts.map fun t => some (keysIn w.params t.2))[i]? := by rw [e]
  rw [List.getElem?_map, List.getElem?_map, h] at e2
  exact Option.some.inj e2
end
/-! ### facts of forms -/
def eqB {α : Type} [DecidableEq α] (a b : α) : Bool := decide (a = b)
theorem eqB_ok {α : Type} [DecidableEq α] {a b : α} (h : eqB a b = true) : a = b := of_decide_eq_true h
def itA (K : PySem.W.Frag) (T : Addr) (i : Nat) : Addr := match K.lookup T with
  | some ⟨_, _, .seq its _, _⟩ => (match its[i]? with
    | some (.ref a) => a
    | _ => 0)
  | _ => 0
def fB (K : PySem.W.Frag) (f : Addr) (q : Str) (dv : Value) : Bool := match K.lookup f with
  | some ⟨_, _, .func fd, _⟩ => decide (fd.defaults = dv) && PySem.W.codeIn K fd.code q
  | _ => false
theorem f_ok {K : PySem.W.Frag} {p : Addr} {n q : Str} {ps : Arguments} {bd : List Stmt} {sc : Scope} {dv : Value} (e : fnAt K p = some (n, q, ps, .stmts bd, sc, mainGlobals, [], builtinsNs)) (c : fB K p q dv = true) :
    ∃ (oc : Value) (od : Option Addr) (kV dc pm : Value) (an : Option Addr) (cd ct : Value) (sl : Array (Option Value)), K.lookup p = some ⟨oc, od, .func (PySem.W.fnOf n q ps bd sc dv kV dc pm an cd ct), sl⟩ ∧ PySem.W.codeIn K cd q = true := by
  unfold fnAt at e
  unfold fB at c
  cases z : K.lookup p with
  | none =>
    rw [z] at c
    cases c
  | some o =>
    obtain ⟨oc, od, dt, osl⟩ := o
    rw [z] at c e
    cases dt with
    | func fd =>
      obtain ⟨n1, n2, n3, n4, n5, n6, n7, n8, n9, n10, n11, n12, n13, n14, n15⟩ := fd
      have e2 : (some (n1, n2, n3, n4, n5, n6, n7, n15) : FnW) = some (n, q, ps, .stmts bd, sc, mainGlobals, [], builtinsNs) := e
      simp only [Option.some.injEq, Prod.mk.injEq] at e2
      obtain ⟨h1, h2, h3, h4, h5, h6, h7, h8⟩ := e2
      subst h1 h2 h3 h4 h5 h6 h7 h8
      obtain ⟨k1, k2⟩ := ba (show (decide (n8 = dv) && PySem.W.codeIn K n13 _) = true from c)
      have k3 := of_decide_eq_true k1
      subst k3
      exact ⟨oc, od, n9, n10, n11, n12, n13, n14, osl, rfl, k2⟩
    | _ => cases c
/-- values, some of whose parts are not asked -/
inductive VP where
  | val (v : Value) | str (s : Str) | int (i : Int) | any
def VP.ok : VP → Value → Bool
  | .val v, u => decide (u = v)
  | .str s, .str z _ => decide (z = s)
  | .int i, .int j _ => decide (j = i)
  | .any, _ => true
  | _, _ => false
def vpAll : List VP → List Value → Bool
  | [], [] => true
  | p :: ps, v :: vs => p.ok v && vpAll ps vs
  | _, _ => false
def VP.ex : List VP → (List Value → Prop) → Prop
  | [], k => k []
  | .val v :: ps, k => VP.ex ps fun vs => k (v :: vs)
  | .str s :: ps, k => ∃ t, VP.ex ps fun vs => k (.str s t :: vs)
  | .int i :: ps, k => ∃ t, VP.ex ps fun vs => k (.int i t :: vs)
  | .any :: ps, k => ∃ v, VP.ex ps fun vs => k (v :: vs)
theorem vp_ok : ∀ {ps : List VP} {vs : List Value} {k : List Value → Prop}, vpAll ps vs = true → k vs → VP.ex ps k
  | [], [], k, _, h => h
  | [], _ :: _, _, c, _ => by cases c
  | _ :: _, [], _, c, _ => by cases c
  | p :: ps, v :: vs, k, c, h => by
    obtain ⟨c1, c2⟩ := ba (show (p.ok v && vpAll ps vs) = true from c)
    cases p with
    | val u =>
      have e : v = u := of_decide_eq_true c1
      subst e
      exact vp_ok (k := fun vs => k (v :: vs)) c2 h
    | str s =>
      cases v with
      | str z t =>
        have e : z = s := of_decide_eq_true c1
        subst e
        exact ⟨t, vp_ok (k := fun vs => k (.str z t :: vs)) c2 h⟩
      | _ => cases c1
    | int i =>
      cases v with
      | int z t =>
        have e : z = i := of_decide_eq_true c1
        subst e
        exact ⟨t, vp_ok (k := fun vs => k (.int z t :: vs)) c2 h⟩
      | _ => cases c1
    | any => exact ⟨v, vp_ok (k := fun vs => k (v :: vs)) c2 h⟩
/-- a sequence of the heap, of a class or of any -/
def seqB (K : PySem.W.Frag) (a : Addr) (c : Option Value) (ps : List VP) : Bool := match K.lookup a with
  | some ⟨oc, _, .seq its _, _⟩ => (match c with
    | some u => decide (oc = u)
    | none => true) && vpAll ps its.toList
  | _ => false
theorem seq_is {K : PySem.W.Frag} {a : Addr} {u : Value} {ps : List VP} (c : seqB K a (some u) ps = true) : VP.ex ps fun vs => ∃ (od : Option Addr) (n : Nat) (sl : Array (Option Value)), K.lookup a = some ⟨u, od, .seq ⟨vs⟩ n, sl⟩ := by
  unfold seqB at c
  cases z : K.lookup a with
  | none =>
    rw [z] at c
    cases c
  | some o =>
    obtain ⟨oc, od, dt, osl⟩ := o
    rw [z] at c
    cases dt with
    | seq its n =>
      obtain ⟨c1, c2⟩ := ba c
      have e : oc = u := of_decide_eq_true c1
      subst e
      exact vp_ok (k := fun vs => ∃ (od' : Option Addr) (n' : Nat) (sl : Array (Option Value)), some (⟨oc, od, .seq its n, osl⟩ : Obj) = some ⟨oc, od', .seq ⟨vs⟩ n', sl⟩) c2 ⟨od, n, osl, rfl⟩
    | _ => cases c
/-- a name of the module with a value, a part of which is not asked -/
def nsB (K : PySem.W.Frag) (x : Str) (p : VP) : Bool := match PySem.W.nsIn K mainGlobals x with
  | some (some v) => p.ok v
  | _ => false
theorem ns_int {K : PySem.W.Frag} {x : Str} {i : Int} (c : nsB K x (.int i) = true) : ∃ t, PySem.W.nsIn K mainGlobals x = some (some (.int i t)) := by
  unfold nsB at c
  cases z : PySem.W.nsIn K mainGlobals x with
  | none =>
    rw [z] at c
    cases c
  | some o =>
    rw [z] at c
    cases o with
    | none => cases c
    | some v =>
      cases v with
      | int j t =>
        have e : j = i := of_decide_eq_true c
        subst e
        exact ⟨t, rfl⟩
      | _ => cases c
theorem ns_str {K : PySem.W.Frag} {x i : Str} (c : nsB K x (.str i) = true) : ∃ t, PySem.W.nsIn K mainGlobals x = some (some (.str i t)) := by
  unfold nsB at c
  cases z : PySem.W.nsIn K mainGlobals x with
  | none =>
    rw [z] at c
    cases c
  | some o =>
    rw [z] at c
    cases o with
    | none => cases c
    | some v =>
      cases v with
      | str j t =>
        have e : j = i := of_decide_eq_true c
        subst e
        exact ⟨t, rfl⟩
      | _ => cases c
theorem dic_ok {K : PySem.W.Frag} {w : World} {a : Addr} {ks : List Str} (h : dicW K a = some (keysIn w.params ks)) : ∃ (es : Array DictEntry) (n : Nat), K.lookup a = some ⟨.type "dict", none, .dict es n, #[]⟩ ∧ PySem.W.KeysLit w.params es.toList ∧ True := by
  obtain ⟨es, n, k⟩ := dicW_ok h
  exact ⟨es, n, k.at_, k.lit, trivial⟩
end HK
namespace GL
end GL
namespace My
open PySem PySem.Spec PyProof.Rows L2
def topS (i : Nat) : Stmt := PySem.Challenge.pw_chargeways_k90_whole_texts_both_ways.main.body.getD i (.Pass ⟨0, 0, 0, 0⟩)
abbrev s_is_an_integer : Stmt := topS 2
abbrev s_is_list : Stmt := topS 4
abbrev s_is_word : Stmt := topS 5
abbrev s_are_different_words : Stmt := topS 6
abbrev s_has_words_of : Stmt := topS 18
abbrev s_tests_are_ahead : Stmt := topS 19
abbrev s_off_has_home : Stmt := topS 20
abbrev s_is_take_row : Stmt := topS 21
abbrev s_is_give_row : Stmt := topS 22
abbrev s_is_move_row : Stmt := topS 23
abbrev s_is_lift_row : Stmt := topS 24
abbrev s_is_row : Stmt := topS 26
abbrev s_fits_batch : Stmt := topS 27
abbrev s_fits_shared : Stmt := topS 28
abbrev s_check_rows : Stmt := topS 32
abbrev s_check_fails : Stmt := topS 33
abbrev s_check_bool : Stmt := topS 34
abbrev s_check_holds : Stmt := topS 35
abbrev s_check_batch : Stmt := topS 36
abbrev s_check_row_kind : Stmt := topS 37
abbrev s_Binit : Stmt := inClass (topS 38) 1
abbrev s_Beq : Stmt := inClass (topS 38) 2
abbrev s_Brepr : Stmt := inClass (topS 38) 3
abbrev s_Bfails : Stmt := inClass (topS 38) 4
abbrev s_Bshared : Stmt := inClass (topS 38) 5
abbrev s_Bholds : Stmt := inClass (topS 38) 6
abbrev s_Bbatch : Stmt := inClass (topS 38) 7
abbrev s_Bsettles : Stmt := inClass (topS 38) 8
abbrev s_Brow : Stmt := inClass (topS 38) 9
abbrev s_is_between : Stmt := topS 3
abbrev s_is_numeral : Stmt := topS 41
abbrev s_line_from : Stmt := topS 42
abbrev s_text_of : Stmt := topS 47
abbrev s_read_holds : Stmt := topS 48
abbrev s_read_part : Stmt := topS 49
abbrev s_read_line : Stmt := topS 50
abbrev s_read_book : Stmt := topS 51
abbrev s_Lpot : Stmt := topS 53
abbrev s_Ldraw : Stmt := topS 54
abbrev s_Lpick : Stmt := topS 55
abbrev s_Lsequences : Stmt := topS 56
abbrev s_Lis_ahead : Stmt := topS 57
abbrev s_Lis_take : Stmt := topS 58
abbrev s_Lis_give : Stmt := topS 59
abbrev s_Lis_move : Stmt := topS 60
abbrev s_Ltakes : Stmt := topS 61
abbrev s_Lgives : Stmt := topS 62
abbrev s_Lmoves : Stmt := topS 63
abbrev s_Llifts : Stmt := topS 64
abbrev s_Lbook : Stmt := topS 65
abbrev s_Lmixed : Stmt := topS 66
abbrev s_Lkinds_of : Stmt := topS 67
abbrev s_Ltext : Stmt := topS 68
abbrev s_Lany_rules : Stmt := topS 69
abbrev s_Lturned_rules : Stmt := topS 70
abbrev s_Ltold : Stmt := topS 71
abbrev s_Lboth_ways : Stmt := topS 72
abbrev s_Lchanged : Stmt := topS 73
abbrev s_Lright : Stmt := topS 74
abbrev s_law : Stmt := topS 75
end My
namespace Hd
open PySem PySem.Spec PyProof.Rows L2 GL My
def aa_C (K : PySem.W.Frag) : Addr := He.ga K "Book"
def aa_f1 (K : PySem.W.Frag) : Addr := He.ga K "is_an_integer"
def aa_f2 (K : PySem.W.Frag) : Addr := He.ga K "is_list"
def aa_f3 (K : PySem.W.Frag) : Addr := He.ga K "is_word"
def aa_f4 (K : PySem.W.Frag) : Addr := He.ga K "are_different_words"
def aa_f5 (K : PySem.W.Frag) : Addr := He.ga K "has_words_of"
def aa_f6 (K : PySem.W.Frag) : Addr := He.ga K "tests_are_ahead"
def aa_f7 (K : PySem.W.Frag) : Addr := He.ga K "off_has_home"
def aa_f8 (K : PySem.W.Frag) : Addr := He.ga K "is_take_row"
def aa_f9 (K : PySem.W.Frag) : Addr := He.ga K "is_give_row"
def aa_f10 (K : PySem.W.Frag) : Addr := He.ga K "is_move_row"
def aa_f11 (K : PySem.W.Frag) : Addr := He.ga K "is_lift_row"
def aa_f12 (K : PySem.W.Frag) : Addr := He.ga K "is_row"
def aa_f13 (K : PySem.W.Frag) : Addr := He.ga K "fits_batch"
def aa_f14 (K : PySem.W.Frag) : Addr := He.ga K "fits_shared"
def aa_f15 (K : PySem.W.Frag) : Addr := He.ga K "check_rows"
def aa_f16 (K : PySem.W.Frag) : Addr := He.ga K "check_fails"
def aa_f17 (K : PySem.W.Frag) : Addr := He.ga K "check_bool"
def aa_f18 (K : PySem.W.Frag) : Addr := He.ga K "check_holds"
def aa_f19 (K : PySem.W.Frag) : Addr := He.ga K "check_batch"
def aa_f20 (K : PySem.W.Frag) : Addr := He.ga K "check_row_kind"
def aa_f21 (K : PySem.W.Frag) : Addr := He.ma K (aa_C K) "__init__"
def aa_f22 (K : PySem.W.Frag) : Addr := He.ma K (aa_C K) "__eq__"
def aa_f23 (K : PySem.W.Frag) : Addr := He.ma K (aa_C K) "__repr__"
def aa_pr24 (K : PySem.W.Frag) : Addr := He.ma K (aa_C K) "fails"
def aa_f24 (K : PySem.W.Frag) : Addr := HK.pfA K (aa_pr24 K)
def aa_pr25 (K : PySem.W.Frag) : Addr := He.ma K (aa_C K) "shared"
def aa_f25 (K : PySem.W.Frag) : Addr := HK.pfA K (aa_pr25 K)
def aa_pr26 (K : PySem.W.Frag) : Addr := He.ma K (aa_C K) "holds"
def aa_f26 (K : PySem.W.Frag) : Addr := HK.pfA K (aa_pr26 K)
def aa_pr27 (K : PySem.W.Frag) : Addr := He.ma K (aa_C K) "batch"
def aa_f27 (K : PySem.W.Frag) : Addr := HK.pfA K (aa_pr27 K)
def aa_pr28 (K : PySem.W.Frag) : Addr := He.ma K (aa_C K) "settles"
def aa_f28 (K : PySem.W.Frag) : Addr := HK.pfA K (aa_pr28 K)
def aa_f29 (K : PySem.W.Frag) : Addr := He.ma K (aa_C K) "row"
def aa_f30 (K : PySem.W.Frag) : Addr := He.ga K "is_between"
def aa_f31 (K : PySem.W.Frag) : Addr := He.ga K "is_numeral"
def aa_f32 (K : PySem.W.Frag) : Addr := He.ga K "line_from"
def aa_f33 (K : PySem.W.Frag) : Addr := He.ga K "text_of"
def aa_f34 (K : PySem.W.Frag) : Addr := He.ga K "read_holds"
def aa_f35 (K : PySem.W.Frag) : Addr := He.ga K "read_part"
def aa_f36 (K : PySem.W.Frag) : Addr := He.ga K "read_line"
def aa_f37 (K : PySem.W.Frag) : Addr := He.ga K "read_book"
def aa_f38 (K : PySem.W.Frag) : Addr := He.ga K "_law_pot"
def aa_f39 (K : PySem.W.Frag) : Addr := He.ga K "_law_draw"
def aa_f40 (K : PySem.W.Frag) : Addr := He.ga K "_law_pick"
def aa_f41 (K : PySem.W.Frag) : Addr := He.ga K "_law_sequences"
def aa_f42 (K : PySem.W.Frag) : Addr := He.ga K "_law_is_ahead"
def aa_f43 (K : PySem.W.Frag) : Addr := He.ga K "_law_is_take"
def aa_f44 (K : PySem.W.Frag) : Addr := He.ga K "_law_is_give"
def aa_f45 (K : PySem.W.Frag) : Addr := He.ga K "_law_is_move"
def aa_f46 (K : PySem.W.Frag) : Addr := He.ga K "_law_takes"
def aa_f47 (K : PySem.W.Frag) : Addr := He.ga K "_law_gives"
def aa_f48 (K : PySem.W.Frag) : Addr := He.ga K "_law_moves"
def aa_f49 (K : PySem.W.Frag) : Addr := He.ga K "_law_lifts"
def aa_f50 (K : PySem.W.Frag) : Addr := He.ga K "_law_book"
def aa_f51 (K : PySem.W.Frag) : Addr := He.ga K "_law_mixed"
def aa_f52 (K : PySem.W.Frag) : Addr := He.ga K "_law_kinds_of"
def aa_f53 (K : PySem.W.Frag) : Addr := He.ga K "_law_text"
def aa_f54 (K : PySem.W.Frag) : Addr := He.ga K "_law_any_rules"
def aa_f55 (K : PySem.W.Frag) : Addr := He.ga K "_law_turned_rules"
def aa_f56 (K : PySem.W.Frag) : Addr := He.ga K "_law_told"
def aa_f57 (K : PySem.W.Frag) : Addr := He.ga K "_law_both_ways"
def aa_f58 (K : PySem.W.Frag) : Addr := He.ga K "_law_changed"
def aa_f59 (K : PySem.W.Frag) : Addr := He.ga K "_law_right"
def aa_f60 (K : PySem.W.Frag) : Addr := He.ga K "law"
def aa_T_FAILS (K : PySem.W.Frag) : Addr := He.ga K "FAILS"
def aa_T_LINES (K : PySem.W.Frag) : Addr := He.ga K "LINES"
def aa_T_ROW_KINDS (K : PySem.W.Frag) : Addr := He.ga K "ROW_KINDS"
def aa_T_SETTLES_WORDS (K : PySem.W.Frag) : Addr := He.ga K "SETTLES_WORDS"
def aa_T_SHARED_WORDS (K : PySem.W.Frag) : Addr := He.ga K "SHARED_WORDS"
def aa_T_LIFT_ROWS (K : PySem.W.Frag) : Addr := He.ga K "LIFT_ROWS"
def aa_T0_LIFT_ROWS (K : PySem.W.Frag) : Addr := HK.itA K (aa_T_LIFT_ROWS K) 0
def aa_T1_LIFT_ROWS (K : PySem.W.Frag) : Addr := HK.itA K (aa_T_LIFT_ROWS K) 1
def aa_T2_LIFT_ROWS (K : PySem.W.Frag) : Addr := HK.itA K (aa_T_LIFT_ROWS K) 2
def aa_T3_LIFT_ROWS (K : PySem.W.Frag) : Addr := HK.itA K (aa_T_LIFT_ROWS K) 3
def aa_T4_LIFT_ROWS (K : PySem.W.Frag) : Addr := HK.itA K (aa_T_LIFT_ROWS K) 4
def aa_T5_LIFT_ROWS (K : PySem.W.Frag) : Addr := HK.itA K (aa_T_LIFT_ROWS K) 5
def aa_T_ROW_CHECKS (K : PySem.W.Frag) : Addr := He.ga K "ROW_CHECKS"
def ex0 : List (PySem.W.Frag → Bool) := [
  fun K => HK.eqB (PySem.W.nsIn K mainGlobals "Book") (some (some (.ref (aa_C K)))),
  fun K => PySem.W.plainGet K (aa_C K) Str.empty,
  fun K => PySem.W.hasDictIn K (aa_C K),
  fun K => PySem.W.plainOver K (aa_C K),
  fun K => HK.eqB (PySem.W.findIn K (.ref (aa_C K)) "__setattr__") (some (some (.builtin "object.__setattr__"))),
  fun K => PySem.W.makesIn K (aa_C K),
  fun K => PySem.W.keepIn K (.ref (aa_C K)),
  fun K => HK.eqB (PySem.W.findIn K (.ref (aa_C K)) "_parts") (some none),
  fun K => HK.eqB (PySem.W.findIn K (.ref (aa_C K)) "__class__") (some (some (.builtin "object.__class__"))),
  fun K => HK.eqB (PySem.W.specialIn K (.builtin "object.__class__") "__get__") (some (some (.builtin "getset_descriptor.__get__"))),
  fun K => HK.eqB (PySem.W.takesIn K (.builtin "object.__class__")) (some true),
  fun K => HK.eqB (PySem.W.mroIn K (aa_C K) (.type "object")) (some true),
  fun K => HK.eqB (PySem.W.findIn K (.ref (aa_C K)) "__ne__") (some (some (.builtin "object.__ne__"))),
  fun K => PySem.W.isClsIn K (aa_C K),
  fun K => HK.eqB (PySem.W.typeIn K (.ref (aa_C K))) (some (.type "type")),
  fun K => HK.eqB (PySem.W.nsIn K mainGlobals "is_an_integer") (some (some (.ref (aa_f1 K)))),
  fun K => HK.fB K (aa_f1 K) "is_an_integer" .none,
  fun K => PySem.W.keepIn K (.ref (aa_f1 K)),
  fun K => HK.eqB (PySem.W.nsIn K mainGlobals "is_list") (some (some (.ref (aa_f2 K)))),
  fun K => HK.fB K (aa_f2 K) "is_list" .none,
  fun K => PySem.W.keepIn K (.ref (aa_f2 K)),
  fun K => HK.eqB (PySem.W.nsIn K mainGlobals "is_word") (some (some (.ref (aa_f3 K)))),
  fun K => HK.fB K (aa_f3 K) "is_word" .none,
  fun K => PySem.W.keepIn K (.ref (aa_f3 K)),
  fun K => HK.eqB (PySem.W.nsIn K mainGlobals "are_different_words") (some (some (.ref (aa_f4 K)))),
  fun K => HK.fB K (aa_f4 K) "are_different_words" .none,
  fun K => PySem.W.keepIn K (.ref (aa_f4 K)),
  fun K => HK.eqB (PySem.W.nsIn K mainGlobals "has_words_of") (some (some (.ref (aa_f5 K)))),
  fun K => HK.fB K (aa_f5 K) "has_words_of" .none,
  fun K => PySem.W.keepIn K (.ref (aa_f5 K))]
def ex1 : List (PySem.W.Frag → Bool) := [
  fun K => HK.eqB (PySem.W.nsIn K mainGlobals "tests_are_ahead") (some (some (.ref (aa_f6 K)))),
  fun K => HK.fB K (aa_f6 K) "tests_are_ahead" .none,
  fun K => PySem.W.keepIn K (.ref (aa_f6 K)),
  fun K => HK.eqB (PySem.W.nsIn K mainGlobals "off_has_home") (some (some (.ref (aa_f7 K)))),
  fun K => HK.fB K (aa_f7 K) "off_has_home" .none,
  fun K => PySem.W.keepIn K (.ref (aa_f7 K)),
  fun K => HK.eqB (PySem.W.nsIn K mainGlobals "is_take_row") (some (some (.ref (aa_f8 K)))),
  fun K => HK.fB K (aa_f8 K) "is_take_row" .none,
  fun K => PySem.W.keepIn K (.ref (aa_f8 K)),
  fun K => HK.eqB (PySem.W.nsIn K mainGlobals "is_give_row") (some (some (.ref (aa_f9 K)))),
  fun K => HK.fB K (aa_f9 K) "is_give_row" .none,
  fun K => PySem.W.keepIn K (.ref (aa_f9 K)),
  fun K => HK.eqB (PySem.W.nsIn K mainGlobals "is_move_row") (some (some (.ref (aa_f10 K)))),
  fun K => HK.fB K (aa_f10 K) "is_move_row" .none,
  fun K => PySem.W.keepIn K (.ref (aa_f10 K)),
  fun K => HK.eqB (PySem.W.nsIn K mainGlobals "is_lift_row") (some (some (.ref (aa_f11 K)))),
  fun K => HK.fB K (aa_f11 K) "is_lift_row" .none,
  fun K => PySem.W.keepIn K (.ref (aa_f11 K)),
  fun K => HK.eqB (PySem.W.nsIn K mainGlobals "is_row") (some (some (.ref (aa_f12 K)))),
  fun K => HK.fB K (aa_f12 K) "is_row" .none,
  fun K => PySem.W.keepIn K (.ref (aa_f12 K)),
  fun K => HK.eqB (PySem.W.nsIn K mainGlobals "fits_batch") (some (some (.ref (aa_f13 K)))),
  fun K => HK.fB K (aa_f13 K) "fits_batch" .none,
  fun K => PySem.W.keepIn K (.ref (aa_f13 K)),
  fun K => HK.eqB (PySem.W.nsIn K mainGlobals "fits_shared") (some (some (.ref (aa_f14 K)))),
  fun K => HK.fB K (aa_f14 K) "fits_shared" .none,
  fun K => PySem.W.keepIn K (.ref (aa_f14 K)),
  fun K => HK.eqB (PySem.W.nsIn K mainGlobals "check_rows") (some (some (.ref (aa_f15 K)))),
  fun K => HK.fB K (aa_f15 K) "check_rows" .none,
  fun K => PySem.W.keepIn K (.ref (aa_f15 K))]
def ex2 : List (PySem.W.Frag → Bool) := [
  fun K => HK.eqB (PySem.W.nsIn K mainGlobals "check_fails") (some (some (.ref (aa_f16 K)))),
  fun K => HK.fB K (aa_f16 K) "check_fails" .none,
  fun K => PySem.W.keepIn K (.ref (aa_f16 K)),
  fun K => HK.eqB (PySem.W.nsIn K mainGlobals "check_bool") (some (some (.ref (aa_f17 K)))),
  fun K => HK.fB K (aa_f17 K) "check_bool" .none,
  fun K => PySem.W.keepIn K (.ref (aa_f17 K)),
  fun K => HK.eqB (PySem.W.nsIn K mainGlobals "check_holds") (some (some (.ref (aa_f18 K)))),
  fun K => HK.fB K (aa_f18 K) "check_holds" .none,
  fun K => PySem.W.keepIn K (.ref (aa_f18 K)),
  fun K => HK.eqB (PySem.W.nsIn K mainGlobals "check_batch") (some (some (.ref (aa_f19 K)))),
  fun K => HK.fB K (aa_f19 K) "check_batch" .none,
  fun K => PySem.W.keepIn K (.ref (aa_f19 K)),
  fun K => HK.eqB (PySem.W.nsIn K mainGlobals "check_row_kind") (some (some (.ref (aa_f20 K)))),
  fun K => HK.fB K (aa_f20 K) "check_row_kind" .none,
  fun K => PySem.W.keepIn K (.ref (aa_f20 K)),
  fun K => HK.eqB (PySem.W.findIn K (.ref (aa_C K)) "__init__") (some (some (.ref (aa_f21 K)))),
  fun K => PySem.W.isFn K (.ref (aa_f21 K)),
  fun K => HK.fB K (aa_f21 K) "Book.__init__" .none,
  fun K => PySem.W.keepIn K (.ref (aa_f21 K)),
  fun K => HK.eqB (PySem.W.findIn K (.ref (aa_C K)) "__eq__") (some (some (.ref (aa_f22 K)))),
  fun K => PySem.W.isFn K (.ref (aa_f22 K)),
  fun K => HK.fB K (aa_f22 K) "Book.__eq__" .none,
  fun K => PySem.W.keepIn K (.ref (aa_f22 K)),
  fun K => HK.eqB (PySem.W.findIn K (.ref (aa_C K)) "__repr__") (some (some (.ref (aa_f23 K)))),
  fun K => PySem.W.isFn K (.ref (aa_f23 K)),
  fun K => HK.fB K (aa_f23 K) "Book.__repr__" .none,
  fun K => PySem.W.keepIn K (.ref (aa_f23 K)),
  fun K => HK.eqB (PySem.W.findIn K (.ref (aa_C K)) "fails") (some (some (.ref (aa_pr24 K)))),
  fun K => HK.eqB (PySem.W.specialIn K (.ref (aa_pr24 K)) "__get__") (some (some (.builtin "property.__get__"))),
  fun K => HK.eqB (PySem.W.takesIn K (.ref (aa_pr24 K))) (some true)]
def ex3 : List (PySem.W.Frag → Bool) := [
  fun K => HK.pfB K (aa_pr24 K),
  fun K => HK.fB K (aa_f24 K) "Book.fails" .none,
  fun K => PySem.W.keepIn K (.ref (aa_f24 K)),
  fun K => HK.eqB (PySem.W.findIn K (.ref (aa_C K)) "shared") (some (some (.ref (aa_pr25 K)))),
  fun K => HK.eqB (PySem.W.specialIn K (.ref (aa_pr25 K)) "__get__") (some (some (.builtin "property.__get__"))),
  fun K => HK.eqB (PySem.W.takesIn K (.ref (aa_pr25 K))) (some true),
  fun K => HK.pfB K (aa_pr25 K),
  fun K => HK.fB K (aa_f25 K) "Book.shared" .none,
  fun K => PySem.W.keepIn K (.ref (aa_f25 K)),
  fun K => HK.eqB (PySem.W.findIn K (.ref (aa_C K)) "holds") (some (some (.ref (aa_pr26 K)))),
  fun K => HK.eqB (PySem.W.specialIn K (.ref (aa_pr26 K)) "__get__") (some (some (.builtin "property.__get__"))),
  fun K => HK.eqB (PySem.W.takesIn K (.ref (aa_pr26 K))) (some true),
  fun K => HK.pfB K (aa_pr26 K),
  fun K => HK.fB K (aa_f26 K) "Book.holds" .none,
  fun K => PySem.W.keepIn K (.ref (aa_f26 K)),
  fun K => HK.eqB (PySem.W.findIn K (.ref (aa_C K)) "batch") (some (some (.ref (aa_pr27 K)))),
  fun K => HK.eqB (PySem.W.specialIn K (.ref (aa_pr27 K)) "__get__") (some (some (.builtin "property.__get__"))),
  fun K => HK.eqB (PySem.W.takesIn K (.ref (aa_pr27 K))) (some true),
  fun K => HK.pfB K (aa_pr27 K),
  fun K => HK.fB K (aa_f27 K) "Book.batch" .none,
  fun K => PySem.W.keepIn K (.ref (aa_f27 K)),
  fun K => HK.eqB (PySem.W.findIn K (.ref (aa_C K)) "settles") (some (some (.ref (aa_pr28 K)))),
  fun K => HK.eqB (PySem.W.specialIn K (.ref (aa_pr28 K)) "__get__") (some (some (.builtin "property.__get__"))),
  fun K => HK.eqB (PySem.W.takesIn K (.ref (aa_pr28 K))) (some true),
  fun K => HK.pfB K (aa_pr28 K),
  fun K => HK.fB K (aa_f28 K) "Book.settles" .none,
  fun K => PySem.W.keepIn K (.ref (aa_f28 K)),
  fun K => HK.eqB (PySem.W.findIn K (.ref (aa_C K)) "row") (some (some (.ref (aa_f29 K)))),
  fun K => PySem.W.isFn K (.ref (aa_f29 K)),
  fun K => HK.fB K (aa_f29 K) "Book.row" .none]
def ex4 : List (PySem.W.Frag → Bool) := [
  fun K => PySem.W.keepIn K (.ref (aa_f29 K)),
  fun K => HK.eqB (PySem.W.nsIn K mainGlobals "is_between") (some (some (.ref (aa_f30 K)))),
  fun K => HK.fB K (aa_f30 K) "is_between" .none,
  fun K => PySem.W.keepIn K (.ref (aa_f30 K)),
  fun K => HK.eqB (PySem.W.nsIn K mainGlobals "is_numeral") (some (some (.ref (aa_f31 K)))),
  fun K => HK.fB K (aa_f31 K) "is_numeral" .none,
  fun K => PySem.W.keepIn K (.ref (aa_f31 K)),
  fun K => HK.eqB (PySem.W.nsIn K mainGlobals "line_from") (some (some (.ref (aa_f32 K)))),
  fun K => HK.fB K (aa_f32 K) "line_from" .none,
  fun K => PySem.W.keepIn K (.ref (aa_f32 K)),
  fun K => HK.eqB (PySem.W.nsIn K mainGlobals "text_of") (some (some (.ref (aa_f33 K)))),
  fun K => HK.fB K (aa_f33 K) "text_of" .none,
  fun K => PySem.W.keepIn K (.ref (aa_f33 K)),
  fun K => HK.eqB (PySem.W.nsIn K mainGlobals "read_holds") (some (some (.ref (aa_f34 K)))),
  fun K => HK.fB K (aa_f34 K) "read_holds" .none,
  fun K => PySem.W.keepIn K (.ref (aa_f34 K)),
  fun K => HK.eqB (PySem.W.nsIn K mainGlobals "read_part") (some (some (.ref (aa_f35 K)))),
  fun K => HK.fB K (aa_f35 K) "read_part" .none,
  fun K => PySem.W.keepIn K (.ref (aa_f35 K)),
  fun K => HK.eqB (PySem.W.nsIn K mainGlobals "read_line") (some (some (.ref (aa_f36 K)))),
  fun K => HK.fB K (aa_f36 K) "read_line" .none,
  fun K => PySem.W.keepIn K (.ref (aa_f36 K)),
  fun K => HK.eqB (PySem.W.nsIn K mainGlobals "read_book") (some (some (.ref (aa_f37 K)))),
  fun K => HK.fB K (aa_f37 K) "read_book" .none,
  fun K => PySem.W.keepIn K (.ref (aa_f37 K)),
  fun K => HK.eqB (PySem.W.nsIn K mainGlobals "_law_pot") (some (some (.ref (aa_f38 K)))),
  fun K => HK.fB K (aa_f38 K) "_law_pot" .none,
  fun K => PySem.W.keepIn K (.ref (aa_f38 K)),
  fun K => HK.eqB (PySem.W.nsIn K mainGlobals "_law_draw") (some (some (.ref (aa_f39 K)))),
  fun K => HK.fB K (aa_f39 K) "_law_draw" .none]
def ex5 : List (PySem.W.Frag → Bool) := [
  fun K => PySem.W.keepIn K (.ref (aa_f39 K)),
  fun K => HK.eqB (PySem.W.nsIn K mainGlobals "_law_pick") (some (some (.ref (aa_f40 K)))),
  fun K => HK.fB K (aa_f40 K) "_law_pick" .none,
  fun K => PySem.W.keepIn K (.ref (aa_f40 K)),
  fun K => HK.eqB (PySem.W.nsIn K mainGlobals "_law_sequences") (some (some (.ref (aa_f41 K)))),
  fun K => HK.fB K (aa_f41 K) "_law_sequences" .none,
  fun K => PySem.W.keepIn K (.ref (aa_f41 K)),
  fun K => HK.eqB (PySem.W.nsIn K mainGlobals "_law_is_ahead") (some (some (.ref (aa_f42 K)))),
  fun K => HK.fB K (aa_f42 K) "_law_is_ahead" .none,
  fun K => PySem.W.keepIn K (.ref (aa_f42 K)),
  fun K => HK.eqB (PySem.W.nsIn K mainGlobals "_law_is_take") (some (some (.ref (aa_f43 K)))),
  fun K => HK.fB K (aa_f43 K) "_law_is_take" .none,
  fun K => PySem.W.keepIn K (.ref (aa_f43 K)),
  fun K => HK.eqB (PySem.W.nsIn K mainGlobals "_law_is_give") (some (some (.ref (aa_f44 K)))),
  fun K => HK.fB K (aa_f44 K) "_law_is_give" .none,
  fun K => PySem.W.keepIn K (.ref (aa_f44 K)),
  fun K => HK.eqB (PySem.W.nsIn K mainGlobals "_law_is_move") (some (some (.ref (aa_f45 K)))),
  fun K => HK.fB K (aa_f45 K) "_law_is_move" .none,
  fun K => PySem.W.keepIn K (.ref (aa_f45 K)),
  fun K => HK.eqB (PySem.W.nsIn K mainGlobals "_law_takes") (some (some (.ref (aa_f46 K)))),
  fun K => HK.fB K (aa_f46 K) "_law_takes" .none,
  fun K => PySem.W.keepIn K (.ref (aa_f46 K)),
  fun K => HK.eqB (PySem.W.nsIn K mainGlobals "_law_gives") (some (some (.ref (aa_f47 K)))),
  fun K => HK.fB K (aa_f47 K) "_law_gives" .none,
  fun K => PySem.W.keepIn K (.ref (aa_f47 K)),
  fun K => HK.eqB (PySem.W.nsIn K mainGlobals "_law_moves") (some (some (.ref (aa_f48 K)))),
  fun K => HK.fB K (aa_f48 K) "_law_moves" .none,
  fun K => PySem.W.keepIn K (.ref (aa_f48 K)),
  fun K => HK.eqB (PySem.W.nsIn K mainGlobals "_law_lifts") (some (some (.ref (aa_f49 K)))),
  fun K => HK.fB K (aa_f49 K) "_law_lifts" .none]
def ex6 : List (PySem.W.Frag → Bool) := [
  fun K => PySem.W.keepIn K (.ref (aa_f49 K)),
  fun K => HK.eqB (PySem.W.nsIn K mainGlobals "_law_book") (some (some (.ref (aa_f50 K)))),
  fun K => HK.fB K (aa_f50 K) "_law_book" .none,
  fun K => PySem.W.keepIn K (.ref (aa_f50 K)),
  fun K => HK.eqB (PySem.W.nsIn K mainGlobals "_law_mixed") (some (some (.ref (aa_f51 K)))),
  fun K => HK.fB K (aa_f51 K) "_law_mixed" .none,
  fun K => PySem.W.keepIn K (.ref (aa_f51 K)),
  fun K => HK.eqB (PySem.W.nsIn K mainGlobals "_law_kinds_of") (some (some (.ref (aa_f52 K)))),
  fun K => HK.fB K (aa_f52 K) "_law_kinds_of" .none,
  fun K => PySem.W.keepIn K (.ref (aa_f52 K)),
  fun K => HK.eqB (PySem.W.nsIn K mainGlobals "_law_text") (some (some (.ref (aa_f53 K)))),
  fun K => HK.fB K (aa_f53 K) "_law_text" .none,
  fun K => PySem.W.keepIn K (.ref (aa_f53 K)),
  fun K => HK.eqB (PySem.W.nsIn K mainGlobals "_law_any_rules") (some (some (.ref (aa_f54 K)))),
  fun K => HK.fB K (aa_f54 K) "_law_any_rules" .none,
  fun K => PySem.W.keepIn K (.ref (aa_f54 K)),
  fun K => HK.eqB (PySem.W.nsIn K mainGlobals "_law_turned_rules") (some (some (.ref (aa_f55 K)))),
  fun K => HK.fB K (aa_f55 K) "_law_turned_rules" .none,
  fun K => PySem.W.keepIn K (.ref (aa_f55 K)),
  fun K => HK.eqB (PySem.W.nsIn K mainGlobals "_law_told") (some (some (.ref (aa_f56 K)))),
  fun K => HK.fB K (aa_f56 K) "_law_told" .none,
  fun K => PySem.W.keepIn K (.ref (aa_f56 K)),
  fun K => HK.eqB (PySem.W.nsIn K mainGlobals "_law_both_ways") (some (some (.ref (aa_f57 K)))),
  fun K => HK.fB K (aa_f57 K) "_law_both_ways" .none,
  fun K => PySem.W.keepIn K (.ref (aa_f57 K)),
  fun K => HK.eqB (PySem.W.nsIn K mainGlobals "_law_changed") (some (some (.ref (aa_f58 K)))),
  fun K => HK.fB K (aa_f58 K) "_law_changed" .none,
  fun K => PySem.W.keepIn K (.ref (aa_f58 K)),
  fun K => HK.eqB (PySem.W.nsIn K mainGlobals "_law_right") (some (some (.ref (aa_f59 K)))),
  fun K => HK.fB K (aa_f59 K) "_law_right" .none]
def ex7 : List (PySem.W.Frag → Bool) := [
  fun K => PySem.W.keepIn K (.ref (aa_f59 K)),
  fun K => HK.eqB (PySem.W.nsIn K mainGlobals "law") (some (some (.ref (aa_f60 K)))),
  fun K => HK.fB K (aa_f60 K) "law" .none,
  fun K => PySem.W.keepIn K (.ref (aa_f60 K)),
  fun K => HK.eqB (PySem.W.nsIn K mainGlobals "abs") (some none),
  fun K => HK.eqB (PySem.W.nsIn K mainGlobals "all") (some none),
  fun K => HK.eqB (PySem.W.nsIn K mainGlobals "bool") (some none),
  fun K => HK.eqB (PySem.W.nsIn K mainGlobals "dict") (some none),
  fun K => HK.eqB (PySem.W.nsIn K mainGlobals "divmod") (some none),
  fun K => HK.eqB (PySem.W.nsIn K mainGlobals "enumerate") (some none),
  fun K => HK.eqB (PySem.W.nsIn K mainGlobals "int") (some none),
  fun K => HK.eqB (PySem.W.nsIn K mainGlobals "isinstance") (some none),
  fun K => HK.eqB (PySem.W.nsIn K mainGlobals "len") (some none),
  fun K => HK.eqB (PySem.W.nsIn K mainGlobals "list") (some none),
  fun K => HK.eqB (PySem.W.nsIn K mainGlobals "max") (some none),
  fun K => HK.eqB (PySem.W.nsIn K mainGlobals "min") (some none),
  fun K => HK.eqB (PySem.W.nsIn K mainGlobals "range") (some none),
  fun K => HK.eqB (PySem.W.nsIn K mainGlobals "repr") (some none),
  fun K => HK.eqB (PySem.W.nsIn K mainGlobals "set") (some none),
  fun K => HK.eqB (PySem.W.nsIn K mainGlobals "str") (some none),
  fun K => HK.eqB (PySem.W.nsIn K mainGlobals "tuple") (some none),
  fun K => HK.nsB K "MOST_BATCH" (.int 50),
  fun K => HK.nsB K "DIGITS" (.str "0123456789"),
  fun K => HK.eqB (PySem.W.nsIn K mainGlobals "FAILS") (some (some (.ref (aa_T_FAILS K)))),
  fun K => HK.seqB K (aa_T_FAILS K) (some (.type "tuple")) [.str "undo", .str "leave", .str "wait"],
  fun K => HK.eqB (PySem.W.nsIn K mainGlobals "LINES") (some (some (.ref (aa_T_LINES K)))),
  fun K => HK.seqB K (aa_T_LINES K) (some (.type "tuple")) [.str "take", .str "give", .str "move", .str "lift", .str "fails", .str "holds", .str "batch", .str "last"],
  fun K => HK.eqB (PySem.W.nsIn K mainGlobals "ROW_KINDS") (some (some (.ref (aa_T_ROW_KINDS K)))),
  fun K => HK.seqB K (aa_T_ROW_KINDS K) (some (.type "tuple")) [.str "take", .str "give", .str "move", .str "lift"],
  fun K => HK.eqB (PySem.W.nsIn K mainGlobals "SETTLES_WORDS") (some (some (.ref (aa_T_SETTLES_WORDS K))))]
def ex8 : List (PySem.W.Frag → Bool) := [
  fun K => HK.seqB K (aa_T_SETTLES_WORDS K) (some (.type "tuple")) [.str "stays", .str "settles"],
  fun K => HK.eqB (PySem.W.nsIn K mainGlobals "SHARED_WORDS") (some (some (.ref (aa_T_SHARED_WORDS K)))),
  fun K => HK.seqB K (aa_T_SHARED_WORDS K) (some (.type "tuple")) [.str "apart", .str "shared"],
  fun K => HK.eqB (PySem.W.nsIn K mainGlobals "LIFT_ROWS") (some (some (.ref (aa_T_LIFT_ROWS K)))),
  fun K => HK.seqB K (aa_T_LIFT_ROWS K) (some (.type "tuple")) [.val (.ref (aa_T0_LIFT_ROWS K)), .val (.ref (aa_T1_LIFT_ROWS K)), .val (.ref (aa_T2_LIFT_ROWS K)), .val (.ref (aa_T3_LIFT_ROWS K)), .val (.ref (aa_T4_LIFT_ROWS K)), .val (.ref (aa_T5_LIFT_ROWS K))],
  fun K => HK.seqB K (aa_T0_LIFT_ROWS K) (some (.type "tuple")) [],
  fun K => HK.seqB K (aa_T1_LIFT_ROWS K) (some (.type "tuple")) [.str "set"],
  fun K => HK.seqB K (aa_T2_LIFT_ROWS K) (some (.type "tuple")) [.str "off"],
  fun K => HK.seqB K (aa_T3_LIFT_ROWS K) (some (.type "tuple")) [.str "set", .str "off"],
  fun K => HK.seqB K (aa_T4_LIFT_ROWS K) (some (.type "tuple")) [.str "off", .str "set"],
  fun K => HK.seqB K (aa_T5_LIFT_ROWS K) (some (.type "tuple")) [.str "both"],
  fun K => HK.eqB (PySem.W.nsIn K mainGlobals "ROW_CHECKS") (some (some (.ref (aa_T_ROW_CHECKS K)))),
  fun K => HK.eqB (PySem.W.nsIn K (aa_T_ROW_CHECKS K) "take") (some (some (.ref (aa_f8 K)))),
  fun K => HK.eqB (PySem.W.nsIn K (aa_T_ROW_CHECKS K) "give") (some (some (.ref (aa_f9 K)))),
  fun K => HK.eqB (PySem.W.nsIn K (aa_T_ROW_CHECKS K) "move") (some (some (.ref (aa_f10 K)))),
  fun K => HK.eqB (PySem.W.nsIn K (aa_T_ROW_CHECKS K) "lift") (some (some (.ref (aa_f11 K)))),
  fun K => HK.eqB (PySem.W.subIn K (.ref (aa_C K)) (.type "list")) (some false),
  fun K => HK.eqB (PySem.W.subIn K (.ref (aa_C K)) (.type "tuple")) (some false),
  fun K => HK.eqB (PySem.W.subIn K (.ref (aa_C K)) (.type "dict")) (some false),
  fun K => HK.eqB (PySem.W.subIn K (.ref (aa_C K)) (.type "str")) (some false),
  fun K => HK.eqB (PySem.W.subIn K (.ref (aa_C K)) (.type "bool")) (some false),
  fun K => HK.eqB (PySem.W.subIn K (.ref (aa_C K)) (.type "NoneType")) (some false)]
def ex : List (PySem.W.Frag → Bool) := ex0 ++ (ex1 ++ (ex2 ++ (ex3 ++ (ex4 ++ (ex5 ++ (ex6 ++ (ex7 ++ (ex8))))))))
def ats0 : List HK.At := [
  fun K => (aa_f1 K),
  fun K => (aa_f2 K),
  fun K => (aa_f3 K),
  fun K => (aa_f4 K),
  fun K => (aa_f5 K),
  fun K => (aa_f6 K),
  fun K => (aa_f7 K),
  fun K => (aa_f8 K),
  fun K => (aa_f9 K),
  fun K => (aa_f10 K),
  fun K => (aa_f11 K),
  fun K => (aa_f12 K),
  fun K => (aa_f13 K),
  fun K => (aa_f14 K),
  fun K => (aa_f15 K),
  fun K => (aa_f16 K),
  fun K => (aa_f17 K),
  fun K => (aa_f18 K),
  fun K => (aa_f19 K),
  fun K => (aa_f20 K),
  fun K => (aa_f21 K),
  fun K => (aa_f22 K),
  fun K => (aa_f23 K),
  fun K => (aa_f24 K),
  fun K => (aa_f25 K)]
def ats1 : List HK.At := [
  fun K => (aa_f26 K),
  fun K => (aa_f27 K),
  fun K => (aa_f28 K),
  fun K => (aa_f29 K),
  fun K => (aa_f30 K),
  fun K => (aa_f31 K),
  fun K => (aa_f32 K),
  fun K => (aa_f33 K),
  fun K => (aa_f34 K),
  fun K => (aa_f35 K),
  fun K => (aa_f36 K),
  fun K => (aa_f37 K),
  fun K => (aa_f38 K),
  fun K => (aa_f39 K),
  fun K => (aa_f40 K),
  fun K => (aa_f41 K),
  fun K => (aa_f42 K),
  fun K => (aa_f43 K),
  fun K => (aa_f44 K),
  fun K => (aa_f45 K),
  fun K => (aa_f46 K),
  fun K => (aa_f47 K),
  fun K => (aa_f48 K),
  fun K => (aa_f49 K),
  fun K => (aa_f50 K)]
def ats2 : List HK.At := [
  fun K => (aa_f51 K),
  fun K => (aa_f52 K),
  fun K => (aa_f53 K),
  fun K => (aa_f54 K),
  fun K => (aa_f55 K),
  fun K => (aa_f56 K),
  fun K => (aa_f57 K),
  fun K => (aa_f58 K),
  fun K => (aa_f59 K),
  fun K => (aa_f60 K)]
def ats : List HK.At := ats0 ++ (ats1 ++ (ats2))
def fvs0 : List He.FnW := [
  some ("is_an_integer", "is_an_integer", defArgs s_is_an_integer, .stmts (defBody s_is_an_integer), defScope s_is_an_integer, mainGlobals, [], builtinsNs),
  some ("is_list", "is_list", defArgs s_is_list, .stmts (defBody s_is_list), defScope s_is_list, mainGlobals, [], builtinsNs),
  some ("is_word", "is_word", defArgs s_is_word, .stmts (defBody s_is_word), defScope s_is_word, mainGlobals, [], builtinsNs),
  some ("are_different_words", "are_different_words", defArgs s_are_different_words, .stmts (defBody s_are_different_words), defScope s_are_different_words, mainGlobals, [], builtinsNs),
  some ("has_words_of", "has_words_of", defArgs s_has_words_of, .stmts (defBody s_has_words_of), defScope s_has_words_of, mainGlobals, [], builtinsNs),
  some ("tests_are_ahead", "tests_are_ahead", defArgs s_tests_are_ahead, .stmts (defBody s_tests_are_ahead), defScope s_tests_are_ahead, mainGlobals, [], builtinsNs),
  some ("off_has_home", "off_has_home", defArgs s_off_has_home, .stmts (defBody s_off_has_home), defScope s_off_has_home, mainGlobals, [], builtinsNs),
  some ("is_take_row", "is_take_row", defArgs s_is_take_row, .stmts (defBody s_is_take_row), defScope s_is_take_row, mainGlobals, [], builtinsNs),
  some ("is_give_row", "is_give_row", defArgs s_is_give_row, .stmts (defBody s_is_give_row), defScope s_is_give_row, mainGlobals, [], builtinsNs),
  some ("is_move_row", "is_move_row", defArgs s_is_move_row, .stmts (defBody s_is_move_row), defScope s_is_move_row, mainGlobals, [], builtinsNs),
  some ("is_lift_row", "is_lift_row", defArgs s_is_lift_row, .stmts (defBody s_is_lift_row), defScope s_is_lift_row, mainGlobals, [], builtinsNs),
  some ("is_row", "is_row", defArgs s_is_row, .stmts (defBody s_is_row), defScope s_is_row, mainGlobals, [], builtinsNs),
  some ("fits_batch", "fits_batch", defArgs s_fits_batch, .stmts (defBody s_fits_batch), defScope s_fits_batch, mainGlobals, [], builtinsNs),
  some ("fits_shared", "fits_shared", defArgs s_fits_shared, .stmts (defBody s_fits_shared), defScope s_fits_shared, mainGlobals, [], builtinsNs),
  some ("check_rows", "check_rows", defArgs s_check_rows, .stmts (defBody s_check_rows), defScope s_check_rows, mainGlobals, [], builtinsNs),
  some ("check_fails", "check_fails", defArgs s_check_fails, .stmts (defBody s_check_fails), defScope s_check_fails, mainGlobals, [], builtinsNs),
  some ("check_bool", "check_bool", defArgs s_check_bool, .stmts (defBody s_check_bool), defScope s_check_bool, mainGlobals, [], builtinsNs),
  some ("check_holds", "check_holds", defArgs s_check_holds, .stmts (defBody s_check_holds), defScope s_check_holds, mainGlobals, [], builtinsNs),
  some ("check_batch", "check_batch", defArgs s_check_batch, .stmts (defBody s_check_batch), defScope s_check_batch, mainGlobals, [], builtinsNs),
  some ("check_row_kind", "check_row_kind", defArgs s_check_row_kind, .stmts (defBody s_check_row_kind), defScope s_check_row_kind, mainGlobals, [], builtinsNs),
  some ("__init__", "Book.__init__", defArgs s_Binit, .stmts (defBody s_Binit), defScope s_Binit, mainGlobals, [], builtinsNs),
  some ("__eq__", "Book.__eq__", defArgs s_Beq, .stmts (defBody s_Beq), defScope s_Beq, mainGlobals, [], builtinsNs),
  some ("__repr__", "Book.__repr__", defArgs s_Brepr, .stmts (defBody s_Brepr), defScope s_Brepr, mainGlobals, [], builtinsNs),
  some ("fails", "Book.fails", defArgs s_Bfails, .stmts (defBody s_Bfails), defScope s_Bfails, mainGlobals, [], builtinsNs),
  some ("shared", "Book.shared", defArgs s_Bshared, .stmts (defBody s_Bshared), defScope s_Bshared, mainGlobals, [], builtinsNs)]
def fvs1 : List He.FnW := [
  some ("holds", "Book.holds", defArgs s_Bholds, .stmts (defBody s_Bholds), defScope s_Bholds, mainGlobals, [], builtinsNs),
  some ("batch", "Book.batch", defArgs s_Bbatch, .stmts (defBody s_Bbatch), defScope s_Bbatch, mainGlobals, [], builtinsNs),
  some ("settles", "Book.settles", defArgs s_Bsettles, .stmts (defBody s_Bsettles), defScope s_Bsettles, mainGlobals, [], builtinsNs),
  some ("row", "Book.row", defArgs s_Brow, .stmts (defBody s_Brow), defScope s_Brow, mainGlobals, [], builtinsNs),
  some ("is_between", "is_between", defArgs s_is_between, .stmts (defBody s_is_between), defScope s_is_between, mainGlobals, [], builtinsNs),
  some ("is_numeral", "is_numeral", defArgs s_is_numeral, .stmts (defBody s_is_numeral), defScope s_is_numeral, mainGlobals, [], builtinsNs),
  some ("line_from", "line_from", defArgs s_line_from, .stmts (defBody s_line_from), defScope s_line_from, mainGlobals, [], builtinsNs),
  some ("text_of", "text_of", defArgs s_text_of, .stmts (defBody s_text_of), defScope s_text_of, mainGlobals, [], builtinsNs),
  some ("read_holds", "read_holds", defArgs s_read_holds, .stmts (defBody s_read_holds), defScope s_read_holds, mainGlobals, [], builtinsNs),
  some ("read_part", "read_part", defArgs s_read_part, .stmts (defBody s_read_part), defScope s_read_part, mainGlobals, [], builtinsNs),
  some ("read_line", "read_line", defArgs s_read_line, .stmts (defBody s_read_line), defScope s_read_line, mainGlobals, [], builtinsNs),
  some ("read_book", "read_book", defArgs s_read_book, .stmts (defBody s_read_book), defScope s_read_book, mainGlobals, [], builtinsNs),
  some ("_law_pot", "_law_pot", defArgs s_Lpot, .stmts (defBody s_Lpot), defScope s_Lpot, mainGlobals, [], builtinsNs),
  some ("_law_draw", "_law_draw", defArgs s_Ldraw, .stmts (defBody s_Ldraw), defScope s_Ldraw, mainGlobals, [], builtinsNs),
  some ("_law_pick", "_law_pick", defArgs s_Lpick, .stmts (defBody s_Lpick), defScope s_Lpick, mainGlobals, [], builtinsNs),
  some ("_law_sequences", "_law_sequences", defArgs s_Lsequences, .stmts (defBody s_Lsequences), defScope s_Lsequences, mainGlobals, [], builtinsNs),
  some ("_law_is_ahead", "_law_is_ahead", defArgs s_Lis_ahead, .stmts (defBody s_Lis_ahead), defScope s_Lis_ahead, mainGlobals, [], builtinsNs),
  some ("_law_is_take", "_law_is_take", defArgs s_Lis_take, .stmts (defBody s_Lis_take), defScope s_Lis_take, mainGlobals, [], builtinsNs),
  some ("_law_is_give", "_law_is_give", defArgs s_Lis_give, .stmts (defBody s_Lis_give), defScope s_Lis_give, mainGlobals, [], builtinsNs),
  some ("_law_is_move", "_law_is_move", defArgs s_Lis_move, .stmts (defBody s_Lis_move), defScope s_Lis_move, mainGlobals, [], builtinsNs),
  some ("_law_takes", "_law_takes", defArgs s_Ltakes, .stmts (defBody s_Ltakes), defScope s_Ltakes, mainGlobals, [], builtinsNs),
  some ("_law_gives", "_law_gives", defArgs s_Lgives, .stmts (defBody s_Lgives), defScope s_Lgives, mainGlobals, [], builtinsNs),
  some ("_law_moves", "_law_moves", defArgs s_Lmoves, .stmts (defBody s_Lmoves), defScope s_Lmoves, mainGlobals, [], builtinsNs),
  some ("_law_lifts", "_law_lifts", defArgs s_Llifts, .stmts (defBody s_Llifts), defScope s_Llifts, mainGlobals, [], builtinsNs),
  some ("_law_book", "_law_book", defArgs s_Lbook, .stmts (defBody s_Lbook), defScope s_Lbook, mainGlobals, [], builtinsNs)]
def fvs2 : List He.FnW := [
  some ("_law_mixed", "_law_mixed", defArgs s_Lmixed, .stmts (defBody s_Lmixed), defScope s_Lmixed, mainGlobals, [], builtinsNs),
  some ("_law_kinds_of", "_law_kinds_of", defArgs s_Lkinds_of, .stmts (defBody s_Lkinds_of), defScope s_Lkinds_of, mainGlobals, [], builtinsNs),
  some ("_law_text", "_law_text", defArgs s_Ltext, .stmts (defBody s_Ltext), defScope s_Ltext, mainGlobals, [], builtinsNs),
  some ("_law_any_rules", "_law_any_rules", defArgs s_Lany_rules, .stmts (defBody s_Lany_rules), defScope s_Lany_rules, mainGlobals, [], builtinsNs),
  some ("_law_turned_rules", "_law_turned_rules", defArgs s_Lturned_rules, .stmts (defBody s_Lturned_rules), defScope s_Lturned_rules, mainGlobals, [], builtinsNs),
  some ("_law_told", "_law_told", defArgs s_Ltold, .stmts (defBody s_Ltold), defScope s_Ltold, mainGlobals, [], builtinsNs),
  some ("_law_both_ways", "_law_both_ways", defArgs s_Lboth_ways, .stmts (defBody s_Lboth_ways), defScope s_Lboth_ways, mainGlobals, [], builtinsNs),
  some ("_law_changed", "_law_changed", defArgs s_Lchanged, .stmts (defBody s_Lchanged), defScope s_Lchanged, mainGlobals, [], builtinsNs),
  some ("_law_right", "_law_right", defArgs s_Lright, .stmts (defBody s_Lright), defScope s_Lright, mainGlobals, [], builtinsNs),
  some ("law", "law", defArgs s_law, .stmts (defBody s_law), defScope s_law, mainGlobals, [], builtinsNs)]
def fvs : List He.FnW := fvs0 ++ (fvs1 ++ (fvs2))
def tbs : List He.Tab := [(fun K => (aa_T_ROW_CHECKS K), ["take", "give", "move", "lift"])]
def ls0 : List Str := ["_wall", "is_an_integer", "is_between", "is_list", "is_word", "are_different_words", "WayError", "InvalidKind", "InvalidRow", "InvalidWord", "InvalidHolds", "InvalidCount", "InvalidText", "ROW_KINDS", "LIFT_ROWS", "has_words_of", "tests_are_ahead", "off_has_home", "is_take_row", "is_give_row", "is_move_row", "is_lift_row", "ROW_CHECKS", "is_row", "fits_batch", "fits_shared", "FAILS", "MOST_BATCH", "check_rows", "check_fails"]
def ls1 : List Str := ["check_bool", "check_holds", "check_batch", "check_row_kind", "Book", "DIGITS", "is_numeral", "line_from", "SHARED_WORDS", "SETTLES_WORDS", "LINES", "text_of", "read_holds", "read_part", "read_line", "read_book", "_law_pot", "_law_draw", "_law_pick", "_law_sequences", "_law_is_ahead", "_law_is_take", "_law_is_give", "_law_is_move", "_law_takes", "_law_gives", "_law_moves", "_law_lifts", "_law_book", "_law_mixed"]
def ls2 : List Str := ["_law_kinds_of", "_law_text", "_law_any_rules", "_law_turned_rules", "_law_told", "_law_both_ways", "_law_changed", "_law_right"]
def loose : List Str := ls0 ++ (ls1 ++ (ls2))
abbrev R : PySem.W.OpenRow := PySem.W.OpenLaw.row PySem.Challenge.rw_chargeways_k90_whole_texts_both_ways
def as : List Addr := (List.range 1000).reverse
abbrev hk : PySem.W.Hook := HK.hook as ats fvs tbs ex
def ob (s : PySem.W.SharedT) : HK.Al := HK.obsM as ats tbs ex (HandSHeadRun.getT s)
theorem ob_eq (s : PySem.W.SharedT) : ob s = hk.obs s.abs := HK.obs_eq (HandSHeadRun.getT_eq s)
set_option maxHeartbeats 0 in
theorem run_f (w : World) : HandSHeadRun.RunEq R (PySem.W.view R.prog [75]) hk ob 20000 loose (w.withFollow "special-get-raises" false) := by
  intro os
  kernel_rfl
set_option maxHeartbeats 0 in
theorem run_t (w : World) : HandSHeadRun.RunEq R (PySem.W.view R.prog [75]) hk ob 20000 loose (w.withFollow "special-get-raises" true) := by
  intro os
  kernel_rfl
theorem run : ∀ w : World, HandSHeadRun.RunEq R (PySem.W.view R.prog [75]) hk ob 20000 loose w := PySem.W.byRow2 "special-get-raises" (P := fun w => HandSHeadRun.RunEq R (PySem.W.view R.prog [75]) hk ob 20000 loose w) run_f run_t
end Hd
namespace GL
open PySem PySem.Spec PyProof.Rows L2
abbrev Fre (A : Around) : Prop := A.guards = some []
theorem fre_make {A : Around} {C : Addr} {us : List Value} {kw : List (Str × Value)} (h : Fre A) : Fre (A.under (.builtin "type.__call__" ⟨.ref C :: us, kw⟩)) := by
  first | exact h | simpa [Around.under, Code.guards, pushGuards, Code.isGuard] using h
/-- as FnOk, where nothing is being shown -/
structure FnG (P : Program) (w : World) (K : PySem.W.Frag) (mg : Str → Option Value) (base : Heap) (CX : CXT) (k : Nat) (f : Addr) (fd : FuncData) (ps : List Str) (sp : Sp) : Prop where
  many : ∀ vs H Q E, sp vs H Q E → vs.length = ps.length
  goes : ∀ {A : Around} {outer : List Env} {s : Shared} {H : Hp} {args : Args} {us : List Value} {vs : List V} {Q : VK} {E : XK}, Fre A → Room k A →
    Env0 P w K mg base A outer s H → BindsTo s fd args (ps.zip us) → Vals vs us → sp vs H Q E → codeAny (model P w) A (.call (.ref f) args) (CR CX outer P w H s Q E) s
section
variable {X : Cx} {CX : CXT} {k : Nat} {f C : Addr} {fd : FuncData} {ps ks : List Str} {sp : Sp} {dvs : List V} {ds : List Value} {E : XK} {x m : Str} {p pos apos : Pos} {e o : Expr} {es : List Expr} {kws : List Keyword} {ta : TE} {t tk : TA}
  {g : List Value → List Value → List Value} {gV : List V → List V → List V} {pins : List (Addr × Obj)} {σ : L2.St} {H : Hp} {s : Shared} {Q : VK} {us ws : List Value} {vs zs : List V}
/-- a call's result, taken into the caller's frame -/
theorem landed {code : Code} (hx : Passes CX X E) (I : Inv X pins σ H s) (h : codeAny (model X.prog X.w) X.A code (CR CX X.stack X.prog X.w H s Q E) s) :
    codeAny (model X.prog X.w) X.A code (fun r s' => match r with
      | .ok (.ret u) => EP X pins σ Q u s'
      | .ok _ => False
      | .error e => X.xe e s') s := by
  refine codeAny_mono h ?_
  intro r s' hq
  match r, hq with
  | .error e, hq => exact hx pins σ H s e s' I hq
  | .ok (.ret u), hq => exact I.after hq
  | .ok .next, hq => exact hq
  | .ok .brk, hq => exact hq
  | .ok .cont, hq => exact hq
theorem ran {v : Value} {args : List Value} {kw : List (Str × Value)} (h : codeAny (model X.prog X.w) X.A (.call v ⟨args, kw⟩) (fun r s' => match r with
      | .ok (.ret u) => EP X pins σ Q u s'
      | .ok _ => False
      | .error e => X.xe e s') s) : wpAny (model X.prog X.w) X.A (call v args kw) (EP X pins σ Q) X.xe s := by
  refine wpAny_call (codeAny_mono h ?_)
  intro r s' hq
  match r, hq with
  | .error e, hq => exact hq
  | .ok (.ret u), hq => exact hq
theorem ranF (G : Fre X.A) (F : FnG X.prog X.w X.K X.mg X.base CX k f fd ps sp) (hr : Room k X.A) (hb : Binds X.K fd ps ds) (hd : Vals dvs ds) (hx : Passes CX X E) (I : Inv X pins σ H s) (r : Vals vs us) (h : sp (vs ++ dvs) H Q E) :
    wpAny (model X.prog X.w) X.A (call (.ref f) us) (EP X pins σ Q) X.xe s :=
  have ra := r.append hd
  ran (landed hx I (F.goes G hr I.env0 (hb s us I.kIn (ra.length.symm.trans (F.many _ _ _ _ h))) ra h))
/-- f(e, ..) -/
theorem pc (G : Fre X.A) (F : FnG X.prog X.w X.K X.mg X.base CX k f fd ps sp) (hr : Room k X.A) (hg : Gl X x) (hm : X.mg x = some (.ref f)) (hk : PySem.W.keepIn X.K (.ref f) = true) (hb : Binds X.K fd ps ds) (hd : Vals dvs ds) (hx : Passes CX X E)
    (ha : PA X (e :: es) t) (ndb : (x == ("__debug__" : Str)) = false := by decide) (he : starEach (e :: es) X.env = (false, eval e X.env) :: starEach es X.env := by rfl) (hpl : (backTo pos (starEach es X.env)).any (·.1) = false := by rfl) :
    PE X (.Call (.Name x p) (e :: es) [] pos) (tCall sp dvs E t) where
  run := fun pins s σ H Q I h => wpAny_Call_Name_kw (ld_glob I hg hm
    (PySem.W.callWith_K I.ok.mod.kin hk (thn (ha.run pos pins s σ H _ I h) fun us s1 ⟨vs, H1, I1, r, q⟩ => ⟨I1.kIn, ranF G F hr hb hd hx I1 r q⟩) he hpl) ndb)
theorem pc0 (G : Fre X.A) (F : FnG X.prog X.w X.K X.mg X.base CX k f fd ps sp) (hr : Room k X.A) (hg : Gl X x) (hm : X.mg x = some (.ref f)) (hk : PySem.W.keepIn X.K (.ref f) = true) (hb : Binds X.K fd ps ds) (hd : Vals dvs ds) (hx : Passes CX X E)
    (ndb : (x == ("__debug__" : Str)) = false := by decide) : PE X (.Call (.Name x p) [] [] pos) (tCall sp dvs E tNil) where
  run := fun pins s σ H Q I h => wpAny_Call_Name_kw (ld_glob I hg hm (PySem.W.callWith_K0 I.kIn hk (ranF (us := []) G F hr hb hd hx I .nil h)) ndb)
/-- o.m(e, ..) -/
theorem pm {pl : Sem Bool} (G : Fre X.A) (he : PE X o ta) (c : Cls X.K C) (hm : Meth X.K C m f) (F : FnG X.prog X.w X.K X.mg X.base CX k f fd ps sp) (hr : Room k X.A) (hb : Binds X.K fd ps ds) (hd : Vals dvs ds) (hx : Passes CX X E) (ha : PA X (e :: es) t)
    (hse : starEach (e :: es) X.env = (false, eval e X.env) :: starEach es X.env := by rfl) (hpl : (backTo pos (starEach es X.env)).any (·.1) = false := by rfl)
    (hev : eval (.Call (.Attribute o m apos) (e :: es) [] pos) X.env = (do
      let ov ← eval o X.env
      standAt apos.atName
      let (fn, frst) ← holding [ov] (getMethod ov m pl)
      callWith pos fn frst (backTo pos (starEach (e :: es) X.env)) (backToKw pos (keywordEach [] X.env))) := by rfl) : PE X (.Call (.Attribute o m apos) (e :: es) [] pos) (tMeth C m sp dvs E ta t) := by
  constructor
  intro pins s σ H Q I h
  refine PySem.W.methodCall_KW (pl := pl) (thn (he.run pins s σ H _ I h) ?_) hev
  rintro u s1 ⟨v, H1, I1, rv, a, dx, fs, rfl, ea, l, q⟩
  cases rv
  refine getmeth_ok I1 ea c hm l (PySem.W.callWith_K (first := [.ref a]) (h₀ := X.base) I.ok.mod.kin hm.kp (thn (ha.run pos pins s1 σ H1 _ I1 q) ?_) hse hpl)
  rintro us s2 ⟨vs, H2, I2, r, q2⟩
  exact ⟨I2.kIn, ranF (us := .ref a :: us) (vs := .ref a :: vs) G F hr hb hd hx I2 (.cons rfl r) q2⟩
/-- C(..): the instance is made, then its __init__ -/
theorem ranM (G : Fre X.A) (M : Mk X.K C f) (F : FnG X.prog X.w X.K X.mg X.base CX k f fd ps sp) (hr : Room (k + 1) X.A) (hb : Binds X.K fd ps ds) (hd : Vals dvs ds) (hx : Passes CX X E) (I : Inv X pins σ H s) (r : Vals vs us)
    (h : ∀ y dy, H y = none → H dy = none → dy ≠ y → sp (.ref y :: (vs ++ dvs)) (upd (upd H dy (.own y)) y (.ins C dy [])) (fun v H2 => v = .non ∧ Q (.ref y) H2) E) : wpAny (model X.prog X.w) X.A (call (.ref C) us) (EP X pins σ Q) X.xe s := by
  have h0 := h (s.heap.objs.size + 1) s.heap.objs.size (I.hok.fresh (Nat.le_succ _)) (I.hok.fresh (Nat.le_refl _)) (Nat.ne_of_lt (Nat.lt_succ_self _))
  have J := Inv.made (C := C) I
  have rz : Vals (V.ref (s.heap.objs.size + 1) :: (vs ++ dvs)) (Value.ref (s.heap.objs.size + 1) :: (us ++ ds)) := .cons rfl (r.append hd)
  have hl : (Value.ref (s.heap.objs.size + 1) :: us ++ ds).length = ps.length := rz.length.symm.trans (F.many _ _ _ _ h0)
  have run := F.goes (fre_make G) (hr.make C us []) (J.env0.make C us []) (hb _ (Value.ref (s.heap.objs.size + 1) :: us) J.kIn hl) rz h0
  refine wpAny_call (make_map (f := f) I.kIn M.makes M.init (beq_iff_eq.mp M.fn) (codeAny_mono run ?_))
  intro r s' z
  match r, z with
  | .error e, z => exact hx pins σ _ _ e s' J z
  | .ok (.ret u), z =>
    obtain ⟨v, H', I3, rv, ev, q3⟩ := J.after z
    cases ev
    exact And.intro rv ⟨V.ref (s.heap.objs.size + 1), H', I3, rfl, q3⟩
  | .ok .next, z => exact z.elim
  | .ok .brk, z => exact z.elim
  | .ok .cont, z => exact z.elim
theorem pk (G : Fre X.A) (M : Mk X.K C f) (F : FnG X.prog X.w X.K X.mg X.base CX k f fd ps sp) (hr : Room (k + 1) X.A) (hg : Gl X x) (hm : X.mg x = some (.ref C)) (hb : Binds X.K fd ps ds) (hd : Vals dvs ds) (hx : Passes CX X E)
    (ha : PA X (e :: es) t) (ndb : (x == ("__debug__" : Str)) = false := by decide) (he : starEach (e :: es) X.env = (false, eval e X.env) :: starEach es X.env := by rfl) (hpl : (backTo pos (starEach es X.env)).any (·.1) = false := by rfl) :
    PE X (.Call (.Name x p) (e :: es) [] pos) (tMake C sp dvs E t) where
  run := fun pins s σ H Q I h => wpAny_Call_Name_kw (ld_glob I hg hm
    (PySem.W.callWith_K I.ok.mod.kin M.kp (thn (ha.run pos pins s σ H _ I h) fun us s1 ⟨vs, H1, I1, r, q⟩ => ⟨I1.kIn, ranM G M F hr hb hd hx I1 r q⟩) he hpl) ndb)
end
/-- a body keeps its promise -/
theorem bodied {CX : CXT} {P : Program} {w : World} {K : PySem.W.Frag} {mg : Str → Option Value} {base : Heap} {k : Nat} {f : Addr} {name qual : Str} {params : Arguments} {body : List Stmt} {scope : Scope} {dV kV doc pm cdv ct oc : Value} {an od : Option Addr}
    {sl0 : Array (Option Value)} {N ps : List Str} {sp : Sp} (lk : K.lookup f = some ⟨oc, od, .func (PySem.W.fnOf name qual params body scope dV kV doc pm an cdv ct), sl0⟩) (hcd : PySem.W.codeIn K cdv qual = true) (S : FnScope N ps scope)
    (many : ∀ vs H Q E, sp vs H Q E → vs.length = ps.length)
    (hb : ∀ (A : Around) (outer : List Env) (s : Shared) (H : Hp) (vs : List V) (Q : VK) (E : XK), Fre (A.deeper (envOfC qual scope s.heap.objs.size f cdv)) → Room k (A.deeper (envOfC qual scope s.heap.objs.size f cdv)) → sp vs H Q E →
      ∃ tr, PSs (cxOf CX P w K mg base N qual scope f cdv A outer s H E) body tr ∧ tr { nx := fun _ H' => Q .non H', rt := Q } (start N vs) H) :
    FnG P w K mg base CX (k + 1) f (PySem.W.fnOf name qual params body scope dV kV doc pm an cdv ct) ps sp := by
  refine ⟨many, ?_⟩
  intro A outer s H args us vs Q E hgd hr e0 hbd r hsp
  have KI : K.In s.heap := e0.mod.kin.keeps fun b o e => (e0.bs b o e).1
  have kinds : ∀ y ∈ ps.zip us, scope.names.lookup y.1 = some .local ∨ (scope.names.lookup y.1 = some .cell ∧ ((cellsFrom (s.heap.objs.size + 1) scope.names []).lookup y.1).isSome = true) := by
    rintro ⟨n, v⟩ hy
    exact (S.par n (List.of_mem_zip hy).1).imp id fun q => ⟨q, PySem.W.cellsFrom_some _ _ _ (.inl q)⟩
  refine codeAny_call_function hr.depth (KI _ _ lk) rfl S.co S.gen rfl (PySem.W.codeRec_of KI hcd) (hbd _ _ _ _ (wpAny_newFunctionEnv_cells S.kind kinds ?_))
  rintro env rfl s1 x
  refine ⟨(e0.mod.nolimit.keeps fun b o e => (e0.bs b o e).1).keeps x.toInCall.keep, codeAny_func ?_⟩
  obtain ⟨t, ht, hq⟩ := hb A outer s H vs Q E hgd (hr.deeper _) hsp
  have I := inv_start (CX := CX) (E := E) S hr.hd e0 (many _ _ _ _ hsp) r x
  refine wpAny_mono (ht.run [] s1 (start N vs) H _ I hq) ?_ (fun _ _ z => z)
  intro fl s' z
  match fl, z with
  | .ret u, z =>
    obtain ⟨v, σ', H', J, rv, q⟩ := z
    exact ⟨v, H', J.os, J.bare, J.base, J.hok, rv, q⟩
  | .next, z =>
    obtain ⟨σ', H', J, q⟩ := z
    exact ⟨V.non, H', J.os, J.bare, J.base, J.hok, rfl, q⟩
  | .brk, z => exact z.elim fun _ z => z.elim fun _ z => z.2.elim
  | .cont, z => exact z.elim fun _ z => z.elim fun _ z => z.2.elim
section
variable {P : Program} {w : World} {K : PySem.W.Frag} {mg : Str → Option Value} {base : Heap} {x qual : Str} {st : Stmt} {f : Addr} {fd : FuncData} {N ps : List Str} {k : Nat} {sp : Sp} {CX : CXT}
theorem okG (F : L2.Fun K x qual st f fd) (S : FnScope N ps (defScope st)) (many : ∀ vs H Q E, sp vs H Q E → vs.length = ps.length)
    (hb : ∀ (cdv : Value) (A : Around) (outer : List Env) (s : Shared) (H : Hp) (vs : List V) (Q : VK) (E : XK), Fre (A.deeper (envOfC qual (defScope st) s.heap.objs.size f cdv)) → Room k (A.deeper (envOfC qual (defScope st) s.heap.objs.size f cdv)) → sp vs H Q E →
      ∃ t, PSs (cxOf CX0 P w K mg base N qual (defScope st) f cdv A outer s H E).nox (defBody st) t ∧ t { nx := fun _ H' => Q .non H', rt := Q } (start N vs) H) : FnG P w K mg base CX0 (k + 1) f fd ps sp := by
  obtain ⟨c0, o0, kV, doc, pm, an, cdv, ct, s0, rfl, lk, hcd⟩ := F.ex
  exact bodied lk hcd S many fun A outer s H vs Q E g hr hsp => (hb cdv A outer s H vs Q E g hr hsp).imp fun t z => ⟨z.1.nox, z.2⟩
end
end GL
namespace GL
open PySem PySem.Spec PyProof.Rows L2
section
variable {X : Cx} {CX : CXT} {k : Nat} {f C : Addr} {fd : FuncData} {sp : Sp} {E : XK}
/-- repr(x) of a list or tuple of data -/
def rRepr (K : PySem.W.Frag) : List V → Hp → VK → Prop := fun xs H Q => ∃ v d, xs = [v] ∧ Dp K H v d ∧ isDisplay d = true ∧ d.showable = true ∧ d.hasDict = false ∧ d.depth ≤ 60 ∧ d.shown.length ≤ sizeLine ∧ Q (.str d.shown) H
theorem call_repr (G : Fre X.A) (hu : X.A.units + 64 < cLine) : CallR X (.builtin "repr") (rRepr X.K) := by
  intro pins s σ H xs us Q I r h
  obtain ⟨v, d, rfl, hd, h1, h2, h3, h4, h5, q⟩ := h
  cases r with
  | cons r rt =>
    cases rt
    obtain ⟨as, rd⟩ := Dp.reads I d v _ hd r
    obtain ⟨a, rfl⟩ := isRef_of_reads rd h1
    exact repr_of_reads' rd h2 (PyData.noDict_hsm h3) G (by omega) (fun _ _ e => e) (fun h' u tk hk => ⟨.str d.shown, H, I.kept hk, ⟨u, rfl⟩, q⟩) h5
end
/-! ### enumerate from any start, over lists and tuples -/
structure Src (K : PySem.W.Frag) (SQ : Hp → Addr → List V → Prop) (HI : Heap → Addr → Array Value → Prop) (IT : Heap → Addr → Addr → Nat → Prop) : Prop where
  at_ : ∀ {X : Cx} {pins : List (Addr × Obj)} {σ : L2.St} {H : Hp} {s : Shared} {a : Addr} {xs : List V}, X.K = K → L2.Inv X pins σ H s → SQ H a xs → ∃ its : List Value, Vals xs its ∧ HI s.heap a its.toArray
  inj : ∀ {X : Cx} {pins : List (Addr × Obj)} {σ : L2.St} {H : Hp} {s : Shared} {a : Addr} {xs ys : List V}, X.K = K → L2.Inv X pins σ H s → SQ H a xs → SQ H a ys → xs = ys
  obj : ∀ {h : Heap} {it a : Addr} {i : Nat}, IT h it a i → ∃ o, h.get? it = some o ∧ ∀ v, o.data ≠ .cell v
  keep : ∀ {h h' : Heap} {it a : Addr} {i : Nat}, IT h it a i → (∀ o, h.get? it = some o → h'.get? it = some o) → IT h' it a i
  ne1 : ∀ {h : Heap} {it a b : Addr} {i : Nat} {vs : Array Value}, IT h it a i → HI h b vs → b ≠ it
  ne2 : ∀ {h : Heap} {e x a : Addr} {k : Int} {old : Value} {vs : Array Value}, IsEnum h e x k old → HI h a vs → a ≠ e
  dr : ∀ {prog : Program} {w : World} {A : Around}, A.handled = none → ∀ (it l : Addr), l ≠ it → ∀ vs : Array Value, Draws prog w A it [it, l] vs.size (fun i v => vs[i]? = some v) (fun i h => IT h it l i ∧ HI h l vs)
theorem src_tup (K : PySem.W.Frag) : Src K (SqT K) (fun h a vs => h.IsTuple a vs) (fun h it a i => h.IsTupleIter it a i) where
  at_ := fun e I h => by subst e; obtain ⟨its, r, p, _⟩ := I.tuple h; exact ⟨its, r, p⟩
  inj := fun e I h h' => by subst e; exact I.tuple_inj h h'
  obj := fun ⟨o, ho, hc, hd⟩ => ⟨o, ho, fun v q => by rw [hd] at q; cases q⟩
  keep := fun h k => h.at k
  ne1 := fun ⟨o, ho, hc, hd⟩ ⟨o', ho', hc', n, hd'⟩ e => by subst e; rw [ho] at ho'; cases ho'; rw [hd] at hd'; cases hd'
  ne2 := fun he ⟨o', ho', hc', n, hd'⟩ e => by subst e; rw [he] at ho'; cases ho'; cases hd'
  dr := fun hh it l hne vs => Draws.tuple hh it l hne vs
section
variable {K : PySem.W.Frag} {SQ : Hp → Addr → List V → Prop} {HI : Heap → Addr → Array Value → Prop} {IT : Heap → Addr → Addr → Nat → Prop}
def ItE (SQ : Hp → Addr → List V → Prop) (a : Addr) (k : Int) : It where
  go := fun i H => ∃ (xs : List V) (x : V), SQ H a xs ∧ xs[i]? = some x
  yld := fun i H v H' => ∃ T x, v = .ref T ∧ H T = none ∧ H' = upd H T (.tup [.int (k + (i : Nat)), x]) ∧ ∀ xs, SQ H a xs → xs[i]? = some x
  stop := fun i H => ∃ xs : List V, SQ H a xs ∧ xs.length = i
theorem turn_enumE {P : Program} {w : World} {elts : List Expr} {kk : Nat} {tpos : Pos} (S : Src K SQ HI IT) (k : Int) (a e it : Addr) :
    Turn P w K (.Tuple elts kk tpos) (ItE SQ a k) [e, it] e (fun i h => (∃ old, IsEnum h e it (k + (i : Nat)) old) ∧ IT h it a i ∧ e ≠ it) where
  mem := List.mem_cons_self
  obj := fun i h st b hb => by
    obtain ⟨⟨old, he⟩, hit, _⟩ := st
    rcases List.mem_cons.mp hb with rfl | hb
    · exact ⟨_, he, fun v q => nomatch q⟩
    · cases List.mem_singleton.mp hb
      exact S.obj hit
  keep := fun i h h' st k => by
    obtain ⟨⟨old, he⟩, hit, hne⟩ := st
    exact ⟨⟨old, k e (by simp) _ he⟩, S.keep hit fun o q => k it (by simp) o q, hne⟩
  item := by
    intro X hP hw hK hc i pins s σ H E I hf st hg
    subst hP hw
    obtain ⟨⟨old, he⟩, hit, hne⟩ := st
    obtain ⟨xs, x, hq, hx⟩ := hg
    obtain ⟨its, rv, p⟩ := S.at_ hK I hq
    obtain ⟨u, hu, ru⟩ := rv.get hx
    have hel : e < s.heap.objs.size := Heap.lt_size he
    have hil : it < s.heap.objs.size := by
      obtain ⟨o, q, _⟩ := S.obj hit
      exact Heap.lt_size q
    have d1 := S.ne1 hit p
    have d2 := S.ne2 he p
    have hu' : its.toArray[i]? = some u := by simpa using hu
    have hlt : i < its.toArray.size := (Array.getElem?_eq_some_iff.mp hu').1
    have hin : (X.A.in1).handled = none := I.ok.hd hc
    refine wpAny_pyNext_enum_itemC (S.dr (A := X.A.in1) hin it a d1 its.toArray) he ⟨hit, p⟩ hlt hne (by
      intro z
      rcases List.mem_cons.mp z with z | z
      · exact hne z
      · exact d2 (List.mem_singleton.mp z).symm) fun y h' tk hy ho hst hT hsz hk => ?_
    have ey : y = u := Option.some.inj (hy.symm.trans hu')
    subst ey
    refine ⟨_, rfl, wpAny_letOwnedTupleGo_enum (s := { s with heap := h', toks := tk + 1 }) ho fun h2 he2 sb => ?_⟩
    have hT2 : h2.get? s.heap.objs.size = some { cls := .type "tuple", data := .seq #[.int (k + (i : Nat)) tk, y] } := (sb.2 _ (Nat.ne_of_gt hel)).trans hT
    have new : ObjOk X.prog X.w (upd H s.heap.objs.size (.tup [.int (k + (i : Nat)), x])) h2 s.heap.objs.size (.tup [.int (k + (i : Nat)), x]) :=
      ⟨show 2 ≤ sizeLine by decide, [.int (k + (i : Nat)) tk, y], .cons ⟨_, rfl⟩ (.cons ru .nil), ⟨_, hT2, rfl, _, rfl⟩⟩
    have J := I.turnedNew (ch := [e, it]) (h' := h2) (t' := tk + 1) (fun b ob hb q => (sb.2 b (fun z => hb (by simp [z]))).trans (hk b ob (fun z => hb (by simp [z])) (fun z => hb (by simp [z])) q)) hf (Nat.le_refl _) new
    refine ⟨.ref s.heap.objs.size, _, J, rfl, ⟨_, x, rfl, I.hok.fresh (Nat.le_refl _), rfl, fun ys hy => ?_⟩, ⟨⟨y, ?_⟩, S.keep hst.1 fun o q => (sb.2 it (Ne.symm hne)).trans q, hne⟩, fun b hb => ?_⟩
    · rw [S.inj hK I hy hq]
      exact hx
    · have e1 : k + ((i + 1 : Nat) : Int) = k + (i : Nat) + 1 := by omega
      rw [e1]
      exact he2
    · have hb' : b < s.heap.objs.size := by
        rcases List.mem_cons.mp hb with rfl | hb
        · exact hel
        · cases List.mem_singleton.mp hb
          exact hil
      rw [upd_ne (Nat.ne_of_lt hb')]
      exact (hf b hb).1
  done := by
    intro X hP hw hK hc i pins s σ H E I hf st hg
    subst hP hw
    obtain ⟨⟨old, he⟩, hit, hne⟩ := st
    obtain ⟨xs, hq, hx⟩ := hg
    obtain ⟨its, rv, p⟩ := S.at_ hK I hq
    obtain ⟨f0, f1, f2, f3, f4, f5⟩ := hf it (by simp)
    have hl := rv.length
    have d1 := S.ne1 hit p
    have hin : (X.A.in1).handled = none := I.ok.hd hc
    have hsz : its.toArray.size = i := by
      rw [List.size_toArray, ← hl, hx]
    subst hsz
    exact wpAny_pyNext_enum_endD (S.dr (A := X.A.in1) hin it a d1 its.toArray) he ⟨hit, p⟩ fun h' eb => ⟨rfl, I.turned (t' := s.toks) (fun b o hb q => eb b o hb q) f0 f1 f3 f4 f5⟩
  self := fun A i s Q E st h => by
    obtain ⟨⟨_, he⟩, _⟩ := st
    exact wpAny_pyIter_enum he h
theorem walk_enumE {a : Addr} {xs : List V} {k : Int} : Walk (ItE SQ a k) xs.length (fun H => SQ H a xs) (YPair (fun i => some (.int (k + (i : Nat)))) (fun i => xs[i]?)) := by
  refine ⟨fun i H hi q => ⟨xs, xs[i], q, by simp [hi]⟩, fun H q => ⟨xs, q, rfl⟩, fun i H v H' hi q y => ?_⟩
  obtain ⟨T, x, h1, h2, h3, h4⟩ := y
  exact ⟨T, .int (k + (i : Nat)), x, h1, h2, h3, rfl, h4 xs q⟩
end
set_option maxHeartbeats 1000000 in
theorem meets_enum0 {v : Value} {o : Obj} {H : Heap → Prop} (B : Begins v o H) :
    Meets (Builtin.«enumerate.__new__» ⟨[.type "enumerate", v], []⟩) (fun _ R s => H s.heap ∧
      R (.ok (.ret (.ref (s.heap.push o).objs.size))) { s with heap := (s.heap.push o).push { cls := .type "enumerate", data := .fields #[.none, .bool false, .ref s.heap.objs.size, rawInt 0, .none, .none] } }) :=
  .of_wp fun prog w A R s h => by
    obtain ⟨hp, g, d, tk, os⟩ := s
    obtain ⟨h1, h⟩ := h
    have hsub := sub_enumerate
    have q1 : ∀ {A' : Around} {E Q : Value → Shared → Prop}, Q (.ref hp.objs.size) ⟨hp.push o, g, d, tk, os⟩ → wpAny (model prog w) A' (pyIter v) Q E ⟨hp, g, d, tk, os⟩ :=
      fun q => B.iter prog w _ _ ⟨hp, g, d, tk, os⟩ _ h1 q
    wp_walk using q1
    refine wpAny_stack_any fun st => wpAny_pure ?_
    split
    · rename_i c _ _ _ _ _
      cases (c == Value.type "enumerate")
      · wp_walk using q1
        exact ⟨_, rfl, h⟩
      · wp_walk using q1
        exact ⟨_, rfl, h⟩
    · wp_walk using q1
      exact ⟨_, rfl, h⟩
section
variable {prog : Program} {w : World} {A : Around} {Er : Value → Shared → Prop} {s : Shared}
theorem enum_begins0 {v : Value} {o : Obj} {H : Heap → Prop} {Q : Value → Shared → Prop} (B : Begins v o H) (h1 : H s.heap)
    (h : ∀ h', IsEnum h' (s.heap.objs.size + 1) s.heap.objs.size 0 .none → h'.get? s.heap.objs.size = some o → (∀ b o, s.heap.get? b = some o → h'.get? b = some o) → Q (.ref (s.heap.objs.size + 1)) { s with heap := h' }) :
    wpAny (model prog w) A (call (.type "enumerate") [v]) Q Er s := by
  refine callType_new F.called_enumerate (by decide) (F.typeCall_enumerate_1 _) (F.newCall_enumerate_1 _) (fun obj => F.args_object_init_2 obj _) F.entry_enumerate_new (meets_enum0 B) ⟨h1, ?_⟩
  have hone : (s.heap.push o).objs.size = s.heap.objs.size + 1 := Heap.size_push ..
  show _ ∧ _
  rw [hone]
  have he : IsEnum ((s.heap.push o).push { cls := .type "enumerate", data := .fields #[.none, .bool false, .ref s.heap.objs.size, rawInt 0, .none, .none] }) (s.heap.objs.size + 1) s.heap.objs.size 0 .none := by
    have q := Heap.get?_push_size (s.heap.push o) (o := { cls := .type "enumerate", data := .fields #[.none, .bool false, .ref s.heap.objs.size, rawInt 0, .none, .none] }) rfl
    rw [hone] at q
    exact q
  exact ⟨⟨_, he, rfl⟩, h _ he (Heap.get?_push_of_some _ (Heap.get?_push_size _ B.free)) fun b o x => Heap.get?_push_of_some _ (Heap.get?_push_of_some _ x)⟩
end
section
variable {X : Cx} {e : Expr} {ta : TA} {te : TE} {p pos tpos kpos : Pos} {elts : List Expr} {kk : Nat}
def iEnT (K : PySem.W.Frag) (ta : TA) : TI := fun σ H R => ta σ H fun vs H1 => ∃ a xs, vs = [.ref a] ∧ SqT K H1 a xs ∧ R (ItE (SqT K) a 0) H1
/-- enumerate(t), t a tuple -/
theorem pi_enumT (hg : Gl X "enumerate") (hm : X.mg "enumerate" = none) (ha : PA X [e] ta) (hs : starEach [e] X.env = [(false, eval e X.env)] := by rfl) :
    PI X (.Tuple elts kk tpos) (.Call (.Name "enumerate" p) [e] [] pos) (iEnT X.K ta) := by
  refine ⟨fun pins s σ H R I h => Call_ (ld_blt I hg hm boot_enumerate (PyProof.Rows.callWith_type1 (thn (ha.run pos pins s σ H _ I h) ?_) hs rfl))⟩
  rintro us s1 ⟨vs, H1, I1, r1, a, xs, rfl, hq, q⟩
  cases r1 with
  | cons r rr =>
    cases rr
    cases r
    obtain ⟨its, rv, p', _⟩ := I1.tuple hq
    refine enum_begins0 (begins_tuple a its.toArray) p' fun h' he hit hk => wpAny_pyIter_enum he ?_
    have I2 := I1.kept (t' := s1.toks) hk
    have fr : ∀ b ∈ [s1.heap.objs.size + 1, s1.heap.objs.size], FpOk X pins H1 b := by
      intro b hb
      have hle : s1.heap.objs.size ≤ b := by
        rcases List.mem_cons.mp hb with rfl | hb
        · exact Nat.le_add_right _ _
        · exact Nat.le_of_eq (List.mem_singleton.mp hb).symm
      exact I1.fpOk hle (I1.hok.fresh hle)
    exact ⟨_, _, _, _, H1, rfl, I2, turn_enumE (src_tup X.K) 0 a _ _, ⟨⟨.none, he⟩, ⟨_, hit, rfl, rfl⟩, Nat.succ_ne_self _⟩, fr, q⟩
end
/-! ### sorted(t), t a tuple of ints -/
end GL
namespace GL
open PySem PySem.Spec PyProof.Rows L2
section
variable {X : Cx} {CX : CXT} {k : Nat} {f C : Addr} {fd : FuncData} {sp : Sp} {E : XK}
/-- repr(o), o of a class with its own text -/
theorem call_reprG (G : Fre X.A) (F : FnG X.prog X.w X.K X.mg X.base CX k f fd ["self"] sp) (hr : Room (k + 1) X.A) (hu : X.A.units + 64 < cLine) (hb : Binds X.K fd ["self"] []) (hs : PySem.W.findIn X.K (.ref C) "__repr__" = some (some (.ref f))) (hf : PySem.W.isFn X.K (.ref f) = true) (hx : Passes CX X E) :
    CallR X (.builtin "repr") (fun xs H Q => ∃ a dx fs, xs = [.ref a] ∧ H a = some (.ins C dx fs) ∧ sp [.ref a] H (fun v H' => ∃ z : Str, v = .str z ∧ Q (.str z) H') E) := by
  intro pins s σ H xs us Q I r h
  obtain ⟨a, dx, fs, rfl, ha, h⟩ := h
  cases r with
  | cons r rt =>
    cases rt
    cases r
    obtain ⟨mA, O, _⟩ := ins_get I.hok ha
    obtain ⟨m, fr⟩ := I.fr
    obtain ⟨od, es, ep, hod, _⟩ := O.ns
    refine PySem.W.repr_K (od := some od) (show X.A.units + 1 < cLine by omega) fr I.ok.mod.kin ⟨O.obj, rfl, rfl, hod⟩ hs hf ?_
    refine wpAny_call (codeAny_mono (F.goes (A := X.A.in1) (outer := X.stack) (vs := [.ref a]) (us := [.ref a]) G hr.in1 I.env0.in1 (hb s [.ref a] I.kIn rfl) (.cons rfl .nil) h) ?_)
    intro r s' z
    match r, z with
    | .error e, z => exact hx pins σ H s e s' I z
    | .ok (.ret u), z =>
      obtain ⟨v, H', I3, rv, y, rfl, q⟩ := I.after z
      obtain ⟨t, rfl⟩ := rv
      exact ⟨.str y, H', I3, ⟨t, rfl⟩, q⟩
end
/-! ### enumerate(t, start=k), t a tuple -/
end GL
namespace GL
open PySem PySem.Spec PyProof.Rows L2
/-- of three lists (those by place, the defaults, those by name), which go where -/
def sel {α : Type} (us ds ws : List α) : List (Nat × Nat) → List α
  | [] => []
  | (0, i) :: r => (us[i]?).toList ++ sel us ds ws r
  | (1, i) :: r => (ds[i]?).toList ++ sel us ds ws r
  | (_, i) :: r => (ws[i]?).toList ++ sel us ds ws r
theorem vals_at {vs : List V} {us : List Value} (h : Vals vs us) (i : Nat) : Vals (vs[i]?).toList (us[i]?).toList := by
  cases e : vs[i]? with
  | none =>
    have : us[i]? = none := List.getElem?_eq_none (by rw [← h.length]; exact List.getElem?_eq_none_iff.mp e)
    rw [this]
    exact .nil
  | some x =>
    obtain ⟨u, hu, r⟩ := h.get e
    rw [hu]
    exact .cons r .nil
theorem sel_rel {vs ds zs : List V} {us its ws : List Value} (h1 : Vals vs us) (h2 : Vals ds its) (h3 : Vals zs ws) : ∀ l : List (Nat × Nat), Vals (sel vs ds zs l) (sel us its ws l)
  | [] => .nil
  | (0, i) :: r => (vals_at h1 i).append (sel_rel h1 h2 h3 r)
  | (1, i) :: r => (vals_at h2 i).append (sel_rel h1 h2 h3 r)
  | (n + 2, i) :: r => (vals_at h3 i).append (sel_rel h1 h2 h3 r)
section
variable {X : Cx} {CX : CXT} {k : Nat} {f C : Addr} {fd : FuncData} {ps ks : List Str} {sp : Sp} {E : XK} {x : Str} {p pos : Pos} {kws : List Keyword} {tk : TA} {g : List Value → List Value → List Value} {gV : List V → List V → List V} {pins : List (Addr × Obj)} {σ : L2.St} {H : Hp} {s : Shared} {Q : VK} {ws : List Value} {zs : List V}
/-- C(k = v, ..): the instance is made, then its __init__ -/
theorem ranMK (G : Fre X.A) (M : Mk X.K C f) (F : FnG X.prog X.w X.K X.mg X.base CX k f fd ps sp) (hr : Room (k + 1) X.A) (hb : KBn X.K fd ps 1 ks g gV) (hx : Passes CX X E) (I : Inv X pins σ H s) (rz : Vals zs ws) (l2 : zs.length = ks.length)
    (h : ∀ y dy, H y = none → H dy = none → dy ≠ y → sp (gV [.ref y] zs) (upd (upd H dy (.own y)) y (.ins C dy [])) (fun v H2 => v = .non ∧ Q (.ref y) H2) E) : wpAny (model X.prog X.w) X.A (call (.ref C) [] (ks.zip ws)) (EP X pins σ Q) X.xe s := by
  have h0 := h (s.heap.objs.size + 1) s.heap.objs.size (I.hok.fresh (Nat.le_succ _)) (I.hok.fresh (Nat.le_refl _)) (Nat.ne_of_lt (Nat.lt_succ_self _))
  have J := Inv.made (C := C) I
  have r1 : Vals [V.ref (s.heap.objs.size + 1)] [Value.ref (s.heap.objs.size + 1)] := .cons rfl .nil
  have run := F.goes (fre_make G) (hr.make C [] (ks.zip ws)) (J.env0.make C [] (ks.zip ws)) (hb.to _ [Value.ref (s.heap.objs.size + 1)] ws J.kIn rfl (rz.length.symm.trans l2)) (hb.rel r1 rz) h0
  refine wpAny_call (make_map (f := f) I.kIn M.makes M.init (beq_iff_eq.mp M.fn) (codeAny_mono run ?_))
  intro r s' z
  match r, z with
  | .error e, z => exact hx pins σ _ _ e s' J z
  | .ok (.ret u), z =>
    obtain ⟨v, H', I3, rv, ev, q3⟩ := J.after z
    cases ev
    exact And.intro rv ⟨V.ref (s.heap.objs.size + 1), H', I3, rfl, q3⟩
  | .ok .next, z => exact z.elim
  | .ok .brk, z => exact z.elim
  | .ok .cont, z => exact z.elim
def tMakeK (C : Addr) (m : Nat) (sp : Sp) (gV : List V → List V → List V) (E : XK) (tk : TA) : TE := fun σ H Q => tk σ H fun zs H2 => zs.length = m ∧
  ∀ x dx, H2 x = none → H2 dx = none → dx ≠ x → sp (gV [.ref x] zs) (upd (upd H2 dx (.own x)) x (.ins C dx [])) (fun v H3 => v = .non ∧ Q (.ref x) H3) E
theorem pkK (G : Fre X.A) (M : Mk X.K C f) (F : FnG X.prog X.w X.K X.mg X.base CX k f fd ps sp) (hr : Room (k + 1) X.A) (hg : Gl X x) (hm : X.mg x = some (.ref C)) (hb : KBn X.K fd ps 1 ks g gV) (hx : Passes CX X E)
    (hkw : PK X kws tk) (ndb : (x == ("__debug__" : Str)) = false := by decide) (hall : (backToKw pos (keywordEach kws X.env)).all (·.1.isSome) = true := by rfl) (hks : (backToKw pos (keywordEach kws X.env)).filterMap (·.1) = ks := by rfl)
    (hpl : (backToKw pos (keywordEach kws X.env)).any (·.1.isNone) = false := by rfl) :
    PE X (.Call (.Name x p) [] kws pos) (tMakeK C ks.length sp gV E tk) where
  run := fun pins s σ H Q I h => wpAny_Call_Name_kw (ld_glob I hg hm
    (PySem.W.callWith_KW0 (first := []) (h₀ := X.base) I.ok.mod.kin M.kp hall (thn (hkw.run pos pins s σ H _ I h) fun ws s2 ⟨zs, H2, I2, rz, l2, q2⟩ => by
      rw [hks]
      exact ⟨I2.kIn, ranMK G M F hr hb hx I2 rz l2 q2⟩) hpl) ndb)
end
end GL
namespace GL
open PySem PySem.Spec PyProof.Rows L2
theorem looks_is {M : Model} {u : Value} {T : String} {s : Shared} (h : s.TypeIs u T) : PySem.W.Looks M s.heap (typeOf u) (.type T) := fun A Q E s' k q => by
  have h' : s'.TypeIs u T := by
    cases u <;> first | exact h | (obtain ⟨o, e, c⟩ := h; exact ⟨o, k _ _ e, c⟩)
  exact wpAny_typeOf h' q
def kinds : List String := ["NoneType", "bool", "int", "str", "list", "tuple", "dict"]
theorem sub_kind {K : PySem.W.Frag} {C : Addr} : ∀ {T : String}, T ∈ kinds → PySem.W.subIn K (.type T) (.ref C) = some false := by
  have go : ∀ T l, fastBuiltinMro T = some l → l.contains (.ref C) = false → PySem.W.subIn K (.type T) (.ref C) = some false := fun T l h1 h2 => by
    show (fastBuiltinMro T).map (·.contains (.ref C)) = some false
    rw [h1]
    exact congrArg some h2
  intro T hT
  simp only [kinds, List.mem_cons, List.not_mem_nil, or_false] at hT
  rcases hT with rfl | rfl | rfl | rfl | rfl | rfl | rfl
  · exact go _ [.type "NoneType", .type "object"] (by decide +kernel) (by simp)
  · exact go _ [.type "bool", .type "int", .type "object"] (by decide +kernel) (by simp)
  · exact go _ [.type "int", .type "object"] (by decide +kernel) (by simp)
  · exact go _ [.type "str", .type "object"] (by decide +kernel) (by simp)
  · exact go _ [.type "list", .type "object"] (by decide +kernel) (by simp)
  · exact go _ [.type "tuple", .type "object"] (by decide +kernel) (by simp)
  · exact go _ [.type "dict", .type "object"] (by decide +kernel) (by simp)
/-- the other side of ==: one of the same class, or of a kind of Python's -/
inductive Oth (K : PySem.W.Frag) (H : Hp) (C : Addr) : V → Prop where
  | ins {b dy : Addr} {gs : List (Str × V)} (h : H b = some (.ins C dy gs)) : Oth K H C (.ref b)
  | oth {y : V} {T : String} (h : TyB K H y T) (hT : T ∈ kinds) : Oth K H C y
section
variable {X : Cx} {CX : CXT} {k : Nat} {f C : Addr} {fd : FuncData} {sp : Sp} {E : XK}
theorem Oth.go {pins : List (Addr × Obj)} {σ : L2.St} {H : Hp} {s : Shared} {y : V} {u : Value} (h : Oth X.K H C y) (I : Inv X pins σ H s) (r : RelV y u) : ∃ tb, PySem.W.Looks (model X.prog X.w) s.heap (typeOf u) tb ∧ PySem.W.notFirst X.K C tb = true := by
  cases h with
  | ins h =>
    cases r
    obtain ⟨mB, J', _⟩ := ins_get I.hok h
    obtain ⟨od', J', _⟩ := J'.look
    exact ⟨_, J'.type, by simp [PySem.W.notFirst]⟩
  | oth h hT => exact ⟨_, looks_is (h.is I r), by
      unfold PySem.W.notFirst
      rw [sub_kind hT]
      simp⟩
def rEqOwn (K : PySem.W.Frag) (C : Addr) (sp : Sp) (E : XK) : R2 := fun x y H Q => ∃ a dx fs, x = .ref a ∧ H a = some (.ins C dx fs) ∧ Oth K H C y ∧ sp [.ref a, y] H (fun v H' => ∃ b, v = .bl b ∧ Q (.bl b) H') E
theorem op_eqOwn (G : Fre X.A) (F : FnG X.prog X.w X.K X.mg X.base CX k f fd ["self", "other"] sp) (hr : Room k X.A) (hu : X.A.units + 64 < cLine) (hb : Binds X.K fd ["self", "other"] []) (hs : PySem.W.findIn X.K (.ref C) "__eq__" = some (some (.ref f))) (hf : PySem.W.isFn X.K (.ref f) = true) (hx : Passes CX X E) :
    OpR X (compareOp .Eq) (rEqOwn X.K C sp E) := by
  intro pins s σ H x y v u Q I rx ry h
  obtain ⟨a, dx, fs, rfl, ha, ho, h⟩ := h
  cases rx
  obtain ⟨tb, hl, hn⟩ := ho.go I ry
  obtain ⟨mA, J, _⟩ := ins_get I.hok ha
  obtain ⟨od, J, _⟩ := J.look
  obtain ⟨m, hF⟩ := I.fr
  refine PySem.W.cmp_K (op := .Eq) (tb := tb) (show X.A.units < cLine by omega) hF I.ok.mod.kin J hl hn hs hf ?_
  refine wpAny_call (codeAny_mono (F.goes (A := X.A) (outer := X.stack) (vs := [.ref a, y]) (us := [.ref a, u]) G hr I.env0 (hb s [.ref a, u] I.kIn rfl) (.cons rfl (.cons ry .nil)) h) ?_)
  intro r s' z
  match r, z with
  | .error e, z => exact hx pins σ H s e s' I z
  | .ok (.ret w), z =>
    obtain ⟨v, H', I3, rv, b, rfl, q⟩ := I.after z
    cases (show w = Value.bool b from rv)
    exact ⟨.bl b, H', I3, rfl, q⟩
  | .ok .next, z => exact z.elim
  | .ok .brk, z => exact z.elim
  | .ok .cont, z => exact z.elim
end
/-! ### != by the own == -/
section
variable {M : Model} {prog : Program} {w : World} {A : Around} {E : Value → Shared → Prop} {s : Shared} {K : PySem.W.Frag} {x C f : Addr} {ox : Obj} {od : Option Obj} {b : Value}
theorem ifBound_objNe {args : List Value} {Q : Option Value → Shared → Prop} (X : K.In s.heap) (I : PySem.W.InstAt s.heap x ox C od) (hs : PySem.W.findIn K (.ref C) "__ne__" = some (some (.builtin "object.__ne__")))
    (h : wpAny M A (call (.builtin "object.__ne__") (.ref x :: args)) (fun v => Q (some v)) E s) : wpAny M A (callSpecialIfBound? (.ref x) "__ne__" args) Q E s := by
  simp only [callSpecialIfBound?, bindSpecialIfBound?]
  refine wpAny_holding (wpAny_bind (wpAny_bind (wpAny_bind (I.type.here ((PySem.W.looks_findIn X hs).here ?_)))))
  refine wpAny_bind (wpAny_askSetting (wpAny_ite ?_))
  have fin : wpAny M A (call (.builtin "object.__ne__") ([.ref x] ++ args) >>= fun v => pure (some v)) Q E s := wpAny_bind (wpAny_mono h (fun v s' h' => wpAny_pure h') fun _ _ h' => h')
  split
  · exact wpAny_bind (wpAny_of_eq (F.cmp_object.ne.bind _) (wpAny_pure (by exact fin)))
  · exact wpAny_tryCatch (wpAny_bind (wpAny_of_eq (F.cmp_object.ne.bind _) (wpAny_pure (by exact fin))))
theorem objNe_entry {Q : Fin → Shared → Prop} (X : K.In s.heap) (I : PySem.W.InstAt s.heap x ox C od) (hs : PySem.W.findIn K (.ref C) "__eq__" = some (some (.ref f))) (hf : PySem.W.isFn K (.ref f) = true) (hu : A.units < cLine)
    (hcall : wpAny (model prog w) A (call (.ref f) [.ref x, b]) (fun v s' => ∃ c, v = .bool c ∧ Q (.done (.ret (.bool (!c)))) s') E s) : wpAny (model prog w) A (Builtin.«object.__ne__» ⟨[.ref x, b], []⟩) Q E s := by
  unfold Builtin.«object.__ne__»
  repeat (first
    | with_reducible refine wpAny_cRoomFor hu ?_
    | (refine wpAny_bind (m := callSpecialIfBound? (.ref x) (Str.ofString "__eq__") [b])
        (PySem.W.ifBound_K X I hs hf (wpAny_mono hcall (fun r s' hr => by
          obtain ⟨c, rfl, hq⟩ := hr
          repeat (first | exact hq | exact wpAny_pure hq | exact wpAny_truthy_bool hq | (refine wpAny_bind (m := truthy (.bool _)) (wpAny_truthy_bool ?_)) | wp_step)) fun _ _ e => e)))
    | wp_step)
theorem ne_K {tb : Value} {Q : Value → Shared → Prop} (hu : A.units + 2 < cLine) (X : K.In s.heap) (I : PySem.W.InstAt s.heap x ox C od) (hm : PySem.W.mroIn K C (.type "object") = some true) (hb : PySem.W.Looks (model prog w) s.heap (typeOf b) tb) (hn : PySem.W.notFirst K C tb = true)
    (h1 : PySem.W.findIn K (.ref C) "__ne__" = some (some (.builtin "object.__ne__"))) (hs : PySem.W.findIn K (.ref C) "__eq__" = some (some (.ref f))) (hf : PySem.W.isFn K (.ref f) = true)
    (hcall : wpAny (model prog w) A.in1 (call (.ref f) [.ref x, b]) (fun v s' => ∃ c, v = .bool c ∧ Q (.bool (!c)) s') E s) : wpAny (model prog w) A (richCompare .NotEq (.ref x) b) Q E s := by
  have one : wpAny (model prog w) A (tryCompare (.ref x) "__ne__" b) (fun r s' => ∃ v, r = some v ∧ Q v s') E s := by
    unfold tryCompare
    refine wpAny_bind (ifBound_objNe X I h1 (wpAny_call (codeAny_call_builtin F.cmp_object.ne.plain F.cmpEntry_ne (PySem.W.check_slot F.cmpKind_ne F.cmpSplit_ne (I.type.andThen (PySem.W.looks_mroIn X hm)) (F.cmpArgs_ne _ _) (objNe_entry (A := A.in1) X I hs hf (show A.units + 1 < cLine by omega) (wpAny_mono hcall (fun v s' hv => ?_) fun _ _ e => e))))))
    obtain ⟨c, rfl, hq⟩ := hv
    first | exact ⟨c, rfl, wpAny_pure ⟨_, rfl, hq⟩⟩ | exact ⟨c, rfl, wpAny_pure (wpAny_pure ⟨_, rfl, hq⟩)⟩ | exact ⟨c, rfl, _, rfl, hq⟩
  unfold richCompare
  simp only [oneThing_ref]
  refine wpAny_holding (wpAny_bind (wpAny_cRoomFor (show A.units < cLine by omega) ?_))
  refine wpAny_bind (I.type.here (wpAny_bind (hb.here ?_)))
  split
  · rename_i q
    have e : PySem.W.subIn K tb (.ref C) = some false := by
      rcases Bool.or_eq_true_iff.mp hn with e | e
      · rw [beq_iff_eq.mp e] at q
        simp at q
      · exact beq_iff_eq.mp e
    refine wpAny_bind ((PySem.W.looks_subIn X e).here ?_)
    simp only [Bool.false_eq_true, if_false]
    refine wpAny_bind (wpAny_mono one (fun r s' z => ?_) fun _ _ e => e)
    obtain ⟨v, rfl, hq⟩ := z
    exact wpAny_pure hq
  · refine wpAny_bind (wpAny_pure ?_)
    simp only [Bool.false_eq_true, if_false]
    refine wpAny_bind (wpAny_mono one (fun r s' z => ?_) fun _ _ e => e)
    obtain ⟨v, rfl, hq⟩ := z
    exact wpAny_pure hq
end
section
variable {X : Cx} {CX : CXT} {k : Nat} {f C : Addr} {fd : FuncData} {sp : Sp} {E : XK}
def rNeOwn (K : PySem.W.Frag) (C : Addr) (sp : Sp) (E : XK) : R2 := fun x y H Q => ∃ a dx fs, x = .ref a ∧ H a = some (.ins C dx fs) ∧ Oth K H C y ∧ sp [.ref a, y] H (fun v H' => ∃ b, v = .bl b ∧ Q (.bl (!b)) H') E
theorem op_neOwn (G : Fre X.A) (F : FnG X.prog X.w X.K X.mg X.base CX k f fd ["self", "other"] sp) (hr : Room (k + 1) X.A) (hu : X.A.units + 64 < cLine) (hb : Binds X.K fd ["self", "other"] []) (hs : PySem.W.findIn X.K (.ref C) "__eq__" = some (some (.ref f))) (hf : PySem.W.isFn X.K (.ref f) = true)
    (h1 : PySem.W.findIn X.K (.ref C) "__ne__" = some (some (.builtin "object.__ne__"))) (hm : PySem.W.mroIn X.K C (.type "object") = some true) (hx : Passes CX X E) : OpR X (compareOp .NotEq) (rNeOwn X.K C sp E) := by
  intro pins s σ H x y v u Q I rx ry h
  obtain ⟨a, dx, fs, rfl, ha, ho, h⟩ := h
  cases rx
  obtain ⟨tb, hl, hn⟩ := ho.go I ry
  obtain ⟨mA, J, _⟩ := ins_get I.hok ha
  obtain ⟨od, J, _⟩ := J.look
  refine ne_K (tb := tb) (show X.A.units + 2 < cLine by omega) I.kIn J hm hl hn h1 hs hf ?_
  refine wpAny_call (codeAny_mono (F.goes (A := X.A.in1) (outer := X.stack) (vs := [.ref a, y]) (us := [.ref a, u]) G hr.in1 I.env0.in1 (hb s [.ref a, u] I.kIn rfl) (.cons rfl (.cons ry .nil)) h) ?_)
  intro r s' z
  match r, z with
  | .error e, z => exact hx pins σ H s e s' I z
  | .ok (.ret w), z =>
    obtain ⟨v, H', I3, rv, b, rfl, q⟩ := I.after z
    cases (show w = Value.bool b from rv)
    exact ⟨b, rfl, .bl (!b), H', I3, rfl, q⟩
  | .ok .next, z => exact z.elim
  | .ok .brk, z => exact z.elim
  | .ok .cont, z => exact z.elim
end
end GL
/-! Own errors, over any of Python's classes, with an __init__ that keeps one value or nothing: made, raised, read. -/
namespace PySem
end PySem
/-! try with several except clauses, each with a name or without. -/
namespace GL
open PySem PySem.Spec PyProof.Rows L2
end GL
/-! own errors: made, raised, caught, read -/
namespace GL
open PySem PySem.Spec PyProof.Rows L2
/-! ### which clause takes which error -/
/-! ### defs that may raise -/
end GL
/-! == and != of two lists of a text and an instance, by the instances' own == -/
namespace PySem
end PySem
namespace GL
open PySem PySem.Spec PyProof.Rows L2
end GL
/-! isinstance(e, C), e an error of ours that a suite holds, with a dict of its own or without -/
namespace PySem
end PySem
namespace GL
open PySem PySem.Spec PyProof.Rows L2
end GL
/-! a lambda handed to a def, where nothing is being shown; defs whose code object has a table -/
namespace GL
open PySem PySem.Spec PyProof.Rows L2
end GL
/-! properties of own classes, calls of a local that holds a def, where nothing is being shown -/
namespace GL
open PySem PySem.Spec PyProof.Rows L2
section
variable {X : Cx} {CX : CXT} {k i : Nat} {C p g f : Addr} {m x : Str} {fd : FuncData} {ps : List Str} {sp : Sp} {ds : List Value} {dvs : List V} {E : XK} {e : Expr} {es : List Expr} {pos q : Pos} {ta : TE} {t : TA}
/-- o.m, m a property -/
theorem pgP (G : Fre X.A) (he : PE X e ta) (c : Cls X.K C) (hp : PropOf X.K C m p g) (F : FnG X.prog X.w X.K X.mg X.base CX k g fd ps sp) (hr : Room (k + 1) X.A) (hb : Binds X.K fd ps ds) (hd : Vals dvs ds) (hx : Passes CX X.nox E)
    (hab : attributeBase e m X.env (eval e X.env) = eval e X.env := by rfl) : PE X (.Attribute e m pos) (tProp C sp dvs E ta) := by
  constructor
  intro pins s σ H Q I h
  refine attr_of hab (thn (he.run pins s σ H _ I h) ?_)
  rintro u s1 ⟨y, H1, I1, ry, a, dx, fs, rfl, ea, q1⟩
  cases (show u = Value.ref a from ry)
  obtain ⟨mA, O, _⟩ := ins_get I1.hok ea
  obtain ⟨od, J, _⟩ := O.look
  obtain ⟨rest, hrec⟩ := hp.rec_
  obtain ⟨cd, hc, _⟩ := PySem.W.any_some c.hd
  have hcs : (PySem.W.clsIn X.K C).isSome = true := by
    rw [hc]
    rfl
  have I2 := I1.tok (s1.toks + 1)
  have ra : Vals (.ref a :: dvs) (.ref a :: ds) := .cons rfl hd
  have hl : ([Value.ref a] ++ ds).length = ps.length := by
    rw [← F.many _ _ _ _ q1]
    exact ra.length.symm
  have run := F.goes (A := X.A.in1) (outer := X.stack) (s := { s1 with toks := s1.toks + 1 }) (H := H1) (args := ⟨[.ref a], []⟩) (us := .ref a :: ds) (vs := .ref a :: dvs) (Q := Q) (E := E) G hr.in1 I2.env0.in1 (hb _ [.ref a] I2.kIn hl) ra q1
  refine PySem.W.get_bind I1.kIn J (PySem.W.plainGet_of (c.get m)).1 (PySem.W.findObj_data hcs hp.at_ hp.get hp.tak) (PySem.W.plainGet_of (c.get m)).2 (wpAny_call (PySem.W.prop_get (s := { s1 with toks := s1.toks + 1 }) I1.kIn hrec (codeAny_mono run ?_)))
  intro r s2 z
  match r, z with
  | .error er, z => exact (hx pins σ H1 { s1 with toks := s1.toks + 1 } er s2 (I2.wish _) z).elim
  | .ok (.ret v), z =>
    obtain ⟨w, H2, I3, rv, q3⟩ := I2.after z
    show wpAny _ _ (handedOut v) _ _ _
    rw [PySem.W.handedOut_of (handed_of rv)]
    exact wpAny_pure ⟨w, H2, I3, rv, q3⟩
  | .ok .next, z => exact z.elim
  | .ok .brk, z => exact z.elim
  | .ok .cont, z => exact z.elim
/-- y(e, ..), y a local that holds one of several defs -/
structure HeldG (P : Program) (w : World) (K : PySem.W.Frag) (mg : Str → Option Value) (base : Heap) (k : Nat) (f : Addr) (sp : Sp) : Prop where
  ex : ∃ (fd : FuncData) (ps : List Str), FnG P w K mg base CX0 k f fd ps sp ∧ PySem.W.keepIn K (.ref f) = true ∧ Binds K fd ps []
def tHeld (i : Nat) (S : Addr → Sp → Prop) (t : TA) : TE := fun σ H Q => ∃ f sp, σ[i]? = some (some (.ref f)) ∧ S f sp ∧ t σ H fun vs H1 => sp vs H1 Q E0
theorem pcH {S : Addr → Sp → Prop} (G : Fre X.A) (A : ∀ f sp, S f sp → HeldG X.prog X.w X.K X.mg X.base k f sp) (hr : Room k X.A) (hN : X.N[i]? = some x) (hv : Vis X.env.scope x) (ha : PA X (e :: es) t)
    (hdb : (x == ("__debug__" : Str)) = false := by decide) (hcd : (x == ("__classdict__" : Str)) = false := by decide)
    (he : starEach (e :: es) X.env = (false, eval e X.env) :: starEach es X.env := by rfl) (hpl : (backTo pos (starEach es X.env)).any (·.1) = false := by rfl) : PE X (.Call (.Name x q) (e :: es) [] pos) (tHeld i S t) := by
  constructor
  intro pins s σ H Q I h
  obtain ⟨f, sp, hs, hS, ht⟩ := h
  obtain ⟨fd, ps, F, hk, hb⟩ := (A f sp hS).ex
  refine wpAny_Call_Name_kw (thn ((pe_var (pos := q) hN hv hdb hcd).run pins s σ H (fun v H1 => v = .ref f ∧ H1 = H) I ⟨.ref f, hs, rfl, rfl⟩) ?_)
  rintro u s1 ⟨v, H1, I1, r1, rfl, rfl⟩
  cases (show u = Value.ref f from r1)
  refine PySem.W.callWith_K (h₀ := X.base) I.ok.mod.kin hk (thn (ha.run pos pins s1 σ _ _ I1 ht) ?_) he hpl
  rintro us s2 ⟨vs, H2, I2, r, q2⟩
  refine ⟨I2.kIn, wpAny_call (codeAny_mono (F.goes G hr I2.env0 (by
    have z := hb s2 us I2.kIn (by rw [List.append_nil, ← r.length]; exact F.many _ _ _ _ q2)
    rw [List.append_nil] at z
    exact z) r q2) ?_)⟩
  intro r s3 z
  match r, z with
  | .error er, z => exact z.elim
  | .ok (.ret y), z => exact I2.after z
  | .ok .next, z => exact z.elim
  | .ok .brk, z => exact z.elim
  | .ok .cont, z => exact z.elim
end
end GL
/-! a dict laid into another one: {**d, ..} -/
namespace PySem
namespace DM
open PySem
section
variable {prog : Program} {w : World} {K : Type} [DecidableEq K] {knd : KeyKind prog w K} {A : Around} {E : Value → Shared → Prop} {s : Shared}
/-- one pair, its hash at hand -/
theorem put_one {d : Addr} {kvs : List (K × Value)} {k : K} {key v : Value} {Q : Unit → Shared → Prop} (hkey : knd.is k key = true) (hm : s.heap.DictOf knd d kvs)
    (hQ : ∀ h', h'.DictOf knd d (stored kvs k v) → Heap.SameBut d s.heap h' → Q () { s with heap := h' }) (hsz : kvs.length ≤ sizeLine) : wpAny (model prog w) A (dictPut d (knd.hash k) key v) Q E s := by
  refine (?_ : wpAny (model prog w) A (do
    match ← dictFind d key (knd.hash k) with
    | some i => updateDict d (·.modify i fun e => { e with val := v })
    | none => updateDictKeys d (·.push ⟨knd.hash k, key, v⟩)) Q E s)
  obtain ⟨o, es, ep, ho, hc, hd, hk, hp, hn⟩ := hm
  have len : es.size = kvs.length := by
    have := hp.length
    simpa using this
  refine wpAny_bind (wpAny_dictFind_of hkey ho hd hk ?_)
  have same : (es.findIdx? fun e => knd.is k e.key) = kvs.findIdx? fun kv => decide (kv.1 = k) := by
    have := hp.findIdx k
    obtain ⟨l⟩ := es
    simpa using this
  cases at_ : es.findIdx? fun e => knd.is k e.key with
  | some i =>
    rw [at_] at same
    have there := any_of_findIdx_some same.symm
    refine wpAny_updateDict ho hd (hQ _ ⟨_, _, ep, Heap.get?_update_self _ ho (Obj.isFreed_of_dict (Obj.data_mapDict hd _)), hc.mapDict _, Obj.data_mapDict hd _, hk.modify _ _, ?_, ?_⟩ (Heap.SameBut.update ..))
    · rw [stored, if_pos there]
      have hl : (es.toList.findIdx? fun e => knd.is k e.key) = some i := by
        obtain ⟨l⟩ := es
        simpa using at_
      have := hp.modify hn hl v
      obtain ⟨l⟩ := es
      simpa using this
    · rw [stored, if_pos there, keys_map_store]
      exact hn
  | none =>
    rw [at_] at same
    have off := not_mem_of_findIdx_none same.symm
    have nope : ¬ (kvs.any fun kv => decide (kv.1 = k)) = true := fun z => by
      obtain ⟨kv, h1, h2⟩ := List.any_eq_true.mp z
      exact off (List.mem_map.mpr ⟨kv, h1, of_decide_eq_true h2⟩)
    refine wpAny_updateDictKeys (hz := by omega) ho hd (hQ _ ⟨_, _, ep + 1, Heap.get?_update_self _ ho (Obj.isFreed_of_dict (Obj.data_mapDictKeys hd _)), hc.mapDictKeys _, Obj.data_mapDictKeys hd _, hk.push hkey _, ?_, ?_⟩ (Heap.SameBut.update ..))
    · rw [stored, if_neg nope]
      have := hp.append hkey (knd.hash k) v
      obtain ⟨l⟩ := es
      simpa using this
    · rw [stored, if_neg nope, List.map_append, List.nodup_append]
      refine ⟨hn, by simp, fun a ha b hb e => ?_⟩
      rw [List.map_singleton, List.mem_singleton] at hb
      have hb : b = k := hb
      exact off (by rw [← hb, ← e]; exact ha)
theorem pairs_at {es : List DictEntry} {kvs : List (K × Value)} (h : Pairs knd es kvs) : ∀ (i : Nat) (hi : i < es.length), ∃ kv, kvs[i]? = some kv ∧ knd.is kv.1 es[i].key = true ∧ es[i].val = kv.2 := by
  induction h with
  | nil => exact fun i hi => absurd hi (Nat.not_lt_zero i)
  | @cons e kv es kvs h1 h2 _ ih =>
    intro i hi
    cases i with
    | zero => exact ⟨kv, rfl, h1, h2⟩
    | succ i =>
      obtain ⟨kv', a, b, c⟩ := ih i (by simpa using hi)
      exact ⟨kv', by simpa using a, by simpa using b, by simpa using c⟩
/-- the pairs, one by one -/
def tail (p a : Addr) : Sem Unit := do
  let es ← dictEntries a
  let epoch ← dictEpoch a
  forIn (List.range es.size) PUnit.unit fun i _ => do
    let es ← dictEntries a
    match es[i]? with
    | some e => do
      holding [e.key, e.val] (dictPut p e.hash e.key e.val)
      let n ← dictEpoch a
      if (n != epoch) = true then do
        let _ ← (unsupported "dict.changed-during-merge" : Sem Unit)
        pure (ForInStep.yield PUnit.unit)
      else pure (ForInStep.yield PUnit.unit)
    | _ => do
      let _ ← (unsupported "dict.changed-during-merge" : Sem Unit)
      pure (ForInStep.yield PUnit.unit)
  pure ()
theorem tail_ok {p a : Addr} {kvs more : List (K × Value)} {Q : Unit → Shared → Prop} (hm : s.heap.DictOf knd p kvs) (ha : s.heap.DictOf knd a more) (ne : p ≠ a) (hz : kvs.length + more.length ≤ sizeLine)
    (hQ : ∀ h', h'.DictOf knd p (merged kvs more) → Heap.SameBut p s.heap h' → Q () { s with heap := h' }) : wpAny (model prog w) A (tail p a) Q E s := by
  obtain ⟨oa, ea, epa, hoa, hca, hda, hka, hpa, hna⟩ := id ha
  have len : ea.size = more.length := by
    have := hpa.length
    simpa using this
  unfold tail
  refine wpAny_bind (wpAny_dictEntries hoa hda (wpAny_bind (wpAny_dictEpoch hoa hda (wpAny_bind ?_))))
  refine wpAny_forIn_list _ (fun rest _ s' => ∃ i, rest = List.range' i (ea.size - i) ∧ i ≤ ea.size ∧ s'.gens = s.gens ∧ s'.drawn = s.drawn ∧ s'.toks = s.toks ∧ s'.os = s.os ∧ s'.heap.DictOf knd p (merged kvs (more.take i)) ∧ Heap.SameBut p s.heap s'.heap) _ ?_ ?_ _ _ ?_
  · rintro x rest _ s' ⟨i, hr, hi, g1, g2, g3, g4, hd', same⟩
    have lt : i < ea.size := by
      by_cases q : i < ea.size
      · exact q
      · rw [Nat.sub_eq_zero_of_le (by omega)] at hr
        cases hr
    obtain ⟨n, hn⟩ : ∃ n, ea.size - i = n + 1 := ⟨ea.size - i - 1, by omega⟩
    rw [hn, List.range'_succ] at hr
    cases hr
    have hoa' : s'.heap.get? a = some oa := (same.2 a ne.symm).trans hoa
    refine wpAny_bind (wpAny_dictEntries hoa' hda ?_)
    rw [Array.getElem?_eq_getElem lt]
    obtain ⟨k, hkey, hhash⟩ := hka ea[x] (Array.getElem_mem lt)
    obtain ⟨kv, hkv, his, hval⟩ := pairs_at hpa x (by simpa using lt)
    have e1 : ea.toList[x] = ea[x] := by simp
    rw [e1] at his hval
    have ek : kv.1 = k := knd.inj _ _ _ his hkey
    have lenm := merged_length_le kvs (more.take x)
    have lt2 : (more.take x).length ≤ x := List.length_take_le ..
    show wpAny _ _ (holding [ea[x].key, ea[x].val] (dictPut p ea[x].hash ea[x].key ea[x].val) >>= _) _ _ _
    rw [hhash]
    refine wpAny_bind (wpAny_holding (put_one hkey hd' (fun h' hd2 same2 => ?_) (by omega)))
    have sm : Heap.SameBut p s.heap h' := ⟨same2.1.trans same.1, fun b hb => (same2.2 b hb).trans (same.2 b hb)⟩
    have hoa2 : h'.get? a = some oa := (sm.2 a ne.symm).trans hoa
    refine wpAny_bind (wpAny_dictEpoch hoa2 hda ?_)
    rw [if_neg (by simp)]
    refine wpAny_pure ⟨x + 1, ?_, by omega, g1, g2, g3, g4, ?_, sm⟩
    · rw [show ea.size - (x + 1) = n by omega]
    · rw [merged_take_succ _ _ _ _ hkv, ek, ← hval]
      exact hd2
  · rintro _ s' ⟨i, hr, hi, g1, g2, g3, g4, hd', same⟩
    have e : i = ea.size := by
      by_cases q : i < ea.size
      · obtain ⟨n, hn⟩ : ∃ n, ea.size - i = n + 1 := ⟨ea.size - i - 1, by omega⟩
        rw [hn, List.range'_succ] at hr
        cases hr
      · omega
    rw [e, len, List.take_length] at hd'
    refine wpAny_pure ?_
    have z := hQ _ hd' same
    obtain ⟨h1, h2, h3, h4, h5⟩ := s'
    cases g1
    cases g2
    cases g3
    cases g4
    exact z
  · refine ⟨0, by rw [List.range_eq_range', Nat.sub_zero], Nat.zero_le _, rfl, rfl, rfl, rfl, ?_, ⟨rfl, fun _ _ => rfl⟩⟩
    simpa [merged] using hm
theorem merge_into {p a : Addr} {kvs more : List (K × Value)} {Q : Unit → Shared → Prop} (hm : s.heap.DictOf knd p kvs) (ha : s.heap.DictOf knd a more) (na : (a == sysModules) = false) (ne : p ≠ a) (hz : kvs.length + more.length ≤ sizeLine)
    (hQ : ∀ h', h'.DictOf knd p (merged kvs more) → Heap.SameBut p s.heap h' → Q () { s with heap := h' }) : wpAny (model prog w) A (mergeMapping p (.ref a) false) Q E s := by
  obtain ⟨oa, ea, epa, hoa, hca, hda, hka, hpa, hna⟩ := id ha
  obtain ⟨op, ep, epp, hop, hcp, hdp, hkp, hpp, hnp⟩ := id hm
  have ty : s.TypeIs (.ref a) "dict" := ⟨oa, hoa, hca.1⟩
  unfold mergeMapping
  refine wpAny_bind (wpAny_isInstance ty isSubtype_dict_dict ?_)
  rw [if_pos rfl]
  refine wpAny_bind (wpAny_specialOf ty PySem.F.slot_dict_iter.lookup (wpAny_bind (wpAny_pure ?_)))
  have t : (some (Value.builtin "dict.__iter__") == some (Value.builtin "dict.__iter__")) = true := by decide +kernel
  rw [t]
  have nn : ¬ (a == sysModules) = true := by
    rw [na]
    exact Bool.false_ne_true
  show wpAny _ _ (if (a == sysModules) = true then _ else _) _ _ _
  rw [if_neg nn]
  refine wpAny_bind (wpAny_dictEntries hop hdp ?_)
  have rest := tail_ok (A := A) (E := E) (Q := Q) hm ha ne hz hQ
  by_cases hemp : ep.isEmpty = true
  · rw [if_pos hemp]
    have loop : (forIn ea PUnit.unit fun (e : DictEntry) (_ : PUnit) => (match e.key with
          | Value.ref a => do
            let q ← specialOf e.key (Str.ofString "__eq__")
            if (q != some (Value.builtin "object.__eq__")) = true then
                if (Array.filter (fun x => x.hash == e.hash) ea).size > 1 then do
                  let _ ← (unsupported "dict.merge-into-an-empty-dict:keys-of-equal-hash" : Sem PUnit)
                  pure (ForInStep.yield PUnit.unit)
                else pure (ForInStep.yield PUnit.unit)
              else pure (ForInStep.yield PUnit.unit)
          | _ => pure (ForInStep.yield PUnit.unit) : Sem (ForInStep PUnit))) = pure PUnit.unit := by
      rw [← Array.forIn_toList]
      refine forIn_yield_id _ fun e he c => ?_
      obtain ⟨k, hkey, _⟩ := hka e (Array.mem_toList_iff.mp he)
      have cv := knd.byValue k _ hkey
      cases q : e.key with
      | ref b =>
        rw [q] at cv
        exact absurd cv Bool.false_ne_true
      | _ => rfl
    exact wpAny_bind (wpAny_dictEntries hoa hda (wpAny_bind (wpAny_of_eq loop rest)))
  · rw [if_neg hemp]
    exact rest
end
end DM
end PySem
namespace PySem
namespace DM
open PySem
section
variable {prog : Program} {w : World} {K : Type} [DecidableEq K] {knd : KeyKind prog w K} {A : Around} {E : Value → Shared → Prop} {s : Shared}
theorem gather (main : Option Addr) (f : (Option (Sem Value) × Sem Value) → (Option Addr × List (Sem Value × Sem Value)) → Sem (ForInStep (Option Addr × List (Sem Value × Sem Value))))
    (hf : ∀ (p : Sem Value × Sem Value) (run : List (Sem Value × Sem Value)), run.length + 1 < 17 → f (some p.1, p.2) (main, run) = pure (.yield (main, run ++ [p]))) :
    ∀ (items run : List (Sem Value × Sem Value)), run.length + items.length < 17 → forIn (items.map fun p => (some p.1, p.2)) (main, run) f = pure (main, run ++ items) := by
  intro items
  induction items with
  | nil =>
    intro run _
    rw [List.append_nil]
    rfl
  | cons p rest ih =>
    intro run h
    rw [List.length_cons] at h
    rw [List.map_cons, List.forIn_cons, hf p run (by omega), pure_bind]
    have z := ih (run ++ [p]) (by rw [List.length_append, List.length_singleton]; omega)
    rw [List.append_assoc] at z
    exact z
/-- {**m, k: v, ..} -/
theorem star_display {v0 : Sem Value} {pairs : List (Sem Value × Sem Value)} {Q : Value → Shared → Prop} (h0 : pairs ≠ []) (hlen : pairs.length ≤ 15)
    (h : wpAny (model prog w) A v0 (fun m s1 => ∃ (a : Addr) (more : List (K × Value)), m = .ref a ∧ s1.heap.DictOf knd a more ∧ s1.heap.DictOf knd s.heap.objs.size [] ∧ (a == sysModules) = false ∧ s.heap.objs.size ≠ a ∧ more.length ≤ sizeLine ∧
      ∀ h1, h1.DictOf knd s.heap.objs.size more → Heap.SameBut s.heap.objs.size s1.heap h1 →
        wpAny (model prog w) A (evalPairs pairs) (fun vs s2 => ∃ kvs m2, Carries knd vs kvs ∧ s2.heap.DictOf knd h1.objs.size [] ∧ s2.heap.DictOf knd s.heap.objs.size m2 ∧ h1.objs.size ≠ s.heap.objs.size ∧ m2.length + kvs.length ≤ sizeLine ∧ (h1.objs.size == sysModules) = false ∧
          ∀ hm h2, hm.DictOf knd h1.objs.size (merged [] kvs) → Heap.SameBut h1.objs.size s2.heap hm → h2.DictOf knd s.heap.objs.size (merged m2 (merged [] kvs)) → Heap.SameBut s.heap.objs.size hm h2 → Q (.ref s.heap.objs.size) { s2 with heap := h2, toks := s2.toks + vs.length }) E
          { s1 with heap := h1.push { cls := .type "dict", data := .dict #[] } }) E { s with heap := s.heap.push { cls := .type "dict", data := .dict #[] } }) :
    wpAny (model prog w) A (dictDisplay ((none, v0) :: pairs.map fun p => (some p.1, p.2))) Q E s := by
  unfold dictDisplay
  dsimp only
  rw [List.forIn_cons]
  simp only [List.isEmpty_nil, if_true, pure_bind, bind_assoc]
  refine wpAny_bind (wpAny_alloc ?_)
  refine wpAny_bind (wpAny_holding (wpAny_mono h (fun m s1 hh => ?_) fun _ _ z => z))
  obtain ⟨a, more, rfl, ha, hp, na, ne, hz, k⟩ := hh
  have nd : (more.map (·.1)).Nodup := by
    obtain ⟨_, _, _, _, _, _, _, _, nd⟩ := ha
    exact nd
  refine wpAny_bind (wpAny_onRaise (wpAny_tryCatch (wpAny_onRaise (wpAny_holding (merge_into hp ha na ne (by rw [List.length_nil]; omega) fun h1 hd1 sm1 => ?_)))))
  rw [merged_nil_of_nodup more nd] at hd1
  have go := k h1 hd1 sm1
  rw [gather (some s.heap.objs.size) _ (fun p run hr => by
    have hne : ((run ++ [(p.1, p.2)]).length == 17) = false := by simp; omega
    simp only [hne, Bool.false_eq_true, if_false]) pairs [] (by rw [List.length_nil]; omega)]
  simp only [pure_bind, List.nil_append]
  have ie : ¬ pairs.isEmpty = true := by
    rw [List.isEmpty_iff]
    exact h0
  rw [if_neg ie]
  simp only [bind_assoc]
  refine wpAny_bind (wpAny_holding (wpAny_subDict (knd := knd) hlen (wpAny_mono go (fun vs s2 hh => ?_) fun _ _ z => z)))
  obtain ⟨kvs, m2, hc, hs, hm, nn, hz2, nsm, kk⟩ := hh
  refine ⟨kvs, hc, hs, fun h2 hs2 sm2 => ?_⟩
  have hm2 : h2.DictOf knd s.heap.objs.size m2 := hm.sameBut sm2 nn.symm
  refine wpAny_bind (wpAny_onRaise (wpAny_holding (merge_into (s := { s2 with heap := h2, toks := s2.toks + vs.length }) hm2 hs2 nsm nn.symm (by
    have := merged_length_le ([] : List (K × Value)) kvs
    rw [List.length_nil] at this
    omega) fun h3 hd3 sm3 => ?_)))
  simp only [pure_bind]
  exact wpAny_pure (kk h2 h3 hs2 sm2 hd3 sm3)
end
end DM
end PySem
namespace GL
open PySem PySem.Spec PyProof.Rows L2
/-- {**d, k: v, ..}: p the new dict, q the one of the further pairs -/
def tStarD (te : TE) (trs : List (TE × TE)) : TE := fun σ H Q => ∀ p, H p = none → te σ (upd H p (.dK [])) fun x H1 => H1 p = some (.dK []) ∧ ∃ (a : Addr) (more : List (Key × V)), x = .ref a ∧ Rd H1 a (.dK more) ∧ p ≠ a ∧ more.length ≤ 1000 ∧
  ∀ q, q ≠ p → H1 q = none → tPairs trs σ (upd (upd H1 p (.dK more)) q (.dK [])) fun ps H2 => H2 p = some (.dK more) ∧ H2 q = some (.dK []) ∧ ∃ kvs : List (Key × V), ps = kvs.map (fun kv => (kV kv.1, kv.2)) ∧ kvs.length ≤ 15 ∧
    Q (.ref p) (upd (upd H2 q (.dK (mergeK [] kvs))) p (.dK (mergeK more (mergeK [] kvs))))
theorem pe_starD {X : Cx} {pos : Pos} {d : Expr} {te : TE} {keys : List (Option Expr)} {values : List Expr} {trs : List (TE × TE)} (he : PE X d te) (h : PPs X pos keys values trs) (hall : keys.all (·.isSome) = true) (hl : keys.length = values.length) (h0 : keys ≠ [])
    (h15 : keys.length ≤ 15) : PE X (.Dict (none :: keys) (d :: values) pos) (tStarD te trs) := by
  constructor
  intro pins s σ H Q I q
  have hn := I.hok.fresh (Nat.le_refl s.heap.objs.size)
  have I1 := I.laid (a := s.heap.objs.size) (o := .dK []) (h' := s.heap.push { cls := .type "dict", data := .dict #[] }) (t' := s.toks) (fun _ _ q => Heap.get?_push_of_some _ q) (Nat.le_refl _) (dk_empty s.heap I.big)
  rw [arm_eval_Dict]
  show wpAny _ _ (standAt pos >>= fun _ => dictDisplay ((none, do let x ← eval d X.env; standAt pos; pure x) :: (evalEachOpt keys X.env).zip ((evalEach values X.env).map fun v => do let x ← v; standAt pos; pure x))) _ _ _
  rw [zip_pairTrees keys values X.env pos hall hl]
  have pl := pairTrees_length keys values X.env pos hall hl
  refine wpAny_bind (wpAny_standAt (DM.star_display (knd := mixKind X.prog X.w) (fun z => ?_) (by rw [pl]; exact h15) (wpAny_bind (thn (he.run pins _ σ _ _ I1 (q _ hn)) fun u s1 hh => wpAny_bind (wpAny_standAt (wpAny_pure ?_))))))
  · rw [z] at pl
    exact h0 (List.length_eq_zero_iff.mp pl.symm)
  obtain ⟨x, H1, I2, rx, hp, a, more, rfl, ra, ne, hz, k⟩ := hh
  cases (show u = Value.ref a from rx)
  obtain ⟨zp, sp0, vp, rp, dp⟩ := dk_of I2.hok hp
  cases rp
  obtain ⟨za, sa, va, rva, da⟩ := dk_rd I2.hok ra
  have lv : va.length = more.length := rva.length.symm
  refine ⟨a, va, rfl, da, dp, sa, ne, by rw [lv]; exact za, fun h1 hd1 sm1 => ?_⟩
  have ex1 : ∃ o, h1.get? s.heap.objs.size = some o := by
    obtain ⟨o, _, _, ho, _⟩ := hd1
    exact ⟨o, ho⟩
  have I3 := d_write (t' := s1.toks) I2 (by rw [hp]; exact True.intro) sm1 ex1 (dk_new za sp0 rva hd1)
  have nq := I3.hok.fresh (Nat.le_refl h1.objs.size)
  have nqp : h1.objs.size ≠ s.heap.objs.size := fun e => by
    rw [e, upd_same] at nq
    cases nq
  have nq1 : H1 h1.objs.size = none := by rw [upd_ne nqp] at nq; exact nq
  have I4 := I3.laid (a := h1.objs.size) (o := .dK []) (h' := h1.push { cls := .type "dict", data := .dict #[] }) (t' := s1.toks) (fun _ _ q => Heap.get?_push_of_some _ q) (Nat.le_refl _) (dk_empty h1 I3.big)
  refine thn (h.run pins _ σ _ _ I4 (k h1.objs.size nqp nq1)) fun ws s2 hh2 => ?_
  obtain ⟨ps, H2, I5, rel, e1, e2, kvs, eps, lk, q2⟩ := hh2
  subst eps
  obtain ⟨rs, c, rk⟩ := carries_of (P := X.prog) (w := X.w) rel
  obtain ⟨z1, sq, vs0, r0, dd⟩ := dk_of I5.hok e2
  cases r0
  obtain ⟨z2, _, m2, r2, dd2⟩ := dk_of I5.hok e1
  have l2 : m2.length = more.length := r2.length.symm
  have lr : rs.length = kvs.length := rk.length.symm
  refine ⟨rs, m2, c, dd, dd2, nqp, by rw [l2, lr, sizeLine_eq]; omega, sq, fun hm h2 a1 a2 a3 a4 => ?_⟩
  have lm := length_mergeK kvs []
  have lm2 := length_mergeK (mergeK [] kvs) more
  rw [List.length_nil] at lm
  have I6 := d_write (t' := s2.toks) I5 (by rw [e2]; exact True.intro) a2 (by
    obtain ⟨o, _, _, ho, _⟩ := a1
    exact ⟨o, ho⟩) (dk_new (by rw [sizeLine_eq]; omega) sq (rk.merge .nil) a1)
  have I7 := d_write (t' := s2.toks + ws.length) I6 (by rw [upd_ne nqp.symm, e1]; exact True.intro) a4 (by
    obtain ⟨o, _, _, ho, _⟩ := a3
    exact ⟨o, ho⟩) (dk_new (by rw [sizeLine_eq]; omega) sp0 (KV.merge (rk.merge .nil) r2) a3)
  exact ⟨.ref s.heap.objs.size, _, I7, rfl, q2⟩
end GL
/-! C(**d): what a call's mapping is read as -/
namespace PySem
namespace DM
open PySem
section
variable {prog : Program} {w : World} {K : Type} [DecidableEq K] {knd : KeyKind prog w K} {A : Around} {E : Value → Shared → Prop} {s : Shared}
theorem find_none {d : Addr} {kvs : List (K × Value)} {k : K} {key : Value} {Q : Option Nat → Shared → Prop} (hkey : knd.is k key = true) (hm : s.heap.DictOf knd d kvs) (off : k ∉ kvs.map (·.1)) (hQ : Q none s) : wpAny (model prog w) A (dictFind d key (knd.hash k)) Q E s := by
  obtain ⟨o, es, ep, ho, hc, hd, hk, hp, hn⟩ := hm
  refine wpAny_dictFind_of hkey ho hd hk ?_
  have same : (es.findIdx? fun e => knd.is k e.key) = kvs.findIdx? fun kv => decide (kv.1 = k) := by
    have := hp.findIdx k
    obtain ⟨l⟩ := es
    simpa using this
  rw [same, List.findIdx?_eq_none_iff.mpr fun kv hkv => decide_eq_false fun e => off (List.mem_map.mpr ⟨kv, hkv, e⟩)]
  exact hQ
def tailU (p a : Addr) : Sem Unit := do
  let es ← dictEntries a
  let epoch ← dictEpoch a
  forIn (List.range es.size) PUnit.unit fun i _ => do
    let es ← dictEntries a
    match es[i]? with
    | some e => do
      holding [e.key, e.val] (do
        let q ← dictFind p e.key e.hash
        if q.isSome = true then do
          rule "dict.merge.duplicate-key"
          let x ← newExc (Value.type "KeyError") [e.key]
          let _ ← (raiseNew x : Sem Unit)
          dictPut p e.hash e.key e.val
        else dictPut p e.hash e.key e.val)
      let n ← dictEpoch a
      if (n != epoch) = true then do
        let _ ← (unsupported "dict.changed-during-merge" : Sem Unit)
        pure (ForInStep.yield PUnit.unit)
      else pure (ForInStep.yield PUnit.unit)
    | _ => do
      let _ ← (unsupported "dict.changed-during-merge" : Sem Unit)
      pure (ForInStep.yield PUnit.unit)
  pure ()
theorem tailU_ok {p a : Addr} {more : List (K × Value)} {Q : Unit → Shared → Prop} (hm : s.heap.DictOf knd p []) (ha : s.heap.DictOf knd a more) (ne : p ≠ a) (hz : more.length ≤ sizeLine)
    (hQ : ∀ h', h'.DictOf knd p more → Heap.SameBut p s.heap h' → Q () { s with heap := h' }) : wpAny (model prog w) A (tailU p a) Q E s := by
  obtain ⟨oa, ea, epa, hoa, hca, hda, hka, hpa, hna⟩ := id ha
  have len : ea.size = more.length := by
    have := hpa.length
    simpa using this
  unfold tailU
  refine wpAny_bind (wpAny_dictEntries hoa hda (wpAny_bind (wpAny_dictEpoch hoa hda (wpAny_bind ?_))))
  refine wpAny_forIn_list _ (fun rest _ s' => ∃ i, rest = List.range' i (ea.size - i) ∧ i ≤ ea.size ∧ s'.gens = s.gens ∧ s'.drawn = s.drawn ∧ s'.toks = s.toks ∧ s'.os = s.os ∧ s'.heap.DictOf knd p (more.take i) ∧ Heap.SameBut p s.heap s'.heap) _ ?_ ?_ _ _ ?_
  · rintro x rest _ s' ⟨i, hr, hi, g1, g2, g3, g4, hd', same⟩
    have lt : i < ea.size := by
      by_cases q : i < ea.size
      · exact q
      · rw [Nat.sub_eq_zero_of_le (by omega)] at hr
        cases hr
    obtain ⟨n, hn⟩ : ∃ n, ea.size - i = n + 1 := ⟨ea.size - i - 1, by omega⟩
    rw [hn, List.range'_succ] at hr
    cases hr
    have hoa' : s'.heap.get? a = some oa := (same.2 a ne.symm).trans hoa
    refine wpAny_bind (wpAny_dictEntries hoa' hda ?_)
    rw [Array.getElem?_eq_getElem lt]
    obtain ⟨k, hkey, hhash⟩ := hka ea[x] (Array.getElem_mem lt)
    obtain ⟨kv, hkv, his, hval⟩ := pairs_at hpa x (by simpa using lt)
    have e1 : ea.toList[x] = ea[x] := by simp
    rw [e1] at his hval
    have ek : kv.1 = k := knd.inj _ _ _ his hkey
    have lt2 : (more.take x).length ≤ x := List.length_take_le ..
    have off : k ∉ (more.take x).map (·.1) := fun m => by
      obtain ⟨y, hy, ey⟩ := List.mem_map.mp m
      obtain ⟨j, hj, ej⟩ := List.getElem_of_mem hy
      rw [List.length_take] at hj
      rw [List.getElem_take] at ej
      have lx : x < more.length := by omega
      have ex : more[x] = kv := by
        rw [List.getElem?_eq_getElem lx] at hkv
        exact Option.some.inj hkv
      have := List.pairwise_iff_getElem.mp hna j x (by rw [List.length_map]; omega) (by rw [List.length_map]; exact lx) (by omega)
      rw [List.getElem_map, List.getElem_map, ej, ex] at this
      exact this (ey.trans ek.symm)
    show wpAny _ _ (holding [ea[x].key, ea[x].val] (dictFind p ea[x].key ea[x].hash >>= _) >>= _) _ _ _
    rw [hhash]
    refine wpAny_bind (wpAny_holding (wpAny_bind (find_none hkey hd' off ?_)))
    rw [if_neg (by simp)]
    refine put_one hkey hd' (fun h' hd2 same2 => ?_) (by omega)
    have sm : Heap.SameBut p s.heap h' := ⟨same2.1.trans same.1, fun b hb => (same2.2 b hb).trans (same.2 b hb)⟩
    have hoa2 : h'.get? a = some oa := (sm.2 a ne.symm).trans hoa
    refine wpAny_bind (wpAny_dictEpoch hoa2 hda ?_)
    rw [if_neg (by simp)]
    refine wpAny_pure ⟨x + 1, ?_, by omega, g1, g2, g3, g4, ?_, sm⟩
    · rw [show ea.size - (x + 1) = n by omega]
    · have nope : ¬ ((more.take x).any fun y => decide (y.1 = k)) = true := fun z => by
        obtain ⟨y, h1, h2⟩ := List.any_eq_true.mp z
        exact off (List.mem_map.mpr ⟨y, h1, of_decide_eq_true h2⟩)
      rw [stored, if_neg nope] at hd2
      rw [List.take_add_one, hkv]
      have ekv : (k, ea[x].val) = kv := by
        rw [hval, ← ek]
      rw [ekv] at hd2
      exact hd2
  · rintro _ s' ⟨i, hr, hi, g1, g2, g3, g4, hd', same⟩
    have e : i = ea.size := by
      by_cases q : i < ea.size
      · obtain ⟨n, hn⟩ : ∃ n, ea.size - i = n + 1 := ⟨ea.size - i - 1, by omega⟩
        rw [hn, List.range'_succ] at hr
        cases hr
      · omega
    rw [e, len, List.take_length] at hd'
    refine wpAny_pure ?_
    have z := hQ _ hd' same
    obtain ⟨h1, h2, h3, h4, h5⟩ := s'
    cases g1
    cases g2
    cases g3
    cases g4
    exact z
  · refine ⟨0, by rw [List.range_eq_range', Nat.sub_zero], Nat.zero_le _, rfl, rfl, rfl, rfl, ?_, ⟨rfl, fun _ _ => rfl⟩⟩
    simpa using hm
theorem merge_new {p a : Addr} {more : List (K × Value)} {Q : Unit → Shared → Prop} (hm : s.heap.DictOf knd p []) (ha : s.heap.DictOf knd a more) (na : (a == sysModules) = false) (ne : p ≠ a) (hz : more.length ≤ sizeLine)
    (hQ : ∀ h', h'.DictOf knd p more → Heap.SameBut p s.heap h' → Q () { s with heap := h' }) : wpAny (model prog w) A (mergeMapping p (.ref a) true) Q E s := by
  obtain ⟨oa, ea, epa, hoa, hca, hda, hka, hpa, hna⟩ := id ha
  obtain ⟨op, ep, epp, hop, hcp, hdp, hkp, hpp, hnp⟩ := id hm
  have ty : s.TypeIs (.ref a) "dict" := ⟨oa, hoa, hca.1⟩
  unfold mergeMapping
  refine wpAny_bind (wpAny_isInstance ty isSubtype_dict_dict ?_)
  rw [if_pos rfl]
  refine wpAny_bind (wpAny_specialOf ty PySem.F.slot_dict_iter.lookup (wpAny_bind (wpAny_pure ?_)))
  have t : (some (Value.builtin "dict.__iter__") == some (Value.builtin "dict.__iter__")) = true := by decide +kernel
  rw [t]
  have nn : ¬ (a == sysModules) = true := by
    rw [na]
    exact Bool.false_ne_true
  show wpAny _ _ (if (a == sysModules) = true then _ else _) _ _ _
  rw [if_neg nn]
  refine wpAny_bind (wpAny_dictEntries hop hdp ?_)
  have rest := tailU_ok (A := A) (E := E) (Q := Q) hm ha ne hz hQ
  by_cases hemp : ep.isEmpty = true
  · rw [if_pos hemp]
    have loop : (forIn ea PUnit.unit fun (e : DictEntry) (_ : PUnit) => (match e.key with
          | Value.ref a => do
            let q ← specialOf e.key (Str.ofString "__eq__")
            if (q != some (Value.builtin "object.__eq__")) = true then
                if (Array.filter (fun x => x.hash == e.hash) ea).size > 1 then do
                  let _ ← (unsupported "dict.merge-into-an-empty-dict:keys-of-equal-hash" : Sem PUnit)
                  pure (ForInStep.yield PUnit.unit)
                else pure (ForInStep.yield PUnit.unit)
              else pure (ForInStep.yield PUnit.unit)
          | _ => pure (ForInStep.yield PUnit.unit) : Sem (ForInStep PUnit))) = pure PUnit.unit := by
      rw [← Array.forIn_toList]
      refine forIn_yield_id _ fun e he c => ?_
      obtain ⟨k, hkey, _⟩ := hka e (Array.mem_toList_iff.mp he)
      have cv := knd.byValue k _ hkey
      cases q : e.key with
      | ref b =>
        rw [q] at cv
        exact absurd cv Bool.false_ne_true
      | _ => rfl
    exact wpAny_bind (wpAny_dictEntries hoa hda (wpAny_bind (wpAny_of_eq loop rest)))
  · rw [if_neg hemp]
    exact rest
end
end DM
end PySem
/-! C(**d) -/
namespace PySem
namespace DM
open PySem PySem.Spec PyProof.Rows L2
section
variable {prog : Program} {w : World} {A : Around} {E : Value → Shared → Prop} {s : Shared}
theorem loop_kw {F : DictEntry → List (Str × Value) → Sem (ForInStep (List (Str × Value)))} (hF : ∀ (e : DictEntry) (x : Str) (t : Tok) (kw : List (Str × Value)), e.key = .str x t → F e kw = pure (.yield (kw ++ [(x, e.val)]))) :
    ∀ (es : List DictEntry) (more done : List (Str × Value)), Pairs (mixKind prog w) es (more.map fun p => ((.inr p.1 : Key), p.2)) → forIn es done F = pure (done ++ more) := by
  intro es
  induction es with
  | nil =>
    intro more done h
    generalize hx : (more.map fun p => ((.inr p.1 : Key), p.2)) = xs at h
    cases h
    rw [List.map_eq_nil_iff.mp hx, List.append_nil, List.forIn_nil]
  | cons e es ih =>
    intro more done h
    cases more with
    | nil => cases h
    | cons p more =>
      rw [List.map_cons] at h
      cases h with
      | cons h1 h2 ht =>
        rcases keyIs_shape (show keyIs (.inr p.1) e.key = true from h1) with ⟨i, t, e1, e2⟩ | ⟨x, t, e1, e2⟩
        · cases e1
        · have ex : p.1 = x := Sum.inr.inj e1
          rw [List.forIn_cons, hF e x t done e2, pure_bind]
          have z := ih more (done ++ [p]) ht
          rw [List.append_assoc] at z
          have ep : (x, e.val) = p := by
            rw [h2, ← ex]
          rw [ep]
          exact z
theorem keywords_in {f : Value} {d : Addr} {more : List (Str × Value)} {Q : List (Str × Value) → Shared → Prop} (hm : s.heap.DictOf (mixKind prog w) d (more.map fun p => (.inr p.1, p.2))) (hQ : Q more s) : wpAny (model prog w) A (keywordsIn f d) Q E s := by
  obtain ⟨o, es, ep, ho, hc, hd, hk, hp, hn⟩ := hm
  unfold keywordsIn
  dsimp only
  refine wpAny_bind (wpAny_dictEntries ho hd (wpAny_bind ?_))
  rw [← Array.forIn_toList]
  refine wpAny_of_eq (loop_kw (prog := prog) (w := w) (fun e x t kw h => ?_) es.toList more [] hp) (wpAny_pure hQ)
  simp only [h]
/-- what (**x) is read as -/
theorem args_star {f : Value} {x : Sem Value} {Q : Args → Shared → Prop}
    (h : wpAny (model prog w) A x (fun m s1 => ∃ (a : Addr) (more : List (Str × Value)), m = .ref a ∧ s1.heap.DictOf (mixKind prog w) a (more.map fun p => (.inr p.1, p.2)) ∧ s1.heap.DictOf (mixKind prog w) s.heap.objs.size [] ∧ (a == sysModules) = false ∧ s.heap.objs.size ≠ a ∧ more.length ≤ sizeLine ∧
      ∀ h1, h1.DictOf (mixKind prog w) s.heap.objs.size (more.map fun p => (.inr p.1, p.2)) → Heap.SameBut s.heap.objs.size s1.heap h1 → Q ⟨[], more⟩ { s1 with heap := h1 }) E { s with heap := s.heap.push { cls := .type "dict", data := .dict #[] } }) :
    wpAny (model prog w) A (evalArgs f true [] [(none, x)]) Q E s := by
  unfold evalArgs
  refine wpAny_bind (show wpAny _ _ (pure []) _ _ _ from wpAny_pure (wpAny_bind (wpAny_pure ?_)))
  show wpAny _ _ (holding ([] ++ []) _) _ _ _
  refine wpAny_holding ?_
  rw [if_neg (by simp)]
  refine wpAny_bind ?_
  unfold mergedKeywords
  refine wpAny_bind (wpAny_alloc (wpAny_bind (wpAny_holding ?_)))
  show wpAny _ _ (forIn [(none, x)] [] _ >>= _) _ _ _
  refine wpAny_bind ?_
  rw [List.forIn_cons]
  refine wpAny_bind (wpAny_bind (show wpAny _ _ (pure PUnit.unit) _ _ _ from wpAny_pure (wpAny_bind (wpAny_mono h (fun m s1 hh => ?_) fun _ _ z => z))))
  obtain ⟨a, more, rfl, ha, hp, na, ne, hz, k⟩ := hh
  refine wpAny_bind (wpAny_onRaise ?_)
  refine wpAny_holding (wpAny_tryCatch (wpAny_onRaise (merge_new hp ha na ne (by rw [List.length_map]; exact hz) fun h1 hd1 sm1 => ?_)))
  refine wpAny_pure ?_
  show wpAny _ _ (forIn [] _ _) _ _ _
  rw [List.forIn_nil]
  refine wpAny_pure ?_
  show wpAny _ _ (pure PUnit.unit) _ _ _
  refine wpAny_pure (wpAny_pure ?_)
  refine wpAny_bind (show wpAny _ _ (pure []) _ _ _ from wpAny_pure ?_)
  exact wpAny_bind (wpAny_holding (keywords_in hd1 (wpAny_pure (k h1 hd1 sm1))))
end
end DM
end PySem
namespace PySem
namespace DM
open PySem PySem.W
theorem callWith_dict {M : Model} {A : Around} {E : Value → Shared → Prop} {s : Shared} {f : Value} {first : List Value} {pos : Pos} {Q : Value → Shared → Prop} {P : Heap → Prop} {kws : List (Option Str × Sem Value)} (hst : kws.any (·.1.isNone) = true)
    (hk : ∀ h, P h → ∃ k, (k = Keeper.frame ∨ k = Keeper.machine ∨ k = Keeper.boundFrame) ∧ Looks M h (keeperOf f) k)
    (h : wpAny M A (evalArgs f true [] kws) (fun a s1 => P s1.heap ∧ wpAny M A (call f (first ++ a.pos) a.kw) Q E s1) E s) : wpAny M A (callWith pos f first [] kws) Q E s := by
  unfold callWith
  refine wpAny_bind (wpAny_holding (wpAny_mono h ?_ fun _ _ z => z))
  rintro a s1 ⟨hP, run⟩
  refine wpAny_bind (wpAny_standAt ?_)
  obtain ⟨k, which, L⟩ := hk _ hP
  have st : (([] : List (Bool × Sem Value)).any (·.1) || kws.any (·.1.isNone)) = true := by
    rw [hst, Bool.or_true]
  simp only [st]
  refine wpAny_bind (L.here ?_)
  have last : ∀ {t : Sem Value}, wpAny M A t Q E s1 → wpAny M A (t >>= fun r => holding [r] point >>= fun _ => pure r) Q E s1 := fun ht =>
    wpAny_bind (wpAny_mono ht (fun r s2 hr => wpAny_bind (wpAny_holding (wpAny_point (wpAny_pure hr)))) fun _ _ z => z)
  have mark (mk : Value) : wpAny M A (callMarked mk f (first ++ a.pos) a.kw) Q E s1 := by
    unfold callMarked
    exact Calls.wpAny_keep run
  rcases which with rfl | rfl | rfl
  · dsimp only
    exact last (mark _)
  · dsimp only
    exact last (wpAny_operating run)
  · dsimp only
    exact last (wpAny_operating run)
end DM
end PySem
namespace GL
open PySem PySem.Spec PyProof.Rows L2
/-- a told dict whose keys are these texts -/
def kvN (names : List Str) (zs : List V) : List (Key × V) := (names.zip zs).map fun p => (.inr p.1, p.2)
theorem kvN_vals : ∀ {names : List Str} {zs : List V} {vs : List (Key × Value)}, zs.length = names.length → KV (kvN names zs) vs → ∃ ws : List Value, Vals zs ws ∧ vs = (names.zip ws).map fun p => (.inr p.1, p.2)
  | [], [], vs, _, h => by
    cases h
    exact ⟨[], .nil, rfl⟩
  | [], _ :: _, _, e, _ => by cases e
  | _ :: _, [], _, e, _ => by cases e
  | n :: ns, z :: zs, vs, e, h => by
    cases h with
    | @cons _ b _ bs hb ht =>
      obtain ⟨ws, r, q⟩ := kvN_vals (names := ns) (zs := zs) (by simpa using e) ht
      obtain ⟨b1, b2⟩ := b
      have e1 : (Sum.inr n : Key) = b1 := hb.1
      refine ⟨b2 :: ws, .cons hb.2 r, ?_⟩
      rw [q, ← e1]
      rfl
/-- C(**e): p the dict that the call makes of it -/
def tMakeD (C : Addr) (names : List Str) (sp : Sp) (gV : List V → List V → List V) (E : XK) (te : TE) : TE := fun σ H Q => ∀ p, H p = none → te σ (upd H p (.dK [])) fun x H1 => H1 p = some (.dK []) ∧ ∃ (a : Addr) (zs : List V), x = .ref a ∧ p ≠ a ∧ Rd H1 a (.dK (kvN names zs)) ∧ zs.length = names.length ∧ names.length ≤ 1000 ∧
  ∀ x dx, upd H1 p (.dK (kvN names zs)) x = none → upd H1 p (.dK (kvN names zs)) dx = none → dx ≠ x → sp (gV [.ref x] zs) (upd (upd (upd H1 p (.dK (kvN names zs))) dx (.own x)) x (.ins C dx [])) (fun v H3 => v = .non ∧ Q (.ref x) H3) E
theorem pkD {X : Cx} {CX : CXT} {k : Nat} {f C : Addr} {fd : FuncData} {ps names : List Str} {sp : Sp} {E : XK} {x : Str} {p pos kp : Pos} {e : Expr} {te : TE} {g : List Value → List Value → List Value} {gV : List V → List V → List V}
    (G : Fre X.A) (M : Mk X.K C f) (F : FnG X.prog X.w X.K X.mg X.base CX k f fd ps sp) (hr : Room (k + 1) X.A) (hg : Gl X x) (hm : X.mg x = some (.ref C)) (hb : KBn X.K fd ps 1 names g gV) (hx : Passes CX X E) (he : PE X e te) (ndb : (x == ("__debug__" : Str)) = false := by decide)
    (hkw : backToKw pos (keywordEach [⟨none, e, kp⟩] X.env) = [(none, do let v ← eval e X.env; standAt pos; pure v)] := by rfl) :
    PE X (.Call (.Name x p) [] [⟨none, e, kp⟩] pos) (tMakeD C names sp gV E te) := by
  constructor
  intro pins s σ H Q I h
  refine wpAny_Call_Name_kw (ld_glob I hg hm ?_ ndb)
  rw [hkw]
  show wpAny _ _ (callWith pos (.ref C) [] [] _) _ _ _
  have hn := I.hok.fresh (Nat.le_refl s.heap.objs.size)
  have I1 := I.laid (a := s.heap.objs.size) (o := .dK []) (h' := s.heap.push { cls := .type "dict", data := .dict #[] }) (t' := s.toks) (fun _ _ q => Heap.get?_push_of_some _ q) (Nat.le_refl _) (dk_empty s.heap I.big)
  refine DM.callWith_dict (P := X.K.In) rfl (PySem.W.keeps_K M.kp) (DM.args_star (wpAny_bind (thn (he.run pins _ σ _ _ I1 (h _ hn)) fun u s1 hh => wpAny_bind (wpAny_standAt (wpAny_pure ?_)))))
  obtain ⟨y, H1, I2, ry, hp, a, zs, rfl, ne, ra, lz, ln, k1⟩ := hh
  cases (show u = Value.ref a from ry)
  obtain ⟨zp, sp0, vp, rp, dp⟩ := dk_of I2.hok hp
  cases rp
  obtain ⟨za, sa, va, rva, da⟩ := dk_rd I2.hok ra
  obtain ⟨ws, rz, ev⟩ := kvN_vals lz rva
  rw [ev] at da
  have lw : (names.zip ws).length ≤ 1000 := by
    have := List.length_zip (l₁ := names) (l₂ := ws)
    omega
  refine ⟨a, names.zip ws, rfl, da, dp, sa, ne, by rw [sizeLine_eq]; omega, fun h1 hd1 sm1 => ?_⟩
  have ex1 : ∃ o, h1.get? s.heap.objs.size = some o := by
    obtain ⟨o, _, _, ho, _⟩ := hd1
    exact ⟨o, ho⟩
  have I3 := d_write (t' := s1.toks) I2 (by rw [hp]; exact True.intro) sm1 ex1 (dk_new za sp0 rva (by rw [ev]; exact hd1))
  exact ⟨I3.kIn, ranMK G M F hr hb hx I3 rz lz k1⟩
end GL
/-! == and != of two dicts with the same keys, whose values are data -/
namespace GL
open PySem PySem.Spec PyProof.Rows L2
def rEqDict (K : PySem.W.Frag) : R2 := fun x y H Q => ∃ (a b : Addr) (ks ls : List (Key × V)) (ds es : List PyData), x = .ref a ∧ y = .ref b ∧ Rd H a (.dK ks) ∧ Rd H b (.dK ls) ∧ ks.map (·.1) = ls.map (·.1) ∧ DpAll K H (ks.map (·.2)) ds ∧ DpAll K H (ls.map (·.2)) es ∧
  (∀ d ∈ ds, SeqAt.shaped d = true) ∧ (∀ e ∈ es, SeqAt.shaped e = true) ∧ Q (.bl (PyData.eqvAll ds es)) H
theorem value_at {K : Type} [DecidableEq K] : ∀ {vs : List (K × Value)}, (vs.map (·.1)).Nodup → ∀ p ∈ vs, valueAt vs p.1 = some p.2 := by
  intro vs nd p hp
  unfold valueAt
  have h : vs.find? (fun kv => decide (kv.1 = p.1)) = some p := by
    induction vs with
    | nil => cases hp
    | cons q vs ih =>
      rw [List.map_cons, List.nodup_cons] at nd
      rcases List.mem_cons.mp hp with rfl | hp
      · rw [List.find?_cons, decide_eq_true rfl]
      · have ne : ¬ q.1 = p.1 := fun e => nd.1 (by rw [e]; exact List.mem_map.mpr ⟨p, hp, rfl⟩)
        rw [List.find?_cons, decide_eq_false ne]
        exact ih nd.2 hp
  rw [h]
  rfl
section
variable {X : Cx} {pins : List (Addr × Obj)} {σ : L2.St} {H : Hp} {s : Shared}
theorem all_hits (I : Inv X pins σ H s) (hu : X.A.units + 66 < cLine) {full : List (Key × Value)} : ∀ (ks ls : List (Key × V)) (va vb : List (Key × Value)) (ds es : List PyData), KV ks va → KV ls vb → ks.map (·.1) = ls.map (·.1) → DpAll X.K H (ks.map (·.2)) ds → DpAll X.K H (ls.map (·.2)) es →
    (∀ d ∈ ds, SeqAt.shaped d = true) → (∀ e ∈ es, SeqAt.shaped e = true) → (∀ p ∈ vb, valueAt full p.1 = some p.2) → PySem.W.KeqHitsP X.prog X.w X.A.in1 s full va (PyData.eqvAll ds es)
  | [], [], _, _, _, _, ra, rb, _, da, db, _, _, _ => by
    cases ra
    cases da
    cases db
    exact .nil
  | [], _ :: _, _, _, _, _, _, _, e, _, _, _, _, _ => by cases e
  | _ :: _, [], _, _, _, _, _, _, e, _, _, _, _, _ => by cases e
  | k :: ks, l :: ls, va, vb, ds, es, ra, rb, e, da, db, sd, se, at_ => by
    cases ra with
    | @cons _ p _ va ha ra =>
      cases rb with
      | @cons _ q _ vb hb rb =>
        rw [List.map_cons] at da db
        cases da with
        | @cons _ _ d ds d1 da =>
          cases db with
          | @cons _ _ g es d2 db =>
            obtain ⟨a1, a2⟩ := ha
            obtain ⟨b1, b2⟩ := hb
            have kl : k.1 = l.1 := (List.cons.inj e).1
            have rest := all_hits I hu ks ls va vb ds es ra rb (List.cons.inj e).2 da db (fun d hd => sd d (List.mem_cons_of_mem _ hd)) (fun d hd => se d (List.mem_cons_of_mem _ hd)) (fun p hp => at_ p (List.mem_cons_of_mem _ hp))
            obtain ⟨as, r1⟩ := Dp.reads I d k.2 p.2 d1 a2
            obtain ⟨bs, r2⟩ := Dp.reads I g l.2 q.2 d2 b2
            have s1 := sd d List.mem_cons_self
            have s2 := se g List.mem_cons_self
            have look : valueAt full p.1 = some q.2 := by
              rw [show p.1 = q.1 from a1.symm.trans (kl.trans b1)]
              exact at_ q List.mem_cons_self
            have one : SeqAt.EqP X.prog X.w X.A.in1 s p.2 q.2 (PyData.eqv d g) := fun E Q hq => PySem.SeqAt.eqAt_reads d g X.A.in1 s p.2 q.2 as bs r1 r2 (SeqAt.canLay_of_shaped s1) (SeqAt.canLay_of_shaped s2) (SeqAt.room_of_shaped (A := X.A.in1) s1 (by show X.A.units + 1 + 64 < cLine; omega)) X.prog X.w E Q hq
            have z := PySem.W.KeqHitsP.hit (k := p.1) (v := p.2) look one rest
            simp only [PyData.eqvAll]
            exact z
theorem op_eqDict (hu : X.A.units + 66 < cLine) : OpR X (compareOp .Eq) (rEqDict X.K) := by
  intro pins s σ H x y v u Q I rx ry h
  obtain ⟨a, b, ks, ls, ds, es, rfl, rfl, ea, eb, ke, da, db, sd, se, q⟩ := h
  cases (show v = Value.ref a from rx)
  cases (show u = Value.ref b from ry)
  obtain ⟨_, ya, va, ra, oa⟩ := dk_rd I.hok ea
  obtain ⟨_, yb, vb, rb, ob⟩ := dk_rd I.hok eb
  have nd : (vb.map (·.1)).Nodup := by
    obtain ⟨_, _, _, _, _, _, _, _, nd⟩ := ob
    exact nd
  have len : va.length = vb.length := by
    rw [← ra.length, ← rb.length, ← List.length_map (f := fun p : Key × V => p.1) (as := ks), ke, List.length_map]
  refine PySem.W.rcP_dicts (knd := mixKind X.prog X.w) ya yb oa ob (by omega) (fun _ => all_hits I hu ks ls va vb ds es ra rb ke da db sd se (value_at nd)) _ _ ?_
  rw [len, beq_self_eq_true, Bool.true_and]
  exact ⟨.bl _, H, I, rfl, q⟩
end
end GL
/-! {x!r}, x a text, a number, a truth value, a list or a tuple of data -/
namespace GL
open PySem PySem.Spec PyProof.Rows L2
section
variable {X : Cx} {e : Expr} {te t1 t2 : TE} {pos : Pos}
def tFmtV (K : PySem.W.Frag) (te : TE) : TE := fun σ H Q => te σ H fun x H1 =>
  (∃ y : Str, x = .str y ∧ (reprText y).length ≤ sizeLine ∧ Q (.str (reprText y)) H1) ∨ (∃ i : Int, x = .int i ∧ i.natAbs.log2 < 1920 ∧ Q (.str (toString i)) H1) ∨ (∃ b : Bool, x = .bl b ∧ Q (.str (if b then "True" else "False")) H1) ∨
  (∃ d, Dp K H1 x d ∧ isDisplay d = true ∧ d.showable = true ∧ d.hasDict = false ∧ d.depth ≤ 60 ∧ d.shown.length ≤ sizeLine ∧ Q (.str d.shown) H1)
theorem pe_fmtV (G : Fre X.A) (hu : X.A.units + 64 < cLine) (he : PE X e te) : PE X (.FormattedValue e 114 none pos) (tFmtV X.K te) := by
  constructor
  intro pins s σ H Q I h
  refine wpAny_FormattedValue_repr (thn (he.run pins s σ H _ I h) ?_)
  rintro u s1 ⟨x, H1, I1, r1, ⟨y, rfl, hz, q⟩ | ⟨i, rfl, hz, q⟩ | ⟨b, rfl, q⟩ | ⟨d, hd, h1, h2, h3, h4, h5, q⟩⟩
  · obtain ⟨t, rfl⟩ := r1
    have done : ∀ (tk : Tok) (n : Nat), EP X pins σ Q (.str (reprText y) tk) { s1 with toks := n } := fun tk n => ⟨.str (reprText y), H1, I1.tok _, ⟨_, rfl⟩, q⟩
    exact pyReprObj_str (wpAny_formatField_str (done _ _) (done _ _) hz) hz
  · obtain ⟨t, rfl⟩ := r1
    have done : ∀ (tk : Tok) (n : Nat), EP X pins σ Q (.str (toString i) tk) { s1 with toks := n } := fun tk n => ⟨.str (toString i), H1, I1.tok _, ⟨_, rfl⟩, q⟩
    exact pyReprObj_int hz (wpAny_formatField_str (done _ _) (done _ _) (int_text_fits hz))
  · cases (show u = Value.bool b from r1)
    have done : ∀ (tk : Tok) (n : Nat), EP X pins σ Q (.str (if b then "True" else "False") tk) { s1 with toks := n } := fun tk n => ⟨.str (if b then "True" else "False"), H1, I1.tok _, ⟨_, rfl⟩, q⟩
    exact pyReprObj_bool (wpAny_formatField_str (done _ _) (done _ _) (by rw [sizeLine_eq]; cases b <;> decide))
  · obtain ⟨as, rd⟩ := Dp.reads I1 d x _ hd r1
    obtain ⟨a, rfl⟩ := isRef_of_reads rd h1
    exact pyReprObj_of_reads rd h2 (PyData.noDict_hsm h3) G (by omega) (fun _ _ e => e) (fun h' u tk hk => wpAny_formatField_str ⟨.str d.shown, H1, I1.kept hk, ⟨_, rfl⟩, q⟩ ⟨.str d.shown, H1, I1.kept hk, ⟨_, rfl⟩, q⟩ h5) h5
end
end GL
/-! ### len(set(t)), t a tuple of texts, each once -/
namespace GB
open PySem PySem.Spec PyProof.Rows L2
theorem take_no {xs : List Str} (nd : xs.Nodup) {i : Nat} (hi : i < xs.length) : (xs.take i).any (· == xs.getD i Str.empty) = false := by
  rw [List.any_eq_false]
  intro y hy q
  obtain ⟨j, hj, ej⟩ := List.getElem_of_mem hy
  rw [List.length_take] at hj
  rw [List.getElem_take] at ej
  have e2 : xs.getD i Str.empty = xs[i] := by rw [List.getD_eq_getElem?_getD, List.getElem?_eq_getElem hi, Option.getD_some]
  have e3 : xs[j]'(by omega) = xs[i] := by rw [ej, eq_of_beq q, e2]
  exact (List.pairwise_iff_getElem.mp nd j i (by omega) hi (by omega)) e3
theorem take_next {xs : List Str} {i : Nat} (hi : i < xs.length) (k : Str) : ((xs.take i).any (· == k) || decide (k = xs.getD i Str.empty)) = (xs.take (i + 1)).any (· == k) := by
  have e2 : xs.getD i Str.empty = xs[i] := by rw [List.getD_eq_getElem?_getD, List.getElem?_eq_getElem hi, Option.getD_some]
  rw [List.take_add_one, List.getElem?_eq_getElem hi, List.any_append, e2]
  show _ = ((xs.take i).any (· == k) || [xs[i]].any (· == k))
  congr 1
  by_cases e : k = xs[i]
  · rw [decide_eq_true e, e]
    simp
  · rw [decide_eq_false e]
    have : (xs[i] == k) = false := beq_eq_false_iff_ne.mpr fun z => e z.symm
    simp [this]
section
variable {prog : Program} {w : World} {A : Around} {R : Result → Shared → Prop} {it : Addr} {fps wrs : List Addr} {GG : Array GenState → Array GenState → Prop} {m : Nat} {PP : Nat → Value → Prop} {Sta : Nat → Shared → Prop}
/-- the set as it stands behind i of the texts -/
abbrev Upto (prog : Program) (w : World) (h : Heap) (T : Addr) (xs : List Str) (i : Nat) : Prop := h.SetOf (PySem.strKind prog w) T (fun k => (xs.take i).any (· == k)) i
theorem upto_keep {h h' : Heap} {T : Addr} {xs : List Str} {i : Nat} (u : Upto prog w h T xs i) (k : ∀ o, h.get? T = some o → h'.get? T = some o) : Upto prog w h' T xs i :=
  let ⟨o, es, ep, t, ho, r⟩ := u
  ⟨o, es, ep, t, k o ho, r⟩
theorem each (W : WalksS prog w A.in1 it fps wrs GG m PP Sta) (T : Addr) (hT : T ∉ fps) (xs : List Str) (hm : xs.length = m) (nd : xs.Nodup) (hb : m + 1 < scanBound)
    (val : ∀ i v, PP i v → ∃ t, v = .str (xs.getD i Str.empty) t) (j : Nat) : ∀ (i : Nat) (s : Shared), m - i = j → i ≤ m → Sta i s → Upto prog w s.heap T xs i →
      (∀ s', Moved (T :: wrs) GG s s' → Upto prog w s'.heap T xs m → R (.ok (.ret .none)) s') → codeAny (model prog w) A (.builtin "set.update.loop" ⟨[.ref T, .ref it], []⟩) R s := by
  have nT : T ∉ wrs := fun q => hT (W.sub _ q)
  have more : ∀ b ∈ wrs, b ∈ T :: wrs := fun b q => List.mem_cons_of_mem _ q
  induction j with
  | zero =>
    intro i s hj hi hs hu hR
    obtain rfl : i = m := by omega
    refine codeAny_builtin PyProof.Rows.F.entry_set_update_loop (by
      rw [Around.under_plainId PyProof.Rows.F.plain_set_update_loop _]
      exact (show wpAny _ A.in1 (pyNext (.ref it) >>= _) _ _ s from wpAny_bind (W.done s _ _ hs fun s' mv => (show wpAny _ A.in1 (ret Value.none) _ _ s' from wpAny_pure (hR s' (mv.mono more) (upto_keep hu (mv.heap T · nT)))))))
  | succ j ih =>
    intro i s hj hi hs hu hR
    have lt : i < m := by omega
    have lx : i < xs.length := by omega
    refine codeAny_builtin PyProof.Rows.F.entry_set_update_loop ?_
    rw [Around.under_plainId PyProof.Rows.F.plain_set_update_loop _]
    refine (show wpAny _ A.in1 (pyNext (.ref it) >>= _) _ _ s from wpAny_bind (W.item i s _ _ lt hs fun v s1 hv hs1 mv => ?_))
    obtain ⟨t, rfl⟩ := val i v hv
    refine (show wpAny _ A.in1 (holding [Value.str (xs.getD i Str.empty) t] (setAdd T (.str (xs.getD i Str.empty) t)) >>= _) _ _ s1 from wpAny_bind (wpAny_holding ?_))
    unfold setAdd
    refine wpAny_holding (wpAny_bind ((PySem.strKind prog w).pyHash (strKind_is _ _ (xs.getD i Str.empty) _) ?_))
    refine wpAny_setAddHashed_of (knd := PySem.strKind prog w) (s := { s1 with toks := s1.toks + 1 }) (strKind_is _ _ _ _) rfl (upto_keep hu (mv.heap T · nT)) (by omega) fun h2 same u2 => ?_
    have u3 : Upto prog w h2 T xs (i + 1) := SetOf_congr u2 (take_next lx) (by
      rw [take_no nd lx]
      rfl)
    refine wpAny_pure ⟨plainId_quiet PyProof.Rows.F.plain_set_update_loop _, ih (i + 1) _ (by omega) lt (W.frame _ s1 _ _ hs1 (Nat.le_succ _) fun b q o e => (same.2 b (fun z => hT (z ▸ q))).trans e) u3 fun s3 mv3 u4 => hR s3 (Moved.trans W.gtrans ((mv.mono more).then_heap (Nat.le_succ _) fun b o q e => (same.2 b (fun z => q (z ▸ List.mem_cons_self))).trans e) mv3) u4⟩
end
section
variable {prog : Program} {w : World} {A : Around} {E : Value → Shared → Prop} {s : Shared}
abbrev emptyS (led : Bool) : Obj := { cls := .type "set", dict := none, data := .set #[] 0 (.fresh 0 0 led) }
theorem set_texts {l : Addr} {its : Array Value} {xs : List Str} {Q : Value → Shared → Prop} (calm : A.handled = none) (hl : s.heap.IsTuple l its) (hx : StrsAre its.toList xs) (nd : xs.Nodup) (few : xs.length + 1 < scanBound)
    (h : ∀ (h' : Heap) (tk : Nat), Upto prog w h' s.heap.objs.size xs its.size → (∀ b o, b < s.heap.objs.size → s.heap.get? b = some o → h'.get? b = some o) → Q (.ref s.heap.objs.size) { s with heap := h', toks := tk }) :
    wpAny (model prog w) A (call (.type "set") [.ref l]) Q E s := by
  obtain ⟨cc, tl, hmro⟩ := PySem.F.called_set.mro
  have a1 := PySem.F.called_set.made; have a2 := PySem.F.called_set.sub; have a3 := PySem.F.called_set.notType; have a4 := PySem.F.called_set.canCreate; have a5 := PySem.F.typeCall_set_1 (.ref l)
  refine wpAny_call (codeAny_of_tree (show wpAny _ _ (callAny (.type "set") _) _ _ _ from wpAny_pure ⟨Code.quiet_builtin _ (by decide +kernel), codeAny_builtin PySem.F.entry_type_call ?_⟩))
  rw [Around.under_plain (weight_type_call_type "set" [.ref l] []) rfl]
  repeat (any_goals (first | assumption | wp_step))
  refine codeAny_mono (code_set_new_1 (.ref l) (E := E) (Q₁ := fun ob t1 => ∃ led : Bool, ob = .ref s.heap.objs.size ∧ t1 = { s with heap := s.heap.push (emptyS led) }) fun led => ⟨led, rfl, rfl⟩) fun r t1 hr => ?_
  match r, hr with
  | .error e, hr => exact hr
  | .ok .next, hr => exact hr.elim
  | .ok .brk, hr => exact hr.elim
  | .ok .cont, hr => exact hr.elim
  | .ok (.ret ob), hr =>
    obtain ⟨led, rfl, rfl⟩ := hr
    have g0 : (s.heap.push (emptyS led)).get? s.heap.objs.size = some (emptyS led) := Heap.get?_push_size _ rfl
    have ty : Shared.TypeIs { s with heap := s.heap.push (emptyS led) } (.ref s.heap.objs.size) "set" := ⟨_, g0, rfl⟩
    have b1 := PySem.F.called_set.init.lookup; have b2 := PySem.F.called_set.init.bind (.ref s.heap.objs.size)
    repeat (any_goals (first | assumption | wp_step))
    refine codeAny_mono (codeAny_call_builtin (R := wants (fun r t2 => r = .none ∧ ∃ h' tk, t2 = { s with heap := h', toks := tk } ∧ Upto prog w h' s.heap.objs.size xs its.size ∧ (∀ b o, b < s.heap.objs.size → s.heap.get? b = some o → h'.get? b = some o)) E) PySem.F.called_set.init.plain PySem.F.entry_set_init (check_set_init_1 ty ?_)) fun r2 t2 hr2 => ?_
    · obtain ⟨⟨oc, od, odat, osl⟩, ho, hc, nn, hd⟩ := hl
      dsimp only at hc hd
      subst hc hd
      have ho2 : (s.heap.push (emptyS led)).get? l = some { cls := .type "tuple", dict := od, data := .seq its nn, slots := osl } := Heap.get?_push_of_some _ ho
      have c1 := PySem.F.sub_tuple_set; have c2 := PySem.F.sub_tuple_frozenset; have c3 : (Value.type "tuple" == Value.type "dict") = false := by decide
      have tu : (s.heap.push (emptyS led)).IsTuple l its := ⟨_, ho2, rfl, nn, rfl⟩
      unfold Builtin.«set.__init__» noKeywords Builtin.Frozenset.updateFrom
      generalize hI : pyIter = PI
      wp_walk
      subst hI
      refine wpAny_pyIter_tuple tu (wpAny_bind (wpAny_runValue ?_))
      have ls : l < s.heap.objs.size := Heap.lt_size ho
      have sz : (s.heap.push (emptyS led)).objs.size = s.heap.objs.size + 1 := Heap.size_push _ _
      have len : xs.length = its.size := (StrsAre.len_eq hx).symm.trans Array.length_toList
      have calm3 : A.in1.in1.in1.handled = none := by simp [calm]
      refine each ((Walks.tuple calm3 _ l (by rw [sz]; exact Nat.ne_of_lt (Nat.lt_succ_of_lt ls)) its).toS) s.heap.objs.size (by
        rw [sz]
        simp only [List.mem_cons, List.not_mem_nil, or_false, not_or]
        exact ⟨Nat.ne_of_lt (Nat.lt_succ_self _), Nat.ne_of_gt ls⟩) xs len nd (by rw [← len]; exact few) (fun i v hv => SS.strs_at hx i v (by rw [Array.getElem?_toList]; exact hv)) (its.size - 0) 0 _ (by omega) (Nat.zero_le _) ⟨⟨_, Heap.get?_push_size _ rfl, rfl, rfl⟩, tu.push _⟩ ?_ ?_
      · exact SetOf_congr ((setObjOf_fresh (knd := PySem.strKind prog w) led).setOf (Heap.get?_push_of_some _ g0) (by unfold scanBound; omega)) (fun _ => rfl) rfl
      · rintro ⟨h2, g2, d2, tk2, os2⟩ mv u
        have e1 : g2 = s.gens := mv.gens
        have e2 : d2 = s.drawn := mv.drawn
        have e3 : os2 = s.os := mv.os
        subst e1 e2 e3
        refine (show wpAny _ _ _ _ _ _ from wpAny_pure (show wpAny _ _ (ret Value.none) _ _ _ from wpAny_pure ⟨rfl, h2, tk2, rfl, u, fun b o lt e => mv.heap b o ?_ (Heap.get?_push_of_some _ (Heap.get?_push_of_some _ e))⟩))
        rw [sz]
        simp only [List.mem_cons, List.not_mem_nil, or_false, not_or]
        exact ⟨Nat.ne_of_lt lt, Nat.ne_of_lt (Nat.lt_succ_of_lt lt)⟩
    · match r2, hr2 with
      | .error e, hr2 => exact hr2
      | .ok .next, hr2 => exact hr2.elim
      | .ok .brk, hr2 => exact hr2.elim
      | .ok .cont, hr2 => exact hr2.elim
      | .ok (.ret r), hr2 =>
        obtain ⟨rfl, h2, tk2, rfl, u, kp⟩ := hr2
        repeat (any_goals (first | assumption | wp_step))
        exact h _ _ u kp
end
end GB
namespace GL
open PySem PySem.Spec PyProof.Rows L2
def tLenSetT (K : PySem.W.Frag) (ta : TE) : TE := fun σ H Q => ta σ H fun x H1 => ∃ (l : Addr) (xs : List Str), x = .ref l ∧ SqT K H1 l (xs.map V.str) ∧ xs.Nodup ∧ xs.length ≤ 1000 ∧ Q (.int (xs.length : Nat)) H1
theorem pe_lenSetT {X : Cx} {a : Expr} {ta : TE} {p p2 q pos : Pos} (hg : Gl X "len") (hm : X.mg "len" = none) (hg2 : Gl X "set") (hm2 : X.mg "set" = none) (ha : PE X a ta) (hc : X.calm = true := by rfl)
    (na : starEach [a] X.env = (false, eval a X.env) :: starEach [] X.env := by rfl) : PE X (.Call (.Name "len" p) [.Call (.Name "set" p2) [a] [] q] [] pos) (tLenSetT X.K ta) := by
  constructor
  intro pins s σ H Q I h
  refine Call_ (ld_blt I hg hm boot_len (callWith_builtin1 (args_cons (Call_ (ld_blt I hg2 hm2 boot_set (callWith_type1 (args_cons (thn (ha.run pins s σ H _ I h) fun v s1 hh => args_nil ?_) na) na rfl))) rfl) rfl rfl))
  obtain ⟨x, H1, I1, r1, l, xs, rfl, hq, nd, few, q1⟩ := hh
  cases r1
  obtain ⟨its, r, pl, hz⟩ := I1.tuple hq
  have len : its.toArray.size = xs.length := by rw [List.size_toArray, ← r.length, List.length_map]
  refine GB.set_texts (I1.ok.hd hc) pl (by simpa using strsAre_of r) nd (by unfold scanBound; omega) fun h' tk u kp => args_nil ?_
  rw [len] at u
  obtain ⟨o, es, ep, t, ho, hex, hd, _, _, _, hf, hn⟩ := u
  have I2 : Inv X pins σ H1 { s1 with heap := h', toks := tk } := I1.kept fun b o e => kp b o (Heap.lt_size e) e
  exact call_len_set ho hex hd hf (by rw [hn] <;> omega) ⟨.int xs.length, H1, I2.tok _, ⟨_, by rw [hn]⟩, q1⟩
/-! ### t in ts, data of any depth, ts a tuple -/
def rInDT (K : PySem.W.Frag) : R2 := fun x y H Q => ∃ d ds, Dp K H x d ∧ Dp K H y (.tuple ds) ∧ SeqAt.shaped d = true ∧ SeqAt.shaped (.tuple ds) = true ∧ Q (.bl (ds.any fun z => PyData.eqv z d)) H
theorem op_inDT {X : Cx} (hu : X.A.units + 65 < cLine) : OpR X (compareOp .In) (rInDT X.K) := by
  intro pins s σ H x y v u Q I rx ry h
  obtain ⟨d, ds, hd, he, sd, se, q⟩ := h
  obtain ⟨as, r1⟩ := Dp.reads I d x v hd rx
  obtain ⟨bs, r2⟩ := Dp.reads I (.tuple ds) y u he ry
  exact SeqAt.in_tuple_reads r2 r1 (SeqAt.canLay_of_shaped se) (SeqAt.canLay_of_shaped sd) (room_in_shaped sd hu) ⟨.bl _, H, I, rfl, q⟩
end GL
/-! x == o: x of a kind of Python's, o of an own class: o is asked -/
namespace PySem
end PySem
namespace GL
open PySem PySem.Spec PyProof.Rows L2
/-- no kind of Python's that is asked for -/
structure Own (K : PySem.W.Frag) (C : Addr) : Prop where
  ls : PySem.W.subIn K (.ref C) (.type "list") = some false
  tp : PySem.W.subIn K (.ref C) (.type "tuple") = some false
  dc : PySem.W.subIn K (.ref C) (.type "dict") = some false
  st : PySem.W.subIn K (.ref C) (.type "str") = some false
  bo : PySem.W.subIn K (.ref C) (.type "bool") = some false
  no : PySem.W.subIn K (.ref C) (.type "NoneType") = some false
end GL
namespace GL
open PySem PySem.Spec PyProof.Rows L2
theorem roomV {k : Nat} {A : Around} (h : Room k A) : A.units + 66 < cLine := by
  have := h.un
  omega
theorem roomW {k : Nat} {A : Around} (h : Room k A) : A.units + 65 < cLine := by
  have := h.un
  omega
/-! ### != of two dicts -/
end GL
/-! ### tuples that are told with their object: no dict of their own -/
namespace GL
open PySem PySem.Spec PyProof.Rows L2
/-- a tuple's object as it is made -/
def Bare (o : Obj) : Prop := o.dict = none ∧ o.cls = .type "tuple"
/-- a display -/
def tTupX (t : TA) : TE := fun σ H Q => t σ H fun xs H1 => xs.length ≤ sizeLine ∧ ∀ p o, H1 p = none → Bare o → Q (.ref p) (upd H1 p (.frz o (.tup xs)))
section
variable {X : Cx} {es : List Expr} {t : TA} {pos : Pos} {pins : List (Addr × Obj)} {σ : L2.St} {H : Hp} {s : Shared}
theorem bare_laid {xs : List V} {us : List Value} (I : Inv X pins σ H s) (r : Vals xs us) (z : xs.length ≤ sizeLine) : Inv X pins σ (upd H s.heap.objs.size (.frz { cls := .type "tuple", data := .seq us.toArray } (.tup xs))) { s with heap := s.heap.push { cls := .type "tuple", data := .seq us.toArray } } :=
  I.laid (t' := s.toks) (fun b u e => Heap.get?_push_of_some _ e) (Nat.le_refl _) ⟨Heap.get?_push_size _ rfl, z, us, r, ⟨_, Heap.get?_push_size _ rfl, rfl, _, rfl⟩⟩
theorem pe_tupX {x1} (h : PA X es t) : PE X (.Tuple es x1 pos) (tTupX t) := by
  constructor
  intro pins s σ H Q I hq
  refine wpAny_Tuple_spliced (thn (h.run pos pins s σ H _ I hq) fun us s1 ⟨xs, H1, I1, r, z, q⟩ => ⟨by rw [← r.length]; exact z, ?_⟩)
  exact ⟨.ref s1.heap.objs.size, _, bare_laid I1 r z, rfl, q _ _ (I1.hok.fresh (Nat.le_refl _)) ⟨rfl, rfl⟩⟩
/-- t + u -/
def rCatX (K : PySem.W.Frag) : R2 := fun x y H Q => ∃ a b xs ys, x = .ref a ∧ y = .ref b ∧ SqT K H a xs ∧ SqT K H b ys ∧ xs.length + ys.length ≤ sizeLine ∧ ys ≠ [] ∧
  (xs = [] → Q (.ref b) H) ∧ (xs ≠ [] → ∀ p o, H p = none → Bare o → Q (.ref p) (upd H p (.frz o (.tup (xs ++ ys)))))
theorem op_catX : OpR X (binaryOp .Add) (rCatX X.K) := by
  intro pins s σ H x y v u Q I rx ry h
  obtain ⟨a, b, xs, ys, rfl, rfl, ha, hb, hz, ne, q0, q1⟩ := h
  cases rx
  cases ry
  obtain ⟨its, r1, p1, _⟩ := I.tuple ha
  obtain ⟨its2, r2, p2, _⟩ := I.tuple hb
  by_cases hx : xs = []
  · subst hx
    cases r1
    exact cat_tup0 p1 p2 ⟨.ref b, H, I, rfl, q0 rfl⟩
  · refine HT.cat_tup p1 p2 (fun z => hx (r1.nil_iff.mp z)) (fun z => absurd (r2.nil_iff.mp z) ne) (fun z => ?_) (by rw [← r1.length, ← r2.length]; exact hz)
    exact ⟨.ref s.heap.objs.size, _, bare_laid I (r1.append r2) (by rw [List.length_append]; exact hz), rfl, q1 hx _ _ (I.hok.fresh (Nat.le_refl _)) ⟨rfl, rfl⟩⟩
/-- at a a tuple without a dict of its own -/
def Tpl (K : PySem.W.Frag) (H : Hp) (a : Addr) : Prop := (∃ o u, H a = some (.frz o u) ∧ Bare o) ∨ ∃ o, K.lookup a = some o ∧ Bare o
/-- t.m(e, ..), t such a tuple -/
def tBMX (K : PySem.W.Frag) (r : V → List V → Hp → VK → Prop) (to : TE) (t : TA) : TE := fun σ H Q => to σ H fun x H1 => (∃ a, x = .ref a ∧ Tpl K H1 a) ∧ t σ H1 fun xs H2 => r x xs H2 Q
theorem pe_bmX {o e : Expr} {to : TE} {name : Str} {apos cpos : Pos} {id : String} {r : V → List V → Hp → VK → Prop} (slot : Slot "tuple" name id) (hty : typeOf (.builtin id) = pure (.type "method_descriptor")) (hm : MtR X id r) (ho : PE X o to) (ha : PA X (e :: es) t)
    (hbase : attributeBase o name X.env (eval o X.env) = eval o X.env := by rfl)
    (few : ((backTo cpos (starEach (e :: es) X.env)).all (fun x => !x.1) && (backToKw cpos (keywordEach [] X.env)).all (fun x => x.1.isSome) && decide ((e :: es).length + ([] : List Keyword).length + (if ([] : List Keyword).isEmpty then 0 else 1) < 30)) = true := by rfl)
    (hline : (apos.endLine == cpos.line) = true := by rfl) (hs : starEach (e :: es) X.env = (false, eval e X.env) :: starEach es X.env := by rfl) (hplain : (backTo cpos (starEach es X.env)).any (·.1) = false := by rfl) :
    PE X (.Call (.Attribute o name apos) (e :: es) [] cpos) (tBMX X.K r to t) := by
  constructor
  intro pins s σ H Q I h
  refine wpAny_Call_method_late hbase few hline rfl (thn (ho.run pins s σ H _ I h) fun v s1 ⟨x, H1, I1, r1, ⟨a, ea, tp⟩, q1⟩ => ?_)
  subst ea
  cases (show v = Value.ref a from r1)
  have ob : ∃ ob, s1.heap.get? a = some ob ∧ Bare ob := by
    rcases tp with ⟨o, u, e, b⟩ | ⟨o, e, b⟩
    · exact ⟨o, (I1.hok a _ e).1, b⟩
    · exact ⟨o, I1.kIn a o e, b⟩
  obtain ⟨ob, e1, b1, b2⟩ := ob
  refine ⟨"tuple", id, PySem.F.plainAttrs_tuple, slot, hty, ⟨ob, e1, b2⟩, fun c ec => ?_, ?_⟩
  · cases ec
    exact ⟨ob, e1, b1⟩
  have hA := ha.run cpos pins s1 σ H1 _ I1 q1
  rw [hs] at hA ⊢
  refine Calls.callWith_builtin (by show (false || (backTo cpos (starEach es X.env)).any (·.1)) = false; rw [hplain] <;> rfl) (Calls.evalArgs_plain ?_)
  exact thn hA fun us s2 ⟨vs, H2, I2, r2, q2⟩ => hm pins s2 σ H2 (.ref a) vs (.ref a) us Q I2 rfl r2 q2
end
end GL
namespace My
open PySem PySem.Spec PyProof.Rows L2 GL
/-! ### words, rows, rules: no Python here -/
inductive Wd where
  | look | add | tri | live | home | off | fin | set | both | take | give | move | lift | settle | undo | leave | wait
deriving DecidableEq
def Wd.s : Wd → Str
  | .look => "look" | .add => "add" | .tri => "try" | .live => "live" | .home => "home" | .off => "off" | .fin => "end" | .set => "set" | .both => "both"
  | .take => "take" | .give => "give" | .move => "move" | .lift => "lift" | .settle => "settle" | .undo => "undo" | .leave => "leave" | .wait => "wait"
def Wd.n : Wd → Nat
  | .look => 0 | .add => 1 | .tri => 2 | .live => 3 | .home => 4 | .off => 5 | .fin => 6 | .set => 7 | .both => 8
  | .take => 9 | .give => 10 | .move => 11 | .lift => 12 | .settle => 13 | .undo => 14 | .leave => 15 | .wait => 16
def allW : List Wd := [.look, .add, .tri, .live, .home, .off, .fin, .set, .both, .take, .give, .move, .lift, .settle, .undo, .leave, .wait]
theorem allW_mem (w : Wd) : w ∈ allW := by cases w <;> decide
theorem Wd.inj {a b : Wd} (h : a.s = b.s) : a = b := by
  have go : (allW.all fun a => allW.all fun b => decide (a.s = b.s → a = b)) = true := by decide +kernel
  have h1 := List.all_eq_true.mp (List.all_eq_true.mp go a (allW_mem a)) b (allW_mem b)
  exact of_decide_eq_true h1 h
theorem Wd.len (w : Wd) : w.s.length ≤ 6 := by cases w <;> decide +kernel
abbrev wV (w : Wd) : V := .str w.s
theorem wV_eq (a b : Wd) : decide (wV a = wV b) = decide (a = b) := by
  by_cases e : a = b
  · rw [e, decide_eq_true rfl, decide_eq_true rfl]
  · rw [decide_eq_false e, decide_eq_false fun q => e (Wd.inj (V.str.inj q))]
theorem inV_w (a : Wd) : ∀ l : List Wd, inV (wV a) (l.map wV) = decide (a ∈ l)
  | [] => rfl
  | b :: l => by
    have ih := inV_w a l
    show ((b.s == a.s) || inV (wV a) (l.map wV)) = decide (a ∈ b :: l)
    rw [ih]
    by_cases e : a = b
    · subst e
      simp
    · have z : (b.s == a.s) = false := beq_eq_false_iff_ne.mpr fun q => e (Wd.inj q).symm
      rw [z, Bool.false_or]
      by_cases m : a ∈ l
      · rw [decide_eq_true m, decide_eq_true (List.mem_cons_of_mem _ m)]
      · rw [decide_eq_false m, decide_eq_false fun q => (List.mem_cons.mp q).elim e m]
theorem flat_w (l : List Wd) : (l.map wV).all flatV = true := by
  rw [List.all_eq_true]
  intro x hx
  obtain ⟨n, _, rfl⟩ := List.mem_map.mp hx
  rfl
theorem wV_strs (l : List Wd) : l.map wV = (l.map Wd.s).map V.str := by
  rw [List.map_map]
  rfl
theorem nodup_s {l : List Wd} (h : l.Nodup) : (l.map Wd.s).Nodup := by
  induction l with
  | nil => exact List.nodup_nil
  | cons a l ih =>
    rw [List.nodup_cons] at h
    rw [List.map_cons, List.nodup_cons]
    refine ⟨fun q => ?_, ih h.2⟩
    obtain ⟨b, hb, e⟩ := List.mem_map.mp q
    exact h.1 (Wd.inj e ▸ hb)
theorem at_w {l : List Wd} {i : Nat} {w : Wd} (h : l[i]? = some w) : (l.map wV)[i]? = some (wV w) := by
  rw [List.getElem?_map, h]
  rfl
/-! rows as the program looks at them -/
abbrev Rw := List Wd
def pTA (us : Rw) (w : Wd) : Bool := if w ∈ us then !decide (Wd.look ∈ us.drop (us.idxOf w)) && !decide (Wd.tri ∈ us.drop (us.idxOf w)) else true
def pOH (us : Rw) : Bool := !decide (Wd.off ∈ us) || decide (Wd.home ∈ us.take (us.idxOf .off))
def pW (us ws : Rw) : Bool := us.all fun w => decide (w ∈ ws)
def pTake (us : Rw) : Bool := pW us [.live, .tri, .add, .look] && decide (Wd.live ∈ us) && if Wd.tri ∈ us then decide (us = [.tri, .live]) else decide (Wd.add ∈ us) && pTA us .live
def pGive (us : Rw) : Bool := pW us [.fin, .home, .off] && decide (Wd.fin ∈ us) && pOH us
def pMove (us : Rw) : Bool := pW us [.set, .home, .add, .look, .tri, .off] && (decide (us = []) || (!(!decide (Wd.set ∈ us) || decide (Wd.tri ∈ us) && (decide (Wd.add ∈ us) || decide (Wd.look ∈ us))) && (pOH us && pTA us .set && pTA us .off)))
def liftRows : List Rw := [[], [.set], [.off], [.set, .off], [.off, .set], [.both]]
def pLift (us : Rw) : Bool := pW us [.set, .off, .both] && decide (us ∈ liftRows)
def pRow : Wd → Rw → Bool
  | .take => pTake
  | .give => pGive
  | .move => pMove
  | _ => pLift
def pBatch (us : Rw) (n : Nat) : Bool := decide (n = 1) || decide (us.getLast? = some .live)
def pShared (us : Rw) (b : Bool) : Bool := b || decide (us = []) || decide (us.head? = some .home)
/-! rows as the law has them -/
def lAhead (us : Rw) (a b : Wd) : Bool := !decide (a ∈ us) || !decide (b ∈ us) || decide (us.idxOf a < us.idxOf b)
def lTake (us : Rw) (n : Nat) : Bool := !(!decide (Wd.live ∈ us) || (decide (Wd.tri ∈ us) == decide (Wd.add ∈ us)) || decide (Wd.tri ∈ us) && decide (Wd.look ∈ us)) && (!(decide (n > 1) && !decide (us.getLast? = some .live)) && (lAhead us .look .live && lAhead us .tri .live))
def lGive (us : Rw) : Bool := decide (Wd.fin ∈ us) && (!decide (Wd.off ∈ us) || decide (Wd.home ∈ us) && lAhead us .home .off)
def lMoveA (us : Rw) : Bool := (lAhead us .look .set && lAhead us .look .off) && (lAhead us .tri .set && lAhead us .tri .off)
def lMove (us : Rw) (b : Bool) : Bool := decide (us = []) || (!(!decide (Wd.set ∈ us) || decide (Wd.tri ∈ us) && (decide (Wd.add ∈ us) || decide (Wd.look ∈ us))) && (!(decide (Wd.off ∈ us) && (!decide (Wd.home ∈ us) || !lAhead us .home .off)) && (!(!b && !decide (us.head? = some .home)) && lMoveA us)))
def ext (ws : Rw) (us : Rw) : List Rw := (ws.filter fun w => !decide (w ∈ us)).map fun w => us ++ [w]
def grow (ws : Rw) : Nat → List Rw
  | 0 => [[]]
  | n + 1 => (grow ws n).flatMap (ext ws)
def found (ws : Rw) : Nat → List Rw
  | 0 => [[]]
  | n + 1 => found ws n ++ grow ws (n + 1)
def seqs (ws : Rw) : List Rw := found ws ws.length
def takeWs : Rw := [.look, .add, .tri, .live]
def giveWs : Rw := [.home, .off, .fin]
def moveWs : Rw := [.home, .look, .add, .tri, .set, .off]
def takes (n : Nat) : List Rw := (seqs takeWs).filter fun us => lTake us n
def gives : List Rw := (seqs giveWs).filter lGive
def moves (b : Bool) : List Rw := (seqs moveWs).filter fun us => lMove us b
theorem seqs_nd (ws : Rw) (hw : ws ∈ [takeWs, giveWs, moveWs]) : ∀ us ∈ seqs ws, us.Nodup ∧ us.length ≤ 6 := by
  have go : ([takeWs, giveWs, moveWs].all fun ws => (seqs ws).all fun us => decide us.Nodup && decide (us.length ≤ 6)) = true := by decide +kernel
  intro us hu
  have h := List.all_eq_true.mp (List.all_eq_true.mp go ws hw) us hu
  rw [Bool.and_eq_true] at h
  exact ⟨of_decide_eq_true h.1, of_decide_eq_true h.2⟩
theorem lTake_n {us : Rw} {n : Nat} (hn : 1 < n) : lTake us n = lTake us 2 := by
  unfold lTake
  rw [decide_eq_true (show n > 1 from hn)]
  rfl
theorem lTake_1 {us : Rw} {n : Nat} (hn : ¬ 1 < n) : lTake us n = lTake us 1 := by
  unfold lTake
  rw [decide_eq_false (show ¬ n > 1 from hn)]
  rfl
structure RowOk (us : Rw) : Prop where
  nd : us.Nodup
  ln : us.length ≤ 6
theorem take_ok {us : Rw} {n : Nat} (h1n : 1 ≤ n) (h : us ∈ takes n) : RowOk us ∧ pTake us = true ∧ pBatch us n = true := by
  obtain ⟨h1, h2⟩ := List.mem_filter.mp h
  have nd := seqs_nd takeWs (by decide) us h1
  have go : ((seqs takeWs).all fun us => (!lTake us 2 || (pTake us && decide (us.getLast? = some .live))) && (!lTake us 1 || pTake us)) = true := by decide +kernel
  have g := List.all_eq_true.mp go us h1
  rw [Bool.and_eq_true] at g
  refine ⟨⟨nd.1, nd.2⟩, ?_⟩
  by_cases hn : 1 < n
  · rw [lTake_n hn] at h2
    rw [h2, Bool.not_true, Bool.false_or, Bool.and_eq_true] at g
    refine ⟨g.1.1, ?_⟩
    unfold pBatch
    rw [g.1.2, Bool.or_true]
  · rw [lTake_1 hn] at h2
    rw [h2, Bool.not_true, Bool.false_or] at g
    refine ⟨g.2, ?_⟩
    unfold pBatch
    rw [decide_eq_true (show n = 1 by omega), Bool.true_or]
theorem give_ok {us : Rw} (h : us ∈ gives) : RowOk us ∧ pGive us = true := by
  obtain ⟨h1, h2⟩ := List.mem_filter.mp h
  have nd := seqs_nd giveWs (by decide) us h1
  have go : ((seqs giveWs).all fun us => !lGive us || pGive us) = true := by decide +kernel
  have g := List.all_eq_true.mp go us h1
  rw [h2, Bool.not_true, Bool.false_or] at g
  exact ⟨⟨nd.1, nd.2⟩, g⟩
theorem move_ok {us : Rw} {b : Bool} (h : us ∈ moves b) : RowOk us ∧ pMove us = true ∧ pShared us b = true := by
  obtain ⟨h1, h2⟩ := List.mem_filter.mp h
  have nd := seqs_nd moveWs (by decide) us h1
  have go : ([true, false].all fun b => (seqs moveWs).all fun us => !lMove us b || (pMove us && pShared us b)) = true := by decide +kernel
  have g := List.all_eq_true.mp (List.all_eq_true.mp go b (by cases b <;> decide)) us h1
  rw [h2, Bool.not_true, Bool.false_or, Bool.and_eq_true] at g
  exact ⟨⟨nd.1, nd.2⟩, g.1, g.2⟩
theorem lift_ok {us : Rw} (h : us ∈ liftRows) : RowOk us ∧ pLift us = true := by
  have go : (liftRows.all fun us => decide us.Nodup && decide (us.length ≤ 6) && pLift us) = true := by decide +kernel
  have g := List.all_eq_true.mp go us h
  rw [Bool.and_eq_true, Bool.and_eq_true] at g
  exact ⟨⟨of_decide_eq_true g.1.1, of_decide_eq_true g.1.2⟩, g.2⟩
theorem takes_ne (n : Nat) : takes n ≠ [] := by
  have go : ((seqs takeWs).filter fun us => lTake us 2) ≠ [] ∧ ((seqs takeWs).filter fun us => lTake us 1) ≠ [] := by decide +kernel
  unfold takes
  by_cases h : 1 < n
  · rw [show (fun us => lTake us n) = fun us => lTake us 2 from funext fun us => lTake_n h]
    exact go.1
  · rw [show (fun us => lTake us n) = fun us => lTake us 1 from funext fun us => lTake_1 h]
    exact go.2
theorem gives_ne : gives ≠ [] := by decide +kernel
/-! rules of a book -/
inductive Pt where
  | take | give | move | lift | fails | shared | holds | batch | settles
deriving DecidableEq
def Pt.s : Pt → Str
  | .take => "take" | .give => "give" | .move => "move" | .lift => "lift" | .fails => "fails" | .shared => "shared" | .holds => "holds" | .batch => "batch" | .settles => "settles"
def allP : List Pt := [.take, .give, .move, .lift, .fails, .shared, .holds, .batch, .settles]
theorem allP_mem (p : Pt) : p ∈ allP := by cases p <;> decide
theorem Pt.inj {a b : Pt} (h : a.s = b.s) : a = b := by
  have go : (allP.all fun a => allP.all fun b => decide (a.s = b.s → a = b)) = true := by decide +kernel
  exact of_decide_eq_true (List.all_eq_true.mp (List.all_eq_true.mp go a (allP_mem a)) b (allP_mem b)) h
inductive Pv where
  | row (us : Rw) | hold (us : Rw) | wd (w : Wd) | bl (b : Bool) | int (n : Nat)
deriving DecidableEq
structure Ru where
  take : Rw
  give : Rw
  move : Rw
  lift : Rw
  fails : Wd
  shared : Bool
  holds : Rw
  batch : Nat
  settles : Bool
deriving DecidableEq
def Ru.get (r : Ru) : Pt → Pv
  | .take => .row r.take | .give => .row r.give | .move => .row r.move | .lift => .row r.lift | .fails => .wd r.fails | .shared => .bl r.shared | .holds => .hold r.holds | .batch => .int r.batch | .settles => .bl r.settles
/-- r with the part p of l -/
def Ru.upd (r l : Ru) : Pt → Ru
  | .take => { r with take := l.take } | .give => { r with give := l.give } | .move => { r with move := l.move } | .lift => { r with lift := l.lift } | .fails => { r with fails := l.fails }
  | .shared => { r with shared := l.shared } | .holds => { r with holds := l.holds } | .batch => { r with batch := l.batch } | .settles => { r with settles := l.settles }
theorem Ru.get_upd (r l : Ru) (p q : Pt) : (r.upd l p).get q = if q = p then l.get q else r.get q := by cases p <;> cases q <;> rfl
theorem Ru.ext_get {r l : Ru} (h : ∀ p, r.get p = l.get p) : r = l := by
  cases r
  cases l
  have h1 := Pv.row.inj (h .take); have h2 := Pv.row.inj (h .give); have h3 := Pv.row.inj (h .move); have h4 := Pv.row.inj (h .lift); have h5 := Pv.wd.inj (h .fails)
  have h6 := Pv.bl.inj (h .shared); have h7 := Pv.hold.inj (h .holds); have h8 := Pv.int.inj (h .batch); have h9 := Pv.bl.inj (h .settles)
  dsimp only at h1 h2 h3 h4 h5 h6 h7 h8 h9
  subst h1 h2 h3 h4 h5 h6 h7 h8 h9
  rfl
def kindRows : Rw := [.take, .give, .move, .lift]
def failWs : Rw := [.undo, .leave, .wait]
/-- rules that a book can have; holds stand in their sequence -/
structure Ok (r : Ru) : Prop where
  t : RowOk r.take ∧ pTake r.take = true ∧ pBatch r.take r.batch = true
  g : RowOk r.give ∧ pGive r.give = true
  m : RowOk r.move ∧ pMove r.move = true ∧ pShared r.move r.shared = true
  l : RowOk r.lift ∧ pLift r.lift = true
  f : r.fails ∈ failWs
  h : r.holds.Sublist kindRows
  b : 1 ≤ r.batch ∧ r.batch ≤ 50
theorem kinds_nd : kindRows.Nodup := by decide
theorem holds_nd {hs : Rw} (h : hs.Sublist kindRows) : hs.Nodup := h.nodup kinds_nd
theorem holds_ln {hs : Rw} (h : hs.Sublist kindRows) : hs.length ≤ 4 := h.length_le
theorem holds_sorted {hs : Rw} (h : hs.Sublist kindRows) : kindRows.filter (fun k => decide (k ∈ hs)) = hs := by
  have go : ∀ {ks hs : Rw}, hs.Sublist ks → ks.Nodup → ks.filter (fun k => decide (k ∈ hs)) = hs := by
    intro ks
    induction ks with
    | nil =>
      intro hs h _
      cases h
      rfl
    | cons k ks ih =>
      intro hs h nd
      rw [List.nodup_cons] at nd
      cases h with
      | cons _ h =>
        rw [List.filter_cons_of_neg (by simpa using fun q => nd.1 (h.subset q))]
        exact ih h nd.2
      | @cons_cons l1 _ _ h =>
        rw [List.filter_cons_of_pos (by simp)]
        congr 1
        rw [← ih h nd.2]
        refine List.filter_congr fun x hx => ?_
        have nx : x ≠ k := fun e => nd.1 (e ▸ hx)
        rw [ih h nd.2]
        simp [nx]
  exact go h kinds_nd
end My
namespace My
open PySem PySem.Spec PyProof.Rows L2 GL Evl StX SkE
section
variable {K : PySem.W.Frag} {σ : L2.St} {H : Hp} {te : TE} {x y v : V} {r : R2}
theorem rc_isi {u t : Value} {b : Bool} {c : V} (k : ClsV c u) (ty : ∀ H1, TyX K H1 x t) (h : PySem.W.kitOne K t u = some b) : RC (rIsi K) [x, c] H (.bl b) := fun H1 e Q q => ⟨x, c, t, u, b, rfl, k, ty H1, h, q H1 (Ex.refl H1)⟩
theorem rv_bl {a b : Bool} (h : RV r x y H (.bl a)) (e : a = b) : RV r x y H (.bl b) := by
  rw [← e]
  exact h
end
abbrev nV (n : Nat) : V := .int (n : Int)
theorem nV_eq (a b : Nat) : decide (nV a = nV b) = decide (a = b) := by
  by_cases e : a = b
  · subst e
    rw [decide_eq_true rfl, decide_eq_true rfl]
  · have z : ¬ nV a = nV b := fun q => e (by have := V.int.inj q; omega)
    rw [decide_eq_false z, decide_eq_false e]
section
variable {K : PySem.W.Frag} {σ : L2.St} {H H' : Hp} {ta tb te : TE} {t u : TT} {x y z v : V} {C : Addr}
theorem ev_fld {p dx : Addr} {fs : List (Str × V)} {f : Str} (ha : Ev ta σ H (.ref p)) (h : H p = some (.ins C dx fs)) (c : Cls K C) (n : NoAttr K C f) (l : fs.lookup f = some v) : Ev (tFld K ta f) σ H v :=
  fun H1 e Q q => ha H1 e _ fun H2 e2 => ⟨p, C, dx, fs, v, rfl, e2 _ _ (e _ _ h), c, n, l, q H2 e2⟩
theorem ev_chain {r r' : R2} {tc : TE} {w : V} {b c : Bool} (ha : Ev ta σ H x) (hb : Ev tb σ H y) (hr : RV r x y H (.bl b)) (hc : b = true → Ev tc σ H w) (hr' : b = true → RV r' y w H (.bl c)) : Ev (tChain r r' ta tb tc) σ H (.bl (b && c)) := fun H1 e Q q =>
  ha H1 e _ fun H2 e2 => hb H2 (e.trans e2) _ fun H3 e3 => hr H3 ((e.trans e2).trans e3) _ fun H4 e4 => ⟨b, rfl, by
    have f4 := (e2.trans e3).trans e4
    cases b with
    | false => exact q H4 f4
    | true => exact hc rfl H4 (e.trans f4) _ fun H5 e5 => hr' rfl H5 ((e.trans f4).trans e5) Q fun H6 e6 => q H6 ((f4.trans e5).trans e6)⟩
end
def ExB (a : Addr) (H H' : Hp) : Prop := ∀ b o, b ≠ a → H b = some o → H' b = some o
theorem ExB.of {a : Addr} {H H' : Hp} (e : Ex H H') : ExB a H H' := fun b o _ h => e b o h
theorem ExB.refl (a : Addr) (H : Hp) : ExB a H H := fun _ _ _ h => h
theorem ExB.trans {a : Addr} {H H1 H2 : Hp} (x : ExB a H H1) (y : ExB a H1 H2) : ExB a H H2 := fun b o n h => y b o n (x b o n h)
theorem ExB.set {a : Addr} {H : Hp} {o : HO} : ExB a H (upd H a o) := fun b u n h => by
  rw [upd_ne n]
  exact h
theorem ExB.mut {a b : Addr} {H H' : Hp} {o : HO} (e : ExB a H H') (h : H b = none) : ExB a H (upd H' b o) := fun c u n hc => by
  rw [upd_ne (ne_of_none hc h)]
  exact e c u n hc
theorem ExB.free {a : Addr} {H H' : Hp} {p : Addr} {o : HO} (e : ExB a H H') (ha : H' a = some o) (h : H' p = none) : H p = none := by
  cases q : H p with
  | none => rfl
  | some u =>
    have n : p ≠ a := fun z => by rw [z, ha] at h; cases h
    rw [e p u n q] at h
    cases h
theorem ExB.all {a : Addr} {H0 H H' : Hp} (e0 : Ex H0 H) (h : H0 a = none) (e : ExB a H H') : Ex H0 H' := fun b o hb => e b o (ne_of_none hb h) (e0 b o hb)
def PotAt (H : Hp) (a : Addr) : Prop := ∃ x y : Int, H a = some (.lst [.int x, .int y]) ∧ 0 ≤ x ∧ 0 ≤ y ∧ y < 2147483600
theorem PotAt.ex {H H' : Hp} {a : Addr} (h : PotAt H a) (e : Ex H H') : PotAt H' a := by
  obtain ⟨x, y, h1, h2⟩ := h
  exact ⟨x, y, e _ _ h1, h2⟩
theorem PotAt.exB {H H' : Hp} {a b : Addr} (h : PotAt H a) (e : ExB b H H') (n : a ≠ b) : PotAt H' a := by
  obtain ⟨x, y, h1, h2⟩ := h
  exact ⟨x, y, e _ _ n h1, h2⟩
def sp_Lpot (K : PySem.W.Frag) : Sp := fun vs H Q _ => ∃ (a : Addr) (ns : List Int) (k : Nat), vs = [.ref a, .int (k : Int)] ∧ SqL K H a (ns.map V.int) ∧ ns.length ≤ 63 ∧ k < 3 ∧ ∀ H' p, H p = none → Ex H H' → PotAt H' p → Q (.ref p) H'
def sp_Ldraw : Sp := fun vs H Q _ => ∃ a, ∃ n : Nat, vs = [.ref a, nV n] ∧ PotAt H a ∧ 1 ≤ n ∧ n ≤ 1000 ∧ ∀ H' (d : Nat), ExB a H H' → PotAt H' a → d < n → Q (nV d) H'
theorem ev_raw {te : TE} {σ : L2.St} {H : Hp} {v : V} {Q : VK} (h : Ev te σ H v) (k : ∀ H1, Ex H H1 → Q v H1) : te σ H Q := h H (Ex.refl H) Q k
theorem cb_raw {r : List V → Hp → VK → Prop} {ta : TA} {σ : L2.St} {H : Hp} {vs : List V} {Q : VK} (h : EvA ta σ H vs) (k : ∀ H1, Ex H H1 → r vs H1 Q) : tCB r ta σ H Q := h H (Ex.refl H) _ k
theorem q_asgR {te : TE} {g : TG} {tz : TS} {D : Ends} {σ : L2.St} {H : Hp} (h : te σ H fun x H1 => g x σ H1 (tz D)) : tSeq (tAsg te g) tz D σ H := h
theorem s_retR {te : TE} {D : Ends} {σ : L2.St} {H : Hp} (h : te σ H D.rt) : tRet te D σ H := h
theorem no_pylong {x : Int} {n : Nat} (h : n ≤ 1000) : Builtin.divisionGoesByPylong x (n : Int) = false := by
  have hl : n.log2 < 10 := by
    by_cases e : n = 0
    · subst e
      decide
    · exact (Nat.log2_lt e).mpr (by omega)
  have hd : ¬ ((if ((n : Int) == 0) = true then 0 else (n : Int).natAbs.log2 / 30 + 1) > 300) := by
    rw [Int.natAbs_natCast]
    split <;> omega
  show (decide ((if ((n : Int) == 0) = true then 0 else (n : Int).natAbs.log2 / 30 + 1) > 300) && _) = false
  rw [decide_eq_false hd, Bool.false_and]
section
variable {K : PySem.W.Frag} {H : Hp}
theorem rc_lenL {a : Addr} {xs : List V} (h : SqL K H a xs) : RC (rLenS K) [.ref a] H (.int (xs.length : Int)) := fun H1 e Q q => ⟨a, xs, rfl, .inl (ex_l e h), q H1 (Ex.refl H1)⟩
theorem rc_max2 {i j : Int} : RC rMax2 [.int i, .int j] H (.int (if j > i then j else i)) := fun H1 _ Q q => ⟨i, j, rfl, q H1 (Ex.refl H1)⟩
theorem rc_int {i : Int} : RC (fun xs H Q => (∃ i, xs = [V.int i] ∧ Q (.int i) H) ∨ ∃ k, xs = [V.bl k] ∧ Q (.int (if k then 1 else 0)) H) [.int i] H (.int i) := fun H1 _ Q q => .inl ⟨i, rfl, q H1 (Ex.refl H1)⟩
theorem rc_abs {i : Int} : RC (fun xs H Q => ∃ i, xs = [V.int i] ∧ Q (.int (if i < 0 then -i else i)) H) [.int i] H (.int (if i < 0 then -i else i)) := fun H1 _ Q q => ⟨i, rfl, q H1 (Ex.refl H1)⟩
end
section
variable {P : Program} {w : World} {K : PySem.W.Frag} {mg : Str → Option Value} {base : Heap} {C : Addr} {H : Hp}
theorem dr {t : TA} {σ : L2.St} {Er : XK} {Q : VK} {a : Addr} {n : Nat} (h : EvA t σ H [.ref a, nV n]) (p : PotAt H a) (h1 : 1 ≤ n) (h2 : n ≤ 1000) (k : ∀ H' (d : Nat), ExB a H H' → PotAt H' a → d < n → Q (nV d) H') : tCall sp_Ldraw [] Er t σ H Q :=
  h H (Ex.refl H) _ fun H1 e1 => ⟨a, n, rfl, p.ex e1, h1, h2, fun H' d x p' hd => k H' d ((ExB.of e1).trans x) p' hd⟩
theorem yes_raw {σ : L2.St} {A B : Hp → Prop} (h : A H) : tYes σ H fun b H3 => if b = true then A H3 else B H3 := by
  show if true = true then A H else B H
  exact iteT h
theorem op_raw {r : R2} {ta tb : TE} {σ : L2.St} {Q : VK} (h : ta σ H fun x H1 => tb σ H1 fun y H2 => r x y H2 Q) : tOp r ta tb σ H Q := h
theorem test_raw {te : TE} {σ : L2.St} {Q : Bool → Hp → Prop} (h : te σ H fun x H' => ∃ k, x = .bl k ∧ Q k H') : tTest te σ H Q := h
end
theorem roomU {k : Nat} {A : Around} (h : Room k A) : A.units + 64 < cLine := by
  have := h.un
  omega
theorem given_all (n : Nat) (v : Nat → V) : given n (fun _ => true) v = (List.range n).map v := by
  unfold given
  rw [List.filter_eq_self.mpr (fun _ _ => rfl)]
section
variable {K : PySem.W.Frag} {σ : L2.St} {H : Hp} {te tb : TE} {ta : TA} {t tu : TT} {D : Ends} {tz : TS} {xs ys : List V} {b : Bool}
theorem et_yes : EvT tYes σ H true := fun H1 _ _ q => q H1 (Ex.refl H1)
theorem el_is (h : EvL te σ H xs) (e : xs = ys) : EvL te σ H ys := by
  rw [← e]
  exact h
theorem rc_all {p : Addr} {bs : List Bool} (h : H p = some (.lst (bs.map V.bl))) : RC (rAll K) [.ref p] H (.bl (bs.all id)) := fun H1 e Q q => ⟨p, bs, rfl, sq_of (e _ _ h), q H1 (Ex.refl H1)⟩
theorem ev_allB {bs : List Bool} (h : EvL te σ H (bs.map V.bl)) : Ev (tCB (rAll K) (tCons te tNil)) σ H (.bl (bs.all id)) := fun H1 e Q q => h H1 e _ fun p H2 hp e2 h2 => rc_all h2 H2 (Ex.refl H2) Q fun H3 e3 => q H3 (e2.trans e3)
end
end My
namespace My
open PySem PySem.Spec PyProof.Rows L2 GL Evl StX SkE
/-! ### rows and rules in the heap -/
def isTup : HO → Bool
  | .tup _ => true
  | .frz _ (.tup _) => true
  | _ => false
/-- no tuple stands at b -/
def NoTup (H : Hp) (b : Addr) : Prop := ∀ u, H b = some u → isTup u = false
inductive RowAt (K : PySem.W.Frag) (H : Hp) (a : Addr) (us : Rw) : Prop where
  | tup (h : H a = some (.tup (us.map wV)))
  | fx {o : Obj} (h : H a = some (.frz o (.tup (us.map wV)))) (b : Bare o)
  | kst (h : ∀ H, SqT K H a (us.map wV)) (y : ∀ H, TyX K H (.ref a) (.type "tuple"))
section
variable {K : PySem.W.Frag} {H H' : Hp} {a b : Addr} {us ws : Rw}
theorem NoTup.lst {xs : List V} (h : H b = some (.lst xs)) : NoTup H b := fun u e => by
  rw [h] at e
  cases e
  rfl
theorem NoTup.dK {xs : List (Key × V)} (h : H b = some (.dK xs)) : NoTup H b := fun u e => by
  rw [h] at e
  cases e
  rfl
theorem NoTup.ins {C dx : Addr} {xs : List (Str × V)} (h : H b = some (.ins C dx xs)) : NoTup H b := fun u e => by
  rw [h] at e
  cases e
  rfl
theorem NoTup.none (h : H b = .none) : NoTup H b := fun u e => by
  rw [h] at e
  cases e
theorem RowAt.sq (h : RowAt K H a us) : SqT K H a (us.map wV) := by
  cases h with
  | tup h => exact st_of h
  | fx h _ => exact .inl (.inr ⟨_, h⟩)
  | kst h _ => exact h H
theorem RowAt.ty (h : RowAt K H a us) : TyX K H (.ref a) (.type "tuple") := by
  cases h with
  | tup h => exact .base (.tup h)
  | fx h _ => exact .fTuple h
  | kst _ y => exact y H
theorem RowAt.ex (h : RowAt K H a us) (e : Ex H H') : RowAt K H' a us := by
  cases h with
  | tup h => exact .tup (e _ _ h)
  | fx h b => exact .fx (e _ _ h) b
  | kst h y => exact .kst h y
/-- a place where no tuple stands may change -/
theorem RowAt.exB (h : RowAt K H a us) (e : ExB b H H') (n : NoTup H b) : RowAt K H' a us := by
  cases h with
  | tup h => exact .tup (e _ _ (fun q => Bool.noConfusion (n _ (q ▸ h))) h)
  | fx h c => exact .fx (e _ _ (fun q => Bool.noConfusion (n _ (q ▸ h))) h) c
  | kst h y => exact .kst h y
/-- a row: a tuple without a dict -/
inductive RowX (K : PySem.W.Frag) (H : Hp) (a : Addr) (us : Rw) : Prop where
  | fx {o : Obj} (h : H a = some (.frz o (.tup (us.map wV)))) (b : Bare o)
  | kst (h : ∀ H, SqT K H a (us.map wV)) (y : ∀ H, TyX K H (.ref a) (.type "tuple")) (t : ∃ o, K.lookup a = some o ∧ Bare o)
theorem RowX.at_ (h : RowX K H a us) : RowAt K H a us := by
  cases h with
  | fx h b => exact .fx h b
  | kst h y t => exact .kst h y
theorem RowX.tp (h : RowX K H a us) : Tpl K H a := by
  cases h with
  | fx h b => exact .inl ⟨_, _, h, b⟩
  | kst h y t => exact .inr t
theorem RowX.sq (h : RowX K H a us) : SqT K H a (us.map wV) := h.at_.sq
theorem RowX.ex (h : RowX K H a us) (e : Ex H H') : RowX K H' a us := by
  cases h with
  | fx h b => exact .fx (e _ _ h) b
  | kst h y t => exact .kst h y t
theorem RowX.exB (h : RowX K H a us) (e : ExB b H H') (n : NoTup H b) : RowX K H' a us := by
  cases h with
  | fx h c => exact .fx (e _ _ (fun q => Bool.noConfusion (n _ (q ▸ h))) h) c
  | kst h y t => exact .kst h y t
def dW (w : Wd) : PyData := .str w.s
def dRow (us : Rw) : PyData := .tuple (us.map dW)
theorem dp_ws (H : Hp) : ∀ us : Rw, DpAll K H (us.map wV) (us.map dW)
  | [] => .nil
  | u :: us => .cons (.str _) (dp_ws H us)
theorem RowAt.dp (h : RowAt K H a us) : Dp K H (.ref a) (dRow us) := .tup h.sq (dp_ws H us)
theorem RowX.dp (h : RowX K H a us) : Dp K H (.ref a) (dRow us) := h.at_.dp
theorem eqv_ws : ∀ us ws : Rw, PyData.eqvAll (us.map dW) (ws.map dW) = decide (us = ws)
  | [], [] => rfl
  | [], _ :: _ => rfl
  | _ :: _, [] => rfl
  | u :: us, w :: ws => by
    have ih := eqv_ws us ws
    show (PyData.eqv (dW u) (dW w) && PyData.eqvAll (us.map dW) (ws.map dW)) = decide (u :: us = w :: ws)
    rw [ih]
    have e1 : PyData.eqv (dW u) (dW w) = decide (u = w) := by
      show (u.s == w.s) = decide (u = w)
      by_cases e : u = w
      · rw [e, decide_eq_true rfl, beq_self_eq_true]
      · rw [decide_eq_false e]
        exact beq_eq_false_iff_ne.mpr fun q => e (Wd.inj q)
    rw [e1]
    by_cases e : u = w <;> by_cases e' : us = ws <;> simp [e, e']
theorem eqv_row (us ws : Rw) : PyData.eqv (dRow us) (dRow ws) = decide (us = ws) := by
  show PyData.eqvAll (us.map dW) (ws.map dW) = decide (us = ws)
  exact eqv_ws us ws
theorem shaped_of {d : PyData} (h1 : d.canLay0 = true) (h2 : d.depth ≤ 64) : SeqAt.shaped d = true := by
  show (d.canLay0 && decide (d.depth ≤ 64)) = true
  rw [h1, decide_eq_true h2]
  rfl
theorem w_ok (w : Wd) : PyData.strOk w.s = true := by cases w <;> decide +kernel
theorem lay_ws : ∀ us : Rw, PyData.canLayAll0 (us.map dW) = true
  | [] => rfl
  | u :: us => by
    show ((PyData.str u.s).canLay0 && PyData.canLayAll0 (us.map dW)) = true
    rw [lay_ws us]
    simp only [PyData.canLay0, w_ok, Bool.and_self]
theorem depth_ws : ∀ us : Rw, PyData.depthAll (us.map dW) ≤ 0
  | [] => Nat.le_refl _
  | u :: us => by
    show max (dW u).depth (PyData.depthAll (us.map dW)) ≤ 0
    exact Nat.max_le.mpr ⟨Nat.le_refl _, depth_ws us⟩
theorem row_lay (us : Rw) : (dRow us).canLay0 = true := lay_ws us
theorem row_depth (us : Rw) : (dRow us).depth ≤ 1 := by
  have := depth_ws us
  show (PyData.tuple (us.map dW)).depth ≤ 1
  simp only [PyData.depth]
  omega
theorem row_shaped (us : Rw) : SeqAt.shaped (dRow us) = true := shaped_of (row_lay us) (Nat.le_trans (row_depth us) (by decide))
theorem rows_lay : ∀ rs : List Rw, PyData.canLayAll0 (rs.map dRow) = true
  | [] => rfl
  | u :: us => by
    show ((dRow u).canLay0 && PyData.canLayAll0 (us.map dRow)) = true
    rw [rows_lay us, row_lay]
    rfl
theorem rows_depth : ∀ rs : List Rw, PyData.depthAll (rs.map dRow) ≤ 1
  | [] => Nat.zero_le _
  | u :: us => by
    show max (dRow u).depth (PyData.depthAll (us.map dRow)) ≤ 1
    exact Nat.max_le.mpr ⟨row_depth u, rows_depth us⟩
theorem rowsT_shaped (rs : List Rw) : SeqAt.shaped (.tuple (rs.map dRow)) = true := shaped_of (rows_lay rs) (by
  have := rows_depth rs
  simp only [PyData.depth]
  omega)
theorem any_row (us : Rw) (rs : List Rw) : ((rs.map dRow).any fun z => PyData.eqv z (dRow us)) = decide (us ∈ rs) := by
  rw [List.any_map]
  induction rs with
  | nil => rfl
  | cons r rs ih =>
    rw [List.any_cons, ih]
    show (PyData.eqv (dRow r) (dRow us) || decide (us ∈ rs)) = decide (us ∈ r :: rs)
    rw [eqv_row]
    by_cases e : r = us
    · subst e
      simp
    · have e' : ¬ us = r := fun q => e q.symm
      simp [e, e']
end
/-! lists of rows -/
inductive RowsAt (K : PySem.W.Frag) (H : Hp) : List V → List Rw → Prop where
  | nil : RowsAt K H [] []
  | cons {a : Addr} {us : Rw} {vs : List V} {rs : List Rw} (h : RowX K H a us) (t : RowsAt K H vs rs) : RowsAt K H (.ref a :: vs) (us :: rs)
section
variable {K : PySem.W.Frag} {H H' : Hp} {vs ws : List V} {rs qs : List Rw}
theorem RowsAt.ex (h : RowsAt K H vs rs) (e : Ex H H') : RowsAt K H' vs rs := by
  induction h with
  | nil => exact .nil
  | cons h _ ih => exact .cons (h.ex e) ih
theorem RowsAt.len (h : RowsAt K H vs rs) : vs.length = rs.length := by
  induction h with
  | nil => rfl
  | cons _ _ ih => rw [List.length_cons, List.length_cons, ih]
theorem RowsAt.app (h : RowsAt K H vs rs) (h2 : RowsAt K H ws qs) : RowsAt K H (vs ++ ws) (rs ++ qs) := by
  induction h with
  | nil => exact h2
  | cons h _ ih => exact .cons h ih
theorem RowsAt.at (h : RowsAt K H vs rs) {i : Nat} {v : V} (hv : vs[i]? = some v) : ∃ a us, v = .ref a ∧ rs[i]? = some us ∧ RowX K H a us := by
  induction h generalizing i with
  | nil => simp at hv
  | @cons a us vs rs h _ ih =>
    cases i with
    | zero =>
      rw [List.getElem?_cons_zero] at hv
      exact ⟨a, us, (Option.some.inj hv).symm, rfl, h⟩
    | succ i =>
      rw [List.getElem?_cons_succ] at hv
      obtain ⟨b, ws, e, e2, hb⟩ := ih hv
      exact ⟨b, ws, e, by rw [List.getElem?_cons_succ]; exact e2, hb⟩
theorem RowsAt.mem (h : RowsAt K H vs rs) {v : V} (hv : v ∈ vs) : ∃ a us, v = .ref a ∧ us ∈ rs ∧ RowX K H a us := by
  obtain ⟨i, hi⟩ := List.getElem?_of_mem hv
  obtain ⟨a, us, e, e2, h2⟩ := h.at hi
  exact ⟨a, us, e, List.mem_of_getElem? e2, h2⟩
theorem RowsAt.dp (h : RowsAt K H vs rs) : DpAll K H vs (rs.map dRow) := by
  induction h with
  | nil => exact .nil
  | cons h _ ih => exact .cons h.dp ih
end
/-! parts -/
def Pv.At (K : PySem.W.Frag) (H : Hp) : Pv → V → Prop
  | .row us, v => ∃ a, v = .ref a ∧ RowX K H a us
  | .hold us, v => ∃ a, v = .ref a ∧ RowAt K H a us
  | .wd w, v => v = wV w
  | .bl b, v => v = .bl b
  | .int n, v => v = nV n
def Pv.d : Pv → PyData
  | .row us => dRow us
  | .hold us => dRow us
  | .wd w => dW w
  | .bl b => .bool b
  | .int n => .int n
section
variable {K : PySem.W.Frag} {H H' : Hp} {p q : Pv} {v : V} {b : Addr}
theorem Pv.At.ex (h : p.At K H v) (e : Ex H H') : p.At K H' v := by
  cases p with
  | row us =>
    obtain ⟨a, rfl, h⟩ := h
    exact ⟨a, rfl, h.ex e⟩
  | hold us =>
    obtain ⟨a, rfl, h⟩ := h
    exact ⟨a, rfl, h.ex e⟩
  | _ => exact h
theorem Pv.At.exB (h : p.At K H v) (e : ExB b H H') (n : NoTup H b) : p.At K H' v := by
  cases p with
  | row us =>
    obtain ⟨a, rfl, h⟩ := h
    exact ⟨a, rfl, h.exB e n⟩
  | hold us =>
    obtain ⟨a, rfl, h⟩ := h
    exact ⟨a, rfl, h.exB e n⟩
  | _ => exact h
theorem Pv.At.dp (h : p.At K H v) : Dp K H v p.d := by
  cases p with
  | row us =>
    obtain ⟨a, rfl, h⟩ := h
    exact h.dp
  | hold us =>
    obtain ⟨a, rfl, h⟩ := h
    exact h.dp
  | wd w =>
    cases h
    exact .str _
  | bl b =>
    cases h
    exact .bl b
  | int n =>
    cases h
    exact .int _
theorem Pv.shaped (p : Pv) : SeqAt.shaped p.d = true := by
  cases p with
  | row us => exact row_shaped us
  | hold us => exact row_shaped us
  | wd w => exact shaped_of (d := .str w.s) (by simp only [PyData.canLay0, w_ok]) (by simp only [PyData.depth]; omega)
  | bl b => exact shaped_of (d := .bool b) (by simp only [PyData.canLay0]) (by simp only [PyData.depth]; omega)
  | int n => exact shaped_of (d := .int n) (by simp only [PyData.canLay0]) (by simp only [PyData.depth]; omega)
end
/-- two parts of one kind -/
theorem eqv_get (r l : Ru) (p : Pt) : PyData.eqv (r.get p).d (l.get p).d = decide (r.get p = l.get p) := by
  have hw : ∀ u w : Wd, PyData.eqv (dW u) (dW w) = decide (Pv.wd u = Pv.wd w) := fun u w => by
    have z := eqv_ws [u] [w]
    have z2 : PyData.eqvAll ([u].map dW) ([w].map dW) = PyData.eqv (dW u) (dW w) := by
      show (PyData.eqv (dW u) (dW w) && true) = _
      rw [Bool.and_true]
    rw [← z2, z]
    exact decide_eq_decide.mpr ⟨fun e => by cases e; rfl, fun e => by cases e; rfl⟩
  have hr : ∀ u w : Rw, PyData.eqv (dRow u) (dRow w) = decide (Pv.row u = Pv.row w) := fun u w => by
    rw [eqv_row]
    exact decide_eq_decide.mpr ⟨fun e => e ▸ rfl, fun e => Pv.row.inj e⟩
  have hh : ∀ u w : Rw, PyData.eqv (dRow u) (dRow w) = decide (Pv.hold u = Pv.hold w) := fun u w => by
    rw [eqv_row]
    exact decide_eq_decide.mpr ⟨fun e => e ▸ rfl, fun e => Pv.hold.inj e⟩
  have hb : ∀ a b : Bool, PyData.eqv (.bool a) (.bool b) = decide (Pv.bl a = Pv.bl b) := fun a b => by cases a <;> cases b <;> rfl
  have hn : ∀ a b : Nat, PyData.eqv (.int a) (.int b) = decide (Pv.int a = Pv.int b) := fun a b => by
    show ((a : Int) == (b : Int)) = _
    by_cases e : a = b
    · subst e
      rw [beq_self_eq_true, decide_eq_true rfl]
    · rw [beq_eq_false_iff_ne.mpr (by omega), decide_eq_false fun q => e (Pv.int.inj q)]
  cases p <;> first | exact hr _ _ | exact hh _ _ | exact hw _ _ | exact hb _ _ | exact hn _ _
/-! dicts of rules -/
abbrev kvs (ks : List Pt) (f : Pt → V) : List (Key × V) := ks.map fun p => (.inr p.s, f p)
theorem pkey {p q : Pt} : ((Sum.inr p.s : Key) = Sum.inr q.s) ↔ p = q := ⟨fun e => Pt.inj (Sum.inr.inj e), fun e => e ▸ rfl⟩
theorem val_at {f : Pt → V} {p : Pt} : ∀ {ks : List Pt}, p ∈ ks → valV (kvs ks f) (.inr p.s) = some (f p)
  | q :: ks, h => by
    by_cases e : q = p
    · subst e
      exact valV_pos rfl
    · have hp : p ∈ ks := (List.mem_cons.mp h).resolve_left fun z => e z.symm
      have ih := val_at (f := f) hp
      unfold valV at ih ⊢
      rw [show kvs (q :: ks) f = (.inr q.s, f q) :: kvs ks f from rfl, List.find?_cons, decide_eq_false (fun z => e (pkey.mp z))]
      exact ih
def put (f : Pt → V) (p : Pt) (v : V) : Pt → V := fun q => if q = p then v else f q
theorem any_kvs (ks : List Pt) (f : Pt → V) (p : Pt) : ((kvs ks f).any fun kv => decide (kv.1 = Sum.inr p.s)) = decide (p ∈ ks) := by
  rw [List.any_map]
  induction ks with
  | nil => rfl
  | cons q ks ih =>
    rw [List.any_cons, ih]
    show (decide ((Sum.inr q.s : Key) = Sum.inr p.s) || decide (p ∈ ks)) = _
    by_cases e : q = p
    · subst e
      simp
    · have e' : ¬ p = q := fun z => e z.symm
      rw [decide_eq_false (fun z => e (pkey.mp z))]
      simp [e']
theorem put_old {ks : List Pt} {f : Pt → V} {p : Pt} {v : V} (h : p ∈ ks) : putK (kvs ks f) (.inr p.s) v = kvs ks (put f p v) := by
  unfold putK
  rw [any_kvs, decide_eq_true h, if_pos rfl, List.map_map]
  refine List.map_congr_left fun q _ => ?_
  show (if (Sum.inr q.s : Key) = Sum.inr p.s then (Sum.inr q.s, v) else (Sum.inr q.s, f q)) = (Sum.inr q.s, put f p v q)
  unfold put
  by_cases e : q = p
  · rw [if_pos (pkey.mpr e), if_pos e]
  · rw [if_neg (fun z => e (pkey.mp z)), if_neg e]
theorem put_new {ks : List Pt} {f : Pt → V} {p : Pt} {v : V} (h : p ∉ ks) : putK (kvs ks f) (.inr p.s) v = kvs (ks ++ [p]) (put f p v) := by
  unfold putK
  rw [any_kvs, decide_eq_false h, if_neg (by decide)]
  unfold kvs
  rw [List.map_append]
  congr 1
  · refine List.map_congr_left fun q hq => ?_
    unfold put
    rw [if_neg (fun e : q = p => h (e ▸ hq))]
  · show [(Sum.inr p.s, v)] = [(Sum.inr p.s, put f p v p)]
    unfold put
    rw [if_pos rfl]
/-- at d a dict with these keys, whose values are r's parts -/
def DictAt (K : PySem.W.Frag) (H : Hp) (d : Addr) (ks : List Pt) (r : Ru) : Prop := ∃ f : Pt → V, H d = some (.dK (kvs ks f)) ∧ ∀ p ∈ ks, (r.get p).At K H (f p)
section
variable {K : PySem.W.Frag} {H H' : Hp} {d b : Addr} {ks : List Pt} {r : Ru}
theorem DictAt.ex (h : DictAt K H d ks r) (e : Ex H H') : DictAt K H' d ks r := by
  obtain ⟨f, h1, h2⟩ := h
  exact ⟨f, e _ _ h1, fun p hp => (h2 p hp).ex e⟩
theorem DictAt.exB (h : DictAt K H d ks r) (e : ExB b H H') (nd : d ≠ b) (n : NoTup H b) : DictAt K H' d ks r := by
  obtain ⟨f, h1, h2⟩ := h
  exact ⟨f, e _ _ nd h1, fun p hp => (h2 p hp).exB e n⟩
end
end My
namespace My
open PySem PySem.Spec PyProof.Rows L2 GL Evl StX SkE
def fd : V → PyData
  | .int i => .int i
  | .str x => .str x
  | .bl b => .bool b
  | _ => .none
theorem fd_dp {K : PySem.W.Frag} {H : Hp} : ∀ {x : V}, flatV x = true → Dp K H x (fd x)
  | .non, _ => .non
  | .bl b, _ => .bl b
  | .int i, _ => .int i
  | .str x, _ => .str x
  | .byt _, h => by cases h
  | .flt _, h => by cases h
  | .ref _, h => by cases h
  | .ty _, h => by cases h
theorem fd_all {K : PySem.W.Frag} {H : Hp} : ∀ {xs : List V}, xs.all flatV = true → DpAll K H xs (xs.map fd)
  | [], _ => .nil
  | x :: xs, h => by
    rw [List.all_cons, Bool.and_eq_true] at h
    exact .cons (fd_dp h.1) (fd_all h.2)
def Shrt (x : V) : Prop := flatV x = true ∧ (fd x).showable = true ∧ (fd x).hasDict = false ∧ (fd x).depth ≤ 0 ∧ (fd x).shown.length ≤ 40
theorem shrt_nat {n : Nat} (h : n ≤ 100000) : Shrt (nV n) := by
  refine ⟨rfl, ?_, ?_, ?_, ?_⟩
  · show (PyData.int (n : Int)).showable = true
    simp only [PyData.showable]
    refine decide_eq_true ?_
    rw [Int.natAbs_natCast]
    by_cases e : n = 0
    · subst e
      decide
    · exact (Nat.log2_lt e).mpr (Nat.lt_of_le_of_lt h (by
        have : 2 ^ 17 ≤ 2 ^ 1920 := Nat.pow_le_pow_right (by decide) (by decide)
        omega))
  · show (PyData.int (n : Int)).hasDict = false
    simp only [PyData.hasDict]
  · show (PyData.int (n : Int)).depth ≤ 0
    simp only [PyData.depth]
    omega
  · have := PyData.shown_int_le2 (i := (n : Int)) (by omega) (by omega)
    show (PyData.int (n : Int)).shown.length ≤ 40
    omega
theorem shrt_bl (b : Bool) : Shrt (.bl b) := by
  refine ⟨rfl, ?_, ?_, ?_, ?_⟩
  · show (PyData.bool b).showable = true
    simp only [PyData.showable]
  · show (PyData.bool b).hasDict = false
    simp only [PyData.hasDict]
  · show (PyData.bool b).depth ≤ 0
    simp only [PyData.depth]
    omega
  · show (PyData.bool b).shown.length ≤ 40
    cases b <;> decide +kernel
theorem text_len (B : Nat) : ∀ (ts : List Str) (k : Nat) (acc : Str), (∀ t ∈ ts, t.length ≤ B) → (textFrom k acc ts).length ≤ acc.length + ts.length * (B + 2)
  | [], k, acc, _ => by
    show acc.length ≤ acc.length + 0 * (B + 2)
    omega
  | t :: r, k, acc, h => by
    have ih := text_len B r (k + 1) (acc ++ (if k > 0 then ", " else "" : String) ++ t) fun y hy => h y (List.mem_cons_of_mem _ hy)
    have ht := h t List.mem_cons_self
    have e2 : (Str.ofString (if k > 0 then ", " else "")).length ≤ 2 := by
      split <;> decide
    rw [Str.length_append, Str.length_append] at ih
    show (textFrom (k + 1) (acc ++ (if k > 0 then ", " else "" : String) ++ t) r).length ≤ acc.length + (r.length + 1) * (B + 2)
    rw [Nat.add_mul, Nat.one_mul]
    omega
theorem list_text_len {B : Nat} {ts : List Str} (h : ∀ t ∈ ts, t.length ≤ B) : (listText ts).length ≤ ts.length * (B + 2) + 2 := by
  have q := text_len B ts 0 "[" h
  have e1 : (Str.ofString "[").length = 1 := by decide
  have e2 : (Str.ofString "]").length = 1 := by decide
  unfold listText
  rw [Str.length_append, e2]
  omega
theorem shownAll_mem : ∀ {ds : List PyData} {t : Str}, t ∈ PyData.shownAll ds → ∃ d ∈ ds, t = d.shown
  | [], t, h => by
    simp only [PyData.shownAll] at h
    cases h
  | d :: ds, t, h => by
    simp only [PyData.shownAll] at h
    rcases List.mem_cons.mp h with z | z
    · exact ⟨d, List.mem_cons_self, z⟩
    · obtain ⟨e, he, q⟩ := shownAll_mem z
      exact ⟨e, List.mem_cons_of_mem _ he, q⟩
theorem shownAll_len : ∀ ds : List PyData, (PyData.shownAll ds).length = ds.length
  | [] => by simp only [PyData.shownAll, List.length_nil]
  | d :: ds => by
    simp only [PyData.shownAll, List.length_cons]
    rw [shownAll_len ds]
theorem showableAll_of : ∀ {ds : List PyData}, (∀ d ∈ ds, d.showable = true) → PyData.showableAll ds = true
  | [], _ => by simp only [PyData.showableAll]
  | d :: ds, h => by
    simp only [PyData.showableAll, Bool.and_eq_true]
    exact ⟨h d List.mem_cons_self, showableAll_of fun e he => h e (List.mem_cons_of_mem _ he)⟩
theorem hasDictAll_of : ∀ {ds : List PyData}, (∀ d ∈ ds, d.hasDict = false) → PyData.hasDictAll ds = false
  | [], _ => by simp only [PyData.hasDictAll]
  | d :: ds, h => by
    simp only [PyData.hasDictAll, Bool.or_eq_false_iff]
    exact ⟨h d List.mem_cons_self, hasDictAll_of fun e he => h e (List.mem_cons_of_mem _ he)⟩
theorem depthAll_of : ∀ {ds : List PyData} {k : Nat}, (∀ d ∈ ds, d.depth ≤ k) → PyData.depthAll ds ≤ k
  | [], _, _ => by
    simp only [PyData.depthAll]
    omega
  | d :: ds, k, h => by
    simp only [PyData.depthAll]
    have h1 := h d List.mem_cons_self
    have h2 := depthAll_of (ds := ds) (k := k) fun e he => h e (List.mem_cons_of_mem _ he)
    omega
structure Sm (d : PyData) (k B : Nat) : Prop where
  sh : d.showable = true
  nd : d.hasDict = false
  de : d.depth ≤ k
  ln : d.shown.length ≤ B
theorem Shrt.sm {x : V} (h : Shrt x) : Sm (fd x) 0 40 := ⟨h.2.1, h.2.2.1, h.2.2.2.1, h.2.2.2.2⟩
theorem Sm.mono {d : PyData} {k B k' B' : Nat} (h : Sm d k B) (hk : k ≤ k') (hB : B ≤ B') : Sm d k' B' := ⟨h.sh, h.nd, Nat.le_trans h.de hk, Nat.le_trans h.ln hB⟩
theorem sm_list {ds : List PyData} {k B : Nat} (h : ∀ d ∈ ds, Sm d k B) : Sm (.list ds) (k + 1) (ds.length * (B + 2) + 2) := by
  refine ⟨?_, ?_, ?_, ?_⟩
  · simp only [PyData.showable]
    exact showableAll_of fun d hd => (h d hd).sh
  · simp only [PyData.hasDict]
    exact hasDictAll_of fun d hd => (h d hd).nd
  · simp only [PyData.depth]
    have := depthAll_of (ds := ds) (k := k) fun d hd => (h d hd).de
    omega
  · simp only [PyData.shown]
    have := list_text_len (B := B) (ts := PyData.shownAll ds) fun t ht => by
      obtain ⟨d, hd, rfl⟩ := shownAll_mem ht
      exact (h d hd).ln
    rw [shownAll_len] at this
    exact this
/-! texts of tuples, of parts -/
theorem join_len {B : Nat} : ∀ {ts : List Str}, (∀ t ∈ ts, t.length ≤ B) → (Str.join ", " ts).length ≤ ts.length * (B + 2)
  | [], _ => by
    rw [List.length_nil, Nat.zero_mul]
    decide
  | t :: ts, h => by
    have e := join_length_add (t :: ts) (by simp)
    have p : ∀ {us : List Str}, (∀ u ∈ us, u.length ≤ B) → piled us ≤ us.length * (B + 2) := by
      intro us
      induction us with
      | nil => intro _; simp [piled]
      | cons u us ih =>
        intro hu
        have h1 := hu u List.mem_cons_self
        have h2 := ih fun x hx => hu x (List.mem_cons_of_mem _ hx)
        rw [List.length_cons, Nat.add_mul, Nat.one_mul, piled_cons]
        omega
    have := p h
    omega
theorem tuple_text_len {B : Nat} {ts : List Str} (h : ∀ t ∈ ts, t.length ≤ B) : (tupleText ts).length ≤ ts.length * (B + 2) + 3 := by
  have q := join_len h
  unfold tupleText
  rw [Str.length_append, Str.length_append]
  have e1 : (Str.ofString "(").length = 1 := by decide
  have e2 : (Str.ofString (if ts.length == 1 then ",)" else ")" : String)).length ≤ 2 := by split <;> decide
  omega
theorem w_text (w : Wd) : (dW w).shown.length ≤ 8 := by
  show (PyData.str w.s).shown.length ≤ 8
  simp only [PyData.shown]
  cases w <;> decide +kernel
theorem sm_row {us : Rw} {n : Nat} (hl : us.length ≤ n) : Sm (dRow us) 1 (n * 10 + 3) := by
  refine ⟨?_, ?_, row_depth us, ?_⟩
  · show (PyData.tuple (us.map dW)).showable = true
    simp only [PyData.showable]
    refine showableAll_of fun d hd => ?_
    obtain ⟨u, _, rfl⟩ := List.mem_map.mp hd
    show (PyData.str u.s).showable = true
    simp only [PyData.showable]
  · show (PyData.tuple (us.map dW)).hasDict = false
    simp only [PyData.hasDict]
    refine hasDictAll_of fun d hd => ?_
    obtain ⟨u, _, rfl⟩ := List.mem_map.mp hd
    show (PyData.str u.s).hasDict = false
    simp only [PyData.hasDict]
  · show (PyData.tuple (us.map dW)).shown.length ≤ _
    simp only [PyData.shown]
    have := tuple_text_len (B := 8) (ts := PyData.shownAll (us.map dW)) fun t ht => by
      obtain ⟨d, hd, rfl⟩ := shownAll_mem ht
      obtain ⟨u, _, rfl⟩ := List.mem_map.mp hd
      exact w_text u
    rw [shownAll_len, List.length_map] at this
    have z : us.length * 10 ≤ n * 10 := Nat.mul_le_mul_right _ hl
    omega
end My
/-! ### tuple(list), told with its object -/
namespace GL
open PySem PySem.Spec PyProof.Rows L2
section
variable {X : Cx}
def rTupX (K : PySem.W.Frag) : List V → Hp → VK → Prop := fun xs H Q => ∃ p ys, xs = [.ref p] ∧ SqL K H p ys ∧ ∀ l o, H l = none → Bare o → Q (.ref l) (upd H l (.frz o (.tup ys)))
theorem call_tupleX : CallR X (.type "tuple") (rTupX X.K) := by
  intro pins s σ H xs us Q I r h
  obtain ⟨p, ys, rfl, hq, q⟩ := h
  obtain ⟨u, rfl, rx⟩ := vals1 r
  cases rx
  obtain ⟨its, r', pl, hz⟩ := I.list hq
  have hlen := r'.length
  refine call_tuple_list pl.isList (fun h' kp => ?_) (by simp only [List.size_toArray] <;> omega)
  have I1 : Inv X pins σ H { s with heap := h' } := I.kept (t' := s.toks) kp
  exact ⟨.ref h'.objs.size, _, bare_laid I1 r' hz, rfl, q _ _ (I1.hok.fresh (Nat.le_refl _)) ⟨rfl, rfl⟩⟩
end
end GL
namespace My
open PySem PySem.Spec PyProof.Rows L2 GL Evl StX SkE
/-! ### the laws' menus of rows -/
def rowPs : List Pt := [.take, .give, .move, .lift]
end My
/-! ### f(k = v, ..), by names alone -/
namespace GL
open PySem PySem.Spec PyProof.Rows L2
section
variable {X : Cx} {CX : CXT} {k : Nat} {f : Addr} {fd : FuncData} {ps ks : List Str} {sp : Sp} {E : XK} {x : Str} {p pos : Pos} {kws : List Keyword} {tk : TA} {g : List Value → List Value → List Value} {gV : List V → List V → List V} {pins : List (Addr × Obj)} {σ : L2.St} {H : Hp} {s : Shared} {Q : VK} {ws : List Value} {zs : List V}
theorem ranKn (G : Fre X.A) (F : FnG X.prog X.w X.K X.mg X.base CX k f fd ps sp) (hr : Room k X.A) (hb : KBn X.K fd ps 0 ks g gV) (hx : Passes CX X E) (I : Inv X pins σ H s) (rz : Vals zs ws) (l2 : zs.length = ks.length) (h : sp (gV [] zs) H Q E) :
    wpAny (model X.prog X.w) X.A (call (.ref f) [] (ks.zip ws)) (EP X pins σ Q) X.xe s :=
  ran (landed hx I (F.goes G hr I.env0 (hb.to s [] ws I.kIn rfl (rz.length.symm.trans l2)) (hb.rel .nil rz) h))
def tCallK (m : Nat) (sp : Sp) (gV : List V → List V → List V) (E : XK) (tk : TA) : TE := fun σ H Q => tk σ H fun zs H2 => zs.length = m ∧ sp (gV [] zs) H2 Q E
theorem pcK (G : Fre X.A) (F : FnG X.prog X.w X.K X.mg X.base CX k f fd ps sp) (hr : Room k X.A) (hg : Gl X x) (hm : X.mg x = some (.ref f)) (hk : PySem.W.keepIn X.K (.ref f) = true) (hb : KBn X.K fd ps 0 ks g gV) (hx : Passes CX X E)
    (hkw : PK X kws tk) (ndb : (x == ("__debug__" : Str)) = false := by decide) (hall : (backToKw pos (keywordEach kws X.env)).all (·.1.isSome) = true := by rfl) (hks : (backToKw pos (keywordEach kws X.env)).filterMap (·.1) = ks := by rfl)
    (hpl : (backToKw pos (keywordEach kws X.env)).any (·.1.isNone) = false := by rfl) :
    PE X (.Call (.Name x p) [] kws pos) (tCallK ks.length sp gV E tk) where
  run := fun pins s σ H Q I h => wpAny_Call_Name_kw (ld_glob I hg hm
    (PySem.W.callWith_KW0 (first := []) (h₀ := X.base) I.ok.mod.kin hk hall (thn (hkw.run pos pins s σ H _ I h) fun ws s2 ⟨zs, H2, I2, rz, l2, q2⟩ => by
      rw [hks]
      exact ⟨I2.kIn, ranKn G F hr hb hx I2 rz l2 q2⟩) hpl) ndb)
end
end GL
/-! isinstance(e, C), C a class of ours or a built-in one -/
namespace GL
open PySem PySem.Spec PyProof.Rows L2
end GL
/-! promises kept where lists with instances are being shown: what stands in the way (the guards) are the addresses L -/
namespace GL
open PySem PySem.Spec PyProof.Rows L2 Evl StX SkE
def Gu (L : List Addr) (g : List Code) : Prop := ∀ id v rest kw, Code.builtin id ⟨v :: rest, kw⟩ ∈ g → ∃ l ∈ L, v = .ref l
def FreL (L : List Addr) (A : Around) : Prop := ∃ g, A.guards = some g ∧ Gu L g
theorem FreL.of {A : Around} (h : Fre A) : FreL [] A := ⟨[], h, fun _ _ _ _ q => nomatch q⟩
structure FnL (L : List Addr) (P : Program) (w : World) (K : PySem.W.Frag) (mg : Str → Option Value) (base : Heap) (CX : CXT) (k : Nat) (f : Addr) (fd : FuncData) (ps : List Str) (sp : Sp) : Prop where
  many : ∀ vs H Q E, sp vs H Q E → vs.length = ps.length
  goes : ∀ {A : Around} {outer : List Env} {s : Shared} {H : Hp} {args : Args} {us : List Value} {vs : List V} {Q : VK} {E : XK}, FreL L A → Room k A →
    Env0 P w K mg base A outer s H → BindsTo s fd args (ps.zip us) → Vals vs us → sp vs H Q E → codeAny (model P w) A (.call (.ref f) args) (CR CX outer P w H s Q E) s
theorem FnL.g {P : Program} {w : World} {K : PySem.W.Frag} {mg : Str → Option Value} {base : Heap} {CX : CXT} {k : Nat} {f : Addr} {fd : FuncData} {ps : List Str} {sp : Sp} (F : FnL [] P w K mg base CX k f fd ps sp) : FnG P w K mg base CX k f fd ps sp :=
  ⟨F.many, fun h r e b v q => F.goes (FreL.of h) r e b v q⟩
/-! what is no data -/
def Odd (K : PySem.W.Frag) (H : Hp) (l : Addr) : Prop := ∃ xs a C dx fs, (SqL K H l xs ∨ SqT K H l xs) ∧ V.ref a ∈ xs ∧ H a = some (.ins C dx fs)
theorem Odd.ex {K : PySem.W.Frag} {H H' : Hp} {l : Addr} (h : Odd K H l) (e : Ex H H') : Odd K H' l := by
  obtain ⟨xs, a, C, dx, fs, h1, h2, h3⟩ := h
  exact ⟨xs, a, C, dx, fs, h1.imp (ex_l e) (ex_t e), h2, e _ _ h3⟩
end GL
/-! {x!r} of data where the guards are L; repr of a list whose members are instances with an own text, or data -/
namespace GL
open PySem PySem.Spec PyProof.Rows L2 Evl StX SkE
/-! ### members with a text -/
end GL
namespace GL
open PySem PySem.Spec PyProof.Rows L2 Evl StX SkE
end GL
namespace GL
open PySem PySem.Spec PyProof.Rows L2 Evl StX SkE
end GL
/-! data with dicts in it, as it is shown -/
namespace GL
open PySem PySem.Spec PyProof.Rows L2 Evl StX SkE
def keyD : Key → PyData
  | .inl i => .int i
  | .inr x => .str x
mutual
inductive Dx (K : PySem.W.Frag) (H : Hp) : V → PyData → Prop
  | non : Dx K H .non .none
  | bl (b : Bool) : Dx K H (.bl b) (.bool b)
  | int (i : Int) : Dx K H (.int i) (.int i)
  | str (x : Str) : Dx K H (.str x) (.str x)
  | lst {a : Addr} {xs : List V} {ds : List PyData} : SqL K H a xs → DxAll K H xs ds → Dx K H (.ref a) (.list ds)
  | tup {a : Addr} {xs : List V} {ds : List PyData} : SqT K H a xs → DxAll K H xs ds → Dx K H (.ref a) (.tuple ds)
  | dct {a : Addr} {kvs : List (Key × V)} {ds : List PyData} : H a = some (.dK kvs) → DxAll K H (kvs.map (·.2)) ds → Dx K H (.ref a) (.dict ((kvs.map fun p => keyD p.1).zip ds))
inductive DxAll (K : PySem.W.Frag) (H : Hp) : List V → List PyData → Prop
  | nil : DxAll K H [] []
  | cons {v : V} {vs : List V} {d : PyData} {ds : List PyData} : Dx K H v d → DxAll K H vs ds → DxAll K H (v :: vs) (d :: ds)
end
section
variable {K : PySem.W.Frag} {H H' : Hp}
theorem DxAll.len {vs : List V} {ds : List PyData} : DxAll K H vs ds → ds.length = vs.length
  | .nil => rfl
  | .cons _ t => by rw [List.length_cons, List.length_cons, DxAll.len t]
mutual
theorem Dx.ex (e : Ex H H') : ∀ {v : V} {d : PyData}, Dx K H v d → Dx K H' v d
  | _, _, .non => .non
  | _, _, .bl b => .bl b
  | _, _, .int i => .int i
  | _, _, .str x => .str x
  | _, _, .lst h t => .lst (ex_l e h) (DxAll.ex e t)
  | _, _, .tup h t => .tup (ex_t e h) (DxAll.ex e t)
  | _, _, .dct h t => .dct (e _ _ h) (DxAll.ex e t)
theorem DxAll.ex (e : Ex H H') : ∀ {vs : List V} {ds : List PyData}, DxAll K H vs ds → DxAll K H' vs ds
  | _, _, .nil => .nil
  | _, _, .cons h t => .cons (Dx.ex e h) (DxAll.ex e t)
end
end
end GL
/-! own errors that keep two values: kind, value -/
namespace PySem
end PySem
namespace GL
open PySem PySem.Spec PyProof.Rows L2
end GL
/-! a tuple of one member that has a text -/
namespace GL
open PySem PySem.Spec PyProof.Rows L2 Evl StX SkE
end GL
/-! own errors made as values, by place and by keywords -/
namespace PySem
end PySem
namespace GL
open PySem PySem.Spec PyProof.Rows L2 Evl StX SkE
/-- an error at a, its class at C, its dict at d (or none) -/
def exi (C : Addr) (d : Option Addr) (a : Addr) : HO := .ext fun h => ∃ (oe : Obj) (vs : Array Value), h.get? a = some oe ∧ oe.cls = .ref C ∧ oe.dict = d ∧ oe.data = .fields vs
/-- at a an error of the class at C that keeps fs -/
def ExAt (H : Hp) (a C : Addr) (fs : List (Str × V)) : Prop := (fs = [] ∧ H a = some (exi C none a)) ∨ ∃ d, H a = some (exi C (some d) a) ∧ H d = some (.xd fs)
theorem ExAt.ex {H H' : Hp} {a C : Addr} {fs : List (Str × V)} (h : ExAt H a C fs) (e : Ex H H') : ExAt H' a C fs := by
  rcases h with ⟨h1, h2⟩ | ⟨d, h1, h2⟩
  · exact .inl ⟨h1, e _ _ h2⟩
  · exact .inr ⟨d, e _ _ h1, e _ _ h2⟩
/-! such an error, read, asked -/
end GL
/-! tables of facts about own errors -/
namespace GL
open PySem PySem.Spec PyProof.Rows L2 Evl StX SkE
end GL
/-! what evaluates to data, also with dicts; its text -/
namespace My
open PySem PySem.Spec PyProof.Rows L2 GL Evl StX SkE
/-- short, also with dicts -/
structure SmX (d : PyData) (k B : Nat) : Prop where
  sh : d.showable = true
  de : d.depth ≤ k
  ln : d.shown.length ≤ B
theorem SmX.mono {d : PyData} {k B k' B' : Nat} (h : SmX d k B) (hk : k ≤ k') (hB : B ≤ B') : SmX d k' B' := ⟨h.sh, Nat.le_trans h.de hk, Nat.le_trans h.ln hB⟩
theorem given_rep (n : Nat) (v : V) : given n (fun _ => true) (fun _ => v) = List.replicate n v := by
  rw [given_all]
  exact List.ext_getElem (by simp) fun i h1 h2 => by simp
section
variable {K : PySem.W.Frag} {σ : L2.St} {H H' : Hp} {te ta tb : TE} {tA : TA} {t : TT} {D : Ends} {tz : TS} {xs ys zs : List V} {v x : V} {d : PyData} {ds : List PyData} {l : Addr} {Q : VK}
theorem el_cat (ha : EvL ta σ H xs) (hb : ∀ H1, Ex H H1 → EvL tb σ H1 zs) (hl : xs.length + zs.length ≤ 100000) : EvL (tOp rCat ta tb) σ H (xs ++ zs) := fun H1 e Q q =>
  ha H1 e _ fun p H2 hp e2 h2 => hb H2 (e.trans e2) H2 (Ex.refl H2) _ fun r H3 hr e3 h3 => ⟨p, r, xs, zs, rfl, rfl, e3 _ _ h2, h3, sz_of hl, fun l hl2 => q l _ (fresh_back (e2.trans e3) hl2) ((e2.trans e3).trans (Ex.new hl2)) upd_same⟩
/-- evaluates to data -/
def EvX (K : PySem.W.Frag) (te : TE) (σ : L2.St) (H : Hp) (d : PyData) : Prop := ∀ H1, Ex H H1 → ∀ Q : VK, (∀ v H2, Ex H1 H2 → Dx K H2 v d → Q v H2) → te σ H1 Q
theorem EvX.mono (e : Ex H H') (h : EvX K te σ H d) : EvX K te σ H' d := fun H1 a Q q => h H1 (e.trans a) Q q
end
end My
namespace PySem
namespace DM
open PySem
section
variable {prog : Program} {w : World} {K : Type} [DecidableEq K] {knd : KeyKind prog w K} {A : Around} {E : Value → Shared → Prop} {s : Shared}
/-- {**m, **n} -/
theorem star2_display {v0 v1 : Sem Value} {Q : Value → Shared → Prop}
    (h : wpAny (model prog w) A v0 (fun m s1 => ∃ (a : Addr) (more : List (K × Value)), m = .ref a ∧ s1.heap.DictOf knd a more ∧ s1.heap.DictOf knd s.heap.objs.size [] ∧ (a == sysModules) = false ∧ s.heap.objs.size ≠ a ∧ more.length ≤ sizeLine ∧
      ∀ h1, h1.DictOf knd s.heap.objs.size more → Heap.SameBut s.heap.objs.size s1.heap h1 →
        wpAny (model prog w) A v1 (fun m2 s2 => ∃ (b : Addr) (m1 more2 : List (K × Value)), m2 = .ref b ∧ s2.heap.DictOf knd b more2 ∧ s2.heap.DictOf knd s.heap.objs.size m1 ∧ (b == sysModules) = false ∧ s.heap.objs.size ≠ b ∧ m1.length + more2.length ≤ sizeLine ∧
          ∀ h2, h2.DictOf knd s.heap.objs.size (merged m1 more2) → Heap.SameBut s.heap.objs.size s2.heap h2 → Q (.ref s.heap.objs.size) { s2 with heap := h2 }) E
          { s1 with heap := h1 }) E { s with heap := s.heap.push { cls := .type "dict", data := .dict #[] } }) :
    wpAny (model prog w) A (dictDisplay [(none, v0), (none, v1)]) Q E s := by
  unfold dictDisplay
  dsimp only
  rw [List.forIn_cons]
  simp only [List.isEmpty_nil, if_true, pure_bind, bind_assoc]
  refine wpAny_bind (wpAny_alloc ?_)
  refine wpAny_bind (wpAny_holding (wpAny_mono h (fun m s1 hh => ?_) fun _ _ z => z))
  obtain ⟨a, more, rfl, ha, hp, na, ne, hz, k⟩ := hh
  have nd : (more.map (·.1)).Nodup := by
    obtain ⟨_, _, _, _, _, _, _, _, nd⟩ := ha
    exact nd
  refine wpAny_bind (wpAny_onRaise (wpAny_tryCatch (wpAny_onRaise (wpAny_holding (merge_into hp ha na ne (by rw [List.length_nil]; omega) fun h1 hd1 sm1 => ?_)))))
  rw [merged_nil_of_nodup more nd] at hd1
  have go := k h1 hd1 sm1
  rw [List.forIn_cons]
  simp only [List.isEmpty_nil, if_true, pure_bind, bind_assoc]
  refine wpAny_bind (wpAny_holding (wpAny_mono go (fun m s2 hh => ?_) fun _ _ z => z))
  obtain ⟨b, m1, more2, rfl, hb, hp2, nb, neb, hz2, k2⟩ := hh
  refine wpAny_bind (wpAny_onRaise (wpAny_tryCatch (wpAny_onRaise (wpAny_holding (merge_into hp2 hb nb neb hz2 fun h2 hd2 sm2 => ?_)))))
  simp only [List.forIn_nil, pure_bind, List.isEmpty_nil, if_true]
  exact wpAny_pure (k2 h2 hd2 sm2)
end
end DM
end PySem
namespace GL
open PySem PySem.Spec PyProof.Rows L2
/-- {**d, **e}: p the new dict -/
def tStar2 (te tf : TE) : TE := fun σ H Q => ∀ p, H p = none → te σ (upd H p (.dK [])) fun x H1 => H1 p = some (.dK []) ∧ ∃ (a : Addr) (more : List (Key × V)), x = .ref a ∧ Rd H1 a (.dK more) ∧ p ≠ a ∧ more.length ≤ 1000 ∧
  tf σ (upd H1 p (.dK more)) fun y H2 => H2 p = some (.dK more) ∧ ∃ (b : Addr) (more2 : List (Key × V)), y = .ref b ∧ Rd H2 b (.dK more2) ∧ p ≠ b ∧ more2.length ≤ 1000 ∧ Q (.ref p) (upd H2 p (.dK (mergeK more more2)))
theorem pe_star2 {X : Cx} {pos : Pos} {d e : Expr} {te tf : TE} (he : PE X d te) (hf : PE X e tf) : PE X (.Dict [none, none] [d, e] pos) (tStar2 te tf) := by
  constructor
  intro pins s σ H Q I q
  have hn := I.hok.fresh (Nat.le_refl s.heap.objs.size)
  have I1 := I.laid (a := s.heap.objs.size) (o := .dK []) (h' := s.heap.push { cls := .type "dict", data := .dict #[] }) (t' := s.toks) (fun _ _ q => Heap.get?_push_of_some _ q) (Nat.le_refl _) (dk_empty s.heap I.big)
  rw [arm_eval_Dict]
  show wpAny _ _ (standAt pos >>= fun _ => dictDisplay [(none, do let x ← eval d X.env; standAt pos; pure x), (none, do let x ← eval e X.env; standAt pos; pure x)]) _ _ _
  refine wpAny_bind (wpAny_standAt (DM.star2_display (knd := mixKind X.prog X.w) (wpAny_bind (thn (he.run pins _ σ _ _ I1 (q _ hn)) fun u s1 hh => wpAny_bind (wpAny_standAt (wpAny_pure ?_))))))
  obtain ⟨x, H1, I2, rx, hp, a, more, rfl, ra, ne, hz, k⟩ := hh
  cases (show u = Value.ref a from rx)
  obtain ⟨zp, sp0, vp, rp, dp⟩ := dk_of I2.hok hp
  cases rp
  obtain ⟨za, sa, va, rva, da⟩ := dk_rd I2.hok ra
  have lv : va.length = more.length := rva.length.symm
  refine ⟨a, va, rfl, da, dp, sa, ne, by rw [lv]; exact za, fun h1 hd1 sm1 => ?_⟩
  have ex1 : ∃ o, h1.get? s.heap.objs.size = some o := by
    obtain ⟨o, _, _, ho, _⟩ := hd1
    exact ⟨o, ho⟩
  have I3 := d_write (t' := s1.toks) I2 (by rw [hp]; exact True.intro) sm1 ex1 (dk_new za sp0 rva hd1)
  refine wpAny_bind (thn (hf.run pins _ σ _ _ I3 k) fun ws s2 hh2 => wpAny_bind (wpAny_standAt (wpAny_pure ?_)))
  obtain ⟨y, H2, I5, ry, e1, b, more2, rfl, rb, neb, hz2, q2⟩ := hh2
  cases (show ws = Value.ref b from ry)
  obtain ⟨z2, _, m1, r1, dd1⟩ := dk_of I5.hok e1
  obtain ⟨zb, sb, vb, rvb, db⟩ := dk_rd I5.hok rb
  have l1 : m1.length = more.length := r1.length.symm
  have l2 : vb.length = more2.length := rvb.length.symm
  refine ⟨b, m1, vb, rfl, db, dd1, sb, neb, by rw [l1, l2, sizeLine_eq]; omega, fun h2 a1 a2 => ?_⟩
  have lm := length_mergeK more2 more
  have I6 := d_write (t' := s2.toks) I5 (by rw [e1]; exact True.intro) a2 (by
    obtain ⟨o, _, _, ho, _⟩ := a1
    exact ⟨o, ho⟩) (dk_new (by rw [sizeLine_eq]; omega) sp0 (KV.merge rvb r1) a1)
  exact ⟨.ref s.heap.objs.size, _, I6, rfl, q2⟩
end GL
namespace L2
open PySem PySem.Spec PyProof.Rows
section
variable {X : Cx} {o e : Expr} {to te : TE}
def rSW : V → List V → Hp → VK → Prop := fun x xs H Q => ∃ a b, x = .str a ∧ xs = [.str b] ∧ Q (.bl (Txt.startswith a b)) H
theorem pe_startswith {apos pos : Pos} (ho : PE X o to) (he : PE X e te) (hs : starEach [e] X.env = [(false, eval e X.env)] := by rfl) (hbase : attributeBase o "startswith" X.env (eval o X.env) = eval o X.env := by rfl) (hline : (apos.endLine == pos.line) = true := by rfl) :
    PE X (.Call (.Attribute o "startswith" apos) [e] [] pos) (tM1 rSW to te) :=
  pe_m1 F.slot_str_startswith F.type_str_startswith mt_startswith ho he hs hbase hline
def rJoin (K : PySem.W.Frag) : V → List V → Hp → VK → Prop := fun x xs H Q => ∃ a p, ∃ ys : List Str, x = .str a ∧ xs = [.ref p] ∧ (SqL K H p (ys.map V.str) ∨ SqT K H p (ys.map V.str)) ∧
  (ys.map (·.length)).sum + ys.length * a.length ≤ 16777216 ∧ Q (.str (Txt.join a ys)) H
/-- str of a number or of a text -/
def rStrIS : List V → Hp → VK → Prop := fun xs H Q => (∃ i, xs = [.int i] ∧ i.natAbs.log2 < 1920 ∧ Q (.str (toString i)) H) ∨ (∃ a, xs = [.str a] ∧ Q (.str a) H)
theorem call_strIS : CallR X (.type "str") rStrIS := fun pins s σ H xs us Q I r q => by
  rcases q with q | q
  · exact call_str_int pins s σ H xs us Q I r q
  · exact SkE.call_str_str pins s σ H xs us Q I r q
end
end L2
namespace GL
open PySem PySem.Spec PyProof.Rows L2
section
variable {P : Program} {w : World} {K : PySem.W.Frag} {mg mb : Str → Option Value} {k : Nat} {fa a : Addr} {fd : FuncData} {x : Str} {sp : Sp} {s₁ : Shared} {vs : List Value} {ns : List Int}
/-- the law's call, from an abstract heap H that tracks at most the script at a -/
theorem law_core {H : Hp} (KX : K.In s₁.heap) (hns : s₁.heap.Ns mainGlobals mg) (hb : s₁.heap.Ns builtinsNs mb) (hbb : ∀ x : Str, x ≠ "__name__" → mb x = bootBuiltins x) (hlim : s₁.heap.NoLimit) (hg : s₁.gens = #[])
    (ha : s₁.heap.get? a = some { cls := .type "list", data := .seq vs.toArray }) (hr : Room k callerA)
    (F : ∀ base : Heap, K.In base → base.Ns mainGlobals mg → FnG P w K mg base CX0 k fa fd [x] sp) (hbind : ∀ (s : Shared) (u : Value), BindsTo s fd ⟨[u], []⟩ [(x, u)])
    (hO : Only H) (hok : HOk P w H s₁.heap) (hA : ∀ b, H b ≠ none → b = a) (hK : H a ≠ none → K.lookup a = none) (hsp : sp [.ref a] H (fun v _ => v = .bl true) fun _ _ _ => False) :
    codeAny (model P w) callerA (.call (.ref fa) ⟨[.ref a], []⟩) (fun r s' => r = .ok (.ret (.bool true)) ∧ OldK s₁.heap s'.heap ∧ s'.os = s₁.os ∧ AllBare s'.gens) s₁ := by
  have free : ∀ {b : Addr} {o : Obj} {es : Array DictEntry} {ep : Nat}, s₁.heap.get? b = some o → o.data = .dict es ep → H b = none := by
    intro b o es ep e d
    by_cases q : H b = none
    · exact q
    · cases hA b q
      rw [ha] at e
      cases e
      cases (show Data.seq vs.toArray _ = Data.dict es ep from d)
  have hid : ∀ {b : Addr} {m : Str → Option Value}, s₁.heap.Ns b m → (hidT s₁.heap H).Ns b m := fun ⟨o, es, ep, e, d, r⟩ => ⟨o, es, ep, hidT_get e (free e d), d, r⟩
  have inK : K.In (hidT s₁.heap H) := by
    intro b o e
    refine hidT_get (KX b o e) ?_
    by_cases q : H b = none
    · exact q
    · cases hA b q
      rw [hK q] at e
      cases e
  have lim : (hidT s₁.heap H).NoLimit := by
    obtain ⟨mc, h1, h2⟩ := hlim
    exact ⟨mc, hid h1, h2⟩
  have e0 : Env0 P w K mg (hidT s₁.heap H) callerA [] s₁ H := by
    refine ⟨rfl, ⟨inK, hid hns, ⟨mb, hid hb, hbb⟩, lim⟩, fun b o e => of_hidT e, Nat.le_of_eq (hidT_size _ _), trivial, fun b z => ?_, hok, .of_eq hg⟩
    cases (show b ∈ ([] : List Addr) from z)
  have run := (F _ inK (hid hns)).goes (A := callerA) (outer := []) (vs := [.ref a]) (us := [.ref a]) rfl hr e0 (hbind s₁ (.ref a)) (.cons rfl .nil) hsp
  refine codeAny_mono run ?_
  intro r s' z
  match r, z with
  | .error e, z => exact z.elim
  | .ok .next, z => exact z.elim
  | .ok .brk, z => exact z.elim
  | .ok .cont, z => exact z.elim
  | .ok (.ret u), z =>
    obtain ⟨v, H', os, bare, un, hok', r', q⟩ := z
    cases (show v = .bl true from q)
    obtain rfl : u = Value.bool true := r'
    refine ⟨rfl, OldK.of_keep fun b o e => ?_, os, bare⟩
    rcases hO b with q | ⟨ob, xs, q⟩
    · exact un.keep b o e q (List.not_mem_nil) (List.not_mem_nil)
    · obtain ⟨e1, _⟩ := hok b _ q
      obtain ⟨e2, _⟩ := hok' b _ (un.frzs b ob _ q)
      rw [e] at e1
      cases e1
      exact e2
/-- a heap that tracks one object -/
def one (a : Addr) (o : HO) : Hp := fun b => if b = a then some o else none
theorem one_off {a b : Addr} {o : HO} (h : b ≠ a) : one a o b = none := if_neg h
theorem law_at (KX : K.In s₁.heap) (hns : s₁.heap.Ns mainGlobals mg) (hb : s₁.heap.Ns builtinsNs mb) (hbb : ∀ x : Str, x ≠ "__name__" → mb x = bootBuiltins x) (hlim : s₁.heap.NoLimit) (hg : s₁.gens = #[])
    (ha : s₁.heap.get? a = some { cls := .type "list", data := .seq vs.toArray }) (hi : IntsAre vs ns) (hl : ns.length ≤ sizeLine) (hr : Room k callerA)
    (F : ∀ base : Heap, K.In base → base.Ns mainGlobals mg → FnG P w K mg base CX0 k fa fd [x] sp) (hbind : ∀ (s : Shared) (u : Value), BindsTo s fd ⟨[u], []⟩ [(x, u)])
    (hsp : ∀ H : Hp, Only H → SqL K H a (ns.map V.int) → sp [.ref a] H (fun v _ => v = .bl true) fun _ _ _ => False) :
    codeAny (model P w) callerA (.call (.ref fa) ⟨[.ref a], []⟩) (fun r s' => r = .ok (.ret (.bool true)) ∧ OldK s₁.heap s'.heap ∧ s'.os = s₁.os ∧ AllBare s'.gens) s₁ := by
  have rv := vals_ints hi
  have lenV := hi.length
  cases hk : K.lookup a with
  | some o =>
    have e := KX a o hk
    rw [ha] at e
    cases e
    have O : Only fun _ => none := fun _ => .inl rfl
    exact law_core KX hns hb hbb hlim hg ha hr F hbind O (fun b u z => nomatch z) (fun b z => absurd rfl z) (fun z => absurd rfl z) (hsp _ O (.inr ⟨_, vs.toArray, _, hk, rfl, rfl, rfl, by rw [List.size_toArray, lenV]; exact hl, by simpa using rv⟩))
  | none =>
    have at_ : one a (.frz { cls := .type "list", data := .seq vs.toArray } (.lst (ns.map V.int))) a = some (.frz { cls := .type "list", data := .seq vs.toArray } (.lst (ns.map V.int))) := if_pos rfl
    have O : Only (one a (.frz { cls := .type "list", data := .seq vs.toArray } (.lst (ns.map V.int)))) := by
      intro b
      by_cases h : b = a
      · subst h
        exact .inr ⟨_, _, at_⟩
      · exact .inl (one_off h)
    refine law_core KX hns hb hbb hlim hg ha hr F hbind O (fun b u z => ?_) (fun b z => ?_) (fun _ => hk) (hsp _ O (.inl (.inr ⟨_, at_⟩)))
    · by_cases h : b = a
      · subst h
        cases at_.symm.trans z
        exact ⟨ha, by rw [List.length_map]; exact hl, vs, _, rv, ha⟩
      · cases (one_off h).symm.trans z
    · by_cases h : b = a
      · exact h
      · exact absurd (one_off h) z
end
end GL
namespace HK
open PySem PySem.Spec PyProof.Rows L2 He
/-- a law: F gives the written part, the function object, the promise over every base -/
theorem walkH {l : PySem.W.OpenLaw} {k : Nat} {q : Program} {loose : List Str} {XP : (Str → Option Value) → Heap → Prop} {YP : World → Heap → Prop} {d : DefRec} {sp : PySem.W.Frag → Sp} {x : Str}
    (hn : l.most = some 63) (hdf : d.params.defaults = []) (hr : Room k callerA)
    (F : ∀ (w : World) (mg : Str → Option Value) (fa : Addr) (h : Heap), YP w h → h.Ns mainGlobals mg → mg d.name = some (.ref fa) →
      ∃ (K : PySem.W.Frag) (fd : FuncData), K.In h ∧ (∀ (s : Shared) (u : Value), BindsTo s fd ⟨[u], []⟩ [(x, u)]) ∧ ∀ base : Heap, K.In base → base.Ns mainGlobals mg → GL.FnG l.prog w K mg base CX0 k fa fd [x] (sp K))
    (hsp : ∀ (K : PySem.W.Frag) (H : Hp) (a : Addr) (ns : List Int), ns.length ≤ 63 → SqL K H a (ns.map V.int) → sp K [.ref a] H (fun v _ => v = .bl true) fun _ _ _ => False) :
    PySem.W.WalkO q loose XP YP l.row.toRowW d [] (fun f vs => PySem.call f vs) := by
  refine Att.attach_call hn hdf fun w s₀ s₁ mg mb fa o pm cd doc a vs ns G Y ho hd hcd hmg hobj hints hlen hg => ?_
  obtain ⟨K, fd, KX, hb, hF⟩ := F w mg fa _ Y G.T.g hmg
  exact GL.law_at KX G.T.g G.T.b G.T.builtins G.T.nolimit hg hobj hints (Nat.le_trans hlen (by decide)) hr hF hb fun H _ hS => hsp _ H a ns hlen hS
end HK
namespace My
open PySem PySem.Spec PyProof.Rows L2 GL
abbrev N_is_an_integer : List Str := ["value"]
theorem sc_is_an_integer : FnScope N_is_an_integer ["value"] (defScope s_is_an_integer) := ⟨rfl, rfl, rfl, by decide +kernel, rfl, by decide +kernel, by decide +kernel⟩
abbrev N_is_list : List Str := ["value"]
theorem sc_is_list : FnScope N_is_list ["value"] (defScope s_is_list) := ⟨rfl, rfl, rfl, by decide +kernel, rfl, by decide +kernel, by decide +kernel⟩
abbrev N_is_word : List Str := ["value", "words"]
theorem sc_is_word : FnScope N_is_word ["value", "words"] (defScope s_is_word) := ⟨rfl, rfl, rfl, by decide +kernel, rfl, by decide +kernel, by decide +kernel⟩
abbrev N_are_different_words : List Str := ["values", "words", "value"]
theorem sc_are_different_words : FnScope N_are_different_words ["values", "words"] (defScope s_are_different_words) := ⟨rfl, rfl, rfl, by decide +kernel, rfl, by decide +kernel, by decide +kernel⟩
abbrev N_has_words_of : List Str := ["value", "words"]
theorem sc_has_words_of : FnScope N_has_words_of ["value", "words"] (defScope s_has_words_of) := ⟨rfl, rfl, rfl, by decide +kernel, rfl, by decide +kernel, by decide +kernel⟩
abbrev N_tests_are_ahead : List Str := ["row", "word", "behind"]
theorem sc_tests_are_ahead : FnScope N_tests_are_ahead ["row", "word"] (defScope s_tests_are_ahead) := ⟨rfl, rfl, rfl, by decide +kernel, rfl, by decide +kernel, by decide +kernel⟩
abbrev N_off_has_home : List Str := ["row"]
theorem sc_off_has_home : FnScope N_off_has_home ["row"] (defScope s_off_has_home) := ⟨rfl, rfl, rfl, by decide +kernel, rfl, by decide +kernel, by decide +kernel⟩
abbrev N_is_take_row : List Str := ["value"]
theorem sc_is_take_row : FnScope N_is_take_row ["value"] (defScope s_is_take_row) := ⟨rfl, rfl, rfl, by decide +kernel, rfl, by decide +kernel, by decide +kernel⟩
abbrev N_is_give_row : List Str := ["value"]
theorem sc_is_give_row : FnScope N_is_give_row ["value"] (defScope s_is_give_row) := ⟨rfl, rfl, rfl, by decide +kernel, rfl, by decide +kernel, by decide +kernel⟩
abbrev N_is_move_row : List Str := ["value"]
theorem sc_is_move_row : FnScope N_is_move_row ["value"] (defScope s_is_move_row) := ⟨rfl, rfl, rfl, by decide +kernel, rfl, by decide +kernel, by decide +kernel⟩
abbrev N_is_lift_row : List Str := ["value"]
theorem sc_is_lift_row : FnScope N_is_lift_row ["value"] (defScope s_is_lift_row) := ⟨rfl, rfl, rfl, by decide +kernel, rfl, by decide +kernel, by decide +kernel⟩
abbrev N_is_row : List Str := ["kind", "value", "check"]
theorem sc_is_row : FnScope N_is_row ["kind", "value"] (defScope s_is_row) := ⟨rfl, rfl, rfl, by decide +kernel, rfl, by decide +kernel, by decide +kernel⟩
abbrev N_fits_batch : List Str := ["row", "batch"]
theorem sc_fits_batch : FnScope N_fits_batch ["row", "batch"] (defScope s_fits_batch) := ⟨rfl, rfl, rfl, by decide +kernel, rfl, by decide +kernel, by decide +kernel⟩
abbrev N_fits_shared : List Str := ["row", "shared"]
theorem sc_fits_shared : FnScope N_fits_shared ["row", "shared"] (defScope s_fits_shared) := ⟨rfl, rfl, rfl, by decide +kernel, rfl, by decide +kernel, by decide +kernel⟩
abbrev N_check_rows : List Str := ["rows", "kind", "row"]
theorem sc_check_rows : FnScope N_check_rows ["rows"] (defScope s_check_rows) := ⟨rfl, rfl, rfl, by decide +kernel, rfl, by decide +kernel, by decide +kernel⟩
abbrev N_check_fails : List Str := ["value"]
theorem sc_check_fails : FnScope N_check_fails ["value"] (defScope s_check_fails) := ⟨rfl, rfl, rfl, by decide +kernel, rfl, by decide +kernel, by decide +kernel⟩
abbrev N_check_bool : List Str := ["name", "value"]
theorem sc_check_bool : FnScope N_check_bool ["name", "value"] (defScope s_check_bool) := ⟨rfl, rfl, rfl, by decide +kernel, rfl, by decide +kernel, by decide +kernel⟩
abbrev N_check_holds : List Str := ["value"]
theorem sc_check_holds : FnScope N_check_holds ["value"] (defScope s_check_holds) := ⟨rfl, rfl, rfl, by decide +kernel, rfl, by decide +kernel, by decide +kernel⟩
abbrev N_check_batch : List Str := ["value"]
theorem sc_check_batch : FnScope N_check_batch ["value"] (defScope s_check_batch) := ⟨rfl, rfl, rfl, by decide +kernel, rfl, by decide +kernel, by decide +kernel⟩
abbrev N_check_row_kind : List Str := ["value"]
theorem sc_check_row_kind : FnScope N_check_row_kind ["value"] (defScope s_check_row_kind) := ⟨rfl, rfl, rfl, by decide +kernel, rfl, by decide +kernel, by decide +kernel⟩
abbrev N_Binit : List Str := ["self", "take", "give", "move", "lift", "fails", "shared", "holds", "batch", "settles", "rows", "sorted_holds", "kind"]
theorem sc_Binit : FnScope N_Binit ["self", "take", "give", "move", "lift", "fails", "shared", "holds", "batch", "settles"] (defScope s_Binit) := ⟨rfl, rfl, rfl, by decide +kernel, rfl, by decide +kernel, by decide +kernel⟩
abbrev N_Beq : List Str := ["self", "other"]
theorem sc_Beq : FnScope N_Beq ["self", "other"] (defScope s_Beq) := ⟨rfl, rfl, rfl, by decide +kernel, rfl, by decide +kernel, by decide +kernel⟩
abbrev N_Brepr : List Str := ["self", "parts", "name", "value"]
theorem sc_Brepr : FnScope N_Brepr ["self"] (defScope s_Brepr) := ⟨rfl, rfl, rfl, by decide +kernel, rfl, by decide +kernel, by decide +kernel⟩
abbrev N_Bfails : List Str := ["self"]
theorem sc_Bfails : FnScope N_Bfails ["self"] (defScope s_Bfails) := ⟨rfl, rfl, rfl, by decide +kernel, rfl, by decide +kernel, by decide +kernel⟩
abbrev N_Bshared : List Str := ["self"]
theorem sc_Bshared : FnScope N_Bshared ["self"] (defScope s_Bshared) := ⟨rfl, rfl, rfl, by decide +kernel, rfl, by decide +kernel, by decide +kernel⟩
abbrev N_Bholds : List Str := ["self"]
theorem sc_Bholds : FnScope N_Bholds ["self"] (defScope s_Bholds) := ⟨rfl, rfl, rfl, by decide +kernel, rfl, by decide +kernel, by decide +kernel⟩
abbrev N_Bbatch : List Str := ["self"]
theorem sc_Bbatch : FnScope N_Bbatch ["self"] (defScope s_Bbatch) := ⟨rfl, rfl, rfl, by decide +kernel, rfl, by decide +kernel, by decide +kernel⟩
abbrev N_Bsettles : List Str := ["self"]
theorem sc_Bsettles : FnScope N_Bsettles ["self"] (defScope s_Bsettles) := ⟨rfl, rfl, rfl, by decide +kernel, rfl, by decide +kernel, by decide +kernel⟩
abbrev N_Brow : List Str := ["self", "kind"]
theorem sc_Brow : FnScope N_Brow ["self", "kind"] (defScope s_Brow) := ⟨rfl, rfl, rfl, by decide +kernel, rfl, by decide +kernel, by decide +kernel⟩
abbrev N_is_between : List Str := ["value", "least", "most"]
theorem sc_is_between : FnScope N_is_between ["value", "least", "most"] (defScope s_is_between) := ⟨rfl, rfl, rfl, by decide +kernel, rfl, by decide +kernel, by decide +kernel⟩
abbrev N_is_numeral : List Str := ["word", "digits", "digit"]
theorem sc_is_numeral : FnScope N_is_numeral ["word"] (defScope s_is_numeral) := ⟨rfl, rfl, rfl, by decide +kernel, rfl, by decide +kernel, by decide +kernel⟩
abbrev N_line_from : List Str := ["parts", "part"]
theorem sc_line_from : FnScope N_line_from ["parts"] (defScope s_line_from) := ⟨rfl, rfl, rfl, by decide +kernel, rfl, by decide +kernel, by decide +kernel⟩
abbrev N_text_of : List Str := ["book", "lines", "kind", "line"]
theorem sc_text_of : FnScope N_text_of ["book"] (defScope s_text_of) := ⟨rfl, rfl, rfl, by decide +kernel, rfl, by decide +kernel, by decide +kernel⟩
abbrev N_read_holds : List Str := ["words", "holds", "kind"]
theorem sc_read_holds : FnScope N_read_holds ["words"] (defScope s_read_holds) := ⟨rfl, rfl, rfl, by decide +kernel, rfl, by decide +kernel, by decide +kernel⟩
abbrev N_read_part : List Str := ["name", "words", "batch"]
theorem sc_read_part : FnScope N_read_part ["name", "words"] (defScope s_read_part) := ⟨rfl, rfl, rfl, by decide +kernel, rfl, by decide +kernel, by decide +kernel⟩
abbrev N_read_line : List Str := ["name", "line", "words", "part"]
theorem sc_read_line : FnScope N_read_line ["name", "line"] (defScope s_read_line) := ⟨rfl, rfl, rfl, by decide +kernel, rfl, by decide +kernel, by decide +kernel⟩
abbrev N_read_book : List Str := ["text", "lines", "parts", "position", "name", "told"]
theorem sc_read_book : FnScope N_read_book ["text"] (defScope s_read_book) := ⟨rfl, rfl, rfl, by decide +kernel, rfl, by decide +kernel, by decide +kernel⟩
abbrev N_Lpot : List Str := ["_law_script", "_law_k", "_law_cell"]
theorem sc_Lpot : FnScope N_Lpot ["_law_script", "_law_k"] (defScope s_Lpot) := ⟨rfl, rfl, rfl, by decide +kernel, rfl, by decide +kernel, by decide +kernel⟩
abbrev N_Ldraw : List Str := ["_law_pot_here", "_law_sides", "_law_digit"]
theorem sc_Ldraw : FnScope N_Ldraw ["_law_pot_here", "_law_sides"] (defScope s_Ldraw) := ⟨rfl, rfl, rfl, by decide +kernel, rfl, by decide +kernel, by decide +kernel⟩
abbrev N_Lpick : List Str := ["_law_pot_here", "_law_some"]
theorem sc_Lpick : FnScope N_Lpick ["_law_pot_here", "_law_some"] (defScope s_Lpick) := ⟨rfl, rfl, rfl, by decide +kernel, rfl, by decide +kernel, by decide +kernel⟩
abbrev N_Lsequences : List Str := ["_law_words", "_law_found", "_law_longer", "_law_turn", "_law_later", "_law_some", "_law_word"]
theorem sc_Lsequences : FnScope N_Lsequences ["_law_words"] (defScope s_Lsequences) := ⟨rfl, rfl, rfl, by decide +kernel, rfl, by decide +kernel, by decide +kernel⟩
abbrev N_Lis_ahead : List Str := ["_law_some", "_law_word", "_law_later"]
theorem sc_Lis_ahead : FnScope N_Lis_ahead ["_law_some", "_law_word", "_law_later"] (defScope s_Lis_ahead) := ⟨rfl, rfl, rfl, by decide +kernel, rfl, by decide +kernel, by decide +kernel⟩
abbrev N_Lis_take : List Str := ["_law_some", "_law_amount"]
theorem sc_Lis_take : FnScope N_Lis_take ["_law_some", "_law_amount"] (defScope s_Lis_take) := ⟨rfl, rfl, rfl, by decide +kernel, rfl, by decide +kernel, by decide +kernel⟩
abbrev N_Lis_give : List Str := ["_law_some"]
theorem sc_Lis_give : FnScope N_Lis_give ["_law_some"] (defScope s_Lis_give) := ⟨rfl, rfl, rfl, by decide +kernel, rfl, by decide +kernel, by decide +kernel⟩
abbrev N_Lis_move : List Str := ["_law_some", "_law_is_shared", "_law_word"]
theorem sc_Lis_move : FnScope N_Lis_move ["_law_some", "_law_is_shared"] (defScope s_Lis_move) := ⟨rfl, rfl, rfl, by decide +kernel, rfl, by decide +kernel, by decide +kernel⟩
abbrev N_Ltakes : List Str := ["_law_amount", "_law_some"]
theorem sc_Ltakes : FnScope N_Ltakes ["_law_amount"] (defScope s_Ltakes) := ⟨rfl, rfl, rfl, by decide +kernel, rfl, by decide +kernel, by decide +kernel⟩
abbrev N_Lgives : List Str := ["_law_some"]
theorem sc_Lgives : FnScope N_Lgives [] (defScope s_Lgives) := ⟨rfl, rfl, rfl, by decide +kernel, rfl, by decide +kernel, by decide +kernel⟩
abbrev N_Lmoves : List Str := ["_law_is_shared", "_law_words", "_law_some"]
theorem sc_Lmoves : FnScope N_Lmoves ["_law_is_shared"] (defScope s_Lmoves) := ⟨rfl, rfl, rfl, by decide +kernel, rfl, by decide +kernel, by decide +kernel⟩
abbrev N_Llifts : List Str := []
theorem sc_Llifts : FnScope N_Llifts [] (defScope s_Llifts) := ⟨rfl, rfl, rfl, by decide +kernel, rfl, by decide +kernel, by decide +kernel⟩
abbrev N_Lbook : List Str := ["_law_rules"]
theorem sc_Lbook : FnScope N_Lbook ["_law_rules"] (defScope s_Lbook) := ⟨rfl, rfl, rfl, by decide +kernel, rfl, by decide +kernel, by decide +kernel⟩
abbrev N_Lmixed : List Str := ["_law_pot_here", "_law_some", "_law_pack", "_law_turn"]
theorem sc_Lmixed : FnScope N_Lmixed ["_law_pot_here", "_law_some"] (defScope s_Lmixed) := ⟨rfl, rfl, rfl, by decide +kernel, rfl, by decide +kernel, by decide +kernel⟩
abbrev N_Lkinds_of : List Str := ["_law_some", "_law_sort"]
theorem sc_Lkinds_of : FnScope N_Lkinds_of ["_law_some"] (defScope s_Lkinds_of) := ⟨rfl, rfl, rfl, by decide +kernel, rfl, by decide +kernel, by decide +kernel⟩
abbrev N_Ltext : List Str := ["_law_rules", "_law_found", "_law_sort"]
theorem sc_Ltext : FnScope N_Ltext ["_law_rules"] (defScope s_Ltext) := ⟨rfl, rfl, rfl, by decide +kernel, rfl, by decide +kernel, by decide +kernel⟩
abbrev N_Lany_rules : List Str := ["_law_pot_here", "_law_moves_some", "_law_found", "_law_some", "_law_sort", "_law_near"]
theorem sc_Lany_rules : FnScope N_Lany_rules ["_law_pot_here", "_law_moves_some"] (defScope s_Lany_rules) := ⟨rfl, rfl, rfl, by decide +kernel, rfl, by decide +kernel, by decide +kernel⟩
abbrev N_Lturned_rules : List Str := ["_law_pot_here", "_law_rules", "_law_moves_some", "_law_found", "_law_fresh", "_law_key"]
theorem sc_Lturned_rules : FnScope N_Lturned_rules ["_law_pot_here", "_law_rules", "_law_moves_some"] (defScope s_Lturned_rules) := ⟨rfl, rfl, rfl, by decide +kernel, rfl, by decide +kernel, by decide +kernel⟩
abbrev N_Ltold : List Str := ["_law_volume", "_law_rows_told", "_law_sort"]
theorem sc_Ltold : FnScope N_Ltold ["_law_volume"] (defScope s_Ltold) := ⟨rfl, rfl, rfl, by decide +kernel, rfl, by decide +kernel, by decide +kernel⟩
abbrev N_Lboth_ways : List Str := ["_law_rules", "_law_made", "_law_spelled", "_law_near", "_law_wanted", "_law_sort"]
theorem sc_Lboth_ways : FnScope N_Lboth_ways ["_law_rules"] (defScope s_Lboth_ways) := ⟨rfl, rfl, rfl, by decide +kernel, rfl, by decide +kernel, by decide +kernel⟩
abbrev N_Lchanged : List Str := ["_law_rules", "_law_key", "_law_entry"]
theorem sc_Lchanged : FnScope N_Lchanged ["_law_rules", "_law_key", "_law_entry"] (defScope s_Lchanged) := ⟨rfl, rfl, rfl, by decide +kernel, rfl, by decide +kernel, by decide +kernel⟩
abbrev N_Lright : List Str := ["_law_pot_here", "_law_moves_some", "_law_rules", "_law_turn", "_law_other", "_law_is_same", "_law_some", "_law_pack", "_law_made", "_law_spelled", "_law_near", "_law_lot"]
theorem sc_Lright : FnScope N_Lright ["_law_pot_here"] (defScope s_Lright) := ⟨rfl, rfl, rfl, by decide +kernel, rfl, by decide +kernel, by decide +kernel⟩
abbrev N_law : List Str := ["_law_script", "_law_k"]
theorem sc_law : FnScope N_law ["_law_script"] (defScope s_law) := ⟨rfl, rfl, rfl, by decide +kernel, rfl, by decide +kernel, by decide +kernel⟩
def kbA {α : Type} (us ws : List α) : List α := us ++ ws
set_option genInjectivity false in
set_option genSizeOf false in
structure Txt (K : PySem.W.Frag) (mg : Str → Option Value) (w : World) where
  C : Addr
  c_Book : Cls K C
  m_Book : mg "Book" = some (.ref C)
  n_parts : NoAttr K C "_parts"
  x_class : PySem.W.findIn K (.ref C) "__class__" = some (some (.builtin "object.__class__"))
  x_get : PySem.W.specialIn K (.builtin "object.__class__") "__get__" = some (some (.builtin "getset_descriptor.__get__"))
  x_tk : PySem.W.takesIn K (.builtin "object.__class__") = some true
  x_mro : PySem.W.mroIn K C (.type "object") = some true
  x_ne : PySem.W.findIn K (.ref C) "__ne__" = some (some (.builtin "object.__ne__"))
  x_cls : PySem.W.isClsIn K C = true
  x_ty : PySem.W.typeIn K (.ref C) = some (.type "type")
  f_is_an_integer : Addr
  fd_is_an_integer : FuncData
  F_is_an_integer : L2.Fun K "is_an_integer" "is_an_integer" s_is_an_integer f_is_an_integer fd_is_an_integer
  b_is_an_integer : Binds K fd_is_an_integer ["value"] []
  m_is_an_integer : mg "is_an_integer" = some (.ref f_is_an_integer)
  f_is_list : Addr
  fd_is_list : FuncData
  F_is_list : L2.Fun K "is_list" "is_list" s_is_list f_is_list fd_is_list
  b_is_list : Binds K fd_is_list ["value"] []
  m_is_list : mg "is_list" = some (.ref f_is_list)
  f_is_word : Addr
  fd_is_word : FuncData
  F_is_word : L2.Fun K "is_word" "is_word" s_is_word f_is_word fd_is_word
  b_is_word : Binds K fd_is_word ["value", "words"] []
  m_is_word : mg "is_word" = some (.ref f_is_word)
  f_are_different_words : Addr
  fd_are_different_words : FuncData
  F_are_different_words : L2.Fun K "are_different_words" "are_different_words" s_are_different_words f_are_different_words fd_are_different_words
  b_are_different_words : Binds K fd_are_different_words ["values", "words"] []
  m_are_different_words : mg "are_different_words" = some (.ref f_are_different_words)
  f_has_words_of : Addr
  fd_has_words_of : FuncData
  F_has_words_of : L2.Fun K "has_words_of" "has_words_of" s_has_words_of f_has_words_of fd_has_words_of
  b_has_words_of : Binds K fd_has_words_of ["value", "words"] []
  m_has_words_of : mg "has_words_of" = some (.ref f_has_words_of)
  f_tests_are_ahead : Addr
  fd_tests_are_ahead : FuncData
  F_tests_are_ahead : L2.Fun K "tests_are_ahead" "tests_are_ahead" s_tests_are_ahead f_tests_are_ahead fd_tests_are_ahead
  b_tests_are_ahead : Binds K fd_tests_are_ahead ["row", "word"] []
  m_tests_are_ahead : mg "tests_are_ahead" = some (.ref f_tests_are_ahead)
  f_off_has_home : Addr
  fd_off_has_home : FuncData
  F_off_has_home : L2.Fun K "off_has_home" "off_has_home" s_off_has_home f_off_has_home fd_off_has_home
  b_off_has_home : Binds K fd_off_has_home ["row"] []
  m_off_has_home : mg "off_has_home" = some (.ref f_off_has_home)
  f_is_take_row : Addr
  fd_is_take_row : FuncData
  F_is_take_row : L2.Fun K "is_take_row" "is_take_row" s_is_take_row f_is_take_row fd_is_take_row
  b_is_take_row : Binds K fd_is_take_row ["value"] []
  m_is_take_row : mg "is_take_row" = some (.ref f_is_take_row)
  f_is_give_row : Addr
  fd_is_give_row : FuncData
  F_is_give_row : L2.Fun K "is_give_row" "is_give_row" s_is_give_row f_is_give_row fd_is_give_row
  b_is_give_row : Binds K fd_is_give_row ["value"] []
  m_is_give_row : mg "is_give_row" = some (.ref f_is_give_row)
  f_is_move_row : Addr
  fd_is_move_row : FuncData
  F_is_move_row : L2.Fun K "is_move_row" "is_move_row" s_is_move_row f_is_move_row fd_is_move_row
  b_is_move_row : Binds K fd_is_move_row ["value"] []
  m_is_move_row : mg "is_move_row" = some (.ref f_is_move_row)
  f_is_lift_row : Addr
  fd_is_lift_row : FuncData
  F_is_lift_row : L2.Fun K "is_lift_row" "is_lift_row" s_is_lift_row f_is_lift_row fd_is_lift_row
  b_is_lift_row : Binds K fd_is_lift_row ["value"] []
  m_is_lift_row : mg "is_lift_row" = some (.ref f_is_lift_row)
  f_is_row : Addr
  fd_is_row : FuncData
  F_is_row : L2.Fun K "is_row" "is_row" s_is_row f_is_row fd_is_row
  b_is_row : Binds K fd_is_row ["kind", "value"] []
  m_is_row : mg "is_row" = some (.ref f_is_row)
  f_fits_batch : Addr
  fd_fits_batch : FuncData
  F_fits_batch : L2.Fun K "fits_batch" "fits_batch" s_fits_batch f_fits_batch fd_fits_batch
  b_fits_batch : Binds K fd_fits_batch ["row", "batch"] []
  m_fits_batch : mg "fits_batch" = some (.ref f_fits_batch)
  f_fits_shared : Addr
  fd_fits_shared : FuncData
  F_fits_shared : L2.Fun K "fits_shared" "fits_shared" s_fits_shared f_fits_shared fd_fits_shared
  b_fits_shared : Binds K fd_fits_shared ["row", "shared"] []
  m_fits_shared : mg "fits_shared" = some (.ref f_fits_shared)
  f_check_rows : Addr
  fd_check_rows : FuncData
  F_check_rows : L2.Fun K "check_rows" "check_rows" s_check_rows f_check_rows fd_check_rows
  b_check_rows : Binds K fd_check_rows ["rows"] []
  m_check_rows : mg "check_rows" = some (.ref f_check_rows)
  f_check_fails : Addr
  fd_check_fails : FuncData
  F_check_fails : L2.Fun K "check_fails" "check_fails" s_check_fails f_check_fails fd_check_fails
  b_check_fails : Binds K fd_check_fails ["value"] []
  m_check_fails : mg "check_fails" = some (.ref f_check_fails)
  f_check_bool : Addr
  fd_check_bool : FuncData
  F_check_bool : L2.Fun K "check_bool" "check_bool" s_check_bool f_check_bool fd_check_bool
  b_check_bool : Binds K fd_check_bool ["name", "value"] []
  m_check_bool : mg "check_bool" = some (.ref f_check_bool)
  f_check_holds : Addr
  fd_check_holds : FuncData
  F_check_holds : L2.Fun K "check_holds" "check_holds" s_check_holds f_check_holds fd_check_holds
  b_check_holds : Binds K fd_check_holds ["value"] []
  m_check_holds : mg "check_holds" = some (.ref f_check_holds)
  f_check_batch : Addr
  fd_check_batch : FuncData
  F_check_batch : L2.Fun K "check_batch" "check_batch" s_check_batch f_check_batch fd_check_batch
  b_check_batch : Binds K fd_check_batch ["value"] []
  m_check_batch : mg "check_batch" = some (.ref f_check_batch)
  f_check_row_kind : Addr
  fd_check_row_kind : FuncData
  F_check_row_kind : L2.Fun K "check_row_kind" "check_row_kind" s_check_row_kind f_check_row_kind fd_check_row_kind
  b_check_row_kind : Binds K fd_check_row_kind ["value"] []
  m_check_row_kind : mg "check_row_kind" = some (.ref f_check_row_kind)
  f_Binit : Addr
  fd_Binit : FuncData
  F_Binit : L2.Fun K "__init__" "Book.__init__" s_Binit f_Binit fd_Binit
  mk_Book : Mk K C f_Binit
  k_Binit : KBn K fd_Binit ["self", "take", "give", "move", "lift", "fails", "shared", "holds", "batch", "settles"] 1 ["take", "give", "move", "lift", "fails", "shared", "holds", "batch", "settles"] kbA kbA
  k_Binit2 : KBn K fd_Binit ["self", "take", "give", "move", "lift", "fails", "shared", "holds", "batch", "settles"] 1 ["take", "give", "move", "lift", "fails", "holds", "batch", "shared", "settles"] (fun us ws => sel us [] ws [(0, 0), (2, 0), (2, 1), (2, 2), (2, 3), (2, 4), (2, 7), (2, 5), (2, 6), (2, 8)]) (fun vs zs => sel vs [] zs [(0, 0), (2, 0), (2, 1), (2, 2), (2, 3), (2, 4), (2, 7), (2, 5), (2, 6), (2, 8)])
  f_Beq : Addr
  fd_Beq : FuncData
  F_Beq : L2.Fun K "__eq__" "Book.__eq__" s_Beq f_Beq fd_Beq
  b_Beq : Binds K fd_Beq ["self", "other"] []
  M_Beq : Meth K C "__eq__" f_Beq
  f_Brepr : Addr
  fd_Brepr : FuncData
  F_Brepr : L2.Fun K "__repr__" "Book.__repr__" s_Brepr f_Brepr fd_Brepr
  b_Brepr : Binds K fd_Brepr ["self"] []
  M_Brepr : Meth K C "__repr__" f_Brepr
  f_Bfails : Addr
  fd_Bfails : FuncData
  F_Bfails : L2.Fun K "fails" "Book.fails" s_Bfails f_Bfails fd_Bfails
  b_Bfails : Binds K fd_Bfails ["self"] []
  p_Bfails : Addr
  P_Bfails : PropOf K C "fails" p_Bfails f_Bfails
  f_Bshared : Addr
  fd_Bshared : FuncData
  F_Bshared : L2.Fun K "shared" "Book.shared" s_Bshared f_Bshared fd_Bshared
  b_Bshared : Binds K fd_Bshared ["self"] []
  p_Bshared : Addr
  P_Bshared : PropOf K C "shared" p_Bshared f_Bshared
  f_Bholds : Addr
  fd_Bholds : FuncData
  F_Bholds : L2.Fun K "holds" "Book.holds" s_Bholds f_Bholds fd_Bholds
  b_Bholds : Binds K fd_Bholds ["self"] []
  p_Bholds : Addr
  P_Bholds : PropOf K C "holds" p_Bholds f_Bholds
  f_Bbatch : Addr
  fd_Bbatch : FuncData
  F_Bbatch : L2.Fun K "batch" "Book.batch" s_Bbatch f_Bbatch fd_Bbatch
  b_Bbatch : Binds K fd_Bbatch ["self"] []
  p_Bbatch : Addr
  P_Bbatch : PropOf K C "batch" p_Bbatch f_Bbatch
  f_Bsettles : Addr
  fd_Bsettles : FuncData
  F_Bsettles : L2.Fun K "settles" "Book.settles" s_Bsettles f_Bsettles fd_Bsettles
  b_Bsettles : Binds K fd_Bsettles ["self"] []
  p_Bsettles : Addr
  P_Bsettles : PropOf K C "settles" p_Bsettles f_Bsettles
  f_Brow : Addr
  fd_Brow : FuncData
  F_Brow : L2.Fun K "row" "Book.row" s_Brow f_Brow fd_Brow
  b_Brow : Binds K fd_Brow ["self", "kind"] []
  M_Brow : Meth K C "row" f_Brow
  f_is_between : Addr
  fd_is_between : FuncData
  F_is_between : L2.Fun K "is_between" "is_between" s_is_between f_is_between fd_is_between
  b_is_between : Binds K fd_is_between ["value", "least", "most"] []
  m_is_between : mg "is_between" = some (.ref f_is_between)
  f_is_numeral : Addr
  fd_is_numeral : FuncData
  F_is_numeral : L2.Fun K "is_numeral" "is_numeral" s_is_numeral f_is_numeral fd_is_numeral
  b_is_numeral : Binds K fd_is_numeral ["word"] []
  m_is_numeral : mg "is_numeral" = some (.ref f_is_numeral)
  f_line_from : Addr
  fd_line_from : FuncData
  F_line_from : L2.Fun K "line_from" "line_from" s_line_from f_line_from fd_line_from
  b_line_from : Binds K fd_line_from ["parts"] []
  m_line_from : mg "line_from" = some (.ref f_line_from)
  f_text_of : Addr
  fd_text_of : FuncData
  F_text_of : L2.Fun K "text_of" "text_of" s_text_of f_text_of fd_text_of
  b_text_of : Binds K fd_text_of ["book"] []
  m_text_of : mg "text_of" = some (.ref f_text_of)
  k_text_of_book : KBn K fd_text_of ["book"] 0 ["book"] (fun us ws => sel us [] ws [(2, 0)]) (fun vs zs => sel vs [] zs [(2, 0)])
  f_read_holds : Addr
  fd_read_holds : FuncData
  F_read_holds : L2.Fun K "read_holds" "read_holds" s_read_holds f_read_holds fd_read_holds
  b_read_holds : Binds K fd_read_holds ["words"] []
  m_read_holds : mg "read_holds" = some (.ref f_read_holds)
  f_read_part : Addr
  fd_read_part : FuncData
  F_read_part : L2.Fun K "read_part" "read_part" s_read_part f_read_part fd_read_part
  b_read_part : Binds K fd_read_part ["name", "words"] []
  m_read_part : mg "read_part" = some (.ref f_read_part)
  f_read_line : Addr
  fd_read_line : FuncData
  F_read_line : L2.Fun K "read_line" "read_line" s_read_line f_read_line fd_read_line
  b_read_line : Binds K fd_read_line ["name", "line"] []
  m_read_line : mg "read_line" = some (.ref f_read_line)
  f_read_book : Addr
  fd_read_book : FuncData
  F_read_book : L2.Fun K "read_book" "read_book" s_read_book f_read_book fd_read_book
  b_read_book : Binds K fd_read_book ["text"] []
  m_read_book : mg "read_book" = some (.ref f_read_book)
  k_read_book_text : KBn K fd_read_book ["text"] 0 ["text"] (fun us ws => sel us [] ws [(2, 0)]) (fun vs zs => sel vs [] zs [(2, 0)])
  f_Lpot : Addr
  fd_Lpot : FuncData
  F_Lpot : L2.Fun K "_law_pot" "_law_pot" s_Lpot f_Lpot fd_Lpot
  b_Lpot : Binds K fd_Lpot ["_law_script", "_law_k"] []
  m_Lpot : mg "_law_pot" = some (.ref f_Lpot)
  f_Ldraw : Addr
  fd_Ldraw : FuncData
  F_Ldraw : L2.Fun K "_law_draw" "_law_draw" s_Ldraw f_Ldraw fd_Ldraw
  b_Ldraw : Binds K fd_Ldraw ["_law_pot_here", "_law_sides"] []
  m_Ldraw : mg "_law_draw" = some (.ref f_Ldraw)
  f_Lpick : Addr
  fd_Lpick : FuncData
  F_Lpick : L2.Fun K "_law_pick" "_law_pick" s_Lpick f_Lpick fd_Lpick
  b_Lpick : Binds K fd_Lpick ["_law_pot_here", "_law_some"] []
  m_Lpick : mg "_law_pick" = some (.ref f_Lpick)
  f_Lsequences : Addr
  fd_Lsequences : FuncData
  F_Lsequences : L2.Fun K "_law_sequences" "_law_sequences" s_Lsequences f_Lsequences fd_Lsequences
  b_Lsequences : Binds K fd_Lsequences ["_law_words"] []
  m_Lsequences : mg "_law_sequences" = some (.ref f_Lsequences)
  f_Lis_ahead : Addr
  fd_Lis_ahead : FuncData
  F_Lis_ahead : L2.Fun K "_law_is_ahead" "_law_is_ahead" s_Lis_ahead f_Lis_ahead fd_Lis_ahead
  b_Lis_ahead : Binds K fd_Lis_ahead ["_law_some", "_law_word", "_law_later"] []
  m_Lis_ahead : mg "_law_is_ahead" = some (.ref f_Lis_ahead)
  f_Lis_take : Addr
  fd_Lis_take : FuncData
  F_Lis_take : L2.Fun K "_law_is_take" "_law_is_take" s_Lis_take f_Lis_take fd_Lis_take
  b_Lis_take : Binds K fd_Lis_take ["_law_some", "_law_amount"] []
  m_Lis_take : mg "_law_is_take" = some (.ref f_Lis_take)
  f_Lis_give : Addr
  fd_Lis_give : FuncData
  F_Lis_give : L2.Fun K "_law_is_give" "_law_is_give" s_Lis_give f_Lis_give fd_Lis_give
  b_Lis_give : Binds K fd_Lis_give ["_law_some"] []
  m_Lis_give : mg "_law_is_give" = some (.ref f_Lis_give)
  f_Lis_move : Addr
  fd_Lis_move : FuncData
  F_Lis_move : L2.Fun K "_law_is_move" "_law_is_move" s_Lis_move f_Lis_move fd_Lis_move
  b_Lis_move : Binds K fd_Lis_move ["_law_some", "_law_is_shared"] []
  m_Lis_move : mg "_law_is_move" = some (.ref f_Lis_move)
  f_Ltakes : Addr
  fd_Ltakes : FuncData
  F_Ltakes : L2.Fun K "_law_takes" "_law_takes" s_Ltakes f_Ltakes fd_Ltakes
  b_Ltakes : Binds K fd_Ltakes ["_law_amount"] []
  m_Ltakes : mg "_law_takes" = some (.ref f_Ltakes)
  f_Lgives : Addr
  fd_Lgives : FuncData
  F_Lgives : L2.Fun K "_law_gives" "_law_gives" s_Lgives f_Lgives fd_Lgives
  b_Lgives : Binds K fd_Lgives [] []
  m_Lgives : mg "_law_gives" = some (.ref f_Lgives)
  f_Lmoves : Addr
  fd_Lmoves : FuncData
  F_Lmoves : L2.Fun K "_law_moves" "_law_moves" s_Lmoves f_Lmoves fd_Lmoves
  b_Lmoves : Binds K fd_Lmoves ["_law_is_shared"] []
  m_Lmoves : mg "_law_moves" = some (.ref f_Lmoves)
  f_Llifts : Addr
  fd_Llifts : FuncData
  F_Llifts : L2.Fun K "_law_lifts" "_law_lifts" s_Llifts f_Llifts fd_Llifts
  b_Llifts : Binds K fd_Llifts [] []
  m_Llifts : mg "_law_lifts" = some (.ref f_Llifts)
  f_Lbook : Addr
  fd_Lbook : FuncData
  F_Lbook : L2.Fun K "_law_book" "_law_book" s_Lbook f_Lbook fd_Lbook
  b_Lbook : Binds K fd_Lbook ["_law_rules"] []
  m_Lbook : mg "_law_book" = some (.ref f_Lbook)
  f_Lmixed : Addr
  fd_Lmixed : FuncData
  F_Lmixed : L2.Fun K "_law_mixed" "_law_mixed" s_Lmixed f_Lmixed fd_Lmixed
  b_Lmixed : Binds K fd_Lmixed ["_law_pot_here", "_law_some"] []
  m_Lmixed : mg "_law_mixed" = some (.ref f_Lmixed)
  f_Lkinds_of : Addr
  fd_Lkinds_of : FuncData
  F_Lkinds_of : L2.Fun K "_law_kinds_of" "_law_kinds_of" s_Lkinds_of f_Lkinds_of fd_Lkinds_of
  b_Lkinds_of : Binds K fd_Lkinds_of ["_law_some"] []
  m_Lkinds_of : mg "_law_kinds_of" = some (.ref f_Lkinds_of)
  f_Ltext : Addr
  fd_Ltext : FuncData
  F_Ltext : L2.Fun K "_law_text" "_law_text" s_Ltext f_Ltext fd_Ltext
  b_Ltext : Binds K fd_Ltext ["_law_rules"] []
  m_Ltext : mg "_law_text" = some (.ref f_Ltext)
  f_Lany_rules : Addr
  fd_Lany_rules : FuncData
  F_Lany_rules : L2.Fun K "_law_any_rules" "_law_any_rules" s_Lany_rules f_Lany_rules fd_Lany_rules
  b_Lany_rules : Binds K fd_Lany_rules ["_law_pot_here", "_law_moves_some"] []
  m_Lany_rules : mg "_law_any_rules" = some (.ref f_Lany_rules)
  f_Lturned_rules : Addr
  fd_Lturned_rules : FuncData
  F_Lturned_rules : L2.Fun K "_law_turned_rules" "_law_turned_rules" s_Lturned_rules f_Lturned_rules fd_Lturned_rules
  b_Lturned_rules : Binds K fd_Lturned_rules ["_law_pot_here", "_law_rules", "_law_moves_some"] []
  m_Lturned_rules : mg "_law_turned_rules" = some (.ref f_Lturned_rules)
  f_Ltold : Addr
  fd_Ltold : FuncData
  F_Ltold : L2.Fun K "_law_told" "_law_told" s_Ltold f_Ltold fd_Ltold
  b_Ltold : Binds K fd_Ltold ["_law_volume"] []
  m_Ltold : mg "_law_told" = some (.ref f_Ltold)
  f_Lboth_ways : Addr
  fd_Lboth_ways : FuncData
  F_Lboth_ways : L2.Fun K "_law_both_ways" "_law_both_ways" s_Lboth_ways f_Lboth_ways fd_Lboth_ways
  b_Lboth_ways : Binds K fd_Lboth_ways ["_law_rules"] []
  m_Lboth_ways : mg "_law_both_ways" = some (.ref f_Lboth_ways)
  f_Lchanged : Addr
  fd_Lchanged : FuncData
  F_Lchanged : L2.Fun K "_law_changed" "_law_changed" s_Lchanged f_Lchanged fd_Lchanged
  b_Lchanged : Binds K fd_Lchanged ["_law_rules", "_law_key", "_law_entry"] []
  m_Lchanged : mg "_law_changed" = some (.ref f_Lchanged)
  f_Lright : Addr
  fd_Lright : FuncData
  F_Lright : L2.Fun K "_law_right" "_law_right" s_Lright f_Lright fd_Lright
  b_Lright : Binds K fd_Lright ["_law_pot_here"] []
  m_Lright : mg "_law_right" = some (.ref f_Lright)
  f_law : Addr
  fd_law : FuncData
  F_law : L2.Fun K "law" "law" s_law f_law fd_law
  b_law : Binds K fd_law ["_law_script"] []
  m_law : mg "law" = some (.ref f_law)
  z_abs : mg "abs" = none
  z_all : mg "all" = none
  z_bool : mg "bool" = none
  z_dict : mg "dict" = none
  z_divmod : mg "divmod" = none
  z_enumerate : mg "enumerate" = none
  z_int : mg "int" = none
  z_isinstance : mg "isinstance" = none
  z_len : mg "len" = none
  z_list : mg "list" = none
  z_max : mg "max" = none
  z_min : mg "min" = none
  z_range : mg "range" = none
  z_repr : mg "repr" = none
  z_set : mg "set" = none
  z_str : mg "str" = none
  z_tuple : mg "tuple" = none
  t_MOST_BATCH : Tok
  m_MOST_BATCH : mg "MOST_BATCH" = some (.int 50 t_MOST_BATCH)
  t_DIGITS : Tok
  m_DIGITS : mg "DIGITS" = some (.str "0123456789" t_DIGITS)
  g_FAILS : Addr
  m_FAILS : mg "FAILS" = some (.ref g_FAILS)
  s_FAILS : ∀ H, SqT K H g_FAILS [.str "undo", .str "leave", .str "wait"]
  g_LINES : Addr
  m_LINES : mg "LINES" = some (.ref g_LINES)
  s_LINES : ∀ H, SqT K H g_LINES [.str "take", .str "give", .str "move", .str "lift", .str "fails", .str "holds", .str "batch", .str "last"]
  g_ROW_KINDS : Addr
  m_ROW_KINDS : mg "ROW_KINDS" = some (.ref g_ROW_KINDS)
  s_ROW_KINDS : ∀ H, SqT K H g_ROW_KINDS [.str "take", .str "give", .str "move", .str "lift"]
  g_SETTLES_WORDS : Addr
  m_SETTLES_WORDS : mg "SETTLES_WORDS" = some (.ref g_SETTLES_WORDS)
  s_SETTLES_WORDS : ∀ H, SqT K H g_SETTLES_WORDS [.str "stays", .str "settles"]
  g_SHARED_WORDS : Addr
  m_SHARED_WORDS : mg "SHARED_WORDS" = some (.ref g_SHARED_WORDS)
  s_SHARED_WORDS : ∀ H, SqT K H g_SHARED_WORDS [.str "apart", .str "shared"]
  g_LIFT_ROWS : Addr
  m_LIFT_ROWS : mg "LIFT_ROWS" = some (.ref g_LIFT_ROWS)
  g0_LIFT_ROWS : Addr
  s0_LIFT_ROWS : ∀ H, SqT K H g0_LIFT_ROWS []
  g1_LIFT_ROWS : Addr
  s1_LIFT_ROWS : ∀ H, SqT K H g1_LIFT_ROWS [.str "set"]
  g2_LIFT_ROWS : Addr
  s2_LIFT_ROWS : ∀ H, SqT K H g2_LIFT_ROWS [.str "off"]
  g3_LIFT_ROWS : Addr
  s3_LIFT_ROWS : ∀ H, SqT K H g3_LIFT_ROWS [.str "set", .str "off"]
  g4_LIFT_ROWS : Addr
  s4_LIFT_ROWS : ∀ H, SqT K H g4_LIFT_ROWS [.str "off", .str "set"]
  g5_LIFT_ROWS : Addr
  s5_LIFT_ROWS : ∀ H, SqT K H g5_LIFT_ROWS [.str "both"]
  s_LIFT_ROWS : ∀ H, SqT K H g_LIFT_ROWS [.ref g0_LIFT_ROWS, .ref g1_LIFT_ROWS, .ref g2_LIFT_ROWS, .ref g3_LIFT_ROWS, .ref g4_LIFT_ROWS, .ref g5_LIFT_ROWS]
  g_ROW_CHECKS : Addr
  m_ROW_CHECKS : mg "ROW_CHECKS" = some (.ref g_ROW_CHECKS)
  k_ROW_CHECKS_take : KDct K w g_ROW_CHECKS "take" (.ref f_is_take_row)
  k_ROW_CHECKS_give : KDct K w g_ROW_CHECKS "give" (.ref f_is_give_row)
  k_ROW_CHECKS_move : KDct K w g_ROW_CHECKS "move" (.ref f_is_move_row)
  k_ROW_CHECKS_lift : KDct K w g_ROW_CHECKS "lift" (.ref f_is_lift_row)
  own : Own K C
end My
/-! parents, ways, zones -/
namespace My
/-- the parents of the groups 1, 2, .. : each one ahead of its child -/
def Good (ps : List Nat) : Prop := ∀ i, i < ps.length → ps.getD i 0 ≤ i
theorem Good.nil : Good [] := fun i h => absurd h (Nat.not_lt_zero i)
theorem Good.range (n : Nat) : Good (List.range n) := by
  intro i hi
  rw [List.length_range] at hi
  rw [List.getD_eq_getElem?_getD, List.getElem?_range hi]
  exact Nat.le_refl _
end My
namespace My
open PySem PySem.Spec PyProof.Rows L2 GL Evl StX SkE
/-! ### comprehensions over words -/
theorem given_take {α : Type} (l : List α) (p : α → Bool) (g : α → V) : ∀ n, n ≤ l.length → given n (fun i => (l[i]?.map p).getD false) (fun i => (l[i]?.map g).getD .non) = ((l.take n).filter p).map g
  | 0, _ => rfl
  | n + 1, h => by
    have ih := given_take l p g n (by omega)
    have e2 : l[n]? = some l[n] := List.getElem?_eq_getElem (by omega)
    rw [List.take_add_one, e2, List.filter_append, List.map_append, ← ih]
    by_cases hp : p l[n] = true
    · rw [given_yes (by rw [e2]; exact hp)]
      congr 1
      · rw [e2]
        show _ = List.map g (List.filter p [l[n]])
        rw [List.filter_cons_of_pos hp]
        rfl
    · have hp' : p l[n] = false := by simpa using hp
      rw [given_no (by rw [e2]; exact hp')]
      show _ = _ ++ List.map g (List.filter p [l[n]])
      rw [List.filter_cons_of_neg hp]
      simp
theorem given_of {α : Type} (l : List α) (p : α → Bool) (g : α → V) : given l.length (fun i => (l[i]?.map p).getD false) (fun i => (l[i]?.map g).getD .non) = (l.filter p).map g := by
  rw [given_take l p g l.length (Nat.le_refl _), List.take_length]
section
variable {K : PySem.W.Frag} {σ : L2.St} {H H' : Hp} {te tl tb ta : TE} {t : TT} {a : Addr} {us ws : Rw} {j : Nat} {vs : List Nat} {xs : List V} {v : V} {D : Ends} {tz : TS}
theorem el_lcT (f : Nat → Bool) (g : Nat → V) (h : Ev tl σ H (.ref a)) (hx : SqT K H a xs) (hz : xs.length ≤ 40000) (hw : ∀ x, wipe ((wipe σ vs).set j (some x)) vs = wipe σ vs)
    (ht : ∀ (i : Nat) (x : V) H1, Ex H H1 → xs[i]? = some x → EvT t ((wipe σ vs).set j (some x)) H1 (f i)) (he : ∀ (i : Nat) (x : V) H1, Ex H H1 → xs[i]? = some x → f i = true → Ev te ((wipe σ vs).set j (some x)) H1 (g i)) :
    EvL (tLc (iTup K tl) (gName j) t te vs) σ H (given xs.length f g) := fun H0 e Q q => h H0 e _ fun H1 e1 => ⟨a, rfl, ⟨xs, ex_t (e.trans e1) hx⟩, fun Dl hD =>
  lc_it (walk_tup (K := K) (a := a) (xs := xs)) (Cw H1 f g Dl) ⟨hD, Ex.new hD, upd_same⟩ (fun i H' _ p => ex_t ((e.trans e1).trans p.2.1) hx) (fun i x H' H2 hi p y => by
    obtain ⟨rfl, hx'⟩ := y
    exact ⟨hw x, cw_turn p (by omega) (ht i x H1 (e.trans e1) hx') (fun hf => he i x H1 (e.trans e1) hx' hf)⟩)
    (fun H' p => q Dl H' (fresh_back e1 p.1) (e1.trans p.2.1) p.2.2)⟩
theorem w_item {us : Rw} {i : Nat} {x : V} (h : (us.map wV)[i]? = some x) : ∃ u, us[i]? = some u ∧ x = wV u ∧ u ∈ us := by
  rw [List.getElem?_map] at h
  obtain ⟨u, hu, rfl⟩ := Option.map_eq_some_iff.mp h
  exact ⟨u, hu, rfl, List.mem_of_getElem? hu⟩
/-- over a tuple of words -/
theorem el_lcW (p : Wd → Bool) (g : Wd → V) (h : Ev tl σ H (.ref a)) (hx : SqT K H a (us.map wV)) (hz : us.length ≤ 1000) (hw : ∀ x, wipe ((wipe σ vs).set j (some x)) vs = wipe σ vs)
    (ht : ∀ u H1, Ex H H1 → u ∈ us → EvT t ((wipe σ vs).set j (some (wV u))) H1 (p u)) (he : ∀ u H1, Ex H H1 → u ∈ us → p u = true → Ev te ((wipe σ vs).set j (some (wV u))) H1 (g u)) :
    EvL (tLc (iTup K tl) (gName j) t te vs) σ H ((us.filter p).map g) := by
  refine el_is (el_lcT (fun i => (us[i]?.map p).getD false) (fun i => (us[i]?.map g).getD .non) h hx (by rw [List.length_map]; omega) hw (fun i x H1 e1 hi => ?_) (fun i x H1 e1 hi hp => ?_)) (by rw [List.length_map]; exact given_of us p g)
  · obtain ⟨u, hu, rfl, m⟩ := w_item hi
    rw [hu]
    exact ht u H1 e1 m
  · obtain ⟨u, hu, rfl, m⟩ := w_item hi
    rw [hu] at hp ⊢
    exact he u H1 e1 m hp
/-- over a new list of words -/
theorem el_lcWN (p : Wd → Bool) (g : Wd → V) (h : EvL tl σ H (us.map wV)) (hz : us.length ≤ 1000) (hw : ∀ x, wipe ((wipe σ vs).set j (some x)) vs = wipe σ vs)
    (ht : ∀ u H1, Ex H H1 → u ∈ us → EvT t ((wipe σ vs).set j (some (wV u))) H1 (p u)) (he : ∀ u H1, Ex H H1 → u ∈ us → p u = true → Ev te ((wipe σ vs).set j (some (wV u))) H1 (g u)) :
    EvL (tLc (iList K tl) (gName j) t te vs) σ H ((us.filter p).map g) := by
  refine el_is (el_lcNL (fun i => (us[i]?.map p).getD false) (fun i => (us[i]?.map g).getD .non) h (by rw [List.length_map]; omega) hw (fun i x H1 e1 hi => ?_) (fun i x H1 e1 hi hp => ?_)) (by rw [List.length_map]; exact given_of us p g)
  · obtain ⟨u, hu, rfl, m⟩ := w_item hi
    rw [hu]
    exact ht u H1 e1 m
  · obtain ⟨u, hu, rfl, m⟩ := w_item hi
    rw [hu] at hp ⊢
    exact he u H1 e1 m hp
theorem filter_yes {α : Type} (l : List α) : l.filter (fun _ => true) = l := List.filter_eq_self.mpr fun _ _ => rfl
/-! words in rows -/
theorem rv_inW {w : Wd} (h : SqT K H a (us.map wV)) : RV (rIn K false) (wV w) (.ref a) H (.bl (decide (w ∈ us))) := by
  have z := rv_isT (x := wV w) h rfl (flat_w us)
  rwa [inV_w] at z
theorem rv_niW {w : Wd} (h : SqT K H a (us.map wV)) : RV (rIn K true) (wV w) (.ref a) H (.bl (!decide (w ∈ us))) := by
  have z := rv_niT (x := wV w) h rfl (flat_w us)
  rwa [inV_w] at z
/-- evaluates to a tuple of these words -/
def EvR (K : PySem.W.Frag) (te : TE) (σ : L2.St) (H : Hp) (us : Rw) : Prop := ∀ H1, Ex H H1 → ∀ Q : VK, (∀ p H2, Ex H1 H2 → RowX K H2 p us → Q (.ref p) H2) → te σ H1 Q
theorem EvR.mono (e : Ex H H') (h : EvR K te σ H us) : EvR K te σ H' us := fun H1 a Q q => h H1 (e.trans a) Q q
theorem er_tup {tA : TA} (h : EvA tA σ H (us.map wV)) (hl : us.length ≤ 1000) : EvR K (tTupX tA) σ H us := fun H1 e Q q => h H1 e _ fun H2 e2 => ⟨by rw [List.length_map, sizeLine_eq]; omega, fun p o hp b => q p _ (e2.trans (Ex.new hp)) (.fx upd_same b)⟩
/-- row == (words) -/
theorem ev_eqW (h : Ev ta σ H (.ref a)) (hr : RowX K H a us) (hu : EvR K tb σ H ws) : Ev (tOp (rEqD K) ta tb) σ H (.bl (decide (us = ws))) := fun H1 e Q q =>
  h H1 e _ fun H2 e2 => hu H2 (e.trans e2) _ fun p H3 e3 hp => ⟨dRow us, dRow ws, (hr.ex ((e.trans e2).trans e3)).dp, hp.dp, row_shaped _, row_shaped _, by
    rw [eqv_row]
    exact q H3 (e2.trans e3)⟩
/-- f(x, (words)) -/
theorem ev_callR {sp : Sp} {Er : XK} {x z : V} (h : Ev ta σ H x) (hu : EvR K tb σ H ws) (hs : ∀ p H1, Ex H H1 → RowX K H1 p ws → SpV sp [x, .ref p] H1 z) : Ev (tCall sp [] Er (tCons ta (tCons tb tNil))) σ H z := fun H1 e Q q =>
  h H1 e _ fun H2 e2 => hu H2 (e.trans e2) _ fun p H3 e3 hp => hs p H3 ((e.trans e2).trans e3) hp H3 (Ex.refl H3) Q (fun H4 e4 => q H4 ((e2.trans e3).trans e4)) Er
/-- row.index(word) -/
theorem idx_first {w : Wd} : ∀ {us : Rw}, w ∈ us → us[us.idxOf w]? = some w ∧ ∀ m, m < us.idxOf w → us[m]? ≠ some w
  | u :: us, h => by
    rw [List.idxOf_cons]
    by_cases e : u = w
    · subst e
      simp
    · have hw : w ∈ us := (List.mem_cons.mp h).resolve_left fun z => e z.symm
      obtain ⟨h1, h2⟩ := idx_first hw
      have ne : (u == w) = false := beq_eq_false_iff_ne.mpr e
      rw [ne]
      refine ⟨by simpa using h1, fun m hm => ?_⟩
      cases m with
      | zero => simpa using e
      | succ m =>
        rw [List.getElem?_cons_succ]
        exact h2 m (by simpa using hm)
theorem ev_idx {w : Wd} (h1 : Ev ta σ H (.ref a)) (h2 : Ev tb σ H (wV w)) (hr : RowX K H a us) (hw : w ∈ us) :
    Ev (tBMX K (fun x xs H Q => ∃ p, ∃ ys : List Str, ∃ z j, x = .ref p ∧ xs = [.str z] ∧ SqT K H p (ys.map V.str) ∧ ys[j]? = some z ∧ (∀ m, m < j → ys[m]? ≠ some z) ∧ Q (.int (j : Nat)) H) ta (tCons tb tNil)) σ H (nV (us.idxOf w)) := fun H1 e Q q =>
  h1 H1 e _ fun H2 e2 => ⟨⟨a, rfl, (hr.ex (e.trans e2)).tp⟩, h2 H2 (e.trans e2) _ fun H3 e3 => by
    obtain ⟨i1, i2⟩ := idx_first hw
    refine ⟨a, us.map Wd.s, w.s, us.idxOf w, rfl, rfl, by rw [← wV_strs]; exact (hr.ex ((e.trans e2).trans e3)).sq, by rw [List.getElem?_map, i1]; rfl, fun m hm q2 => ?_, q H3 (e2.trans e3)⟩
    rw [List.getElem?_map] at q2
    obtain ⟨u, hu, eu⟩ := Option.map_eq_some_iff.mp q2
    exact i2 m hm (by rw [hu, Wd.inj eu])⟩
/-- row[i:], row[:i], looked into -/
theorem ev_inCut {lo hi : Option Int} {tl th : TO} {w : Wd} (h1 : Ev ta σ H (wV w)) (h2 : Ev te σ H (.ref a)) (hl : EvO tl σ H lo) (hh : EvO th σ H hi) (hr : RowX K H a us) (cs : Rw) (hc : cutV (us.map wV) lo hi = cs.map wV) (hall : HT.sIx us.length 0 lo = 0 → HT.sIx us.length us.length hi = us.length → cs = us) :
    Ev (tOp (rIn K false) ta (tSl (rSlA K) te tl th)) σ H (.bl (decide (w ∈ cs))) := fun H1 e Q q =>
  h1 H1 e _ fun H2 e2 => h2 H2 (e.trans e2) _ fun H3 e3 => hl H3 ((e.trans e2).trans e3) _ fun H4 e4 => hh H4 (((e.trans e2).trans e3).trans e4) _ fun H5 e5 => by
    have x5 := (((e.trans e2).trans e3).trans e4).trans e5
    refine ⟨a, us.map wV, rfl, (hr.ex x5).sq, fun z => ?_, fun z p hp => ?_⟩
    · rw [List.length_map] at z
      have ec := hall z.1 z.2
      subst ec
      exact rv_inW (hr.ex x5).sq H5 (Ex.refl H5) Q fun H6 e6 => q H6 ((((e2.trans e3).trans e4).trans e5).trans e6)
    · rw [hc]
      exact rv_inW (us := cs) (st_of upd_same) _ (Ex.refl _) Q fun H6 e6 => q H6 (((((e2.trans e3).trans e4).trans e5).trans (Ex.new hp)).trans e6)
end
end My
namespace My
open PySem PySem.Spec PyProof.Rows L2 GL Evl StX SkE
/-! ### promises: words and rows -/
def sp_isint : Sp := fun vs H Q _ => ∃ i : Int, vs = [.int i] ∧ RetV (.bl true) H Q
def sp_islist (K : PySem.W.Frag) : Sp := fun vs H Q _ => ∃ a us, vs = [.ref a] ∧ RowAt K H a us ∧ RetV (.bl true) H Q
def sp_isword (K : PySem.W.Frag) : Sp := fun vs H Q _ => ∃ w b, ∃ ws : Rw, vs = [wV w, .ref b] ∧ SqT K H b (ws.map wV) ∧ RetV (.bl (decide (w ∈ ws))) H Q
def sp_adw (K : PySem.W.Frag) : Sp := fun vs H Q _ => ∃ a b, ∃ us ws : Rw, vs = [.ref a, .ref b] ∧ RowAt K H a us ∧ SqT K H b (ws.map wV) ∧ us.Nodup ∧ us.length ≤ 900 ∧ RetV (.bl (pW us ws)) H Q
def sp_hwo (K : PySem.W.Frag) : Sp := fun vs H Q _ => ∃ a b, ∃ us ws : Rw, vs = [.ref a, .ref b] ∧ RowAt K H a us ∧ SqT K H b (ws.map wV) ∧ us.Nodup ∧ us.length ≤ 900 ∧ RetV (.bl (pW us ws)) H Q
def sp_taa (K : PySem.W.Frag) : Sp := fun vs H Q _ => ∃ a us w, vs = [.ref a, wV w] ∧ RowX K H a us ∧ RetV (.bl (pTA us w)) H Q
def sp_ohh (K : PySem.W.Frag) : Sp := fun vs H Q _ => ∃ a us, vs = [.ref a] ∧ RowX K H a us ∧ RetV (.bl (pOH us)) H Q
def sp_row (K : PySem.W.Frag) (f : Rw → Bool) : Sp := fun vs H Q _ => ∃ a us, vs = [.ref a] ∧ RowX K H a us ∧ RowOk us ∧ RetV (.bl (f us)) H Q
def sp_isrow (K : PySem.W.Frag) : Sp := fun vs H Q _ => ∃ k a us, vs = [wV k, .ref a] ∧ k ∈ kindRows ∧ RowX K H a us ∧ RowOk us ∧ RetV (.bl (pRow k us)) H Q
def sp_fitb (K : PySem.W.Frag) : Sp := fun vs H Q _ => ∃ a us, ∃ n : Nat, vs = [.ref a, nV n] ∧ RowX K H a us ∧ us ≠ [] ∧ RetV (.bl (pBatch us n)) H Q
def sp_fits (K : PySem.W.Frag) : Sp := fun vs H Q _ => ∃ a us b, vs = [.ref a, .bl b] ∧ RowX K H a us ∧ RetV (.bl (pShared us b)) H Q
section
variable {P : Program} {w : World} {K : PySem.W.Frag} {mg : Str → Option Value} {base : Heap} {H H' : Hp} {σ : L2.St} {te ta tb : TE} {D : Ends} {tz : TS} {a b : Addr} {us ws : Rw} {x c : V} {tl th : TO} {lo hi : Option Int}
theorem rc_isiE {u t : Value} {b : Bool} (k : ClsV c u) (ty : ∀ H1, Ex H H1 → TyX K H1 x t) (h : PySem.W.kitOne K t u = some b) : RC (rIsi K) [x, c] H (.bl b) := fun H1 e Q q => ⟨x, c, t, u, b, rfl, k, ty H1 e, h, q H1 (Ex.refl H1)⟩
theorem sv_isword {w : Wd} (h : SqT K H b (ws.map wV)) : SpV (sp_isword K) [wV w, .ref b] H (.bl (decide (w ∈ ws))) := fun _ e _ q _ => ⟨w, b, ws, rfl, ex_t e h, q⟩
theorem sv_adw (h : RowAt K H a us) (h2 : SqT K H b (ws.map wV)) (nd : us.Nodup) (hl : us.length ≤ 900) : SpV (sp_adw K) [.ref a, .ref b] H (.bl (pW us ws)) := fun _ e _ q _ => ⟨a, b, us, ws, rfl, h.ex e, ex_t e h2, nd, hl, q⟩
theorem sv_hwo (h : RowAt K H a us) (h2 : SqT K H b (ws.map wV)) (nd : us.Nodup) (hl : us.length ≤ 900) : SpV (sp_hwo K) [.ref a, .ref b] H (.bl (pW us ws)) := fun _ e _ q _ => ⟨a, b, us, ws, rfl, h.ex e, ex_t e h2, nd, hl, q⟩
theorem sv_taa {w : Wd} (h : RowX K H a us) : SpV (sp_taa K) [.ref a, wV w] H (.bl (pTA us w)) := fun _ e _ q _ => ⟨a, us, w, rfl, h.ex e, q⟩
theorem sv_ohh (h : RowX K H a us) : SpV (sp_ohh K) [.ref a] H (.bl (pOH us)) := fun _ e _ q _ => ⟨a, us, rfl, h.ex e, q⟩
theorem sv_row {f : Rw → Bool} (h : RowX K H a us) (ok : RowOk us) : SpV (sp_row K f) [.ref a] H (.bl (f us)) := fun _ e _ q _ => ⟨a, us, rfl, h.ex e, ok, q⟩
theorem sv_isrow {k : Wd} (hk : k ∈ kindRows) (h : RowX K H a us) (ok : RowOk us) : SpV (sp_isrow K) [wV k, .ref a] H (.bl (pRow k us)) := fun _ e _ q _ => ⟨k, a, us, rfl, hk, h.ex e, ok, q⟩
theorem cut_from {i : Nat} (hi : i ≤ us.length) : cutV (us.map wV) (some (i : Int)) none = (us.drop i).map wV := by
  unfold cutV
  rw [HT.sIx_nat, HT.sIx_none, List.length_map, Nat.min_eq_left hi, ← List.map_drop, List.take_of_length_le (by rw [List.length_map, List.length_drop]; omega)]
theorem cut_to {i : Nat} (hi : i ≤ us.length) : cutV (us.map wV) none (some (i : Int)) = (us.take i).map wV := by
  unfold cutV
  rw [HT.sIx_nat, HT.sIx_none, List.length_map, Nat.min_eq_left hi, Nat.sub_zero, List.drop_zero, List.map_take]
theorem idx_le (w : Wd) (us : Rw) : us.idxOf w ≤ us.length := List.idxOf_le_length
theorem all_from {i : Nat} (hi : i ≤ us.length) : HT.sIx us.length 0 (some (i : Int)) = 0 → HT.sIx us.length us.length none = us.length → us.drop i = us := fun h _ => by
  rw [HT.sIx_nat, Nat.min_eq_left hi] at h
  rw [h, List.drop_zero]
theorem all_to {i : Nat} (hi : i ≤ us.length) : HT.sIx us.length 0 none = 0 → HT.sIx us.length us.length (some (i : Int)) = us.length → us.take i = us := fun _ h => by
  rw [HT.sIx_nat, Nat.min_eq_left hi] at h
  rw [h, List.take_length]
theorem q_asgCut {i : Nat} (h2 : Ev te σ H (.ref a)) (hl : EvO tl σ H lo) (hh : EvO th σ H hi) (hr : RowX K H a us) (cs : Rw) (hc : cutV (us.map wV) lo hi = cs.map wV) (hall : HT.sIx us.length 0 lo = 0 → HT.sIx us.length us.length hi = us.length → cs = us)
    (k : ∀ p H1, Ex H H1 → RowAt K H1 p cs → tz D (σ.set i (some (.ref p))) H1) : tSeq (tAsg (tSl (rSlA K) te tl th) (gName i)) tz D σ H :=
  h2 H (Ex.refl H) _ fun H3 e3 => hl H3 e3 _ fun H4 e4 => hh H4 (e3.trans e4) _ fun H5 e5 => by
    have x5 := (e3.trans e4).trans e5
    refine ⟨a, us.map wV, rfl, (hr.ex x5).sq, fun z => ?_, fun z p hp => ?_⟩
    · rw [List.length_map] at z
      have ec := hall z.1 z.2
      subst ec
      exact k a H5 x5 (hr.ex x5).at_
    · rw [hc]
      exact k p _ (x5.trans (Ex.new hp)) (.tup upd_same)
theorem ev_lenSet {xs : List Str} (h : Ev te σ H (.ref a)) (hs : SqT K H a (xs.map V.str)) (nd : xs.Nodup) (hl : xs.length ≤ 1000) : Ev (tLenSetT K te) σ H (nV xs.length) := fun H1 e Q q => h H1 e _ fun H2 e2 => ⟨a, xs, rfl, ex_t (e.trans e2) hs, nd, hl, q H2 e2⟩
theorem ev_lenT {xs : List V} (h : Ev te σ H (.ref a)) (hs : SqT K H a xs) : Ev (tCB (rLenS K) (tCons te tNil)) σ H (nV xs.length) := fun H1 e Q q => h H1 e _ fun H2 e2 => ⟨a, xs, rfl, .inr (ex_t (e.trans e2) hs), q H2 e2⟩
theorem ok_is_an_integer (T : Txt K mg w)  : FnG P w K mg base CX0 1 T.f_is_an_integer T.fd_is_an_integer ["value"] sp_isint := by
  skip
  refine okG T.F_is_an_integer sc_is_an_integer (fun vs H Q E h => ?_) (fun cdv A outer s H vs Q E gd hr h => ?_)
  · obtain ⟨_, rfl, _⟩ := h
    all_goals rfl
  · obtain ⟨i, rfl, q⟩ := h
    refine ⟨_, (pss_one (ps_ret (pe_and (pe_callB call_isi (by rfl) T.z_isinstance boot_isinstance (pa_cons (pv 0) (pa_cons (pe_bltn (v := .ty "int") (u := .type "int") (by rfl) T.z_int (by decide +kernel) rfl) pa_nil))) (pe_one (pe_not (pe_callB call_isi (by rfl) T.z_isinstance boot_isinstance (pa_cons (pv 0) (pa_cons (pe_bltn (v := .ty "bool") (u := .type "bool") (by rfl) T.z_bool (by decide +kernel) rfl) pa_nil)))))))), ?_⟩
    refine s_ret (v := .bl true) (ev_andV (a := true) (b := true) (ev_cb (ea_cons (ev_var rfl) (ea_cons ev_c ea_nil)) (rc_isi (.ty "int") (fun _ => .base (.int i)) (kit_ty (by decide +kernel)))) fun _ => ?_) q
    exact ev_notV (a := false) (ev_cb (ea_cons (ev_var rfl) (ea_cons ev_c ea_nil)) (rc_isi (.ty "bool") (fun _ => .base (.int i)) (kit_ty (by decide +kernel))))
theorem ok_is_list (T : Txt K mg w)  : FnG P w K mg base CX0 1 T.f_is_list T.fd_is_list ["value"] (sp_islist K) := by
  skip
  refine okG T.F_is_list sc_is_list (fun vs H Q E h => ?_) (fun cdv A outer s H vs Q E gd hr h => ?_)
  · obtain ⟨_, _, rfl, _⟩ := h
    all_goals rfl
  · obtain ⟨a, us, rfl, ra, q⟩ := h
    refine ⟨_, (pss_one (ps_ret (pe_callB call_isiT (by rfl) T.z_isinstance boot_isinstance (pa_cons (pv 0) (pa_cons (pe_tup (pa_cons (pe_bltn (v := .ty "list") (u := .type "list") (by rfl) T.z_list (by decide +kernel) rfl) (pa_cons (pe_bltn (v := .ty "tuple") (u := .type "tuple") (by rfl) T.z_tuple (by decide +kernel) rfl) pa_nil))) pa_nil))))), ?_⟩
    refine ⟨_, rfl, (by show 2 ≤ sizeLine; decide), fun p hp => ?_⟩
    have e := Ex.new (o := .tup [.ty "list", .ty "tuple"]) hp
    exact ⟨.ref a, p, _, _, _, true, rfl, upd_same, .cons (.ty "list") (.cons (.ty "tuple") .nil), (ra.ex e).ty, kitAny_cons (b := false) (kit_ty (by decide +kernel)) (fun _ => kitAny_cons (b := true) (kit_ty (by decide +kernel)) (fun z => nomatch z) (fun _ => rfl)) (fun z => nomatch z), q _ e⟩
theorem ok_is_word (T : Txt K mg w)  : FnG P w K mg base CX0 1 T.f_is_word T.fd_is_word ["value", "words"] (sp_isword K) := by
  skip
  refine okG T.F_is_word sc_is_word (fun vs H Q E h => ?_) (fun cdv A outer s H vs Q E gd hr h => ?_)
  · obtain ⟨_, _, _, rfl, _⟩ := h
    all_goals rfl
  · obtain ⟨w0, b, ws, rfl, hb, q⟩ := h
    refine ⟨_, (pss_one (ps_ret (pe_and (pe_callB call_isi (by rfl) T.z_isinstance boot_isinstance (pa_cons (pv 0) (pa_cons (pe_bltn (v := .ty "str") (u := .type "str") (by rfl) T.z_str (by decide +kernel) rfl) pa_nil))) (pe_one (pe_cmpR op_in_seq (pv 0) (pv 1) (by rfl)))))), ?_⟩
    refine s_ret (ev_is (ev_andV (a := true) (ev_cb (ea_cons (ev_var rfl) (ea_cons ev_c ea_nil)) (rc_isi (.ty "str") (fun _ => .base (.str _)) (kit_ty (by decide +kernel)))) fun _ => ev_op (ev_var rfl) (ev_var rfl) (rv_inW hb)) (by rw [Bool.true_and])) q
theorem ok_are_different_words (T : Txt K mg w) (G_is_word : FnG P w K mg base CX0 1 T.f_is_word T.fd_is_word ["value", "words"] (sp_isword K)) : FnG P w K mg base CX0 2 T.f_are_different_words T.fd_are_different_words ["values", "words"] (sp_adw K) := by
  skip
  refine okG T.F_are_different_words sc_are_different_words (fun vs H Q E h => ?_) (fun cdv A outer s H vs Q E gd hr h => ?_)
  · obtain ⟨_, _, _, _, rfl, _⟩ := h
    all_goals rfl
  · obtain ⟨a, b, us, ws, rfl, ra, hb, nd, hl, q⟩ := h
    refine ⟨_, (pss_one (ps_ret (pe_and (pe_callB (cr_all rfl) (by rfl) T.z_all boot_all (pa_cons (pe_lc (own := [("value", 2)]) (g := gName 2) rfl sc_are_different_words.nd (pi_tup (pv 0)) (blkOk_by (N := N_are_different_words) (sc := defScope s_are_different_words) (by decide +kernel)) (fun _ _ _ _ _ => (pg_name (i := 2) sc_are_different_words.nd rfl (Or.inl rfl) (Or.inr rfl))) (fun _ _ _ _ _ => pts_nil) (fun _ _ _ _ _ => (pc gd G_is_word (hr.mono (by decide)) (by rfl) T.m_is_word T.F_is_word.kp T.b_is_word .nil pass0 (pa_cons (pv 2) (pa_cons (pv 1) pa_nil))))) pa_nil)) (pe_one (pe_cmpR op_eq (pe_lenSetT (by rfl) T.z_len (by rfl) T.z_set (pv 0)) (pe_callB call_len_seq (by rfl) T.z_len PySem.boot_len (pa_cons (pv 0) pa_nil)) (nomark _)))))), ?_⟩
    refine s_ret (ev_is (ev_andV (a := pW us ws) (b := true) (ev_is (ev_allB (bs := us.map fun u => decide (u ∈ ws)) (el_is (el_lcW (us := us) (fun _ => true) (fun u => .bl (decide (u ∈ ws))) (ev_var rfl) ra.sq (by omega) (fun _ => rfl) (fun u H1 e1 hu => et_yes) (fun u H1 e1 hu _ => ev_call (ea_cons (ev_var rfl) (ea_cons (ev_var rfl) ea_nil)) (sv_isword (ex_t e1 hb)))) (by rw [filter_yes, List.map_map]; rfl))) (by rw [List.all_map]; rfl)) fun _ => ?_) (by rw [Bool.and_true])) q
    have z := ev_op (r := rEq) (ev_lenSet (K := K) (H := H) (te := tVar 0) (σ := start N_are_different_words [.ref a, .ref b]) (a := a) (xs := us.map Wd.s) (ev_var rfl) (by rw [← wV_strs]; exact ra.sq) (nodup_s nd) (by rw [List.length_map]; omega)) (ev_lenT (K := K) (te := tVar 0) (xs := us.map wV) (ev_var rfl) ra.sq) (rv_eq rfl)
    rw [List.length_map, List.length_map, decide_eq_true rfl] at z
    exact z
theorem ok_has_words_of (T : Txt K mg w) (G_are_different_words : FnG P w K mg base CX0 2 T.f_are_different_words T.fd_are_different_words ["values", "words"] (sp_adw K)) : FnG P w K mg base CX0 3 T.f_has_words_of T.fd_has_words_of ["value", "words"] (sp_hwo K) := by
  skip
  refine okG T.F_has_words_of sc_has_words_of (fun vs H Q E h => ?_) (fun cdv A outer s H vs Q E gd hr h => ?_)
  · obtain ⟨_, _, _, _, rfl, _⟩ := h
    all_goals rfl
  · obtain ⟨a, b, us, ws, rfl, ra, hb, nd, hl, q⟩ := h
    refine ⟨_, (pss_one (ps_ret (pe_and (pe_callB call_isi (by rfl) T.z_isinstance boot_isinstance (pa_cons (pv 0) (pa_cons (pe_bltn (v := .ty "tuple") (u := .type "tuple") (by rfl) T.z_tuple (by decide +kernel) rfl) pa_nil))) (pe_one (pc gd G_are_different_words (hr.mono (by decide)) (by rfl) T.m_are_different_words T.F_are_different_words.kp T.b_are_different_words .nil pass0 (pa_cons (pv 0) (pa_cons (pv 1) pa_nil))))))), ?_⟩
    exact s_ret (ev_is (ev_andV (a := true) (ev_cb (ea_cons (ev_var rfl) (ea_cons ev_c ea_nil)) (rc_isiE (.ty "tuple") (fun H1 e => (ra.ex e).ty) (kit_ty (by decide +kernel)))) fun _ => ev_call (ea_cons (ev_var rfl) (ea_cons (ev_var rfl) ea_nil)) (sv_adw ra hb nd hl)) (by rw [Bool.true_and])) q
theorem ok_tests_are_ahead (T : Txt K mg w)  : FnG P w K mg base CX0 1 T.f_tests_are_ahead T.fd_tests_are_ahead ["row", "word"] (sp_taa K) := by
  skip
  refine okG T.F_tests_are_ahead sc_tests_are_ahead (fun vs H Q E h => ?_) (fun cdv A outer s H vs Q E gd hr h => ?_)
  · obtain ⟨_, _, _, rfl, _⟩ := h
    all_goals rfl
  · obtain ⟨a, us, w0, rfl, ra, q⟩ := h
    refine ⟨_, (pss_cons (ps_if (pt_cmpR op_notIn_seq (pv 1) (pv 0) (by rfl)) (pss_one (ps_ret pe_bl)) pss_nil) (pss_cons (ps_set (i := 2) sc_tests_are_ahead.nd rfl (Or.inl rfl) (pe_slice sl_tupA (pv 0) (po_some (pe_bmX PySem.F.slot_tuple_index PySem.F.type_tuple_index mt_tup_index (pv 0) (pa_cons (pv 1) pa_nil))) po_none)) (pss_one (ps_ret (pe_and (pe_cmpR op_notIn_seq pe_str (pv 2) (by rfl)) (pe_one (pe_cmpR op_notIn_seq pe_str (pv 2) (by rfl)))))))), ?_⟩
    refine q_when (et_test (ev_op (ev_var rfl) (ev_var rfl) (rv_niW ra.sq))) (fun hb H1 e1 => s_ret (ev_is ev_c ?_) fun H2 e2 => q H2 (e1.trans e2)) fun hb H1 e1 => ?_
    · have hw : ¬ w0 ∈ us := by simpa using hb
      unfold pTA
      rw [if_neg hw]
    · have hw : w0 ∈ us := by simpa using hb
      refine q_asgCut (us := us) (lo := some (us.idxOf w0 : Nat)) (hi := none) (ev_var rfl) (eo_some (ev_idx (us := us) (ev_var rfl) (ev_var rfl) (ra.ex e1) hw)) eo_none (ra.ex e1) _ (cut_from (idx_le _ _)) (all_from (idx_le _ _)) fun p H2 e2 hp => ?_
      refine s_ret (ev_is (ev_andV (ev_op (ev_is ev_c (show V.str "look" = wV .look from rfl)) (ev_var rfl) (rv_niW hp.sq)) fun _ => ev_op (ev_is ev_c (show V.str "try" = wV .tri from rfl)) (ev_var rfl) (rv_niW hp.sq)) ?_) fun H3 e3 => q H3 ((e1.trans e2).trans e3)
      unfold pTA
      rw [if_pos hw]
theorem ok_off_has_home (T : Txt K mg w)  : FnG P w K mg base CX0 1 T.f_off_has_home T.fd_off_has_home ["row"] (sp_ohh K) := by
  skip
  refine okG T.F_off_has_home sc_off_has_home (fun vs H Q E h => ?_) (fun cdv A outer s H vs Q E gd hr h => ?_)
  · obtain ⟨_, _, rfl, _⟩ := h
    all_goals rfl
  · obtain ⟨a, us, rfl, ra, q⟩ := h
    refine ⟨_, (pss_one (ps_ret (pe_or (pe_cmpR op_notIn_seq pe_str (pv 0) (by rfl)) (pe_one (pe_cmpR op_in_seq pe_str (pe_slice sl_tupA (pv 0) po_none (po_some (pe_bmX PySem.F.slot_tuple_index PySem.F.type_tuple_index mt_tup_index (pv 0) (pa_cons pe_str pa_nil)))) (by rfl)))))), ?_⟩
    refine s_ret (ev_orV (a := !decide (Wd.off ∈ us)) (ev_op (ev_is ev_c (show V.str "off" = wV .off from rfl)) (ev_var rfl) (rv_niW ra.sq)) fun hb => ?_) q
    have hw : Wd.off ∈ us := by simpa using hb
    exact ev_inCut (us := us) (lo := none) (hi := some (us.idxOf Wd.off : Nat)) (ev_is ev_c (show V.str "home" = wV .home from rfl)) (ev_var rfl) eo_none (eo_some (ev_idx (us := us) (ev_var rfl) (ev_is ev_c (show V.str "off" = wV .off from rfl)) ra hw)) ra _ (cut_to (idx_le _ _)) (all_to (idx_le _ _))
end
end My
namespace My
open PySem PySem.Spec PyProof.Rows L2 GL Evl StX SkE
/-! ### promises: what is checked -/
def rowKs : List Pt := [.take, .give, .move, .lift]
def ptW : Pt → Wd
  | .take => .take | .give => .give | .move => .move | _ => .lift
def sp_cfails : Sp := fun vs H Q _ => ∃ w : Wd, vs = [wV w] ∧ w ∈ failWs ∧ RetV .non H Q
def sp_cbool : Sp := fun vs H Q _ => ∃ (x : Str) (b : Bool), vs = [.str x, .bl b] ∧ RetV .non H Q
def sp_cbatch : Sp := fun vs H Q _ => ∃ n : Nat, vs = [nV n] ∧ 1 ≤ n ∧ n ≤ 50 ∧ RetV .non H Q
/-- the rows of r, each one of its kind -/
def rowOf (r : Ru) : Pt → Rw
  | .take => r.take | .give => r.give | .move => r.move | _ => r.lift
def sp_crows (K : PySem.W.Frag) : Sp := fun vs H Q _ => ∃ d r, vs = [.ref d] ∧ DictAt K H d rowKs r ∧ Ok r ∧ RetV .non H Q
theorem pW_kinds {us : Rw} (h : us.Sublist kindRows) : pW us kindRows = true := List.all_eq_true.mpr fun u hu => decide_eq_true (h.subset hu)
theorem rows_ok {r : Ru} (h : Ok r) {p : Pt} (hp : p ∈ rowKs) : RowOk (rowOf r p) ∧ pRow (ptW p) (rowOf r p) = true ∧ r.get p = .row (rowOf r p) ∧ ptW p ∈ kindRows ∧ V.str p.s = wV (ptW p) := by
  simp only [rowKs, List.mem_cons, List.not_mem_nil, or_false] at hp
  rcases hp with rfl | rfl | rfl | rfl
  · exact ⟨h.t.1, h.t.2.1, rfl, by decide, rfl⟩
  · exact ⟨h.g.1, h.g.2, rfl, by decide, rfl⟩
  · exact ⟨h.m.1, h.m.2.1, rfl, by decide, rfl⟩
  · exact ⟨h.l.1, h.l.2, rfl, by decide, rfl⟩
theorem at_last {us : Rw} (h : us ≠ []) : ∃ x, us.getLast? = some x ∧ atI (us.map wV) (-1) = some (wV x) := by
  have hl : 0 < us.length := List.length_pos_iff.mpr h
  refine ⟨us.getLast h, List.getLast?_eq_some_getLast h, ?_⟩
  unfold atI
  rw [List.length_map]
  have e : ixN us.length (-1) = some (us.length - 1) := by
    unfold ixN
    rw [if_neg (by omega), if_pos (by omega)]
    congr 1
    omega
  rw [e]
  show (us.map wV)[us.length - 1]? = _
  rw [at_w (w := us.getLast h)]
  rw [List.getLast_eq_getElem]
  exact List.getElem?_eq_getElem (by omega)
section
variable {P : Program} {w : World} {K : PySem.W.Frag} {mg : Str → Option Value} {base : Heap} {H H' : Hp} {σ : L2.St} {te ta tb : TE} {tA : TA} {D : Ends} {tz : TS} {a b : Addr} {us ws : Rw} {x c : V}
theorem cbl {a b : Bool} (h : a = b) : V.bl a = V.bl b := congrArg V.bl h
theorem ev_hwo {Er : XK} (h1 : Ev ta σ H (.ref a)) (ra : RowX K H a us) (h2 : EvR K tb σ H ws) (ok : RowOk us) : Ev (tCall (sp_hwo K) [] Er (tCons ta (tCons tb tNil))) σ H (.bl (pW us ws)) :=
  ev_callR h1 h2 fun p H1 e1 hp => sv_hwo (ra.ex e1).at_ hp.sq ok.nd (by have := ok.ln; omega)
theorem ev_lit {z : Str} {w0 : Wd} (e : z = w0.s) : Ev (tC (.str z)) σ H (wV w0) := by
  rw [e]
  exact ev_c
theorem er_4 {z1 z2 z3 z4 : Str} {w1 w2 w3 w4 : Wd} (e1 : z1 = w1.s) (e2 : z2 = w2.s) (e3 : z3 = w3.s) (e4 : z4 = w4.s) : EvR K (tTupX (tCons (tC (.str z1)) (tCons (tC (.str z2)) (tCons (tC (.str z3)) (tCons (tC (.str z4)) tNil))))) σ H [w1, w2, w3, w4] := er_tup (ea_cons (ev_lit e1) (ea_cons (ev_lit e2) (ea_cons (ev_lit e3) (ea_cons (ev_lit e4) ea_nil)))) (by show 4 ≤ 1000; omega)
theorem er_3 {z1 z2 z3 : Str} {w1 w2 w3 : Wd} (e1 : z1 = w1.s) (e2 : z2 = w2.s) (e3 : z3 = w3.s) : EvR K (tTupX (tCons (tC (.str z1)) (tCons (tC (.str z2)) (tCons (tC (.str z3)) tNil)))) σ H [w1, w2, w3] := er_tup (ea_cons (ev_lit e1) (ea_cons (ev_lit e2) (ea_cons (ev_lit e3) ea_nil))) (by show 3 ≤ 1000; omega)
theorem er_2 {z1 z2 : Str} {w1 w2 : Wd} (e1 : z1 = w1.s) (e2 : z2 = w2.s) : EvR K (tTupX (tCons (tC (.str z1)) (tCons (tC (.str z2)) tNil))) σ H [w1, w2] := er_tup (ea_cons (ev_lit e1) (ea_cons (ev_lit e2) ea_nil)) (by show 2 ≤ 1000; omega)
theorem er_1 {z1 : Str} {w1 : Wd} (e1 : z1 = w1.s) : EvR K (tTupX (tCons (tC (.str z1)) tNil)) σ H [w1] := er_tup (ea_cons (ev_lit e1) ea_nil) (by show 1 ≤ 1000; omega)
theorem er_0 : EvR K (tTupX tNil) σ H [] := er_tup (us := []) ea_nil (Nat.zero_le _)
theorem ev_inL {z : Str} {w0 : Wd} (e : z = w0.s) (h2 : Ev tb σ H (.ref a)) (ra : RowX K H a us) : Ev (tOp (rIn K false) (tC (.str z)) tb) σ H (.bl (decide (w0 ∈ us))) := ev_op (ev_lit e) h2 (rv_inW ra.sq)
theorem ev_niL {z : Str} {w0 : Wd} (e : z = w0.s) (h2 : Ev tb σ H (.ref a)) (ra : RowX K H a us) : Ev (tOp (rIn K true) (tC (.str z)) tb) σ H (.bl (!decide (w0 ∈ us))) := ev_op (ev_lit e) h2 (rv_niW ra.sq)
theorem ok_is_take_row (T : Txt K mg w) (G_has_words_of : FnG P w K mg base CX0 3 T.f_has_words_of T.fd_has_words_of ["value", "words"] (sp_hwo K)) (G_tests_are_ahead : FnG P w K mg base CX0 1 T.f_tests_are_ahead T.fd_tests_are_ahead ["row", "word"] (sp_taa K)) : FnG P w K mg base CX0 4 T.f_is_take_row T.fd_is_take_row ["value"] (sp_row K pTake) := by
  skip
  refine okG T.F_is_take_row sc_is_take_row (fun vs H Q E h => ?_) (fun cdv A outer s H vs Q E gd hr h => ?_)
  · obtain ⟨_, _, rfl, _⟩ := h
    all_goals rfl
  · obtain ⟨a, us, rfl, ra, ok, q⟩ := h
    refine ⟨_, (pss_cons (ps_if ((pw_or (pt_not (pt_val (pc gd G_has_words_of (hr.mono (by decide)) (by rfl) T.m_has_words_of T.F_has_words_of.kp T.b_has_words_of .nil pass0 (pa_cons (pv 0) (pa_cons (pe_tupX (pa_cons pe_str (pa_cons pe_str (pa_cons pe_str (pa_cons pe_str pa_nil))))) pa_nil))))) (pw_or1 (pt_cmpR op_notIn_seq pe_str (pv 0) (by rfl))))).pt (pss_one (ps_ret pe_bl)) pss_nil) (pss_cons (ps_if (pt_cmpR op_in_seq pe_str (pv 0) (by rfl)) (pss_one (ps_ret (pe_cmpR (op_eqD (roomU hr)) (pv 0) (pe_tupX (pa_cons pe_str (pa_cons pe_str pa_nil))) (nomark _)))) pss_nil) (pss_one (ps_ret (pe_and (pe_cmpR op_in_seq pe_str (pv 0) (by rfl)) (pe_one (pc gd G_tests_are_ahead (hr.mono (by decide)) (by rfl) T.m_tests_are_ahead T.F_tests_are_ahead.kp T.b_tests_are_ahead .nil pass0 (pa_cons (pv 0) (pa_cons pe_str pa_nil))))))))), ?_⟩
    refine q_when (b := !pW us [.live, .tri, .add, .look] || !decide (Wd.live ∈ us)) (et_or (et_not (et_B (ev_hwo (ev_var rfl) ra (er_4 rfl rfl rfl rfl) ok))) fun _ => et_test (ev_niL rfl (ev_var rfl) ra)) (fun hb H1 e1 => s_ret (ev_is ev_c (cbl (b := pTake us) ?_)) fun H2 e2 => q H2 (e1.trans e2)) fun hb H1 e1 => ?_
    · unfold pTake
      rcases Bool.or_eq_true_iff.mp hb with h | h
      · rw [Bool.not_eq_true'] at h
        rw [h, Bool.false_and, Bool.false_and]
      · rw [Bool.not_eq_true'] at h
        rw [h, Bool.and_false, Bool.false_and]
    rw [Bool.or_eq_false_iff, Bool.not_eq_false', Bool.not_eq_false'] at hb
    refine q_when (et_test (ev_inL (w0 := .tri) rfl (ev_var rfl) (ra.ex e1))) (fun hc H2 e2 => ?_) fun hc H2 e2 => ?_
    · refine s_ret (ev_is (ev_eqW (us := us) (ev_var rfl) ((ra.ex e1).ex e2) (er_2 (w1 := .tri) (w2 := .live) rfl rfl)) (congrArg V.bl ?_)) fun H3 e3 => q H3 ((e1.trans e2).trans e3)
      unfold pTake
      rw [hb.1, hb.2, if_pos (of_decide_eq_true hc)]
      rfl
    · refine s_ret (ev_is (ev_andV (ev_inL (w0 := .add) rfl (ev_var rfl) ((ra.ex e1).ex e2)) fun _ => ev_call (ea_cons (ev_var rfl) (ea_cons (ev_lit (w0 := .live) rfl) ea_nil)) (sv_taa (w := .live) ((ra.ex e1).ex e2))) (congrArg V.bl ?_)) fun H3 e3 => q H3 ((e1.trans e2).trans e3)
      unfold pTake
      rw [hb.1, hb.2, if_neg (of_decide_eq_false hc)]
      rfl
theorem ok_is_give_row (T : Txt K mg w) (G_has_words_of : FnG P w K mg base CX0 3 T.f_has_words_of T.fd_has_words_of ["value", "words"] (sp_hwo K)) (G_off_has_home : FnG P w K mg base CX0 1 T.f_off_has_home T.fd_off_has_home ["row"] (sp_ohh K)) : FnG P w K mg base CX0 4 T.f_is_give_row T.fd_is_give_row ["value"] (sp_row K pGive) := by
  skip
  refine okG T.F_is_give_row sc_is_give_row (fun vs H Q E h => ?_) (fun cdv A outer s H vs Q E gd hr h => ?_)
  · obtain ⟨_, _, rfl, _⟩ := h
    all_goals rfl
  · obtain ⟨a, us, rfl, ra, ok, q⟩ := h
    refine ⟨_, (pss_one (ps_ret (pe_and (pc gd G_has_words_of (hr.mono (by decide)) (by rfl) T.m_has_words_of T.F_has_words_of.kp T.b_has_words_of .nil pass0 (pa_cons (pv 0) (pa_cons (pe_tupX (pa_cons pe_str (pa_cons pe_str (pa_cons pe_str pa_nil)))) pa_nil))) (pe_and (pe_cmpR op_in_seq pe_str (pv 0) (by rfl)) (pe_one (pc gd G_off_has_home (hr.mono (by decide)) (by rfl) T.m_off_has_home T.F_off_has_home.kp T.b_off_has_home .nil pass0 (pa_cons (pv 0) pa_nil))))))), ?_⟩
    exact s_ret (ev_is (ev_andV (ev_hwo (ev_var rfl) ra (er_3 rfl rfl rfl) ok) fun _ => ev_andV (ev_inL rfl (ev_var rfl) ra) fun _ => ev_call (ea_cons (ev_var rfl) ea_nil) (sv_ohh ra)) (congrArg V.bl (by unfold pGive; rw [Bool.and_assoc]))) q
theorem ok_is_move_row (T : Txt K mg w) (G_has_words_of : FnG P w K mg base CX0 3 T.f_has_words_of T.fd_has_words_of ["value", "words"] (sp_hwo K)) (G_off_has_home : FnG P w K mg base CX0 1 T.f_off_has_home T.fd_off_has_home ["row"] (sp_ohh K)) (G_tests_are_ahead : FnG P w K mg base CX0 1 T.f_tests_are_ahead T.fd_tests_are_ahead ["row", "word"] (sp_taa K)) : FnG P w K mg base CX0 4 T.f_is_move_row T.fd_is_move_row ["value"] (sp_row K pMove) := by
  skip
  refine okG T.F_is_move_row sc_is_move_row (fun vs H Q E h => ?_) (fun cdv A outer s H vs Q E gd hr h => ?_)
  · obtain ⟨_, _, rfl, _⟩ := h
    all_goals rfl
  · obtain ⟨a, us, rfl, ra, ok, q⟩ := h
    refine ⟨_, (pss_cons (ps_if (pt_not (pt_val (pc gd G_has_words_of (hr.mono (by decide)) (by rfl) T.m_has_words_of T.F_has_words_of.kp T.b_has_words_of .nil pass0 (pa_cons (pv 0) (pa_cons (pe_tupX (pa_cons pe_str (pa_cons pe_str (pa_cons pe_str (pa_cons pe_str (pa_cons pe_str (pa_cons pe_str pa_nil))))))) pa_nil))))) (pss_one (ps_ret pe_bl)) pss_nil) (pss_cons (ps_if (pt_cmpR (op_eqD (roomU hr)) (pv 0) (pe_tupX pa_nil) (nomark _)) (pss_one (ps_ret pe_bl)) pss_nil) (pss_cons (ps_if ((pw_or (pt_cmpR op_notIn_seq pe_str (pv 0) (by rfl)) (pw_or1 ((pw_and (pt_cmpR op_in_seq pe_str (pv 0) (by rfl)) (pw_and1 ((pw_or (pt_cmpR op_in_seq pe_str (pv 0) (by rfl)) (pw_or1 (pt_cmpR op_in_seq pe_str (pv 0) (by rfl))))).pt))).pt))).pt (pss_one (ps_ret pe_bl)) pss_nil) (pss_one (ps_ret (pe_and (pc gd G_off_has_home (hr.mono (by decide)) (by rfl) T.m_off_has_home T.F_off_has_home.kp T.b_off_has_home .nil pass0 (pa_cons (pv 0) pa_nil)) (pe_and (pc gd G_tests_are_ahead (hr.mono (by decide)) (by rfl) T.m_tests_are_ahead T.F_tests_are_ahead.kp T.b_tests_are_ahead .nil pass0 (pa_cons (pv 0) (pa_cons pe_str pa_nil))) (pe_one (pc gd G_tests_are_ahead (hr.mono (by decide)) (by rfl) T.m_tests_are_ahead T.F_tests_are_ahead.kp T.b_tests_are_ahead .nil pass0 (pa_cons (pv 0) (pa_cons pe_str pa_nil))))))))))), ?_⟩
    refine q_when (b := !pW us [.set, .home, .add, .look, .tri, .off]) (et_not (et_B (ev_hwo (ev_var rfl) ra (er_tup (us := [.set, .home, .add, .look, .tri, .off]) (ea_cons (ev_lit rfl) (ea_cons (ev_lit rfl) (ea_cons (ev_lit rfl) (ea_cons (ev_lit rfl) (ea_cons (ev_lit rfl) (ea_cons (ev_lit rfl) ea_nil)))))) (by show 6 ≤ 1000; omega)) ok))) (fun hb H1 e1 => s_ret (ev_is ev_c (cbl (b := pMove us) ?_)) fun H2 e2 => q H2 (e1.trans e2)) fun hb H1 e1 => ?_
    · rw [Bool.not_eq_true'] at hb
      unfold pMove
      rw [hb, Bool.false_and]
    rw [Bool.not_eq_false'] at hb
    refine q_when (et_test (ev_eqW (us := us) (ev_var rfl) (ra.ex e1) er_0)) (fun hc H2 e2 => s_ret (ev_is ev_c (cbl (b := pMove us) ?_)) fun H3 e3 => q H3 ((e1.trans e2).trans e3)) fun hc H2 e2 => ?_
    · unfold pMove
      rw [hb, hc, Bool.true_or, Bool.and_true]
    have r2 := (ra.ex e1).ex e2
    refine q_when (b := !decide (Wd.set ∈ us) || decide (Wd.tri ∈ us) && (decide (Wd.add ∈ us) || decide (Wd.look ∈ us))) (et_or (et_test (ev_niL rfl (ev_var rfl) r2)) fun _ => et_and (et_test (ev_inL rfl (ev_var rfl) r2)) fun _ => et_or (et_test (ev_inL rfl (ev_var rfl) r2)) fun _ => et_test (ev_inL rfl (ev_var rfl) r2)) (fun hd H3 e3 => s_ret (ev_is ev_c (cbl (b := pMove us) ?_)) fun H4 e4 => q H4 (((e1.trans e2).trans e3).trans e4)) fun hd H3 e3 => ?_
    · unfold pMove
      rw [hb, hc, hd]
      rfl
    refine s_ret (ev_is (ev_andV (ev_call (ea_cons (ev_var rfl) ea_nil) (sv_ohh (r2.ex e3))) fun _ => ev_andV (ev_call (ea_cons (ev_var rfl) (ea_cons (ev_lit rfl) ea_nil)) (sv_taa (w := .set) (r2.ex e3))) fun _ => ev_call (ea_cons (ev_var rfl) (ea_cons (ev_lit rfl) ea_nil)) (sv_taa (w := .off) (r2.ex e3))) (congrArg V.bl ?_)) fun H4 e4 => q H4 (((e1.trans e2).trans e3).trans e4)
    unfold pMove
    rw [hb, hc, hd, Bool.and_assoc]
    rfl
/-- a tuple of rows -/
theorem rows_at {T : Txt K mg w} : DpAll K H [.ref T.g0_LIFT_ROWS, .ref T.g1_LIFT_ROWS, .ref T.g2_LIFT_ROWS, .ref T.g3_LIFT_ROWS, .ref T.g4_LIFT_ROWS, .ref T.g5_LIFT_ROWS] (liftRows.map dRow) :=
  .cons (.tup (T.s0_LIFT_ROWS H) (dp_ws H [])) (.cons (.tup (T.s1_LIFT_ROWS H) (dp_ws H [.set])) (.cons (.tup (T.s2_LIFT_ROWS H) (dp_ws H [.off])) (.cons (.tup (T.s3_LIFT_ROWS H) (dp_ws H [.set, .off])) (.cons (.tup (T.s4_LIFT_ROWS H) (dp_ws H [.off, .set])) (.cons (.tup (T.s5_LIFT_ROWS H) (dp_ws H [.both])) .nil)))))
theorem ok_is_lift_row (T : Txt K mg w) (G_has_words_of : FnG P w K mg base CX0 3 T.f_has_words_of T.fd_has_words_of ["value", "words"] (sp_hwo K)) : FnG P w K mg base CX0 4 T.f_is_lift_row T.fd_is_lift_row ["value"] (sp_row K pLift) := by
  skip
  refine okG T.F_is_lift_row sc_is_lift_row (fun vs H Q E h => ?_) (fun cdv A outer s H vs Q E gd hr h => ?_)
  · obtain ⟨_, _, rfl, _⟩ := h
    all_goals rfl
  · obtain ⟨a, us, rfl, ra, ok, q⟩ := h
    refine ⟨_, (pss_one (ps_ret (pe_and (pc gd G_has_words_of (hr.mono (by decide)) (by rfl) T.m_has_words_of T.F_has_words_of.kp T.b_has_words_of .nil pass0 (pa_cons (pv 0) (pa_cons (pe_tupX (pa_cons pe_str (pa_cons pe_str (pa_cons pe_str pa_nil)))) pa_nil))) (pe_one (pe_cmpR (op_inDT (roomW hr)) (pv 0) (pe_glob (v := .ref T.g_LIFT_ROWS) (by rfl) T.m_LIFT_ROWS rfl) (by rfl)))))), ?_⟩
    refine s_ret (ev_andV (ev_hwo (ev_var rfl) ra (er_3 rfl rfl rfl) ok) fun _ => ev_op (ev_var rfl) ev_c fun H1 e1 Q q => ⟨dRow us, liftRows.map dRow, (ra.ex e1).dp, .tup (T.s_LIFT_ROWS H1) rows_at, row_shaped us, rowsT_shaped _, ?_⟩) q
    rw [any_row]
    exact q H1 (Ex.refl H1)
def RowChk (T : Txt K mg w) (f : Addr) (sp : Sp) : Prop := (f = T.f_is_take_row ∧ sp = sp_row K pTake) ∨ (f = T.f_is_give_row ∧ sp = sp_row K pGive) ∨ (f = T.f_is_move_row ∧ sp = sp_row K pMove) ∨ (f = T.f_is_lift_row ∧ sp = sp_row K pLift)
theorem rowChecks (T : Txt K mg w) (G1 : FnG P w K mg base CX0 4 T.f_is_take_row T.fd_is_take_row ["value"] (sp_row K pTake)) (G2 : FnG P w K mg base CX0 4 T.f_is_give_row T.fd_is_give_row ["value"] (sp_row K pGive)) (G3 : FnG P w K mg base CX0 4 T.f_is_move_row T.fd_is_move_row ["value"] (sp_row K pMove)) (G4 : FnG P w K mg base CX0 4 T.f_is_lift_row T.fd_is_lift_row ["value"] (sp_row K pLift)) :
    ∀ f sp, RowChk T f sp → HeldG P w K mg base 4 f sp := by
  intro f sp h
  rcases h with ⟨rfl, rfl⟩ | ⟨rfl, rfl⟩ | ⟨rfl, rfl⟩ | ⟨rfl, rfl⟩
  · exact ⟨_, _, G1, T.F_is_take_row.kp, T.b_is_take_row⟩
  · exact ⟨_, _, G2, T.F_is_give_row.kp, T.b_is_give_row⟩
  · exact ⟨_, _, G3, T.F_is_move_row.kp, T.b_is_move_row⟩
  · exact ⟨_, _, G4, T.F_is_lift_row.kp, T.b_is_lift_row⟩
theorem row_fn (T : Txt K mg w) {k : Wd} (hk : k ∈ kindRows) : ∃ f, KDct K w T.g_ROW_CHECKS k.s (.ref f) ∧ RowChk T f (sp_row K (pRow k)) := by
  simp only [kindRows, List.mem_cons, List.not_mem_nil, or_false] at hk
  rcases hk with rfl | rfl | rfl | rfl
  · exact ⟨_, T.k_ROW_CHECKS_take, .inl ⟨rfl, rfl⟩⟩
  · exact ⟨_, T.k_ROW_CHECKS_give, .inr (.inl ⟨rfl, rfl⟩)⟩
  · exact ⟨_, T.k_ROW_CHECKS_move, .inr (.inr (.inl ⟨rfl, rfl⟩))⟩
  · exact ⟨_, T.k_ROW_CHECKS_lift, .inr (.inr (.inr ⟨rfl, rfl⟩))⟩
theorem ok_is_row (T : Txt K mg w) (G_is_take_row : FnG P w K mg base CX0 4 T.f_is_take_row T.fd_is_take_row ["value"] (sp_row K pTake)) (G_is_give_row : FnG P w K mg base CX0 4 T.f_is_give_row T.fd_is_give_row ["value"] (sp_row K pGive)) (G_is_move_row : FnG P w K mg base CX0 4 T.f_is_move_row T.fd_is_move_row ["value"] (sp_row K pMove)) (G_is_lift_row : FnG P w K mg base CX0 4 T.f_is_lift_row T.fd_is_lift_row ["value"] (sp_row K pLift)) : FnG P w K mg base CX0 5 T.f_is_row T.fd_is_row ["kind", "value"] (sp_isrow K) := by
  skip
  refine okG T.F_is_row sc_is_row (fun vs H Q E h => ?_) (fun cdv A outer s H vs Q E gd hr h => ?_)
  · obtain ⟨_, _, _, rfl, _⟩ := h
    all_goals rfl
  · obtain ⟨k, a, us, rfl, hk, ra, ok, q⟩ := h
    refine ⟨_, (pss_cons (ps_set (i := 2) sc_is_row.nd rfl (Or.inl rfl) (pe_ix ix_kdict (pe_glob (v := .ref T.g_ROW_CHECKS) (by rfl) T.m_ROW_CHECKS rfl) (pv 0) (fun _ _ => rfl))) (pss_one (ps_ret (pcH (i := 2) gd (rowChecks T G_is_take_row G_is_give_row G_is_move_row G_is_lift_row) (hr.mono (by decide)) rfl (Or.inl rfl) (pa_cons (pv 1) pa_nil))))), ?_⟩
    obtain ⟨f, kd, rc⟩ := row_fn T hk
    refine q_asg (v := .ref f) (ev_op ev_c (ev_var rfl) fun H1 _ Q q => ⟨_, _, _, rfl, rfl, kd, q H1 (Ex.refl H1)⟩) fun H1 e1 => ?_
    exact s_retR ⟨f, _, rfl, rc, ea_cons (ev_var rfl) ea_nil H1 (Ex.refl H1) _ fun H2 e2 => sv_row (f := pRow k) (ra.ex (e1.trans e2)) ok H2 (Ex.refl H2) _ (fun H3 e3 => q H3 ((e1.trans e2).trans e3)) _⟩
theorem ok_fits_batch (T : Txt K mg w)  : FnG P w K mg base CX0 1 T.f_fits_batch T.fd_fits_batch ["row", "batch"] (sp_fitb K) := by
  skip
  refine okG T.F_fits_batch sc_fits_batch (fun vs H Q E h => ?_) (fun cdv A outer s H vs Q E gd hr h => ?_)
  · obtain ⟨_, _, _, rfl, _⟩ := h
    all_goals rfl
  · obtain ⟨a, us, n, rfl, ra, ne, q⟩ := h
    refine ⟨_, (pss_one (ps_ret (pe_or (pe_cmpR op_eq (pv 1) pe_int (nomark _)) (pe_one (pe_cmpR op_eq (pe_ix ix_tup (pv 0) (pe_un un_neg pe_int) (fun _ _ => rfl)) pe_str (nomark _)))))), ?_⟩
    obtain ⟨x, hx, hat⟩ := at_last ne
    refine s_ret (ev_is (ev_orV (a := decide (n = 1)) (ev_is (ev_op (ev_var rfl) ev_c (rv_eq rfl)) (congrArg V.bl (nV_eq n 1))) fun _ => ev_is (ev_op (ev_op (ev_var rfl) (ev_un ev_c ru_neg) (rv_ixT ra.sq hat)) (ev_lit rfl) (rv_eq rfl)) (congrArg V.bl (wV_eq x .live))) (congrArg V.bl ?_)) q
    unfold pBatch
    rw [hx]
    congr 1
    exact decide_eq_decide.mpr ⟨fun e => by rw [e], fun e => Option.some.inj e⟩
theorem ok_fits_shared (T : Txt K mg w)  : FnG P w K mg base CX0 1 T.f_fits_shared T.fd_fits_shared ["row", "shared"] (sp_fits K) := by
  skip
  refine okG T.F_fits_shared sc_fits_shared (fun vs H Q E h => ?_) (fun cdv A outer s H vs Q E gd hr h => ?_)
  · obtain ⟨_, _, _, rfl, _⟩ := h
    all_goals rfl
  · obtain ⟨a, us, b, rfl, ra, q⟩ := h
    refine ⟨_, (pss_one (ps_ret (pe_or (pv 1) (pe_or (pe_cmpR (op_eqD (roomU hr)) (pv 0) (pe_tupX pa_nil) (nomark _)) (pe_one (pe_cmpR op_eq (pe_ix ix_tup (pv 0) pe_int (fun _ _ => rfl)) pe_str (nomark _))))))), ?_⟩
    refine s_ret (ev_is (ev_orV (ev_var rfl) fun _ => ev_orV (a := decide (us = [])) (b := decide (us.head? = some .home)) (ev_eqW (us := us) (ev_var rfl) ra er_0) fun hne => ?_) (cbl (b := pShared us b) (by unfold pShared; rw [Bool.or_assoc]))) q
    cases us with
    | nil => cases hne
    | cons x us =>
      refine ev_is (ev_op (ev_op (ev_var rfl) ev_c (rv_ixT ra.sq (atI_nat (j := 0) rfl))) (ev_lit rfl) (rv_eq rfl)) (congrArg V.bl ((wV_eq x .home).trans ?_))
      exact decide_eq_decide.mpr ⟨fun e => by rw [e]; rfl, fun e => Option.some.inj e⟩
theorem ok_check_fails (T : Txt K mg w) (G_is_word : FnG P w K mg base CX0 1 T.f_is_word T.fd_is_word ["value", "words"] (sp_isword K)) : FnG P w K mg base CX0 2 T.f_check_fails T.fd_check_fails ["value"] sp_cfails := by
  skip
  refine okG T.F_check_fails sc_check_fails (fun vs H Q E h => ?_) (fun cdv A outer s H vs Q E gd hr h => ?_)
  · obtain ⟨_, rfl, _⟩ := h
    all_goals rfl
  · obtain ⟨w0, rfl, hw, q⟩ := h
    refine ⟨_, (pss_one (ps_if (pt_not (pt_val (pc gd G_is_word (hr.mono (by decide)) (by rfl) T.m_is_word T.F_is_word.kp T.b_is_word .nil pass0 (pa_cons (pv 0) (pa_cons (pe_glob (v := .ref T.g_FAILS) (by rfl) T.m_FAILS rfl) pa_nil))))) (pss_one ps_never) pss_nil)), ?_⟩
    refine s_when (b := false) (et_is (et_not (et_B (ev_call (ea_cons (ev_var rfl) (ea_cons ev_c ea_nil)) (sv_isword (ws := failWs) (T.s_FAILS H))))) (by rw [decide_eq_true hw]; rfl)) (fun z => nomatch z) fun _ H1 e1 => q H1 e1
theorem ok_check_bool (T : Txt K mg w)  : FnG P w K mg base CX0 1 T.f_check_bool T.fd_check_bool ["name", "value"] sp_cbool := by
  skip
  refine okG T.F_check_bool sc_check_bool (fun vs H Q E h => ?_) (fun cdv A outer s H vs Q E gd hr h => ?_)
  · obtain ⟨_, _, rfl, _⟩ := h
    all_goals rfl
  · obtain ⟨x, b, rfl, q⟩ := h
    refine ⟨_, (pss_one (ps_if (pt_not (pt_val (pe_callB call_isi (by rfl) T.z_isinstance boot_isinstance (pa_cons (pv 1) (pa_cons (pe_bltn (v := .ty "bool") (u := .type "bool") (by rfl) T.z_bool (by decide +kernel) rfl) pa_nil))))) (pss_one ps_never) pss_nil)), ?_⟩
    exact s_when (b := false) (et_not (a := true) (et_B (ev_cb (ea_cons (ev_var rfl) (ea_cons ev_c ea_nil)) (rc_isi (.ty "bool") (fun _ => .base (.bl b)) (kit_ty (by decide +kernel)))))) (fun z => nomatch z) fun _ H1 e1 => q H1 e1
theorem ok_check_batch (T : Txt K mg w) (G_is_an_integer : FnG P w K mg base CX0 1 T.f_is_an_integer T.fd_is_an_integer ["value"] sp_isint) : FnG P w K mg base CX0 2 T.f_check_batch T.fd_check_batch ["value"] sp_cbatch := by
  skip
  refine okG T.F_check_batch sc_check_batch (fun vs H Q E h => ?_) (fun cdv A outer s H vs Q E gd hr h => ?_)
  · obtain ⟨_, rfl, _⟩ := h
    all_goals rfl
  · obtain ⟨n, rfl, h1, h2, q⟩ := h
    refine ⟨_, (pss_one (ps_if ((pw_or (pt_not (pt_val (pc gd G_is_an_integer (hr.mono (by decide)) (by rfl) T.m_is_an_integer T.F_is_an_integer.kp T.b_is_an_integer .nil pass0 (pa_cons (pv 0) pa_nil)))) (pw_or1 (pt_not (pt_chain op_le op_le pe_int (pv 0) (pe_glob (v := .int 50) (by rfl) T.m_MOST_BATCH ⟨_, rfl⟩)))))).pt (pss_one ps_never) pss_nil)), ?_⟩
    refine s_when (b := false) (et_or (a := false) (b := false) (et_not (a := true) (et_B (ev_call (ea_cons (ev_var rfl) ea_nil) fun H1 e1 Q q E => ⟨n, rfl, q⟩))) fun _ => et_not (a := true) (et_test (ev_chain (b := true) (c := true) ev_c (ev_var rfl) (rv_bl rv_I0 (decide_eq_true (by omega))) (fun _ => ev_c) fun _ => rv_bl rv_I0 (decide_eq_true (by omega))))) (fun z => nomatch z) fun _ H1 e1 => q H1 e1
end
end My
namespace My
open PySem PySem.Spec PyProof.Rows L2 GL Evl StX SkE
/-! ### dicts of parts, made and merged -/
theorem merge_kvs (f : Pt → V) : ∀ (ls ks : List Pt), (ks ++ ls).Nodup → mergeK (kvs ks f) (kvs ls f) = kvs (ks ++ ls) f
  | [], ks, _ => by rw [List.append_nil]; rfl
  | p :: ls, ks, nd => by
    have np : p ∉ ks := fun h => (List.nodup_append.mp nd).2.2 p h p List.mem_cons_self rfl
    have e : putK (kvs ks f) (.inr p.s) (f p) = kvs (ks ++ [p]) f := by
      rw [put_new np]
      have : put f p (f p) = f := funext fun q => by
        unfold put
        split
        · rename_i h
          rw [h]
        · rfl
      rw [this]
    have ih := merge_kvs f ls (ks ++ [p]) (by rw [List.append_assoc]; exact nd)
    rw [List.append_assoc] at ih
    show mergeK (putK (kvs ks f) (.inr p.s) (f p)) (kvs ls f) = _
    rw [e]
    exact ih
theorem made_kvs (f : Pt → V) {ks : List Pt} (nd : ks.Nodup) : mergeK [] (kvs ks f) = kvs ks f := merge_kvs f ks [] nd
def bookKs : List Pt := [.take, .give, .move, .lift, .fails, .shared, .holds, .batch, .settles]
theorem bookKs_mem (p : Pt) : p ∈ bookKs := by cases p <;> decide
def bf (d : Addr) : List (Str × V) := putF "_parts" (.ref d) []
theorem bf_parts (d : Addr) : (bf d).lookup ("_parts" : Str) = some (.ref d) := by
  unfold bf
  rw [lookup_putF, if_pos rfl]
theorem bf_no (d : Addr) {m : Str} (h : ¬ m = "_parts") : (bf d).lookup m = none := by
  unfold bf
  rw [lookup_putF, if_neg h]
  rfl
/-- at b a book of these rules -/
structure BookP (K : PySem.W.Frag) (C : Addr) (H : Hp) (b dx d : Addr) (r : Ru) : Prop where
  ob : H b = some (.ins C dx (bf d))
  di : DictAt K H d bookKs r
  ok : Ok r
def BookAt (K : PySem.W.Frag) (C : Addr) (H : Hp) (b : Addr) (r : Ru) : Prop := ∃ dx d, BookP K C H b dx d r
section
variable {K : PySem.W.Frag} {C : Addr} {H H' : Hp} {a b dx d : Addr} {r : Ru}
theorem BookP.ex (h : BookP K C H b dx d r) (e : Ex H H') : BookP K C H' b dx d r := ⟨e _ _ h.ob, h.di.ex e, h.ok⟩
theorem BookAt.ex (h : BookAt K C H b r) (e : Ex H H') : BookAt K C H' b r := by
  obtain ⟨dx, d, p⟩ := h
  exact ⟨dx, d, p.ex e⟩
theorem BookP.exB (h : BookP K C H b dx d r) (e : ExB a H H') (n : NoTup H a) (nb : b ≠ a) (nd : d ≠ a) : BookP K C H' b dx d r := ⟨e _ _ nb h.ob, h.di.exB e nd n, h.ok⟩
/-- a list changes -/
theorem BookAt.exL (h : BookAt K C H b r) (e : ExB a H H') {xs : List V} (ha : H a = some (.lst xs)) : BookAt K C H' b r := by
  obtain ⟨dx, d, p⟩ := h
  refine ⟨dx, d, p.exB e (NoTup.lst ha) (fun z => ?_) (fun z => ?_)⟩
  · have := p.ob
    rw [z, ha] at this
    cases this
  · obtain ⟨f, h1, _⟩ := p.di
    rw [z, ha] at h1
    cases h1
theorem DictAt.exL {ks : List Pt} (h : DictAt K H d ks r) (e : ExB a H H') {xs : List V} (ha : H a = some (.lst xs)) : DictAt K H' d ks r := by
  refine h.exB e (fun z => ?_) (NoTup.lst ha)
  obtain ⟨f, h1, _⟩ := h
  rw [z, ha] at h1
  cases h1
/-- behind a lock -/
theorem unlock_ex {u : HO} (e : ExB d H H') (h : H d = some u) : Ex H (upd H' d u) := fun b o q => by
  by_cases z : b = d
  · rw [z, upd_same, ← h, ← z]
    exact q
  · rw [upd_ne z]
    exact e b o z q
end
/-- a book whose dict is new -/
def BookNew (K : PySem.W.Frag) (C : Addr) (H0 H : Hp) (b : Addr) (r : Ru) : Prop := ∃ dx d, H0 d = none ∧ BookP K C H b dx d r
theorem BookNew.at {K : PySem.W.Frag} {C : Addr} {H0 H : Hp} {b : Addr} {r : Ru} (h : BookNew K C H0 H b r) : BookAt K C H b r := by
  obtain ⟨dx, d, _, p⟩ := h
  exact ⟨dx, d, p⟩
theorem BookNew.old {K : PySem.W.Frag} {C : Addr} {G H0 H : Hp} {b : Addr} {r : Ru} (h : BookNew K C H0 H b r) (e : Ex G H0) : BookNew K C G H b r := by
  obtain ⟨dx, d, n, p⟩ := h
  exact ⟨dx, d, fresh_back e n, p⟩
def sp_Beq (K : PySem.W.Frag) (C : Addr) : Sp := fun vs H Q _ => (∃ a b r l, vs = [.ref a, .ref b] ∧ BookAt K C H a r ∧ BookAt K C H b l ∧ RetV (.bl (decide (r = l))) H Q) ∨
  (∃ a y T, vs = [.ref a, y] ∧ (∀ H1, Ex H H1 → TyX K H1 y (.type T)) ∧ T ∈ kinds ∧ RetV (.bl false) H Q)
section
variable {P : Program} {w : World} {K : PySem.W.Frag} {mg : Str → Option Value} {base : Heap} {C : Addr} {H H' : Hp} {σ : L2.St} {te tb : TE} {E : XK} {D : Ends} {tz : TS} {a b d : Addr} {r l : Ru} {us : Rw} {ks : List Pt} {x : V}
theorem ok_check_rows (T : Txt K mg w) (G_is_row : FnG P w K mg base CX0 5 T.f_is_row T.fd_is_row ["kind", "value"] (sp_isrow K)) : FnG P w K mg base CX0 6 T.f_check_rows T.fd_check_rows ["rows"] (sp_crows K) := by
  skip
  refine okG T.F_check_rows sc_check_rows (fun vs H Q E h => ?_) (fun cdv A outer s H vs Q E gd hr h => ?_)
  · obtain ⟨_, _, rfl, _⟩ := h
    all_goals rfl
  · obtain ⟨d, r, rfl, ⟨f, hd, hf⟩, ok, q⟩ := h
    refine ⟨_, (pss_one (ps_lock (ps_for PassesOwn.never rfl (pi_items (pv 0)) (pg_tup rfl (pgs_cons (pg_name (i := 1) sc_check_rows.nd rfl (Or.inl rfl) (Or.inr rfl)) (pgs_cons (pg_name (i := 2) sc_check_rows.nd rfl (Or.inl rfl) (Or.inr rfl)) pgs_nil))) (pss_one (ps_if (pt_not (pt_val (pc gd G_is_row (hr.mono (by decide)) (by rfl) T.m_is_row T.F_is_row.kp T.b_is_row .nil pass0 (pa_cons (pv 1) (pa_cons (pv 2) pa_nil))))) (pss_one ps_never) pss_nil))))), ?_⟩
    refine ⟨d, _, hd, True.intro, fun od => ⟨_, rfl, d, od, kvs rowKs f, rfl, upd_same, for_it walk_items (fun i σ' H' => ∃ x y, σ' = [some (.ref d), x, y] ∧ ExB d H H' ∧ H' d = some (.frz od (.dK (kvs rowKs f)))) ⟨_, _, rfl, ExB.set, upd_same⟩ (fun i σ' H' _ p => ?_) (fun i v σ' H' H2 hi p y => ?_) (fun σ' H' p => ?_)⟩⟩
    · obtain ⟨_, _, _, _, z⟩ := p
      exact z
    · obtain ⟨_, _, rfl, x1, h1⟩ := p
      obtain ⟨T1, x, z, rfl, nT, rfl, e1, e2⟩ := y
      have hi' : i < rowKs.length := by rwa [List.length_map] at hi
      obtain ⟨p, hp⟩ : ∃ p, rowKs[i]? = some p := ⟨_, List.getElem?_eq_getElem hi'⟩
      have hk : (kvs rowKs f)[i]? = some (.inr p.s, f p) := by rw [List.getElem?_map, hp]; rfl
      dsimp only at e1 e2
      rw [hk] at e1 e2
      cases e1
      cases e2
      have mp := List.mem_of_getElem? hp
      obtain ⟨o1, o2, o3, o4, o5⟩ := rows_ok ok mp
      have at1 := hf p mp
      rw [o3] at at1
      obtain ⟨a, ea, ra⟩ := at1
      have ra2 := (ra.exB x1 (NoTup.dK hd)).ex (Ex.new (o := .tup [kV (.inr p.s), f p]) nT)
      refine ⟨T1, _, rfl, st_of upd_same, rfl, _, _, rfl, _, _, rfl, rfl, ?_⟩
      refine s_when (b := false) (et_is (et_not (et_B (ev_call (ea_cons (ev_is (ev_var rfl) o5) (ea_cons (ev_is (ev_var rfl) ea) ea_nil)) (sv_isrow o4 ra2 o1)))) (by rw [o2]; rfl)) (fun z => nomatch z) fun _ H3 e3 => ⟨_, _, rfl, ?_, ?_⟩
      · exact fun b o n hb => e3 _ _ (Ex.new nT _ _ (x1 b o n hb))
      · exact e3 _ _ (Ex.new nT _ _ h1)
    · obtain ⟨_, _, rfl, x1, h1⟩ := p
      exact ⟨h1, q _ (unlock_ex x1 hd)⟩
/-- a part evaluates -/
def EvP (K : PySem.W.Frag) (te : TE) (σ : L2.St) (H : Hp) (p : Pv) : Prop := ∀ H1, Ex H H1 → ∀ Q : VK, (∀ v H2, Ex H1 H2 → p.At K H2 v → Q v H2) → te σ H1 Q
theorem ep_var {i : Nat} {p : Pv} {v : V} (h : σ[i]? = some (some v)) (hp : p.At K H v) : EvP K (tVar i) σ H p := fun H1 e Q q => ⟨v, h, q v H1 (Ex.refl H1) (hp.ex e)⟩
theorem EvP.mono {p : Pv} (e : Ex H H') (h : EvP K te σ H p) : EvP K te σ H' p := fun H1 a Q q => h H1 (e.trans a) Q q
theorem ep_getW {p : Pt} (h : Ev te σ H (.ref d)) (h2 : Ev tb σ H (.str p.s)) (hd : DictAt K H d ks r) (hp : p ∈ ks) : EvP K (tDGet te tb) σ H (r.get p) := fun H1 e1 Q q => h H1 e1 _ fun H2 e2 => h2 H2 (e1.trans e2) _ fun H3 e3 => by
  obtain ⟨f, z1, z2⟩ := hd.ex ((e1.trans e2).trans e3)
  exact ⟨d, f p, rfl, .inl ⟨kvs ks f, .inr p.s, .inl z1, rfl, (val_at hp).symm⟩, q _ H3 (e2.trans e3) (z2 p hp)⟩
theorem cb_L {r : List V → Hp → VK → Prop} {Q : VK} {xs : List V} (h : EvL te σ H xs) (k : ∀ p H1, H p = none → Ex H H1 → H1 p = some (.lst xs) → r [.ref p] H1 Q) : tCB r (tCons te tNil) σ H Q := h H (Ex.refl H) _ fun p H1 hp e h1 => k p H1 hp e h1
theorem sv_crows (h : DictAt K H d rowKs r) (ok : Ok r) : SpV (sp_crows K) [.ref d] H .non := fun _ e _ q _ => ⟨d, r, rfl, h.ex e, ok, q⟩
end
end My
namespace My
open PySem PySem.Spec PyProof.Rows L2 GL Evl StX SkE
/-! ### a book as it is shown, compared -/
def itm (r : Ru) (p : Pt) : Str := ((Str.empty ++ p.s) ++ "=") ++ (r.get p).d.shown
def bText (r : Ru) : Str := ((Str.empty ++ "Book(") ++ Str.join ", " (bookKs.map (itm r))) ++ ")"
def sp_Brepr (K : PySem.W.Frag) (C : Addr) : Sp := fun vs H Q _ => ∃ a r, vs = [.ref a] ∧ BookAt K C H a r ∧ RetV (.str (bText r)) H Q
theorem num_len {n : Nat} (h : n ≤ 50) : (PyData.int (n : Int)).shown.length ≤ 10 := by
  have go : ((List.range 51).all fun n => decide ((toString (n : Int) : Str).length ≤ 10)) = true := by decide +kernel
  have z := List.all_eq_true.mp go n (List.mem_range.mpr (by omega))
  simp only [PyData.shown]
  exact of_decide_eq_true z
theorem sh_len {r : Ru} (ok : Ok r) (p : Pt) : (r.get p).d.shown.length ≤ 100 := by
  have row : ∀ {us : Rw}, us.length ≤ 6 → (dRow us).shown.length ≤ 100 := fun h => by have := (sm_row h).ln; omega
  have bl : ∀ b : Bool, (PyData.bool b).shown.length ≤ 100 := fun b => by
    simp only [PyData.shown]
    cases b <;> decide
  have wd : ∀ w : Wd, (dW w).shown.length ≤ 100 := fun w => by have := w_text w; omega
  cases p
  · exact row ok.t.1.ln
  · exact row ok.g.1.ln
  · exact row ok.m.1.ln
  · exact row ok.l.1.ln
  · exact wd _
  · exact bl _
  · exact row (by have := holds_ln ok.h; omega)
  · have := num_len ok.b.2
    show (PyData.int (r.batch : Int)).shown.length ≤ 100
    omega
  · exact bl _
theorem pt_len (p : Pt) : p.s.length ≤ 7 := by cases p <;> decide +kernel
theorem itm_len {r : Ru} (ok : Ok r) (p : Pt) : (itm r p).length ≤ 110 := by
  unfold itm
  rw [Str.length_append, Str.length_append, Str.length_append]
  have h1 := sh_len ok p
  have h2 := pt_len p
  have h3 : Str.empty.length = 0 := by decide
  have h4 : (Str.ofString "=").length = 1 := by decide
  omega
theorem sum_len {ts : List Str} {B : Nat} (h : ∀ t ∈ ts, t.length ≤ B) : (ts.map (·.length)).sum ≤ ts.length * B := by
  induction ts with
  | nil => simp
  | cons t ts ih =>
    have h1 := h t List.mem_cons_self
    have h2 := ih fun x hx => h x (List.mem_cons_of_mem _ hx)
    rw [List.map_cons, List.sum_cons, List.length_cons, Nat.add_mul, Nat.one_mul]
    omega
theorem items_len {r : Ru} (ok : Ok r) : ∀ t ∈ bookKs.map (itm r), t.length ≤ 110 := fun t ht => by
  obtain ⟨p, _, rfl⟩ := List.mem_map.mp ht
  exact itm_len ok p
theorem ru_eqv (r l : Ru) : PyData.eqvAll (bookKs.map fun p => (r.get p).d) (bookKs.map fun p => (l.get p).d) = decide (r = l) := by
  have go : ∀ ks : List Pt, PyData.eqvAll (ks.map fun p => (r.get p).d) (ks.map fun p => (l.get p).d) = ks.all fun p => decide (r.get p = l.get p) := by
    intro ks
    induction ks with
    | nil => rfl
    | cons p ks ih =>
      show (PyData.eqv (r.get p).d (l.get p).d && PyData.eqvAll (ks.map fun p => (r.get p).d) (ks.map fun p => (l.get p).d)) = _
      rw [ih, eqv_get]
      rfl
  rw [go]
  by_cases e : r = l
  · subst e
    rw [decide_eq_true rfl, List.all_eq_true]
    exact fun _ _ => decide_eq_true rfl
  · rw [decide_eq_false e, Bool.eq_false_iff]
    exact fun z => e (Ru.ext_get fun p => of_decide_eq_true (List.all_eq_true.mp z p (bookKs_mem p)))
theorem dp_kvs {K : PySem.W.Frag} {H : Hp} {f : Pt → V} {r : Ru} : ∀ {ks : List Pt}, (∀ p ∈ ks, (r.get p).At K H (f p)) → DpAll K H ((kvs ks f).map (·.2)) (ks.map fun p => (r.get p).d)
  | [], _ => .nil
  | p :: ks, h => .cons (h p List.mem_cons_self).dp (dp_kvs fun q hq => h q (List.mem_cons_of_mem _ hq))
theorem kvs_keys (ks : List Pt) (f g : Pt → V) : (kvs ks f).map (·.1) = (kvs ks g).map (·.1) := by
  unfold kvs
  rw [List.map_map, List.map_map]
  rfl
theorem ks_shaped {r : Ru} {ks : List Pt} : ∀ d ∈ ks.map (fun p => (r.get p).d), SeqAt.shaped d = true := fun d hd => by
  obtain ⟨p, _, rfl⟩ := List.mem_map.mp hd
  exact Pv.shaped _
section
variable {P : Program} {w : World} {K : PySem.W.Frag} {mg : Str → Option Value} {base : Heap} {C : Addr} {H H' : Hp} {σ : L2.St} {te tb ta : TE} {E : XK} {D : Ends} {tz : TS} {a b d : Addr} {r l : Ru} {us : Rw} {ks : List Pt} {x y : V}
/-- == of two dicts of parts -/
theorem rv_eqDict (h1 : DictAt K H a ks r) (h2 : DictAt K H b ks l) : RV (rEqDict K) (.ref a) (.ref b) H (.bl (PyData.eqvAll (ks.map fun p => (r.get p).d) (ks.map fun p => (l.get p).d))) := fun H1 e Q q => by
  obtain ⟨f, z1, z2⟩ := h1.ex e
  obtain ⟨g, y1, y2⟩ := h2.ex e
  exact ⟨a, b, kvs ks f, kvs ks g, _, _, rfl, rfl, .inl z1, .inl y1, kvs_keys ks f g, dp_kvs z2, dp_kvs y2, ks_shaped, ks_shaped, q H1 (Ex.refl H1)⟩
theorem BookAt.insTy {T : Txt K mg w} (h : BookAt K T.C H b r) : ∀ H1, Ex H H1 → TyX K H1 (.ref b) (.ref T.C) := fun H1 e => by
  obtain ⟨dx, d, p⟩ := h.ex e
  exact .base (.ins p.ob T.c_Book T.x_class T.x_get T.x_tk T.x_mro)
theorem kit_kind (T : Txt K mg w) {k : String} (h : k ∈ kinds) : PySem.W.kitOne K (.type k) (.ref T.C) = some false := by
  unfold PySem.W.kitOne
  rw [if_neg (by simp)]
  unfold PySem.W.kitCls
  have h1 : (PySem.W.clsIn K T.C).isSome = true := T.x_cls
  show (if ((PySem.W.clsIn K T.C).isSome && PySem.W.typeIn K (.ref T.C) == some (.type "type")) = true then PySem.W.subIn K (.type k) (.ref T.C) else none) = some false
  rw [h1, T.x_ty, sub_kind h]
  simp
theorem ev_get {p : Pt} {f : Pt → V} (h : Ev te σ H (.ref d)) (hd : H d = some (.dK (kvs ks f))) (hp : p ∈ ks) : Ev (tDGet te (tC (.str p.s))) σ H (f p) := fun H1 e1 Q q => h H1 e1 _ fun H2 e2 =>
  ⟨d, f p, rfl, .inl ⟨kvs ks f, .inr p.s, .inl (e2 _ _ (e1 _ _ hd)), rfl, (val_at hp).symm⟩, q H2 e2⟩
theorem meth_raw {m : Str} {sp : Sp} {dvs : List V} {Er : XK} {tA : TA} {Q : VK} (h : Ev ta σ H (.ref b)) (k : ∀ H1, Ex H H1 → ∃ dx fs, H1 b = some (.ins C dx fs) ∧ fs.lookup m = none ∧ tA σ H1 fun vs H2 => sp (.ref b :: (vs ++ dvs)) H2 Q Er) : tMeth C m sp dvs Er ta tA σ H Q := h H (Ex.refl H) _ fun H1 e1 => by
  obtain ⟨dx, fs, h1, h2, h3⟩ := k H1 e1
  exact ⟨b, dx, fs, rfl, h1, h2, h3⟩
theorem cons_raw {tA : TA} {x : V} {Q : List V → Hp → Prop} (h : Ev ta σ H x) (k : ∀ H1, Ex H H1 → tA σ H1 fun vs H2 => Q (x :: vs) H2) : tCons ta tA σ H Q := h H (Ex.refl H) _ k
theorem ok_Beq (T : Txt K mg w)  : FnG P w K mg base CX0 1 T.f_Beq T.fd_Beq ["self", "other"] (sp_Beq K T.C) := by
  skip
  refine okG T.F_Beq sc_Beq (fun vs H Q E h => ?_) (fun cdv A outer s H vs Q E gd hr h => ?_)
  · obtain (⟨_, _, _, _, rfl, _⟩ | ⟨_, _, _, rfl, _⟩) := h
    all_goals rfl
  · obtain h := h
    refine ⟨_, (pss_one (ps_ret (pe_and (pe_callB call_isi (by rfl) T.z_isinstance boot_isinstance (pa_cons (pv 1) (pa_cons (pe_glob (v := .ref T.C) (by rfl) T.m_Book rfl) pa_nil))) (pe_one (pe_cmpR (op_eqDict (roomV hr)) (pe_fld (pv 0) rfl) (pe_fld (pv 1) rfl) (nomark _)))))), ?_⟩
    rcases h with ⟨a, b, r, l, rfl, ha, hb, q⟩ | ⟨a, y, k, rfl, ty, hk, q⟩
    · obtain ⟨dx, d, p⟩ := id ha
      obtain ⟨dx', d', p'⟩ := id hb
      refine s_ret (v := .bl (true && decide (r = l))) (ev_andV (ev_cb (ea_cons (ev_var rfl) (ea_cons ev_c ea_nil)) (rc_isiE (.own T.C) hb.insTy (if_pos (beq_self_eq_true _)))) fun _ => ev_is (ev_op (ev_fld (ev_var rfl) p.ob T.c_Book T.n_parts (bf_parts d)) (ev_fld (ev_var rfl) p'.ob T.c_Book T.n_parts (bf_parts d')) (rv_eqDict p.di p'.di)) (cbl (ru_eqv r l))) fun H1 e1 => ?_
      rw [Bool.true_and]
      exact q H1 e1
    · exact s_ret (v := .bl false) (ev_andV (a := false) (b := false) (ev_cb (ea_cons (ev_var rfl) (ea_cons ev_c ea_nil)) (rc_isiE (.own T.C) ty (kit_kind T hk))) fun z => nomatch z) q
/-- evaluates to a book -/
def EvB (K : PySem.W.Frag) (C : Addr) (te : TE) (σ : L2.St) (H : Hp) (r : Ru) : Prop := ∀ H1, Ex H H1 → ∀ Q : VK, (∀ p H2, Ex H1 H2 → BookAt K C H2 p r → Q (.ref p) H2) → te σ H1 Q
theorem ev_eqB {Er : XK} (h : EvB K C ta σ H r) (h2 : Ev tb σ H (.ref b)) (hb : BookAt K C H b l) : Ev (tOp (rEqOwn K C (sp_Beq K C) Er) ta tb) σ H (.bl (decide (r = l))) := fun H1 e1 Q q => h H1 e1 _ fun p H2 e2 hp => h2 H2 (e1.trans e2) _ fun H3 e3 => by
  have x3 := (e1.trans e2).trans e3
  obtain ⟨dx, d, z⟩ := id (hp.ex e3)
  obtain ⟨dy, d', z'⟩ := id (hb.ex x3)
  exact ⟨p, dx, _, rfl, z.ob, .ins z'.ob, .inl ⟨p, b, r, l, rfl, hp.ex e3, hb.ex x3, fun H4 e4 => ⟨_, rfl, q H4 ((e2.trans e3).trans e4)⟩⟩⟩
theorem ev_neB {Er : XK} (h : EvB K C ta σ H r) (h2 : Ev tb σ H (.ref b)) (hb : BookAt K C H b l) : Ev (tOp (rNeOwn K C (sp_Beq K C) Er) ta tb) σ H (.bl (!decide (r = l))) := fun H1 e1 Q q => h H1 e1 _ fun p H2 e2 hp => h2 H2 (e1.trans e2) _ fun H3 e3 => by
  have x3 := (e1.trans e2).trans e3
  obtain ⟨dx, d, z⟩ := id (hp.ex e3)
  obtain ⟨dy, d', z'⟩ := id (hb.ex x3)
  exact ⟨p, dx, _, rfl, z.ob, .ins z'.ob, .inl ⟨p, b, r, l, rfl, hp.ex e3, hb.ex x3, fun H4 e4 => ⟨_, rfl, q H4 ((e2.trans e3).trans e4)⟩⟩⟩
theorem tlc_of {wi : TI} {g : TG} {tt : TT} {vs : List Nat} {Q : VK} {J : It} {n : Nat} {G : Hp → Prop} {Y : Nat → Hp → V → Hp → Prop} (w : Walk J n G Y) (hw : ∀ R : It → Hp → Prop, R J H → wi σ H R) (Pv : Addr → Nat → Hp → Prop) (h0 : ∀ Dl, H Dl = none → Pv Dl 0 (upd H Dl (.lst [])))
    (hG : ∀ Dl i H', i ≤ n → Pv Dl i H' → G H') (hs : ∀ Dl i x H1 H2, H Dl = none → i < n → Pv Dl i H1 → Y i H1 x H2 → g x (wipe σ vs) H2 fun σ2 H2 => wipe σ2 vs = wipe σ vs ∧ tt σ2 H2 fun b H3 => if b = true then te σ2 H3 fun y H4 => ∃ acc, H4 Dl = some (.lst acc) ∧ acc.length < sizeLine ∧ Pv Dl (i + 1) (upd H4 Dl (.lst (acc ++ [y]))) else Pv Dl (i + 1) H3)
    (hd : ∀ Dl H', H Dl = none → Pv Dl n H' → Q (.ref Dl) H') : tLc wi g tt te vs σ H Q := hw _ fun Dl hDl => lc_it w (Pv Dl) (h0 Dl hDl) (hG Dl) (fun i x H1 H2 hi p y => hs Dl i x H1 H2 hDl hi p y) (Qd := fun H' => Q (.ref Dl) H') (fun H' p => hd Dl H' hDl p)
theorem ej_cons {t : TE} {ts : List TE} {acc y : Str} {Q : Str → Hp → Prop} (h : Ev t σ H (.str y)) (hl : (acc ++ y).length ≤ 100000) (k : ∀ H1, Ex H H1 → tJs ts (acc ++ y) σ H1 Q) : tJs (t :: ts) acc σ H Q := h H (Ex.refl H) _ fun H1 e => ⟨y, rfl, sz_of hl, k H1 e⟩
theorem ev_fmtS {y : Str} (h : Ev te σ H (.str y)) (hl : y.length ≤ 100000) : Ev (tFmt te) σ H (.str y) := fun H1 e Q q => h H1 e _ fun H2 e2 => .inl ⟨y, rfl, sz_of hl, q H2 e2⟩
theorem fmt_any {v : V} {r : Ru} {p : Pt} {Q : VK} (ok : Ok r) (h : (r.get p).At K H v) (q : Q (.str (r.get p).d.shown) H) :
    (∃ y : Str, v = .str y ∧ (reprText y).length ≤ sizeLine ∧ Q (.str (reprText y)) H) ∨ (∃ i : Int, v = .int i ∧ i.natAbs.log2 < 1920 ∧ Q (.str (toString i)) H) ∨ (∃ b : Bool, v = .bl b ∧ Q (.str (if b then "True" else "False")) H) ∨
    (∃ d, Dp K H v d ∧ isDisplay d = true ∧ d.showable = true ∧ d.hasDict = false ∧ d.depth ≤ 60 ∧ d.shown.length ≤ sizeLine ∧ Q (.str d.shown) H) := by
  have len := sh_len ok p
  have row : ∀ {us : Rw}, us.length ≤ 6 → (r.get p).d = dRow us → ∃ d, Dp K H v d ∧ isDisplay d = true ∧ d.showable = true ∧ d.hasDict = false ∧ d.depth ≤ 60 ∧ d.shown.length ≤ sizeLine ∧ Q (.str d.shown) H := fun hl e => by
    have s := sm_row hl
    have dp := h.dp
    rw [e] at dp q len
    exact ⟨_, dp, rfl, s.sh, s.nd, by have := s.de; omega, sz_of (by omega), q⟩
  cases p
  · exact .inr (.inr (.inr (row ok.t.1.ln rfl)))
  · exact .inr (.inr (.inr (row ok.g.1.ln rfl)))
  · exact .inr (.inr (.inr (row ok.m.1.ln rfl)))
  · exact .inr (.inr (.inr (row ok.l.1.ln rfl)))
  · cases h
    have e : (dW r.fails).shown = reprText r.fails.s := by
      show (PyData.str r.fails.s).shown = _
      simp only [PyData.shown]
    have e2 : (r.get .fails).d = dW r.fails := rfl
    rw [e2, e] at q len
    exact .inl ⟨_, rfl, sz_of (by omega), q⟩
  · cases h
    have e : (PyData.bool r.shared).shown = (if r.shared then ("True" : Str) else "False") := by simp only [PyData.shown]
    have e2 : (r.get .shared).d = .bool r.shared := rfl
    rw [e2, e] at q
    exact .inr (.inr (.inl ⟨_, rfl, by cases hb : r.shared <;> rw [hb] at q <;> exact q⟩))
  · exact .inr (.inr (.inr (row (by have := holds_ln ok.h; omega) rfl)))
  · cases h
    have e : (PyData.int (r.batch : Int)).shown = toString (r.batch : Int) := by simp only [PyData.shown]
    have e2 : (r.get .batch).d = .int r.batch := rfl
    rw [e2, e] at q
    have hb := ok.b.2
    refine .inr (.inl ⟨_, rfl, ?_, q⟩)
    have : ((r.batch : Int)).natAbs = r.batch := Int.natAbs_natCast _
    rw [this]
    by_cases z : r.batch = 0
    · rw [z]
      decide
    · exact Nat.lt_of_lt_of_le ((Nat.log2_lt z).mpr (show r.batch < 2 ^ 6 by omega)) (by decide)
  · cases h
    have e : (PyData.bool r.settles).shown = (if r.settles then ("True" : Str) else "False") := by simp only [PyData.shown]
    have e2 : (r.get .settles).d = .bool r.settles := rfl
    rw [e2, e] at q
    exact .inr (.inr (.inl ⟨_, rfl, by cases hb : r.settles <;> rw [hb] at q <;> exact q⟩))
theorem ev_fmtA {v : V} {r : Ru} {p : Pt} (ok : Ok r) (h : Ev te σ H v) (hv : (r.get p).At K H v) : Ev (tFmtV K te) σ H (.str (r.get p).d.shown) := fun H1 e Q q => h H1 e _ fun H2 e2 => fmt_any ok (hv.ex (e.trans e2)) (q H2 e2)
theorem ok_Brepr (T : Txt K mg w)  : FnG P w K mg base CX0 1 T.f_Brepr T.fd_Brepr ["self"] (sp_Brepr K T.C) := by
  skip
  refine okG T.F_Brepr sc_Brepr (fun vs H Q E h => ?_) (fun cdv A outer s H vs Q E gd hr h => ?_)
  · obtain ⟨_, _, rfl, _⟩ := h
    all_goals rfl
  · obtain ⟨a, r, rfl, ⟨dx, d, p⟩, q⟩ := h
    refine ⟨_, (pss_cons (ps_set (i := 1) sc_Brepr.nd rfl (Or.inl rfl) (pe_join pe_str (pe_lock (pe_lc (own := [("name", 2), ("value", 3)]) (g := gTup K 2 (gCons (gName 2) (gCons (gName 3) gNil))) rfl sc_Brepr.nd (pi_items (pe_fld (pv 0) rfl)) (blkOk_by (N := N_Brepr) (sc := defScope s_Brepr) (by decide +kernel)) (fun _ _ _ _ _ => (pg_tup rfl (pgs_cons (pg_name (i := 2) sc_Brepr.nd rfl (Or.inl rfl) (Or.inr rfl)) (pgs_cons (pg_name (i := 3) sc_Brepr.nd rfl (Or.inl rfl) (Or.inr rfl)) pgs_nil)))) (fun _ _ _ _ _ => pts_nil) (fun _ _ _ _ _ => (pe_joined (.cons (pe_fmt (pv 2)) (.cons pe_str (.cons (show PE _ _ (tFmtV K _) from pe_fmtV gd (roomU hr) (pv 3)) .nil))))))))) (pss_one (ps_ret (pe_joined (.cons pe_str (.cons (pe_fmt (pv 1)) (.cons pe_str .nil))))))), ?_⟩
    obtain ⟨f, hd, hf⟩ := id p.di
    have nda : d ≠ a := fun z => by rw [z, p.ob] at hd; cases hd
    refine q_asgR ⟨⟨_, rfl⟩, d, _, hd, True.intro, fun od => ?_⟩
    have hl : (upd H d (.frz od (.dK (kvs bookKs f)))) a = some (.ins T.C dx (bf d)) := by rw [upd_ne nda.symm]; exact p.ob
    have hdl : (upd H d (.frz od (.dK (kvs bookKs f)))) d = some (.frz od (.dK (kvs bookKs f))) := upd_same
    have nl : ExB d H (upd H d (.frz od (.dK (kvs bookKs f)))) := ExB.set
    generalize upd H d (.frz od (.dK (kvs bookKs f))) = Hl at hl hdl nl
    refine tlc_of (walk_items (d := d) (o := od) (kvs := kvs bookKs f)) (fun R hR => ⟨_, rfl, a, T.C, dx, _, .ref d, rfl, hl, T.c_Book, T.n_parts, bf_parts d, d, od, kvs bookKs f, rfl, hdl, hR⟩) (fun Dl => Cw Hl (fun _ => true) (fun i => (bookKs[i]?.map fun p => V.str (itm r p)).getD .non) Dl) (fun Dl hDl => ⟨hDl, Ex.new hDl, upd_same⟩) (fun Dl i H' _ c => c.2.1 _ _ hdl) (fun Dl i v H' H2 hDl hi c y => ?_) (fun Dl H' hDl c => ?_)
    · obtain ⟨T1, x, z, rfl, nT, rfl, y1, y2⟩ := y
      dsimp only at y1 y2
      have hi' : i < bookKs.length := by rwa [List.length_map] at hi
      have hi9 : i < 9 := hi'
      obtain ⟨p', hp'⟩ : ∃ p', bookKs[i]? = some p' := ⟨_, List.getElem?_eq_getElem hi'⟩
      have hk : (kvs bookKs f)[i]? = some (.inr p'.s, f p') := by rw [List.getElem?_map, hp']; rfl
      rw [hk] at y1 y2
      cases y1
      cases y2
      have c2 : Cw Hl (fun _ => true) (fun i => (bookKs[i]?.map fun p => V.str (itm r p)).getD .non) Dl i (upd H' T1 (.tup [kV (.inr p'.s), f p'])) := ⟨c.1, c.2.1.trans (Ex.new nT), Ex.new nT _ _ c.2.2⟩
      refine ⟨T1, _, rfl, st_of upd_same, rfl, _, _, rfl, _, _, rfl, rfl, rfl, cw_turn (te := fun σ H Q => tJs [tFmt (tVar 2), tC (.str "="), tFmtV K (tVar 3)] Str.empty σ H fun out H1 => Q (.str out) H1) c2 (by omega) et_yes fun _ => ?_⟩
      rw [hp']
      show Ev _ _ _ (.str (itm r p'))
      intro H3 e3 Q3 q3
      have at3 : (r.get p').At K H3 (f p') := ((hf p' (bookKs_mem _)).exB nl (NoTup.dK hd)).ex e3
      have l0 : (Str.empty ++ p'.s).length ≤ 100 := by
        rw [Str.length_append]
        have := pt_len p'
        have h3 : Str.empty.length = 0 := by decide
        omega
      have l1 : ((Str.empty ++ p'.s) ++ "=").length ≤ 101 := by
        rw [Str.length_append]
        have h4 : (Str.ofString "=").length = 1 := by decide
        omega
      have l2 := itm_len p.ok p'
      refine ej_cons (ev_fmtS (ev_var rfl) (by have := pt_len p'; omega)) (by omega) fun H4 e4 => ej_cons ev_c (by omega) fun H5 e5 => ej_cons (ev_fmtA p.ok (ev_var rfl) ((at3.ex e4).ex e5)) (by unfold itm at l2; omega) fun H6 e6 => q3 H6 ((e4.trans e5).trans e6)
    · have x9 : Ex Hl H' := c.2.1
      have h9 : H' Dl = some (.lst ((bookKs.map (itm r)).map V.str)) := by
        rw [c.2.2]
        rfl
      have nDd : Dl ≠ d := fun z => by rw [z, hdl] at hDl; cases hDl
      have g1 : Ex H (upd H' d (.dK (kvs bookKs f))) := unlock_ex (fun b o n hb => x9 _ _ (nl b o n hb)) hd
      refine ⟨x9 _ _ hdl, _, _, bookKs.map (itm r), rfl, rfl, .inl (sq_of (by rw [upd_ne nDd]; exact h9)), ?_, ?_⟩
      · have := sum_len (items_len p.ok)
        have e0 : (Str.ofString ", ").length = 2 := by decide
        rw [List.length_map] at this ⊢
        rw [e0]
        have e1 : bookKs.length = 9 := rfl
        omega
      · have lj : (Str.join ", " (bookKs.map (itm r))).length ≤ 2000 := by
          have z := join_len (items_len p.ok)
          rw [List.length_map] at z
          have e1 : bookKs.length = 9 := rfl
          rw [e1] at z
          omega
        have e3 : Str.empty.length = 0 := by decide
        have e4 : (Str.ofString "Book(").length = 5 := by decide
        have e5 : (Str.ofString ")").length = 1 := by decide
        rw [TL.join_eq]
        unfold bText at q
        generalize Str.join ", " (bookKs.map (itm r)) = J at lj q
        refine s_retR (ej_cons ev_c (by rw [Str.length_append]; omega) fun H5 x5 => ej_cons (ev_fmtS (ev_var rfl) (by omega)) (by rw [Str.length_append, Str.length_append]; omega) fun H6 x6 => ej_cons ev_c (by rw [Str.length_append, Str.length_append, Str.length_append]; omega) fun H7 x7 => q H7 (g1.trans ((x5.trans x6).trans x7)))
end
end My
namespace My
open PySem PySem.Spec PyProof.Rows L2 GL Evl StX SkE
/-! ### the law's draws, its rows -/
def sp_Lpick : Sp := fun vs H Q _ => ∃ a l, ∃ xs : List V, vs = [.ref a, .ref l] ∧ PotAt H a ∧ l ≠ a ∧ H l = some (.lst xs) ∧ 1 ≤ xs.length ∧ xs.length ≤ 1000 ∧ ∀ H' v, ExB a H H' → PotAt H' a → v ∈ xs → Q v H'
def sp_Lseqs (K : PySem.W.Frag) : Sp := fun vs H Q _ => ∃ a ws, vs = [.ref a] ∧ SqL K H a (ws.map wV) ∧ ws ∈ [takeWs, giveWs, moveWs] ∧ ∀ H' p xs, H p = none → Ex H H' → H' p = some (.lst xs) → RowsAt K H' xs (seqs ws) → Q (.ref p) H'
def sp_Lahead (K : PySem.W.Frag) : Sp := fun vs H Q _ => ∃ a us x y, vs = [.ref a, wV x, wV y] ∧ RowX K H a us ∧ RetV (.bl (lAhead us x y)) H Q
def sp_Ltk (K : PySem.W.Frag) : Sp := fun vs H Q _ => ∃ a us, ∃ n : Nat, vs = [.ref a, nV n] ∧ RowX K H a us ∧ RetV (.bl (lTake us n)) H Q
def sp_Lgv (K : PySem.W.Frag) : Sp := fun vs H Q _ => ∃ a us, vs = [.ref a] ∧ RowX K H a us ∧ RetV (.bl (lGive us)) H Q
def sp_Lmv (K : PySem.W.Frag) : Sp := fun vs H Q _ => ∃ a us b, vs = [.ref a, .bl b] ∧ RowX K H a us ∧ RetV (.bl (lMove us b)) H Q
def sp_Ltakes (K : PySem.W.Frag) : Sp := fun vs H Q _ => ∃ n : Nat, vs = [nV n] ∧ ∀ H' p ys, H p = none → Ex H H' → H' p = some (.lst ys) → RowsAt K H' ys (takes n) → Q (.ref p) H'
def sp_Lgives (K : PySem.W.Frag) : Sp := fun vs H Q _ => vs = [] ∧ ∀ H' p ys, H p = none → Ex H H' → H' p = some (.lst ys) → RowsAt K H' ys gives → Q (.ref p) H'
def sp_Lmoves (K : PySem.W.Frag) : Sp := fun vs H Q _ => ∃ b : Bool, vs = [.bl b] ∧ ∀ H' p ys, H p = none → Ex H H' → H' p = some (.lst ys) → RowsAt K H' ys (moves b) → Q (.ref p) H'
def sp_Llifts (K : PySem.W.Frag) : Sp := fun vs H Q _ => vs = [] ∧ ∀ H' p ys, H p = none → Ex H H' → H' p = some (.lst ys) → RowsAt K H' ys liftRows → Q (.ref p) H'
theorem seq_len {ws : Rw} (hw : ws ∈ [takeWs, giveWs, moveWs]) {i : Nat} (hi : i ≤ ws.length) : (found ws i).length ≤ 2000 ∧ (grow ws i).length ≤ 2000 := by
  have go : ([takeWs, giveWs, moveWs].all fun ws => (List.range (ws.length + 1)).all fun i => decide ((found ws i).length ≤ 2000) && decide ((grow ws i).length ≤ 2000)) = true := by decide +kernel
  have h := List.all_eq_true.mp (List.all_eq_true.mp go ws hw) i (List.mem_range.mpr (by omega))
  rw [Bool.and_eq_true] at h
  exact ⟨of_decide_eq_true h.1, of_decide_eq_true h.2⟩
theorem ws_len {ws : Rw} (hw : ws ∈ [takeWs, giveWs, moveWs]) : ws.length ≤ 6 := by
  have go : ([takeWs, giveWs, moveWs].all fun ws => decide (ws.length ≤ 6)) = true := by decide
  exact of_decide_eq_true (List.all_eq_true.mp go ws hw)
theorem grow_len {ws : Rw} : ∀ {i : Nat} {us : Rw}, us ∈ grow ws i → us.length = i
  | 0, us, h => by
    rw [List.mem_singleton.mp h]
    rfl
  | i + 1, us, h => by
    obtain ⟨vs, hv, hu⟩ := List.mem_flatMap.mp h
    obtain ⟨w0, _, rfl⟩ := List.mem_map.mp hu
    rw [List.length_append, grow_len hv]
    rfl
theorem flat_take {f : Rw → List Rw} (ls : List Rw) (j : Nat) : ((ls.take j).flatMap f).length ≤ (ls.flatMap f).length := by
  conv => rhs; rw [← List.take_append_drop j ls]
  rw [List.flatMap_append, List.length_append]
  omega
theorem ext_take (ws us : Rw) {k : Nat} {w : Wd} (h : ws[k]? = some w) : ((ws.take (k + 1)).filter fun w => !decide (w ∈ us)).map (fun w => us ++ [w]) = ((ws.take k).filter fun w => !decide (w ∈ us)).map (fun w => us ++ [w]) ++ (if w ∈ us then [] else [us ++ [w]]) := by
  rw [List.take_add_one, h, List.filter_append, List.map_append]
  congr 1
  show List.map _ (List.filter _ [w]) = _
  by_cases e : w ∈ us
  · rw [if_pos e, List.filter_cons_of_neg (by simpa using e)]
    rfl
  · rw [if_neg e, List.filter_cons_of_pos (by simpa using e)]
    rfl
section
variable {P : Program} {w : World} {K : PySem.W.Frag} {mg : Str → Option Value} {base : Heap} {C : Addr} {H H' : Hp} {σ : L2.St} {te tb ta : TE} {tA : TA} {E : XK} {D : Ends} {tz : TS} {a b d : Addr} {us : Rw} {xs ys : List V} {rs qs : List Rw}
theorem RowsAt.exB (h : RowsAt K H xs rs) (e : ExB b H H') (n : NoTup H b) : RowsAt K H' xs rs := by
  induction h with
  | nil => exact .nil
  | cons h _ ih => exact .cons (h.exB e n) ih
theorem ok_Ldraw (T : Txt K mg w)  : FnG P w K mg base CX0 1 T.f_Ldraw T.fd_Ldraw ["_law_pot_here", "_law_sides"] sp_Ldraw := by
  skip
  refine okG T.F_Ldraw sc_Ldraw (fun vs H Q E h => ?_) (fun cdv A outer s H vs Q E gd hr h => ?_)
  · obtain ⟨_, _, rfl, _⟩ := h
    all_goals rfl
  · obtain ⟨a, n, rfl, ⟨x, y, hx, hx0, hy0, hy1⟩, hn, hn2, q⟩ := h
    refine ⟨_, (pss_cons (ps_if (pt_cmpR op_gt (pe_ix ix_list (pv 0) pe_int (fun _ _ => rfl)) pe_int (nomark _)) (pss_cons (ps_asg (pe_callB call_divmodW (by rfl) T.z_divmod boot_divmod (pa_cons (pe_ix ix_list (pv 0) pe_int (fun _ _ => rfl)) (pa_cons (pv 1) pa_nil))) (pg_tup rfl (pgs_cons (pg_sub (pv 0) pe_int set_list) (pgs_cons (pg_name (i := 2) sc_Ldraw.nd rfl (Or.inl rfl) (Or.inr rfl)) pgs_nil)))) (pss_one (ps_ret (pv 2)))) pss_nil) (pss_cons (ps_asg (pe_op op_mod (pe_callTy call_int1 (by rfl) T.z_int (by decide +kernel) (pa_cons (pe_op op_add (pe_op op_mul (pe_ix ix_list (pv 0) pe_int (fun _ _ => rfl)) pe_int) pe_int) pa_nil)) pe_int) (pg_sub (pv 0) pe_int set_list)) (pss_one (ps_ret (pe_op op_mod (pe_callTy call_int1 (by rfl) T.z_int (by decide +kernel) (pa_cons (pe_op op_fdiv (pe_op op_mod (pe_callTy call_int1 (by rfl) T.z_int (by decide +kernel) (pa_cons (pe_op op_mul (pe_ix ix_list (pv 0) pe_int (fun _ _ => rfl)) (pe_ix ix_list (pv 0) pe_int (fun _ _ => rfl))) pa_nil)) pe_int) pe_int) pa_nil)) (pv 1)))))), ?_⟩
    have at0 : ∀ H1, H1 a = some (.lst [.int x, .int y]) → Ev (tOp (rIxL K) (tVar 0) (tC (.int 0))) [some (.ref a), some (nV n), none] H1 (.int x) := fun H1 h => ev_op (ev_var rfl) ev_c (rv_ixL (sq_of h) (atI_nat (j := 0) rfl))
    refine q_when (et_test (ev_op (at0 _ hx) ev_c rv_I0)) (fun hb H1 e1 => ?_) fun hb H1 e1 => ?_
    · refine q_asgR (cb_raw (ea_cons (at0 _ (e1 _ _ hx)) (ea_cons (ev_var rfl) ea_nil)) fun H2 e2 => ⟨x, n, rfl, ⟨by omega, no_pylong hn2⟩, fun p hp => ?_⟩)
      have hx2 := e2 _ _ (e1 _ _ hx)
      have nap : a ≠ p := ne_of_none hx2 hp
      have hx3 : (upd H2 p (.tup [.int (x / n), .int (x % n)])) a = some (.lst [.int x, .int y]) := by
        rw [upd_ne nap]
        exact hx2
      refine ⟨p, _, rfl, st_of upd_same, rfl, _, _, rfl, _, rfl, a, _, 0, 0, rfl, rfl, hx3, rfl, _, _, rfl, rfl, ?_⟩
      have hlo := Int.emod_nonneg x (show (n : Int) ≠ 0 by omega)
      have hhi := Int.emod_lt_of_pos x (show (0 : Int) < n by omega)
      have hq := Int.ediv_nonneg hx0 (show (0 : Int) ≤ n by omega)
      refine s_ret (v := nV (x % n).toNat) (ev_is (ev_var rfl) (by show V.int _ = V.int _; congr 1; omega)) fun H4 e4 => q H4 _ ?_ ?_ (by omega)
      · exact (((ExB.of (e1.trans e2)).trans (ExB.of (Ex.new hp))).trans ExB.set).trans (ExB.of e4)
      · exact ⟨_, _, e4 _ _ upd_same, hq, hy0, hy1⟩
    · have at1 : ∀ H1 z, H1 a = some (.lst [.int x, .int z]) → Ev (tOp (rIxL K) (tVar 0) (tC (.int 1))) [some (.ref a), some (nV n), none] H1 (.int z) := fun H1 z h => ev_op (ev_var rfl) ev_c (rv_ixL (sq_of h) (atI_nat (j := 1) rfl))
      have h1 := e1 _ _ hx
      refine q_asgR (ev_raw (ev_op (ev_cb (ea_cons (ev_op (ev_op (at1 H1 y h1) ev_c (rv_I (.inl ⟨by omega, by omega⟩))) ev_c rv_I0) ea_nil) rc_int) ev_c (rv_I (by show (0 : Int) < 2147483549; omega))) fun H2 e2 => ?_)
      refine ⟨_, rfl, a, _, 1, 1, rfl, rfl, e2 _ _ h1, rfl, ?_⟩
      have b0 := Int.emod_nonneg (y * 40009 + 17011) (show (2147483549 : Int) ≠ 0 by omega)
      have b1 := Int.emod_lt_of_pos (y * 40009 + 17011) (show (0 : Int) < 2147483549 by omega)
      generalize (y * 40009 + 17011) % 2147483549 = z at b0 b1
      have h3 : (upd H2 a (.lst [.int x, .int z])) a = some (.lst [.int x, .int z]) := upd_same
      have x3 : ExB a H (upd H2 a (.lst [.int x, .int z])) := (ExB.of (e1.trans e2)).trans ExB.set
      show tRet _ _ _ _
      refine s_ret (v := nV ((z * z % 2147483587 / 11) % n).toNat) (ev_is (ev_op (ev_cb (ea_cons (ev_op (ev_op (ev_cb (ea_cons (ev_op (at1 _ z h3) (at1 _ z h3) (rv_I (.inl ⟨by omega, by omega⟩))) ea_nil) rc_int) ev_c (rv_I (by show (0 : Int) < 2147483587; omega))) ev_c (rv_I ⟨by decide, by decide⟩)) ea_nil) rc_int) (ev_var rfl) (rv_I (by show (0 : Int) < n; omega))) ?_) fun H4 e4 => q H4 _ (x3.trans (ExB.of e4)) ⟨x, z, e4 _ _ h3, hx0, b0, by omega⟩ ?_
      · have := Int.emod_nonneg (z * z % 2147483587 / 11) (show (n : Int) ≠ 0 by omega)
        show V.int _ = V.int _
        congr 1
        omega
      · have := Int.emod_lt_of_pos (z * z % 2147483587 / 11) (show (0 : Int) < n by omega)
        have := Int.emod_nonneg (z * z % 2147483587 / 11) (show (n : Int) ≠ 0 by omega)
        omega
theorem ok_Lpot (T : Txt K mg w)  : FnG P w K mg base CX0 1 T.f_Lpot T.fd_Lpot ["_law_script", "_law_k"] (sp_Lpot K) := by
  skip
  refine okG T.F_Lpot sc_Lpot (fun vs H Q E h => ?_) (fun cdv A outer s H vs Q E gd hr h => ?_)
  · obtain ⟨_, _, _, rfl, _⟩ := h
    all_goals rfl
  · obtain ⟨a, ns, k, rfl, hs, hl, hk, q⟩ := h
    refine ⟨_, (pss_cons (ps_set (i := 2) sc_Lpot.nd rfl (Or.inl rfl) (pe_op op_add (pe_op op_mul pe_int (pv 1)) pe_int)) (Evl.pss_cut (ps_if (pt_cmpR op_lt (pv 1) (pe_callB call_len_seq (by rfl) T.z_len PySem.boot_len (pa_cons (pv 0) pa_nil)) (nomark _)) (pss_one (ps_set (i := 2) sc_Lpot.nd rfl (Or.inl rfl) (pe_callB call_abs (by rfl) T.z_abs boot_abs (pa_cons (pe_ix ix_list (pv 0) (pv 1) (fun _ _ => rfl)) pa_nil)))) pss_nil) (pss_one (ps_ret (pe_lst (pa_cons (pe_callB (call_max2 rfl) (by rfl) T.z_max boot_max (pa_cons pe_int (pa_cons (pe_op op_sub (pv 2) (pe_op op_pow pe_int pe_int)) pa_nil))) (pa_cons (pe_op op_add (pe_op op_mod (pe_op op_mul (pe_callTy call_int1 (by rfl) T.z_int (by decide +kernel) (pa_cons (pe_op op_add (pe_op op_mod (pe_callTy call_int1 (by rfl) T.z_int (by decide +kernel) (pa_cons (pv 2) pa_nil)) pe_int) pe_int) pa_nil)) (pe_op op_pow (pe_op op_add (pe_op op_mul pe_int (pv 1)) pe_int) pe_int)) pe_int) pe_int) pa_nil))))))), ?_⟩
    refine q_asg (ev_op (ev_op ev_c (ev_var rfl) (rv_I (.inl ⟨by omega, by omega⟩))) ev_c rv_I0) fun H1 e1 => ?_
    refine q_cut (M := fun σ' H' => Ex H H' ∧ ∃ c : Int, 0 ≤ c ∧ σ' = [some (.ref a), some (.int (k : Int)), some (.int c)]) ?_ fun σ' H' z => ?_
    · refine s_when (et_test (ev_op (ev_var rfl) (ev_cb (ea_cons (ev_var rfl) ea_nil) (rc_lenL (ex_l e1 hs))) rv_I0)) (fun hb H2 e2 => ?_) fun hb H2 e2 => ⟨e1.trans e2, _, ?_, rfl⟩
      · have hlt : k < ns.length := by
          have := of_decide_eq_true hb
          rw [List.length_map] at this
          omega
        refine s_asg (ev_cb (ea_cons (ev_op (ev_var rfl) (ev_var rfl) (rv_ixL (ex_l (e1.trans e2) hs) (atI_nat (v := .int ns[k]) (by rw [List.getElem?_map, List.getElem?_eq_getElem hlt]; rfl)))) ea_nil) rc_abs) fun H3 e3 => ⟨e1.trans (e2.trans e3), _, ?_, rfl⟩
        split <;> omega
      · omega
    · obtain ⟨x2, c, hc, rfl⟩ := z
      have m0 := Int.emod_nonneg c (show (2147483543 : Int) ≠ 0 by omega)
      have m1 := Int.emod_lt_of_pos c (show (0 : Int) < 2147483543 by omega)
      refine s_retL (xs := [.int (if c - 10 ^ (18 : Int).toNat > 0 then c - 10 ^ (18 : Int).toNat else 0), .int ((c % 2147483543 + 7) * (2 * (k : Int) + 3) ^ (3 : Int).toNat % 2147483489 + 1)])
        (el_lst (ea_cons (ev_cb (ea_cons ev_c (ea_cons (ev_op (ev_var rfl) (ev_op ev_c ev_c (rv_I ⟨by decide, by decide, by decide⟩)) rv_I0) ea_nil)) rc_max2) (ea_cons (ev_op (ev_op (ev_op (ev_cb (ea_cons (ev_op (ev_op (ev_cb (ea_cons (ev_var rfl) ea_nil) rc_int) ev_c (rv_I (by show (0 : Int) < 2147483543; omega))) ev_c rv_I0) ea_nil) rc_int)
          (ev_op (ev_op (ev_op ev_c (ev_var rfl) (rv_I (.inl ⟨by omega, by omega⟩))) ev_c rv_I0) ev_c (rv_I ⟨by decide, by decide, by omega⟩)) (rv_I (.inl ⟨by omega, by omega⟩))) ev_c (rv_I (by show (0 : Int) < 2147483489; omega))) ev_c rv_I0) ea_nil)) (by show 2 ≤ 100000; omega)) fun p H3 hp e3 h3 => q H3 p (fresh_back x2 hp) (x2.trans e3) ⟨_, _, h3, ?_, ?_, ?_⟩
      · split <;> omega
      · have := Int.emod_nonneg ((c % 2147483543 + 7) * (2 * (k : Int) + 3) ^ (3 : Int).toNat) (show (2147483489 : Int) ≠ 0 by omega)
        omega
      · have := Int.emod_lt_of_pos ((c % 2147483543 + 7) * (2 * (k : Int) + 3) ^ (3 : Int).toNat) (show (0 : Int) < 2147483489 by omega)
        omega
theorem ok_Lpick (T : Txt K mg w) (G_Ldraw : FnG P w K mg base CX0 1 T.f_Ldraw T.fd_Ldraw ["_law_pot_here", "_law_sides"] sp_Ldraw) : FnG P w K mg base CX0 2 T.f_Lpick T.fd_Lpick ["_law_pot_here", "_law_some"] sp_Lpick := by
  skip
  refine okG T.F_Lpick sc_Lpick (fun vs H Q E h => ?_) (fun cdv A outer s H vs Q E gd hr h => ?_)
  · obtain ⟨_, _, _, rfl, _⟩ := h
    all_goals rfl
  · obtain ⟨a, l, xs, rfl, hp, nla, hl, h1, h2, q⟩ := h
    refine ⟨_, (pss_one (ps_ret (pe_ix ix_list (pv 1) (pc gd G_Ldraw (hr.mono (by decide)) (by rfl) T.m_Ldraw T.F_Ldraw.kp T.b_Ldraw .nil pass0 (pa_cons (pv 0) (pa_cons (pe_callB call_len_seq (by rfl) T.z_len PySem.boot_len (pa_cons (pv 1) pa_nil)) pa_nil))) (fun _ _ => rfl)))), ?_⟩
    refine s_retR (op_raw (ev_raw (ev_var (v := .ref l) rfl) fun H1 e1 => ?_))
    refine dr (n := xs.length) (ea_cons (ev_var rfl) (ea_cons (ev_len (ev_var rfl) (sq_of (e1 _ _ hl))) ea_nil)) (hp.ex e1) h1 h2 fun H2 d x2 p2 hd => ?_
    exact ⟨l, xs, (d : Int), xs[d], rfl, rfl, sq_of (x2 _ _ nla (e1 _ _ hl)), atI_nat (List.getElem?_eq_getElem hd), q H2 _ ((ExB.of e1).trans x2) p2 (List.getElem_mem hd)⟩
theorem ev_aheadI {i j : Nat} (h1 : Ev ta σ H (nV i)) (h2 : Ev tb σ H (nV j)) : Ev (tOp (rI0 fun i j => .bl (decide (i < j))) ta tb) σ H (.bl (decide (i < j))) := ev_is (ev_op h1 h2 rv_I0) (congrArg V.bl (decide_eq_decide.mpr (by omega)))
theorem ok_Lis_ahead (T : Txt K mg w)  : FnG P w K mg base CX0 1 T.f_Lis_ahead T.fd_Lis_ahead ["_law_some", "_law_word", "_law_later"] (sp_Lahead K) := by
  skip
  refine okG T.F_Lis_ahead sc_Lis_ahead (fun vs H Q E h => ?_) (fun cdv A outer s H vs Q E gd hr h => ?_)
  · obtain ⟨_, _, _, _, rfl, _⟩ := h
    all_goals rfl
  · obtain ⟨a, us, x, y, rfl, ra, q⟩ := h
    refine ⟨_, (pss_one (ps_ret (pe_or (pe_cmpR op_notIn_seq (pv 1) (pv 0) (by rfl)) (pe_or (pe_cmpR op_notIn_seq (pv 2) (pv 0) (by rfl)) (pe_one (pe_cmpR op_lt (pe_bmX PySem.F.slot_tuple_index PySem.F.type_tuple_index mt_tup_index (pv 0) (pa_cons (pv 1) pa_nil)) (pe_bmX PySem.F.slot_tuple_index PySem.F.type_tuple_index mt_tup_index (pv 0) (pa_cons (pv 2) pa_nil)) (nomark _))))))), ?_⟩
    refine s_ret (ev_is (ev_orV (ev_op (ev_var rfl) (ev_var rfl) (rv_niW ra.sq)) fun h1 => ev_orV (ev_op (ev_var rfl) (ev_var rfl) (rv_niW ra.sq)) fun h2 => ev_aheadI (ev_idx (us := us) (ev_var rfl) (ev_var rfl) ra (by simpa using h1)) (ev_idx (us := us) (ev_var rfl) (ev_var rfl) ra (by simpa using h2))) (cbl (b := lAhead us x y) (by unfold lAhead; rw [Bool.or_assoc]))) q
theorem sv_ahead {x y : Wd} (h : RowX K H a us) : SpV (sp_Lahead K) [.ref a, wV x, wV y] H (.bl (lAhead us x y)) := fun _ e _ q _ => ⟨a, us, x, y, rfl, h.ex e, q⟩
theorem ev_aheadC {Er : XK} {z1 z2 : Str} {x y : Wd} (e1 : z1 = x.s) (e2 : z2 = y.s) (h : Ev ta σ H (.ref a)) (ra : RowX K H a us) : Ev (tCall (sp_Lahead K) [] Er (tCons ta (tCons (tC (.str z1)) (tCons (tC (.str z2)) tNil)))) σ H (.bl (lAhead us x y)) := ev_call (ea_cons h (ea_cons (ev_lit e1) (ea_cons (ev_lit e2) ea_nil))) (sv_ahead ra)
theorem bl_eq (a b : Bool) : decide (V.bl a = V.bl b) = (a == b) := by cases a <;> cases b <;> rfl
theorem ok_Lis_take (T : Txt K mg w) (G_Lis_ahead : FnG P w K mg base CX0 1 T.f_Lis_ahead T.fd_Lis_ahead ["_law_some", "_law_word", "_law_later"] (sp_Lahead K)) : FnG P w K mg base CX0 2 T.f_Lis_take T.fd_Lis_take ["_law_some", "_law_amount"] (sp_Ltk K) := by
  skip
  refine okG T.F_Lis_take sc_Lis_take (fun vs H Q E h => ?_) (fun cdv A outer s H vs Q E gd hr h => ?_)
  · obtain ⟨_, _, _, rfl, _⟩ := h
    all_goals rfl
  · obtain ⟨a, us, n, rfl, ra, q⟩ := h
    refine ⟨_, (pss_cons (ps_if ((pw_or (pt_cmpR op_notIn_seq pe_str (pv 0) (by rfl)) (pw_or (pt_cmpR op_eq (pe_cmpR op_in_seq pe_str (pv 0) (by rfl)) (pe_cmpR op_in_seq pe_str (pv 0) (by rfl)) (nomark _)) (pw_or1 ((pw_and (pt_cmpR op_in_seq pe_str (pv 0) (by rfl)) (pw_and1 (pt_cmpR op_in_seq pe_str (pv 0) (by rfl))))).pt)))).pt (pss_one (ps_ret pe_bl)) pss_nil) (pss_cons (ps_if ((pw_and (pt_cmpR op_gt (pv 1) pe_int (nomark _)) (pw_and1 (pt_cmpR op_ne (pe_ix ix_tup (pv 0) (pe_un un_neg pe_int) (fun _ _ => rfl)) pe_str (nomark _))))).pt (pss_one (ps_ret pe_bl)) pss_nil) (pss_one (ps_ret (pe_and (pc gd G_Lis_ahead (hr.mono (by decide)) (by rfl) T.m_Lis_ahead T.F_Lis_ahead.kp T.b_Lis_ahead .nil pass0 (pa_cons (pv 0) (pa_cons pe_str (pa_cons pe_str pa_nil)))) (pe_one (pc gd G_Lis_ahead (hr.mono (by decide)) (by rfl) T.m_Lis_ahead T.F_Lis_ahead.kp T.b_Lis_ahead .nil pass0 (pa_cons (pv 0) (pa_cons pe_str (pa_cons pe_str pa_nil)))))))))), ?_⟩
    refine q_when (b := !decide (Wd.live ∈ us) || (decide (Wd.tri ∈ us) == decide (Wd.add ∈ us)) || decide (Wd.tri ∈ us) && decide (Wd.look ∈ us)) (et_is (et_or (et_test (ev_niL rfl (ev_var rfl) ra)) fun _ => et_or (et_test (ev_is (ev_op (ev_inL (w0 := .tri) rfl (ev_var rfl) ra) (ev_inL (w0 := .add) rfl (ev_var rfl) ra) (rv_eq rfl)) (cbl (bl_eq _ _)))) fun _ => et_and (et_test (ev_inL rfl (ev_var rfl) ra)) fun _ => et_test (ev_inL rfl (ev_var rfl) ra)) (by rw [Bool.or_assoc])) (fun hb H1 e1 => s_ret (ev_is ev_c (cbl (b := lTake us n) ?_)) fun H2 e2 => q H2 (e1.trans e2)) fun hb H1 e1 => ?_
    · unfold lTake
      rw [hb]
      rfl
    have r1 := ra.ex e1
    have ne : us ≠ [] := fun z => by subst z; cases hb
    obtain ⟨x, hx, hat⟩ := at_last ne
    refine q_when (b := decide (n > 1) && !decide (us.getLast? = some .live)) (et_and (et_test (ev_is (ev_op (ev_var rfl) ev_c rv_I0) (congrArg V.bl (decide_eq_decide.mpr (by omega))))) fun _ => et_test (ev_is (ev_op (ev_op (ev_var rfl) (ev_un ev_c ru_neg) (rv_ixT r1.sq hat)) (ev_lit (w0 := .live) rfl) (rv_ne rfl)) (cbl ?_))) (fun hc H2 e2 => s_ret (ev_is ev_c (cbl (b := lTake us n) ?_)) fun H3 e3 => q H3 ((e1.trans e2).trans e3)) fun hc H2 e2 => ?_
    · rw [wV_eq x .live, hx]
      congr 1
      exact decide_eq_decide.mpr ⟨fun e => by rw [e], fun e => Option.some.inj e⟩
    · unfold lTake
      rw [hb, hc]
      rfl
    refine s_ret (ev_is (ev_andV (ev_aheadC (x := .look) (y := .live) rfl rfl (ev_var rfl) (r1.ex e2)) fun _ => ev_aheadC (x := .tri) (y := .live) rfl rfl (ev_var rfl) (r1.ex e2)) (cbl (b := lTake us n) ?_)) fun H3 e3 => q H3 ((e1.trans e2).trans e3)
    unfold lTake
    rw [hb, hc]
    rfl
theorem ok_Lis_give (T : Txt K mg w) (G_Lis_ahead : FnG P w K mg base CX0 1 T.f_Lis_ahead T.fd_Lis_ahead ["_law_some", "_law_word", "_law_later"] (sp_Lahead K)) : FnG P w K mg base CX0 2 T.f_Lis_give T.fd_Lis_give ["_law_some"] (sp_Lgv K) := by
  skip
  refine okG T.F_Lis_give sc_Lis_give (fun vs H Q E h => ?_) (fun cdv A outer s H vs Q E gd hr h => ?_)
  · obtain ⟨_, _, rfl, _⟩ := h
    all_goals rfl
  · obtain ⟨a, us, rfl, ra, q⟩ := h
    refine ⟨_, (pss_one (ps_ret (pe_and (pe_cmpR op_in_seq pe_str (pv 0) (by rfl)) (pe_one (pe_or (pe_cmpR op_notIn_seq pe_str (pv 0) (by rfl)) (pe_one (pe_and (pe_cmpR op_in_seq pe_str (pv 0) (by rfl)) (pe_one (pc gd G_Lis_ahead (hr.mono (by decide)) (by rfl) T.m_Lis_ahead T.F_Lis_ahead.kp T.b_Lis_ahead .nil pass0 (pa_cons (pv 0) (pa_cons pe_str (pa_cons pe_str pa_nil)))))))))))), ?_⟩
    exact s_ret (ev_andV (ev_inL (w0 := .fin) rfl (ev_var rfl) ra) fun _ => ev_orV (ev_niL (w0 := .off) rfl (ev_var rfl) ra) fun _ => ev_andV (ev_inL (w0 := .home) rfl (ev_var rfl) ra) fun _ => ev_aheadC rfl rfl (ev_var rfl) ra) q
theorem ok_Lis_move (T : Txt K mg w) (G_Lis_ahead : FnG P w K mg base CX0 1 T.f_Lis_ahead T.fd_Lis_ahead ["_law_some", "_law_word", "_law_later"] (sp_Lahead K)) : FnG P w K mg base CX0 2 T.f_Lis_move T.fd_Lis_move ["_law_some", "_law_is_shared"] (sp_Lmv K) := by
  skip
  refine okG T.F_Lis_move sc_Lis_move (fun vs H Q E h => ?_) (fun cdv A outer s H vs Q E gd hr h => ?_)
  · obtain ⟨_, _, _, rfl, _⟩ := h
    all_goals rfl
  · obtain ⟨a, us, b, rfl, ra, q⟩ := h
    refine ⟨_, (pss_cons (ps_if (pt_cmpR (op_eqD (roomU hr)) (pv 0) (pe_tupX pa_nil) (nomark _)) (pss_one (ps_ret pe_bl)) pss_nil) (pss_cons (ps_if ((pw_or (pt_cmpR op_notIn_seq pe_str (pv 0) (by rfl)) (pw_or1 ((pw_and (pt_cmpR op_in_seq pe_str (pv 0) (by rfl)) (pw_and1 ((pw_or (pt_cmpR op_in_seq pe_str (pv 0) (by rfl)) (pw_or1 (pt_cmpR op_in_seq pe_str (pv 0) (by rfl))))).pt))).pt))).pt (pss_one (ps_ret pe_bl)) pss_nil) (pss_cons (ps_if ((pw_and (pt_cmpR op_in_seq pe_str (pv 0) (by rfl)) (pw_and1 ((pw_or (pt_cmpR op_notIn_seq pe_str (pv 0) (by rfl)) (pw_or1 (pt_not (pt_val (pc gd G_Lis_ahead (hr.mono (by decide)) (by rfl) T.m_Lis_ahead T.F_Lis_ahead.kp T.b_Lis_ahead .nil pass0 (pa_cons (pv 0) (pa_cons pe_str (pa_cons pe_str pa_nil))))))))).pt))).pt (pss_one (ps_ret pe_bl)) pss_nil) (pss_cons (ps_if ((pw_and (pt_not (pt_val (pv 1))) (pw_and1 (pt_cmpR op_ne (pe_ix ix_tup (pv 0) pe_int (fun _ _ => rfl)) pe_str (nomark _))))).pt (pss_one (ps_ret pe_bl)) pss_nil) (pss_cons (ps_for PassesOwn.never rfl (pi_list (pe_lst (pa_cons pe_str (pa_cons pe_str pa_nil)))) (pg_name (i := 2) sc_Lis_move.nd rfl (Or.inl rfl) (Or.inr rfl)) (pss_one (ps_if ((pw_or (pt_not (pt_val (pc gd G_Lis_ahead (hr.mono (by decide)) (by rfl) T.m_Lis_ahead T.F_Lis_ahead.kp T.b_Lis_ahead .nil pass0 (pa_cons (pv 0) (pa_cons (pv 2) (pa_cons pe_str pa_nil)))))) (pw_or1 (pt_not (pt_val (pc gd G_Lis_ahead (hr.mono (by decide)) (by rfl) T.m_Lis_ahead T.F_Lis_ahead.kp T.b_Lis_ahead .nil pass0 (pa_cons (pv 0) (pa_cons (pv 2) (pa_cons pe_str pa_nil))))))))).pt (pss_one (ps_ret pe_bl)) pss_nil))) (pss_one (ps_ret pe_bl))))))), ?_⟩
    refine q_when (et_test (ev_eqW (us := us) (ev_var rfl) ra er_0)) (fun hb H1 e1 => s_ret (ev_is ev_c (cbl (b := lMove us b) ?_)) fun H2 e2 => q H2 (e1.trans e2)) fun hb H1 e1 => ?_
    · unfold lMove
      rw [hb]
      rfl
    have r1 := ra.ex e1
    refine q_when (b := !decide (Wd.set ∈ us) || decide (Wd.tri ∈ us) && (decide (Wd.add ∈ us) || decide (Wd.look ∈ us))) (et_or (et_test (ev_niL rfl (ev_var rfl) r1)) fun _ => et_and (et_test (ev_inL rfl (ev_var rfl) r1)) fun _ => et_or (et_test (ev_inL rfl (ev_var rfl) r1)) fun _ => et_test (ev_inL rfl (ev_var rfl) r1)) (fun hc H2 e2 => s_ret (ev_is ev_c (cbl (b := lMove us b) ?_)) fun H3 e3 => q H3 ((e1.trans e2).trans e3)) fun hc H2 e2 => ?_
    · unfold lMove
      rw [hb, hc]
      rfl
    have r2 := r1.ex e2
    refine q_when (b := decide (Wd.off ∈ us) && (!decide (Wd.home ∈ us) || !lAhead us .home .off)) (et_and (et_test (ev_inL rfl (ev_var rfl) r2)) fun _ => et_or (et_test (ev_niL rfl (ev_var rfl) r2)) fun _ => et_not (et_B (ev_aheadC rfl rfl (ev_var rfl) r2))) (fun hd H3 e3 => s_ret (ev_is ev_c (cbl (b := lMove us b) ?_)) fun H4 e4 => q H4 (((e1.trans e2).trans e3).trans e4)) fun hd H3 e3 => ?_
    · unfold lMove
      rw [hb, hc, hd]
      rfl
    have r3 := r2.ex e3
    obtain ⟨u0, us', eu⟩ : ∃ u0 us', us = u0 :: us' := by
      cases us with
      | nil => cases hb
      | cons u0 us' => exact ⟨u0, us', rfl⟩
    have hh : us.head? = some u0 := by rw [eu]; rfl
    refine q_when (b := !b && !decide (us.head? = some .home)) (et_and (et_not (et_B (ev_var rfl))) fun _ => et_test (ev_is (ev_op (ev_op (ev_var rfl) ev_c (rv_ixT (v := wV u0) r3.sq (by rw [eu]; exact atI_nat (j := 0) rfl))) (ev_lit (w0 := .home) rfl) (rv_ne rfl)) (cbl (by
      rw [wV_eq, hh]
      congr 1
      exact decide_eq_decide.mpr ⟨fun e => by rw [e], fun e => Option.some.inj e⟩)))) (fun he H4 e4 => s_ret (ev_is ev_c (cbl (b := lMove us b) ?_)) fun H5 e5 => q H5 ((((e1.trans e2).trans e3).trans e4).trans e5)) fun he H4 e4 => ?_
    · unfold lMove
      rw [hb, hc, hd, he]
      rfl
    have x4 := ((e1.trans e2).trans e3).trans e4
    have fin : lMove us b = lMoveA us := by
      unfold lMove
      rw [hb, hc, hd, he]
      rfl
    refine q_forNLn (xs := [wV .look, wV .tri]) (el_lst (ea_cons (ev_lit rfl) (ea_cons (ev_lit rfl) ea_nil)) (by show 2 ≤ 100000; omega)) (fun p i σ' H' => ∃ x, σ' = [some (.ref a), some (.bl b), x] ∧ Ex H H' ∧ H' p = some (.lst [wV .look, wV .tri]) ∧ ∀ u ∈ ([.look, .tri] : Rw).take i, (lAhead us u .set && lAhead us u .off) = true) (fun p H5 _ e5 h5 => ⟨_, rfl, x4.trans e5, h5, fun u hu => by cases hu⟩) (fun p i σ' H' _ z => ?_) (fun p i x σ' H' hx z => ?_) (fun p σ' H' z => ?_)
    · obtain ⟨_, _, _, h, _⟩ := z
      exact sq_of h
    · obtain ⟨_, rfl, x5, h5, hall⟩ := z
      obtain ⟨u, hu, rfl, mu⟩ := w_item (us := [.look, .tri]) hx
      have r5 := ra.ex x5
      have step : (!lAhead us u .set || !lAhead us u .off) = !(lAhead us u .set && lAhead us u .off) := by rw [Bool.not_and]
      refine s_when (b := !lAhead us u .set || !lAhead us u .off) (et_or (et_not (et_B (ev_call (ea_cons (ev_var rfl) (ea_cons (ev_var rfl) (ea_cons (ev_lit rfl) ea_nil))) (sv_ahead (x := u) (y := .set) r5)))) fun _ => et_not (et_B (ev_call (ea_cons (ev_var rfl) (ea_cons (ev_var rfl) (ea_cons (ev_lit rfl) ea_nil))) (sv_ahead (x := u) (y := .off) r5)))) (fun hb6 H6 e6 => s_ret (ev_is ev_c (cbl (b := lMove us b) ?_)) fun H7 e7 => q H7 ((x5.trans e6).trans e7)) fun hb6 H6 e6 => ⟨_, rfl, x5.trans e6, e6 _ _ h5, fun v hv => ?_⟩
      · rw [fin]
        rw [step, Bool.not_eq_true'] at hb6
        unfold lMoveA
        simp only [List.mem_cons, List.not_mem_nil, or_false] at mu
        rcases mu with rfl | rfl
        · rw [hb6, Bool.false_and]
        · rw [hb6, Bool.and_false]
      · rw [step, Bool.not_eq_false'] at hb6
        rw [List.take_add_one, hu] at hv
        rcases List.mem_append.mp hv with h | h
        · exact hall v h
        · rw [List.mem_singleton.mp h]
          exact hb6
    · obtain ⟨_, rfl, x5, h5, hall⟩ := z
      refine s_ret (ev_is ev_c (cbl (b := lMove us b) ?_)) fun H6 e6 => q H6 (x5.trans e6)
      rw [fin]
      unfold lMoveA
      rw [hall .look (by decide), hall .tri (by decide)]
      rfl
/-! lists of rows are made -/
def EvRs (K : PySem.W.Frag) (te : TE) (σ : L2.St) (H : Hp) (rs : List Rw) : Prop := ∀ H1, Ex H H1 → ∀ Q : VK, (∀ p ys H2, H1 p = none → Ex H1 H2 → H2 p = some (.lst ys) → RowsAt K H2 ys rs → Q (.ref p) H2) → te σ H1 Q
def EvRA (K : PySem.W.Frag) (tA : TA) (σ : L2.St) (H : Hp) (rs : List Rw) : Prop := ∀ H1, Ex H H1 → ∀ Q : List V → Hp → Prop, (∀ ys H2, Ex H1 H2 → RowsAt K H2 ys rs → Q ys H2) → tA σ H1 Q
theorem era_nil : EvRA K tNil σ H [] := fun H1 _ Q q => q [] H1 (Ex.refl H1) .nil
theorem era_cons (h : EvR K te σ H us) (hr : EvRA K tA σ H rs) : EvRA K (tCons te tA) σ H (us :: rs) := fun H1 e Q q => h H1 e _ fun p H2 e2 hp => hr H2 (e.trans e2) _ fun ys H3 e3 hy => q _ H3 (e2.trans e3) (.cons (hp.ex e3) hy)
theorem ers_lst (h : EvRA K tA σ H rs) (hl : rs.length ≤ 1000) : EvRs K (tLst tA) σ H rs := fun H1 e Q q => h H1 e _ fun ys H2 e2 hy => ⟨by rw [hy.len, sizeLine_eq]; omega, fun p hp => q p ys _ (fresh_back e2 hp) (e2.trans (Ex.new hp)) upd_same (hy.ex (Ex.new hp))⟩
theorem q_parR {i j : Nat} (h : tA σ H fun vs H1 => ∃ v w, vs = [v, w] ∧ tz D ((σ.set i (some v)).set j (some w)) H1) : tSeq (tPar i j tA) tz D σ H := h
theorem dropR (h : te σ H fun _ H1 => D.nx σ H1) : tDrop te D σ H := h
theorem q_dropR (h : te σ H fun _ H1 => tz D σ H1) : tSeq (tDrop te) tz D σ H := h
theorem er_cat {w0 : Wd} (h1 : Ev ta σ H (.ref a)) (ra : RowX K H a us) (h2 : Ev tb σ H (wV w0)) (hl : us.length ≤ 1000) : EvR K (tOp (rCatX K) ta (tTupX (tCons tb tNil))) σ H (us ++ [w0]) := fun H1 e Q q => h1 H1 e _ fun H2 e2 => h2 H2 (e.trans e2) _ fun H3 e3 => ⟨by show 1 ≤ sizeLine; decide, fun p o hp ho => by
  have x3 := (e.trans e2).trans e3
  have r3 := (ra.ex x3).ex (Ex.new (o := .frz o (.tup [wV w0])) hp)
  have y3 : Ex H1 (upd H3 p (.frz o (.tup [wV w0]))) := (e2.trans e3).trans (Ex.new hp)
  refine ⟨a, p, us.map wV, [wV w0], rfl, rfl, r3.sq, .inl (.inr ⟨o, upd_same⟩), by rw [List.length_map, sizeLine_eq]; show us.length + 1 ≤ _; omega, (fun z => nomatch z), fun z => ?_, fun z p2 o2 hp2 ho2 => ?_⟩
  · have z' : us = [] := List.map_eq_nil_iff.mp z
    subst z'
    exact q p _ y3 (.fx upd_same ho)
  · refine q p2 _ (y3.trans (Ex.new hp2)) (.fx ?_ ho2)
    rw [upd_same, List.map_append]
    rfl⟩
/-- [s + (w,) for w in words if w not in s] -/
theorem ers_ext {ws : Rw} {vs : List Nat} {i0 : Nat} (h : σ[i0]? = some (some (.ref b))) (hb : SqL K H b (ws.map wV)) (hl : ws.length ≤ 6) (hz : us.length ≤ 900) (h5 : ∀ x, (((wipe σ vs).set 6 (some x))[5]? = some (some (.ref a)))) (h6 : ∀ x, (((wipe σ vs).set 6 (some x))[6]? = some (some x))) (hw : ∀ x, wipe ((wipe σ vs).set 6 (some x)) vs = wipe σ vs) (ra : RowX K H a us) :
    EvRs K (tLc (iList K (tVar i0)) (gName 6) (tTest (tOp (rIn K true) (tVar 6) (tVar 5))) (tOp (rCatX K) (tVar 5) (tTupX (tCons (tVar 6) tNil))) vs) σ H (ext ws us) := fun H0 e0 Q q => by
  refine tlc_of (walk_list (K := K) (a := b) (xs := ws.map wV)) (fun R hR => ⟨_, h, b, rfl, ⟨_, ex_l e0 hb⟩, hR⟩)
    (fun Dl k G => ∃ yc, Ex H0 G ∧ G Dl = some (.lst yc) ∧ RowsAt K G yc (((ws.take k).filter fun w => !decide (w ∈ us)).map fun w => us ++ [w]) ∧ H0 Dl = none) (fun Dl hD => ⟨[], Ex.new hD, upd_same, .nil, hD⟩) (fun Dl k G _ z => ?_) (fun Dl k v G1 G2 hD hk z y => ?_) (fun Dl G hD z => ?_)
  · obtain ⟨_, z1, _⟩ := z
    exact ex_l (e0.trans z1) hb
  · obtain ⟨rfl, hv⟩ := y
    obtain ⟨yc, z1, z2, z3, z4⟩ := z
    obtain ⟨w0, hw0, rfl, mw⟩ := w_item hv
    have kl : k < ws.length := by rwa [List.length_map] at hk
    refine ⟨hw _, ?_⟩
    have r1 := ra.ex (e0.trans z1)
    refine et_test (ev_op (ev_var (h6 _)) (ev_var (h5 _)) (rv_niW (w := w0) r1.sq)) G2 (Ex.refl _) _ fun G3 e3 => ?_
    by_cases hu : w0 ∈ us
    · rw [decide_eq_true hu]
      refine ⟨yc, z1.trans e3, e3 _ _ z2, ?_, z4⟩
      rw [ext_take ws us hw0, if_pos hu, List.append_nil]
      exact z3.ex e3
    · rw [decide_eq_false hu]
      refine er_cat (ev_var (h5 _)) (r1.ex e3) (ev_var (h6 _)) (by omega) G3 (Ex.refl _) _ fun p G4 e4 hp => ⟨yc, e4 _ _ (e3 _ _ z2), ?_, yc ++ [.ref p], ((z1.trans e3).trans e4).mut hD, upd_same, ?_, z4⟩
      · have l1 := z3.len
        have l2 := List.length_filter_le (fun w => !decide (w ∈ us)) (ws.take k)
        rw [List.length_map] at l1
        rw [List.length_take] at l2
        rw [sizeLine_eq]
        omega
      · rw [ext_take ws us hw0, if_neg hu]
        have x := (z3.ex (e3.trans e4)).app (.cons hp .nil)
        exact x.exB ExB.set (NoTup.lst (e4 _ _ (e3 _ _ z2)))
  · obtain ⟨yc, z1, z2, z3, z4⟩ := z
    rw [List.take_of_length_le (by rw [List.length_map]; omega)] at z3
    exact q Dl yc G hD z1 z2 z3
theorem ok_Lsequences (T : Txt K mg w)  : FnG P w K mg base CX0 1 T.f_Lsequences T.fd_Lsequences ["_law_words"] (sp_Lseqs K) := by
  skip
  refine okG T.F_Lsequences sc_Lsequences (fun vs H Q E h => ?_) (fun cdv A outer s H vs Q E gd hr h => ?_)
  · obtain ⟨_, _, rfl, _⟩ := h
    all_goals rfl
  · obtain ⟨a, ws, rfl, ha, hws, q⟩ := h
    refine ⟨_, (pss_cons (ps_par (i := 1) (j := 2) rfl sc_Lsequences.nd rfl rfl (by decide) rfl rfl (pa_cons (pe_lst (pa_cons (pe_tupX pa_nil) pa_nil)) (pa_cons (pe_lst (pa_cons (pe_tupX pa_nil) pa_nil)) pa_nil)) (by rfl)) (pss_cons (ps_for PassesOwn.never rfl (pi_range1 (by rfl) T.z_range (pa_cons (pe_callB call_len_seq (by rfl) T.z_len PySem.boot_len (pa_cons (pv 0) pa_nil)) pa_nil)) (pg_name (i := 3) sc_Lsequences.nd rfl (Or.inl rfl) (Or.inr rfl)) (pss_cons (ps_set (i := 4) sc_Lsequences.nd rfl (Or.inl rfl) (pe_lst pa_nil)) (pss_cons (ps_for PassesOwn.never rfl (pi_list (pv 2)) (pg_name (i := 5) sc_Lsequences.nd rfl (Or.inr rfl) (Or.inl rfl)) (pss_one (ps_expr (pe_bm PySem.F.plainAttrs_list PySem.F.slot_list_extend PySem.F.type_list_extend mt_extend (pv 4) (pa_cons (pe_lc (own := [("_law_word", 6)]) (g := gName 6) rfl sc_Lsequences.nd (pi_list (pv 0)) (blkOk_by (N := N_Lsequences) (sc := defScope s_Lsequences) (by decide +kernel)) (fun _ _ _ _ _ => (pg_name (i := 6) sc_Lsequences.nd rfl (Or.inl rfl) (Or.inr rfl))) (fun _ _ _ _ _ => pts_one (pt_cmpR (show OpR _ (compareOp .NotIn) (rIn K true) from op_notIn_seq) (pv 6) (pv 5) (by rfl))) (fun _ _ _ _ _ => (pe_op (show OpR _ (binaryOp .Add) (rCatX K) from op_catX) (pv 5) (pe_tupX (pa_cons (pv 6) pa_nil))))) pa_nil))))) (pss_cons (ps_set (i := 2) sc_Lsequences.nd rfl (Or.inl rfl) (pv 4)) (pss_one (ps_expr (pe_bm PySem.F.plainAttrs_list PySem.F.slot_list_extend PySem.F.type_list_extend mt_extend (pv 1) (pa_cons (pv 2) pa_nil)))))))) (pss_one (ps_ret (pv 1))))), ?_⟩
    have wl := ws_len hws
    refine q_parR (ers_lst (K := K) (era_cons er_0 era_nil) (by show 1 ≤ 1000; omega) H (Ex.refl H) _ fun fo yf H1 hfo e1 h1 r1 => ers_lst (K := K) (era_cons er_0 era_nil) (by show 1 ≤ 1000; omega) H1 (Ex.refl H1) _ fun lo yl H2 hlo e2 h2 r2 => ⟨.ref fo, .ref lo, rfl, ?_⟩)
    have x2 := e1.trans e2
    refine q_forR1 (n := ((ws.length : Nat) : Int)) (ea_cons (ev_is (ev_len (ev_var rfl) (ex_l x2 ha)) (by rw [List.length_map])) ea_nil) (by omega)
      (fun i σ' H' => ∃ lo yf yl x3 x4 x5 x6, σ' = [some (.ref a), some (.ref fo), some (.ref lo), x3, x4, x5, x6] ∧ Ex H H' ∧ H' fo = some (.lst yf) ∧ RowsAt K H' yf (found ws i) ∧ H' lo = some (.lst yl) ∧ RowsAt K H' yl (grow ws i) ∧ lo ≠ fo)
      (fun H3 e3 => ⟨lo, yf, yl, _, _, _, _, rfl, x2.trans e3, e3 _ _ (e2 _ _ h1), r1.ex (e2.trans e3), e3 _ _ h2, r2.ex e3, (ne_of_none h1 hlo).symm⟩) (fun i σ' H' hi z => ?_) (fun σ' H' z => ?_)
    · obtain ⟨lo, yf, yl, x3, x4, x5, x6, rfl, x, hf, rf, hl, rl, nlf⟩ := z
      have hi' : i < ws.length := by omega
      have hfo0 : H fo = none := hfo
      refine q_asgL (xs := []) (el_lst ea_nil (Nat.zero_le _)) fun la H3 hla e3 h3 => ?_
      have nlaf : la ≠ fo := (ne_of_none hf hla).symm
      refine q_forLn (a := lo) (xs := yl) (ev_var rfl) (sq_of (e3 _ _ hl)) (fun j σ'' H'' => ∃ x5 x6 ya, σ'' = [some (.ref a), some (.ref fo), some (.ref lo), some (.int (i : Int)), some (.ref la), x5, x6] ∧ Ex H' H'' ∧ H'' la = some (.lst ya) ∧ RowsAt K H'' ya (((grow ws i).take j).flatMap (ext ws)))
        (fun H4 e4 => ⟨_, _, [], rfl, e3.trans e4, e4 _ _ h3, .nil⟩) (fun j σ'' H'' _ z => ?_) (fun j v σ'' H'' hv z => ?_) (fun σ'' H'' z => ?_)
      · obtain ⟨_, _, _, _, z1, _⟩ := z
        exact sq_of (z1 _ _ hl)
      · obtain ⟨y5, y6, ya, rfl, z1, z2, z3⟩ := z
        obtain ⟨ar, us, rfl, hus, rus⟩ := (rl.ex z1).at hv
        have jl := (List.getElem?_eq_some_iff.mp hus).1
        have uok : us.length ≤ 900 := by
          have := grow_len (List.mem_of_getElem? hus)
          omega
        refine dropR ⟨_, rfl, .inl ⟨rfl, _, sq_of z2⟩, ers_ext (i0 := 0) rfl (ex_l (x.trans z1) ha) wl uok (fun _ => rfl) (fun _ => rfl) (fun _ => rfl) rus H'' (Ex.refl _) _ fun p ys H5 hp e5 h5 r5 => ⟨la, p, ya, ys, rfl, rfl, e5 _ _ z2, h5, ?_, ?_⟩⟩
        · have l1 := z3.len
          have l2 := r5.len
          have l3 := (seq_len hws (show i + 1 ≤ ws.length by omega)).2
          have l4 := flat_take (f := ext ws) (grow ws i) (j + 1)
          rw [List.take_add_one, hus, List.flatMap_append, List.length_append] at l4
          have l5 : (ext ws us).length = (([us] : List Rw).flatMap (ext ws)).length := by simp
          have l6 : (grow ws (i + 1)).length = ((grow ws i).flatMap (ext ws)).length := rfl
          show ya.length + ys.length ≤ sizeLine
          have l7 : (Option.toList (some us)) = [us] := rfl
          rw [l7] at l4
          rw [sizeLine_eq]
          omega
        · refine ⟨_, _, ya ++ ys, rfl, (z1.trans e5).mut hla, upd_same, ?_⟩
          rw [List.take_add_one, hus, List.flatMap_append]
          have l7 : (Option.toList (some us)) = [us] := rfl
          rw [l7, show ([us] : List Rw).flatMap (ext ws) = ext ws us by simp]
          exact ((z3.ex e5).app r5).exB ExB.set (NoTup.lst (e5 _ _ z2))
      · obtain ⟨y5, y6, ya, rfl, z1, z2, z3⟩ := z
        rw [rl.len, List.take_length] at z3
        refine q_asg (v := .ref la) (ev_var rfl) fun H4 e4 => ?_
        have f4 := e4 _ _ (z1 _ _ hf)
        refine dropR ⟨_, rfl, .inl ⟨rfl, _, sq_of f4⟩, _, rfl, fo, la, yf, ya, rfl, rfl, f4, e4 _ _ z2, ?_, ?_⟩
        · have l1 := rf.len
          have l2 := z3.len
          have l3 := (seq_len hws (show i ≤ ws.length by omega)).1
          have l4 := (seq_len hws (show i + 1 ≤ ws.length by omega)).2
          have l6 : (grow ws (i + 1)).length = ((grow ws i).flatMap (ext ws)).length := rfl
          rw [sizeLine_eq]
          omega
        · refine ⟨la, yf ++ ya, ya, _, _, _, _, rfl, ((x.trans z1).trans e4).mut hfo0, upd_same, ?_, ?_, ?_, nlaf⟩
          · exact ((rf.ex (z1.trans e4)).app (z3.ex e4)).exB ExB.set (NoTup.lst f4)
          · rw [upd_ne nlaf]
            exact e4 _ _ z2
          · exact (z3.ex e4).exB ExB.set (NoTup.lst f4)
    · obtain ⟨lo, yf, yl, x3, x4, x5, x6, rfl, x, hf, rf, hl, rl, nlf⟩ := z
      rw [Int.toNat_natCast] at rf
      exact s_ret (ev_var rfl) fun H3 e3 => q H3 fo yf hfo (x.trans e3) (e3 _ _ hf) (rf.ex e3)
end
end My
namespace My
open PySem PySem.Spec PyProof.Rows L2 GL Evl StX SkE
/-! ### rows by the law, any rules -/
section
variable {P : Program} {w : World} {K : PySem.W.Frag} {mg : Str → Option Value} {base : Heap} {C : Addr} {H H' : Hp} {σ : L2.St} {te tb ta tc : TE} {tt : TT} {tA : TA} {E : XK} {D : Ends} {tz : TS} {a b d : Addr} {us : Rw} {xs ys : List V} {rs qs : List Rw}
theorem ers_flt {vs : List Nat} {j : Nat} {f : Rw → Bool} (h : EvRs K tc σ H rs) (hl : rs.length ≤ 4000) (hj : ∀ x, ((wipe σ vs).set j (some x))[j]? = some (some x)) (hw : ∀ x, wipe ((wipe σ vs).set j (some x)) vs = wipe σ vs)
    (ht : ∀ a us G, RowX K G a us → EvT tt ((wipe σ vs).set j (some (.ref a))) G (f us)) : EvRs K (tLc (iList K tc) (gName j) tt (tVar j) vs) σ H (rs.filter f) := fun H0 e0 Q q => h H0 e0 _ fun p ys H1 hp e1 h1 r1 => ⟨p, rfl, ⟨_, sq_of h1⟩, fun Dl hD =>
  lc_it (walk_list (K := K) (a := p) (xs := ys)) (fun k G => ∃ yc, Ex H1 G ∧ G Dl = some (.lst yc) ∧ RowsAt K G yc ((rs.take k).filter f)) ⟨[], Ex.new hD, upd_same, .nil⟩ (fun k G _ z => by
    obtain ⟨_, z1, _⟩ := z
    exact ex_l z1 (sq_of h1)) (fun k v G1 G2 hk z y => by
    obtain ⟨rfl, hv⟩ := y
    obtain ⟨yc, z1, z2, z3⟩ := z
    obtain ⟨a, us, rfl, hu, ra⟩ := (r1.ex z1).at hv
    have kl : k < rs.length := (List.getElem?_eq_some_iff.mp hu).1
    refine ⟨hw _, ?_⟩
    refine ht a us _ ra _ (Ex.refl _) _ fun G3 e3 => ?_
    have tk : (rs.take (k + 1)).filter f = (rs.take k).filter f ++ (if f us then [us] else []) := by
      rw [List.take_add_one, hu, List.filter_append]
      congr 1
      show List.filter f [us] = _
      by_cases e : f us
      · rw [if_pos e, List.filter_cons_of_pos e]
        rfl
      · rw [if_neg e, List.filter_cons_of_neg e]
        rfl
    cases hf : f us with
    | false =>
      refine ⟨yc, z1.trans e3, e3 _ _ z2, ?_⟩
      rw [tk, hf]
      show RowsAt K G3 yc (_ ++ [])
      rw [List.append_nil]
      exact z3.ex e3
    | true =>
      refine ⟨_, hj _, yc, e3 _ _ z2, ?_, yc ++ [.ref a], (z1.trans e3).mut hD, upd_same, ?_⟩
      · have l1 := z3.len
        have l2 := List.length_filter_le f (rs.take k)
        rw [List.length_take] at l2
        rw [sizeLine_eq]
        omega
      · rw [tk, hf]
        have x := (z3.ex e3).app (.cons (ra.ex e3) .nil)
        exact x.exB ExB.set (NoTup.lst (e3 _ _ z2)))
    (fun G z => by
    obtain ⟨yc, z1, z2, z3⟩ := z
    rw [r1.len, List.take_length] at z3
    exact q Dl yc G (fresh_back e1 hD) (e1.trans z1) z2 z3)⟩
theorem ers_seqs {Er : XK} {ws : Rw} (h : EvL te σ H (ws.map wV)) (hw : ws ∈ [takeWs, giveWs, moveWs]) : EvRs K (tCall (sp_Lseqs K) [] Er (tCons te tNil)) σ H (seqs ws) := fun H0 e0 Q q => h H0 e0 _ fun p H1 hp e1 h1 => ⟨p, ws, rfl, sq_of h1, hw, fun H2 r xs hr e2 h2 r2 => q r xs H2 (fresh_back e1 hr) (e1.trans e2) h2 r2⟩
theorem seqs_len {ws : Rw} (hw : ws ∈ [takeWs, giveWs, moveWs]) : (seqs ws).length ≤ 4000 := Nat.le_trans (seq_len hw (Nat.le_refl _)).1 (by omega)
theorem s_rows {Q : VK} (h : EvRs K te σ H rs) (q : ∀ H' p ys, H p = none → Ex H H' → H' p = some (.lst ys) → RowsAt K H' ys rs → Q (.ref p) H') (hQ : D.rt = Q) : tRet te D σ H := by
  subst hQ
  exact h H (Ex.refl H) _ fun p ys H1 hp e1 h1 r1 => q H1 p ys hp e1 h1 r1
theorem ok_Ltakes (T : Txt K mg w) (G_Lsequences : FnG P w K mg base CX0 1 T.f_Lsequences T.fd_Lsequences ["_law_words"] (sp_Lseqs K)) (G_Lis_take : FnG P w K mg base CX0 2 T.f_Lis_take T.fd_Lis_take ["_law_some", "_law_amount"] (sp_Ltk K)) : FnG P w K mg base CX0 3 T.f_Ltakes T.fd_Ltakes ["_law_amount"] (sp_Ltakes K) := by
  skip
  refine okG T.F_Ltakes sc_Ltakes (fun vs H Q E h => ?_) (fun cdv A outer s H vs Q E gd hr h => ?_)
  · obtain ⟨_, rfl, _⟩ := h
    all_goals rfl
  · obtain ⟨n, rfl, q⟩ := h
    refine ⟨_, (pss_one (ps_ret (pe_lc (own := [("_law_some", 1)]) (g := gName 1) rfl sc_Ltakes.nd (pi_list (pc gd G_Lsequences (hr.mono (by decide)) (by rfl) T.m_Lsequences T.F_Lsequences.kp T.b_Lsequences .nil pass0 (pa_cons (pe_lst (pa_cons pe_str (pa_cons pe_str (pa_cons pe_str (pa_cons pe_str pa_nil))))) pa_nil))) (blkOk_by (N := N_Ltakes) (sc := defScope s_Ltakes) (by decide +kernel)) (fun _ _ _ _ _ => (pg_name (i := 1) sc_Ltakes.nd rfl (Or.inl rfl) (Or.inr rfl))) (fun _ _ _ _ _ => pts_one (pt_val (pc gd G_Lis_take (hr.mono (by decide)) (by rfl) T.m_Lis_take T.F_Lis_take.kp T.b_Lis_take .nil pass0 (pa_cons (pv 1) (pa_cons (pv 0) pa_nil))))) (fun _ _ _ _ _ => (pv 1))))), ?_⟩
    refine s_rows (ers_flt (f := fun us => lTake us n) (ers_seqs (ws := takeWs) (el_lst (ea_cons (ev_lit rfl) (ea_cons (ev_lit rfl) (ea_cons (ev_lit rfl) (ea_cons (ev_lit rfl) ea_nil)))) (by show 4 ≤ 100000; omega)) (by decide)) (seqs_len (by decide)) (fun _ => rfl) (fun _ => rfl) fun a us G ra => et_B (ev_call (ea_cons (ev_var rfl) (ea_cons (ev_var rfl) ea_nil)) fun _ e _ q _ => ⟨a, us, n, rfl, ra.ex e, q⟩)) q rfl
theorem ok_Lgives (T : Txt K mg w) (G_Lsequences : FnG P w K mg base CX0 1 T.f_Lsequences T.fd_Lsequences ["_law_words"] (sp_Lseqs K)) (G_Lis_give : FnG P w K mg base CX0 2 T.f_Lis_give T.fd_Lis_give ["_law_some"] (sp_Lgv K)) : FnG P w K mg base CX0 3 T.f_Lgives T.fd_Lgives [] (sp_Lgives K) := by
  skip
  refine okG T.F_Lgives sc_Lgives (fun vs H Q E h => ?_) (fun cdv A outer s H vs Q E gd hr h => ?_)
  · obtain ⟨rfl, _⟩ := h
    all_goals rfl
  · obtain ⟨rfl, q⟩ := h
    refine ⟨_, (pss_one (ps_ret (pe_lc (own := [("_law_some", 0)]) (g := gName 0) rfl sc_Lgives.nd (pi_list (pc gd G_Lsequences (hr.mono (by decide)) (by rfl) T.m_Lsequences T.F_Lsequences.kp T.b_Lsequences .nil pass0 (pa_cons (pe_lst (pa_cons pe_str (pa_cons pe_str (pa_cons pe_str pa_nil)))) pa_nil))) (blkOk_by (N := N_Lgives) (sc := defScope s_Lgives) (by decide +kernel)) (fun _ _ _ _ _ => (pg_name (i := 0) sc_Lgives.nd rfl (Or.inl rfl) (Or.inr rfl))) (fun _ _ _ _ _ => pts_one (pt_val (pc gd G_Lis_give (hr.mono (by decide)) (by rfl) T.m_Lis_give T.F_Lis_give.kp T.b_Lis_give .nil pass0 (pa_cons (pv 0) pa_nil)))) (fun _ _ _ _ _ => (pv 0))))), ?_⟩
    refine s_rows (ers_flt (f := fun us => lGive us) (ers_seqs (ws := giveWs) (el_lst (ea_cons (ev_lit rfl) (ea_cons (ev_lit rfl) (ea_cons (ev_lit rfl) ea_nil))) (by show 3 ≤ 100000; omega)) (by decide)) (seqs_len (by decide)) (fun _ => rfl) (fun _ => rfl) fun a us G ra => et_B (ev_call (ea_cons (ev_var rfl) ea_nil) fun _ e _ q _ => ⟨a, us, rfl, ra.ex e, q⟩)) q rfl
theorem ok_Lmoves (T : Txt K mg w) (G_Lsequences : FnG P w K mg base CX0 1 T.f_Lsequences T.fd_Lsequences ["_law_words"] (sp_Lseqs K)) (G_Lis_move : FnG P w K mg base CX0 2 T.f_Lis_move T.fd_Lis_move ["_law_some", "_law_is_shared"] (sp_Lmv K)) : FnG P w K mg base CX0 3 T.f_Lmoves T.fd_Lmoves ["_law_is_shared"] (sp_Lmoves K) := by
  skip
  refine okG T.F_Lmoves sc_Lmoves (fun vs H Q E h => ?_) (fun cdv A outer s H vs Q E gd hr h => ?_)
  · obtain ⟨_, rfl, _⟩ := h
    all_goals rfl
  · obtain ⟨b, rfl, q⟩ := h
    refine ⟨_, (pss_cons (ps_set (i := 1) sc_Lmoves.nd rfl (Or.inl rfl) (pe_lst (pa_cons pe_str (pa_cons pe_str (pa_cons pe_str (pa_cons pe_str (pa_cons pe_str (pa_cons pe_str pa_nil)))))))) (pss_one (ps_ret (pe_lc (own := [("_law_some", 2)]) (g := gName 2) rfl sc_Lmoves.nd (pi_list (pc gd G_Lsequences (hr.mono (by decide)) (by rfl) T.m_Lsequences T.F_Lsequences.kp T.b_Lsequences .nil pass0 (pa_cons (pv 1) pa_nil))) (blkOk_by (N := N_Lmoves) (sc := defScope s_Lmoves) (by decide +kernel)) (fun _ _ _ _ _ => (pg_name (i := 2) sc_Lmoves.nd rfl (Or.inl rfl) (Or.inr rfl))) (fun _ _ _ _ _ => pts_one (pt_val (pc gd G_Lis_move (hr.mono (by decide)) (by rfl) T.m_Lis_move T.F_Lis_move.kp T.b_Lis_move .nil pass0 (pa_cons (pv 2) (pa_cons (pv 0) pa_nil))))) (fun _ _ _ _ _ => (pv 2)))))), ?_⟩
    refine q_asgL (el_lst (ea_cons (ev_lit (w0 := .home) rfl) (ea_cons (ev_lit (w0 := .look) rfl) (ea_cons (ev_lit (w0 := .add) rfl) (ea_cons (ev_lit (w0 := .tri) rfl) (ea_cons (ev_lit (w0 := .set) rfl) (ea_cons (ev_lit (w0 := .off) rfl) ea_nil)))))) (by show 6 ≤ 100000; omega)) fun p H1 hp e1 h1 => ?_
    have r : EvRs K (tCall (sp_Lseqs K) [] (fun _ _ _ => False) (tCons (tVar 1) tNil)) [some (.bl b), some (.ref p), none] H1 (seqs moveWs) := fun H0 e0 Q q => ⟨_, rfl, p, moveWs, rfl, sq_of (e0 _ _ h1), by decide, fun H2 r xs hr e2 h2 r2 => q r xs H2 hr e2 h2 r2⟩
    refine s_rows (ers_flt (f := fun us => lMove us b) r (seqs_len (by decide)) (fun _ => rfl) (fun _ => rfl) fun a us G ra => et_B (ev_call (ea_cons (ev_var rfl) (ea_cons (ev_var rfl) ea_nil)) fun _ e _ q _ => ⟨a, us, b, rfl, ra.ex e, q⟩)) (fun H2 r ys hr e2 h2 r2 => q H2 r ys (fresh_back e1 hr) (e1.trans e2) h2 r2) rfl
theorem er_row {us : Rw} (h : EvA tA σ H (us.map wV)) (hl : us.length ≤ 1000) : EvR K (tTupX tA) σ H us := fun H1 e Q q => h H1 e _ fun H2 e2 => ⟨by rw [List.length_map, sizeLine_eq]; omega, fun p o hp ho => q p _ (e2.trans (Ex.new hp)) (.fx upd_same ho)⟩
theorem ok_Llifts (T : Txt K mg w)  : FnG P w K mg base CX0 1 T.f_Llifts T.fd_Llifts [] (sp_Llifts K) := by
  skip
  refine okG T.F_Llifts sc_Llifts (fun vs H Q E h => ?_) (fun cdv A outer s H vs Q E gd hr h => ?_)
  · obtain ⟨rfl, _⟩ := h
    all_goals rfl
  · obtain ⟨rfl, q⟩ := h
    refine ⟨_, (pss_one (ps_ret (pe_lst (pa_cons (pe_tupX pa_nil) (pa_cons (pe_tupX (pa_cons pe_str pa_nil)) (pa_cons (pe_tupX (pa_cons pe_str pa_nil)) (pa_cons (pe_tupX (pa_cons pe_str (pa_cons pe_str pa_nil))) (pa_cons (pe_tupX (pa_cons pe_str (pa_cons pe_str pa_nil))) (pa_cons (pe_tupX (pa_cons pe_str pa_nil)) pa_nil))))))))), ?_⟩
    have w1 : ∀ {z : Str} {x : Wd}, z = x.s → EvR K (tTupX (tCons (tC (.str z)) tNil)) (L2.start N_Llifts []) H [x] := fun e => er_row (ea_cons (ev_lit e) ea_nil) (by show 1 ≤ 1000; omega)
    have w2 : ∀ {z z' : Str} {x x' : Wd}, z = x.s → z' = x'.s → EvR K (tTupX (tCons (tC (.str z)) (tCons (tC (.str z')) tNil))) (L2.start N_Llifts []) H [x, x'] := fun e e' => er_row (ea_cons (ev_lit e) (ea_cons (ev_lit e') ea_nil)) (by show 2 ≤ 1000; omega)
    refine s_rows (rs := liftRows) (ers_lst (era_cons er_0 (era_cons (w1 rfl) (era_cons (w1 rfl) (era_cons (w2 rfl rfl) (era_cons (w2 rfl rfl) (era_cons (w1 rfl) era_nil)))))) (by decide)) q rfl
end
end My
namespace My
open PySem PySem.Spec PyProof.Rows L2 GL Evl StX SkE
/-! ### any rules -/
section
variable {P : Program} {w : World} {K : PySem.W.Frag} {mg : Str → Option Value} {base : Heap} {C : Addr} {H H' H0 H1 : Hp} {σ : L2.St} {te tb ta tc : TE} {tt : TT} {tA : TA} {E Er : XK} {D : Ends} {tz : TS} {a b d : Addr} {us : Rw} {xs ys : List V} {rs qs : List Rw} {ks : List Pt} {r l : Ru} {p : Pt} {v : V} {Q : VK}
theorem PotAt.nt (h : PotAt H a) : NoTup H a := by
  obtain ⟨x, y, h1, _⟩ := h
  exact NoTup.lst h1
theorem PotAt.ne (h : PotAt H a) (hd : H d = none) : d ≠ a := fun e => by
  obtain ⟨x, y, h1, _⟩ := h
  rw [e, h1] at hd
  cases hd
/-- where a dict of rules is filled beside a pot -/
structure Sta (K : PySem.W.Frag) (a d : Addr) (ks : List Pt) (r : Ru) (H0 H : Hp) : Prop where
  x : ExB a H0 H
  p : PotAt H a
  n : H0 d = none
  na : d ≠ a
  d : DictAt K H d ks r
theorem DictAt.put (h : DictAt K H d ks r) (hp : p ∉ ks) (hv : (l.get p).At K H v) {f : Pt → V} (hf : H d = some (.dK (kvs ks f))) : DictAt K (upd H d (.dK (putK (kvs ks f) (.inr p.s) v))) d (ks ++ [p]) (r.upd l p) := by
  obtain ⟨f', h1, h2⟩ := h
  have ef : ∀ q ∈ ks, f' q = f q := fun q hq => by
    rw [hf] at h1
    have e := HO.dK.inj (Option.some.inj h1)
    have e1 := val_at (f := f) hq
    rw [e, val_at hq] at e1
    exact Option.some.inj e1
  refine ⟨My.put f p v, by rw [upd_same, put_new hp], fun q hq => ?_⟩
  rw [Ru.get_upd]
  unfold My.put
  by_cases e : q = p
  · subst e
    rw [if_pos rfl, if_pos rfl]
    exact hv.exB ExB.set (NoTup.dK hf)
  · rw [if_neg e, if_neg e]
    have hq' : q ∈ ks := (List.mem_append.mp hq).resolve_right fun z => e (List.mem_singleton.mp z)
    rw [← ef q hq']
    exact (h2 q hq').exB ExB.set (NoTup.dK hf)
theorem DictAt.over (h : DictAt K H d ks r) (hp : p ∈ ks) (hv : (l.get p).At K H v) {f : Pt → V} (hf : H d = some (.dK (kvs ks f))) : DictAt K (upd H d (.dK (putK (kvs ks f) (.inr p.s) v))) d ks (r.upd l p) := by
  obtain ⟨f', h1, h2⟩ := h
  have ef : ∀ q ∈ ks, f' q = f q := fun q hq => by
    rw [hf] at h1
    have e := HO.dK.inj (Option.some.inj h1)
    have e1 := val_at (f := f) hq
    rw [e, val_at hq] at e1
    exact Option.some.inj e1
  refine ⟨My.put f p v, by rw [upd_same, put_old hp], fun q hq => ?_⟩
  rw [Ru.get_upd]
  unfold My.put
  by_cases e : q = p
  · subst e
    rw [if_pos rfl, if_pos rfl]
    exact hv.exB ExB.set (NoTup.dK hf)
  · rw [if_neg e, if_neg e, ← ef q hq]
    exact (h2 q hq).exB ExB.set (NoTup.dK hf)
/-- a part is told by draws -/
def EvPt (K : PySem.W.Frag) (te : TE) (σ : L2.St) (H : Hp) (a : Addr) (p : Pt) (X : Ru → Prop) : Prop := ∀ H1, Ex H H1 → ∀ Q : VK, (∀ H2 v l, ExB a H1 H2 → PotAt H2 a → (l.get p).At K H2 v → X l → Q v H2) → te σ H1 Q
theorem Sta.ex (st : Sta K a d ks r H0 H) (e : ExB a H H') (p : PotAt H' a) : Sta K a d ks r H0 H' := ⟨st.x.trans e, p, st.n, st.na, st.d.exB e st.na st.p.nt⟩
theorem Sta.put (st : Sta K a d ks r H0 H) (hp : p ∉ ks) (hv : (l.get p).At K H v) {f : Pt → V} (hf : H d = some (.dK (kvs ks f))) : Sta K a d (ks ++ [p]) (r.upd l p) H0 (upd H d (.dK (putK (kvs ks f) (.inr p.s) v))) := ⟨st.x.mut st.n, st.p.exB ExB.set st.na.symm, st.n, st.na, st.d.put hp hv hf⟩
theorem Sta.over (st : Sta K a d ks r H0 H) (hp : p ∈ ks) (hv : (l.get p).At K H v) {f : Pt → V} (hf : H d = some (.dK (kvs ks f))) : Sta K a d ks (r.upd l p) H0 (upd H d (.dK (putK (kvs ks f) (.inr p.s) v))) := ⟨st.x.mut st.n, st.p.exB ExB.set st.na.symm, st.n, st.na, st.d.over hp hv hf⟩
theorem q_part {X : Ru → Prop} {i : Nat} (st : Sta K a d ks r H0 H) (hs : σ[i]? = some (some (.ref d))) (hp : p ∉ ks) (hl : ks.length ≤ 20) (h : EvPt K te σ H a p X) (k : ∀ H1 l, X l → Sta K a d (ks ++ [p]) (r.upd l p) H0 H1 → tz D σ H1) : tSeq (sDPut (tVar i) (tC (.str p.s)) te) tz D σ H :=
  h H (Ex.refl H) _ fun H1 v l e1 p1 hv hx => by
    have st1 := st.ex e1 p1
    obtain ⟨f, hf, _⟩ := id st1.d
    exact ⟨_, hs, d, _, rfl, .inl ⟨_, .inr p.s, hf, rfl, by rw [List.length_map, sizeLine_eq]; omega, rfl⟩, k _ l hx (st1.put hp hv hf)⟩
theorem n_eq0 (i : Nat) : RV rEq (nV i) (.int 0) H (.bl (decide (i = 0))) := rv_bl (rv_eq rfl) (nV_eq i 0)
theorem draw0 {i : Nat} (hp : PotAt H a) (hs : σ[i]? = some (some (.ref a))) {Q : VK} (k : ∀ H1 (b : Bool), ExB a H H1 → PotAt H1 a → Q (.bl b) H1) : tOp rEq (tCall sp_Ldraw [] Er (tCons (tVar i) (tCons (tC (.int 2)) tNil))) (tC (.int 0)) σ H Q :=
  op_raw (dr (n := 2) (ea_cons (ev_var hs) (ea_cons (ev_is ev_c rfl) ea_nil)) hp (by omega) (by omega) fun H1 j x1 p1 _ => ev_raw ev_c fun H2 e2 => n_eq0 j H2 (Ex.refl _) _ fun H3 e3 => k H3 _ ((x1.trans (ExB.of e2)).trans (ExB.of e3)) ((p1.ex e2).ex e3))
theorem ep_bool {i : Nat} (hp : PotAt H a) (hs : σ[i]? = some (some (.ref a))) (h : p = .shared ∨ p = .settles) : EvPt K (tOp rEq (tCall sp_Ldraw [] Er (tCons (tVar i) (tCons (tC (.int 2)) tNil))) (tC (.int 0))) σ H a p (fun _ => True) := fun H1 e1 Q q => draw0 (hp.ex e1) hs fun H2 b x2 p2 => by
  rcases h with rfl | rfl
  · exact q H2 (.bl b) ⟨[], [], [], [], .undo, b, [], 1, b⟩ x2 p2 rfl trivial
  · exact q H2 (.bl b) ⟨[], [], [], [], .undo, b, [], 1, b⟩ x2 p2 rfl trivial
/-- one of the rows -/
theorem pick_rows {i : Nat} {Q : VK} (hp : PotAt H a) (hs : σ[i]? = some (some (.ref a))) (h : EvRs K te σ H rs) (h1 : rs ≠ []) (h2 : rs.length ≤ 1000) (k : ∀ H1 b us, ExB a H H1 → PotAt H1 a → us ∈ rs → RowX K H1 b us → Q (.ref b) H1) : tCall sp_Lpick [] Er (tCons (tVar i) (tCons te tNil)) σ H Q :=
  ⟨_, hs, h H (Ex.refl H) _ fun p ys H1 hp1 e1 h3 r1 => ⟨a, p, ys, rfl, hp.ex e1, (hp.ne hp1), h3, by
    have := List.length_pos_iff.mpr h1
    rw [r1.len]
    omega, by rw [r1.len]; exact h2, fun H2 v x2 p2 hv => by
    obtain ⟨b, us, rfl, hu, hb⟩ := r1.mem hv
    exact k H2 b us ((ExB.of e1).trans x2) p2 hu (hb.exB x2 (hp.ex e1).nt)⟩⟩
def rowPt : Pt → Ru → Rw
  | .take, r => r.take | .give, r => r.give | .move, r => r.move | .lift, r => r.lift | _, r => r.holds
theorem ep_row {i : Nat} (hp : PotAt H a) (hs : σ[i]? = some (some (.ref a))) (h : EvRs K te σ H rs) (h1 : rs ≠ []) (h2 : rs.length ≤ 1000) (hk : p = .take ∨ p = .give ∨ p = .move ∨ p = .lift) : EvPt K (tCall sp_Lpick [] Er (tCons (tVar i) (tCons te tNil))) σ H a p (fun l => rowPt p l ∈ rs) := fun H1 e1 Q q =>
  pick_rows (hp.ex e1) hs (fun H2 e2 => h H2 (e1.trans e2)) h1 h2 fun H2 b us x2 p2 hu hb => by
    rcases hk with rfl | rfl | rfl | rfl
    · exact q H2 (.ref b) ⟨us, us, us, us, .undo, true, [], 1, true⟩ x2 p2 ⟨b, rfl, hb⟩ hu
    · exact q H2 (.ref b) ⟨us, us, us, us, .undo, true, [], 1, true⟩ x2 p2 ⟨b, rfl, hb⟩ hu
    · exact q H2 (.ref b) ⟨us, us, us, us, .undo, true, [], 1, true⟩ x2 p2 ⟨b, rfl, hb⟩ hu
    · exact q H2 (.ref b) ⟨us, us, us, us, .undo, true, [], 1, true⟩ x2 p2 ⟨b, rfl, hb⟩ hu
theorem ers_takes {n : Nat} (h : Ev te σ H (nV n)) : EvRs K (tCall (sp_Ltakes K) [] Er (tCons te tNil)) σ H (takes n) := fun H0 e0 Q q => h H0 e0 _ fun H1 e1 => ⟨n, rfl, fun H2 p ys hp e2 h2 r2 => q p ys H2 (fresh_back e1 hp) (e1.trans e2) h2 r2⟩
theorem ers_moves {b : Bool} (h : Ev te σ H (.bl b)) : EvRs K (tCall (sp_Lmoves K) [] Er (tCons te tNil)) σ H (moves b) := fun H0 e0 Q q => h H0 e0 _ fun H1 e1 => ⟨b, rfl, fun H2 p ys hp e2 h2 r2 => q p ys H2 (fresh_back e1 hp) (e1.trans e2) h2 r2⟩
theorem ers_gives : EvRs K (tCall (sp_Lgives K) [] Er tNil) σ H gives := fun H0 e0 Q q => ⟨rfl, fun H2 p ys hp e2 h2 r2 => q p ys H2 hp e2 h2 r2⟩
theorem ers_lifts : EvRs K (tCall (sp_Llifts K) [] Er tNil) σ H liftRows := fun H0 e0 Q q => ⟨rfl, fun H2 p ys hp e2 h2 r2 => q p ys H2 hp e2 h2 r2⟩
theorem takes_len (n : Nat) : (takes n).length ≤ 1000 := by
  have h : (seqs takeWs).length ≤ 1000 := by
    have go : decide ((seqs takeWs).length ≤ 1000) = true := by decide +kernel
    exact of_decide_eq_true go
  exact Nat.le_trans (List.length_filter_le _ _) h
theorem moves_len (b : Bool) : (moves b).length ≤ 1000 := by
  have go : ∀ b, decide ((moves b).length ≤ 1000) = true := by decide +kernel
  exact of_decide_eq_true (go b)
theorem gives_len : gives.length ≤ 1000 := by
  have go : decide (gives.length ≤ 1000) = true := by decide +kernel
  exact of_decide_eq_true go
/-- [k for k in us if draw == 0] -/
theorem tlc_sub {wi : TI} {vs : List Nat} {i j : Nat} {us : Rw} (hp : PotAt H a) (hl : us.length ≤ 1000) (hw : ∀ R : It → Hp → Prop, (∀ J G H1, Walk J (us.map wV).length G (YAt (us.map wV)) → Ex H H1 → (∀ H', ExB a H1 H' → G H') → R J H1) → wi σ H R)
    (h0 : ∀ x, ((wipe σ vs).set j (some x))[i]? = some (some (.ref a))) (hj : ∀ x, ((wipe σ vs).set j (some x))[j]? = some (some x)) (hv : ∀ x, wipe ((wipe σ vs).set j (some x)) vs = wipe σ vs)
    (q : ∀ H' Dl (ws : Rw), H Dl = none → ws.Sublist us → ExB a H H' → PotAt H' a → H' Dl = some (.lst (ws.map wV)) → Q (.ref Dl) H') : tLc wi (gName j) (tTest (tOp rEq (tCall sp_Ldraw [] Er (tCons (tVar i) (tCons (tC (.int 2)) tNil))) (tC (.int 0)))) (tVar j) vs σ H Q :=
  hw _ fun J G H1 wk e1 hG Dl hD => lc_it wk (fun k H' => ∃ ws : Rw, ExB a H1 H' ∧ PotAt H' a ∧ H' Dl = some (.lst (ws.map wV)) ∧ ws.Sublist (us.take k)) ⟨[], ExB.of (Ex.new hD), (hp.ex e1).ex (Ex.new hD), upd_same, List.nil_sublist _⟩
    (fun k H' _ z => hG H' z.choose_spec.1) (fun k v G1 G2 hk z y => by
    obtain ⟨rfl, hi⟩ := y
    obtain ⟨ws, z1, z2, z3, z4⟩ := z
    obtain ⟨u, hu, rfl, _⟩ := w_item hi
    refine ⟨hv _, ?_⟩
    refine test_raw (draw0 z2 (h0 _) fun H3 b x3 p3 => ⟨b, rfl, ?_⟩)
    have nd : Dl ≠ a := (hp.ex e1).ne hD
    have h3 : H3 Dl = some (.lst (ws.map wV)) := x3 _ _ nd z3
    have tk : us.take (k + 1) = us.take k ++ [u] := by
      rw [List.take_add_one, hu]
      rfl
    cases b with
    | true =>
      refine ⟨_, hj _, ws.map wV, h3, ?_, ws ++ [u], (z1.trans x3).mut hD, p3.exB ExB.set nd.symm, ?_, ?_⟩
      · have l1 := z4.length_le
        rw [List.length_take] at l1
        rw [List.length_map, sizeLine_eq]
        omega
      · rw [upd_same, List.map_append]
        rfl
      · rw [tk]
        exact z4.append (List.Sublist.refl _)
    | false => 
      refine ⟨ws, z1.trans x3, p3, h3, ?_⟩
      rw [tk]
      exact z4.trans (List.sublist_append_left _ _)) fun H' z => by
    obtain ⟨ws, z1, z2, z3, z4⟩ := z
    rw [List.length_map, List.take_length] at z4
    exact q H' Dl ws (fresh_back e1 hD) z4 ((ExB.of e1).trans z1) z2 z3
theorem cb1_raw {rr : List V → Hp → VK → Prop} (h : te σ H fun v H1 => rr [v] H1 Q) : tCB rr (tCons te tNil) σ H Q := h
theorem lst_raw (h : tA σ H fun xs H1 => xs.length ≤ sizeLine ∧ ∀ p, H1 p = none → Q (.ref p) (upd H1 p (.lst xs))) : tLst tA σ H Q := h
theorem cons1_raw {QA : List V → Hp → Prop} (h : te σ H fun x H1 => QA [x] H1) : tCons te tNil σ H QA := h
theorem cons_rw {QA : List V → Hp → Prop} (h : te σ H fun x H1 => tA σ H1 fun vs H2 => QA (x :: vs) H2) : tCons te tA σ H QA := h
theorem q_dispR {g : TG} {trs : List (TE × TE)} (h : tDisp trs σ H fun x H1 => g x σ H1 (tz D)) : tSeq (tAsg (tDisp trs) g) tz D σ H := h
theorem fail_mem : ∀ v, v ∈ failWs.map wV → ∃ u ∈ failWs, v = wV u := fun v h => by
  obtain ⟨u, hu, rfl⟩ := List.mem_map.mp h
  exact ⟨u, hu, rfl⟩
theorem pick_list {i : Nat} {Q : VK} (hp : PotAt H a) (hs : σ[i]? = some (some (.ref a))) (h : EvL te σ H xs) (h1 : 1 ≤ xs.length) (h2 : xs.length ≤ 1000) (k : ∀ H1 v, ExB a H H1 → PotAt H1 a → v ∈ xs → Q v H1) : tCall sp_Lpick [] Er (tCons (tVar i) (tCons te tNil)) σ H Q :=
  ⟨_, hs, h H (Ex.refl H) _ fun p H1 hp1 e1 h3 => ⟨a, p, xs, rfl, hp.ex e1, (hp.ne hp1), h3, h1, h2, fun H2 v x2 p2 hv => k H2 v ((ExB.of e1).trans x2) p2 hv⟩⟩
theorem ev_part {i : Nat} (hs : σ[i]? = some (some (.ref d))) (h : DictAt K H d ks r) (hp : p ∈ ks) : ∃ v, Ev (tDGet (tVar i) (tC (.str p.s))) σ H v ∧ (r.get p).At K H v := by
  obtain ⟨f, h1, h2⟩ := h
  exact ⟨f p, ev_get (ev_var hs) h1 hp, h2 p hp⟩
theorem ev_pI {i : Nat} (hs : σ[i]? = some (some (.ref d))) (h : DictAt K H d ks r) (hp : .batch ∈ ks) : Ev (tDGet (tVar i) (tC (.str Pt.batch.s))) σ H (nV r.batch) := by
  obtain ⟨v, h1, h2⟩ := ev_part hs h hp
  have e : v = nV r.batch := h2
  rwa [e] at h1
theorem ev_pS {i : Nat} (hs : σ[i]? = some (some (.ref d))) (h : DictAt K H d ks r) (hp : .shared ∈ ks) : Ev (tDGet (tVar i) (tC (.str Pt.shared.s))) σ H (.bl r.shared) := by
  obtain ⟨v, h1, h2⟩ := ev_part hs h hp
  have e : v = .bl r.shared := h2
  rwa [e] at h1
end
end My
namespace My
open PySem PySem.Spec PyProof.Rows L2 GL Evl StX SkE
/-! ### books of rules, rules exchanged -/
/-- so that it can be read, locked or not -/
def DictR (K : PySem.W.Frag) (H : Hp) (d : Addr) (ks : List Pt) (r : Ru) : Prop := ∃ f : Pt → V, Rd H d (.dK (kvs ks f)) ∧ ∀ p ∈ ks, (r.get p).At K H (f p)
theorem DictAt.r {K : PySem.W.Frag} {H : Hp} {d : Addr} {ks : List Pt} {r : Ru} (h : DictAt K H d ks r) : DictR K H d ks r := by
  obtain ⟨f, h1, h2⟩ := h
  exact ⟨f, .inl h1, h2⟩
theorem rd_ex {H H' : Hp} {d : Addr} {u : HO} (h : Rd H d u) (e : Ex H H') : Rd H' d u := by
  rcases h with h | ⟨o, h⟩
  · exact .inl (e _ _ h)
  · exact .inr ⟨o, e _ _ h⟩
theorem DictR.ex {K : PySem.W.Frag} {H H' : Hp} {d : Addr} {ks : List Pt} {r : Ru} (h : DictR K H d ks r) (e : Ex H H') : DictR K H' d ks r := by
  obtain ⟨f, h1, h2⟩ := h
  exact ⟨f, rd_ex h1 e, fun p hp => (h2 p hp).ex e⟩
section
variable {P : Program} {w : World} {K : PySem.W.Frag} {mg : Str → Option Value} {base : Heap} {C : Addr} {H H' H0 H1 : Hp} {σ : L2.St} {te tb ta tc : TE} {tt : TT} {tA : TA} {E Er : XK} {D : Ends} {tz : TS} {a b d : Addr} {us : Rw} {xs ys : List V} {rs qs : List Rw} {ks : List Pt} {r l : Ru} {p : Pt} {v : V} {Q : VK}
theorem ev_getK {tk : TE} {p : Pt} {f : Pt → V} (h : Ev te σ H (.ref d)) (hk : Ev tk σ H (.str p.s)) (hd : H d = some (.dK (kvs ks f))) (hp : p ∈ ks) : Ev (tDGet te tk) σ H (f p) := fun H1 e1 Q q => h H1 e1 _ fun H2 e2 => hk H2 (e1.trans e2) _ fun H3 e3 =>
  ⟨d, f p, rfl, .inl ⟨kvs ks f, .inr p.s, .inl (e3 _ _ (e2 _ _ (e1 _ _ hd))), rfl, (val_at hp).symm⟩, q H3 (e2.trans e3)⟩
abbrev pV (p : Pt) : V := .str p.s
theorem inV_p (a : Pt) : ∀ l : List Pt, inV (pV a) (l.map pV) = decide (a ∈ l)
  | [] => rfl
  | b :: l => by
    have ih := inV_p a l
    show ((b.s == a.s) || inV (pV a) (l.map pV)) = decide (a ∈ b :: l)
    rw [ih]
    by_cases e : a = b
    · subst e
      simp
    · have z : (b.s == a.s) = false := beq_eq_false_iff_ne.mpr fun q => e (Pt.inj q).symm
      rw [z, Bool.false_or]
      by_cases m : a ∈ l
      · rw [decide_eq_true m, decide_eq_true (List.mem_cons_of_mem _ m)]
      · rw [decide_eq_false m, decide_eq_false fun q => (List.mem_cons.mp q).elim e m]
theorem flat_p (l : List Pt) : (l.map pV).all flatV = true := by
  rw [List.all_eq_true]
  intro x hx
  obtain ⟨n, _, rfl⟩ := List.mem_map.mp hx
  rfl
theorem ep_ev (hp : PotAt H a) (h : Ev te σ H v) (hv : ∀ H1, Ex H H1 → (l.get p).At K H1 v) : EvPt K te σ H a p (fun m => m = l) := fun H1 e1 Q q => h H1 e1 _ fun H2 e2 => q H2 v l (ExB.of e2) ((hp.ex e1).ex e2) (hv H2 (e1.trans e2)) rfl
theorem s_over {tk : TE} {X : Ru → Prop} {i : Nat} (st : Sta K a d ks r H0 H) (hs : σ[i]? = some (some (.ref d))) (hp : p ∈ ks) (hl : ks.length ≤ 20) (hk : ∀ H1, Ev tk σ H1 (.str p.s)) (h : EvPt K te σ H a p X) (k : ∀ H1 l, X l → Sta K a d ks (r.upd l p) H0 H1 → D.nx σ H1) : sDPut (tVar i) tk te D σ H :=
  h H (Ex.refl H) _ fun H1 v l e1 p1 hv hx => ⟨_, hs, hk H1 H1 (Ex.refl H1) _ fun H2 e2 => by
    have st2 := (st.ex e1 p1).ex (ExB.of e2) (p1.ex e2)
    obtain ⟨f, hf, _⟩ := id st2.d
    exact ⟨d, _, rfl, .inl ⟨_, .inr p.s, hf, rfl, by rw [List.length_map, sizeLine_eq]; omega, rfl⟩, k _ l hx (st2.over hp (hv.ex e2) hf)⟩⟩
end
end My
namespace My
open PySem PySem.Spec PyProof.Rows L2 GL Evl StX SkE
/-! ### books of holds in any sequence; what a book tells -/
def nrm (us : Rw) : Rw := kindRows.filter fun k => decide (k ∈ us)
def rN (r : Ru) : Ru := { r with holds := nrm r.holds }
structure OkN (r : Ru) : Prop where
  k : Ok (rN r)
  nd : r.holds.Nodup
  w : pW r.holds kindRows = true
theorem rN_get {r : Ru} {p : Pt} (h : ¬ p = .holds) : (rN r).get p = r.get p := by
  cases p <;> first | rfl | exact absurd rfl h
theorem rN_row {r : Ru} {p : Pt} (h : p ∈ rowKs) : (rN r).get p = r.get p := rN_get fun e => by
  subst e
  revert h
  decide
theorem nd_len : ∀ (ks us : Rw), us.Nodup → us ⊆ ks → us.length ≤ ks.length
  | [], us, _, h => by
    cases us with
    | nil => exact Nat.le_refl _
    | cons u us => exact absurd (h List.mem_cons_self) List.not_mem_nil
  | k :: ks, us, nd, h => by
    have z := nd_len ks (us.erase k) (nd.erase k) fun u hu => by
      obtain ⟨n, m⟩ := nd.mem_erase_iff.mp hu
      exact (List.mem_cons.mp (h m)).resolve_left n
    rw [List.length_erase] at z
    rw [List.length_cons]
    split at z <;> omega
theorem pW_len {us : Rw} (nd : us.Nodup) (h : pW us kindRows = true) : us.length ≤ 4 := nd_len kindRows us nd fun u hu => of_decide_eq_true (List.all_eq_true.mp h u hu)
theorem nrm_of {us : Rw} (h : us.Sublist kindRows) : nrm us = us := holds_sorted h
theorem nrm_sub (us : Rw) : (nrm us).Sublist kindRows := List.filter_sublist
theorem Ok.n {r : Ru} (h : Ok r) : OkN r := by
  have e : rN r = r := by
    unfold rN
    rw [nrm_of h.h]
  exact ⟨by rw [e]; exact h, holds_nd h.h, pW_kinds h.h⟩
theorem rN_ok {r : Ru} (h : Ok r) : rN r = r := by
  unfold rN
  rw [nrm_of h.h]
def sp_choldsN (K : PySem.W.Frag) : Sp := fun vs H Q _ => ∃ a, ∃ us : Rw, vs = [.ref a] ∧ RowAt K H a us ∧ us.Nodup ∧ pW us kindRows = true ∧ RetV .non H Q
def sp_BinitN (K : PySem.W.Frag) (C : Addr) : Sp := fun vs H Q _ => ∃ H0 x dx r, ∃ f : Pt → V, vs = .ref x :: bookKs.map f ∧ Ex H0 H ∧ H0 x = none ∧ H x = some (.ins C dx []) ∧ (∀ p, (r.get p).At K H0 (f p)) ∧ OkN r ∧ ∀ H', Ex H0 H' → BookNew K C H0 H' x (rN r) → Q .non H'
def sp_LbookN (K : PySem.W.Frag) (C : Addr) : Sp := fun vs H Q _ => ∃ d ks r, vs = [.ref d] ∧ DictAt K H d ks r ∧ (∀ p, p ∈ ks) ∧ OkN r ∧ ∀ H' b, H b = none → Ex H H' → BookNew K C H H' b (rN r) → Q (.ref b) H'
def sp_ckind : Sp := fun vs H Q _ => ∃ k : Wd, vs = [wV k] ∧ k ∈ kindRows ∧ RetV .non H Q
def sp_BrowF (K : PySem.W.Frag) (C : Addr) : Sp := fun vs H Q _ => ∃ b dx d p, ∃ f : Pt → V, vs = [.ref b, pV p] ∧ p ∈ rowPs ∧ H b = some (.ins C dx (bf d)) ∧ H d = some (.dK (kvs bookKs f)) ∧ RetV (f p) H Q
def sp_BpartG (p : Pt) (C : Addr) : Sp := fun vs H Q _ => ∃ b dx d, ∃ f : Pt → V, vs = [.ref b] ∧ H b = some (.ins C dx (bf d)) ∧ H d = some (.dK (kvs bookKs f)) ∧ RetV (f p) H Q
section
variable {P : Program} {w : World} {K : PySem.W.Frag} {mg : Str → Option Value} {base : Heap} {C : Addr} {H H' H0 H1 : Hp} {σ : L2.St} {te tb ta tc : TE} {tt : TT} {tA : TA} {E Er : XK} {D : Ends} {tz : TS} {a b d : Addr} {us : Rw} {xs ys : List V} {rs qs : List Rw} {ks : List Pt} {r l : Ru} {p : Pt} {v : V} {Q : VK}
theorem ok_check_holds (T : Txt K mg w) (G_is_list : FnG P w K mg base CX0 1 T.f_is_list T.fd_is_list ["value"] (sp_islist K)) (G_are_different_words : FnG P w K mg base CX0 2 T.f_are_different_words T.fd_are_different_words ["values", "words"] (sp_adw K)) : FnG P w K mg base CX0 3 T.f_check_holds T.fd_check_holds ["value"] (sp_choldsN K) := by
  skip
  refine okG T.F_check_holds sc_check_holds (fun vs H Q E h => ?_) (fun cdv A outer s H vs Q E gd hr h => ?_)
  · obtain ⟨_, _, rfl, _⟩ := h
    all_goals rfl
  · obtain ⟨a, us, rfl, ra, nd, hw, q⟩ := h
    refine ⟨_, (pss_one (ps_if ((pw_or (pt_not (pt_val (pc gd G_is_list (hr.mono (by decide)) (by rfl) T.m_is_list T.F_is_list.kp T.b_is_list .nil pass0 (pa_cons (pv 0) pa_nil)))) (pw_or1 (pt_not (pt_val (pc gd G_are_different_words (hr.mono (by decide)) (by rfl) T.m_are_different_words T.F_are_different_words.kp T.b_are_different_words .nil pass0 (pa_cons (pv 0) (pa_cons (pe_glob (v := .ref T.g_ROW_KINDS) (by rfl) T.m_ROW_KINDS rfl) pa_nil)))))))).pt (pss_one ps_never) pss_nil)), ?_⟩
    refine s_when (b := false) (et_or (a := false) (b := false) (et_not (a := true) (et_B (ev_call (ea_cons (ev_var rfl) ea_nil) fun H1 e1 Q q E => ⟨a, us, rfl, ra.ex e1, q⟩))) fun _ => et_not (a := true) (et_B (ev_is (ev_call (ea_cons (ev_var rfl) (ea_cons ev_c ea_nil)) (sv_adw ra (T.s_ROW_KINDS H) (ws := kindRows) nd (by have := pW_len nd hw; omega))) (congrArg V.bl hw)))) (fun z => nomatch z) fun _ H1 e1 => q H1 e1
theorem ok_Binit (T : Txt K mg w) (G_check_rows : FnG P w K mg base CX0 6 T.f_check_rows T.fd_check_rows ["rows"] (sp_crows K)) (G_check_fails : FnG P w K mg base CX0 2 T.f_check_fails T.fd_check_fails ["value"] sp_cfails) (G_check_bool : FnG P w K mg base CX0 1 T.f_check_bool T.fd_check_bool ["name", "value"] sp_cbool) (G_check_holds : FnG P w K mg base CX0 3 T.f_check_holds T.fd_check_holds ["value"] (sp_choldsN K)) (G_check_batch : FnG P w K mg base CX0 2 T.f_check_batch T.fd_check_batch ["value"] sp_cbatch) (G_fits_batch : FnG P w K mg base CX0 1 T.f_fits_batch T.fd_fits_batch ["row", "batch"] (sp_fitb K)) (G_fits_shared : FnG P w K mg base CX0 1 T.f_fits_shared T.fd_fits_shared ["row", "shared"] (sp_fits K)) : FnG P w K mg base CX0 7 T.f_Binit T.fd_Binit ["self", "take", "give", "move", "lift", "fails", "shared", "holds", "batch", "settles"] (sp_BinitN K T.C) := by
  skip
  refine okG T.F_Binit sc_Binit (fun vs H Q E h => ?_) (fun cdv A outer s H vs Q E gd hr h => ?_)
  · obtain ⟨_, _, _, _, _, rfl, _⟩ := h
    all_goals rfl
  · obtain ⟨H0, x, dx, r, f, rfl, e0, hx0, hx, hf, ok, q⟩ := h
    refine ⟨_, (pss_cons (ps_set (i := 10) sc_Binit.nd rfl (Or.inl rfl) (pe_disp (pps_cons pe_str (pv 1) (pps_cons pe_str (pv 2) (pps_cons pe_str (pv 3) (pps_cons pe_str (pv 4) pps_nil)))) rfl rfl (by simp) (by simp))) (pss_cons (ps_expr (pc gd G_check_rows (hr.mono (by decide)) (by rfl) T.m_check_rows T.F_check_rows.kp T.b_check_rows .nil pass0 (pa_cons (pv 10) pa_nil))) (pss_cons (ps_expr (pc gd G_check_fails (hr.mono (by decide)) (by rfl) T.m_check_fails T.F_check_fails.kp T.b_check_fails .nil pass0 (pa_cons (pv 5) pa_nil))) (pss_cons (ps_expr (pc gd G_check_bool (hr.mono (by decide)) (by rfl) T.m_check_bool T.F_check_bool.kp T.b_check_bool .nil pass0 (pa_cons pe_str (pa_cons (pv 6) pa_nil)))) (pss_cons (ps_expr (pc gd G_check_holds (hr.mono (by decide)) (by rfl) T.m_check_holds T.F_check_holds.kp T.b_check_holds .nil pass0 (pa_cons (pv 7) pa_nil))) (pss_cons (ps_expr (pc gd G_check_batch (hr.mono (by decide)) (by rfl) T.m_check_batch T.F_check_batch.kp T.b_check_batch .nil pass0 (pa_cons (pv 8) pa_nil))) (pss_cons (ps_expr (pc gd G_check_bool (hr.mono (by decide)) (by rfl) T.m_check_bool T.F_check_bool.kp T.b_check_bool .nil pass0 (pa_cons pe_str (pa_cons (pv 9) pa_nil)))) (pss_cons (ps_if (pt_not (pt_val (pc gd G_fits_batch (hr.mono (by decide)) (by rfl) T.m_fits_batch T.F_fits_batch.kp T.b_fits_batch .nil pass0 (pa_cons (pv 1) (pa_cons (pv 8) pa_nil))))) (pss_one ps_never) pss_nil) (pss_cons (ps_if (pt_not (pt_val (pc gd G_fits_shared (hr.mono (by decide)) (by rfl) T.m_fits_shared T.F_fits_shared.kp T.b_fits_shared .nil pass0 (pa_cons (pv 3) (pa_cons (pv 6) pa_nil))))) (pss_one ps_never) pss_nil) (pss_cons (ps_set (i := 11) sc_Binit.nd rfl (Or.inl rfl) (pe_callTy call_tuple_of (by rfl) T.z_tuple (by decide +kernel) (pa_cons (pe_lc (own := [("kind", 12)]) (g := gName 12) rfl sc_Binit.nd (pi_tup (pe_glob (v := .ref T.g_ROW_KINDS) (by rfl) T.m_ROW_KINDS rfl)) (blkOk_by (N := N_Binit) (sc := defScope s_Binit) (by decide +kernel)) (fun _ _ _ _ _ => (pg_name (i := 12) sc_Binit.nd rfl (Or.inl rfl) (Or.inr rfl))) (fun _ _ _ _ _ => pts_one (pt_cmpR (show OpR _ (compareOp .In) (rIn K false) from op_in_seq) (pv 12) (pv 7) (by rfl))) (fun _ _ _ _ _ => (pv 12))) pa_nil))) (pss_one (ps_fld (pv 0) (pe_starD (pv 10) (pps_cons pe_str (pv 5) (pps_cons pe_str (pv 6) (pps_cons pe_str (pv 11) (pps_cons pe_str (pv 8) (pps_cons pe_str (pv 9) pps_nil))))) rfl rfl (by simp) (by simp)) rfl)))))))))))), ?_⟩
    obtain ⟨at_, ta, xt⟩ := hf .take
    obtain ⟨am, tm, xm⟩ := hf .move
    obtain ⟨ah, th, xh⟩ := hf .holds
    have tfl : f .fails = wV r.fails := hf .fails
    have tsh : f .shared = .bl r.shared := hf .shared
    have tba : f .batch = nV r.batch := hf .batch
    have tse : f .settles = .bl r.settles := hf .settles
    -- rows
    refine q_asgR fun d hd => ?_
    refine ⟨f .take, rfl, f .give, rfl, f .move, rfl, f .lift, rfl, upd_same, kvs rowKs f, rfl, (by show 4 ≤ 15; omega), ?_⟩
    rw [made_kvs f (by decide)]
    have e1 : Ex H (upd (upd H d (.dK [])) d (.dK (kvs rowKs f))) := Ex.mut (Ex.new hd) hd
    have h1 : (upd (upd H d (.dK [])) d (.dK (kvs rowKs f))) d = some (.dK (kvs rowKs f)) := upd_same
    generalize upd (upd H d (.dK [])) d (.dK (kvs rowKs f)) = H1 at e1 h1
    have x1 := e0.trans e1
    have d1 : DictAt K H1 d rowKs (rN r) := ⟨f, h1, fun p hp => by rw [rN_row hp]; exact (hf p).ex x1⟩
    show tSeq _ _ _ _ H1
    refine q_drop (ev_call (ea_cons (ev_var rfl) ea_nil) (sv_crows d1 ok.k)) fun H2 e2 => ?_
    refine q_drop (ev_call (ea_cons (ev_is (ev_var rfl) tfl) ea_nil) (fun _ _ _ q _ => ⟨r.fails, rfl, ok.k.f, q⟩)) fun H3 e3 => ?_
    refine q_drop (ev_call (ea_cons ev_c (ea_cons (ev_is (ev_var rfl) tsh) ea_nil)) (fun _ _ _ q _ => ⟨_, r.shared, rfl, q⟩)) fun H4 e4 => ?_
    have x4 := x1.trans (e2.trans (e3.trans e4))
    refine q_drop (ev_call (ea_cons (ev_is (ev_var rfl) th) ea_nil) (fun _ e _ q _ => ⟨ah, r.holds, rfl, xh.ex (x4.trans e), ok.nd, ok.w, q⟩)) fun H5 e5 => ?_
    refine q_drop (ev_call (ea_cons (ev_is (ev_var rfl) tba) ea_nil) (fun _ e _ q _ => ⟨r.batch, rfl, ok.k.b.1, ok.k.b.2, q⟩)) fun H6 e6 => ?_
    refine q_drop (ev_call (ea_cons ev_c (ea_cons (ev_is (ev_var rfl) tse) ea_nil)) (fun _ _ _ q _ => ⟨_, r.settles, rfl, q⟩)) fun H7 e7 => ?_
    have x7 := x4.trans (e5.trans (e6.trans e7))
    have ne : r.take ≠ [] := fun z => by
      have := ok.k.t.2.1
      change pTake r.take = true at this
      rw [z] at this
      cases this
    refine q_when (b := false) (et_is (et_not (et_B (ev_call (ea_cons (ev_is (ev_var rfl) ta) (ea_cons (ev_is (ev_var rfl) tba) ea_nil)) (z := .bl (pBatch r.take r.batch)) (fun _ e _ q _ => ⟨at_, r.take, r.batch, rfl, xt.ex (x7.trans e), ne, q⟩)))) (by rw [show pBatch r.take r.batch = true from ok.k.t.2.2]; rfl)) (fun z => nomatch z) fun _ H8 e8 => ?_
    refine q_when (b := false) (et_is (et_not (et_B (ev_call (ea_cons (ev_is (ev_var rfl) tm) (ea_cons (ev_is (ev_var rfl) tsh) ea_nil)) (z := .bl (pShared r.move r.shared)) (fun _ e _ q _ => ⟨am, r.move, r.shared, rfl, xm.ex ((x7.trans e8).trans e), q⟩)))) (by rw [show pShared r.move r.shared = true from ok.k.m.2.2]; rfl)) (fun z => nomatch z) fun _ H9 e9 => ?_
    have x9 := (x7.trans e8).trans e9
    -- sorted_holds
    refine q_asgR (cb_L (el_lcW (us := kindRows) (fun k => decide (k ∈ r.holds)) wV ev_c (T.s_ROW_KINDS H9) (by show 4 ≤ 1000; omega) (fun _ => rfl) (fun u H10 e10 hu => et_test (ev_op (ev_var rfl) (ev_is (ev_var rfl) th) (rv_inW (xh.ex (x9.trans e10)).sq))) (fun u H10 e10 hu _ => ev_var rfl)) fun sl H10 hsl e10 h10 => ⟨sl, _, rfl, .inl ⟨sq_of h10, fun t ht => ?_⟩⟩)
    rw [show kindRows.filter (fun k => decide (k ∈ r.holds)) = nrm r.holds from rfl]
    have e11 := e10.trans (Ex.new (o := .tup ((nrm r.holds).map wV)) ht)
    have h11 : (upd H10 t (.tup ((nrm r.holds).map wV))) t = some (.tup ((nrm r.holds).map wV)) := upd_same
    generalize upd H10 t (.tup ((nrm r.holds).map wV)) = H11 at e11 h11
    have x11 := x9.trans e11
    have y11 : Ex H1 H11 := (e2.trans (e3.trans (e4.trans (e5.trans (e6.trans (e7.trans (e8.trans e9))))))).trans e11
    -- self._parts
    show sFld _ _ _ _ _ _ H11
    refine fun pn hpn => ⟨_, rfl, upd_same, d, kvs rowKs f, rfl, .inl (Ex.new hpn _ _ (y11 _ _ h1)), (ne_of_none (y11 _ _ h1) hpn).symm, (by show 4 ≤ 1000; omega), fun q2 nq hq => ?_⟩
    have nxp : x ≠ pn := fun z => by
      have := Ex.trans y11 (Ex.refl _) x _ (e1 _ _ hx)
      rw [z, hpn] at this
      cases this
    have hx11 : H11 x = some (.ins T.C dx []) := y11 _ _ (e1 _ _ hx)
    have nxq : x ≠ q2 := fun z => by
      have : (upd H11 pn (.dK [])) x = some (.ins T.C dx []) := by rw [upd_ne nxp]; exact hx11
      rw [z, hq] at this
      cases this
    have hq11 : H11 q2 = none := by rwa [upd_ne nq] at hq
    have e5k : kvs rowKs f = kvs rowKs (put f .holds (.ref t)) := List.map_congr_left fun p hp => by
      have : p ≠ .holds := fun z => by subst z; revert hp; decide
      unfold put
      rw [if_neg this]
    have mk : mergeK (kvs rowKs f) (mergeK [] (kvs [.fails, .shared, .holds, .batch, .settles] (put f .holds (.ref t)))) = kvs bookKs (put f .holds (.ref t)) := by
      rw [made_kvs _ (by decide), e5k]
      exact merge_kvs _ _ _ (by decide)
    refine ⟨f .fails, rfl, f .shared, rfl, .ref t, rfl, f .batch, rfl, f .settles, rfl, by rw [upd_ne nq.symm, upd_same], upd_same, kvs [.fails, .shared, .holds, .batch, .settles] (put f .holds (.ref t)), rfl, (by show 5 ≤ 15; omega), _, rfl, x, T.C, dx, [], rfl, by rw [upd_ne nxp, upd_ne nxq, upd_ne nxq, upd_ne nxp, upd_ne nxp]; exact hx11, T.c_Book, T.n_parts, (by show 0 < 1000; omega), ?_⟩
    rw [mk]
    have hp0 : H0 pn = none := fresh_back x11 hpn
    have hq0 : H0 q2 = none := fresh_back x11 hq11
    have z8 : ∀ {G : Hp}, Ex G H11 → G pn = none → G q2 = none → Ex G (upd (upd (upd (upd (upd H11 pn (.dK [])) pn (.dK (kvs rowKs f))) q2 (.dK [])) q2 (.dK (mergeK [] (kvs [.fails, .shared, .holds, .batch, .settles] (put f .holds (.ref t)))))) pn (.dK (kvs bookKs (put f .holds (.ref t))))) := fun g g1 g2 => Ex.mut (Ex.mut (Ex.mut (Ex.mut (Ex.mut g g1) g1) g2) g2) g1
    refine q _ (Ex.mut (z8 x11 hp0 hq0) hx0) ⟨dx, pn, hp0, ⟨upd_same, ⟨put f .holds (.ref t), by rw [upd_ne nxp.symm, upd_same], fun p _ => ?_⟩, ok.k⟩⟩
    by_cases hh : p = .holds
    · subst hh
      unfold put
      rw [if_pos rfl]
      exact ⟨t, rfl, (RowAt.tup (K := K) h11).exB ((ExB.of (z8 (Ex.refl _) hpn hq11)).trans ExB.set) (NoTup.ins hx11)⟩
    · unfold put
      rw [if_neg hh, rN_get hh]
      exact (hf p).ex (Ex.mut (z8 x11 hp0 hq0) hx0)
theorem ok_Lbook (T : Txt K mg w) (G_Binit : FnG P w K mg base CX0 7 T.f_Binit T.fd_Binit ["self", "take", "give", "move", "lift", "fails", "shared", "holds", "batch", "settles"] (sp_BinitN K T.C)) : FnG P w K mg base CX0 9 T.f_Lbook T.fd_Lbook ["_law_rules"] (sp_LbookN K T.C) := by
  skip
  refine okG T.F_Lbook sc_Lbook (fun vs H Q E h => ?_) (fun cdv A outer s H vs Q E gd hr h => ?_)
  · obtain ⟨_, _, _, rfl, _⟩ := h
    all_goals rfl
  · obtain ⟨d, ks, r, rfl, ⟨f, hf, hv⟩, hk, ok, q⟩ := h
    refine ⟨_, (pss_one (ps_ret (pkK gd T.mk_Book G_Binit (hr.mono (by decide)) (by rfl) T.m_Book T.k_Binit pass0 (pk_cons (pe_dget (hu_of hr) (pv 0) pe_str (fun _ _ => rfl)) (pk_cons (pe_dget (hu_of hr) (pv 0) pe_str (fun _ _ => rfl)) (pk_cons (pe_dget (hu_of hr) (pv 0) pe_str (fun _ _ => rfl)) (pk_cons (pe_dget (hu_of hr) (pv 0) pe_str (fun _ _ => rfl)) (pk_cons (pe_dget (hu_of hr) (pv 0) pe_str (fun _ _ => rfl)) (pk_cons (pe_dget (hu_of hr) (pv 0) pe_str (fun _ _ => rfl)) (pk_cons (pe_dget (hu_of hr) (pv 0) pe_str (fun _ _ => rfl)) (pk_cons (pe_dget (hu_of hr) (pv 0) pe_str (fun _ _ => rfl)) (pk_cons (pe_dget (hu_of hr) (pv 0) pe_str (fun _ _ => rfl)) pk_nil)))))))))))), ?_⟩
    have g : ∀ p : Pt, Ev (tDGet (tVar 0) (tC (.str p.s))) [some (.ref d)] H (f p) := fun p => ev_get (ev_var rfl) hf (hk p)
    have hea : EvA (tCons (tDGet (tVar 0) (tC (.str Pt.take.s))) (tCons (tDGet (tVar 0) (tC (.str Pt.give.s))) (tCons (tDGet (tVar 0) (tC (.str Pt.move.s))) (tCons (tDGet (tVar 0) (tC (.str Pt.lift.s))) (tCons (tDGet (tVar 0) (tC (.str Pt.fails.s))) (tCons (tDGet (tVar 0) (tC (.str Pt.shared.s))) (tCons (tDGet (tVar 0) (tC (.str Pt.holds.s))) (tCons (tDGet (tVar 0) (tC (.str Pt.batch.s))) (tCons (tDGet (tVar 0) (tC (.str Pt.settles.s))) tNil))))))))) [some (.ref d)] H (bookKs.map f) := ea_cons (g .take) (ea_cons (g .give) (ea_cons (g .move) (ea_cons (g .lift) (ea_cons (g .fails) (ea_cons (g .shared) (ea_cons (g .holds) (ea_cons (g .batch) (ea_cons (g .settles) ea_nil))))))))
    exact s_retR (hea H (Ex.refl H) _ fun H2 e2 => ⟨rfl, fun x dx hx hdx nd => ⟨H2, x, dx, r, f, rfl, (Ex.new hdx).trans (Ex.new (by rw [upd_ne nd.symm]; exact hx)), hx, upd_same, fun p => (hv p (hk p)).ex e2, ok, fun H' e' hb => ⟨rfl, q H' x (fresh_back e2 hx) (e2.trans e') (hb.old e2)⟩⟩⟩)
theorem ok_check_row_kind (T : Txt K mg w) (G_is_word : FnG P w K mg base CX0 1 T.f_is_word T.fd_is_word ["value", "words"] (sp_isword K)) : FnG P w K mg base CX0 2 T.f_check_row_kind T.fd_check_row_kind ["value"] sp_ckind := by
  skip
  refine okG T.F_check_row_kind sc_check_row_kind (fun vs H Q E h => ?_) (fun cdv A outer s H vs Q E gd hr h => ?_)
  · obtain ⟨_, rfl, _⟩ := h
    all_goals rfl
  · obtain ⟨k, rfl, hk, q⟩ := h
    refine ⟨_, (pss_one (ps_if (pt_not (pt_val (pc gd G_is_word (hr.mono (by decide)) (by rfl) T.m_is_word T.F_is_word.kp T.b_is_word .nil pass0 (pa_cons (pv 0) (pa_cons (pe_glob (v := .ref T.g_ROW_KINDS) (by rfl) T.m_ROW_KINDS rfl) pa_nil))))) (pss_one ps_never) pss_nil)), ?_⟩
    exact s_when (b := false) (et_not (et_B (ev_is (ev_call (ea_cons (ev_var rfl) (ea_cons ev_c ea_nil)) (show SpV (sp_isword K) [wV k, .ref T.g_ROW_KINDS] H (.bl (decide (k ∈ kindRows))) from fun _ e _ q _ => ⟨k, _, kindRows, rfl, T.s_ROW_KINDS _, q⟩)) (cbl (decide_eq_true hk))))) (fun z => nomatch z) fun _ H1 e1 => q H1 e1
theorem ok_Brow (T : Txt K mg w) (G_check_row_kind : FnG P w K mg base CX0 2 T.f_check_row_kind T.fd_check_row_kind ["value"] sp_ckind) : FnG P w K mg base CX0 3 T.f_Brow T.fd_Brow ["self", "kind"] (sp_BrowF K T.C) := by
  skip
  refine okG T.F_Brow sc_Brow (fun vs H Q E h => ?_) (fun cdv A outer s H vs Q E gd hr h => ?_)
  · obtain ⟨_, _, _, _, _, rfl, _⟩ := h
    all_goals rfl
  · obtain ⟨b, dx, d, p, f, rfl, hp, hb, hd, q⟩ := h
    refine ⟨_, (pss_cons (ps_expr (pc gd G_check_row_kind (hr.mono (by decide)) (by rfl) T.m_check_row_kind T.F_check_row_kind.kp T.b_check_row_kind .nil pass0 (pa_cons (pv 1) pa_nil))) (pss_one (ps_ret (pe_dget (hu_of hr) (pe_fld (pv 0) rfl) (pv 1) (fun _ _ => rfl))))), ?_⟩
    obtain ⟨k, hk, ek⟩ : ∃ k, k ∈ kindRows ∧ pV p = wV k := by
      simp only [rowPs, List.mem_cons, List.not_mem_nil, or_false] at hp
      rcases hp with rfl | rfl | rfl | rfl
      · exact ⟨.take, by decide, rfl⟩
      · exact ⟨.give, by decide, rfl⟩
      · exact ⟨.move, by decide, rfl⟩
      · exact ⟨.lift, by decide, rfl⟩
    refine q_dropR ⟨_, rfl, k, by rw [ek]; rfl, hk, fun H1 e1 => ?_⟩
    exact s_ret (ev_getK (ev_fld (ev_var (v := .ref b) rfl) (e1 _ _ hb) T.c_Book T.n_parts (bf_parts d)) (ev_var rfl) (e1 _ _ hd) (bookKs_mem p)) fun H2 e2 => q H2 (e1.trans e2)
theorem ok_Bfails (T : Txt K mg w)  : FnG P w K mg base CX0 1 T.f_Bfails T.fd_Bfails ["self"] (sp_BpartG .fails T.C) := by
  skip
  refine okG T.F_Bfails sc_Bfails (fun vs H Q E h => ?_) (fun cdv A outer s H vs Q E gd hr h => ?_)
  · obtain ⟨_, _, _, _, rfl, _⟩ := h
    all_goals rfl
  · obtain ⟨b, dx, d, f, rfl, hb, hd, q⟩ := h
    refine ⟨_, (pss_one (ps_ret (pe_dget (hu_of hr) (pe_fld (pv 0) rfl) pe_str (fun _ _ => rfl)))), ?_⟩
    exact s_ret (ev_get (p := .fails) (ev_fld (ev_var (v := .ref b) rfl) hb T.c_Book T.n_parts (bf_parts d)) hd (bookKs_mem _)) q
theorem ok_Bbatch (T : Txt K mg w)  : FnG P w K mg base CX0 1 T.f_Bbatch T.fd_Bbatch ["self"] (sp_BpartG .batch T.C) := by
  skip
  refine okG T.F_Bbatch sc_Bbatch (fun vs H Q E h => ?_) (fun cdv A outer s H vs Q E gd hr h => ?_)
  · obtain ⟨_, _, _, _, rfl, _⟩ := h
    all_goals rfl
  · obtain ⟨b, dx, d, f, rfl, hb, hd, q⟩ := h
    refine ⟨_, (pss_one (ps_ret (pe_dget (hu_of hr) (pe_fld (pv 0) rfl) pe_str (fun _ _ => rfl)))), ?_⟩
    exact s_ret (ev_get (p := .batch) (ev_fld (ev_var (v := .ref b) rfl) hb T.c_Book T.n_parts (bf_parts d)) hd (bookKs_mem _)) q
theorem ok_Bholds (T : Txt K mg w)  : FnG P w K mg base CX0 1 T.f_Bholds T.fd_Bholds ["self"] (sp_BpartG .holds T.C) := by
  skip
  refine okG T.F_Bholds sc_Bholds (fun vs H Q E h => ?_) (fun cdv A outer s H vs Q E gd hr h => ?_)
  · obtain ⟨_, _, _, _, rfl, _⟩ := h
    all_goals rfl
  · obtain ⟨b, dx, d, f, rfl, hb, hd, q⟩ := h
    refine ⟨_, (pss_one (ps_ret (pe_dget (hu_of hr) (pe_fld (pv 0) rfl) pe_str (fun _ _ => rfl)))), ?_⟩
    exact s_ret (ev_get (p := .holds) (ev_fld (ev_var (v := .ref b) rfl) hb T.c_Book T.n_parts (bf_parts d)) hd (bookKs_mem _)) q
theorem ok_Bsettles (T : Txt K mg w)  : FnG P w K mg base CX0 1 T.f_Bsettles T.fd_Bsettles ["self"] (sp_BpartG .settles T.C) := by
  skip
  refine okG T.F_Bsettles sc_Bsettles (fun vs H Q E h => ?_) (fun cdv A outer s H vs Q E gd hr h => ?_)
  · obtain ⟨_, _, _, _, rfl, _⟩ := h
    all_goals rfl
  · obtain ⟨b, dx, d, f, rfl, hb, hd, q⟩ := h
    refine ⟨_, (pss_one (ps_ret (pe_dget (hu_of hr) (pe_fld (pv 0) rfl) pe_str (fun _ _ => rfl)))), ?_⟩
    exact s_ret (ev_get (p := .settles) (ev_fld (ev_var (v := .ref b) rfl) hb T.c_Book T.n_parts (bf_parts d)) hd (bookKs_mem _)) q
theorem ok_Bshared (T : Txt K mg w)  : FnG P w K mg base CX0 1 T.f_Bshared T.fd_Bshared ["self"] (sp_BpartG .shared T.C) := by
  skip
  refine okG T.F_Bshared sc_Bshared (fun vs H Q E h => ?_) (fun cdv A outer s H vs Q E gd hr h => ?_)
  · obtain ⟨_, _, _, _, rfl, _⟩ := h
    all_goals rfl
  · obtain ⟨b, dx, d, f, rfl, hb, hd, q⟩ := h
    refine ⟨_, (pss_one (ps_ret (pe_dget (hu_of hr) (pe_fld (pv 0) rfl) pe_str (fun _ _ => rfl)))), ?_⟩
    exact s_ret (ev_get (p := .shared) (ev_fld (ev_var (v := .ref b) rfl) hb T.c_Book T.n_parts (bf_parts d)) hd (bookKs_mem _)) q
/-- b.shared .. -/
theorem ev_bpart {p : Pt} {b : Addr} {r : Ru} {te : TE} (hb : BookAt K C H b r) (h : Ev te σ H (.ref b)) : ∃ v, (r.get p).At K H v ∧ Ev (tProp C (sp_BpartG p C) [] Er te) σ H v := by
  obtain ⟨dx, d, pb⟩ := hb
  obtain ⟨f, hf, hfv⟩ := pb.di
  exact ⟨f p, hfv p (bookKs_mem p), fun H1 e1 Q q => h H1 e1 _ fun H2 e2 => ⟨b, dx, bf d, rfl, e2 _ _ (e1 _ _ pb.ob), b, dx, d, f, rfl, e2 _ _ (e1 _ _ pb.ob), e2 _ _ (e1 _ _ hf), fun H3 e3 => q H3 (e2.trans e3)⟩⟩
end
end My
namespace My
open PySem PySem.Spec PyProof.Rows L2 GL Evl StX SkE
/-! ### numbers in decimal, lines of words -/
def numT (n : Nat) : Str := Str.ofString (toString ((n : Nat) : Int))
inductive Spk : V → Str → Prop where
  | s (t : Str) : Spk (.str t) t
  | n (k : Nat) (h : k ≤ 50) : Spk (nV k) (numT k)
def nfB (n : Nat) : Bool := !Txt.startswith (numT n) "-" && !decide (numT n = "") && (numT n).cps.toList.all (fun c => decide (c ∈ (Str.ofString "0123456789").cps.toList)) && decide ((numT n).length ≤ 2) && !decide (numT n = "0") && (match (numT n).cps.toList with | c :: _ => !decide ((⟨#[c]⟩ : Str) = "0") | [] => false) && !decide (32 ∈ (numT n).cps.toList) && !decide (10 ∈ (numT n).cps.toList)
theorem nf_all {n : Nat} (h1 : 1 ≤ n) (h2 : n ≤ 50) : nfB n = true := by
  have go : ((List.range 51).all fun n => decide (n = 0) || nfB n) = true := by decide +kernel
  have h := List.all_eq_true.mp go n (List.mem_range.mpr (by omega))
  rw [decide_eq_false (by omega), Bool.false_or] at h
  exact h
structure NumF (n : Nat) : Prop where
  sw : Txt.startswith (numT n) "-" = false
  ne : ¬ numT n = ""
  dg : ∀ c ∈ (numT n).cps.toList, c ∈ (Str.ofString "0123456789").cps.toList
  ln : (numT n).length ≤ 2
  n0 : ¬ numT n = "0"
  hd : ∃ c r, (numT n).cps.toList = c :: r ∧ ¬ (⟨#[c]⟩ : Str) = "0"
  sp : 32 ∉ (numT n).cps.toList
  lf : 10 ∉ (numT n).cps.toList
theorem numF {n : Nat} (h1 : 1 ≤ n) (h2 : n ≤ 50) : NumF n := by
  have h := nf_all h1 h2
  unfold nfB at h
  simp only [Bool.and_eq_true, Bool.not_eq_true', decide_eq_true_eq, decide_eq_false_iff_not, List.all_eq_true] at h
  obtain ⟨⟨⟨⟨⟨⟨⟨a1, a2⟩, a3⟩, a4⟩, a5⟩, a6⟩, a7⟩, a8⟩ := h
  refine ⟨a1, a2, a3, a4, a5, ?_, a7, a8⟩
  cases e : (numT n).cps.toList with
  | nil => rw [e] at a6; cases a6
  | cons c r => rw [e] at a6; exact ⟨c, r, rfl, by simpa using a6⟩
theorem num_back {n : Nat} (h2 : n ≤ 50) : intText? (numT n) = some (n : Int) := TL.int_num (Nat.le_trans (TL.numL_len (k := 2) (by omega) (by omega)) (by omega))
theorem joinL_len (S : List Nat) : ∀ ps : List (List Nat), (TL.joinL S ps).length ≤ (ps.map List.length).sum + ps.length * S.length
  | [] => Nat.zero_le _
  | [p] => by
    show p.length ≤ _
    simp
  | p :: q :: r => by
    have ih := joinL_len S (q :: r)
    show (p ++ (S ++ TL.joinL S (q :: r))).length ≤ _
    rw [List.length_append, List.length_append, List.map_cons, List.sum_cons, List.length_cons (a := p), Nat.add_mul, Nat.one_mul]
    omega
theorem joinS_len {y : Str} {B : Nat} {ts : List Str} (h : ∀ t ∈ ts, t.length ≤ B) : (Str.join y ts).length ≤ ts.length * (B + y.length) := by
  have e : (Str.join y ts).length = (TL.joinL (TL.tl y) (ts.map TL.tl)).length := by rw [TL.len_tl, TL.tl_join]
  have h1 := joinL_len (TL.tl y) (ts.map TL.tl)
  have h2 := sum_len h
  have e2 : ((ts.map TL.tl).map List.length) = ts.map (·.length) := by
    rw [List.map_map]
    exact List.map_congr_left fun t _ => (TL.len_tl t).symm
  rw [e2, List.length_map, ← TL.len_tl] at h1
  rw [e, Nat.mul_add]
  omega
def sp_btw : Sp := fun vs H Q _ => ∃ i a b : Int, vs = [.int i, .int a, .int b] ∧ a ≤ i ∧ i ≤ b ∧ RetV (.bl true) H Q
def sp_isnum : Sp := fun vs H Q _ => ∃ n : Nat, vs = [.str (numT n)] ∧ 1 ≤ n ∧ n ≤ 50 ∧ RetV (.bl true) H Q
def lineT (ts : List Str) : Str := Str.join " " ts
def sp_line (K : PySem.W.Frag) : Sp := fun vs H Q _ => ∃ a, ∃ ts : List Str, ∃ xs : List V, vs = [.ref a] ∧ SqL K H a xs ∧ xs.length = ts.length ∧ (∀ (i : Nat) (x : V), xs[i]? = some x → ∃ t : Str, ts[i]? = some t ∧ Spk x t) ∧ ts.length ≤ 10 ∧ (∀ t ∈ ts, t.length ≤ 10) ∧ RetV (.str (lineT ts)) H Q
section
variable {P : Program} {w : World} {K : PySem.W.Frag} {mg : Str → Option Value} {base : Heap} {C : Addr} {H H' H0 H1 G : Hp} {σ : L2.St} {te tb ta tc tl : TE} {t tt : TT} {tA : TA} {E Er : XK} {D : Ends} {tz : TS} {a b d p : Addr} {us : Rw} {xs ys : List V} {rs qs : List Rw} {ks : List Pt} {r l : Ru} {v : V} {Q : VK} {j : Nat} {vs : List Nat} {s1 s2 z : Str}
theorem ev_sw (ha : Ev ta σ H (.str s1)) (hb : Ev tb σ H (.str s2)) : Ev (tM1 rSW ta tb) σ H (.bl (Txt.startswith s1 s2)) := fun H1 e Q q => ha H1 e _ fun H2 e2 => ⟨⟨s1, rfl⟩, hb H2 (e.trans e2) _ fun H3 e3 => ⟨s1, s2, rfl, rfl, q H3 (e2.trans e3)⟩⟩
theorem ev_joinN {zs : List Str} (ha : Ev ta σ H (.str s1)) (hb : EvL tb σ H (zs.map V.str)) (hz : (zs.map (·.length)).sum + zs.length * s1.length ≤ 16777216) :
    Ev (tM1 (fun x xs H Q => ∃ a p, ∃ ys : List Str, x = .str a ∧ xs = [.ref p] ∧ (SqL K H p (ys.map V.str) ∨ SqT K H p (ys.map V.str)) ∧ (ys.map (·.length)).sum + ys.length * a.length ≤ 16777216 ∧ Q (.str (Txt.join a ys)) H) ta tb) σ H (.str (Str.join s1 zs)) := fun H1 e Q q =>
  ha H1 e _ fun H2 e2 => ⟨⟨s1, rfl⟩, hb H2 (e.trans e2) _ fun p H3 hp e3 h3 => ⟨s1, p, zs, rfl, rfl, .inl (sq_of h3), hz, by rw [TL.join_eq]; exact q H3 (e2.trans e3)⟩⟩
theorem ev_joinV {zs : List Str} (ha : Ev ta σ H (.str s1)) (hb : Ev tb σ H (.ref p)) (hp : SqL K H p (zs.map V.str)) (hz : (zs.map (·.length)).sum + zs.length * s1.length ≤ 16777216) :
    Ev (tM1 (fun x xs H Q => ∃ a p, ∃ ys : List Str, x = .str a ∧ xs = [.ref p] ∧ (SqL K H p (ys.map V.str) ∨ SqT K H p (ys.map V.str)) ∧ (ys.map (·.length)).sum + ys.length * a.length ≤ 16777216 ∧ Q (.str (Txt.join a ys)) H) ta tb) σ H (.str (Str.join s1 zs)) := fun H1 e Q q =>
  ha H1 e _ fun H2 e2 => ⟨⟨s1, rfl⟩, hb H2 (e.trans e2) _ fun H3 e3 => ⟨s1, p, zs, rfl, rfl, .inl (ex_l ((e.trans e2).trans e3) hp), hz, by rw [TL.join_eq]; exact q H3 (e2.trans e3)⟩⟩
theorem el_lcS (f : Nat → Bool) (g : Nat → V) (h : Ev tl σ H (.str z)) (hz : z.cps.size ≤ 40000) (hw : ∀ x, wipe ((wipe σ vs).set j (some x)) vs = wipe σ vs)
    (ht : ∀ (i c : Nat) H1, Ex H H1 → z.cps[i]? = some c → EvT t ((wipe σ vs).set j (some (.str ⟨#[c]⟩))) H1 (f i)) (he : ∀ (i c : Nat) H1, Ex H H1 → z.cps[i]? = some c → f i = true → Ev te ((wipe σ vs).set j (some (.str ⟨#[c]⟩))) H1 (g i)) :
    EvL (tLc (iStr tl) (gName j) t te vs) σ H (given z.cps.size f g) := fun H0 e Q q => h H0 e _ fun H1 e1 => ⟨z, rfl, fun Dl hD =>
  lc_it (walk_str (z := z)) (Cw H1 f g Dl) ⟨hD, Ex.new hD, upd_same⟩ (fun _ _ _ _ => True.intro) (fun i x H' H2 hi p y => by
    obtain ⟨rfl, c, hc, rfl⟩ := y
    exact ⟨hw _, cw_turn p (by omega) (ht i c H1 (e.trans e1) hc) (fun hf => he i c H1 (e.trans e1) hc hf)⟩)
    (fun H' p => q Dl H' (fresh_back e1 p.1) (e1.trans p.2.1) p.2.2)⟩
theorem rv_sign {c : Nat} (h : c ∈ z.cps.toList) : RV (fun x y H Q => ∃ (c : Nat) (z : Str), x = .str ⟨#[c]⟩ ∧ y = .str z ∧ Q (.bl (decide (c ∈ z.cps.toList))) H) (.str ⟨#[c]⟩) (.str z) H (.bl true) := fun H1 _ Q q => ⟨c, z, rfl, rfl, by rw [decide_eq_true h]; exact q H1 (Ex.refl H1)⟩
theorem rv_ixS {c : Nat} {i : Int} (hz : z.length ≤ 1000) (h : atI z.cps.toList i = some c) : RV rIxS (.str z) (.int i) H (.str ⟨#[c]⟩) := fun H1 _ Q q => ⟨z, i, c, rfl, rfl, by rw [sizeLine_eq]; omega, h, q H1 (Ex.refl H1)⟩
theorem rc_strIS {x : V} {t : Str} (h : Spk x t) : RC rStrIS [x] H (.str t) := fun H1 _ Q q => by
  cases h with
  | s t => exact .inr ⟨t, rfl, q H1 (Ex.refl H1)⟩
  | n k hk => exact .inl ⟨(k : Int), rfl, by
      rw [Int.natAbs_natCast]
      by_cases e : k = 0
      · rw [e]
        decide
      · have := (Nat.log2_lt e (k := 17)).mpr (by omega)
        omega, q H1 (Ex.refl H1)⟩
theorem el_lcLM {α : Type} (l : List α) (h : α → V) (f : α → Bool) (g : α → V) (hv : Ev tl σ H (.ref a)) (hx : SqL K H a (l.map h)) (hz : l.length ≤ 1000) (hw : ∀ x, wipe ((wipe σ vs).set j (some x)) vs = wipe σ vs)
    (ht : ∀ u H1, Ex H H1 → u ∈ l → EvT t ((wipe σ vs).set j (some (h u))) H1 (f u)) (he : ∀ u H1, Ex H H1 → u ∈ l → f u = true → Ev te ((wipe σ vs).set j (some (h u))) H1 (g u)) :
    EvL (tLc (iList K tl) (gName j) t te vs) σ H ((l.filter f).map g) := by
  have item : ∀ {i : Nat} {x : V}, (l.map h)[i]? = some x → ∃ u, l[i]? = some u ∧ x = h u ∧ u ∈ l := fun {i x} hx => by
    rw [List.getElem?_map] at hx
    obtain ⟨u, hu, rfl⟩ := Option.map_eq_some_iff.mp hx
    exact ⟨u, hu, rfl, List.mem_of_getElem? hu⟩
  refine el_is (el_lcL (fun i => (l[i]?.map f).getD false) (fun i => (l[i]?.map g).getD .non) hv hx (by rw [List.length_map]; omega) hw (fun i x H1 e1 hi => ?_) (fun i x H1 e1 hi hp => ?_)) (by rw [List.length_map]; exact given_of l f g)
  · obtain ⟨u, hu, rfl, m⟩ := item hi
    rw [hu]
    exact ht u H1 e1 m
  · obtain ⟨u, hu, rfl, m⟩ := item hi
    rw [hu] at hp ⊢
    exact he u H1 e1 m hp
theorem ok_is_between (T : Txt K mg w) (G_is_an_integer : FnG P w K mg base CX0 1 T.f_is_an_integer T.fd_is_an_integer ["value"] sp_isint) : FnG P w K mg base CX0 2 T.f_is_between T.fd_is_between ["value", "least", "most"] sp_btw := by
  skip
  refine okG T.F_is_between sc_is_between (fun vs H Q E h => ?_) (fun cdv A outer s H vs Q E gd hr h => ?_)
  · obtain ⟨_, _, _, rfl, _⟩ := h
    all_goals rfl
  · obtain ⟨i, a0, b0, rfl, h1, h2, q⟩ := h
    refine ⟨_, (pss_one (ps_ret (pe_and (pc gd G_is_an_integer (hr.mono (by decide)) (by rfl) T.m_is_an_integer T.F_is_an_integer.kp T.b_is_an_integer .nil pass0 (pa_cons (pv 0) pa_nil)) (pe_one (pe_chain op_le op_le (pv 1) (pv 0) (pv 2)))))), ?_⟩
    exact s_ret (ev_is (ev_andV (a := true) (b := true) (ev_call (ea_cons (ev_var rfl) ea_nil) fun H1 e1 Q q E => ⟨i, rfl, q⟩) fun _ => ev_is (ev_chain (b := true) (c := true) (ev_var rfl) (ev_var rfl) (rv_bl rv_I0 (decide_eq_true h1)) (fun _ => ev_var rfl) fun _ => rv_bl rv_I0 (decide_eq_true h2)) rfl) rfl) q
theorem atI_zero {α : Type} {c : α} {r : List α} : atI (c :: r) 0 = some c := by
  unfold atI
  rw [show ixN (c :: r).length 0 = some 0 from ixN_nat (j := 0) (by rw [List.length_cons]; omega)]
  rfl
theorem all_rep (n : Nat) : (List.replicate n true).all id = true := by
  induction n with
  | zero => rfl
  | succ n ih => exact ih
theorem ok_is_numeral (T : Txt K mg w)  : FnG P w K mg base CX0 1 T.f_is_numeral T.fd_is_numeral ["word"] sp_isnum := by
  skip
  refine okG T.F_is_numeral sc_is_numeral (fun vs H Q E h => ?_) (fun cdv A outer s H vs Q E gd hr h => ?_)
  · obtain ⟨_, rfl, _⟩ := h
    all_goals rfl
  · obtain ⟨n, rfl, h1, h2, q⟩ := h
    refine ⟨_, (pss_cons (ps_set (i := 1) sc_is_numeral.nd rfl (Or.inl rfl) (pe_ifExp (pt_val (pe_startswith (pv 0) pe_str)) (pe_slice sl_str (pv 0) (po_some pe_int) po_none) (pv 0))) (pss_cons (ps_if ((pw_or (pt_cmpR op_eq (pv 1) pe_str (nomark _)) (pw_or1 (pt_not (pt_val (pe_callB (cr_all rfl) (by rfl) T.z_all boot_all (pa_cons (pe_lc (own := [("digit", 2)]) (g := gName 2) rfl sc_is_numeral.nd (show PI _ _ _ (iStr _) from pi_str (pv 1)) (blkOk_by (N := N_is_numeral) (sc := defScope s_is_numeral) (by decide +kernel)) (fun _ _ _ _ _ => (pg_name (i := 2) sc_is_numeral.nd rfl (Or.inl rfl) (Or.inr rfl))) (fun _ _ _ _ _ => pts_nil) (fun _ _ _ _ _ => (pe_cmpR op_in_sign (pv 2) (pe_glob (v := .str "0123456789") (by rfl) T.m_DIGITS ⟨_, rfl⟩) (by rfl)))) pa_nil))))))).pt (pss_one (ps_ret pe_bl)) pss_nil) (pss_one (ps_ret (pe_or (pe_cmpR op_eq (pv 0) pe_str (nomark _)) (pe_one (pe_cmpR op_ne (pe_ix ix_str (pv 1) pe_int (fun _ _ => rfl)) pe_str (nomark _)))))))), ?_⟩
    have nf := numF h1 h2
    refine q_asg (v := .str (numT n)) (ev_if (b := false) (et_B (ev_is (ev_sw (ev_var rfl) ev_c) (cbl nf.sw))) (fun z => nomatch z) fun _ => ev_var rfl) fun H1 e1 => ?_
    show tSeq _ _ _ [some (.str (numT n)), some (.str (numT n)), none] H1
    have sz : (numT n).cps.size ≤ 40000 := by
      have : (numT n).cps.size ≤ 2 := nf.ln
      omega
    refine q_when (b := false) (et_or (a := false) (b := false) (et_test (ev_is (ev_op (ev_var rfl) ev_c (rv_eq rfl)) (cbl (decide_eq_false fun z => nf.ne (V.str.inj z))))) fun _ => et_not (a := true) (et_B (ev_is (ev_allB (bs := List.replicate (numT n).cps.size true) (el_is (el_lcS (z := numT n) (fun _ => true) (fun _ => .bl true) (ev_var rfl) sz (fun _ => rfl) (fun _ _ _ _ _ => et_yes) (fun i c H2 e2 hc _ => ev_op (ev_var rfl) ev_c (rv_sign (nf.dg c (by
      have := List.mem_of_getElem? (l := (numT n).cps.toList) (i := i) (a := c) (by simpa using hc)
      exact this))))) (by rw [given_rep, List.map_replicate]))) (cbl (all_rep _))))) (fun z => nomatch z) fun _ H2 e2 => ?_
    obtain ⟨c, rr, ec, hc⟩ := nf.hd
    refine s_ret (ev_is (ev_orV (a := false) (b := true) (ev_is (ev_op (ev_var rfl) ev_c (rv_eq rfl)) (cbl (decide_eq_false fun z => nf.n0 (V.str.inj z)))) fun _ => ev_is (ev_op (ev_op (ev_var rfl) ev_c (rv_ixS (c := c) (by have := nf.ln; omega) (by rw [ec]; exact atI_zero))) ev_c (rv_ne rfl)) (by rw [decide_eq_false fun z => hc (V.str.inj z)]; rfl)) rfl) fun H3 e3 => q H3 ((e1.trans e2).trans e3)
theorem ok_line_from (T : Txt K mg w)  : FnG P w K mg base CX0 1 T.f_line_from T.fd_line_from ["parts"] (sp_line K) := by
  skip
  refine okG T.F_line_from sc_line_from (fun vs H Q E h => ?_) (fun cdv A outer s H vs Q E gd hr h => ?_)
  · obtain ⟨_, _, _, rfl, _⟩ := h
    all_goals rfl
  · obtain ⟨a, ts, xs, rfl, hs, hl, hx, h10, hb, q⟩ := h
    refine ⟨_, (pss_one (ps_ret (pe_join pe_str (pe_lc (own := [("part", 1)]) (g := gName 1) rfl sc_line_from.nd (pi_list (pv 0)) (blkOk_by (N := N_line_from) (sc := defScope s_line_from) (by decide +kernel)) (fun _ _ _ _ _ => (pg_name (i := 1) sc_line_from.nd rfl (Or.inl rfl) (Or.inr rfl))) (fun _ _ _ _ _ => pts_nil) (fun _ _ _ _ _ => (pe_callTy (show CallR _ (.type "str") rStrIS from call_strIS) (by rfl) T.z_str (by decide +kernel) (pa_cons (pv 1) pa_nil))))))), ?_⟩
    have sl := sum_len hb
    have c1 : (Str.ofString " ").length = 1 := by decide
    refine s_ret (ev_joinN (zs := ts) ev_c (el_is (el_lcL (xs := xs) (fun i => (ts[i]?.map fun _ => true).getD false) (fun i => (ts[i]?.map V.str).getD .non) (ev_var rfl) hs (by omega) (fun _ => rfl) (fun i x H1 e1 hi => ?_) (fun i x H1 e1 hi hp => ?_)) (by rw [hl, given_of ts (fun _ => true) V.str, filter_yes])) (by rw [c1]; omega)) q
    · obtain ⟨t, ht, hk⟩ := hx i x hi
      rw [ht]
      exact et_yes
    · obtain ⟨t, ht, hk⟩ := hx i x hi
      rw [ht]
      exact ev_cb (ea_cons (ev_var rfl) ea_nil) (rc_strIS hk)
end
end My
namespace My
open PySem PySem.Spec PyProof.Rows L2 GL Evl StX SkE
/-! ### the text of a book -/
def shW (b : Bool) : Str := if b then "shared" else "apart"
def seW (b : Bool) : Str := if b then "settles" else "stays"
def partWs (r : Ru) : Pt → List Str
  | .take => r.take.map Wd.s | .give => r.give.map Wd.s | .move => r.move.map Wd.s | .lift => r.lift.map Wd.s | .fails => [r.fails.s] | .holds => r.holds.map Wd.s | .batch => [numT r.batch] | _ => []
def linePs : List Pt := [.take, .give, .move, .lift, .fails, .holds, .batch]
def bkLines (r : Ru) : List Str := (linePs.map fun p => lineT (p.s :: partWs r p)) ++ [lineT [shW r.shared, seW r.settles]]
def lfL (l : Str) : Str := (Str.empty ++ l) ++ "\n"
def bkText (r : Ru) : Str := Str.join "" ((bkLines r).map lfL)
theorem wd_len (u : Wd) : u.s.length ≤ 6 := Wd.len u
theorem parts_len {r : Ru} (ok : Ok r) {p : Pt} : (partWs r p).length ≤ 6 ∧ ∀ t ∈ partWs r p, t.length ≤ 7 := by
  have row : ∀ us : Rw, us.length ≤ 6 → (us.map Wd.s).length ≤ 6 ∧ ∀ t ∈ us.map Wd.s, t.length ≤ 7 := fun us h => ⟨by rw [List.length_map]; exact h, fun t ht => by
    obtain ⟨u, _, rfl⟩ := List.mem_map.mp ht
    have := wd_len u
    omega⟩
  cases p with
  | take => exact row _ ok.t.1.ln
  | give => exact row _ ok.g.1.ln
  | move => exact row _ ok.m.1.ln
  | lift => exact row _ ok.l.1.ln
  | fails => exact ⟨by show 1 ≤ 6; omega, fun t ht => by
      rw [List.mem_singleton.mp ht]
      have := wd_len r.fails
      omega⟩
  | holds => exact row _ (by have := holds_ln ok.h; omega)
  | batch => exact ⟨by show 1 ≤ 6; omega, fun t ht => by
      rw [List.mem_singleton.mp ht]
      have := (numF ok.b.1 ok.b.2).ln
      omega⟩
  | shared => exact ⟨Nat.zero_le _, fun t ht => absurd ht List.not_mem_nil⟩
  | settles => exact ⟨Nat.zero_le _, fun t ht => absurd ht List.not_mem_nil⟩
theorem sh_len7 (b : Bool) : (shW b).length ≤ 7 := by cases b <;> decide +kernel
theorem se_len7 (b : Bool) : (seW b).length ≤ 7 := by cases b <;> decide +kernel
theorem line_len {ts : List Str} (h : ts.length ≤ 7) (hb : ∀ t ∈ ts, t.length ≤ 7) : (lineT ts).length ≤ 56 := by
  have := joinS_len (y := " ") hb
  have e : (Str.ofString " ").length = 1 := by decide
  unfold lineT
  rw [e] at this
  have : ts.length * (7 + 1) ≤ 56 := by omega
  omega
theorem pline_len {r : Ru} (ok : Ok r) (p : Pt) : (lineT (p.s :: partWs r p)).length ≤ 56 := line_len (by
    have := (parts_len ok (p := p)).1
    rw [List.length_cons]
    omega) fun t ht => by
    rcases List.mem_cons.mp ht with rfl | h
    · exact pt_len p
    · exact (parts_len ok).2 t h
theorem last_len (r : Ru) : (lineT [shW r.shared, seW r.settles]).length ≤ 56 := line_len (by show 2 ≤ 7; omega) fun t ht => by
  simp only [List.mem_cons, List.not_mem_nil, or_false] at ht
  rcases ht with rfl | rfl
  · exact sh_len7 _
  · exact se_len7 _
theorem lines_len {r : Ru} (ok : Ok r) : ∀ l ∈ bkLines r, l.length ≤ 56 := fun l hl => by
  rcases List.mem_append.mp hl with h | h
  · obtain ⟨p, _, rfl⟩ := List.mem_map.mp h
    exact pline_len ok p
  · rw [List.mem_singleton.mp h]
    exact last_len r
theorem lfs_len {r : Ru} (ok : Ok r) : ∀ l ∈ (bkLines r).map lfL, l.length ≤ 60 := fun l hl => by
  obtain ⟨x, hx, rfl⟩ := List.mem_map.mp hl
  have := lines_len ok x hx
  unfold lfL
  rw [Str.length_append, Str.length_append]
  have e1 : Str.empty.length = 0 := rfl
  have e2 : (Str.ofString "\n").length = 1 := by decide
  omega
def sp_textof (K : PySem.W.Frag) (C : Addr) : Sp := fun vs H Q _ => ∃ b r, vs = [.ref b] ∧ BookAt K C H b r ∧ RetV (.str (bkText r)) H Q
section
variable {P : Program} {w : World} {K : PySem.W.Frag} {mg : Str → Option Value} {base : Heap} {C : Addr} {H H' H0 H1 G : Hp} {σ : L2.St} {te tb ta tc tl : TE} {t tt : TT} {tA : TA} {E Er : XK} {D : Ends} {tz : TS} {a b d p : Addr} {us : Rw} {xs ys : List V} {rs qs : List Rw} {ks : List Pt} {r l : Ru} {v : V} {Q : VK} {j : Nat} {vs : List Nat} {s1 s2 z : Str}
def rowW (r : Ru) : Wd → Rw
  | .take => r.take
  | .give => r.give
  | .move => r.move
  | _ => r.lift
theorem rc_intB {k : Bool} : RC (fun xs H Q => (∃ i, xs = [.int i] ∧ Q (.int i) H) ∨ ∃ k, xs = [.bl k] ∧ Q (.int (if k then 1 else 0)) H) [.bl k] H (.int (if k then 1 else 0)) := fun H1 _ Q q => .inr ⟨k, rfl, q H1 (Ex.refl H1)⟩
theorem atI_two {x y : V} {k : Bool} : atI [x, y] (if k then 1 else 0) = some (if k then y else x) := by
  cases k <;> rfl
theorem q_appX {i : Nat} (hσ : σ[i]? = some (some (.ref p))) (hp : G p = some (.lst xs)) (hl : xs.length ≤ 1000) (he : Ev te σ G v) (k : ∀ G', ExB p G G' → G' p = some (.lst (xs ++ [v])) → tz D σ G') : tSeq (tDrop (tBM K "list" rAppend (tVar i) (tCons te tNil))) tz D σ G :=
  ⟨_, hσ, .inl ⟨rfl, _, sq_of hp⟩, he G (Ex.refl G) _ fun G1 e1 => ⟨p, xs, v, rfl, rfl, e1 _ _ hp, by rw [sizeLine_eq]; omega, k _ (fun b o n hb => by rw [upd_ne n]; exact e1 _ _ hb) upd_same⟩⟩
theorem ea_starX {tr : TA} (h : Ev te σ H (.ref a)) (hs : SqT K H a xs) (hr : EvA tr σ H ys) : EvA (tStar K te tr) σ H (xs ++ ys) := fun H1 e Q q =>
  h H1 e _ fun H2 e2 => ⟨a, xs, rfl, .inl (ex_t (e.trans e2) hs), hr H2 (e.trans e2) _ fun H3 e3 => q H3 (e2.trans e3)⟩
/-- line_from of words in a display -/
theorem ev_line {ts : List Str} (h : EvA tA σ H xs) (hl : xs.length = ts.length) (hx : ∀ (i : Nat) (x : V), xs[i]? = some x → ∃ t : Str, ts[i]? = some t ∧ Spk x t) (h10 : ts.length ≤ 10) (hb : ∀ t ∈ ts, t.length ≤ 10) : Ev (tCall (sp_line K) [] Er (tCons (tLst tA) tNil)) σ H (.str (lineT ts)) := fun H1 e Q q =>
  cons1_raw ((el_lst h (by omega) : EvL _ σ H xs) H1 e _ fun p H2 hp e2 h2 => ⟨p, ts, xs, rfl, sq_of h2, hl, hx, h10, hb, fun H3 e3 => q H3 (e2.trans e3)⟩)
theorem spk_words {z : Str} {ws : List Str} : ∀ (i : Nat) (x : V), ((V.str z) :: (ws.map V.str ++ []))[i]? = some x → ∃ t : Str, (z :: ws)[i]? = some t ∧ Spk x t := fun i x hx => by
  rw [List.append_nil, ← List.map_cons, List.getElem?_map] at hx
  obtain ⟨t, ht, rfl⟩ := Option.map_eq_some_iff.mp hx
  exact ⟨t, ht, .s t⟩
theorem spk_2 {x y : V} {s t : Str} (h1 : Spk x s) (h2 : Spk y t) : ∀ (i : Nat) (v : V), [x, y][i]? = some v → ∃ u : Str, [s, t][i]? = some u ∧ Spk v u := fun i v hv => by
  match i with
  | 0 => exact ⟨s, rfl, by rw [← Option.some.inj hv]; exact h1⟩
  | 1 => exact ⟨t, rfl, by rw [← Option.some.inj hv]; exact h2⟩
  | n + 2 => exact absurd hv (by simp)
theorem ev_brow {pt : Pt} (hb : BookAt K C H b r) (hp : pt ∈ rowPs) : ∃ a, RowX K H a (rowPt pt r) ∧ ∀ {ta tb : TE} {σ : L2.St} {H' : Hp} {Er : XK}, Ex H H' → Ev ta σ H' (.ref b) → Ev tb σ H' (pV pt) → Ev (tMeth C (Str.ofString "row") (sp_BrowF K C) [] Er ta (tCons tb tNil)) σ H' (.ref a) := by
  obtain ⟨dx, d, pb⟩ := id hb
  obtain ⟨f, hf, hfv⟩ := pb.di
  obtain ⟨a, ea, ra⟩ : ∃ a, f pt = .ref a ∧ RowX K H a (rowPt pt r) := by
    have h := hfv pt (bookKs_mem pt)
    simp only [rowPs, List.mem_cons, List.not_mem_nil, or_false] at hp
    rcases hp with rfl | rfl | rfl | rfl <;> exact h
  refine ⟨a, ra, fun {ta tb σ H' Er} e h1 h2 H1 e1 Q q => meth_raw (h1.mono e1) fun H2 e2 => ⟨dx, bf d, e2 _ _ (e1 _ _ (e _ _ pb.ob)), bf_no d (by decide +kernel), ?_⟩⟩
  exact (ea_cons (h2.mono (e1.trans e2)) ea_nil : EvA _ _ _ [pV pt]) H2 (Ex.refl H2) _ fun H3 e3 => ⟨b, dx, d, pt, f, rfl, hp, e3 _ _ (e2 _ _ (e1 _ _ (e _ _ pb.ob))), e3 _ _ (e2 _ _ (e1 _ _ (e _ _ hf))), fun H4 e4 => by
    rw [ea]
    exact q H4 ((e2.trans e3).trans e4)⟩
theorem ok_text_of (T : Txt K mg w) (G_line_from : FnG P w K mg base CX0 1 T.f_line_from T.fd_line_from ["parts"] (sp_line K)) (G_Brow : FnG P w K mg base CX0 3 T.f_Brow T.fd_Brow ["self", "kind"] (sp_BrowF K T.C)) (G_Bfails : FnG P w K mg base CX0 1 T.f_Bfails T.fd_Bfails ["self"] (sp_BpartG .fails T.C)) (G_Bholds : FnG P w K mg base CX0 1 T.f_Bholds T.fd_Bholds ["self"] (sp_BpartG .holds T.C)) (G_Bbatch : FnG P w K mg base CX0 1 T.f_Bbatch T.fd_Bbatch ["self"] (sp_BpartG .batch T.C)) (G_Bshared : FnG P w K mg base CX0 1 T.f_Bshared T.fd_Bshared ["self"] (sp_BpartG .shared T.C)) (G_Bsettles : FnG P w K mg base CX0 1 T.f_Bsettles T.fd_Bsettles ["self"] (sp_BpartG .settles T.C)) : FnG P w K mg base CX0 4 T.f_text_of T.fd_text_of ["book"] (sp_textof K T.C) := by
  skip
  refine okG T.F_text_of sc_text_of (fun vs H Q E h => ?_) (fun cdv A outer s H vs Q E gd hr h => ?_)
  · obtain ⟨_, _, rfl, _⟩ := h
    all_goals rfl
  · obtain ⟨b, r, rfl, hb, q⟩ := h
    refine ⟨_, (pss_cons (ps_setLc (i := 1) (own := [("kind", 2)]) (g := gName 2) rfl sc_text_of.nd rfl rfl (sw_true rfl rfl rfl (by decide +kernel)) (pi_tup (pe_glob (v := .ref T.g_ROW_KINDS) (by rfl) T.m_ROW_KINDS rfl)) (blkOk_by (N := N_text_of) (sc := defScope s_text_of) (by decide +kernel)) (fun _ _ _ _ _ => (pg_name (i := 2) sc_text_of.nd rfl (Or.inl rfl) (Or.inr rfl))) (fun _ _ _ _ _ => pts_nil) (fun _ _ _ _ _ => (pc gd G_line_from (hr.mono (by decide)) (by rfl) T.m_line_from T.F_line_from.kp T.b_line_from .nil pass0 (pa_cons (pe_lst (pa_cons (pv 2) (show PA _ _ (tStar K _ _) from pa_star (pm gd (pv 0) T.c_Book T.M_Brow G_Brow (hr.mono (by decide)) T.b_Brow .nil pass0 (pa_cons (pv 2) pa_nil)) pa_nil))) pa_nil)))) (pss_cons (ps_expr (pe_bm PySem.F.plainAttrs_list PySem.F.slot_list_append PySem.F.type_list_append mt_append (pv 1) (pa_cons (pc gd G_line_from (hr.mono (by decide)) (by rfl) T.m_line_from T.F_line_from.kp T.b_line_from .nil pass0 (pa_cons (pe_lst (pa_cons pe_str (pa_cons (pgP gd (pv 0) T.c_Book T.P_Bfails G_Bfails (hr.mono (by decide)) T.b_Bfails .nil pass0) pa_nil))) pa_nil)) pa_nil))) (pss_cons (ps_expr (pe_bm PySem.F.plainAttrs_list PySem.F.slot_list_append PySem.F.type_list_append mt_append (pv 1) (pa_cons (pc gd G_line_from (hr.mono (by decide)) (by rfl) T.m_line_from T.F_line_from.kp T.b_line_from .nil pass0 (pa_cons (pe_lst (pa_cons pe_str (pa_star (pgP gd (pv 0) T.c_Book T.P_Bholds G_Bholds (hr.mono (by decide)) T.b_Bholds .nil pass0) pa_nil))) pa_nil)) pa_nil))) (pss_cons (ps_expr (pe_bm PySem.F.plainAttrs_list PySem.F.slot_list_append PySem.F.type_list_append mt_append (pv 1) (pa_cons (pc gd G_line_from (hr.mono (by decide)) (by rfl) T.m_line_from T.F_line_from.kp T.b_line_from .nil pass0 (pa_cons (pe_lst (pa_cons pe_str (pa_cons (pgP gd (pv 0) T.c_Book T.P_Bbatch G_Bbatch (hr.mono (by decide)) T.b_Bbatch .nil pass0) pa_nil))) pa_nil)) pa_nil))) (pss_cons (ps_expr (pe_bm PySem.F.plainAttrs_list PySem.F.slot_list_append PySem.F.type_list_append mt_append (pv 1) (pa_cons (pc gd G_line_from (hr.mono (by decide)) (by rfl) T.m_line_from T.F_line_from.kp T.b_line_from .nil pass0 (pa_cons (pe_lst (pa_cons (pe_ix ix_tup (pe_glob (v := .ref T.g_SHARED_WORDS) (by rfl) T.m_SHARED_WORDS rfl) (pe_callTy call_int1 (by rfl) T.z_int (by decide +kernel) (pa_cons (pgP gd (pv 0) T.c_Book T.P_Bshared G_Bshared (hr.mono (by decide)) T.b_Bshared .nil pass0) pa_nil)) (fun _ _ => rfl)) (pa_cons (pe_ix ix_tup (pe_glob (v := .ref T.g_SETTLES_WORDS) (by rfl) T.m_SETTLES_WORDS rfl) (pe_callTy call_int1 (by rfl) T.z_int (by decide +kernel) (pa_cons (pgP gd (pv 0) T.c_Book T.P_Bsettles G_Bsettles (hr.mono (by decide)) T.b_Bsettles .nil pass0) pa_nil)) (fun _ _ => rfl)) pa_nil))) pa_nil)) pa_nil))) (pss_one (ps_ret (pe_join pe_str (pe_lc (own := [("line", 3)]) (g := gName 3) rfl sc_text_of.nd (pi_list (pv 1)) (blkOk_by (N := N_text_of) (sc := defScope s_text_of) (by decide +kernel)) (fun _ _ _ _ _ => (pg_name (i := 3) sc_text_of.nd rfl (Or.inl rfl) (Or.inr rfl))) (fun _ _ _ _ _ => pts_nil) (fun _ _ _ _ _ => (pe_joined (.cons (pe_fmt (pv 3)) (.cons pe_str .nil))))))))))))), ?_⟩
    have ok : Ok r := by
      obtain ⟨_, _, pb⟩ := hb
      exact pb.ok
    refine q_asgR ((el_lcW (us := kindRows) (fun _ => true) (fun u => .str (lineT (u.s :: (rowW r u).map Wd.s))) ev_c (T.s_ROW_KINDS H) (by show 4 ≤ 1000; omega) (fun _ => rfl) (fun u H1 e1 hu => et_yes) (fun u H1 e1 hu _ => ?_)) H (Ex.refl H) _ fun p H1 hp e1 h1 => ?_)
    · obtain ⟨p0, hp0, e0, g0⟩ : ∃ p0 : Pt, p0 ∈ rowPs ∧ wV u = pV p0 ∧ rowPt p0 r = rowW r u := by
        simp only [kindRows, List.mem_cons, List.not_mem_nil, or_false] at hu
        rcases hu with rfl | rfl | rfl | rfl
        · exact ⟨.take, by decide, rfl, rfl⟩
        · exact ⟨.give, by decide, rfl, rfl⟩
        · exact ⟨.move, by decide, rfl, rfl⟩
        · exact ⟨.lift, by decide, rfl, rfl⟩
      obtain ⟨a, ra, hev⟩ := ev_brow (hb.ex e1) hp0
      rw [g0] at ra
      have h6 : (rowW r u).length ≤ 6 := by
        cases u <;> first | exact ok.t.1.ln | exact ok.g.1.ln | exact ok.m.1.ln | exact ok.l.1.ln
      have sq := ra.sq
      rw [wV_strs] at sq
      refine ev_line (ea_cons (ev_var rfl) (ea_starX (hev (Ex.refl _) (ev_var rfl) (ev_is (ev_var rfl) e0)) sq ea_nil)) (by simp) spk_words (by rw [List.length_cons, List.length_map]; omega) fun t ht => ?_
      rcases List.mem_cons.mp ht with rfl | ht
      · have := wd_len u
        omega
      · obtain ⟨x, _, rfl⟩ := List.mem_map.mp ht
        have := wd_len x
        omega
    rw [filter_yes] at h1
    have h1' : H1 p = some (.lst (((linePs.take 4).map fun p => lineT (p.s :: partWs r p)).map V.str)) := h1
    have part : ∀ (pt : Pt) {G : Hp}, Ex H G → ∃ v, (r.get pt).At K G v ∧ Ev (tProp T.C (sp_BpartG pt T.C) [] E0 (tVar 0)) [some (.ref b), some (.ref p), none, none] G v := fun pt {G} e => ev_bpart (hb.ex e) (ev_var rfl)
    have ez : ∀ {G : Hp}, ExB p H1 G → Ex H G := fun {G} x c o hc => x c o (fun z => by rw [z, hp] at hc; cases hc) (e1 _ _ hc)
    show tSeq _ _ _ [some (.ref b), some (.ref p), none, none] H1
    obtain ⟨vf, f1, f2⟩ := part .fails e1
    obtain rfl : vf = wV r.fails := f1
    refine q_appX (K := K) rfl h1' (by simp [linePs]) (ev_line (ts := ["fails", r.fails.s]) (ea_cons ev_c (ea_cons f2 ea_nil)) rfl (spk_2 (.s _) (.s _)) (by show 2 ≤ 10; omega) ?_) fun G2 e2 h2 => ?_
    · intro t ht
      simp only [List.mem_cons, List.not_mem_nil, or_false] at ht
      rcases ht with rfl | rfl
      · decide +kernel
      · have := wd_len r.fails
        omega
    obtain ⟨vh, ⟨ah, rfl, rh⟩, g2⟩ := part .holds (ez e2)
    have sqh := rh.sq
    rw [wV_strs] at sqh
    have lh := holds_ln ok.h
    refine q_appX (K := K) rfl h2 (by simp [linePs]) (ev_line (ts := "holds" :: r.holds.map Wd.s) (ea_cons ev_c (ea_starX g2 sqh ea_nil)) (by simp) spk_words (by rw [List.length_cons, List.length_map]; omega) ?_) fun G3 e3 h3 => ?_
    · intro t ht
      rcases List.mem_cons.mp ht with rfl | ht
      · decide +kernel
      · obtain ⟨x, _, rfl⟩ := List.mem_map.mp ht
        have := wd_len x
        omega
    obtain ⟨vb, b1, b2⟩ := part .batch (ez (e2.trans e3))
    obtain rfl : vb = nV r.batch := b1
    refine q_appX (K := K) rfl h3 (by simp [linePs]) (ev_line (ts := ["batch", numT r.batch]) (ea_cons ev_c (ea_cons b2 ea_nil)) rfl (spk_2 (.s _) (.n _ ok.b.2)) (by show 2 ≤ 10; omega) ?_) fun G4 e4 h4 => ?_
    · intro t ht
      simp only [List.mem_cons, List.not_mem_nil, or_false] at ht
      rcases ht with rfl | rfl
      · decide +kernel
      · have := (numF ok.b.1 ok.b.2).ln
        omega
    obtain ⟨v1, c1, c2⟩ := part .shared (ez ((e2.trans e3).trans e4))
    obtain rfl : v1 = .bl r.shared := c1
    obtain ⟨v2, d1, d2⟩ := part .settles (ez ((e2.trans e3).trans e4))
    obtain rfl : v2 = .bl r.settles := d1
    refine q_appX (K := K) rfl h4 (by simp [linePs]) (ev_line (ts := [shW r.shared, seW r.settles]) (xs := [.str (shW r.shared), .str (seW r.settles)]) (ea_cons (ev_op ev_c (ev_cb (ea_cons c2 ea_nil) rc_intB) (rv_ixT (T.s_SHARED_WORDS _) (by rw [atI_two]; unfold shW; cases r.shared <;> rfl))) (ea_cons (ev_op ev_c (ev_cb (ea_cons d2 ea_nil) rc_intB) (rv_ixT (T.s_SETTLES_WORDS _) (by rw [atI_two]; unfold seW; cases r.settles <;> rfl))) ea_nil)) rfl (spk_2 (.s _) (.s _)) (by show 2 ≤ 10; omega) ?_) fun G5 e5 h5 => ?_
    · intro t ht
      simp only [List.mem_cons, List.not_mem_nil, or_false] at ht
      rcases ht with rfl | rfl
      · have := sh_len7 r.shared
        omega
      · have := se_len7 r.settles
        omega
    have x5 := ((e2.trans e3).trans e4).trans e5
    have hl : G5 p = some (.lst ((bkLines r).map V.str)) := h5
    have sl := sum_len (lfs_len ok)
    have n8 : ((bkLines r).map lfL).length = 8 := rfl
    have c0 : (Str.ofString "").length = 0 := by decide
    rw [n8] at sl
    refine s_ret (v := .str (bkText r)) (ev_joinN (zs := (bkLines r).map lfL) ev_c (el_is (el_lcLM (bkLines r) V.str (fun _ => true) (fun l => .str (lfL l)) (ev_var rfl) (sq_of hl) (by show 8 ≤ 1000; omega) (fun _ => rfl) (fun u H1 e1 hu => et_yes) (fun u H1 e1 hu _ => ?_)) (by rw [filter_yes, List.map_map]; rfl)) (by rw [n8, c0]; omega)) fun G6 e6 => q G6 ((ez x5).trans e6)
    intro J1 j1 Q1 q1
    have lu := lines_len ok u hu
    have h3 : Str.empty.length = 0 := rfl
    have h4 : (Str.ofString "\n").length = 1 := by decide
    exact ej_cons (ev_fmtS (ev_var rfl) (by omega)) (by rw [Str.length_append]; omega) fun J2 j2 => ej_cons ev_c (by rw [Str.length_append, Str.length_append]; omega) fun J3 j3 => q1 J3 (j2.trans j3)
end
end My
namespace My
open PySem PySem.Spec PyProof.Rows L2 GL Evl StX SkE
/-! ### the parts of a text, read -/
theorem partWs_row {r : Ru} {p : Pt} (h : p ∈ rowKs) : partWs r p = (rowOf r p).map Wd.s := by
  simp only [rowKs, List.mem_cons, List.not_mem_nil, or_false] at h
  rcases h with rfl | rfl | rfl | rfl <;> rfl
def sp_rholds (K : PySem.W.Frag) : Sp := fun vs H Q _ => ∃ a, ∃ us : Rw, vs = [.ref a] ∧ SqL K H a (us.map wV) ∧ us.Sublist kindRows ∧ ∀ H' p, Ex H H' → RowAt K H' p us → Q (.ref p) H'
def sp_rpart (K : PySem.W.Frag) : Sp := fun vs H Q _ => ∃ a p r, vs = [.str p.s, .ref a] ∧ p ∈ linePs ∧ Ok r ∧ SqL K H a ((partWs r p).map V.str) ∧ ∀ H' v, Ex H H' → (r.get p).At K H' v → Q v H'
section
variable {P : Program} {w : World} {K : PySem.W.Frag} {mg : Str → Option Value} {base : Heap} {C : Addr} {H H' H0 H1 G : Hp} {σ : L2.St} {te tb ta tc tl : TE} {t tt : TT} {tA : TA} {E Er : XK} {D : Ends} {tz : TS} {a b d : Addr} {us : Rw} {xs ys : List V} {rs qs : List Rw} {ks : List Pt} {r l : Ru} {v : V} {Q : VK} {j : Nat} {vs : List Nat} {s1 s2 z : Str}
theorem er_tupL (hs : SqL K H b (us.map wV)) (h : Ev te σ H (.ref b)) : EvR K (tCB (rTupX K) (tCons te tNil)) σ H us := fun H1 e Q q => h H1 e _ fun H2 e2 => ⟨b, us.map wV, rfl, ex_l (e.trans e2) hs, fun l o hl bo => q l _ (e2.trans (Ex.new hl)) (.fx upd_same bo)⟩
theorem rv_inWL {w : Wd} (h : SqL K H a (us.map wV)) : RV (rIn K false) (wV w) (.ref a) H (.bl (decide (w ∈ us))) := by
  have z := rv_isL (x := wV w) h rfl (flat_w us)
  rwa [inV_w] at z
theorem rv_inPT {p : Pt} {ps : List Pt} (h : SqT K H a (ps.map pV)) : RV (rIn K false) (pV p) (.ref a) H (.bl (decide (p ∈ ps))) := by
  have z := rv_isT (x := pV p) h rfl (flat_p ps)
  rwa [inV_p] at z
theorem rc_numT {n : Nat} (h : n ≤ 50) (h1 : 1 ≤ n) : RC (fun xs H Q => ∃ a n, xs = [.str a] ∧ PySem.intText? a = some n ∧ a.length ≤ 640 ∧ Q (.int n) H) [.str (numT n)] H (nV n) := fun H1 _ Q q => ⟨numT n, (n : Int), rfl, num_back h, by have := (numF h1 h).ln; omega, q H1 (Ex.refl H1)⟩
theorem ok_read_holds (T : Txt K mg w)  : FnG P w K mg base CX0 1 T.f_read_holds T.fd_read_holds ["words"] (sp_rholds K) := by
  skip
  refine okG T.F_read_holds sc_read_holds (fun vs H Q E h => ?_) (fun cdv A outer s H vs Q E gd hr h => ?_)
  · obtain ⟨_, _, rfl, _⟩ := h
    all_goals rfl
  · obtain ⟨a, us, rfl, ha, hs, q⟩ := h
    refine ⟨_, (pss_cons (ps_set (i := 1) sc_read_holds.nd rfl (Or.inl rfl) (pe_callTy (show CallR _ (.type "tuple") (rTupX K) from call_tupleX) (by rfl) T.z_tuple (by decide +kernel) (pa_cons (pe_lc (own := [("kind", 2)]) (g := gName 2) rfl sc_read_holds.nd (pi_tup (pe_glob (v := .ref T.g_ROW_KINDS) (by rfl) T.m_ROW_KINDS rfl)) (blkOk_by (N := N_read_holds) (sc := defScope s_read_holds) (by decide +kernel)) (fun _ _ _ _ _ => (pg_name (i := 2) sc_read_holds.nd rfl (Or.inl rfl) (Or.inr rfl))) (fun _ _ _ _ _ => pts_one (pt_cmpR (show OpR _ (compareOp .In) (rIn K false) from op_in_seq) (pv 2) (pv 0) (by rfl))) (fun _ _ _ _ _ => (pv 2))) pa_nil))) (pss_one (ps_ret (pe_ifExp (pt_cmpR (op_eqD (roomU hr)) (pv 1) (pe_callTy (show CallR _ (.type "tuple") (rTupX K) from call_tupleX) (by rfl) T.z_tuple (by decide +kernel) (pa_cons (pv 0) pa_nil)) (nomark _)) (pv 1) pe_non)))), ?_⟩
    refine q_asgR (cb_L (el_lcW (us := kindRows) (fun k => decide (k ∈ us)) wV ev_c (T.s_ROW_KINDS H) (by show 4 ≤ 1000; omega) (fun _ => rfl) (fun u H1 e1 hu => et_test (ev_op (ev_var rfl) (ev_var rfl) (rv_inWL (ex_l e1 ha)))) (fun u H1 e1 hu _ => ev_var rfl)) fun sl H1 hsl e1 h1 => ⟨sl, _, rfl, sq_of h1, fun t o ht bo => ?_⟩)
    rw [holds_sorted hs]
    have r2 : RowX K (upd H1 t (.frz o (.tup (us.map wV)))) t us := .fx upd_same bo
    have x2 : Ex H (upd H1 t (.frz o (.tup (us.map wV)))) := e1.trans (Ex.new ht)
    show tRet _ _ [some (.ref a), some (.ref t), none] (upd H1 t (.frz o (.tup (us.map wV))))
    generalize upd H1 t (.frz o (.tup (us.map wV))) = H2 at r2 x2 ⊢
    exact s_ret (v := .ref t) (ev_if (b := true) (et_test (ev_is (ev_eqW (ev_var rfl) r2 (er_tupL (ex_l x2 ha) (ev_var rfl))) (cbl (decide_eq_true rfl)))) (fun _ => ev_var rfl) (fun z => nomatch z)) fun H3 e3 => q H3 t (x2.trans e3) (r2.ex e3).at_
theorem ok_read_part (T : Txt K mg w) (G_is_row : FnG P w K mg base CX0 5 T.f_is_row T.fd_is_row ["kind", "value"] (sp_isrow K)) (G_read_holds : FnG P w K mg base CX0 1 T.f_read_holds T.fd_read_holds ["words"] (sp_rholds K)) (G_is_numeral : FnG P w K mg base CX0 1 T.f_is_numeral T.fd_is_numeral ["word"] sp_isnum) (G_is_between : FnG P w K mg base CX0 2 T.f_is_between T.fd_is_between ["value", "least", "most"] sp_btw) : FnG P w K mg base CX0 6 T.f_read_part T.fd_read_part ["name", "words"] (sp_rpart K) := by
  skip
  refine okG T.F_read_part sc_read_part (fun vs H Q E h => ?_) (fun cdv A outer s H vs Q E gd hr h => ?_)
  · obtain ⟨_, _, _, rfl, _⟩ := h
    all_goals rfl
  · obtain ⟨a, p, r, rfl, hp, ok, ha, q⟩ := h
    refine ⟨_, (pss_cons (ps_if (pt_cmpR op_in_seq (pv 0) (pe_glob (v := .ref T.g_ROW_KINDS) (by rfl) T.m_ROW_KINDS rfl) (by rfl)) (pss_one (ps_ret (pe_ifExp (pt_val (pc gd G_is_row (hr.mono (by decide)) (by rfl) T.m_is_row T.F_is_row.kp T.b_is_row .nil pass0 (pa_cons (pv 0) (pa_cons (pe_callTy (show CallR _ (.type "tuple") (rTupX K) from call_tupleX) (by rfl) T.z_tuple (by decide +kernel) (pa_cons (pv 1) pa_nil)) pa_nil)))) (pe_callTy (show CallR _ (.type "tuple") (rTupX K) from call_tupleX) (by rfl) T.z_tuple (by decide +kernel) (pa_cons (pv 1) pa_nil)) pe_non))) pss_nil) (pss_cons (ps_if (pt_cmpR op_eq (pv 0) pe_str (nomark _)) (pss_one (ps_ret (pc gd G_read_holds (hr.mono (by decide)) (by rfl) T.m_read_holds T.F_read_holds.kp T.b_read_holds .nil pass0 (pa_cons (pv 1) pa_nil)))) pss_nil) (pss_cons (ps_if (pt_cmpR op_ne (pe_callB call_len_seq (by rfl) T.z_len PySem.boot_len (pa_cons (pv 1) pa_nil)) pe_int (nomark _)) (pss_one (ps_ret pe_non)) pss_nil) (pss_cons (ps_if (pt_cmpR op_eq (pv 0) pe_str (nomark _)) (pss_one (ps_ret (pe_ifExp (pt_cmpR op_in_seq (pe_ix ix_list (pv 1) pe_int (fun _ _ => rfl)) (pe_glob (v := .ref T.g_FAILS) (by rfl) T.m_FAILS rfl) (by rfl)) (pe_ix ix_list (pv 1) pe_int (fun _ _ => rfl)) pe_non))) pss_nil) (pss_cons (ps_if (pt_not (pt_val (pc gd G_is_numeral (hr.mono (by decide)) (by rfl) T.m_is_numeral T.F_is_numeral.kp T.b_is_numeral .nil pass0 (pa_cons (pe_ix ix_list (pv 1) pe_int (fun _ _ => rfl)) pa_nil)))) (pss_one (ps_ret pe_non)) pss_nil) (pss_cons (ps_set (i := 2) sc_read_part.nd rfl (Or.inl rfl) (pe_callTy call_int_str (by rfl) T.z_int (by decide +kernel) (pa_cons (pe_ix ix_list (pv 1) pe_int (fun _ _ => rfl)) pa_nil))) (pss_one (ps_ret (pe_ifExp (pt_val (pc gd G_is_between (hr.mono (by decide)) (by rfl) T.m_is_between T.F_is_between.kp T.b_is_between .nil pass0 (pa_cons (pv 2) (pa_cons pe_int (pa_cons (pe_glob (v := .int 50) (by rfl) T.m_MOST_BATCH ⟨_, rfl⟩) pa_nil))))) (pv 2) pe_non))))))))), ?_⟩
    have inK : ∀ H1, EvT (tTest (tOp (rIn K false) (tVar 0) (tC (.ref T.g_ROW_KINDS)))) [some (.str p.s), some (.ref a), none] H1 (decide (p ∈ rowKs)) := fun H1 => et_test (ev_op (ev_var rfl) ev_c (rv_inPT (ps := rowKs) (T.s_ROW_KINDS H1)))
    by_cases hr : p ∈ rowKs
    · obtain ⟨o1, o2, o3, o4, o5⟩ := rows_ok ok hr
      rw [partWs_row hr, ← wV_strs] at ha
      refine q_when (b := true) (by have := inK H; rwa [decide_eq_true hr] at this) (fun _ H1 e1 => s_retR (((et_B (ev_is (ev_callR (ev_is (ev_var rfl) o5) (er_tupL (ex_l e1 ha) (ev_var rfl)) fun p' H2 e2 rx => sv_isrow o4 rx o1) (cbl (b := true) o2))) : EvT _ _ H1 true) H1 (Ex.refl H1) _ fun H2 e2 => ?_)) fun z => nomatch z
      exact (er_tupL (ex_l (e1.trans e2) ha) (ev_var rfl)) H2 (Ex.refl H2) _ fun p' H3 e3 rx => q H3 (.ref p') ((e1.trans e2).trans e3) (by rw [o3]; exact ⟨p', rfl, rx⟩)
    · refine q_when (b := false) (by have := inK H; rwa [decide_eq_false hr] at this) (fun z => nomatch z) fun _ H1 e1 => ?_
      have ha1 := ex_l e1 ha
      cases p with
      | take => exact absurd (by decide) hr
      | give => exact absurd (by decide) hr
      | move => exact absurd (by decide) hr
      | lift => exact absurd (by decide) hr
      | shared => exact absurd hp (by decide)
      | settles => exact absurd hp (by decide)
      | holds =>
        refine q_when (b := true) (et_test (ev_is (ev_op (ev_var rfl) ev_c (rv_eq rfl)) (cbl (by decide +kernel)))) (fun _ H2 e2 => s_retR (cons1_raw (te := tVar 1) ⟨_, rfl, a, r.holds, rfl, ?_, ok.h, fun H3 t e3 rt => q H3 (.ref t) ((e1.trans e2).trans e3) ⟨t, rfl, rt⟩⟩)) fun z => nomatch z
        have := ex_l e2 ha1
        rwa [show (partWs r .holds).map V.str = r.holds.map wV from (wV_strs r.holds).symm] at this
      | fails =>
        have hx : ∀ {G : Hp}, SqL K G a ((partWs r .fails).map V.str) → RV (rIxL K) (.ref a) (.int 0) G (wV r.fails) := fun h => rv_ixL h rfl
        refine q_when (b := false) (et_test (ev_is (ev_op (ev_var rfl) ev_c (rv_eq rfl)) (cbl (by decide +kernel)))) (fun z => nomatch z) fun _ H2 e2 => ?_
        refine q_when (b := false) (et_test (ev_is (ev_op (ev_cb (ea_cons (ev_var rfl) ea_nil) (rc_lenL (ex_l e2 ha1))) ev_c (rv_ne rfl)) (cbl (by show (!decide (nV 1 = V.int 1)) = false; decide +kernel)))) (fun z => nomatch z) fun _ H3 e3 => ?_
        refine q_when (b := true) (et_test (ev_is (ev_op (ev_var rfl) ev_c (rv_eq rfl)) (cbl (by decide +kernel)))) (fun _ H4 e4 => ?_) fun z => nomatch z
        have h4 := ex_l ((e2.trans e3).trans e4) ha1
        refine s_ret (v := wV r.fails) (ev_if (b := true) (et_test (ev_is (ev_op (ev_op (ev_var rfl) ev_c (hx h4)) ev_c (rv_inW (us := failWs) (T.s_FAILS H4))) (cbl (decide_eq_true ok.f)))) (fun _ => ev_op (ev_var rfl) ev_c (hx h4)) (fun z => nomatch z)) fun H5 e5 => q H5 _ ((((e1.trans e2).trans e3).trans e4).trans e5) rfl
      | batch =>
        have hx : ∀ {G : Hp}, SqL K G a ((partWs r .batch).map V.str) → RV (rIxL K) (.ref a) (.int 0) G (.str (numT r.batch)) := fun h => rv_ixL h rfl
        refine q_when (b := false) (et_test (ev_is (ev_op (ev_var rfl) ev_c (rv_eq rfl)) (cbl (by decide +kernel)))) (fun z => nomatch z) fun _ H2 e2 => ?_
        refine q_when (b := false) (et_test (ev_is (ev_op (ev_cb (ea_cons (ev_var rfl) ea_nil) (rc_lenL (ex_l e2 ha1))) ev_c (rv_ne rfl)) (cbl (by show (!decide (nV 1 = V.int 1)) = false; decide +kernel)))) (fun z => nomatch z) fun _ H3 e3 => ?_
        refine q_when (b := false) (et_test (ev_is (ev_op (ev_var rfl) ev_c (rv_eq rfl)) (cbl (by decide +kernel)))) (fun z => nomatch z) fun _ H4 e4 => ?_
        have h4 := ex_l ((e2.trans e3).trans e4) ha1
        refine q_when (b := false) (et_not (a := true) (et_B (ev_call (ea_cons (ev_op (ev_var rfl) ev_c (hx h4)) ea_nil) fun G e Q q E => ⟨r.batch, rfl, ok.b.1, ok.b.2, q⟩))) (fun z => nomatch z) fun _ H5 e5 => ?_
        have h5 := ex_l e5 h4
        refine q_asg (v := nV r.batch) (ev_cb (ea_cons (ev_op (ev_var rfl) ev_c (hx h5)) ea_nil) (rc_numT ok.b.2 ok.b.1)) fun H6 e6 => ?_
        show tRet _ _ [some (.str (Pt.s .batch)), some (.ref a), some (nV r.batch)] H6
        have hb1 := ok.b.1
        have hb2 := ok.b.2
        exact s_ret (v := nV r.batch) (ev_if (b := true) (et_B (ev_call (ea_cons (ev_var rfl) (ea_cons ev_c (ea_cons ev_c ea_nil))) fun G e Q q E => ⟨(r.batch : Int), 1, 50, rfl, by omega, by omega, q⟩)) (fun _ => ev_var rfl) (fun z => nomatch z)) fun H7 e7 => q H7 _ ((((((e1.trans e2).trans e3).trans e4).trans e5).trans e6).trans e7) rfl
end
end My
namespace My
open PySem PySem.Spec PyProof.Rows L2 GL Evl StX SkE
/-! ### the lines of a text, read -/
def Clean (t : Str) : Prop := 32 ∉ TL.tl t ∧ 10 ∉ TL.tl t
theorem wd_clean (u : Wd) : Clean u.s := by
  unfold Clean
  cases u <;> decide +kernel
theorem pt_clean (p : Pt) : Clean p.s := by
  unfold Clean
  cases p <;> decide +kernel
theorem sh_clean (b : Bool) : Clean (shW b) := by
  unfold Clean
  cases b <;> decide +kernel
theorem se_clean (b : Bool) : Clean (seW b) := by
  unfold Clean
  cases b <;> decide +kernel
theorem parts_clean {r : Ru} (ok : Ok r) {p : Pt} : ∀ t ∈ partWs r p, Clean t := by
  have row : ∀ us : Rw, ∀ t ∈ us.map Wd.s, Clean t := fun us t ht => by
    obtain ⟨u, _, rfl⟩ := List.mem_map.mp ht
    exact wd_clean u
  cases p with
  | take => exact row _
  | give => exact row _
  | move => exact row _
  | lift => exact row _
  | fails =>
    intro t ht
    rw [List.mem_singleton.mp ht]
    exact wd_clean _
  | holds => exact row _
  | batch =>
    intro t ht
    rw [List.mem_singleton.mp ht]
    exact ⟨(numF ok.b.1 ok.b.2).sp, (numF ok.b.1 ok.b.2).lf⟩
  | shared => exact fun t ht => absurd ht List.not_mem_nil
  | settles => exact fun t ht => absurd ht List.not_mem_nil
theorem line_split {ts : List Str} (hne : ts ≠ []) (h : ∀ t ∈ ts, Clean t) : Txt.split (lineT ts) " " = ts := by
  unfold lineT
  rw [← TL.join_eq]
  exact TL.split_join (s := 32) (S := []) (by decide +kernel) (by decide +kernel) hne fun t ht => (h t ht).1
theorem at_nn {K : PySem.W.Frag} {H : Hp} {p : Pv} {v : V} (h : p.At K H v) : decide (v = V.non) = false := by
  cases p with
  | row us =>
    obtain ⟨a, rfl, _⟩ := h
    rfl
  | hold us =>
    obtain ⟨a, rfl, _⟩ := h
    rfl
  | wd w =>
    rw [show v = wV w from h]
    rfl
  | bl b =>
    rw [show v = .bl b from h]
    rfl
  | int n =>
    rw [show v = nV n from h]
    rfl
theorem not_last (p : Pt) : decide (V.str p.s = V.str "last") = false := by cases p <;> decide +kernel
def sp_rline (K : PySem.W.Frag) : Sp := fun vs H Q _ => (∃ p r, vs = [.str p.s, .str (lineT (p.s :: partWs r p))] ∧ p ∈ linePs ∧ Ok r ∧ ∀ H' d, H d = none → Ex H H' → DictAt K H' d [p] r → Q (.ref d) H') ∨
  (∃ r, vs = [.str "last", .str (lineT [shW r.shared, seW r.settles])] ∧ ∀ H' d, H d = none → Ex H H' → DictAt K H' d [.shared, .settles] r → Q (.ref d) H')
section
variable {P : Program} {w : World} {K : PySem.W.Frag} {mg : Str → Option Value} {base : Heap} {C : Addr} {H H' H0 H1 G : Hp} {σ : L2.St} {te tb ta tc tl : TE} {t tt : TT} {tA : TA} {E Er : XK} {D : Ends} {tz : TS} {a b d : Addr} {us : Rw} {xs ys : List V} {rs qs : List Rw} {ks : List Pt} {r l : Ru} {v : V} {Q : VK} {j : Nat} {vs : List Nat} {s1 s2 z : Str}
/-- pairs of a display, none drawn -/
def EvTn (K : PySem.W.Frag) (trs : List (TE × TE)) (σ : L2.St) (H : Hp) (ls : List Pt) (r : Ru) : Prop := ∀ H1, Ex H H1 → ∀ QP : List (V × V) → Hp → Prop, (∀ H2 f, Ex H1 H2 → (∀ p ∈ ls, (r.get p).At K H2 (f p)) → QP ((kvs ls f).map fun kv => (kV kv.1, kv.2)) H2) → tPairs trs σ H1 QP
theorem etn_nil {r : Ru} : EvTn K [] σ H [] r := fun H1 e QP q => q H1 (fun _ => .non) (Ex.refl H1) (fun _ h => absurd h List.not_mem_nil)
theorem etn_cons {tn te : TE} {trs : List (TE × TE)} {ls : List Pt} {r : Ru} {p : Pt} (hn : ∀ H1, Ev tn σ H1 (.str p.s)) (he : EvP K te σ H (r.get p)) (hr : EvTn K trs σ H ls r) (np : p ∉ ls) : EvTn K ((tn, te) :: trs) σ H (p :: ls) r := fun H0 e0 QP q =>
  hn H0 H0 (Ex.refl H0) _ fun H1 e1 => he H1 (e0.trans e1) _ fun v H2 e2 hv => hr H2 (e0.trans (e1.trans e2)) _ fun H3 f e3 hf => by
    have ek : kvs ls f = kvs ls (put f p v) := List.map_congr_left fun p' hp' => by
      have : p' ≠ p := fun z => np (z ▸ hp')
      unfold put
      rw [if_neg this]
    have ep : put f p v p = v := by
      unfold put
      rw [if_pos rfl]
    have h := q H3 (put f p v) (e1.trans (e2.trans e3)) fun p' hp' => by
      unfold put
      by_cases z : p' = p
      · subst z
        rw [if_pos rfl]
        exact hv.ex e3
      · rw [if_neg z]
        exact hf p' ((List.mem_cons.mp hp').resolve_left z)
    have e : (kvs (p :: ls) (put f p v)).map (fun kv => (kV kv.1, kv.2)) = (V.str p.s, v) :: (kvs ls f).map fun kv => (kV kv.1, kv.2) := by
      show (V.str p.s, put f p v p) :: (kvs ls (put f p v)).map _ = _
      rw [← ek, ep]
    rw [e] at h
    exact h
theorem disp_rawN {trs : List (TE × TE)} {ls : List Pt} {r : Ru} {Q : VK} (h : EvTn K trs σ H ls r) (nd : ls.Nodup) (hl : ls.length ≤ 15) (k : ∀ d H1, H d = none → Ex H H1 → DictAt K H1 d ls r → Q (.ref d) H1) : tDisp trs σ H Q := fun d hd =>
  h _ (Ex.new hd) _ fun H2 f e2 hf => ⟨e2 _ _ upd_same, kvs ls f, rfl, by unfold kvs; rw [List.length_map]; exact hl, by
    rw [made_kvs f nd]
    exact k d _ hd (((Ex.new hd).trans e2).mut hd) ⟨f, upd_same, fun p hp => (hf p hp).exB ExB.set (NoTup.dK (e2 _ _ upd_same))⟩⟩
theorem rv_isN {x : V} {b : Bool} (h : decide (x = V.non) = b) : RV (fun x y H Q => y = V.non ∧ Q (.bl (decide (x = .non))) H) x .non H (.bl b) := fun H1 _ Q q => ⟨rfl, by
  rw [h]
  exact q H1 (Ex.refl H1)⟩
theorem el_split {zs : List Str} (ha : Ev ta σ H (.str s1)) (hb : Ev tb σ H (.str s2)) (h : Txt.split s1 s2 = zs) (h0 : (s2.length == 0) = false) (hl : s1.length ≤ 100000) :
    EvL (tM1 (fun x xs H Q => ∃ a b, x = .str a ∧ xs = [.str b] ∧ (b.length == 0) = false ∧ a.length + 2 ≤ sizeLine ∧ rNewStrs (Txt.split a b) H Q) ta tb) σ H (zs.map V.str) := fun H1 e Q q =>
  ha H1 e _ fun H2 e2 => ⟨⟨s1, rfl⟩, hb H2 (e.trans e2) _ fun H3 e3 => ⟨s1, s2, rfl, rfl, h0, by rw [sizeLine_eq]; omega, fun p hp => by
    rw [h]
    exact q p _ (fresh_back (e2.trans e3) hp) ((e2.trans e3).trans (Ex.new hp)) upd_same⟩⟩
theorem ep_litN {te : TE} {p : Pv} {v : V} (h : Ev te σ H v) (hp : ∀ H1, Ex H H1 → p.At K H1 v) : EvP K te σ H p := fun H1 e Q q => h H1 e Q fun H2 e2 => q v H2 e2 (hp H2 (e.trans e2))
theorem el_cut1 {x : V} {u : Addr} (hu : SqL K H u (x :: xs)) (h : Ev te σ H (.ref u)) : EvL (tSl (rSlL K) te (tPart (tC (.int 1))) tNoPart) σ H xs := el_is (el_sl h (eo_some ev_c) eo_none hu) (by
  unfold cutV
  rw [show (1 : Int) = ((1 : Nat) : Int) from rfl, HT.sIx_nat, HT.sIx_none, List.length_cons, show min 1 (xs.length + 1) = 1 by omega, Nat.add_sub_cancel]
  exact List.take_length)
theorem ok_read_line (T : Txt K mg w) (G_read_part : FnG P w K mg base CX0 6 T.f_read_part T.fd_read_part ["name", "words"] (sp_rpart K)) : FnG P w K mg base CX0 7 T.f_read_line T.fd_read_line ["name", "line"] (sp_rline K) := by
  skip
  refine okG T.F_read_line sc_read_line (fun vs H Q E h => ?_) (fun cdv A outer s H vs Q E gd hr h => ?_)
  · obtain (⟨_, _, rfl, _⟩ | ⟨_, rfl, _⟩) := h
    all_goals rfl
  · obtain h := h
    refine ⟨_, (pss_cons (ps_set (i := 2) sc_read_line.nd rfl (Or.inl rfl) (pe_split (pv 1) pe_str)) (pss_cons (ps_if (pt_cmpR op_eq (pv 0) pe_str (nomark _)) (pss_cons (ps_if ((pw_or (pt_cmpR op_ne (pe_callB call_len_seq (by rfl) T.z_len PySem.boot_len (pa_cons (pv 2) pa_nil)) pe_int (nomark _)) (pw_or (pt_cmpR op_notIn_seq (pe_ix ix_list (pv 2) pe_int (fun _ _ => rfl)) (pe_glob (v := .ref T.g_SHARED_WORDS) (by rfl) T.m_SHARED_WORDS rfl) (by rfl)) (pw_or1 (pt_cmpR op_notIn_seq (pe_ix ix_list (pv 2) pe_int (fun _ _ => rfl)) (pe_glob (v := .ref T.g_SETTLES_WORDS) (by rfl) T.m_SETTLES_WORDS rfl) (by rfl)))))).pt (pss_one (ps_ret pe_non)) pss_nil) (pss_one (ps_ret (pe_disp (pps_cons pe_str (pe_cmpR op_eq (pe_ix ix_list (pv 2) pe_int (fun _ _ => rfl)) (pe_ix ix_tup (pe_glob (v := .ref T.g_SHARED_WORDS) (by rfl) T.m_SHARED_WORDS rfl) pe_int (fun _ _ => rfl)) (nomark _)) (pps_cons pe_str (pe_cmpR op_eq (pe_ix ix_list (pv 2) pe_int (fun _ _ => rfl)) (pe_ix ix_tup (pe_glob (v := .ref T.g_SETTLES_WORDS) (by rfl) T.m_SETTLES_WORDS rfl) pe_int (fun _ _ => rfl)) (nomark _)) pps_nil)) rfl rfl (by simp) (by simp))))) pss_nil) (pss_cons (ps_if (pt_cmpR op_ne (pe_ix ix_list (pv 2) pe_int (fun _ _ => rfl)) (pv 0) (nomark _)) (pss_one (ps_ret pe_non)) pss_nil) (pss_cons (ps_set (i := 3) sc_read_line.nd rfl (Or.inl rfl) (pc gd G_read_part (hr.mono (by decide)) (by rfl) T.m_read_part T.F_read_part.kp T.b_read_part .nil pass0 (pa_cons (pv 0) (pa_cons (pe_slice sl_list (pv 2) (po_some pe_int) po_none) pa_nil)))) (pss_one (ps_ret (pe_ifExp (pt_cmpR op_isN (pv 3) pe_non (nomark _)) pe_non (pe_disp (pps_cons (pv 0) (pv 3) pps_nil) rfl rfl (by simp) (by simp))))))))), ?_⟩
    rcases h with ⟨p, r, rfl, hp, ok, q⟩ | ⟨r, rfl, q⟩
    · have ll := pline_len ok p
      refine q_asgR ((el_split (ev_var rfl) ev_c (line_split (ts := p.s :: partWs r p) (by simp) fun t ht => by
        rcases List.mem_cons.mp ht with rfl | ht
        · exact pt_clean p
        · exact parts_clean ok t ht) (by decide +kernel) (by omega)) H (Ex.refl H) _ fun ws H1 hw e1 h1 => ?_)
      show tSeq _ _ _ [some (.str p.s), some (.str (lineT (p.s :: partWs r p))), some (.ref ws), none] H1
      refine q_when (b := false) (et_test (ev_is (ev_op (ev_var rfl) ev_c (rv_eq rfl)) (cbl (not_last p)))) (fun z => nomatch z) fun _ H2 e2 => ?_
      have h2 : H2 ws = some (.lst (V.str p.s :: (partWs r p).map V.str)) := e2 _ _ h1
      refine q_when (b := false) (et_test (ev_is (ev_op (ev_op (ev_var rfl) ev_c (rv_ixL (v := .str p.s) (sq_of h2) atI_zero)) (ev_var rfl) (rv_ne rfl)) (cbl (by rw [decide_eq_true rfl]; rfl)))) (fun z => nomatch z) fun _ H3 e3 => ?_
      refine q_asgR ⟨_, rfl, (el_cut1 (sq_of (e3 _ _ h2)) (ev_var rfl)) H3 (Ex.refl H3) _ fun wp H4 hwp e4 hw4 => ⟨wp, p, r, rfl, hp, ok, sq_of hw4, fun H5 v e5 hv => ?_⟩⟩
      show tRet _ _ [some (.str p.s), some (.str (lineT (p.s :: partWs r p))), some (.ref ws), some v] H5
      have x5 := ((((e1.trans e2).trans e3).trans e4).trans e5)
      refine s_retR (((et_test (ev_op (ev_var rfl) ev_c (rv_isN (at_nn hv)))) : EvT _ _ H5 false) H5 (Ex.refl H5) _ fun H6 e6 => ?_)
      exact disp_rawN (K := K) (ls := [p]) (r := r) (etn_cons (p := p) (fun _ => ev_var rfl) (ep_var rfl (hv.ex e6)) etn_nil List.not_mem_nil) (List.nodup_cons.mpr ⟨List.not_mem_nil, List.nodup_nil⟩) (by show 1 ≤ 15; omega) fun d H7 hd e7 h7 => q H7 d (fresh_back (x5.trans e6) hd) ((x5.trans e6).trans e7) h7
    · have ll := last_len r
      refine q_asgR ((el_split (ev_var rfl) ev_c (line_split (ts := [shW r.shared, seW r.settles]) (by simp) fun t ht => by
        simp only [List.mem_cons, List.not_mem_nil, or_false] at ht
        rcases ht with rfl | rfl
        · exact sh_clean _
        · exact se_clean _) (by decide +kernel) (by omega)) H (Ex.refl H) _ fun ws H1 hw e1 h1 => ?_)
      show tSeq _ _ _ [some (.str "last"), some (.str (lineT [shW r.shared, seW r.settles])), some (.ref ws), none] H1
      have i0 : ∀ {G : Hp}, Ex H1 G → ∀ {Gs : L2.St}, Gs[2]? = some (some (.ref ws)) → Ev (tOp (rIxL K) (tVar 2) (tC (.int 0))) Gs G (.str (shW r.shared)) := fun {G} e {Gs} hs => ev_op (ev_var hs) ev_c (rv_ixL (sq_of (e _ _ h1)) rfl)
      have i1 : ∀ {G : Hp}, Ex H1 G → ∀ {Gs : L2.St}, Gs[2]? = some (some (.ref ws)) → Ev (tOp (rIxL K) (tVar 2) (tC (.int 1))) Gs G (.str (seW r.settles)) := fun {G} e {Gs} hs => ev_op (ev_var hs) ev_c (rv_ixL (sq_of (e _ _ h1)) rfl)
      refine q_when (b := true) (et_test (ev_is (ev_op (ev_var rfl) ev_c (rv_eq rfl)) (cbl (by decide +kernel)))) (fun _ H2 e2 => ?_) fun z => nomatch z
      refine q_when (b := false) (et_or (a := false) (b := false) (et_test (ev_is (ev_op (ev_cb (ea_cons (ev_var rfl) ea_nil) (rc_lenL (sq_of (e2 _ _ h1)))) ev_c (rv_ne rfl)) (cbl (by show (!decide (nV 2 = V.int 2)) = false; decide +kernel)))) fun _ => et_or (a := false) (b := false) (et_test (ev_is (ev_op (i0 e2 rfl) ev_c (rv_niT (T.s_SHARED_WORDS _) rfl rfl)) (cbl (by cases r.shared <;> decide +kernel)))) fun _ => et_test (ev_is (ev_op (i1 e2 rfl) ev_c (rv_niT (T.s_SETTLES_WORDS _) rfl rfl)) (cbl (by cases r.settles <;> decide +kernel)))) (fun z => nomatch z) fun _ H3 e3 => ?_
      have x3 := e2.trans e3
      exact s_retR (disp_rawN (K := K) (ls := [.shared, .settles]) (r := r) (etn_cons (p := .shared) (fun _ => ev_c) (ep_litN (v := .bl r.shared) (ev_is (ev_op (i0 x3 rfl) (ev_op ev_c ev_c (rv_ixT (T.s_SHARED_WORDS _) rfl)) (rv_eq rfl)) (cbl (by cases r.shared <;> decide +kernel))) fun _ _ => rfl) (etn_cons (p := .settles) (fun _ => ev_c) (ep_litN (v := .bl r.settles) (ev_is (ev_op (i1 x3 rfl) (ev_op ev_c ev_c (rv_ixT (T.s_SETTLES_WORDS _) rfl)) (rv_eq rfl)) (cbl (by cases r.settles <;> decide +kernel))) fun _ _ => rfl) etn_nil List.not_mem_nil) (by decide)) (by decide) (by show 2 ≤ 15; omega) fun d H7 hd e7 h7 => q H7 d (fresh_back (e1.trans x3) hd) ((e1.trans x3).trans e7) h7)
end
end My
namespace My
open PySem PySem.Spec PyProof.Rows L2 GL Evl StX SkE
/-! ### a text, read -/
theorem mem_joinL {S : List Nat} {x : Nat} : ∀ {ps : List (List Nat)}, x ∈ TL.joinL S ps → x ∈ S ∨ ∃ p ∈ ps, x ∈ p
  | [], h => absurd h List.not_mem_nil
  | [p], h => .inr ⟨p, List.mem_singleton_self p, h⟩
  | p :: q :: r, h => by
    rcases List.mem_append.mp (show x ∈ p ++ (S ++ TL.joinL S (q :: r)) from h) with h | h
    · exact .inr ⟨p, List.mem_cons_self, h⟩
    · rcases List.mem_append.mp h with h | h
      · exact .inl h
      · rcases mem_joinL h with h | ⟨z, hz, h⟩
        · exact .inl h
        · exact .inr ⟨z, List.mem_cons_of_mem _ hz, h⟩
theorem joinL_lf : ∀ ps : List (List Nat), TL.joinL [] (ps.map (· ++ [10])) = TL.joinL [10] (ps ++ [[]])
  | [] => rfl
  | [p] => rfl
  | p :: q :: r => by
    have ih := joinL_lf (q :: r)
    show (p ++ [10]) ++ ([] ++ TL.joinL [] ((q :: r).map (· ++ [10]))) = p ++ ([10] ++ TL.joinL [10] ((q :: r) ++ [[]]))
    rw [ih, List.nil_append, List.append_assoc]
theorem joinL_end : ∀ {ps : List (List Nat)}, ps ≠ [] → TL.joinL [10] ps ++ [10] = TL.joinL [10] (ps ++ [[]])
  | [], h => absurd rfl h
  | [p], _ => rfl
  | p :: q :: r, _ => by
    have ih := joinL_end (ps := q :: r) (by simp)
    show (p ++ ([10] ++ TL.joinL [10] (q :: r))) ++ [10] = p ++ ([10] ++ TL.joinL [10] ((q :: r) ++ [[]]))
    rw [List.append_assoc, List.append_assoc, ih]
theorem tl_lf : TL.tl "\n" = [10] := by decide +kernel
theorem tl_lfL (l : Str) : TL.tl (lfL l) = TL.tl l ++ [10] := by
  unfold lfL
  rw [TL.tl_append, TL.tl_append, tl_lf]
  rfl
theorem bk_join (r : Ru) : bkText r = Str.join "\n" (bkLines r ++ ([""] : List Str)) := TL.ext_tl (by
  unfold bkText
  rw [TL.tl_join, TL.tl_join, tl_lf, List.map_append, List.map_map]
  have e : (TL.tl ∘ lfL) = (· ++ [10]) ∘ TL.tl := funext fun l => tl_lfL l
  rw [e, ← List.map_map]
  exact joinL_lf _)
/-- the text as the law has it -/
theorem bk_own (r : Ru) : Str.join "\n" (bkLines r) ++ "\n" = bkText r := TL.ext_tl (by
  rw [bk_join, TL.tl_append, TL.tl_join, TL.tl_join, tl_lf, List.map_append]
  exact joinL_end (by unfold bkLines linePs; simp))
theorem line_lf {ts : List Str} (h : ∀ t ∈ ts, Clean t) : 10 ∉ TL.tl (lineT ts) := fun hm => by
  unfold lineT at hm
  rw [TL.tl_join, show TL.tl " " = [32] from by decide +kernel] at hm
  rcases mem_joinL hm with h1 | ⟨p, hp, h1⟩
  · exact absurd h1 (by decide)
  · obtain ⟨t, ht, rfl⟩ := List.mem_map.mp hp
    exact (h t ht).2 h1
theorem lines_lf {r : Ru} (ok : Ok r) : ∀ l ∈ bkLines r, 10 ∉ TL.tl l := fun l hl => by
  rcases List.mem_append.mp hl with h | h
  · obtain ⟨p, _, rfl⟩ := List.mem_map.mp h
    exact line_lf fun t ht => by
      rcases List.mem_cons.mp ht with rfl | ht
      · exact pt_clean p
      · exact parts_clean ok t ht
  · rw [List.mem_singleton.mp h]
    exact line_lf fun t ht => by
      simp only [List.mem_cons, List.not_mem_nil, or_false] at ht
      rcases ht with rfl | rfl
      · exact sh_clean _
      · exact se_clean _
theorem bk_split {r : Ru} (ok : Ok r) : Txt.split (bkText r) "\n" = bkLines r ++ ([""] : List Str) := by
  rw [bk_join, ← TL.join_eq]
  exact TL.split_join (s := 10) (S := []) tl_lf (by decide +kernel) (by simp) fun t ht => by
    rcases List.mem_append.mp ht with h | h
    · exact lines_lf ok t h
    · rw [List.mem_singleton.mp h]
      exact List.not_mem_nil
theorem bk_len {r : Ru} (ok : Ok r) : (bkText r).length ≤ 1000 := by
  have := joinS_len (y := "") (lfs_len ok)
  have e : (Str.ofString "").length = 0 := by decide
  have n8 : ((bkLines r).map lfL).length = 8 := rfl
  unfold bkText
  rw [e, n8] at this
  omega
/-- the rules, back from the text -/
theorem line_inj {ts us : List Str} (h1 : ts ≠ []) (h2 : us ≠ []) (c1 : ∀ t ∈ ts, Clean t) (c2 : ∀ t ∈ us, Clean t) (h : lineT ts = lineT us) : ts = us := by
  rw [← line_split h1 c1, ← line_split h2 c2, h]
def lineKs : List Pt := linePs ++ [.shared, .settles]
def keysAt (n : Nat) : List Pt := if n ≤ 7 then linePs.take n else lineKs
theorem lineKs_mem (p : Pt) : p ∈ lineKs := by cases p <;> decide
def sp_rbook (K : PySem.W.Frag) (C : Addr) : Sp := fun vs H Q _ => ∃ r, vs = [.str (bkText r)] ∧ Ok r ∧ ∀ H' b, H b = none → Ex H H' → BookAt K C H' b r → Q (.ref b) H'
end My
namespace My
open PySem PySem.Spec PyProof.Rows L2 GL Evl StX SkE
/-! ### a text, read: walked -/
section
variable {P : Program} {w : World} {K : PySem.W.Frag} {mg : Str → Option Value} {base : Heap} {C : Addr} {H H' H0 H1 G : Hp} {σ : L2.St} {te tb ta tc tl : TE} {t tt : TT} {tu tz : TS} {tA : TA} {E Er : XK} {D : Ends} {a b d : Addr} {us : Rw} {xs ys : List V} {rs qs : List Rw} {ks ls : List Pt} {r l : Ru} {v : V} {Q : VK} {j : Nat} {vs : List Nat} {s1 s2 z : Str}
theorem q_forEnT {i j : Nat} (h : EvA tA σ H [.ref a]) (hs : ∀ H, SqT K H a xs) (Pv : Nat → L2.St → Hp → Prop) (h0 : ∀ H1, Ex H H1 → Pv 0 σ H1)
    (step : ∀ n x σ' H' H2, xs[n]? = some x → Pv n σ' H' → Ex H' H2 → tu { D with nx := Pv (n + 1), ct := Pv (n + 1), bk := tz D } ((σ'.set i (some (nV n))).set j (some x)) H2) (hd : ∀ σ' H', Pv xs.length σ' H' → tz D σ' H') :
    tSeq (tFor (iEnT K tA) (gTup K 2 (gCons (gName i) (gCons (gName j) gNil))) tu) tz D σ H :=
  h H (Ex.refl H) _ fun H1 e => ⟨a, xs, rfl, hs _, for_it (D := { D with nx := tz D }) walk_enumE Pv (h0 H1 e) (fun n σ' H' _ p => hs _) (by
    rintro n v σ' H' H2 hn p ⟨T, x, z, rfl, nT, rfl, e1, e2⟩
    have e1 : some (V.int (0 + (n : Int))) = some x := e1
    rw [Int.zero_add] at e1
    cases e1
    exact ⟨T, _, rfl, st_of upd_same, rfl, _, _, rfl, _, _, rfl, rfl, step n z σ' H' _ e2 p (Ex.new nT)⟩) hd⟩
/-- {**d, **e} -/
theorem star2_raw {i k : Nat} (hi : σ[i]? = some (some (.ref a))) (hk : σ[k]? = some (some (.ref b))) (ha : DictAt K H a ks r) (hb : DictAt K H b ls r) (nd : (ks ++ ls).Nodup) (hl : ks.length + ls.length ≤ 100)
    (q : ∀ p H1, H p = none → Ex H H1 → DictAt K H1 p (ks ++ ls) r → Q (.ref p) H1) : tStar2 (tVar i) (tVar k) σ H Q := by
  obtain ⟨f, hf, hfv⟩ := ha
  obtain ⟨g, hg, hgv⟩ := hb
  intro p hp
  have npa : p ≠ a := fun z => by rw [z, hf] at hp; cases hp
  have npb : p ≠ b := fun z => by rw [z, hg] at hp; cases hp
  refine ⟨_, hi, upd_same, a, kvs ks f, rfl, .inl (Ex.new hp _ _ hf), npa, by unfold kvs; rw [List.length_map]; omega, ?_⟩
  refine ⟨_, hk, upd_same, b, kvs ls g, rfl, .inl (by rw [upd_ne npb.symm]; exact Ex.new hp _ _ hg), npb, by unfold kvs; rw [List.length_map]; omega, ?_⟩
  let f2 : Pt → V := fun p => if p ∈ ls then g p else f p
  have k1 : kvs ks f = kvs ks f2 := List.map_congr_left fun p hp => by
    have : p ∉ ls := fun z => (List.nodup_append.mp nd).2.2 p hp p z rfl
    show (_, f p) = (_, if p ∈ ls then g p else f p)
    rw [if_neg this]
  have k2 : kvs ls g = kvs ls f2 := List.map_congr_left fun p hp => by
    show (_, g p) = (_, if p ∈ ls then g p else f p)
    rw [if_pos hp]
  have x : Ex H (upd (upd (upd H p (.dK [])) p (.dK (kvs ks f))) p (.dK (kvs (ks ++ ls) f2))) := Ex.mut (Ex.mut (Ex.new hp) hp) hp
  have e : mergeK (kvs ks f) (kvs ls g) = kvs (ks ++ ls) f2 := by
    rw [k1, k2]
    exact merge_kvs f2 ls ks nd
  rw [e]
  refine q p _ hp x ⟨f2, upd_same, fun pt hpt => ?_⟩
  by_cases z : pt ∈ ls
  · show (r.get pt).At K _ (if pt ∈ ls then g pt else f pt)
    rw [if_pos z]
    exact (hgv pt z).ex x
  · show (r.get pt).At K _ (if pt ∈ ls then g pt else f pt)
    rw [if_neg z]
    exact (hfv pt ((List.mem_append.mp hpt).resolve_right z)).ex x
theorem ev_neLL (h1 : EvL ta σ H xs) (h2 : ∀ H1, Ex H H1 → EvL tb σ H1 ys) (f1 : xs.all flatV = true) (f2 : ys.all flatV = true) (g1 : SeqAt.shaped (.list (xs.map fd)) = true) (g2 : SeqAt.shaped (.list (ys.map fd)) = true) {c : Bool} (e : PyData.eqv (.list (xs.map fd)) (.list (ys.map fd)) = c) : Ev (tOp (rNeD K) ta tb) σ H (.bl (!c)) := fun H1 e1 Q q =>
  h1 H1 e1 _ fun p H2 hp e2 z2 => h2 H2 (e1.trans e2) H2 (Ex.refl _) _ fun p2 H3 hp2 e3 z3 => ⟨.list (xs.map fd), .list (ys.map fd), .lst (sq_of (e3 _ _ z2)) (fd_all f1), .lst (sq_of z3) (fd_all f2), g1, g2, by
    rw [e]
    exact q H3 (e2.trans e3)⟩
theorem if_rawT (h : EvT tt σ H true) (k : ∀ H1, Ex H H1 → ta σ H1 Q) : tIf tt ta tb σ H Q := h H (Ex.refl H) _ fun H1 e => k H1 e
theorem call2_raw {sp : Sp} {x y : V} (h1 : Ev ta σ H x) (h2 : ∀ H1, Ex H H1 → Ev tb σ H1 y) (k : ∀ H1, Ex H H1 → sp [x, y] H1 Q Er) : tCall sp [] Er (tCons ta (tCons tb tNil)) σ H Q := h1 H (Ex.refl H) _ fun H1 e1 => h2 H1 e1 H1 (Ex.refl _) _ fun H2 e2 => k H2 (e1.trans e2)
theorem keysAt_succ {n : Nat} (h : n < 7) : ∃ p, linePs[n]? = some p ∧ p ∈ linePs ∧ keysAt (n + 1) = keysAt n ++ [p] ∧ (keysAt n ++ [p]).Nodup := by
  match n, h with
  | 0, _ => exact ⟨_, rfl, by decide, by decide, by decide⟩
  | 1, _ => exact ⟨_, rfl, by decide, by decide, by decide⟩
  | 2, _ => exact ⟨_, rfl, by decide, by decide, by decide⟩
  | 3, _ => exact ⟨_, rfl, by decide, by decide, by decide⟩
  | 4, _ => exact ⟨_, rfl, by decide, by decide, by decide⟩
  | 5, _ => exact ⟨_, rfl, by decide, by decide, by decide⟩
  | 6, _ => exact ⟨_, rfl, by decide, by decide, by decide⟩
theorem ok_read_book (T : Txt K mg w) (G_read_line : FnG P w K mg base CX0 7 T.f_read_line T.fd_read_line ["name", "line"] (sp_rline K)) (G_fits_batch : FnG P w K mg base CX0 1 T.f_fits_batch T.fd_fits_batch ["row", "batch"] (sp_fitb K)) (G_fits_shared : FnG P w K mg base CX0 1 T.f_fits_shared T.fd_fits_shared ["row", "shared"] (sp_fits K)) (G_Binit : FnG P w K mg base CX0 7 T.f_Binit T.fd_Binit ["self", "take", "give", "move", "lift", "fails", "shared", "holds", "batch", "settles"] (sp_BinitN K T.C)) : FnG P w K mg base CX0 9 T.f_read_book T.fd_read_book ["text"] (sp_rbook K T.C) := by
  skip
  refine okG T.F_read_book sc_read_book (fun vs H Q E h => ?_) (fun cdv A outer s H vs Q E gd hr h => ?_)
  · obtain ⟨_, rfl, _⟩ := h
    all_goals rfl
  · obtain ⟨r, rfl, ok, q⟩ := h
    refine ⟨_, (pss_cons (ps_if (pt_not (pt_val (pe_callB call_isi (by rfl) T.z_isinstance boot_isinstance (pa_cons (pv 0) (pa_cons (pe_bltn (v := .ty "str") (u := .type "str") (by rfl) T.z_str (by decide +kernel) rfl) pa_nil))))) (pss_one ps_never) pss_nil) (pss_cons (ps_set (i := 1) sc_read_book.nd rfl (Or.inl rfl) (pe_split (pv 0) pe_str)) (pss_cons (ps_set (i := 2) sc_read_book.nd rfl (Or.inl rfl) pe_dnewK) (pss_cons (ps_for PassesOwn.never rfl (pi_enumT (by rfl) T.z_enumerate (pa_cons (pe_glob (v := .ref T.g_LINES) (by rfl) T.m_LINES rfl) pa_nil)) (pg_tup rfl (pgs_cons (pg_name (i := 3) sc_read_book.nd rfl (Or.inl rfl) (Or.inr rfl)) (pgs_cons (pg_name (i := 4) sc_read_book.nd rfl (Or.inl rfl) (Or.inr rfl)) pgs_nil))) (pss_cons (ps_set (i := 5) sc_read_book.nd rfl (Or.inl rfl) (pe_ifExp (pt_cmpR op_lt (pv 3) (pe_op op_sub (pe_callB call_len_seq (by rfl) T.z_len PySem.boot_len (pa_cons (pv 1) pa_nil)) pe_int) (nomark _)) (pc gd G_read_line (hr.mono (by decide)) (by rfl) T.m_read_line T.F_read_line.kp T.b_read_line .nil pass0 (pa_cons (pv 4) (pa_cons (pe_ix ix_list (pv 1) (pv 3) (fun _ _ => rfl)) pa_nil))) pe_non)) (pss_cons (ps_if (pt_cmpR op_isN (pv 5) pe_non (nomark _)) (pss_one ps_never) pss_nil) (pss_one (ps_set (i := 2) sc_read_book.nd rfl (Or.inl rfl) (pe_star2 (pv 2) (pv 5))))))) (pss_cons (ps_if (pt_cmpR (op_neD (roomU hr)) (pe_slice sl_list (pv 1) (po_some (pe_callB call_len_seq (by rfl) T.z_len PySem.boot_len (pa_cons (pe_glob (v := .ref T.g_LINES) (by rfl) T.m_LINES rfl) pa_nil))) po_none) (pe_lst (pa_cons pe_str pa_nil)) (nomark _)) (pss_one ps_never) pss_nil) (pss_cons (ps_if (pt_not (pt_val (pc gd G_fits_batch (hr.mono (by decide)) (by rfl) T.m_fits_batch T.F_fits_batch.kp T.b_fits_batch .nil pass0 (pa_cons (pe_dget (hu_of hr) (pv 2) pe_str (fun _ _ => rfl)) (pa_cons (pe_dget (hu_of hr) (pv 2) pe_str (fun _ _ => rfl)) pa_nil))))) (pss_one ps_never) pss_nil) (pss_cons (ps_if (pt_not (pt_val (pc gd G_fits_shared (hr.mono (by decide)) (by rfl) T.m_fits_shared T.F_fits_shared.kp T.b_fits_shared .nil pass0 (pa_cons (pe_dget (hu_of hr) (pv 2) pe_str (fun _ _ => rfl)) (pa_cons (pe_dget (hu_of hr) (pv 2) pe_str (fun _ _ => rfl)) pa_nil))))) (pss_one ps_never) pss_nil) (pss_one (ps_ret (pkD gd T.mk_Book G_Binit (hr.mono (by decide)) (by rfl) T.m_Book T.k_Binit2 pass0 (pv 2))))))))))), ?_⟩
    have bl := bk_len ok
    refine q_when (b := false) (et_not (a := true) (et_B (ev_cb (ea_cons (ev_var rfl) (ea_cons ev_c ea_nil)) (rc_isi (.ty "str") (fun _ => .base (.str _)) (kit_ty (by decide +kernel)))))) (fun z => nomatch z) fun _ Ha ea => ?_
    refine q_asgR ((el_split (ev_var rfl) ev_c (bk_split ok) (by decide +kernel) (by omega)) Ha (Ex.refl Ha) _ fun ls Hb hls eb hb => ?_)
    refine q_asgR fun d0 hd0 => ?_
    have eb0 : Ex Hb (upd Hb d0 (.dK [])) := Ex.new hd0
    have b0 : DictAt K (upd Hb d0 (.dK [])) d0 [] r := ⟨fun _ => .non, upd_same, fun p hp => absurd hp List.not_mem_nil⟩
    have xb : Ex H Hb := ea.trans eb
    show tSeq _ _ _ [some (.str (bkText r)), some (.ref ls), some (.ref d0), none, none, none] (upd Hb d0 (.dK []))
    generalize upd Hb d0 (.dK []) = Hc at eb0 b0 ⊢
    have hc : Hc ls = some (.lst ((bkLines r ++ ([""] : List Str)).map V.str)) := eb0 _ _ hb
    have xc : Ex H Hc := xb.trans eb0
    refine q_forEnT (K := K) (xs := linePs.map pV ++ ([V.str "last"] : List V)) (ea_cons ev_c ea_nil) T.s_LINES (fun n σ' H' => ∃ pd x3 x4 x5, σ' = [some (.str (bkText r)), some (.ref ls), some (.ref pd), x3, x4, x5] ∧ Ex Hc H' ∧ DictAt K H' pd (keysAt n) r) (fun H1 e => ⟨_, _, _, _, rfl, e, b0.ex e⟩) (fun n x σ' H' H2 hx z e2 => ?_) (fun σ' H' z => ?_)
    · obtain ⟨pd, x3, x4, x5, rfl, z1, z2⟩ := z
      have h2 : H2 ls = some (.lst ((bkLines r ++ ([""] : List Str)).map V.str)) := e2 _ _ (z1 _ _ hc)
      have d2 := z2.ex e2
      show tSeq _ _ _ [some (.str (bkText r)), some (.ref ls), some (.ref pd), some (nV n), some x, x5] H2
      have n8 : n < 8 := by
        have := (List.getElem?_eq_some_iff.mp hx).1
        exact this
      have tst : ∀ {Gs : L2.St}, Gs[3]? = some (some (nV n)) → Gs[1]? = some (some (.ref ls)) → EvT (tTest (tOp (rI0 fun i j => .bl (decide (i < j))) (tVar 3) (tOp (rI0 fun i j => .int (i - j)) (tCB (rLenS K) (tCons (tVar 1) tNil)) (tC (.int 1))))) Gs H2 true := fun {Gs} g3 g1 => et_test (ev_is (ev_op (ev_var g3) (ev_op (ev_cb (ea_cons (ev_var g1) ea_nil) (rc_lenL (sq_of h2))) ev_c rv_I0) rv_I0) (cbl (decide_eq_true (by
        show (n : Int) < ((9 : Nat) : Int) - 1
        omega))))
      have told : ∃ ks2, keysAt (n + 1) = keysAt n ++ ks2 ∧ (keysAt n ++ ks2).Nodup ∧ ks2.length ≤ 2 ∧ (keysAt n).length ≤ 9 ∧ ∃ ln, ((bkLines r ++ ([""] : List Str)).map V.str)[n]? = some (.str ln) ∧ ∀ {Q' : VK} {E' : XK}, (∀ H' d, H2 d = none → Ex H2 H' → DictAt K H' d ks2 r → Q' (.ref d) H') → ∀ {H3 : Hp}, Ex H2 H3 → sp_rline K [x, .str ln] H3 Q' E' := by
        by_cases h7 : n < 7
        · obtain ⟨p, hp, mp, k1, k2⟩ := keysAt_succ h7
          have ex : x = pV p := by
            rw [List.getElem?_append_left (by rw [List.length_map]; exact h7), List.getElem?_map, hp] at hx
            exact (Option.some.inj hx).symm
          subst ex
          refine ⟨[p], k1, k2, by show 1 ≤ 2; omega, ?_, lineT (p.s :: partWs r p), ?_, fun {Q' E'} k {H3} e3 => .inl ⟨p, r, rfl, mp, ok, fun H' d hd e hdd => k H' d (fresh_back e3 hd) (e3.trans e) hdd⟩⟩
          · unfold keysAt
            rw [if_pos (by omega), List.length_take]
            omega
          · unfold bkLines
            rw [List.getElem?_map, List.getElem?_append_left (by rw [List.length_append, List.length_map]; show n < 7 + 1; omega), List.getElem?_append_left (by rw [List.length_map]; exact h7), List.getElem?_map, hp]
            rfl
        · have en : n = 7 := by omega
          subst en
          have ex : x = .str "last" := (Option.some.inj hx).symm
          subst ex
          exact ⟨[.shared, .settles], by decide, by decide, by decide, by decide, lineT [shW r.shared, seW r.settles], rfl, fun {Q' E'} k {H3} e3 => .inr ⟨r, rfl, fun H' d hd e hdd => k H' d (fresh_back e3 hd) (e3.trans e) hdd⟩⟩
      obtain ⟨ks2, k1, k2, l2, l1, ln, hln, hrl⟩ := told
      refine q_asgR (if_rawT (tst rfl rfl) fun H3 e3 => call2_raw (ev_var rfl) (fun _ e => ev_op (ev_var rfl) (ev_var rfl) (rv_ixL (sq_of (e _ _ (e3 _ _ h2))) (atI_nat hln))) fun H4 e4 => hrl (fun H5 d hd e5 hdd => ?_) (e3.trans e4))
      show tSeq _ _ _ [some (.str (bkText r)), some (.ref ls), some (.ref pd), some (nV n), some x, some (.ref d)] H5
      refine q_when (b := false) (et_test (ev_op (ev_var rfl) ev_c (rv_isN rfl))) (fun z => nomatch z) fun _ H6 e6 => ?_
      refine star2_raw (K := K) (r := r) rfl rfl (d2.ex (e5.trans e6)) (hdd.ex e6) k2 (by omega) fun p' H7 hp' e7 d7 => ?_
      rw [← k1] at d7
      exact ⟨_, _, _, _, rfl, z1.trans (e2.trans ((e5.trans e6).trans e7)), d7⟩
    · obtain ⟨pd, x3, x4, x5, rfl, z1, z2⟩ := z
      have z2 : DictAt K H' pd lineKs r := z2
      have h2 : H' ls = some (.lst ((bkLines r ++ ([""] : List Str)).map V.str)) := z1 _ _ hc
      have xH : Ex H H' := xc.trans z1
      refine q_when (b := false) (et_test (ev_neLL (c := true) (xs := [.str ""]) (ys := [.str ""]) (el_is (el_sl (ev_var rfl) (eo_some (ev_lenT ev_c (T.s_LINES H'))) eo_none (sq_of h2)) rfl) (fun H1 e1 => el_lst (ea_cons ev_c ea_nil) (by show 1 ≤ 100000; omega)) rfl rfl (by decide +kernel) (by decide +kernel) (by decide +kernel))) (fun z => nomatch z) fun _ H3 e3 => ?_
      have d3 := z2.ex e3
      obtain ⟨f, hf, hv⟩ := id d3
      obtain ⟨at_, ta, xt⟩ := hv .take (lineKs_mem _)
      obtain ⟨am, tm, xm⟩ := hv .move (lineKs_mem _)
      have tsh : f .shared = .bl r.shared := hv .shared (lineKs_mem _)
      have tba : f .batch = nV r.batch := hv .batch (lineKs_mem _)
      have g : ∀ (p : Pt) {G : Hp}, Ex H3 G → Ev (tDGet (tVar 2) (tC (.str p.s))) [some (.str (bkText r)), some (.ref ls), some (.ref pd), x3, x4, x5] G (f p) := fun p {G} e => ev_get (ev_var rfl) (e _ _ hf) (lineKs_mem p)
      have ne : r.take ≠ [] := fun z => by
        have := ok.t.2.1
        rw [z] at this
        cases this
      refine q_when (b := false) (et_is (et_not (et_B (ev_call (ea_cons (ev_is (g .take (Ex.refl _)) ta) (ea_cons (ev_is (g .batch (Ex.refl _)) tba) ea_nil)) (z := .bl (pBatch r.take r.batch)) (fun _ e _ q _ => ⟨at_, r.take, r.batch, rfl, xt.ex e, ne, q⟩)))) (by rw [ok.t.2.2]; rfl)) (fun z => nomatch z) fun _ H4 e4 => ?_
      refine q_when (b := false) (et_is (et_not (et_B (ev_call (ea_cons (ev_is (g .move e4) tm) (ea_cons (ev_is (g .shared e4) tsh) ea_nil)) (z := .bl (pShared r.move r.shared)) (fun _ e _ q _ => ⟨am, r.move, r.shared, rfl, xm.ex (e4.trans e), q⟩)))) (by rw [ok.m.2.2]; rfl)) (fun z => nomatch z) fun _ H5 e5 => ?_
      have e35 := e4.trans e5
      have hf5 : H5 pd = some (.dK (kvs lineKs f)) := e35 _ _ hf
      refine s_retR (fun pk hpk => ⟨_, rfl, upd_same, pd, lineKs.map f, rfl, (ne_of_none hf5 hpk).symm, .inl (by
        rw [upd_ne (ne_of_none hf5 hpk), hf5]
        rfl), rfl, (by show 9 ≤ 1000; omega), fun x dy hx0 hdy ndx => ?_⟩)
      have hpk1 : H5 pk = none := hpk
      have nxk : x ≠ pk := fun z => by rw [z, upd_same] at hx0; cases hx0
      have nyk : dy ≠ pk := fun z => by rw [z, upd_same] at hdy; cases hdy
      have hx1 : H5 x = none := by rwa [upd_ne nxk, upd_ne nxk] at hx0
      have hy1 : H5 dy = none := by rwa [upd_ne nyk, upd_ne nyk] at hdy
      refine ⟨H5, x, dy, r, f, rfl, ?_, hx1, upd_same, fun p => (hv p (lineKs_mem p)).ex e35, ok.n, fun H6 e6 hb6 => ⟨rfl, ?_⟩⟩
      · exact Ex.mut (Ex.mut (Ex.mut (Ex.new hpk1) hpk1) hy1) hx1
      · have xx : Ex H H5 := (xH.trans e3).trans e35
        have hbk := hb6.at
        rw [rN_ok ok] at hbk
        exact q H6 x (fresh_back xx hx1) (xx.trans e6) hbk
end
end My
namespace My
open PySem PySem.Spec PyProof.Rows L2 GL Evl StX SkE
/-! ### the law's own text -/
theorem permErase {α : Type} : ∀ (l : List α) (i : Nat) (x : α), l[i]? = some x → (x :: l.eraseIdx i).Perm l
  | [], i, x, h => by cases h
  | y :: l, 0, x, h => by
    cases h
    exact List.Perm.refl _
  | y :: l, i + 1, x, h => by
    rw [List.getElem?_cons_succ] at h
    rw [List.eraseIdx_cons_succ]
    exact (List.Perm.swap y x _).trans ((permErase l i x h).cons y)
theorem erase_mapW : ∀ (l : Rw) (i : Nat), (l.map wV).eraseIdx i = (l.eraseIdx i).map wV
  | [], _ => rfl
  | _ :: _, 0 => rfl
  | x :: l, i + 1 => by
    rw [List.map_cons, List.eraseIdx_cons_succ, List.eraseIdx_cons_succ, List.map_cons, erase_mapW l i]
def sp_Lmixed (K : PySem.W.Frag) : Sp := fun vs H Q _ => ∃ a l, ∃ st : Rw, vs = [.ref a, .ref l] ∧ PotAt H a ∧ SqL K H l (st.map wV) ∧ st.length ≤ 50 ∧ ∀ H' p (ds : Rw), H p = none → ExB a H H' → PotAt H' a → H' p = some (.lst (ds.map wV)) → ds.Perm st → Q (.ref p) H'
def sp_Lkinds (K : PySem.W.Frag) : Sp := fun vs H Q _ => ∃ a, ∃ us : Rw, vs = [.ref a] ∧ RowAt K H a us ∧ ∀ H' p, Ex H H' → RowX K H' p (nrm us) → Q (.ref p) H'
def sp_Ltext (K : PySem.W.Frag) : Sp := fun vs H Q _ => ∃ d ks r, vs = [.ref d] ∧ DictAt K H d ks r ∧ (∀ p, p ∈ ks) ∧ OkN r ∧ RetV (.str (bkText (rN r))) H Q
section
variable {P : Program} {w : World} {K : PySem.W.Frag} {mg : Str → Option Value} {base : Heap} {C : Addr} {H H' H0 H1 G : Hp} {σ : L2.St} {te tb ta tc tl : TE} {t tt : TT} {tu tz : TS} {tA : TA} {E Er : XK} {D : Ends} {a b d : Addr} {us : Rw} {xs ys : List V} {rs qs : List Rw} {ks ls : List Pt} {r l : Ru} {v : V} {Q : VK} {j : Nat} {vs : List Nat} {s1 s2 z : Str}
theorem lc_R1 {j : Nat} {vs : List Nat} {n : Nat} {Q : VK} (Pv : Addr → Nat → Hp → Prop) (h : EvA tA σ H [nV n]) (hn : n ≤ 40000) (h0 : ∀ H1 Dl, Ex H H1 → H1 Dl = none → Pv Dl 0 (upd H1 Dl (.lst [])))
    (hs : ∀ Dl (i : Nat) H', i < n → Pv Dl i H' → wipe ((wipe σ vs).set j (some (nV i))) vs = wipe σ vs ∧ t ((wipe σ vs).set j (some (nV i))) H' fun b H3 => if b = true then te ((wipe σ vs).set j (some (nV i))) H3 fun y H4 => ∃ acc, H4 Dl = some (.lst acc) ∧ acc.length < sizeLine ∧ Pv Dl (i + 1) (upd H4 Dl (.lst (acc ++ [y]))) else Pv Dl (i + 1) H3)
    (hd : ∀ Dl H', Pv Dl n H' → Q (.ref Dl) H') : tLc (iRng1 tA) (gName j) t te vs σ H Q := h H (Ex.refl H) _ fun H1 e1 => ⟨(n : Int), rfl, by omega, by omega, fun Dl hD =>
  lc_range (lo := 0) (n := (n : Int).toNat) (Pv Dl) (h0 H1 Dl e1 hD) (fun i H' hi p => by
    have e0 : (0 : Int) + (i : Int) = (i : Int) := Int.zero_add _
    rw [e0]
    exact hs Dl i H' (by omega) p) (fun H' p => hd Dl H' (by rwa [Int.toNat_natCast] at p))⟩
theorem ok_Lmixed (T : Txt K mg w) (G_Ldraw : FnG P w K mg base CX0 1 T.f_Ldraw T.fd_Ldraw ["_law_pot_here", "_law_sides"] sp_Ldraw) : FnG P w K mg base CX0 2 T.f_Lmixed T.fd_Lmixed ["_law_pot_here", "_law_some"] (sp_Lmixed K) := by
  skip
  refine okG T.F_Lmixed sc_Lmixed (fun vs H Q E h => ?_) (fun cdv A outer s H vs Q E gd hr h => ?_)
  · obtain ⟨_, _, _, rfl, _⟩ := h
    all_goals rfl
  · obtain ⟨a, l, st, rfl, hp, hs, hl, q⟩ := h
    refine ⟨_, (pss_cons (ps_set (i := 2) sc_Lmixed.nd rfl (Or.inr rfl) (pe_callTy call_list_of (by rfl) T.z_list (by decide +kernel) (pa_cons (pv 1) pa_nil))) (pss_one (ps_ret (pe_lc (own := [("_law_turn", 3)]) (g := gName 3) rfl sc_Lmixed.nd (pi_range1 (by rfl) T.z_range (pa_cons (pe_callB call_len_seq (by rfl) T.z_len PySem.boot_len (pa_cons (pv 1) pa_nil)) pa_nil)) (blkOk_by (N := N_Lmixed) (sc := defScope s_Lmixed) (by decide +kernel)) (fun _ _ _ _ _ => (pg_name (i := 3) sc_Lmixed.nd rfl (Or.inl rfl) (Or.inr rfl))) (fun _ _ _ _ _ => pts_nil) (fun _ _ _ _ _ => (show PE _ _ (tBM K "list" rPopAt _ _) from (pe_bm PySem.F.plainAttrs_list PySem.F.slot_list_pop PySem.F.type_list_pop mt_popAt (pv 2) (pa_cons (pc gd G_Ldraw (hr.mono (by decide)) (by rfl) T.m_Ldraw T.F_Ldraw.kp T.b_Ldraw .nil pass0 (pa_cons (pv 0) (pa_cons (pe_callB (show CallR _ (.builtin "len") (rLenS K) from call_len_seq) (by rfl) T.z_len PySem.boot_len (pa_cons (pv 2) pa_nil)) pa_nil))) pa_nil)))))))), ?_⟩
    refine q_asgL (el_list (ev_var rfl) hs) fun pk H1 hpk e1 h1 => ?_
    have npa : pk ≠ a := by
      obtain ⟨x, y, hx, _⟩ := id hp
      exact (ne_of_none hx hpk).symm
    refine s_retR (lc_R1 (n := st.length) (fun Dl i H' => ∃ ds rest : Rw, ExB a H H' ∧ PotAt H' a ∧ H' pk = some (.lst (rest.map wV)) ∧ H' Dl = some (.lst (ds.map wV)) ∧ (ds ++ rest).Perm st ∧ ds.length = i ∧ H Dl = none ∧ Dl ≠ a ∧ Dl ≠ pk) (ea_cons (ev_is (ev_len (ev_var rfl) (ex_l e1 hs)) (by rw [List.length_map])) ea_nil) (by omega) (fun H2 Dl e2 hD => ?_) (fun Dl i H' hi z => ?_) (fun Dl H' z => ?_))
    · obtain ⟨x, y, hx, _⟩ := id hp
      have hD0 := fresh_back (e1.trans e2) hD
      have nDa : Dl ≠ a := (ne_of_none hx hD0).symm
      have nDp : Dl ≠ pk := (ne_of_none (e2 _ _ h1) hD).symm
      exact ⟨[], st, (ExB.of (e1.trans e2)).mut hD0, (hp.ex (e1.trans e2)).ex (Ex.new hD), Ex.new hD _ _ (e2 _ _ h1), upd_same, List.Perm.refl _, rfl, hD0, nDa, nDp⟩
    · obtain ⟨ds, rest, x5, p5, hk5, hD5, pm, hlen, hD0, nDa, nDp⟩ := z
      have hrl : rest.length = st.length - i := by
        have := pm.length_eq
        rw [List.length_append] at this
        omega
      refine ⟨rfl, yes_raw ?_⟩
      refine ev_var (i := 2) (v := .ref pk) rfl H' (Ex.refl H') _ fun H6 e6 => ⟨Or.inl ⟨rfl, _, sq_of (e6 _ _ hk5)⟩, ?_⟩
      refine dr (n := rest.length) (ea_cons (ev_var rfl) (ea_cons (ev_is (ev_len (ev_var rfl) (sq_of (e6 _ _ hk5))) (by rw [List.length_map])) ea_nil)) (p5.ex e6) (by omega) (by omega) fun H7 d x7 p7 hd => ?_
      have hk7 := x7 _ _ npa (e6 _ _ hk5)
      have hD7 := x7 _ _ nDa (e6 _ _ hD5)
      refine ⟨pk, rest.map wV, (d : Int), d, wV (rest.getD d .take), rfl, rfl, hk7, by omega, by omega, ?_, (by rw [List.getElem?_map, List.getD_eq_getElem?_getD, List.getElem?_eq_getElem hd]; rfl), ?_⟩
      · unfold seqIndex?
        rw [List.length_map]
        have h1 : ¬ ((d : Int) < 0) := by omega
        have h2 : ((0 : Int) ≤ (d : Int)) ∧ ((d : Int) < (rest.length : Int)) := ⟨by omega, by omega⟩
        simp only [h1, if_false, decide_true, h2.1, h2.2, Bool.and_self, if_true]
        simp
      · have pm1 : (rest.getD d .take :: rest.eraseIdx d).Perm rest := permErase rest d _ (by rw [List.getD_eq_getElem?_getD, List.getElem?_eq_getElem hd]; rfl)
        refine ⟨ds.map wV, by rw [upd_ne nDp]; exact hD7, sz_lt (by rw [List.length_map]; omega), ds ++ [rest.getD d .take], rest.eraseIdx d, ?_, ?_, ?_, ?_, ?_, by rw [List.length_append, List.length_singleton]; omega, hD0, nDa, nDp⟩
        · exact ((x5.trans ((ExB.of e6).trans x7)).mut hpk).mut hD0
        · obtain ⟨u, v, hu, hh⟩ := p7
          exact ⟨u, v, by rw [upd_ne nDa.symm, upd_ne npa.symm]; exact hu, hh⟩
        · rw [upd_ne nDp.symm, upd_same, erase_mapW]
        · rw [upd_same, List.map_append]
          rfl
        · rw [List.append_assoc]
          exact ((List.Perm.refl ds).append pm1).trans pm
    · obtain ⟨ds, rest, x5, p5, hk5, hD5, pm, hlen, hD0, nDa, nDp⟩ := z
      have hr0 : rest = [] := by
        have := pm.length_eq
        rw [List.length_append] at this
        exact List.eq_nil_of_length_eq_zero (by omega)
      subst hr0
      rw [List.append_nil] at pm
      exact q H' Dl ds hD0 x5 p5 hD5 pm
theorem ok_Lkinds_of (T : Txt K mg w)  : FnG P w K mg base CX0 1 T.f_Lkinds_of T.fd_Lkinds_of ["_law_some"] (sp_Lkinds K) := by
  skip
  refine okG T.F_Lkinds_of sc_Lkinds_of (fun vs H Q E h => ?_) (fun cdv A outer s H vs Q E gd hr h => ?_)
  · obtain ⟨_, _, rfl, _⟩ := h
    all_goals rfl
  · obtain ⟨a, us, rfl, ra, q⟩ := h
    refine ⟨_, (pss_one (ps_ret (pe_callTy (show CallR _ (.type "tuple") (rTupX K) from call_tupleX) (by rfl) T.z_tuple (by decide +kernel) (pa_cons (pe_lc (own := [("_law_sort", 1)]) (g := gName 1) rfl sc_Lkinds_of.nd (pi_list (pe_lst (pa_cons pe_str (pa_cons pe_str (pa_cons pe_str (pa_cons pe_str pa_nil)))))) (blkOk_by (N := N_Lkinds_of) (sc := defScope s_Lkinds_of) (by decide +kernel)) (fun _ _ _ _ _ => (pg_name (i := 1) sc_Lkinds_of.nd rfl (Or.inl rfl) (Or.inr rfl))) (fun _ _ _ _ _ => pts_one (pt_cmpR (show OpR _ (compareOp .In) (rIn K false) from op_in_seq) (pv 1) (pv 0) (by rfl))) (fun _ _ _ _ _ => (pv 1))) pa_nil)))), ?_⟩
    refine s_retR (cb_L (el_lcWN (us := kindRows) (fun k => decide (k ∈ us)) wV (el_lst (ea_cons (ev_lit (w0 := .take) rfl) (ea_cons (ev_lit (w0 := .give) rfl) (ea_cons (ev_lit (w0 := .move) rfl) (ea_cons (ev_lit (w0 := .lift) rfl) ea_nil)))) (by show 4 ≤ 100000; omega)) (by decide) (fun _ => rfl) (fun u H1 e1 hu => et_test (ev_op (ev_var rfl) (ev_var rfl) (rv_inW (ra.ex e1).sq))) (fun u H1 e1 hu _ => ev_var rfl)) fun sl H1 hsl e1 h1 => ⟨sl, _, rfl, sq_of h1, fun t o ht bo => q _ t (e1.trans (Ex.new ht)) (.fx upd_same bo)⟩)
theorem rv_addS (h : s1.length + s2.length ≤ 100000) : RV (fun x y H Q => ∃ i j, x = .str i ∧ y = .str j ∧ i.length + j.length ≤ sizeLine ∧ Q (.str (i ++ j)) H) (.str s1) (.str s2) H (.str (s1 ++ s2)) := fun H1 _ Q q => ⟨s1, s2, rfl, rfl, sz_of h, q H1 (Ex.refl H1)⟩
theorem el_listP {te : TE} (h : EvP K te σ H (.row us)) : EvL (tCB (rListS K) (tCons te tNil)) σ H (us.map wV) := fun H1 e Q q => h H1 e _ fun v H2 e2 hv => by
  obtain ⟨a, rfl, rx⟩ := hv
  exact ⟨a, us.map wV, rfl, .inr rx.sq, fun l hl => q l _ (fresh_back e2 hl) (e2.trans (Ex.new hl)) upd_same⟩
theorem el_catL (ha : EvL ta σ H xs) (hb : ∀ H1, Ex H H1 → EvL tb σ H1 ys) (hl : xs.length + ys.length ≤ 100000) : EvL (tOp rCat ta tb) σ H (xs ++ ys) := el_cat ha hb hl
theorem el_kinds {te : TE} (h : EvP K te σ H (.hold us)) : EvL (tCB (rListS K) (tCons (tCall (sp_Lkinds K) [] Er (tCons te tNil)) tNil)) σ H ((nrm us).map wV) := fun H1 e Q q => cb1_raw (cons1_raw (te := te) (h H1 e _ fun v H2 e2 hv => by
  obtain ⟨a, rfl, rx⟩ := hv
  exact ⟨a, us, rfl, rx, fun H3 p e3 r3 => ⟨p, (nrm us).map wV, rfl, .inr r3.sq, fun l hl => q l _ (fresh_back (e2.trans e3) hl) ((e2.trans e3).trans (Ex.new hl)) upd_same⟩⟩))
theorem ep_getWd {te tb : TE} {p : Pt} (h : Ev te σ H (.ref d)) (h2 : Ev tb σ H (.str p.s)) (hd : DictAt K H d ks r) (hp : p ∈ ks) {pv : Pv} (e : r.get p = pv) : EvP K (tDGet te tb) σ H pv := by
  rw [← e]
  exact ep_getW h h2 hd hp
theorem words_len (us : Rw) : ∀ t ∈ us.map Wd.s, t.length ≤ 7 := fun t ht => by
  obtain ⟨u, _, rfl⟩ := List.mem_map.mp ht
  have := wd_len u
  omega
theorem join_sz {ts : List Str} (h : ts.length ≤ 7) (hb : ∀ t ∈ ts, t.length ≤ 7) : (ts.map (·.length)).sum + ts.length * (Str.ofString " ").length ≤ 16777216 := by
  have := sum_len hb
  have e : (Str.ofString " ").length = 1 := by decide
  rw [e]
  omega
theorem ok_Ltext (T : Txt K mg w) (G_Lkinds_of : FnG P w K mg base CX0 1 T.f_Lkinds_of T.fd_Lkinds_of ["_law_some"] (sp_Lkinds K)) : FnG P w K mg base CX0 2 T.f_Ltext T.fd_Ltext ["_law_rules"] (sp_Ltext K) := by
  skip
  refine okG T.F_Ltext sc_Ltext (fun vs H Q E h => ?_) (fun cdv A outer s H vs Q E gd hr h => ?_)
  · obtain ⟨_, _, _, rfl, _⟩ := h
    all_goals rfl
  · obtain ⟨d, ks, r, rfl, hd, hk, okn, q⟩ := h
    refine ⟨_, (pss_cons (ps_setLc (i := 1) (own := [("_law_sort", 2)]) (g := gName 2) rfl sc_Ltext.nd rfl rfl (sw_true rfl rfl rfl (by decide +kernel)) (pi_list (pe_lst (pa_cons pe_str (pa_cons pe_str (pa_cons pe_str (pa_cons pe_str pa_nil)))))) (blkOk_by (N := N_Ltext) (sc := defScope s_Ltext) (by decide +kernel)) (fun _ _ _ _ _ => (pg_name (i := 2) sc_Ltext.nd rfl (Or.inl rfl) (Or.inr rfl))) (fun _ _ _ _ _ => pts_nil) (fun _ _ _ _ _ => (show PE _ _ (tM1 (rJoin K) _ _) from pe_join pe_str (pe_op op_cat (pe_lst (pa_cons (pv 2) pa_nil)) (pe_callTy (show CallR _ (.type "list") (rListS K) from call_list_of) (by rfl) T.z_list (by decide +kernel) (pa_cons (pe_dget (hu_of hr) (pv 0) (pv 2) (fun _ _ => rfl)) pa_nil)))))) (pss_cons (ps_expr (pe_bm PySem.F.plainAttrs_list PySem.F.slot_list_append PySem.F.type_list_append mt_append (pv 1) (pa_cons (pe_op op_add_str pe_str (pe_dget (hu_of hr) (pv 0) pe_str (fun _ _ => rfl))) pa_nil))) (pss_cons (ps_expr (pe_bm PySem.F.plainAttrs_list PySem.F.slot_list_append PySem.F.type_list_append mt_append (pv 1) (pa_cons (pe_join pe_str (pe_op op_cat (pe_lst (pa_cons pe_str pa_nil)) (pe_callTy call_list_of (by rfl) T.z_list (by decide +kernel) (pa_cons (pc gd G_Lkinds_of (hr.mono (by decide)) (by rfl) T.m_Lkinds_of T.F_Lkinds_of.kp T.b_Lkinds_of .nil pass0 (pa_cons (pe_dget (hu_of hr) (pv 0) pe_str (fun _ _ => rfl)) pa_nil)) pa_nil)))) pa_nil))) (pss_cons (ps_expr (pe_bm PySem.F.plainAttrs_list PySem.F.slot_list_append PySem.F.type_list_append mt_append (pv 1) (pa_cons (pe_op op_add_str pe_str (pe_callTy call_str_int (by rfl) T.z_str (by decide +kernel) (pa_cons (pe_dget (hu_of hr) (pv 0) pe_str (fun _ _ => rfl)) pa_nil))) pa_nil))) (pss_cons (ps_expr (pe_bm PySem.F.plainAttrs_list PySem.F.slot_list_append PySem.F.type_list_append mt_append (pv 1) (pa_cons (pe_op op_add_str (pe_op op_add_str (pe_ifExp (pt_val (pe_dget (hu_of hr) (pv 0) pe_str (fun _ _ => rfl))) pe_str pe_str) pe_str) (pe_ifExp (pt_val (pe_dget (hu_of hr) (pv 0) pe_str (fun _ _ => rfl))) pe_str pe_str)) pa_nil))) (pss_one (ps_ret (pe_op op_add_str (pe_join pe_str (pv 1)) pe_str)))))))), ?_⟩
    have ok := okn.k
    refine q_asgR ((el_lcWN (us := kindRows) (fun _ => true) (fun u => .str (lineT (u.s :: (rowW r u).map Wd.s))) (el_lst (ea_cons (ev_lit (w0 := .take) rfl) (ea_cons (ev_lit (w0 := .give) rfl) (ea_cons (ev_lit (w0 := .move) rfl) (ea_cons (ev_lit (w0 := .lift) rfl) ea_nil)))) (by show 4 ≤ 100000; omega)) (by decide) (fun _ => rfl) (fun u H1 e1 hu => et_yes) (fun u H1 e1 hu _ => ?_)) H (Ex.refl H) _ fun p H1 hp e1 h1 => ?_)
    · obtain ⟨p0, e0, g0⟩ : ∃ p0 : Pt, wV u = .str p0.s ∧ r.get p0 = .row (rowW r u) := by
        simp only [kindRows, List.mem_cons, List.not_mem_nil, or_false] at hu
        rcases hu with rfl | rfl | rfl | rfl
        · exact ⟨.take, rfl, rfl⟩
        · exact ⟨.give, rfl, rfl⟩
        · exact ⟨.move, rfl, rfl⟩
        · exact ⟨.lift, rfl, rfl⟩
      have h6 : (rowW r u).length ≤ 6 := by
        cases u <;> first | exact ok.t.1.ln | exact ok.g.1.ln | exact ok.m.1.ln | exact ok.l.1.ln
      refine ev_joinN (zs := u.s :: (rowW r u).map Wd.s) ev_c (el_is (el_catL (el_lst (ea_cons (ev_var rfl) ea_nil) (by show 1 ≤ 100000; omega)) (fun H2 e2 => el_listP (us := rowW r u) (ep_getWd (ev_var rfl) (ev_is (ev_var rfl) e0) (hd.ex (e1.trans e2)) (hk p0) g0)) (by rw [List.length_map]; show 1 + _ ≤ 100000; omega)) (by rw [wV_strs]; rfl)) (join_sz (by rw [List.length_cons, List.length_map]; omega) fun t ht => ?_)
      rcases List.mem_cons.mp ht with rfl | ht
      · have := wd_len u
        omega
      · exact words_len _ t ht
    rw [filter_yes] at h1
    have h1' : H1 p = some (.lst (((linePs.take 4).map fun p => lineT (p.s :: partWs (rN r) p)).map V.str)) := h1
    have ez : ∀ {G : Hp}, ExB p H1 G → Ex H G := fun {G} x c o hc => x c o (fun z => by rw [z, hp] at hc; cases hc) (e1 _ _ hc)
    have part : ∀ (pt : Pt) {G : Hp}, Ex H G → ∃ v, Ev (tDGet (tVar 0) (tC (.str pt.s))) [some (.ref d), some (.ref p), none] G v ∧ (r.get pt).At K G v := fun pt {G} e => ev_part rfl (hd.ex e) (hk pt)
    show tSeq _ _ _ [some (.ref d), some (.ref p), none] H1
    obtain ⟨vf, f1, f2⟩ := part .fails e1
    obtain rfl : vf = wV r.fails := f2
    have lf := wd_len r.fails
    have n1 : (Str.ofString "fails ").length = 6 := by decide
    refine q_appX (K := K) rfl h1' (by simp [linePs]) (v := .str (lineT ["fails", r.fails.s])) (ev_is (ev_op ev_c f1 (rv_addS (by omega))) rfl) fun G2 e2 h2 => ?_
    have lh : (nrm r.holds).length ≤ 4 := (nrm_sub r.holds).length_le
    refine q_appX (K := K) rfl h2 (by simp [linePs]) (v := .str (lineT ("holds" :: (nrm r.holds).map Wd.s))) (ev_joinN (zs := "holds" :: (nrm r.holds).map Wd.s) ev_c (el_is (el_catL (xs := [.str "holds"]) (el_lst (ea_cons ev_c ea_nil) (by show 1 ≤ 100000; omega)) (fun H2 e => el_kinds (us := r.holds) (ep_getWd (ev_var rfl) ev_c (hd.ex ((ez e2).trans e)) (hk .holds) rfl)) (by rw [List.length_map]; show 1 + _ ≤ 100000; omega)) (by rw [wV_strs]; rfl)) (join_sz (by rw [List.length_cons, List.length_map]; omega) fun t ht => ?_)) fun G3 e3 h3 => ?_
    · rcases List.mem_cons.mp ht with rfl | ht
      · decide +kernel
      · exact words_len _ t ht
    obtain ⟨vb, b1, b2⟩ := part .batch (ez (e2.trans e3))
    obtain rfl : vb = nV r.batch := b2
    have n2 : (Str.ofString "batch ").length = 6 := by decide
    have nl := (numF ok.b.1 ok.b.2).ln
    have h50 : r.batch ≤ 50 := ok.b.2
    have lg : ((r.batch : Int)).natAbs.log2 < 1920 := by
      rw [Int.natAbs_natCast]
      by_cases e : r.batch = 0
      · rw [e]
        decide
      · have := (Nat.log2_lt e (k := 17)).mpr (by omega)
        omega
    refine q_appX (K := K) rfl h3 (by simp [linePs]) (v := .str (lineT ["batch", numT r.batch])) (ev_is (ev_op ev_c (y := .str (numT r.batch)) (fun J1 j1 Q1 q1 => cb1_raw (b1 J1 j1 _ fun J2 j2 => ⟨(r.batch : Int), rfl, lg, q1 J2 j2⟩)) (rv_addS (by show _ + (numT r.batch).length ≤ _; have : (numT r.batch).length ≤ 2 := nl; omega))) rfl) fun G4 e4 h4 => ?_
    have x4 := (e2.trans e3).trans e4
    obtain ⟨v1, c1, c2⟩ := part .shared (ez x4)
    obtain rfl : v1 = .bl r.shared := c2
    obtain ⟨v2, d1, d2⟩ := part .settles (ez x4)
    obtain rfl : v2 = .bl r.settles := d2
    have l1 := sh_len7 r.shared
    have l2 := se_len7 r.settles
    have n3 : (Str.ofString " ").length = 1 := by decide
    refine q_appX (K := K) rfl h4 (by simp [linePs]) (v := .str (lineT [shW r.shared, seW r.settles])) (ev_is (ev_op (ev_op (ev_if (b := r.shared) (v := .str (shW r.shared)) (et_B c1) (fun z => by unfold shW; rw [if_pos z]; exact ev_c) (fun z => by unfold shW; rw [if_neg (by rw [z]; exact Bool.false_ne_true)]; exact ev_c)) ev_c (rv_addS (by omega))) (ev_if (b := r.settles) (v := .str (seW r.settles)) (et_B d1) (fun z => by unfold seW; rw [if_pos z]; exact ev_c) (fun z => by unfold seW; rw [if_neg (by rw [z]; exact Bool.false_ne_true)]; exact ev_c)) (rv_addS (by rw [Str.length_append]; omega))) rfl) fun G5 e5 h5 => ?_
    have hl : G5 p = some (.lst ((bkLines (rN r)).map V.str)) := h5
    have sl := sum_len (lines_len ok)
    have n8 : (bkLines (rN r)).length = 8 := rfl
    have nn : (Str.ofString "\n").length = 1 := by decide
    have jl := joinS_len (y := "\n") (lines_len ok)
    rw [n8] at sl
    rw [n8, nn] at jl
    rw [← bk_own] at q
    exact s_ret (ev_op (ev_joinV (zs := bkLines (rN r)) ev_c (ev_var rfl) (sq_of hl) (by rw [n8, nn]; omega)) ev_c (rv_addS (by omega))) fun G6 e6 => q G6 ((ez (x4.trans e5)).trans e6)
end
end My
namespace My
open PySem PySem.Spec PyProof.Rows L2 GL Evl StX SkE
/-! ### rules, drawn -/
/-- the parts as they are drawn -/
def drK : List Pt := [.fails, .shared, .batch, .settles, .holds, .take, .give, .lift, .move]
def sp_LanyR (K : PySem.W.Frag) : Sp := fun vs H Q _ => ∃ a m, ∃ ys : List V, vs = [.ref a, .ref m] ∧ PotAt H a ∧ m ≠ a ∧ H m = some (.lst ys) ∧ RowsAt K H ys (moves true) ∧ ∀ H' d r, ExB a H H' → PotAt H' a → H d = none → DictAt K H' d drK r → OkN r → Q (.ref d) H'
theorem nrm_perm {us ws : Rw} (h : us.Perm ws) : nrm us = nrm ws := List.filter_congr fun k _ => decide_eq_decide.mpr h.mem_iff
theorem okN_of {r : Ru} {ws : Rw} (ok : Ok { r with holds := ws }) (h : r.holds.Perm ws) : OkN r := by
  have hw : ws.Sublist kindRows := ok.h
  have e : nrm r.holds = ws := (nrm_perm h).trans (nrm_of hw)
  refine ⟨?_, h.nodup_iff.mpr (holds_nd hw), ?_⟩
  · unfold rN
    rw [e]
    exact ok
  · exact List.all_eq_true.mpr fun u hu => decide_eq_true (hw.subset (h.mem_iff.mp hu))
/-- which moves stand beside this shared -/
def mvFit (b : Bool) (us : Rw) : Bool := b || !decide (us.take 1 = [.off])
section
variable {P : Program} {w : World} {K : PySem.W.Frag} {mg : Str → Option Value} {base : Heap} {C : Addr} {H H' H0 H1 G : Hp} {σ : L2.St} {te tb ta tc tl : TE} {t tt : TT} {tu tz : TS} {tA : TA} {E Er : XK} {D : Ends} {a b d m : Addr} {us : Rw} {xs ys : List V} {rs qs : List Rw} {ks ls : List Pt} {r l : Ru} {v : V} {Q : VK} {j : Nat} {vs : List Nat} {s1 s2 z : Str} {p p1 p2 : Pt}
theorem RowsAt.pot {ys : List V} (h : RowsAt K H ys rs) (e : ExB a H H') (p : PotAt H a) : RowsAt K H' ys rs := h.exB e p.nt
/-- a standing list of rows, some left out -/
theorem ers_fltS {vs : List Nat} {j : Nat} {f : Rw → Bool} (h : Ev tc σ H (.ref m)) (hm : H m = some (.lst ys)) (r0 : RowsAt K H ys rs) (hl : rs.length ≤ 4000) (hj : ∀ x, ((wipe σ vs).set j (some x))[j]? = some (some x)) (hw : ∀ x, wipe ((wipe σ vs).set j (some x)) vs = wipe σ vs)
    (ht : ∀ a us G, Ex H G → RowX K G a us → EvT tt ((wipe σ vs).set j (some (.ref a))) G (f us)) : EvRs K (tLc (iList K tc) (gName j) tt (tVar j) vs) σ H (rs.filter f) := fun H0 e0 Q q => h H0 e0 _ fun H1 e1 => ⟨m, rfl, ⟨_, sq_of (e1 _ _ (e0 _ _ hm))⟩, fun Dl hD => by
  have h1 := e1 _ _ (e0 _ _ hm)
  have r1 := (r0.ex e0).ex e1
  exact lc_it (walk_list (K := K) (a := m) (xs := ys)) (fun k G => ∃ yc, Ex H1 G ∧ G Dl = some (.lst yc) ∧ RowsAt K G yc ((rs.take k).filter f)) ⟨[], Ex.new hD, upd_same, .nil⟩ (fun k G _ z => by
    obtain ⟨_, z1, _⟩ := z
    exact ex_l z1 (sq_of h1)) (fun k v G1 G2 hk z y => by
    obtain ⟨rfl, hv⟩ := y
    obtain ⟨yc, z1, z2, z3⟩ := z
    obtain ⟨a, us, rfl, hu, ra⟩ := (r1.ex z1).at hv
    have kl : k < rs.length := (List.getElem?_eq_some_iff.mp hu).1
    refine ⟨hw _, ?_⟩
    refine ht a us _ ((e0.trans e1).trans z1) ra _ (Ex.refl _) _ fun G3 e3 => ?_
    have tk : (rs.take (k + 1)).filter f = (rs.take k).filter f ++ (if f us then [us] else []) := by
      rw [List.take_add_one, hu, List.filter_append]
      congr 1
      show List.filter f [us] = _
      by_cases e : f us
      · rw [if_pos e, List.filter_cons_of_pos e]
        rfl
      · rw [if_neg e, List.filter_cons_of_neg e]
        rfl
    cases hf : f us with
    | false =>
      refine ⟨yc, z1.trans e3, e3 _ _ z2, ?_⟩
      rw [tk, hf]
      show RowsAt K G3 yc (_ ++ [])
      rw [List.append_nil]
      exact z3.ex e3
    | true =>
      refine ⟨_, hj _, yc, e3 _ _ z2, ?_, yc ++ [.ref a], (z1.trans e3).mut hD, upd_same, ?_⟩
      · have l1 := z3.len
        have l2 := List.length_filter_le f (rs.take k)
        rw [List.length_take] at l2
        rw [sizeLine_eq]
        omega
      · rw [tk, hf]
        have x := (z3.ex e3).app (.cons (ra.ex e3) .nil)
        exact x.exB ExB.set (NoTup.lst (e3 _ _ z2)))
    (fun G z => by
    obtain ⟨yc, z1, z2, z3⟩ := z
    rw [r1.len, List.take_length] at z3
    exact q Dl yc G (fresh_back e1 hD) (e1.trans z1) z2 z3)⟩
/-- d[p1], d[p2] = .., .. -/
theorem q_pair {X Y : Ru → Prop} {i : Nat} (st : Sta K a d ks r H0 H) (hs : σ[i]? = some (some (.ref d))) (n1 : p1 ∉ ks) (n2 : p2 ∉ ks ++ [p1]) (hl : ks.length ≤ 18) (h1 : EvPt K ta σ H a p1 X) (h2 : ∀ H', ExB a H H' → PotAt H' a → EvPt K tb σ H' a p2 Y)
    (k : ∀ H1 l m, X l → Y m → Sta K a d (ks ++ [p1] ++ [p2]) ((r.upd l p1).upd m p2) H0 H1 → tz D σ H1) : tSeq (tAsg (tTupX (tCons ta (tCons tb tNil))) (gTup K 2 (gCons (gSub (tVar i) (tC (.str p1.s)) rSetD) (gCons (gSub (tVar i) (tC (.str p2.s)) rSetD) gNil)))) tz D σ H :=
  h1 H (Ex.refl H) _ fun H1 v1 l1 x1 pp1 hv1 hx1 => h2 H1 x1 pp1 H1 (Ex.refl _) _ fun H2 v2 l2 x2 pp2 hv2 hx2 => ⟨by show 2 ≤ sizeLine; decide, fun t o ht bo => by
    have en : Ex H2 (upd H2 t (.frz o (.tup [v1, v2]))) := Ex.new ht
    have st2 := ((st.ex x1 pp1).ex x2 pp2).ex (ExB.of en) (pp2.ex en)
    obtain ⟨f, hf, _⟩ := id st2.d
    have st3 := st2.put n1 ((hv1.exB x2 pp1.nt).ex en) hf
    obtain ⟨f3, hf3, _⟩ := id st3.d
    exact ⟨t, _, rfl, .inl (.inr ⟨o, upd_same⟩), rfl, _, _, rfl, ⟨_, hs, d, _, rfl, .inl ⟨_, .inr p1.s, hf, rfl, by rw [List.length_map, sizeLine_eq]; omega, rfl⟩, _, _, rfl, ⟨_, hs, d, _, rfl, .inl ⟨_, .inr p2.s, hf3, rfl, by rw [List.length_map, List.length_append, List.length_singleton, sizeLine_eq]; omega, rfl⟩, rfl, k _ l1 l2 hx1 hx2 (st3.put n2 ((hv2.ex en).exB ExB.set (NoTup.dK hf)) hf3)⟩⟩⟩⟩
theorem ep_batch7 {i : Nat} (hp : PotAt H a) (hs : σ[i]? = some (some (.ref a))) : EvPt K (tCall sp_Lpick [] Er (tCons (tVar i) (tCons (tLst (tCons (tC (.int 1)) (tCons (tC (.int 1)) (tCons (tC (.int 2)) (tCons (tC (.int 9)) (tCons (tC (.int 10)) (tCons (tC (.int 50)) (tCons (tOp (rI0 fun i j => .int (i + j)) (tC (.int 1)) (tCall sp_Ldraw [] Er (tCons (tVar i) (tCons (tC (.int 50)) tNil)))) tNil)))))))) tNil))) σ H a .batch (fun l => 1 ≤ l.batch ∧ l.batch ≤ 50) := fun H1 e1 Q q =>
  ⟨_, hs, cons1_raw (lst_raw (cons_raw ev_c fun H2 e2 => cons_raw ev_c fun H3 e3 => cons_raw ev_c fun H4 e4 => cons_raw ev_c fun H5 e5 => cons_raw ev_c fun H6 e6 => cons_raw ev_c fun H7 e7 => cons1_raw (op_raw (ev_raw ev_c fun H8 e8 => dr (n := 50) (ea_cons (ev_var hs) (ea_cons (ev_is ev_c rfl) ea_nil)) ((((((((hp.ex e1).ex e2).ex e3).ex e4).ex e5).ex e6).ex e7).ex e8) (by omega) (by omega) fun H9 j x9 p9 hj => rv_I0 H9 (Ex.refl _) _ fun H10 e10 => ⟨(by show 7 ≤ sizeLine; decide), fun p hp8 => by
    have x18 : ExB a H1 H10 := ((ExB.of ((((((e2.trans e3).trans e4).trans e5).trans e6).trans e7).trans e8)).trans x9).trans (ExB.of e10)
    have p8 := p9.ex e10
    refine ⟨a, p, _, rfl, p8.ex (Ex.new hp8), p8.ne hp8, upd_same, (by show 1 ≤ 7; omega), (by show 7 ≤ 1000; omega), fun H11 v x11 p11 hv => ?_⟩
    have x19 := (x18.trans (ExB.of (Ex.new hp8))).trans x11
    have go : ∃ n : Nat, v = nV n ∧ 1 ≤ n ∧ n ≤ 50 := by
      simp only [List.mem_cons, List.not_mem_nil, or_false] at hv
      rcases hv with rfl | rfl | rfl | rfl | rfl | rfl | rfl
      · exact ⟨1, rfl, by omega, by omega⟩
      · exact ⟨1, rfl, by omega, by omega⟩
      · exact ⟨2, rfl, by omega, by omega⟩
      · exact ⟨9, rfl, by omega, by omega⟩
      · exact ⟨10, rfl, by omega, by omega⟩
      · exact ⟨50, rfl, by omega, by omega⟩
      · exact ⟨1 + j, by show V.int _ = V.int _; congr 1, by omega, by omega⟩
    obtain ⟨n, rfl, n1, n2⟩ := go
    exact q H11 (nV n) ⟨[], [], [], [], .undo, true, [], n, true⟩ x19 p11 rfl ⟨n1, n2⟩⟩))))⟩
theorem ep_mixed {i k : Nat} {p : Addr} {ws : Rw} (hp : PotAt H a) (hs : σ[i]? = some (some (.ref a))) (hk : σ[k]? = some (some (.ref p))) (h : H p = some (.lst (ws.map wV))) (hl : ws.length ≤ 50) :
    EvPt K (tCB (fun xs H Q => ∃ p ys, xs = [.ref p] ∧ ((SqL K H p ys ∧ ∀ l, H l = none → Q (.ref l) (upd H l (.tup ys))) ∨ (SqT K H p ys ∧ Q (.ref p) H))) (tCons (tCall (sp_Lmixed K) [] Er (tCons (tVar i) (tCons (tVar k) tNil))) tNil)) σ H a .holds (fun l => l.holds.Perm ws) := fun H1 e1 Q q =>
  cb1_raw ⟨_, hs, _, hk, a, p, ws, rfl, hp.ex e1, sq_of (e1 _ _ h), hl, fun H2 t ds ht x2 p2 h2 pm => ⟨t, ds.map wV, rfl, .inl ⟨sq_of h2, fun u hu => q _ (.ref u) ⟨[], [], [], [], .undo, true, ds, 1, true⟩ (x2.trans (ExB.of (Ex.new hu))) (p2.ex (Ex.new hu)) ⟨u, rfl, .tup upd_same⟩ pm⟩⟩⟩
end
end My
namespace My
open PySem PySem.Spec PyProof.Rows L2 GL Evl StX SkE
/-! ### rules, drawn and changed -/
def sp_LturnR (K : PySem.W.Frag) : Sp := fun vs H Q _ => ∃ a d m r, ∃ ys : List V, vs = [.ref a, .ref d, .ref m] ∧ PotAt H a ∧ DictAt K H d drK r ∧ OkN r ∧ m ≠ a ∧ H m = some (.lst ys) ∧ RowsAt K H ys (moves true) ∧ ∀ H' c l, ExB a H H' → PotAt H' a → H c = none → DictAt K H' c drK l → OkN l → Q (.ref c) H'
def sp_Lchanged (K : PySem.W.Frag) : Sp := fun vs H Q _ => ∃ d r l p v, vs = [.ref d, .str (Pt.s p), v] ∧ DictAt K H d drK r ∧ (Ru.get l p).At K H v ∧ ∀ H' c, H c = none → Ex H H' → DictAt K H' c drK (r.upd l p) → Q (.ref c) H'
theorem drK_mem (p : Pt) : p ∈ drK := by cases p <;> decide
theorem paired_app {α β : Type} {F : α → β → Prop} : ∀ {xs ys : List α} {us vs : List β}, Paired F xs us → Paired F ys vs → Paired F (xs ++ ys) (us ++ vs)
  | [], _, [], _, .nil, h => h
  | _ :: _, _, _ :: _, _, .cons a b, h => .cons a (paired_app b h)
theorem pairedT {α β : Type} {F G : α → β → Prop} : ∀ {l₁ : List α} {l₂ : List β}, Paired F l₁ l₂ → (∀ a ∈ l₁, ∀ b, F a b → G a b) → Paired G l₁ l₂
  | [], [], .nil, _ => .nil
  | a :: l₁, b :: l₂, .cons h t, f => .cons (f a List.mem_cons_self b h) (pairedT t fun x hx => f x (List.mem_cons_of_mem _ hx))
theorem moves_fit : ((moves true).filter (mvFit true)) ≠ [] ∧ ((moves true).filter (mvFit false)) ≠ [] := by decide +kernel
theorem mv_shared {us : Rw} (h : us = [] ∨ us.head? = some .home) (b : Bool) : pShared us b = true := by
  unfold pShared
  rcases h with rfl | h
  · rw [decide_eq_true rfl, Bool.or_true, Bool.true_or]
  · rw [decide_eq_true h, Bool.or_true]
section
variable {P : Program} {w : World} {K : PySem.W.Frag} {mg : Str → Option Value} {base : Heap} {C : Addr} {H H' H0 H1 G : Hp} {σ : L2.St} {te tb ta tc tl : TE} {t tt : TT} {tu tz : TS} {tA : TA} {E Er : XK} {D : Ends} {a b d m : Addr} {us : Rw} {xs ys : List V} {rs qs : List Rw} {ks ls : List Pt} {r l : Ru} {v : V} {Q : VK} {j : Nat} {vs : List Nat} {s1 s2 z : Str} {p p1 p2 : Pt}
theorem cut_one (us : Rw) : cutV (us.map wV) none (some ((1 : Nat) : Int)) = (us.take 1).map wV := by
  cases us with
  | nil => rfl
  | cons u us => exact cut_to (by rw [List.length_cons]; omega)
theorem all_one (us : Rw) : HT.sIx us.length 0 none = 0 → HT.sIx us.length us.length (some ((1 : Nat) : Int)) = us.length → us.take 1 = us := by
  cases us with
  | nil => exact fun _ _ => rfl
  | cons u us => exact all_to (by rw [List.length_cons]; omega)
theorem ev_neW (ha : RowAt K H a us) (h : Ev ta σ H (.ref a)) (hu : EvR K tb σ H ws) : Ev (tOp (rNeD K) ta tb) σ H (.bl (!decide (us = ws))) := fun H1 e Q q =>
  h H1 e _ fun H2 e2 => hu H2 (e.trans e2) _ fun p H3 e3 hp => ⟨dRow us, dRow ws, (ha.ex ((e.trans e2).trans e3)).dp, hp.dp, row_shaped _, row_shaped _, by
    rw [eqv_row]
    exact q H3 (e2.trans e3)⟩
/-- row[:1] != ("off",) -/
theorem et_notOff (h : Ev te σ H (.ref a)) (ra : RowX K H a us) : EvT (tTest (tOp (rNeD K) (tSl (rSlA K) te tNoPart (tPart (tC (.int 1)))) (tTupX (tCons (tC (.str "off")) tNil)))) σ H (!decide (us.take 1 = [.off])) := fun H1 e1 Q q =>
  test_raw (op_raw (h H1 e1 _ fun H2 e2 => (eo_none : EvO _ _ H2 none) H2 (Ex.refl H2) _ fun H3 e3 => (eo_some ev_c : EvO _ _ H3 (some ((1 : Nat) : Int))) H3 (Ex.refl H3) _ fun H4 e4 => by
    have x4 := ((e1.trans e2).trans e3).trans e4
    have y4 := (e2.trans e3).trans e4
    have fin : ∀ p H5, Ex H4 H5 → RowAt K H5 p (us.take 1) → tTupX (tCons (tC (.str "off")) tNil) σ H5 fun y H6 => rNeD K (.ref p) y H6 fun x H' => ∃ k, x = .bl k ∧ Q k H' := fun p H5 e5 rp => (er_1 (w1 := .off) rfl : EvR K _ σ H5 [.off]) H5 (Ex.refl H5) _ fun p2 H6 e6 hp2 => ⟨dRow (us.take 1), dRow [.off], (rp.ex e6).dp, hp2.dp, row_shaped _, row_shaped _, _, by rw [eqv_row], q H6 ((y4.trans e5).trans e6)⟩
    refine ⟨a, us.map wV, rfl, (ra.ex x4).sq, fun z => ?_, fun z p hp => ?_⟩
    · rw [List.length_map] at z
      have ec := all_one us z.1 z.2
      have r := (ra.ex x4).at_
      rw [← ec] at r
      exact fin a H4 (Ex.refl H4) r
    · rw [cut_one]
      exact fin p _ (Ex.new hp) (.tup upd_same)))
/-- dict(list(d.items())) -/
theorem dcopy_raw {i : Nat} (hs : σ[i]? = some (some (.ref d))) (hd : DictAt K H d ks r) (nd : ks.Nodup) (hl : ks.length ≤ 20) (q : ∀ c H3, H c = none → Ex H H3 → DictAt K H3 c ks r → Q (.ref c) H3) :
    tCB (fun xs H Q => ∃ (a : Addr) (ps : List Addr) (kvs : List (Key × V)), xs = [.ref a] ∧ SqL K H a (ps.map V.ref) ∧ Paired (fun p kv => SqT K H p [kV kv.1, kv.2]) ps kvs ∧ ∀ p, H p = none → Q (.ref p) (upd H p (.dK (mergeK [] kvs)))) (tCons (LiI.tListItems (tVar i)) tNil) σ H Q := by
  obtain ⟨f, hf, hfv⟩ := id hd
  refine cb1_raw ⟨_, hs, d, kvs ks f, rfl, hf, fun H1 p ts e1 hp0 hts hpt h1 pr1 => ?_⟩
  have e1' : Ex H H1 := e1
  refine ⟨p, ts, kvs ks f, rfl, sq_of h1, pairedT pr1 fun t ht kv h => st_of h, fun c hc => ?_⟩
  rw [made_kvs f nd]
  exact q c _ (fresh_back e1' hc) (e1'.trans (Ex.new hc)) ⟨f, upd_same, fun p hp => (hfv p hp).ex (e1'.trans (Ex.new hc))⟩
theorem ok_Lany_rules (T : Txt K mg w) (G_Lpick : FnG P w K mg base CX0 2 T.f_Lpick T.fd_Lpick ["_law_pot_here", "_law_some"] sp_Lpick) (G_Ldraw : FnG P w K mg base CX0 1 T.f_Ldraw T.fd_Ldraw ["_law_pot_here", "_law_sides"] sp_Ldraw) (G_Lmixed : FnG P w K mg base CX0 2 T.f_Lmixed T.fd_Lmixed ["_law_pot_here", "_law_some"] (sp_Lmixed K)) (G_Ltakes : FnG P w K mg base CX0 3 T.f_Ltakes T.fd_Ltakes ["_law_amount"] (sp_Ltakes K)) (G_Lgives : FnG P w K mg base CX0 3 T.f_Lgives T.fd_Lgives [] (sp_Lgives K)) (G_Llifts : FnG P w K mg base CX0 1 T.f_Llifts T.fd_Llifts [] (sp_Llifts K)) : FnG P w K mg base CX0 4 T.f_Lany_rules T.fd_Lany_rules ["_law_pot_here", "_law_moves_some"] (sp_LanyR K) := by
  skip
  refine okG T.F_Lany_rules sc_Lany_rules (fun vs H Q E h => ?_) (fun cdv A outer s H vs Q E gd hr h => ?_)
  · obtain ⟨_, _, _, rfl, _⟩ := h
    all_goals rfl
  · obtain ⟨a, m, ys, rfl, hp, nma, hm, hr0, q⟩ := h
    refine ⟨_, (pss_cons (ps_set (i := 2) sc_Lany_rules.nd rfl (Or.inr rfl) (pe_disp (pps_cons pe_str (pc gd G_Lpick (hr.mono (by decide)) (by rfl) T.m_Lpick T.F_Lpick.kp T.b_Lpick .nil pass0 (pa_cons (pv 0) (pa_cons (pe_lst (pa_cons pe_str (pa_cons pe_str (pa_cons pe_str pa_nil)))) pa_nil))) (pps_cons pe_str (pe_cmpR op_eq (pc gd G_Ldraw (hr.mono (by decide)) (by rfl) T.m_Ldraw T.F_Ldraw.kp T.b_Ldraw .nil pass0 (pa_cons (pv 0) (pa_cons pe_int pa_nil))) pe_int (nomark _)) pps_nil)) rfl rfl (by simp) (by simp))) (pss_cons (ps_dput (hu_of hr) (pv 2) pe_str (pc gd G_Lpick (hr.mono (by decide)) (by rfl) T.m_Lpick T.F_Lpick.kp T.b_Lpick .nil pass0 (pa_cons (pv 0) (pa_cons (pe_lst (pa_cons pe_int (pa_cons pe_int (pa_cons pe_int (pa_cons pe_int (pa_cons pe_int (pa_cons pe_int (pa_cons (pe_op op_add pe_int (pc gd G_Ldraw (hr.mono (by decide)) (by rfl) T.m_Ldraw T.F_Ldraw.kp T.b_Ldraw .nil pass0 (pa_cons (pv 0) (pa_cons pe_int pa_nil)))) pa_nil)))))))) pa_nil))) rfl) (pss_cons (ps_dput (hu_of hr) (pv 2) pe_str (pe_cmpR op_eq (pc gd G_Ldraw (hr.mono (by decide)) (by rfl) T.m_Ldraw T.F_Ldraw.kp T.b_Ldraw .nil pass0 (pa_cons (pv 0) (pa_cons pe_int pa_nil))) pe_int (nomark _)) rfl) (pss_cons (ps_setLc (i := 3) (own := [("_law_sort", 4)]) (g := gName 4) rfl sc_Lany_rules.nd rfl rfl (sw_true rfl rfl rfl (by decide +kernel)) (pi_list (pe_lst (pa_cons pe_str (pa_cons pe_str (pa_cons pe_str (pa_cons pe_str pa_nil)))))) (blkOk_by (N := N_Lany_rules) (sc := defScope s_Lany_rules) (by decide +kernel)) (fun _ _ _ _ _ => (pg_name (i := 4) sc_Lany_rules.nd rfl (Or.inl rfl) (Or.inr rfl))) (fun _ _ _ _ _ => pts_one (pt_cmpR op_eq (pc gd G_Ldraw (hr.mono (by decide)) (by rfl) T.m_Ldraw T.F_Ldraw.kp T.b_Ldraw .nil pass0 (pa_cons (pv 0) (pa_cons pe_int pa_nil))) pe_int (nomark _))) (fun _ _ _ _ _ => (pv 4))) (pss_cons (ps_dput (hu_of hr) (pv 2) pe_str (pe_callTy call_tuple_of (by rfl) T.z_tuple (by decide +kernel) (pa_cons (pc gd G_Lmixed (hr.mono (by decide)) (by rfl) T.m_Lmixed T.F_Lmixed.kp T.b_Lmixed .nil pass0 (pa_cons (pv 0) (pa_cons (pv 3) pa_nil))) pa_nil)) rfl) (pss_cons (ps_dput (hu_of hr) (pv 2) pe_str (pc gd G_Lpick (hr.mono (by decide)) (by rfl) T.m_Lpick T.F_Lpick.kp T.b_Lpick .nil pass0 (pa_cons (pv 0) (pa_cons (pc gd G_Ltakes (hr.mono (by decide)) (by rfl) T.m_Ltakes T.F_Ltakes.kp T.b_Ltakes .nil pass0 (pa_cons (pe_dget (hu_of hr) (pv 2) pe_str (fun _ _ => rfl)) pa_nil)) pa_nil))) rfl) (pss_cons (ps_asg (pe_tupX (pa_cons (pc gd G_Lpick (hr.mono (by decide)) (by rfl) T.m_Lpick T.F_Lpick.kp T.b_Lpick .nil pass0 (pa_cons (pv 0) (pa_cons (pc0 gd G_Lgives (hr.mono (by decide)) (by rfl) T.m_Lgives T.F_Lgives.kp T.b_Lgives .nil pass0) pa_nil))) (pa_cons (pc gd G_Lpick (hr.mono (by decide)) (by rfl) T.m_Lpick T.F_Lpick.kp T.b_Lpick .nil pass0 (pa_cons (pv 0) (pa_cons (pc0 gd G_Llifts (hr.mono (by decide)) (by rfl) T.m_Llifts T.F_Llifts.kp T.b_Llifts .nil pass0) pa_nil))) pa_nil))) (pg_tup rfl (pgs_cons (pg_sub (pv 2) pe_str (set_dict (hu_of hr))) (pgs_cons (pg_sub (pv 2) pe_str (set_dict (hu_of hr))) pgs_nil)))) (pss_cons (ps_dput (hu_of hr) (pv 2) pe_str (pc gd G_Lpick (hr.mono (by decide)) (by rfl) T.m_Lpick T.F_Lpick.kp T.b_Lpick .nil pass0 (pa_cons (pv 0) (pa_cons (pe_lc (own := [("_law_near", 5)]) (g := gName 5) rfl sc_Lany_rules.nd (pi_list (pv 1)) (blkOk_by (N := N_Lany_rules) (sc := defScope s_Lany_rules) (by decide +kernel)) (fun _ _ _ _ _ => (pg_name (i := 5) sc_Lany_rules.nd rfl (Or.inl rfl) (Or.inr rfl))) (fun _ _ _ _ _ => pts_one ((pw_or (pt_val (pe_dget (hu_of hr) (pv 2) pe_str (fun _ _ => rfl))) (pw_or1 (pt_cmpR (show OpR _ (compareOp .NotEq) (rNeD K) from op_neD (roomU hr)) (pe_slice (show SlR _ (rSlA K) from sl_tupA) (pv 5) po_none (po_some pe_int)) (pe_tupX (pa_cons pe_str pa_nil)) (nomark _))))).pt) (fun _ _ _ _ _ => (pv 5))) pa_nil))) rfl) (pss_cons (ps_if ((pw_and (pt_not (pt_val (pe_dget (hu_of hr) (pv 2) pe_str (fun _ _ => rfl)))) (pw_and (pt_cmpR (op_neD (roomU hr)) (pe_dget (hu_of hr) (pv 2) pe_str (fun _ _ => rfl)) (pe_tupX pa_nil) (nomark _)) (pw_and1 (pt_cmpR op_ne (pe_ix ix_tup (pe_dget (hu_of hr) (pv 2) pe_str (fun _ _ => rfl)) pe_int (fun _ _ => rfl)) pe_str (nomark _)))))).pt (pss_one (ps_dput (hu_of hr) (pv 2) pe_str (pe_tupX (pa_cons pe_str (pa_cons pe_str pa_nil))) rfl)) pss_nil) (pss_one (ps_ret (pv 2)))))))))))), ?_⟩
    refine q_dispR fun d hd => ?_
    have e0 : Ex H (upd H d (.dK [])) := Ex.new hd
    have nda : d ≠ a := hp.ne hd
    refine ev_raw ev_c fun H1 e1 => pick_list ((hp.ex e0).ex e1) rfl (el_lst (vs := failWs.map wV) (ea_cons (ev_lit (w0 := .undo) rfl) (ea_cons (ev_lit (w0 := .leave) rfl) (ea_cons (ev_lit (w0 := .wait) rfl) ea_nil))) (by show 3 ≤ 100000; omega)) (by decide) (by decide) fun H2 v x2 p2 hv => ?_
    obtain ⟨u, hu, rfl⟩ := fail_mem v hv
    refine ev_raw ev_c fun H3 e3 => draw0 (p2.ex e3) rfl fun H4 b x4 p4 => ?_
    have x04 : ExB a (upd H d (.dK [])) H4 := (((ExB.of e1).trans x2).trans (ExB.of e3)).trans x4
    let f0 : Pt → V := fun p => if p = .fails then wV u else .bl b
    refine ⟨x04 _ _ nda upd_same, kvs [.fails, .shared] f0, rfl, (by show 2 ≤ 15; omega), ?_⟩
    rw [made_kvs f0 (by decide)]
    have st : Sta K a d [.fails, .shared] ⟨[], [], [], [], u, b, [], 1, true⟩ H (upd H4 d (.dK (kvs [.fails, .shared] f0))) := ⟨((ExB.of e0).trans x04).mut hd, p4.exB ExB.set nda.symm, hd, nda, f0, upd_same, fun p hp => by
      simp only [List.mem_cons, List.not_mem_nil, or_false] at hp
      rcases hp with rfl | rfl
      · exact rfl
      · exact rfl⟩
    refine q_part (p := .batch) st rfl (by decide) (by decide) (ep_batch7 st.p rfl) fun H5 l5 h5 st5 => ?_
    refine q_part (p := .settles) st5 rfl (by decide) (by decide) (ep_bool st5.p rfl (.inr rfl)) fun H6 l6 h6 st6 => ?_
    refine q_asgR (tlc_sub (us := kindRows) st6.p (by decide) (fun R hR => (el_lst (vs := kindRows.map wV) (ea_cons (ev_lit (w0 := .take) rfl) (ea_cons (ev_lit (w0 := .give) rfl) (ea_cons (ev_lit (w0 := .move) rfl) (ea_cons (ev_lit (w0 := .lift) rfl) ea_nil)))) (by show 4 ≤ 100000; omega)) H6 (Ex.refl H6) _ fun p H1 hp1 e1 h1 => ⟨p, rfl, ⟨_, sq_of h1⟩, hR _ _ H1 walk_list e1 fun H' x => sq_of (x _ _ (st6.p.ne hp1) h1)⟩) (fun _ => rfl) (fun _ => rfl) (fun _ => rfl) fun H7 Dl ws hD hs x7 p7 h7 => ?_)
    have st7 := st6.ex x7 p7
    have wl : ws.length ≤ 50 := by
      have := hs.length_le
      have e : kindRows.length = 4 := rfl
      omega
    refine q_part (p := .holds) st7 rfl (by decide) (by decide) (ep_mixed p7 rfl rfl h7 wl) fun H8 l8 h8 st8 => ?_
    refine q_part (p := .take) st8 rfl (by decide) (by decide) (ep_row st8.p rfl (ers_takes (ev_pI rfl st8.d (by decide))) (takes_ne _) (takes_len _) (.inl rfl)) fun H9 l9 h9 st9 => ?_
    refine q_pair (p1 := .give) (p2 := .lift) st9 rfl (by decide) (by decide) (by decide) (ep_row st9.p rfl ers_gives gives_ne gives_len (.inr (.inl rfl))) (fun H' x p => ep_row p rfl ers_lifts (by decide) (by decide) (.inr (.inr (.inr rfl)))) fun H10 l10 m10 h10 g10 st10 => ?_
    have hm10 := st10.x _ _ nma hm
    have hr10 := hr0.pot st10.x hp
    let σ0 : L2.St := [some (.ref a), some (.ref m), some (.ref d), some (.ref Dl), none, none]
    have rows : EvRs K (tLc (iList K (tVar 1)) (gName 5) (tOr (tB (tDGet (tVar 2) (tC (.str Pt.shared.s)))) (tTest (tOp (rNeD K) (tSl (rSlA K) (tVar 5) tNoPart (tPart (tC (.int 1)))) (tTupX (tCons (tC (.str "off")) tNil))))) (tVar 5) [5]) σ0 H10 ((moves true).filter (mvFit b)) := ers_fltS (ev_var rfl) hm10 hr10 (by have := moves_len true; omega) (fun _ => rfl) (fun _ => rfl) fun a' us G e ra => et_or (a := b) (et_B (ev_pS rfl (st10.d.ex e) (by decide))) fun _ => et_notOff (ev_var rfl) ra
    refine q_part (p := .move) st10 rfl (by decide) (by decide) (ep_row st10.p rfl rows (by cases b; exact moves_fit.2; exact moves_fit.1) (Nat.le_trans (List.length_filter_le _ _) (moves_len true)) (.inr (.inr (.inl rfl)))) fun H11 l11 h11 st11 => ?_
    have hmv : l11.move ∈ moves true := (List.mem_filter.mp h11).1
    obtain ⟨am, tm, xm⟩ : ∃ am, Ev (tDGet (tVar 2) (tC (.str Pt.move.s))) σ0 H11 (.ref am) ∧ RowX K H11 am l11.move := by
      obtain ⟨v, e1, ⟨am, rfl, rx⟩⟩ := ev_part (σ := σ0) (p := .move) (i := 2) rfl st11.d (by decide)
      exact ⟨am, e1, rx⟩
    have fin : ∀ {G : Hp} {r : Ru} {D : Ends}, D.rt = Q → Sta K a d drK r H G → OkN r → tRet (tVar 2) D σ0 G := fun hD st ok => s_ret (ev_var rfl) fun Hf ef => by
      rw [hD]
      exact q Hf d _ (st.x.trans (ExB.of ef)) (st.p.ex ef) hd (st.d.ex ef) ok
    have okm := move_ok hmv
    have mk : ∀ {us : Rw}, RowOk us → pMove us = true → pShared us b = true → Ok { take := l9.take, give := l10.give, move := us, lift := m10.lift, fails := u, shared := b, holds := ws, batch := l5.batch, settles := l6.settles } := fun o1 o2 o3 => Ok.mk (take_ok h5.1 h9) (give_ok h10) ⟨o1, o2, o3⟩ (lift_ok g10) hu hs h5
    refine q_when (b := !b && (!decide (l11.move = []) && !decide (l11.move.head? = some .home))) (et_and (a := !b) (et_not (et_B (ev_pS rfl st11.d (by decide)))) fun _ => et_and (a := !decide (l11.move = [])) (et_test (ev_neW xm.at_ tm er_0)) fun hne => et_test ?_) (fun hc H12 e12 => ?_) fun hc H12 e12 => ?_
    · have hne' : l11.move ≠ [] := by simpa using hne
      obtain ⟨x, xs, ex⟩ : ∃ x xs, l11.move = x :: xs := by
        cases e : l11.move with
        | nil => exact absurd e hne'
        | cons x xs => exact ⟨x, xs, rfl⟩
      have sq := xm.sq
      rw [ex] at sq
      refine ev_is (ev_op (ev_op tm ev_c (rv_ixT (v := wV x) sq atI_zero)) (ev_lit (w0 := .home) rfl) (rv_ne rfl)) (cbl ?_)
      rw [wV_eq, ex]
      congr 1
      exact decide_eq_decide.mpr ⟨fun z => by rw [z]; rfl, fun z => Option.some.inj z⟩
    · have st12 := st11.ex (ExB.of e12) (st11.p.ex e12)
      have em : EvPt K (tTupX (tCons (tC (.str "home")) (tCons (tC (.str "set")) tNil))) σ0 H12 a .move (fun m => m.move = [.home, .set]) := fun G1 e1 Q q => (er_2 (K := K) (w1 := .home) (w2 := .set) rfl rfl : EvR K _ σ0 G1 _) G1 (Ex.refl G1) Q fun b G2 e2 hb => q G2 (.ref b) ⟨[], [], [.home, .set], [], .undo, true, [], 1, true⟩ (ExB.of e2) ((st12.p.ex e1).ex e2) ⟨b, rfl, hb⟩ rfl
      refine s_over (p := .move) st12 rfl (by decide) (by decide) (fun H1 => ev_c) em fun H13 l13 h13 st13 => ?_
      dsimp only
      refine fin rfl st13 (okN_of (ws := ws) ?_ h8)
      have o := mk (us := [.home, .set]) ⟨by decide, by decide⟩ (by decide) (mv_shared (.inr rfl) b)
      rw [← h13] at o
      exact o
    · refine fin rfl (st11.ex (ExB.of e12) (st11.p.ex e12)) (okN_of (ws := ws) ?_ h8)
      refine mk okm.1 okm.2.1 ?_
      cases b with
      | true => rfl
      | false =>
        rw [Bool.not_false, Bool.true_and, Bool.and_eq_false_iff] at hc
        rcases hc with hc | hc
        · exact mv_shared (us := l11.move) (.inl (by simpa using hc)) false
        · exact mv_shared (us := l11.move) (.inr (by simpa using hc)) false
end
end My
namespace My
open PySem PySem.Spec PyProof.Rows L2 GL Evl StX SkE
/-! ### rules, turned and changed -/
def turnPs : List Pt := [.fails, .settles, .holds, .give, .lift]
theorem turn_ok {r l : Ru} (o : OkN r) (q : OkN l) {p : Pt} (hp : p ∈ turnPs) : OkN (r.upd l p) := by
  cases p with
  | fails => exact ⟨⟨o.k.t, o.k.g, o.k.m, o.k.l, q.k.f, o.k.h, o.k.b⟩, o.nd, o.w⟩
  | settles => exact ⟨⟨o.k.t, o.k.g, o.k.m, o.k.l, o.k.f, o.k.h, o.k.b⟩, o.nd, o.w⟩
  | holds => exact ⟨⟨o.k.t, o.k.g, o.k.m, o.k.l, o.k.f, q.k.h, o.k.b⟩, q.nd, q.w⟩
  | give => exact ⟨⟨o.k.t, q.k.g, o.k.m, o.k.l, o.k.f, o.k.h, o.k.b⟩, o.nd, o.w⟩
  | lift => exact ⟨⟨o.k.t, o.k.g, o.k.m, q.k.l, o.k.f, o.k.h, o.k.b⟩, o.nd, o.w⟩
  | take => exact absurd hp (by decide)
  | move => exact absurd hp (by decide)
  | shared => exact absurd hp (by decide)
  | batch => exact absurd hp (by decide)
theorem not_all (p : Pt) : decide (V.str p.s = V.str "all") = false := by cases p <;> decide +kernel
section
variable {P : Program} {w : World} {K : PySem.W.Frag} {mg : Str → Option Value} {base : Heap} {C : Addr} {H H' H0 H1 G : Hp} {σ : L2.St} {te tb ta tc tl tk : TE} {t tt : TT} {tu tz : TS} {tA : TA} {E Er : XK} {D : Ends} {a b d m : Addr} {us : Rw} {xs ys : List V} {rs qs : List Rw} {ks ls : List Pt} {r l : Ru} {v : V} {Q : VK} {j : Nat} {vs : List Nat} {s1 s2 z : Str} {p p1 p2 : Pt}
theorem q_overS {X : Ru → Prop} {i : Nat} (st : Sta K a d ks r H0 H) (hs : σ[i]? = some (some (.ref d))) (hp : p ∈ ks) (hl : ks.length ≤ 20) (hk : ∀ H1, Ev tk σ H1 (.str p.s)) (h : EvPt K te σ H a p X) (k : ∀ H1 l, X l → Sta K a d ks (r.upd l p) H0 H1 → tz D σ H1) : tSeq (sDPut (tVar i) tk te) tz D σ H := s_over (D := { D with nx := tz D }) st hs hp hl hk h k
theorem ok_Lturned_rules (T : Txt K mg w) (G_Lany_rules : FnG P w K mg base CX0 4 T.f_Lany_rules T.fd_Lany_rules ["_law_pot_here", "_law_moves_some"] (sp_LanyR K)) (G_Lpick : FnG P w K mg base CX0 2 T.f_Lpick T.fd_Lpick ["_law_pot_here", "_law_some"] sp_Lpick) : FnG P w K mg base CX0 5 T.f_Lturned_rules T.fd_Lturned_rules ["_law_pot_here", "_law_rules", "_law_moves_some"] (sp_LturnR K) := by
  skip
  refine okG T.F_Lturned_rules sc_Lturned_rules (fun vs H Q E h => ?_) (fun cdv A outer s H vs Q E gd hr h => ?_)
  · obtain ⟨_, _, _, _, _, rfl, _⟩ := h
    all_goals rfl
  · obtain ⟨a, d, m, r, ys, rfl, hp, hd, ok, nma, hm, hr0, q⟩ := h
    refine ⟨_, (pss_cons (ps_par (i := 3) (j := 4) rfl sc_Lturned_rules.nd rfl rfl (by decide) rfl rfl (pa_cons (pe_callTy (call_dictP rfl) (by rfl) T.z_dict (by decide +kernel) (pa_cons (LiI.pe_listItems rfl (pv 1) (by rfl) T.z_list (by decide +kernel)) pa_nil)) (pa_cons (pc gd G_Lany_rules (hr.mono (by decide)) (by rfl) T.m_Lany_rules T.F_Lany_rules.kp T.b_Lany_rules .nil pass0 (pa_cons (pv 0) (pa_cons (pv 2) pa_nil))) pa_nil)) (by rfl)) (pss_cons (ps_set (i := 5) sc_Lturned_rules.nd rfl (Or.inl rfl) (pc gd G_Lpick (hr.mono (by decide)) (by rfl) T.m_Lpick T.F_Lpick.kp T.b_Lpick .nil pass0 (pa_cons (pv 0) (pa_cons (pe_lst (pa_cons pe_str (pa_cons pe_str (pa_cons pe_str (pa_cons pe_str (pa_cons pe_str (pa_cons pe_str pa_nil))))))) pa_nil)))) (pss_cons (ps_if (pt_cmpR op_eq (pv 5) pe_str (nomark _)) (pss_one (ps_ret (pv 4))) pss_nil) (pss_cons (ps_dput (hu_of hr) (pv 3) (pv 5) (pe_dget (hu_of hr) (pv 4) (pv 5) (fun _ _ => rfl)) rfl) (pss_one (ps_ret (pv 3))))))), ?_⟩
    refine q_parR (cons_rw (dcopy_raw (K := K) rfl hd (by decide) (by decide) fun c H1 hc e1 hdc => cons1_raw ⟨_, rfl, _, rfl, a, m, ys, rfl, hp.ex e1, nma, e1 _ _ hm, hr0.ex e1, fun H2 f l x2 p2 hf hdf okl => ⟨_, _, rfl, ?_⟩⟩))
    have nca : c ≠ a := hp.ne hc
    have nfa : f ≠ a := (hp.ex e1).ne hf
    have st : Sta K a c drK r H H2 := ⟨(ExB.of e1).trans x2, p2, hc, nca, hdc.exB x2 nca (hp.ex e1).nt⟩
    show tSeq _ _ _ [some (.ref a), some (.ref d), some (.ref m), some (.ref c), some (.ref f), none] H2
    refine q_asgR (pick_list p2 rfl (el_lst (vs := turnPs.map pV ++ ([V.str "all"] : List V)) (ea_cons ev_c (ea_cons ev_c (ea_cons ev_c (ea_cons ev_c (ea_cons ev_c (ea_cons ev_c ea_nil)))))) (by show 6 ≤ 100000; omega)) (by decide) (by decide) fun H3 v x3 p3 hv => ?_)
    have st3 := st.ex x3 p3
    have hdf3 : DictAt K H3 f drK l := hdf.exB x3 nfa p2.nt
    show tSeq _ _ _ [some (.ref a), some (.ref d), some (.ref m), some (.ref c), some (.ref f), some v] H3
    rcases List.mem_append.mp hv with hv | hv
    · obtain ⟨p, hp1, rfl⟩ := List.mem_map.mp hv
      refine q_when (b := false) (et_test (ev_is (ev_op (ev_var rfl) ev_c (rv_eq rfl)) (cbl (not_all p)))) (fun z => nomatch z) fun _ H4 e4 => ?_
      have st4 := st3.ex (ExB.of e4) (p3.ex e4)
      obtain ⟨g, hg, hgv⟩ := hdf3.ex e4
      refine q_overS (p := p) (X := fun m => m = l) st4 rfl (drK_mem p) (by decide) (fun H1 => ev_var rfl) (ep_ev st4.p (ev_getK (ev_var rfl) (ev_var rfl) hg (drK_mem p)) fun H1 e => (hgv p (drK_mem p)).ex e) fun H5 l5 h5 st5 => ?_
      rw [h5] at st5
      exact s_ret (ev_var rfl) fun H6 e6 => q H6 c _ (st5.x.trans (ExB.of e6)) (st5.p.ex e6) hc (st5.d.ex e6) (turn_ok ok okl hp1)
    · obtain rfl := List.mem_singleton.mp hv
      refine q_when (b := true) (et_test (ev_is (ev_op (ev_var rfl) ev_c (rv_eq rfl)) (cbl (by decide +kernel)))) (fun _ H4 e4 => s_ret (ev_var rfl) fun H5 e5 => q H5 f l (st3.x.trans (ExB.of (e4.trans e5))) (p3.ex (e4.trans e5)) (fresh_back e1 hf) (hdf3.ex (e4.trans e5)) okl) fun z => nomatch z
theorem tupx_rawW (h : tA σ H fun xs H1 => xs.length ≤ sizeLine ∧ ∀ p o, H1 p = none → Bare o → Q (.ref p) (upd H1 p (.frz o (.tup xs)))) : tTupX tA σ H Q := h
theorem ok_Lchanged (T : Txt K mg w)  : FnG P w K mg base CX0 1 T.f_Lchanged T.fd_Lchanged ["_law_rules", "_law_key", "_law_entry"] (sp_Lchanged K) := by
  skip
  refine okG T.F_Lchanged sc_Lchanged (fun vs H Q E h => ?_) (fun cdv A outer s H vs Q E gd hr h => ?_)
  · obtain ⟨_, _, _, _, _, rfl, _⟩ := h
    all_goals rfl
  · obtain ⟨d, r, l, p, v, rfl, ⟨f, hf, hfv⟩, hv, q⟩ := h
    refine ⟨_, (pss_one (ps_ret (pe_callTy (call_dictP rfl) (by rfl) T.z_dict (by decide +kernel) (pa_cons (pe_op op_cat (LiI.pe_listItems rfl (pv 0) (by rfl) T.z_list (by decide +kernel)) (pe_lst (pa_cons (pe_tupX (pa_cons (pv 1) (pa_cons (pv 2) pa_nil))) pa_nil))) pa_nil)))), ?_⟩
    refine s_retR (cb1_raw (op_raw ⟨_, rfl, d, kvs drK f, rfl, hf, fun H1 p1 ts e1 hp0 hts hpt h1 pr1 => ?_⟩))
    have e1' : Ex H H1 := e1
    have lts : ts.length = 9 := by
      have h := pr1.length
      rw [List.length_map] at h
      exact h
    refine lst_raw (cons1_raw (tupx_rawW (cons_raw (ev_var rfl) fun H2 e2 => cons1_raw ⟨_, rfl, (by show 2 ≤ sizeLine; decide), fun t o ht bo => ⟨(by show 1 ≤ sizeLine; decide), fun p3 hp3 => ?_⟩⟩)))
    have e3 : Ex H2 (upd H2 t (.frz o (.tup [.str p.s, v]))) := Ex.new ht
    have e4 : Ex (upd H2 t (.frz o (.tup [.str p.s, v]))) (upd (upd H2 t (.frz o (.tup [.str p.s, v]))) p3 (.lst [.ref t])) := Ex.new hp3
    have h1' : H1 p1 = some (.lst (ts.map V.ref)) := h1
    refine ⟨p1, p3, _, _, rfl, rfl, ((e2.trans e3).trans e4) _ _ h1', upd_same, by rw [List.length_map, lts, sizeLine_eq]; show 9 + 1 ≤ 16777216; omega, fun p4 hp4 => ?_⟩
    have e5 : Ex (upd (upd H2 t (.frz o (.tup [.str p.s, v]))) p3 (.lst [.ref t])) (upd (upd (upd H2 t (.frz o (.tup [.str p.s, v]))) p3 (.lst [.ref t])) p4 (.lst (ts.map V.ref ++ [.ref t]))) := Ex.new hp4
    have x15 := ((e2.trans e3).trans e4).trans e5
    refine ⟨p4, ts ++ [t], kvs drK f ++ [(.inr p.s, v)], rfl, sq_of (by rw [upd_same, List.map_append]; rfl), paired_app (pairedT pr1 fun t ht kv h => st_of (x15 _ _ h)) (.cons (.inl (.inr ⟨o, (e4.trans e5) _ _ upd_same⟩)) .nil), fun c hc => ?_⟩
    have hfm : mergeK [] (kvs drK f ++ [((.inr p.s : Key), v)]) = kvs drK (put f p v) := by
      have h0 := made_kvs f (ks := drK) (by decide)
      unfold mergeK at h0 ⊢
      rw [List.foldl_append, h0]
      exact put_old (drK_mem p)
    rw [hfm]
    have xx := (e1'.trans x15).trans (Ex.new (o := .dK (kvs drK (put f p v))) hc)
    refine q _ c (fresh_back (e1'.trans x15) hc) xx ⟨put f p v, upd_same, fun pt hpt => ?_⟩
    rw [Ru.get_upd]
    unfold put
    by_cases e : pt = p
    · rw [if_pos e, if_pos e, e]
      exact hv.ex xx
    · rw [if_neg e, if_neg e]
      exact (hfv pt hpt).ex xx
end
end My
namespace My
open PySem PySem.Spec PyProof.Rows L2 GL Evl StX SkE
/-! ### a book, both ways -/
def wPt : Wd → Pt
  | .take => .take
  | .give => .give
  | .move => .move
  | _ => .lift
def rowsD (r : Ru) : PyData := .list [(r.get .take).d, (r.get .give).d, (r.get .move).d, (r.get .lift).d]
def toldD (r : Ru) : PyData := .list [rowsD r, (r.get .fails).d, (r.get .shared).d, (r.get .holds).d, (r.get .batch).d, (r.get .settles).d]
theorem sm_part {r : Ru} (ok : Ok r) (p : Pt) : Sm (r.get p).d 1 100 := by
  have h6 : r.holds.length ≤ 6 := by have := holds_ln ok.h; omega
  cases p with
  | take => exact (sm_row ok.t.1.ln).mono (by omega) (by omega)
  | give => exact (sm_row ok.g.1.ln).mono (by omega) (by omega)
  | move => exact (sm_row ok.m.1.ln).mono (by omega) (by omega)
  | lift => exact (sm_row ok.l.1.ln).mono (by omega) (by omega)
  | holds => exact (sm_row h6).mono (by omega) (by omega)
  | shared => exact (shrt_bl _).sm.mono (by omega) (by omega)
  | settles => exact (shrt_bl _).sm.mono (by omega) (by omega)
  | batch => exact (shrt_nat (n := r.batch) (by have := ok.b.2; omega)).sm.mono (by omega) (by omega)
  | fails =>
    refine ⟨?_, ?_, ?_, by have := w_text r.fails; show (dW r.fails).shown.length ≤ 100; omega⟩
    · show (PyData.str r.fails.s).showable = true
      simp only [PyData.showable]
    · show (PyData.str r.fails.s).hasDict = false
      simp only [PyData.hasDict]
    · show (PyData.str r.fails.s).depth ≤ 1
      simp only [PyData.depth]
      omega
theorem sm_told {r : Ru} (ok : Ok r) : Sm (toldD r) 3 10000 := by
  refine (sm_list (k := 2) (B := 500) fun d hd => ?_).mono (Nat.le_refl _) (by show 6 * (500 + 2) + 2 ≤ 10000; omega)
  simp only [List.mem_cons, List.not_mem_nil, or_false] at hd
  rcases hd with rfl | rfl | rfl | rfl | rfl | rfl
  · refine (sm_list (k := 1) (B := 100) fun d hd => ?_).mono (Nat.le_refl _) (by show 4 * (100 + 2) + 2 ≤ 500; omega)
    simp only [List.mem_cons, List.not_mem_nil, or_false] at hd
    rcases hd with rfl | rfl | rfl | rfl <;> exact sm_part ok _
  all_goals exact (sm_part ok _).mono (by omega) (by omega)
def sp_Ltold (K : PySem.W.Frag) (C : Addr) : Sp := fun vs H Q _ => ∃ b r, vs = [.ref b] ∧ BookAt K C H b r ∧ RetV (.str (toldD r).shown) H Q
def sp_Lboth (K : PySem.W.Frag) : Sp := fun vs H Q _ => ∃ d ks r, vs = [.ref d] ∧ DictAt K H d ks r ∧ (∀ p, p ∈ ks) ∧ OkN r ∧ RetV (.bl true) H Q
theorem toldD_of {K : PySem.W.Frag} {H : Hp} {r : Ru} {p l : Addr} {f : Pt → V} (hp : SqL K H p [.ref l, f .fails, f .shared, f .holds, f .batch, f .settles]) (hl : SqL K H l [f .take, f .give, f .move, f .lift]) (hf : ∀ p, (r.get p).At K H (f p)) : Dp K H (.ref p) (toldD r) :=
  .lst hp (.cons (.lst hl (.cons (hf .take).dp (.cons (hf .give).dp (.cons (hf .move).dp (.cons (hf .lift).dp .nil))))) (.cons (hf .fails).dp (.cons (hf .shared).dp (.cons (hf .holds).dp (.cons (hf .batch).dp (.cons (hf .settles).dp .nil))))))
section
variable {P : Program} {w : World} {K : PySem.W.Frag} {mg : Str → Option Value} {base : Heap} {C : Addr} {H H' H0 H1 G : Hp} {σ : L2.St} {te tb ta tc tl tk : TE} {t tt : TT} {tu tz : TS} {tA : TA} {E Er : XK} {D : Ends} {a b d dx m : Addr} {us : Rw} {xs ys : List V} {rs qs : List Rw} {ks ls : List Pt} {r l : Ru} {v : V} {Q : VK} {j : Nat} {vs : List Nat} {s1 s2 z : Str} {p p1 p2 : Pt}
theorem rc_reprD {d : PyData} {k B : Nat} (hd : ∀ H1, Ex H H1 → Dp K H1 v d) (h1 : isDisplay d = true) (s : Sm d k B) (hk : k ≤ 60) (hB : B ≤ 100000) : RC (rRepr K) [v] H (.str d.shown) := fun H1 e Q q =>
  ⟨v, d, rfl, hd H1 e, h1, s.sh, s.nd, Nat.le_trans s.de hk, sz_of (Nat.le_trans s.ln hB), q H1 (Ex.refl H1)⟩
theorem ev_bf {f : Pt → V} (ob : H b = some (.ins C dx (bf d))) (hd : H d = some (.dK (kvs bookKs f))) (hp : p ∈ rowPs) (h1 : Ev ta σ H (.ref b)) (h2 : Ev tb σ H (pV p)) : Ev (tMeth C (Str.ofString "row") (sp_BrowF K C) [] Er ta (tCons tb tNil)) σ H (f p) := fun H1 e1 Q q =>
  meth_raw (h1.mono e1) fun H2 e2 => ⟨dx, bf d, e2 _ _ (e1 _ _ ob), bf_no d (by decide +kernel), (ea_cons (h2.mono (e1.trans e2)) ea_nil : EvA _ _ _ [pV p]) H2 (Ex.refl H2) _ fun H3 e3 => ⟨b, dx, d, p, f, rfl, hp, e3 _ _ (e2 _ _ (e1 _ _ ob)), e3 _ _ (e2 _ _ (e1 _ _ hd)), fun H4 e4 => q H4 ((e2.trans e3).trans e4)⟩⟩
theorem ev_bp {f : Pt → V} (ob : H b = some (.ins C dx (bf d))) (hd : H d = some (.dK (kvs bookKs f))) (h : Ev te σ H (.ref b)) : Ev (tProp C (sp_BpartG p C) [] Er te) σ H (f p) := fun H1 e1 Q q => h H1 e1 _ fun H2 e2 => ⟨b, dx, bf d, rfl, e2 _ _ (e1 _ _ ob), b, dx, d, f, rfl, e2 _ _ (e1 _ _ ob), e2 _ _ (e1 _ _ hd), fun H3 e3 => q H3 (e2.trans e3)⟩
theorem ok_Ltold (T : Txt K mg w) (G_Brow : FnG P w K mg base CX0 3 T.f_Brow T.fd_Brow ["self", "kind"] (sp_BrowF K T.C)) (G_Bfails : FnG P w K mg base CX0 1 T.f_Bfails T.fd_Bfails ["self"] (sp_BpartG .fails T.C)) (G_Bshared : FnG P w K mg base CX0 1 T.f_Bshared T.fd_Bshared ["self"] (sp_BpartG .shared T.C)) (G_Bholds : FnG P w K mg base CX0 1 T.f_Bholds T.fd_Bholds ["self"] (sp_BpartG .holds T.C)) (G_Bbatch : FnG P w K mg base CX0 1 T.f_Bbatch T.fd_Bbatch ["self"] (sp_BpartG .batch T.C)) (G_Bsettles : FnG P w K mg base CX0 1 T.f_Bsettles T.fd_Bsettles ["self"] (sp_BpartG .settles T.C)) : FnG P w K mg base CX0 4 T.f_Ltold T.fd_Ltold ["_law_volume"] (sp_Ltold K T.C) := by
  skip
  refine okG T.F_Ltold sc_Ltold (fun vs H Q E h => ?_) (fun cdv A outer s H vs Q E gd hr h => ?_)
  · obtain ⟨_, _, rfl, _⟩ := h
    all_goals rfl
  · obtain ⟨b, r, rfl, ⟨dx, d, pb⟩, q⟩ := h
    refine ⟨_, (pss_cons (ps_setLc (i := 1) (own := [("_law_sort", 2)]) (g := gName 2) rfl sc_Ltold.nd rfl rfl (sw_true rfl rfl rfl (by decide +kernel)) (pi_list (pe_lst (pa_cons pe_str (pa_cons pe_str (pa_cons pe_str (pa_cons pe_str pa_nil)))))) (blkOk_by (N := N_Ltold) (sc := defScope s_Ltold) (by decide +kernel)) (fun _ _ _ _ _ => (pg_name (i := 2) sc_Ltold.nd rfl (Or.inl rfl) (Or.inr rfl))) (fun _ _ _ _ _ => pts_nil) (fun _ _ _ _ _ => (pm gd (pv 0) T.c_Book T.M_Brow G_Brow (hr.mono (by decide)) T.b_Brow .nil pass0 (pa_cons (pv 2) pa_nil)))) (pss_one (ps_ret (pe_callB (call_repr gd (roomU hr)) (by rfl) T.z_repr boot_repr (pa_cons (pe_lst (pa_cons (pv 1) (pa_cons (pgP gd (pv 0) T.c_Book T.P_Bfails G_Bfails (hr.mono (by decide)) T.b_Bfails .nil pass0) (pa_cons (pgP gd (pv 0) T.c_Book T.P_Bshared G_Bshared (hr.mono (by decide)) T.b_Bshared .nil pass0) (pa_cons (pgP gd (pv 0) T.c_Book T.P_Bholds G_Bholds (hr.mono (by decide)) T.b_Bholds .nil pass0) (pa_cons (pgP gd (pv 0) T.c_Book T.P_Bbatch G_Bbatch (hr.mono (by decide)) T.b_Bbatch .nil pass0) (pa_cons (pgP gd (pv 0) T.c_Book T.P_Bsettles G_Bsettles (hr.mono (by decide)) T.b_Bsettles .nil pass0) pa_nil))))))) pa_nil))))), ?_⟩
    have ok := pb.ok
    have ob := pb.ob
    obtain ⟨f, hf, hfv⟩ := pb.di
    refine q_asgR ((el_lcWN (us := kindRows) (fun _ => true) (fun u => f (wPt u)) (el_lst (ea_cons (ev_lit (w0 := .take) rfl) (ea_cons (ev_lit (w0 := .give) rfl) (ea_cons (ev_lit (w0 := .move) rfl) (ea_cons (ev_lit (w0 := .lift) rfl) ea_nil)))) (by show 4 ≤ 100000; omega)) (by decide) (fun _ => rfl) (fun u H1 e1 hu => et_yes) (fun u H1 e1 hu _ => ?_)) H (Ex.refl H) _ fun p H1 hp e1 h1 => ?_)
    · obtain ⟨p1, e0⟩ : wPt u ∈ rowPs ∧ wV u = pV (wPt u) := by
        simp only [kindRows, List.mem_cons, List.not_mem_nil, or_false] at hu
        rcases hu with rfl | rfl | rfl | rfl
        · exact ⟨by decide, rfl⟩
        · exact ⟨by decide, rfl⟩
        · exact ⟨by decide, rfl⟩
        · exact ⟨by decide, rfl⟩
      exact ev_bf (e1 _ _ ob) (e1 _ _ hf) p1 (ev_var rfl) (ev_is (ev_var rfl) e0)
    rw [filter_yes] at h1
    have h1' : H1 p = some (.lst [f .take, f .give, f .move, f .lift]) := h1
    have ob1 := e1 _ _ ob
    have hf1 := e1 _ _ hf
    show tRet _ _ [some (.ref b), some (.ref p), none] H1
    have g : ∀ {pt : Pt}, Ev (tProp T.C (sp_BpartG pt T.C) [] E0 (tVar 0)) [some (.ref b), some (.ref p), none] H1 (f pt) := ev_bp ob1 hf1 (ev_var rfl)
    refine s_retR (cb1_raw ((el_lst (vs := [.ref p, f .fails, f .shared, f .holds, f .batch, f .settles]) (ea_cons (ev_var rfl) (ea_cons g (ea_cons g (ea_cons g (ea_cons g (ea_cons g ea_nil)))))) (by show 6 ≤ 100000; omega)) H1 (Ex.refl H1) _ fun t H2 ht e2 h2 => ?_))
    exact rc_reprD (d := toldD r) (fun H3 e3 => toldD_of (f := f) (sq_of (e3 _ _ h2)) (sq_of (e3 _ _ (e2 _ _ h1'))) fun pt => (hfv pt (bookKs_mem pt)).ex ((e1.trans e2).trans e3)) rfl (sm_told ok) (by omega) (by omega) H2 (Ex.refl H2) _ fun H3 e3 => q H3 ((e1.trans e2).trans e3)
end
end My
namespace My
open PySem PySem.Spec PyProof.Rows L2 GL Evl StX SkE
section
variable {P : Program} {w : World} {K : PySem.W.Frag} {mg : Str → Option Value} {base : Heap} {C : Addr} {H H' H0 H1 G : Hp} {σ : L2.St} {te tb ta tc tl tk : TE} {t tt : TT} {tu tz : TS} {tA : TA} {E Er : XK} {D : Ends} {a b d dx m : Addr} {us : Rw} {xs ys : List V} {rs qs : List Rw} {ks ls : List Pt} {r l : Ru} {v : V} {Q : VK} {j : Nat} {vs : List Nat} {s1 s2 z : Str} {p p1 p2 : Pt}
theorem sv_textof (hb : BookAt K C H b r) : SpV (sp_textof K C) [.ref b] H (.str (bkText r)) := fun _ e _ q _ => ⟨b, r, rfl, hb.ex e, q⟩
theorem sv_told (hb : BookAt K C H b r) : SpV (sp_Ltold K C) [.ref b] H (.str (toldD r).shown) := fun _ e _ q _ => ⟨b, r, rfl, hb.ex e, q⟩
theorem ev_callK1 {sp : Sp} {x z : V} {gV : List V → List V → List V} (h : Ev ta σ H x) (hs : SpV sp (gV [] [x]) H z) : Ev (GL.tCallK 1 sp gV Er (tCons ta tNil)) σ H z := fun H1 e Q q => h H1 e _ fun H2 e2 => ⟨rfl, hs H2 (e.trans e2) Q (fun H3 e3 => q H3 (e2.trans e3)) Er⟩
theorem eb_read (ok : Ok r) (h : Ev te σ H (.str (bkText r))) : EvB K C (tCall (sp_rbook K C) [] Er (tCons te tNil)) σ H r := fun H1 e Q q => cons1_raw (h H1 e _ fun H2 e2 => ⟨r, rfl, ok, fun H3 b hb e3 hbk => q b H3 (e2.trans e3) hbk⟩)
theorem eb_readK {gV : List V → List V → List V} (ok : Ok r) (h : Ev te σ H (.str (bkText r))) (hg : ∀ x, gV [] [x] = [x]) : EvB K C (GL.tCallK 1 (sp_rbook K C) gV Er (tCons te tNil)) σ H r := fun H1 e Q q => cons1_raw (h H1 e _ fun H2 e2 => ⟨rfl, by
  rw [hg]
  exact ⟨r, rfl, ok, fun H3 b hb e3 hbk => q b H3 (e2.trans e3) hbk⟩⟩)
theorem eb_varX {i : Nat} (hs : σ[i]? = some (some (.ref b))) (hb : BookAt K C H b r) : EvB K C (tVar i) σ H r := fun H1 e Q q => ⟨_, hs, q b H1 (Ex.refl H1) (hb.ex e)⟩
theorem ev_reprB {Er : XK} (h : Ev te σ H (.ref b)) (hb : BookAt K C H b r) : Ev (tCB (fun xs H Q => ∃ a dx fs, xs = [.ref a] ∧ H a = some (.ins C dx fs) ∧ sp_Brepr K C [.ref a] H (fun v H' => ∃ z, v = .str z ∧ Q (.str z) H') Er) (tCons te tNil)) σ H (.str (bText r)) := fun H1 e1 Q q => h H1 e1 _ fun H2 e2 => by
  obtain ⟨dx, d, z⟩ := id (hb.ex (e1.trans e2))
  exact ⟨b, dx, _, rfl, z.ob, b, r, rfl, hb.ex (e1.trans e2), fun H3 e3 => ⟨_, rfl, q H3 (e2.trans e3)⟩⟩
theorem ok_Lboth_ways (T : Txt K mg w) (G_Lbook : FnG P w K mg base CX0 9 T.f_Lbook T.fd_Lbook ["_law_rules"] (sp_LbookN K T.C)) (G_Ltext : FnG P w K mg base CX0 2 T.f_Ltext T.fd_Ltext ["_law_rules"] (sp_Ltext K)) (G_text_of : FnG P w K mg base CX0 4 T.f_text_of T.fd_text_of ["book"] (sp_textof K T.C)) (G_read_book : FnG P w K mg base CX0 9 T.f_read_book T.fd_read_book ["text"] (sp_rbook K T.C)) (G_Beq : FnG P w K mg base CX0 1 T.f_Beq T.fd_Beq ["self", "other"] (sp_Beq K T.C)) (G_Brepr : FnG P w K mg base CX0 1 T.f_Brepr T.fd_Brepr ["self"] (sp_Brepr K T.C)) (G_Lkinds_of : FnG P w K mg base CX0 1 T.f_Lkinds_of T.fd_Lkinds_of ["_law_some"] (sp_Lkinds K)) (G_Ltold : FnG P w K mg base CX0 4 T.f_Ltold T.fd_Ltold ["_law_volume"] (sp_Ltold K T.C)) : FnG P w K mg base CX0 10 T.f_Lboth_ways T.fd_Lboth_ways ["_law_rules"] (sp_Lboth K) := by
  skip
  refine okG T.F_Lboth_ways sc_Lboth_ways (fun vs H Q E h => ?_) (fun cdv A outer s H vs Q E gd hr h => ?_)
  · obtain ⟨_, _, _, rfl, _⟩ := h
    all_goals rfl
  · obtain ⟨d, ks, r, rfl, hd, hk, ok, q⟩ := h
    refine ⟨_, (pss_cons (ps_par (i := 1) (j := 2) rfl sc_Lboth_ways.nd rfl rfl (by decide) rfl rfl (pa_cons (pc gd G_Lbook (hr.mono (by decide)) (by rfl) T.m_Lbook T.F_Lbook.kp T.b_Lbook .nil pass0 (pa_cons (pv 0) pa_nil)) (pa_cons (pc gd G_Ltext (hr.mono (by decide)) (by rfl) T.m_Ltext T.F_Ltext.kp T.b_Ltext .nil pass0 (pa_cons (pv 0) pa_nil)) pa_nil)) (by rfl)) (pss_cons (ps_if ((pw_or (pt_cmpR op_ne (pc gd G_text_of (hr.mono (by decide)) (by rfl) T.m_text_of T.F_text_of.kp T.b_text_of .nil pass0 (pa_cons (pv 1) pa_nil)) (pv 2) (nomark _)) (pw_or1 (pt_cmpR op_ne (pcK gd G_text_of (hr.mono (by decide)) (by rfl) T.m_text_of T.F_text_of.kp T.k_text_of_book pass0 (pk_cons (pv 1) pk_nil)) (pv 2) (nomark _))))).pt (pss_one (ps_ret pe_bl)) pss_nil) (pss_cons (ps_set (i := 3) sc_Lboth_ways.nd rfl (Or.inl rfl) (pc gd G_read_book (hr.mono (by decide)) (by rfl) T.m_read_book T.F_read_book.kp T.b_read_book .nil pass0 (pa_cons (pv 2) pa_nil))) (pss_cons (ps_if ((pw_or (pt_cmpR (op_neOwn gd G_Beq (hr.mono (by decide)) (roomU hr) T.b_Beq T.M_Beq.at_ T.M_Beq.fn T.x_ne T.x_mro pass0) (pv 3) (pv 1) (nomark _)) (pw_or (pt_not (pt_cmpR (op_eqOwn gd G_Beq (hr.mono (by decide)) (roomU hr) T.b_Beq T.M_Beq.at_ T.M_Beq.fn pass0) (pcK gd G_read_book (hr.mono (by decide)) (by rfl) T.m_read_book T.F_read_book.kp T.k_read_book_text pass0 (pk_cons (pv 2) pk_nil)) (pv 1) (nomark _))) (pw_or1 (pt_cmpR op_ne (pe_callB (call_reprG gd G_Brepr (hr.mono (by decide)) (roomU hr) T.b_Brepr T.M_Brepr.at_ T.M_Brepr.fn pass0) (by rfl) T.z_repr boot_repr (pa_cons (pv 3) pa_nil)) (pe_callB (call_reprG gd G_Brepr (hr.mono (by decide)) (roomU hr) T.b_Brepr T.M_Brepr.at_ T.M_Brepr.fn pass0) (by rfl) T.z_repr boot_repr (pa_cons (pv 1) pa_nil)) (nomark _)))))).pt (pss_one (ps_ret pe_bl)) pss_nil) (pss_cons (ps_set (i := 4) sc_Lboth_ways.nd rfl (Or.inl rfl) (pe_lst (pa_cons (pe_lc (own := [("_law_sort", 5)]) (g := gName 5) rfl sc_Lboth_ways.nd (pi_list (pe_lst (pa_cons pe_str (pa_cons pe_str (pa_cons pe_str (pa_cons pe_str pa_nil)))))) (blkOk_by (N := N_Lboth_ways) (sc := defScope s_Lboth_ways) (by decide +kernel)) (fun _ _ _ _ _ => (pg_name (i := 5) sc_Lboth_ways.nd rfl (Or.inl rfl) (Or.inr rfl))) (fun _ _ _ _ _ => pts_nil) (fun _ _ _ _ _ => (pe_dget (hu_of hr) (pv 0) (pv 5) (fun _ _ => rfl)))) (pa_cons (pe_dget (hu_of hr) (pv 0) pe_str (fun _ _ => rfl)) (pa_cons (pe_dget (hu_of hr) (pv 0) pe_str (fun _ _ => rfl)) pa_nil))))) (pss_cons (ps_set (i := 4) sc_Lboth_ways.nd rfl (Or.inl rfl) (pe_op op_cat (pv 4) (pe_lst (pa_cons (pc gd G_Lkinds_of (hr.mono (by decide)) (by rfl) T.m_Lkinds_of T.F_Lkinds_of.kp T.b_Lkinds_of .nil pass0 (pa_cons (pe_dget (hu_of hr) (pv 0) pe_str (fun _ _ => rfl)) pa_nil)) (pa_cons (pe_dget (hu_of hr) (pv 0) pe_str (fun _ _ => rfl)) (pa_cons (pe_dget (hu_of hr) (pv 0) pe_str (fun _ _ => rfl)) pa_nil)))))) (pss_one (ps_ret (pe_and (pe_cmpR op_eq (pc gd G_Ltold (hr.mono (by decide)) (by rfl) T.m_Ltold T.F_Ltold.kp T.b_Ltold .nil pass0 (pa_cons (pv 3) pa_nil)) (pe_callB (call_repr gd (roomU hr)) (by rfl) T.z_repr boot_repr (pa_cons (pv 4) pa_nil)) (nomark _)) (pe_and (pe_cmpR op_eq (pc gd G_text_of (hr.mono (by decide)) (by rfl) T.m_text_of T.F_text_of.kp T.b_text_of .nil pass0 (pa_cons (pv 3) pa_nil)) (pv 2) (nomark _)) (pe_one (pe_cmpR op_eq (pc gd G_text_of (hr.mono (by decide)) (by rfl) T.m_text_of T.F_text_of.kp T.b_text_of .nil pass0 (pa_cons (pv 1) pa_nil)) (pv 2) (nomark _))))))))))))), ?_⟩
    refine q_parR (cons_rw (cons1_raw (te := tVar 0) ⟨_, rfl, d, ks, r, rfl, hd, hk, ok, fun H1 b hb e1 hbn => cons1_raw ((ev_call (ea_cons (ev_var rfl) ea_nil) (fun _ e _ q _ => ⟨d, ks, r, rfl, hd.ex (e1.trans e), hk, ok, q⟩) : Ev _ _ H1 (.str (bkText (rN r)))) H1 (Ex.refl H1) _ fun H2 e2 => ⟨_, _, rfl, ?_⟩)⟩))
    have hb2 : BookAt K T.C H2 b (rN r) := hbn.at.ex e2
    have x2 := e1.trans e2
    show tSeq _ _ _ [some (.ref d), some (.ref b), some (.str (bkText (rN r))), none, none, none] H2
    have refl0 : ∀ (x : V), (!decide (x = x)) = false := fun x => by rw [decide_eq_true rfl]; rfl
    refine q_when (b := false) (et_or (a := false) (b := false) (et_test (ev_is (ev_op (ev_call (ea_cons (ev_var rfl) ea_nil) (sv_textof hb2)) (ev_var rfl) (rv_ne rfl)) (cbl (refl0 _)))) fun _ => et_test (ev_is (ev_op (ev_callK1 (ev_var rfl) (sv_textof hb2)) (ev_var rfl) (rv_ne rfl)) (cbl (refl0 _)))) (fun z => nomatch z) fun _ H3 e3 => ?_
    have hb3 := hb2.ex e3
    refine q_asgR ((eb_read (C := T.C) (K := K) ok.k (ev_var rfl)) H3 (Ex.refl H3) _ fun n H4 e4 hn => ?_)
    have hb4 := hb3.ex e4
    show tSeq _ _ _ [some (.ref d), some (.ref b), some (.str (bkText (rN r))), some (.ref n), none, none] H4
    refine q_when (b := false) (et_or (a := false) (b := false) (et_test (ev_is (ev_neB (eb_varX rfl hn) (ev_var rfl) hb4) (cbl (by rw [decide_eq_true rfl]; rfl)))) fun _ => et_or (a := false) (b := false) (et_not (a := true) (et_test (ev_is (ev_eqB (eb_readK ok.k (ev_var rfl) fun _ => rfl) (ev_var rfl) hb4) (cbl (decide_eq_true rfl))))) fun _ => et_test (ev_is (ev_op (ev_reprB (ev_var rfl) hn) (ev_reprB (ev_var rfl) hb4) (rv_ne rfl)) (cbl (refl0 _)))) (fun z => nomatch z) fun _ H5 e5 => ?_
    have x5 := ((x2.trans e3).trans e4).trans e5
    have hd5 := hd.ex x5
    obtain ⟨f, hf, hfv⟩ := id hd5
    have gg : ∀ (pt : Pt) {Gs : L2.St} {G : Hp}, Gs[0]? = some (some (.ref d)) → Ex H5 G → Ev (tDGet (tVar 0) (tC (.str pt.s))) Gs G (f pt) := fun pt {Gs G} hs e => ev_get (ev_var hs) (e _ _ hf) (hk pt)
    refine q_asgR (lst_raw (cons_rw ((el_lcWN (us := kindRows) (fun _ => true) (fun u => f (wPt u)) (el_lst (ea_cons (ev_lit (w0 := .take) rfl) (ea_cons (ev_lit (w0 := .give) rfl) (ea_cons (ev_lit (w0 := .move) rfl) (ea_cons (ev_lit (w0 := .lift) rfl) ea_nil)))) (by show 4 ≤ 100000; omega)) (by decide) (fun _ => rfl) (fun u H1 e1 hu => et_yes) (fun u H1 e1 hu _ => ?_)) H5 (Ex.refl H5) _ fun lr H6 hlr e6 h6 => ?_)))
    · have e0 : wV u = pV (wPt u) := by
        simp only [kindRows, List.mem_cons, List.not_mem_nil, or_false] at hu
        rcases hu with rfl | rfl | rfl | rfl <;> rfl
      exact ev_getK (ev_var rfl) (ev_is (ev_var rfl) e0) (e1 _ _ hf) (hk _)
    rw [filter_yes] at h6
    have h6' : H6 lr = some (.lst [f .take, f .give, f .move, f .lift]) := h6
    refine (ea_cons (gg .fails rfl e6) (ea_cons (gg .shared rfl e6) ea_nil) : EvA _ _ H6 [f .fails, f .shared]) H6 (Ex.refl H6) _ fun H7 e7 => ⟨(by show 3 ≤ sizeLine; decide), fun wl hwl => ?_⟩
    have e8 : Ex H7 (upd H7 wl (.lst [.ref lr, f .fails, f .shared])) := Ex.new hwl
    have h8 : (upd H7 wl (.lst [.ref lr, f .fails, f .shared])) wl = some (.lst [.ref lr, f .fails, f .shared]) := upd_same
    show tSeq _ _ _ [some (.ref d), some (.ref b), some (.str (bkText (rN r))), some (.ref n), some (.ref wl), none] (upd H7 wl (.lst [.ref lr, f .fails, f .shared]))
    generalize upd H7 wl (.lst [.ref lr, f .fails, f .shared]) = H8 at e8 h8 ⊢
    have y8 := (e6.trans e7).trans e8
    obtain ⟨ah, eh, rh⟩ := hfv .holds (hk .holds)
    refine q_asgR (op_raw ⟨_, rfl, lst_raw (cons_rw (cons1_raw ((gg .holds rfl y8 : Ev _ _ H8 _) H8 (Ex.refl H8) _ fun H9 e9 => ⟨ah, r.holds, by rw [eh]; rfl, rh.ex (y8.trans e9), fun H10 kp e10 rk => ?_⟩)))⟩)
    have y10 := (y8.trans e9).trans e10
    refine (ea_cons (gg .batch rfl y10) (ea_cons (gg .settles rfl y10) ea_nil) : EvA _ _ H10 [f .batch, f .settles]) H10 (Ex.refl H10) _ fun H11 e11 => ⟨(by show 3 ≤ sizeLine; decide), fun w2 hw2 => ?_⟩
    have e12 : Ex H11 (upd H11 w2 (.lst [.ref kp, f .batch, f .settles])) := Ex.new hw2
    have z12 := ((e9.trans e10).trans e11).trans e12
    refine ⟨wl, w2, _, _, rfl, rfl, z12 _ _ h8, upd_same, (by show 3 + 3 ≤ 16777216; omega), fun w3 hw3 => ?_⟩
    have e13 : Ex (upd H11 w2 (.lst [.ref kp, f .batch, f .settles])) (upd (upd H11 w2 (.lst [.ref kp, f .batch, f .settles])) w3 (.lst ([.ref lr, f .fails, f .shared] ++ [.ref kp, f .batch, f .settles]))) := Ex.new hw3
    have h13 : (upd (upd H11 w2 (.lst [.ref kp, f .batch, f .settles])) w3 (.lst ([.ref lr, f .fails, f .shared] ++ [.ref kp, f .batch, f .settles]))) w3 = some (.lst [.ref lr, f .fails, f .shared, .ref kp, f .batch, f .settles]) := upd_same
    show tRet _ _ [some (.ref d), some (.ref b), some (.str (bkText (rN r))), some (.ref n), some (.ref w3), none] (upd (upd H11 w2 (.lst [.ref kp, f .batch, f .settles])) w3 (.lst ([.ref lr, f .fails, f .shared] ++ [.ref kp, f .batch, f .settles])))
    have z13 : Ex H8 _ := z12.trans e13
    have r13 := ((rk.ex e11).ex e12).ex e13
    generalize upd (upd H11 w2 (.lst [.ref kp, f .batch, f .settles])) w3 (.lst ([.ref lr, f .fails, f .shared] ++ [.ref kp, f .batch, f .settles])) = H13 at h13 z13 r13 ⊢
    have y13 := y8.trans z13
    have hn13 := (hn.ex e5).ex y13
    have hb13 := (hb4.ex e5).ex y13
    have hl13 : H13 lr = some (.lst [f .take, f .give, f .move, f .lift]) := z13 _ _ (e8 _ _ (e7 _ _ h6'))
    let f2 : Pt → V := fun p => if p = .holds then .ref kp else f p
    have hv2 : ∀ {G : Hp}, Ex H13 G → ∀ p, ((rN r).get p).At K G (f2 p) := fun {G} e p => by
      by_cases z : p = .holds
      · subst z
        exact ⟨kp, rfl, (r13.ex e).at_⟩
      · show ((rN r).get p).At K G (if p = .holds then .ref kp else f p)
        rw [if_neg z, rN_get z]
        exact (hfv p (hk p)).ex (y13.trans e)
    have rw3 : Ev (tCB (rRepr K) (tCons (tVar 4) tNil)) [some (.ref d), some (.ref b), some (.str (bkText (rN r))), some (.ref n), some (.ref w3), none] H13 (.str (toldD (rN r)).shown) := ev_cb (ea_cons (ev_var rfl) ea_nil) (rc_reprD (d := toldD (rN r)) (fun H3 e3 => toldD_of (f := f2) (l := lr) (sq_of (e3 _ _ h13)) (sq_of (e3 _ _ hl13)) (hv2 e3)) rfl (sm_told ok.k) (by omega) (by omega))
    exact s_ret (v := .bl true) (ev_is (ev_andV (a := true) (b := true) (ev_is (ev_op (ev_call (ea_cons (ev_var rfl) ea_nil) (sv_told hn13)) rw3 (rv_eq rfl)) (cbl (decide_eq_true rfl))) fun _ => ev_is (ev_andV (a := true) (b := true) (ev_is (ev_op (ev_call (ea_cons (ev_var rfl) ea_nil) (sv_textof hn13)) (ev_var rfl) (rv_eq rfl)) (cbl (decide_eq_true rfl))) fun _ => ev_is (ev_op (ev_call (ea_cons (ev_var rfl) ea_nil) (sv_textof hb13)) (ev_var rfl) (rv_eq rfl)) (cbl (decide_eq_true rfl))) rfl) rfl) fun G e => q G ((x5.trans y13).trans e)
end
end My
namespace My
open PySem PySem.Spec PyProof.Rows L2 GL Evl StX SkE
/-! ### texts tell books apart; lists of rules -/
theorem map_s_inj {us ws : Rw} (h : us.map Wd.s = ws.map Wd.s) : us = ws := (List.map_inj_right fun _ _ e => Wd.inj e).mp h
theorem parts_inj {r l : Ru} (okr : Ok r) (okl : Ok l) {p : Pt} (h : lineT (p.s :: partWs r p) = lineT (p.s :: partWs l p)) : partWs r p = partWs l p := by
  have cl : ∀ {r : Ru}, Ok r → ∀ t ∈ p.s :: partWs r p, Clean t := fun ok t ht => by
    rcases List.mem_cons.mp ht with rfl | ht
    · exact pt_clean p
    · exact parts_clean ok t ht
  exact (List.cons.inj (line_inj (by simp) (by simp) (cl okr) (cl okl) h)).2
theorem sh_inj {a b : Bool} (h : shW a = shW b) : a = b := by
  cases a <;> cases b <;> first | rfl | exact absurd h (by decide +kernel)
theorem se_inj {a b : Bool} (h : seW a = seW b) : a = b := by
  cases a <;> cases b <;> first | rfl | exact absurd h (by decide +kernel)
theorem text_inj {r l : Ru} (okr : Ok r) (okl : Ok l) (h : bkText r = bkText l) : r = l := by
  have e0 : bkLines r ++ ([""] : List Str) = bkLines l ++ ([""] : List Str) := by rw [← bk_split okr, ← bk_split okl, h]
  have e1 : bkLines r = bkLines l := List.append_cancel_right e0
  have ln : ∀ p ∈ linePs, lineT (p.s :: partWs r p) = lineT (p.s :: partWs l p) := by
    have e2 := (List.append_inj e1 rfl).1
    exact fun p hp => List.map_inj_left.mp e2 p hp
  have pt : ∀ p ∈ linePs, partWs r p = partWs l p := fun p hp => parts_inj okr okl (ln p hp)
  have lst : lineT [shW r.shared, seW r.settles] = lineT [shW l.shared, seW l.settles] := (List.cons.inj (List.append_inj e1 rfl).2).1
  have c2 : ∀ {r : Ru}, ∀ t ∈ [shW r.shared, seW r.settles], Clean t := fun t ht => by
    simp only [List.mem_cons, List.not_mem_nil, or_false] at ht
    rcases ht with rfl | rfl
    · exact sh_clean _
    · exact se_clean _
  have e3 := line_inj (by simp) (by simp) c2 c2 lst
  have h1 := map_s_inj (pt .take (by decide)); have h2 := map_s_inj (pt .give (by decide)); have h3 := map_s_inj (pt .move (by decide)); have h4 := map_s_inj (pt .lift (by decide)); have h5 := map_s_inj (pt .holds (by decide))
  have h6 : r.fails = l.fails := Wd.inj (List.cons.inj (pt .fails (by decide))).1
  have h7 : r.batch = l.batch := by
    have e : numT r.batch = numT l.batch := (List.cons.inj (pt .batch (by decide))).1
    have a := num_back okr.b.2
    rw [e, num_back okl.b.2] at a
    have := Option.some.inj a
    omega
  have h8 := sh_inj (List.cons.inj e3).1
  have h9 := se_inj (List.cons.inj (List.cons.inj e3).2).1
  cases r
  cases l
  dsimp only at h1 h2 h3 h4 h5 h6 h7 h8 h9
  subst h1 h2 h3 h4 h5 h6 h7 h8 h9
  rfl
theorem text_iff {r l : Ru} (okr : Ok r) (okl : Ok l) : decide (bkText r = bkText l) = decide (r = l) := decide_eq_decide.mpr ⟨text_inj okr okl, fun e => by rw [e]⟩
def Dicts (K : PySem.W.Frag) (H : Hp) (ys : List V) : Prop := ∀ y ∈ ys, ∃ c l, y = .ref c ∧ DictAt K H c drK l ∧ OkN l
section
variable {P : Program} {w : World} {K : PySem.W.Frag} {mg : Str → Option Value} {base : Heap} {C : Addr} {H H' H0 H1 G : Hp} {σ : L2.St} {te tb ta tc tl tk : TE} {t tt : TT} {tu tz : TS} {tA : TA} {E Er : XK} {D : Ends} {a b c d dx m q0 : Addr} {us : Rw} {xs ys : List V} {rs qs : List Rw} {ks ls : List Pt} {r l : Ru} {v : V} {Q : VK} {j : Nat} {vs : List Nat} {s1 s2 z : Str} {p p1 p2 : Pt}
theorem dict_ne (h : DictAt K H c ks r) (p : PotAt H a) : c ≠ a := fun e => by
  obtain ⟨f, h1, _⟩ := h
  obtain ⟨x, y, h2, _⟩ := p
  rw [e, h2] at h1
  cases h1
theorem Dicts.ex (h : Dicts K H ys) (e : Ex H H') : Dicts K H' ys := fun y hy => by
  obtain ⟨c, l, rfl, h1, h2⟩ := h y hy
  exact ⟨c, l, rfl, h1.ex e, h2⟩
theorem Dicts.pot (h : Dicts K H ys) (e : ExB a H H') (p : PotAt H a) : Dicts K H' ys := fun y hy => by
  obtain ⟨c, l, rfl, h1, h2⟩ := h y hy
  exact ⟨c, l, rfl, h1.exB e (dict_ne h1 p) p.nt, h2⟩
theorem Dicts.exL (h : Dicts K H ys) (e : ExB q0 H H') (hq : H q0 = some (.lst xs)) : Dicts K H' ys := fun y hy => by
  obtain ⟨c, l, rfl, h1, h2⟩ := h y hy
  exact ⟨c, l, rfl, h1.exL e hq, h2⟩
theorem Dicts.app {zs : List V} (h : Dicts K H ys) (h2 : Dicts K H zs) : Dicts K H (ys ++ zs) := fun y hy => (List.mem_append.mp hy).elim (h y) (h2 y)
/-- evaluates, beside a pot, to a new list of rules -/
def EvDs (K : PySem.W.Frag) (te : TE) (σ : L2.St) (H : Hp) (a : Addr) : Prop := ∀ H1, Ex H H1 → PotAt H1 a → ∀ Q : VK, (∀ p ys H2, H1 p = none → ExB a H1 H2 → PotAt H2 a → H2 p = some (.lst ys) → ys.length ≤ 1000 → Dicts K H2 ys → Q (.ref p) H2) → te σ H1 Q
/-- evaluates, beside a pot, to new rules -/
def EvNd (K : PySem.W.Frag) (te : TE) (σ : L2.St) (H : Hp) (a : Addr) : Prop := ∀ H1, Ex H H1 → ∀ Q : VK, (∀ c l H2, ExB a H1 H2 → PotAt H2 a → DictAt K H2 c drK l → OkN l → Q (.ref c) H2) → te σ H1 Q
theorem lc_dicts {J : It} {n : Nat} {Gd : Hp → Prop} {Y : Nat → Hp → V → Hp → Prop} {Dl : Addr} {Qd : Hp → Prop} (wk : Walk J n Gd Y) (hn : n ≤ 1000) (hp : PotAt H1 a) (hD : H1 Dl = none) (hG : ∀ G, ExB a H1 G → Gd G) (hw : ∀ x, wipe ((wipe σ vs).set j (some x)) vs = wipe σ vs)
    (turn : ∀ i x G G', i < n → ExB a H1 G → PotAt G a → Y i G x G' → G' = G ∧ ∃ b, EvT tt ((wipe σ vs).set j (some x)) G b ∧ (b = true → EvNd K te ((wipe σ vs).set j (some x)) G a)) (hd : ∀ G yc, ExB a H1 G → PotAt G a → G Dl = some (.lst yc) → yc.length ≤ 1000 → Dicts K G yc → Qd G) :
    ∃ W : Nat → Nat → Hp → Prop, (∃ m, W 0 m (upd H1 Dl (.lst []))) ∧ ∀ i m H, W i m H →
      (J.stop i H ∧ Qd H) ∨ (J.go i H ∧ ∃ Nx : Hp → Prop, (∀ H', Nx H' → ∃ m', m' < m ∧ W (i + 1) m' H') ∧ ∀ x H', J.yld i H x H' → gName j x (wipe σ vs) H' fun σ2 H2 => wipe σ2 vs = wipe σ vs ∧ tt σ2 H2 fun b H3 =>
        if b = true then te σ2 H3 fun y H4 => ∃ acc, H4 Dl = some (.lst acc) ∧ acc.length < sizeLine ∧ Nx (upd H4 Dl (.lst (acc ++ [y]))) else Nx H3) := by
  have nD := hp.ne hD
  refine lc_it wk (fun k G => ∃ yc, ExB a H1 G ∧ PotAt G a ∧ G Dl = some (.lst yc) ∧ yc.length ≤ k ∧ Dicts K G yc) ⟨[], ExB.of (Ex.new hD), hp.ex (Ex.new hD), upd_same, Nat.le_refl _, fun y hy => absurd hy List.not_mem_nil⟩ (fun k G _ z => hG G z.choose_spec.1) (fun k v G1 G2 hk z y => ?_) (fun G z => ?_)
  · obtain ⟨yc, z1, z2, z3, z4, z5⟩ := z
    obtain ⟨rfl, bb, ht, he⟩ := turn k v G1 G2 hk z1 z2 y
    refine ⟨hw _, ht _ (Ex.refl _) _ fun G3 e3 => ?_⟩
    cases bb with
    | false => exact ⟨yc, z1.trans (ExB.of e3), z2.ex e3, e3 _ _ z3, by omega, z5.ex e3⟩
    | true =>
      refine he rfl G3 e3 _ fun c l G4 x4 p4 hc ok => ?_
      have h4 : G4 Dl = some (.lst yc) := x4 _ _ nD (e3 _ _ z3)
      refine ⟨yc, h4, by rw [sizeLine_eq]; omega, yc ++ [.ref c], ((z1.trans (ExB.of e3)).trans x4).mut hD, p4.exB ExB.set nD.symm, upd_same, by rw [List.length_append, List.length_singleton]; omega, ?_⟩
      refine ((z5.ex e3).pot x4 (z2.ex e3)).app ?_ |>.exL ExB.set h4
      exact fun y hy => by
        rw [List.mem_singleton.mp hy]
        exact ⟨c, l, rfl, hc, ok⟩
  · obtain ⟨yc, z1, z2, z3, z4, z5⟩ := z
    exact hd G yc z1 z2 z3 (by omega) z5
/-- [changed(..near..) for near in rows] -/
theorem ds_rows {vs : List Nat} {j : Nat} (h : EvRs K tc σ H rs) (hl : rs.length ≤ 1000) (hw : ∀ x, wipe ((wipe σ vs).set j (some x)) vs = wipe σ vs)
    (he : ∀ b us G, ExB a H G → PotAt G a → us ∈ rs → RowX K G b us → EvNd K te ((wipe σ vs).set j (some (.ref b))) G a) : EvDs K (tLc (iList K tc) (gName j) tYes te vs) σ H a := fun H0 e0 hp Q q => h H0 e0 _ fun p ys H1 hp1 e1 h1 r1 => ⟨p, rfl, ⟨_, sq_of h1⟩, fun Dl hD =>
  lc_dicts (walk_list (K := K) (a := p) (xs := ys)) (by rw [r1.len]; exact hl) (hp.ex e1) hD (fun G x => sq_of (x _ _ (hp.ne hp1) h1)) hw (fun i x G G' hi xG pG y => by
    obtain ⟨rfl, hx⟩ := y
    obtain ⟨b, us, rfl, hu, ra⟩ := (r1.pot xG (hp.ex e1)).at hx
    exact ⟨rfl, true, et_yes, fun _ => he b us G' ((ExB.of (e0.trans e1)).trans xG) pG (List.mem_of_getElem? hu) ra⟩) fun G yc xG pG hG hy dG => q Dl yc G (fresh_back e1 hD) ((ExB.of e1).trans xG) pG hG hy dG⟩
end
end My
namespace My
open PySem PySem.Spec PyProof.Rows L2 GL Evl StX SkE
/-! ### the law, for one pot -/
def sp_Lright : Sp := fun vs H Q _ => ∃ a, vs = [.ref a] ∧ PotAt H a ∧ ∀ H', ExB a H H' → Q (.bl true) H'
theorem okN_take {r : Ru} {us : Rw} (o : OkN r) (h : us ∈ takes r.batch) : OkN { r with take := us } := ⟨⟨take_ok o.k.b.1 h, o.k.g, o.k.m, o.k.l, o.k.f, o.k.h, o.k.b⟩, o.nd, o.w⟩
theorem okN_give {r : Ru} {us : Rw} (o : OkN r) (h : us ∈ gives) : OkN { r with give := us } := ⟨⟨o.k.t, give_ok h, o.k.m, o.k.l, o.k.f, o.k.h, o.k.b⟩, o.nd, o.w⟩
theorem okN_lift {r : Ru} {us : Rw} (o : OkN r) (h : us ∈ liftRows) : OkN { r with lift := us } := ⟨⟨o.k.t, o.k.g, o.k.m, lift_ok h, o.k.f, o.k.h, o.k.b⟩, o.nd, o.w⟩
theorem okN_move {r : Ru} {us : Rw} (o : OkN r) (h : us ∈ moves r.shared) : OkN { r with move := us } := ⟨⟨o.k.t, o.k.g, move_ok h, o.k.l, o.k.f, o.k.h, o.k.b⟩, o.nd, o.w⟩
theorem okN_batch {r : Ru} {n : Nat} (o : OkN r) (h : r.take.getLast? = some .live) (h1 : 1 ≤ n) (h2 : n ≤ 50) : OkN { r with batch := n } := ⟨⟨⟨o.k.t.1, o.k.t.2.1, by
  show (decide (n = 1) || decide (r.take.getLast? = some .live)) = true
  rw [decide_eq_true h, Bool.or_true]⟩, o.k.g, o.k.m, o.k.l, o.k.f, o.k.h, ⟨h1, h2⟩⟩, o.nd, o.w⟩
theorem okN_shared {r : Ru} {b : Bool} (o : OkN r) (h : r.move = [] ∨ r.move.head? = some .home) : OkN { r with shared := b } := ⟨⟨o.k.t, o.k.g, ⟨o.k.m.1, o.k.m.2.1, mv_shared h b⟩, o.k.l, o.k.f, o.k.h, o.k.b⟩, o.nd, o.w⟩
theorem mv_of {us : Rw} {b : Bool} (h : us ∈ (moves true).filter fun us => lMove us b) : us ∈ moves b := by
  obtain ⟨h1, h2⟩ := List.mem_filter.mp h
  exact List.mem_filter.mpr ⟨(List.mem_filter.mp h1).1, h2⟩
theorem pack_ne (b : Bool) : ((moves true).filter fun us => lMove us b) ≠ [] := by cases b <;> decide +kernel
section
variable {P : Program} {w : World} {K : PySem.W.Frag} {mg : Str → Option Value} {base : Heap} {C : Addr} {H H' H0 H1 G : Hp} {σ : L2.St} {te tb ta tc tl tk : TE} {t tt : TT} {tu tz : TS} {tA : TA} {E Er : XK} {D : Ends} {a b c d dx m q0 : Addr} {us : Rw} {xs ys : List V} {rs qs : List Rw} {ks ls : List Pt} {r l : Ru} {v : V} {Q : VK} {j : Nat} {vs : List Nat} {s1 s2 z : Str} {p p1 p2 : Pt}
theorem eb_book (h : Ev te σ H (.ref d)) (hd : DictAt K H d drK r) (ok : OkN r) : EvB K C (tCall (sp_LbookN K C) [] Er (tCons te tNil)) σ H (rN r) := fun H1 e Q q => cons1_raw (h H1 e _ fun H2 e2 => ⟨d, drK, r, rfl, hd.ex (e.trans e2), drK_mem, ok, fun H3 b hb e3 hbn => q b H3 (e2.trans e3) hbn.at⟩)
theorem ev_eqBB {Er : XK} (h : EvB K C ta σ H r) (h2 : ∀ H1, Ex H H1 → EvB K C tb σ H1 l) : Ev (tOp (rEqOwn K C (sp_Beq K C) Er) ta tb) σ H (.bl (decide (r = l))) := fun H1 e1 Q q => h H1 e1 _ fun p H2 e2 hp => h2 H2 (e1.trans e2) H2 (Ex.refl H2) _ fun b H3 e3 hb => by
  obtain ⟨dx, d, z⟩ := id (hp.ex e3)
  obtain ⟨dy, d', z'⟩ := id hb
  exact ⟨p, dx, _, rfl, z.ob, .ins z'.ob, .inl ⟨p, b, r, l, rfl, hp.ex e3, hb, fun H4 e4 => ⟨_, rfl, q H4 ((e2.trans e3).trans e4)⟩⟩⟩
theorem ev_textB (h : EvB K C te σ H r) : Ev (tCall (sp_textof K C) [] Er (tCons te tNil)) σ H (.str (bkText r)) := fun H1 e Q q => cons1_raw (h H1 e _ fun p H2 e2 hb => ⟨p, r, rfl, hb, fun H3 e3 => q H3 (e2.trans e3)⟩)
theorem ev_text (h : Ev te σ H (.ref d)) (hd : DictAt K H d drK r) (ok : OkN r) : Ev (tCall (sp_Ltext K) [] Er (tCons te tNil)) σ H (.str (bkText (rN r))) := ev_call (ea_cons h ea_nil) fun _ e _ q _ => ⟨d, drK, r, rfl, hd.ex e, drK_mem, ok, q⟩
theorem ev_both (h : Ev te σ H (.ref d)) (hd : DictAt K H d drK r) (ok : OkN r) : Ev (tCall (sp_Lboth K) [] Er (tCons te tNil)) σ H (.bl true) := ev_call (ea_cons h ea_nil) fun _ e _ q _ => ⟨d, drK, r, rfl, hd.ex e, drK_mem, ok, q⟩
theorem str_iff {x y : Str} : decide (V.str x = V.str y) = decide (x = y) := decide_eq_decide.mpr ⟨fun e => V.str.inj e, fun e => by rw [e]⟩
theorem bl_same (x : Bool) : decide (V.bl x = V.bl x) = true := decide_eq_true rfl
/-- changed(rules, "..", v) -/
theorem nd_changed {i : Nat} (hs : σ[i]? = some (some (.ref d))) (hd : DictAt K H d drK r) (hp : PotAt H a) (hv : Ev te σ H v) (hat : (l.get p).At K H v) (ok : OkN (r.upd l p)) (hz : z = p.s) : EvNd K (tCall (sp_Lchanged K) [] Er (tCons (tVar i) (tCons (tC (.str z)) (tCons te tNil)))) σ H a := fun H1 e Q q => by
  subst hz
  exact ⟨_, hs, hv H1 e _ fun H2 e2 => ⟨d, r, l, p, v, rfl, hd.ex (e.trans e2), hat.ex (e.trans e2), fun H3 c hc e3 hdc => q c _ H3 (ExB.of (e2.trans e3)) (((hp.ex e).ex e2).ex e3) hdc ok⟩⟩
/-- xs.extend([rules..]) -/
theorem q_extDs {i : Nat} (hs : σ[i]? = some (some (.ref q0))) (hl : H q0 = some (.lst xs)) (hp : PotAt H a) (nq : q0 ≠ a) (hd : Dicts K H xs) (h : EvDs K te σ H a) (hz : xs.length ≤ 20000)
    (k : ∀ H2 zs, PotAt H2 a → H2 q0 = some (.lst zs) → zs.length ≤ xs.length + 1000 → Dicts K H2 zs → (∀ b u, b ≠ a → b ≠ q0 → H b = some u → H2 b = some u) → tz D σ H2) : tSeq (tDrop (tBM K "list" rExtend (tVar i) (tCons te tNil))) tz D σ H :=
  ⟨_, hs, Or.inl ⟨rfl, xs, sq_of hl⟩, cons1_raw (h H (Ex.refl H) hp _ fun p ys H1 hp1 x1 p1 h1 ly dy => by
    have hl1 := x1 _ _ nq hl
    refine ⟨q0, p, xs, ys, rfl, rfl, hl1, h1, by rw [sizeLine_eq]; omega, k _ (xs ++ ys) (p1.exB ExB.set nq.symm) upd_same (by rw [List.length_append]; omega) (((hd.pot x1 hp).app dy).exL ExB.set hl1) fun b u n1 n2 hb => ?_⟩
    rw [upd_ne n2]
    exact x1 _ _ n1 hb)⟩
/-- what stands beside the pot and the list -/
structure Env (K : PySem.W.Frag) (a m d q0 : Addr) (r : Ru) (ms : List V) (H : Hp) : Prop where
  p : PotAt H a
  hm : H m = some (.lst ms)
  rm : RowsAt K H ms (moves true)
  d : DictAt K H d drK r
  nm : m ≠ a
  nq : q0 ≠ a
  nmq : m ≠ q0
theorem Env.ex {ms : List V} (h : Env K a m d q0 r ms H) (e : Ex H H') : Env K a m d q0 r ms H' := ⟨h.p.ex e, e _ _ h.hm, h.rm.ex e, h.d.ex e, h.nm, h.nq, h.nmq⟩
theorem Env.two {ms : List V} (h : Env K a m d q0 r ms H) (hq : H q0 = some (.lst xs)) (p : PotAt H' a) (e : ∀ b u, b ≠ a → b ≠ q0 → H b = some u → H' b = some u) : Env K a m d q0 r ms H' := by
  let H2 : Hp := fun b => if b = a then H' a else H b
  have e1 : ExB a H H2 := fun b o n hb => by
    show (if b = a then H' a else H b) = _
    rw [if_neg n]
    exact hb
  have p2 : PotAt H2 a := by
    obtain ⟨x, y, hx, hh⟩ := p
    refine ⟨x, y, ?_, hh⟩
    show (if a = a then H' a else H a) = _
    rw [if_pos rfl]
    exact hx
  have e2 : ExB q0 H2 H' := fun b o n hb => by
    by_cases z : b = a
    · have : (if b = a then H' a else H b) = some o := hb
      rw [if_pos z] at this
      rw [z]
      exact this
    · have : (if b = a then H' a else H b) = some o := hb
      rw [if_neg z] at this
      exact e b o z n this
  have hq2 : H2 q0 = some (.lst xs) := e1 _ _ h.nq hq
  exact ⟨p, e _ _ h.nm h.nmq h.hm, (h.rm.pot e1 h.p).exB e2 (NoTup.lst hq2), (h.d.exB e1 (dict_ne h.d h.p) h.p.nt).exL e2 hq2, h.nm, h.nq, h.nmq⟩
theorem ret_raw2 {s1 s2 : V} {i j : Nat} {QQ : L2.St → Hp → Prop} {t : Addr} {ob : Obj} (h : H t = some (.frz ob (.tup [s1, s2]))) (q : QQ ((σ.set i (some s1)).set j (some s2)) H) : gTup K 2 (gCons (gName i) (gCons (gName j) gNil)) (.ref t) σ H QQ :=
  ⟨t, [s1, s2], rfl, .inl (.inr ⟨ob, h⟩), rfl, s1, _, rfl, s2, _, rfl, rfl, q⟩
/-- [f(..) for lot in range(1, 51) if c] -/
theorem ds_rng2 {vs : List Nat} {j : Nat} {bb : Bool} (hw : ∀ x, wipe ((wipe σ vs).set j (some x)) vs = wipe σ vs) (ht : ∀ x G, ExB a H G → PotAt G a → EvT tt ((wipe σ vs).set j (some x)) G bb)
    (he : ∀ (i : Nat) G, ExB a H G → PotAt G a → bb = true → i < 50 → EvNd K te ((wipe σ vs).set j (some (nV (1 + i)))) G a) : EvDs K (tLc (iRng2 (tCons (tC (.int 1)) (tCons (tC (.int 51)) tNil))) (gName j) tt te vs) σ H a := fun H0 e0 hp Q q => ⟨1, 51, rfl, ⟨by omega, by omega, by omega, by omega⟩, fun Dl hD =>
  lc_dicts (walk_range (lo := 1) (n := 50)) (by omega) hp hD (fun _ _ => True.intro) hw (fun i x G G' hi xG pG y => by
    obtain ⟨rfl, rfl⟩ := y
    have ei : V.int (1 + (i : Int)) = nV (1 + i) := by
      show V.int _ = V.int _
      congr 1
    show G' = G' ∧ ∃ b, EvT tt ((wipe σ vs).set j (some (V.int (1 + (i : Int))))) G' b ∧ (b = true → EvNd K te ((wipe σ vs).set j (some (V.int (1 + (i : Int))))) G' a)
    rw [ei]
    exact ⟨rfl, bb, ht _ G' ((ExB.of e0).trans xG) pG, fun hb => he i G' ((ExB.of e0).trans xG) pG hb hi⟩) fun G yc xG pG hG hy dG => q Dl yc G hD xG pG hG hy dG⟩
theorem ds_rng1 {vs : List Nat} {j : Nat} (hw : ∀ x, wipe ((wipe σ vs).set j (some x)) vs = wipe σ vs)
    (he : ∀ x G, ExB a H G → PotAt G a → EvNd K te ((wipe σ vs).set j (some x)) G a) : EvDs K (tLc (iRng1 (tCons (tC (.int 4)) tNil)) (gName j) tYes te vs) σ H a := fun H0 e0 hp Q q => ⟨4, rfl, by omega, by omega, fun Dl hD =>
  lc_dicts (walk_range (lo := 0) (n := 4)) (by omega) hp hD (fun _ _ => True.intro) hw (fun i x G G' hi xG pG y => by
    obtain ⟨rfl, rfl⟩ := y
    exact ⟨rfl, true, et_yes, fun _ => he _ G' ((ExB.of e0).trans xG) pG⟩) fun G yc xG pG hG hy dG => q Dl yc G hD xG pG hG hy dG⟩
end
end My
namespace My
open PySem PySem.Spec PyProof.Rows L2 GL Evl StX SkE
section
variable {P : Program} {w : World} {K : PySem.W.Frag} {mg : Str → Option Value} {base : Heap} {C : Addr} {H H' H0 H1 G : Hp} {σ : L2.St} {te tb ta tc tl tk : TE} {t tt : TT} {tu tz : TS} {tA : TA} {E Er Er' : XK} {D : Ends} {a b c d dx m q0 pk : Addr} {us : Rw} {xs ys ms ps zs : List V} {rs qs : List Rw} {ks ls : List Pt} {r l : Ru} {v : V} {Q : VK} {j : Nat} {vs : List Nat} {s1 s2 z : Str} {p p1 p2 : Pt}
theorem ev_move0 {i : Nat} (hs : σ[i]? = some (some (.ref d))) (hd : DictAt K H d drK r) : ∃ am, Ev (tDGet (tVar i) (tC (.str "move"))) σ H (.ref am) ∧ RowX K H am r.move := by
  obtain ⟨v, e1, ⟨am, rfl, rx⟩⟩ := ev_part (σ := σ) (p := .move) hs hd (drK_mem _)
  exact ⟨am, e1, rx⟩
theorem ev_take0 {i : Nat} (hs : σ[i]? = some (some (.ref d))) (hd : DictAt K H d drK r) : ∃ am, Ev (tDGet (tVar i) (tC (.str "take"))) σ H (.ref am) ∧ RowX K H am r.take := by
  obtain ⟨v, e1, ⟨am, rfl, rx⟩⟩ := ev_part (σ := σ) (p := .take) hs hd (drK_mem _)
  exact ⟨am, e1, rx⟩
theorem et_lastLive {i : Nat} (hs : σ[i]? = some (some (.ref d))) (hd : DictAt K H d drK r) (ok : OkN r) : EvT (tTest (tOp rEq (tOp (rIxT K) (tDGet (tVar i) (tC (.str "take"))) (tUn (rU fun i => .int (-i)) (tC (.int 1)))) (tC (.str "live")))) σ H (decide (r.take.getLast? = some .live)) := by
  have ne : r.take ≠ [] := fun z => by
    have := ok.k.t.2.1
    change pTake r.take = true at this
    rw [z] at this
    cases this
  obtain ⟨at_, tt, xt⟩ := ev_take0 (K := K) hs hd
  obtain ⟨x, hx1, hx2⟩ := at_last ne
  refine et_test (ev_is (ev_op (ev_op tt (ev_un ev_c ru_neg) (rv_ixT xt.sq hx2)) (ev_lit (w0 := .live) rfl) (rv_eq rfl)) (cbl ?_))
  rw [wV_eq, hx1]
  exact decide_eq_decide.mpr ⟨fun z => by rw [z], fun z => Option.some.inj z⟩
theorem et_homeIs {i : Nat} (hs : σ[i]? = some (some (.ref d))) (hd : DictAt K H d drK r) : EvT (tOr (tTest (tOp (rEqD K) (tDGet (tVar i) (tC (.str "move"))) (tTupX tNil))) (tTest (tOp rEq (tOp (rIxT K) (tDGet (tVar i) (tC (.str "move"))) (tC (.int 0))) (tC (.str "home"))))) σ H (decide (r.move = []) || decide (r.move.head? = some .home)) := by
  obtain ⟨am, tm, xm⟩ := ev_move0 (K := K) hs hd
  refine et_or (et_test (ev_eqW tm xm er_0)) fun hne => et_test ?_
  have hne' : r.move ≠ [] := of_decide_eq_false hne
  obtain ⟨x, xs, ex⟩ : ∃ x xs, r.move = x :: xs := by
    cases e : r.move with
    | nil => exact absurd e hne'
    | cons x xs => exact ⟨x, xs, rfl⟩
  have sq := xm.sq
  rw [ex] at sq
  refine ev_is (ev_op (ev_op tm ev_c (rv_ixT (v := wV x) sq atI_zero)) (ev_lit (w0 := .home) rfl) (rv_eq rfl)) (cbl ?_)
  rw [wV_eq, ex]
  exact decide_eq_decide.mpr ⟨fun z => by rw [z]; rfl, fun z => Option.some.inj z⟩
/-- pick a move, change the rules by it -/
theorem nd_pick {i0 i2 i7 : Nat} (h0 : σ[i0]? = some (some (.ref a))) (h2 : σ[i2]? = some (some (.ref d))) (h7 : σ[i7]? = some (some (.ref pk))) (hd : DictAt K H d drK r) (hp : PotAt H a) (npk : pk ≠ a) (hk : H pk = some (.lst ps)) (hr : RowsAt K H ps ((moves true).filter fun us => lMove us r.shared)) (ok : OkN r) :
    EvNd K (tCall (sp_Lchanged K) [] Er (tCons (tVar i2) (tCons (tC (.str "move")) (tCons (tCall sp_Lpick [] Er' (tCons (tVar i0) (tCons (tVar i7) tNil))) tNil)))) σ H a := fun J1 j1 Q1 q1 => by
  have l1 : 1 ≤ ps.length := by
    rw [hr.len]
    exact List.length_pos_iff.mpr (pack_ne _)
  have l2 : ps.length ≤ 1000 := by
    rw [hr.len]
    exact Nat.le_trans (List.length_filter_le _ _) (moves_len true)
  refine ⟨_, h2, ⟨_, h0, _, h7, a, pk, ps, rfl, hp.ex j1, npk, j1 _ _ hk, l1, l2, fun J2 v jx jp hv => ?_⟩⟩
  have rJ := ((hr.ex j1).pot jx (hp.ex j1))
  obtain ⟨b, us, rfl, hu, ra⟩ := rJ.mem hv
  have dJ := (hd.ex j1).exB jx (dict_ne (hd.ex j1) (hp.ex j1)) (hp.ex j1).nt
  exact ⟨d, r, ⟨us, us, us, us, .undo, true, [], 1, true⟩, .move, .ref b, rfl, dJ, ⟨b, rfl, ra⟩, fun J3 c hc j3 hdc => q1 c _ J3 (jx.trans (ExB.of j3)) (jp.ex j3) hdc (okN_move ok (mv_of hu))⟩
theorem q_appD {i : Nat} (hs : σ[i]? = some (some (.ref q0))) (hl : H q0 = some (.lst xs)) (hp : PotAt H a) (nq : q0 ≠ a) (hd : Dicts K H xs) (h : EvNd K te σ H a) (hz : xs.length ≤ 20000)
    (k : ∀ H2 zs, PotAt H2 a → H2 q0 = some (.lst zs) → zs.length ≤ xs.length + 1 → Dicts K H2 zs → (∀ b u, b ≠ a → b ≠ q0 → H b = some u → H2 b = some u) → D.nx σ H2) : tDrop (tBM K "list" rAppend (tVar i) (tCons te tNil)) D σ H :=
  ⟨_, hs, Or.inl ⟨rfl, xs, sq_of hl⟩, cons1_raw (h H (Ex.refl H) _ fun c l H1 x1 p1 hc ok => by
    have hl1 := x1 _ _ nq hl
    refine ⟨q0, xs, .ref c, rfl, rfl, hl1, by rw [sizeLine_eq]; omega, k _ (xs ++ [.ref c]) (p1.exB ExB.set nq.symm) upd_same (by rw [List.length_append, List.length_singleton]; omega) (((hd.pot x1 hp).app fun y hy => ?_).exL ExB.set hl1) fun b u n1 n2 hb => ?_⟩
    · rw [List.mem_singleton.mp hy]
      exact ⟨c, l, rfl, hc, ok⟩
    · rw [upd_ne n2]
      exact x1 _ _ n1 hb)⟩
/-- all of them, by one bool each -/
theorem ev_allD {vs : List Nat} {j : Nat} (h : Ev tl σ H (.ref q0)) (hl : H q0 = some (.lst xs)) (hd : Dicts K H xs) (hz : xs.length ≤ 40000) (hw : ∀ x, wipe ((wipe σ vs).set j (some x)) vs = wipe σ vs)
    (he : ∀ c l H1, Ex H H1 → DictAt K H1 c drK l → OkN l → Ev te ((wipe σ vs).set j (some (.ref c))) H1 (.bl true)) : Ev (tCB (rAll K) (tCons (tLc (iList K tl) (gName j) tYes te vs) tNil)) σ H (.bl true) :=
  ev_is (ev_allB (bs := List.replicate xs.length true) (el_is (el_lcL (fun _ => true) (fun _ => .bl true) h (sq_of hl) hz hw (fun _ _ _ _ _ => et_yes) fun i x H1 e1 hx _ => by
    obtain ⟨c, l, rfl, hc, ok⟩ := hd x (List.mem_of_getElem? hx)
    exact he c l H1 e1 (hc.ex e1) ok) (by rw [given_rep, List.map_replicate]))) (cbl (all_rep _))
theorem q_sharedR (h2 : σ[2]? = some (some (.ref d))) (h6 : σ[6]? = some (some (.ref q0))) (env : Env K a m d q0 r ms H) (hl : H q0 = some (.lst zs)) (dz : Dicts K H zs) (lz : zs.length ≤ 20000) (ok : OkN r)
    (k : ∀ H2 zs2, Env K a m d q0 r ms H2 → H2 q0 = some (.lst zs2) → zs2.length ≤ zs.length + 1 → Dicts K H2 zs2 → (∀ b u, b ≠ a → b ≠ q0 → H b = some u → H2 b = some u) → tz D σ H2) : tSeq (tIfS (tOr (tTest (tOp (rEqD K) (tDGet (tVar 2) (tC (.str "move"))) (tTupX tNil))) (tTest (tOp rEq (tOp (rIxT K) (tDGet (tVar 2) (tC (.str "move"))) (tC (.int 0))) (tC (.str "home"))))) (tDrop (tBM K "list" rAppend (tVar 6) (tCons (tCall (sp_Lchanged K) [] Er (tCons (tVar 2) (tCons (tC (.str "shared")) (tCons (tNotV (tDGet (tVar 2) (tC (.str "shared")))) tNil)))) tNil))) tNext) tz D σ H :=
  q_when (et_homeIs h2 env.d) (fun hb H1 e1 => q_appD h6 (e1 _ _ hl) (env.p.ex e1) env.nq (dz.ex e1) (nd_changed (l := ⟨[], [], [], [], .undo, !r.shared, [], 1, true⟩) (p := .shared) h2 (env.d.ex e1) (env.p.ex e1) (ev_notV (ev_pS h2 (env.d.ex e1) (drK_mem _))) rfl (okN_shared ok (by simpa using hb)) rfl) lz fun H2 zs2 p2 hl2 l2 dz2 b2 => k H2 zs2 ((env.ex e1).two (e1 _ _ hl) p2 b2) hl2 l2 dz2 fun b u n1 n2 hbu => b2 b u n1 n2 (e1 _ _ hbu)) fun _ H1 e1 => k H1 zs (env.ex e1) (e1 _ _ hl) (by omega) (dz.ex e1) fun b u _ _ hbu => e1 _ _ hbu
theorem ok_Lright (T : Txt K mg w) (G_Lmoves : FnG P w K mg base CX0 3 T.f_Lmoves T.fd_Lmoves ["_law_is_shared"] (sp_Lmoves K)) (G_Lany_rules : FnG P w K mg base CX0 4 T.f_Lany_rules T.fd_Lany_rules ["_law_pot_here", "_law_moves_some"] (sp_LanyR K)) (G_Lboth_ways : FnG P w K mg base CX0 10 T.f_Lboth_ways T.fd_Lboth_ways ["_law_rules"] (sp_Lboth K)) (G_Lturned_rules : FnG P w K mg base CX0 5 T.f_Lturned_rules T.fd_Lturned_rules ["_law_pot_here", "_law_rules", "_law_moves_some"] (sp_LturnR K)) (G_Ltext : FnG P w K mg base CX0 2 T.f_Ltext T.fd_Ltext ["_law_rules"] (sp_Ltext K)) (G_Beq : FnG P w K mg base CX0 1 T.f_Beq T.fd_Beq ["self", "other"] (sp_Beq K T.C)) (G_Lbook : FnG P w K mg base CX0 9 T.f_Lbook T.fd_Lbook ["_law_rules"] (sp_LbookN K T.C)) (G_text_of : FnG P w K mg base CX0 4 T.f_text_of T.fd_text_of ["book"] (sp_textof K T.C)) (G_Ltakes : FnG P w K mg base CX0 3 T.f_Ltakes T.fd_Ltakes ["_law_amount"] (sp_Ltakes K)) (G_Lchanged : FnG P w K mg base CX0 1 T.f_Lchanged T.fd_Lchanged ["_law_rules", "_law_key", "_law_entry"] (sp_Lchanged K)) (G_Lgives : FnG P w K mg base CX0 3 T.f_Lgives T.fd_Lgives [] (sp_Lgives K)) (G_Llifts : FnG P w K mg base CX0 1 T.f_Llifts T.fd_Llifts [] (sp_Llifts K)) (G_Lis_move : FnG P w K mg base CX0 2 T.f_Lis_move T.fd_Lis_move ["_law_some", "_law_is_shared"] (sp_Lmv K)) (G_Lpick : FnG P w K mg base CX0 2 T.f_Lpick T.fd_Lpick ["_law_pot_here", "_law_some"] sp_Lpick) : FnG P w K mg base CX0 11 T.f_Lright T.fd_Lright ["_law_pot_here"] sp_Lright := by
  skip
  refine okG T.F_Lright sc_Lright (fun vs H Q E h => ?_) (fun cdv A outer s H vs Q E gd hr h => ?_)
  · obtain ⟨_, rfl, _⟩ := h
    all_goals rfl
  · obtain ⟨a, rfl, hp, q⟩ := h
    refine ⟨_, (pss_cons (ps_set (i := 1) sc_Lright.nd rfl (Or.inl rfl) (pc gd G_Lmoves (hr.mono (by decide)) (by rfl) T.m_Lmoves T.F_Lmoves.kp T.b_Lmoves .nil pass0 (pa_cons pe_bl pa_nil))) (pss_cons (ps_set (i := 2) sc_Lright.nd rfl (Or.inr rfl) (pc gd G_Lany_rules (hr.mono (by decide)) (by rfl) T.m_Lany_rules T.F_Lany_rules.kp T.b_Lany_rules .nil pass0 (pa_cons (pv 0) (pa_cons (pv 1) pa_nil)))) (pss_cons (ps_if (pt_not (pt_val (pc gd G_Lboth_ways (hr.mono (by decide)) (by rfl) T.m_Lboth_ways T.F_Lboth_ways.kp T.b_Lboth_ways .nil pass0 (pa_cons (pv 2) pa_nil)))) (pss_one (ps_ret pe_bl)) pss_nil) (pss_cons (ps_for PassesOwn.never rfl (pi_range1 (by rfl) T.z_range (pa_cons pe_int pa_nil)) (pg_name (i := 3) sc_Lright.nd rfl (Or.inl rfl) (Or.inr rfl)) (pss_cons (ps_set (i := 4) sc_Lright.nd rfl (Or.inl rfl) (pc gd G_Lturned_rules (hr.mono (by decide)) (by rfl) T.m_Lturned_rules T.F_Lturned_rules.kp T.b_Lturned_rules .nil pass0 (pa_cons (pv 0) (pa_cons (pv 2) (pa_cons (pv 1) pa_nil))))) (pss_cons (ps_set (i := 5) sc_Lright.nd rfl (Or.inl rfl) (pe_cmpR op_eq (pc gd G_Ltext (hr.mono (by decide)) (by rfl) T.m_Ltext T.F_Ltext.kp T.b_Ltext .nil pass0 (pa_cons (pv 4) pa_nil)) (pc gd G_Ltext (hr.mono (by decide)) (by rfl) T.m_Ltext T.F_Ltext.kp T.b_Ltext .nil pass0 (pa_cons (pv 2) pa_nil)) (nomark _))) (pss_cons (ps_if ((pw_or (pt_not (pt_val (pc gd G_Lboth_ways (hr.mono (by decide)) (by rfl) T.m_Lboth_ways T.F_Lboth_ways.kp T.b_Lboth_ways .nil pass0 (pa_cons (pv 4) pa_nil)))) (pw_or1 (pt_cmpR op_ne (pe_cmpR (op_eqOwn gd G_Beq (hr.mono (by decide)) (roomU hr) T.b_Beq T.M_Beq.at_ T.M_Beq.fn pass0) (pc gd G_Lbook (hr.mono (by decide)) (by rfl) T.m_Lbook T.F_Lbook.kp T.b_Lbook .nil pass0 (pa_cons (pv 4) pa_nil)) (pc gd G_Lbook (hr.mono (by decide)) (by rfl) T.m_Lbook T.F_Lbook.kp T.b_Lbook .nil pass0 (pa_cons (pv 2) pa_nil)) (nomark _)) (pv 5) (nomark _))))).pt (pss_one (ps_ret pe_bl)) pss_nil) (pss_one (ps_if (pt_cmpR op_ne (pe_cmpR op_eq (pc gd G_text_of (hr.mono (by decide)) (by rfl) T.m_text_of T.F_text_of.kp T.b_text_of .nil pass0 (pa_cons (pc gd G_Lbook (hr.mono (by decide)) (by rfl) T.m_Lbook T.F_Lbook.kp T.b_Lbook .nil pass0 (pa_cons (pv 4) pa_nil)) pa_nil)) (pc gd G_text_of (hr.mono (by decide)) (by rfl) T.m_text_of T.F_text_of.kp T.b_text_of .nil pass0 (pa_cons (pc gd G_Lbook (hr.mono (by decide)) (by rfl) T.m_Lbook T.F_Lbook.kp T.b_Lbook .nil pass0 (pa_cons (pv 2) pa_nil)) pa_nil)) (nomark _)) (pv 5) (nomark _)) (pss_one (ps_ret pe_bl)) pss_nil)))))) (pss_cons (ps_setLc (i := 6) (own := [("_law_near", 10)]) (g := gName 10) rfl sc_Lright.nd rfl rfl (sw_true rfl rfl rfl (by decide +kernel)) (pi_list (pc gd G_Ltakes (hr.mono (by decide)) (by rfl) T.m_Ltakes T.F_Ltakes.kp T.b_Ltakes .nil pass0 (pa_cons (pe_dget (hu_of hr) (pv 2) pe_str (fun _ _ => rfl)) pa_nil))) (blkOk_by (N := N_Lright) (sc := defScope s_Lright) (by decide +kernel)) (fun _ _ _ _ _ => (pg_name (i := 10) sc_Lright.nd rfl (Or.inl rfl) (Or.inr rfl))) (fun _ _ _ _ _ => pts_nil) (fun _ _ _ _ _ => (pc gd G_Lchanged (hr.mono (by decide)) (by rfl) T.m_Lchanged T.F_Lchanged.kp T.b_Lchanged .nil pass0 (pa_cons (pv 2) (pa_cons pe_str (pa_cons (pv 10) pa_nil)))))) (pss_cons (ps_expr (pe_bm PySem.F.plainAttrs_list PySem.F.slot_list_extend PySem.F.type_list_extend mt_extend (pv 6) (pa_cons (pe_lc (own := [("_law_near", 10)]) (g := gName 10) rfl sc_Lright.nd (pi_list (pc0 gd G_Lgives (hr.mono (by decide)) (by rfl) T.m_Lgives T.F_Lgives.kp T.b_Lgives .nil pass0)) (blkOk_by (N := N_Lright) (sc := defScope s_Lright) (by decide +kernel)) (fun _ _ _ _ _ => (pg_name (i := 10) sc_Lright.nd rfl (Or.inl rfl) (Or.inr rfl))) (fun _ _ _ _ _ => pts_nil) (fun _ _ _ _ _ => (pc gd G_Lchanged (hr.mono (by decide)) (by rfl) T.m_Lchanged T.F_Lchanged.kp T.b_Lchanged .nil pass0 (pa_cons (pv 2) (pa_cons pe_str (pa_cons (pv 10) pa_nil)))))) pa_nil))) (pss_cons (ps_expr (pe_bm PySem.F.plainAttrs_list PySem.F.slot_list_extend PySem.F.type_list_extend mt_extend (pv 6) (pa_cons (pe_lc (own := [("_law_near", 10)]) (g := gName 10) rfl sc_Lright.nd (pi_list (pc0 gd G_Llifts (hr.mono (by decide)) (by rfl) T.m_Llifts T.F_Llifts.kp T.b_Llifts .nil pass0)) (blkOk_by (N := N_Lright) (sc := defScope s_Lright) (by decide +kernel)) (fun _ _ _ _ _ => (pg_name (i := 10) sc_Lright.nd rfl (Or.inl rfl) (Or.inr rfl))) (fun _ _ _ _ _ => pts_nil) (fun _ _ _ _ _ => (pc gd G_Lchanged (hr.mono (by decide)) (by rfl) T.m_Lchanged T.F_Lchanged.kp T.b_Lchanged .nil pass0 (pa_cons (pv 2) (pa_cons pe_str (pa_cons (pv 10) pa_nil)))))) pa_nil))) (pss_cons (ps_expr (pe_bm PySem.F.plainAttrs_list PySem.F.slot_list_extend PySem.F.type_list_extend mt_extend (pv 6) (pa_cons (pe_lc (own := [("_law_lot", 11)]) (g := gName 11) rfl sc_Lright.nd (pi_range2 (by rfl) T.z_range (pa_cons pe_int (pa_cons pe_int pa_nil))) (blkOk_by (N := N_Lright) (sc := defScope s_Lright) (by decide +kernel)) (fun _ _ _ _ _ => (pg_name (i := 11) sc_Lright.nd rfl (Or.inl rfl) (Or.inr rfl))) (fun _ _ _ _ _ => pts_one (pt_cmpR op_eq (pe_ix (show IxR _ (rIxT K) from ix_tup) (pe_dget (hu_of hr) (pv 2) pe_str (fun _ _ => rfl)) (pe_un un_neg pe_int) (fun _ _ => rfl)) pe_str (nomark _))) (fun _ _ _ _ _ => (pc gd G_Lchanged (hr.mono (by decide)) (by rfl) T.m_Lchanged T.F_Lchanged.kp T.b_Lchanged .nil pass0 (pa_cons (pv 2) (pa_cons pe_str (pa_cons (pv 11) pa_nil)))))) pa_nil))) (pss_cons (ps_set (i := 7) sc_Lright.nd rfl (Or.inr rfl) (pe_lc (own := [("_law_near", 10)]) (g := gName 10) rfl sc_Lright.nd (pi_list (pv 1)) (blkOk_by (N := N_Lright) (sc := defScope s_Lright) (by decide +kernel)) (fun _ _ _ _ _ => (pg_name (i := 10) sc_Lright.nd rfl (Or.inl rfl) (Or.inr rfl))) (fun _ _ _ _ _ => pts_one (pt_val (pc gd G_Lis_move (hr.mono (by decide)) (by rfl) T.m_Lis_move T.F_Lis_move.kp T.b_Lis_move .nil pass0 (pa_cons (pv 10) (pa_cons (pe_dget (hu_of hr) (pv 2) pe_str (fun _ _ => rfl)) pa_nil))))) (fun _ _ _ _ _ => (pv 10)))) (pss_cons (ps_expr (pe_bm PySem.F.plainAttrs_list PySem.F.slot_list_extend PySem.F.type_list_extend mt_extend (pv 6) (pa_cons (pe_lc (own := [("_law_turn", 3)]) (g := gName 3) rfl sc_Lright.nd (pi_range1 (by rfl) T.z_range (pa_cons pe_int pa_nil)) (blkOk_by (N := N_Lright) (sc := defScope s_Lright) (by decide +kernel)) (fun _ _ _ _ _ => (pg_name (i := 3) sc_Lright.nd rfl (Or.inl rfl) (Or.inr rfl))) (fun _ _ _ _ _ => pts_nil) (fun _ _ _ _ _ => (pc gd G_Lchanged (hr.mono (by decide)) (by rfl) T.m_Lchanged T.F_Lchanged.kp T.b_Lchanged .nil pass0 (pa_cons (pv 2) (pa_cons pe_str (pa_cons (pc gd G_Lpick (hr.mono (by decide)) (by rfl) T.m_Lpick T.F_Lpick.kp T.b_Lpick .nil pass0 (pa_cons (pv 0) (pa_cons (pv 7) pa_nil))) pa_nil)))))) pa_nil))) (pss_cons (ps_if ((pw_or (pt_cmpR (op_eqD (roomU hr)) (pe_dget (hu_of hr) (pv 2) pe_str (fun _ _ => rfl)) (pe_tupX pa_nil) (nomark _)) (pw_or1 (pt_cmpR op_eq (pe_ix ix_tup (pe_dget (hu_of hr) (pv 2) pe_str (fun _ _ => rfl)) pe_int (fun _ _ => rfl)) pe_str (nomark _))))).pt (pss_one (ps_expr (pe_bm PySem.F.plainAttrs_list PySem.F.slot_list_append PySem.F.type_list_append mt_append (pv 6) (pa_cons (pc gd G_Lchanged (hr.mono (by decide)) (by rfl) T.m_Lchanged T.F_Lchanged.kp T.b_Lchanged .nil pass0 (pa_cons (pv 2) (pa_cons pe_str (pa_cons (pe_not (pe_dget (hu_of hr) (pv 2) pe_str (fun _ _ => rfl))) pa_nil)))) pa_nil)))) pss_nil) (pss_cons (ps_asg (pe_tupX (pa_cons (pc gd G_Lbook (hr.mono (by decide)) (by rfl) T.m_Lbook T.F_Lbook.kp T.b_Lbook .nil pass0 (pa_cons (pv 2) pa_nil)) (pa_cons (pc gd G_Ltext (hr.mono (by decide)) (by rfl) T.m_Ltext T.F_Ltext.kp T.b_Ltext .nil pass0 (pa_cons (pv 2) pa_nil)) pa_nil))) (pg_tup rfl (pgs_cons (pg_name (i := 8) sc_Lright.nd rfl (Or.inr rfl) (Or.inl rfl)) (pgs_cons (pg_name (i := 9) sc_Lright.nd rfl (Or.inr rfl) (Or.inl rfl)) pgs_nil)))) (pss_cons (ps_if (pt_not (pt_val (pe_callB (cr_all rfl) (by rfl) T.z_all boot_all (pa_cons (pe_lc (own := [("_law_near", 10)]) (g := gName 10) rfl sc_Lright.nd (pi_list (pv 6)) (blkOk_by (N := N_Lright) (sc := defScope s_Lright) (by decide +kernel)) (fun _ _ _ _ _ => (pg_name (i := 10) sc_Lright.nd rfl (Or.inl rfl) (Or.inr rfl))) (fun _ _ _ _ _ => pts_nil) (fun _ _ _ _ _ => (pe_cmpR op_eq (pe_cmpR (show OpR _ (compareOp .Eq) (rEqOwn K T.C (sp_Beq K T.C) E0) from (op_eqOwn gd G_Beq (hr.mono (by decide)) (roomU hr) T.b_Beq T.M_Beq.at_ T.M_Beq.fn pass0)) (pc gd G_Lbook (hr.mono (by decide)) (by rfl) T.m_Lbook T.F_Lbook.kp T.b_Lbook .nil pass0 (pa_cons (pv 10) pa_nil)) (pv 8) (nomark _)) (pe_cmpR op_eq (pc gd G_Ltext (hr.mono (by decide)) (by rfl) T.m_Ltext T.F_Ltext.kp T.b_Ltext .nil pass0 (pa_cons (pv 10) pa_nil)) (pv 9) (nomark _)) (nomark _)))) pa_nil)))) (pss_one (ps_ret pe_bl)) pss_nil) (pss_one (ps_ret (pe_and (pe_callB (cr_all rfl) (by rfl) T.z_all boot_all (pa_cons (pe_lc (own := [("_law_near", 10)]) (g := gName 10) rfl sc_Lright.nd (pi_list (pv 6)) (blkOk_by (N := N_Lright) (sc := defScope s_Lright) (by decide +kernel)) (fun _ _ _ _ _ => (pg_name (i := 10) sc_Lright.nd rfl (Or.inl rfl) (Or.inr rfl))) (fun _ _ _ _ _ => pts_nil) (fun _ _ _ _ _ => (pc gd G_Lboth_ways (hr.mono (by decide)) (by rfl) T.m_Lboth_ways T.F_Lboth_ways.kp T.b_Lboth_ways .nil pass0 (pa_cons (pv 10) pa_nil)))) pa_nil)) (pe_one (pc gd G_Lboth_ways (hr.mono (by decide)) (by rfl) T.m_Lboth_ways T.F_Lboth_ways.kp T.b_Lboth_ways .nil pass0 (pa_cons (pv 2) pa_nil))))))))))))))))))), ?_⟩
    refine q_asgR ((ers_moves (K := K) (b := true) ev_c) H (Ex.refl H) _ fun m ms H1 hm e1 h1 r1 => ?_)
    have nma : m ≠ a := hp.ne hm
    refine q_asgR ⟨_, rfl, _, rfl, a, m, ms, rfl, hp.ex e1, nma, h1, r1, fun H2 d r x2 p2 hd0 hd2 ok => ?_⟩
    have hm2 : H2 m = some (.lst ms) := x2 _ _ nma h1
    have r2 := r1.pot x2 (hp.ex e1)
    show tSeq _ _ _ [some (.ref a), some (.ref m), some (.ref d), none, none, none, none, none, none, none, none, none] H2
    refine q_when (b := false) (et_not (a := true) (et_B (ev_both (ev_var rfl) hd2 ok))) (fun z => nomatch z) fun _ H3 e3 => ?_
    have p3 := p2.ex e3
    have hm3 := e3 _ _ hm2
    have r3 := r2.ex e3
    have hd3 := hd2.ex e3
    have x3 : ExB a H H3 := ((ExB.of e1).trans x2).trans (ExB.of e3)
    refine q_forR1 (n := 8) (ea_cons ev_c ea_nil) (by omega) (fun i σ' G => ∃ y3 y4 y5, σ' = [some (.ref a), some (.ref m), some (.ref d), y3, y4, y5, none, none, none, none, none, none] ∧ ExB a H3 G ∧ PotAt G a) (fun G g => ⟨_, _, _, rfl, ExB.of g, p3.ex g⟩) (fun i σ' G hi z => ?_) (fun σ' G z => ?_)
    · obtain ⟨y3, y4, y5, rfl, xG, pG⟩ := z
      have hmG := xG _ _ nma hm3
      have rG := r3.pot xG p3
      have dG := hd3.exB xG (dict_ne hd3 p3) p3.nt
      show tSeq _ _ _ [some (.ref a), some (.ref m), some (.ref d), some (nV i), y4, y5, none, none, none, none, none, none] G
      refine q_asgR ⟨_, rfl, _, rfl, _, rfl, a, d, m, r, ms, rfl, pG, dG, ok, nma, hmG, rG, fun G1 c l y1 p1 hc hdc okl => ?_⟩
      have dG1 := dG.exB y1 (dict_ne dG pG) pG.nt
      show tSeq _ _ _ [some (.ref a), some (.ref m), some (.ref d), some (nV i), some (.ref c), y5, none, none, none, none, none, none] G1
      refine q_asg (v := .bl (decide (rN l = rN r))) (ev_is (ev_op (ev_text (ev_var rfl) hdc okl) (ev_text (ev_var rfl) dG1 ok) (rv_eq rfl)) (cbl (str_iff.trans (text_iff okl.k ok.k)))) fun G2 g2 => ?_
      show tSeq _ _ _ [some (.ref a), some (.ref m), some (.ref d), some (nV i), some (.ref c), some (.bl (decide (rN l = rN r))), none, none, none, none, none, none] G2
      have hdc2 := hdc.ex g2
      have dG2 := dG1.ex g2
      refine q_when (b := false) (et_or (a := false) (b := false) (et_not (a := true) (et_B (ev_both (ev_var rfl) hdc2 okl))) fun _ => et_test (ev_is (ev_op (ev_eqBB (eb_book (ev_var rfl) hdc2 okl) fun G e => eb_book (ev_var rfl) (dG2.ex e) ok) (ev_var rfl) (rv_ne rfl)) (cbl (by rw [bl_same]; rfl)))) (fun z => nomatch z) fun _ G3 g3 => ?_
      exact s_when (b := false) (et_test (ev_is (ev_op (ev_is (ev_op (ev_textB (eb_book (ev_var rfl) (hdc2.ex g3) okl)) (ev_textB (eb_book (ev_var rfl) (dG2.ex g3) ok)) (rv_eq rfl)) (cbl (str_iff.trans (text_iff okl.k ok.k)))) (ev_var rfl) (rv_ne rfl)) (cbl (by rw [bl_same]; rfl)))) (fun z => nomatch z) fun _ G4 g4 => ⟨_, _, _, rfl, xG.trans (y1.trans (ExB.of ((g2.trans g3).trans g4))), p1.ex ((g2.trans g3).trans g4)⟩
    · obtain ⟨y3, y4, y5, rfl, xG, pG⟩ := z
      have hmG := xG _ _ nma hm3
      have rG := r3.pot xG p3
      have dG := hd3.exB xG (dict_ne hd3 p3) p3.nt
      have x0 : ExB a H G := x3.trans xG
      show tSeq _ _ _ [some (.ref a), some (.ref m), some (.ref d), y3, y4, y5, none, none, none, none, none, none] G
      refine q_asgR ((ds_rows (a := a) (ers_takes (ev_pI rfl dG (drK_mem _))) (takes_len _) (fun _ => rfl) (fun b us G' x' p' hu ra => nd_changed (l := ⟨us, us, us, us, .undo, true, [], 1, true⟩) (p := .take) rfl (dG.exB x' (dict_ne dG pG) pG.nt) p' (ev_var rfl) ⟨b, rfl, ra⟩ (okN_take ok hu) rfl)) G (Ex.refl G) pG _ fun S zs G1 hS x1 p1 h1 lz dz => ?_)
      have nS : S ≠ a := pG.ne hS
      have fS : ∀ b u, H b = some u → b ≠ a → b ≠ S := fun b u hb n z => by
        have := x0 _ _ n hb
        rw [z, hS] at this
        cases this
      have env : Env K a m d S r ms G1 := ⟨p1, x1 _ _ nma hmG, rG.pot x1 pG, dG.exB x1 (dict_ne dG pG) pG.nt, nma, nS, fun z => by rw [z, hS] at hmG; cases hmG⟩
      have xx1 : ExB a H G1 := x0.trans x1
      show tSeq _ _ _ [some (.ref a), some (.ref m), some (.ref d), y3, y4, y5, some (.ref S), none, none, none, none, none] G1
      refine q_extDs rfl h1 p1 nS dz (ds_rows ers_gives gives_len (fun _ => rfl) fun b us G' x' p' hu ra => nd_changed (l := ⟨us, us, us, us, .undo, true, [], 1, true⟩) (p := .give) rfl (env.d.exB x' (dict_ne env.d p1) p1.nt) p' (ev_var rfl) ⟨b, rfl, ra⟩ (okN_give ok hu) rfl) (by omega) fun G2 zs2 p2 h2 l2 dz2 b2 => ?_
      have env2 := env.two h1 p2 b2
      have xx2 : ExB a H G2 := fun b u n hb => b2 b u n (fS b u hb n) (xx1 b u n hb)
      refine q_extDs rfl h2 p2 nS dz2 (ds_rows ers_lifts (by decide) (fun _ => rfl) fun b us G' x' p' hu ra => nd_changed (l := ⟨us, us, us, us, .undo, true, [], 1, true⟩) (p := .lift) rfl (env2.d.exB x' (dict_ne env2.d p2) p2.nt) p' (ev_var rfl) ⟨b, rfl, ra⟩ (okN_lift ok hu) rfl) (by omega) fun G3 zs3 p3 h3 l3 dz3 b3 => ?_
      have env3 := env2.two h2 p3 b3
      have xx3 : ExB a H G3 := fun b u n hb => b3 b u n (fS b u hb n) (xx2 b u n hb)
      refine q_extDs rfl h3 p3 nS dz3 (ds_rng2 (bb := decide (r.take.getLast? = some .live)) (fun _ => rfl) (fun x G' x' p' => et_lastLive rfl (env3.d.exB x' (dict_ne env3.d p3) p3.nt) ok) fun i G' x' p' hb hi => nd_changed (l := ⟨[], [], [], [], .undo, true, [], 1 + i, true⟩) (p := .batch) rfl (env3.d.exB x' (dict_ne env3.d p3) p3.nt) p' (ev_var rfl) rfl (okN_batch (n := 1 + i) ok (of_decide_eq_true hb) (by omega) (by omega)) rfl) (by omega) fun G4 zs4 p4 h4 l4 dz4 b4 => ?_
      have env4 := env3.two h3 p4 b4
      have xx4 : ExB a H G4 := fun b u n hb => b4 b u n (fS b u hb n) (xx3 b u n hb)
      refine q_asgR ((ers_fltS (f := fun us => lMove us r.shared) (ev_var rfl) env4.hm env4.rm (by have := moves_len true; omega) (fun _ => rfl) (fun _ => rfl) fun b us G' e ra => et_B (ev_call (ea_cons (ev_var rfl) (ea_cons (ev_pS rfl (env4.d.ex e) (drK_mem _)) ea_nil)) fun _ e' _ q _ => ⟨b, us, r.shared, rfl, ra.ex e', q⟩)) G4 (Ex.refl G4) _ fun pk ps G5 hpk e5 h5 r5 => ?_)
      have npk : pk ≠ a := p4.ne hpk
      have env5 := env4.ex e5
      show tSeq _ _ _ [some (.ref a), some (.ref m), some (.ref d), y3, y4, y5, some (.ref S), some (.ref pk), none, none, none, none] G5
      refine q_extDs rfl (e5 _ _ h4) env5.p nS (dz4.ex e5) (ds_rng1 (fun _ => rfl) fun x G' x' p' => nd_pick rfl rfl rfl (env5.d.exB x' (dict_ne env5.d env5.p) env5.p.nt) p' npk (x' _ _ npk h5) (r5.pot x' env5.p) ok) (by omega) fun G6 zs6 p6 h6 l6 dz6 b6 => ?_
      have env6 := env5.two (e5 _ _ h4) p6 b6
      have xx6 : ExB a H G6 := fun b u n hb => b6 b u n (fS b u hb n) (e5 _ _ (xx4 b u n hb))
      refine q_sharedR rfl rfl env6 h6 dz6 (by omega) ok fun G7 zs7 env7 h7 l7 dz7 b7 => ?_
      have xx7 : ExB a H G7 := fun b u n hb => b7 b u n (fS b u hb n) (xx6 b u n hb)
      refine q_asgR (tupx_rawW (cons_rw ((eb_book (C := T.C) (K := K) (ev_var rfl) env7.d ok) G7 (Ex.refl G7) _ fun bb G8 e8 hb8 => cons1_raw ((ev_text (ev_var rfl) (env7.d.ex e8) ok : Ev _ _ G8 (.str (bkText (rN r)))) G8 (Ex.refl G8) _ fun G9 e9 => ⟨(by show 2 ≤ sizeLine; decide), fun t ob ht _ => ret_raw2 upd_same ?_⟩))))
      have e10 : Ex G9 (upd G9 t (.frz ob (.tup [.ref bb, .str (bkText (rN r))]))) := Ex.new ht
      show tSeq _ _ _ [some (.ref a), some (.ref m), some (.ref d), y3, y4, y5, some (.ref S), some (.ref pk), some (.ref bb), some (.str (bkText (rN r))), none, none] (upd G9 t (.frz ob (.tup [.ref bb, .str (bkText (rN r))])))
      generalize upd G9 t (.frz ob (.tup [.ref bb, .str (bkText (rN r))])) = G10 at e10 ⊢
      have z10 := (e8.trans e9).trans e10
      have hb10 := hb8.ex (e9.trans e10)
      have h10 := z10 _ _ h7
      have dz10 := dz7.ex z10
      have d10 := env7.d.ex z10
      refine q_when (b := false) (et_not (a := true) (et_B (ev_allD (ev_var rfl) h10 dz10 (by omega) (fun _ => rfl) fun c l J e hc okl => ev_is (ev_op (ev_eqB (eb_book (ev_var rfl) hc okl) (ev_var rfl) (hb10.ex e)) (ev_is (ev_op (ev_text (ev_var rfl) hc okl) (ev_var rfl) (rv_eq rfl)) (cbl (str_iff.trans (text_iff okl.k ok.k)))) (rv_eq rfl)) (cbl (bl_same _))))) (fun z => nomatch z) fun _ G11 e11 => ?_
      exact s_ret (v := .bl true) (ev_is (ev_andV (a := true) (b := true) (ev_allD (ev_var rfl) (e11 _ _ h10) (dz10.ex e11) (by omega) (fun _ => rfl) fun c l J e hc okl => ev_both (ev_var rfl) hc okl) fun _ => ev_both (ev_var rfl) (d10.ex e11) ok) rfl) fun G12 e12 => q G12 (xx7.trans (ExB.of ((z10.trans e11).trans e12)))
end
end My
namespace My
open PySem PySem.Spec PyProof.Rows L2 GL Evl StX SkE
def sp_law (K : PySem.W.Frag) : Sp := fun vs H Q _ => ∃ (a : Addr) (ns : List Int), vs = [.ref a] ∧ SqL K H a (ns.map V.int) ∧ ns.length ≤ 63 ∧ ∀ H', Q (.bl true) H'
section
variable {P : Program} {w : World} {K : PySem.W.Frag} {mg : Str → Option Value} {base : Heap} {C : Addr} {H H' H0 H1 G : Hp} {σ : L2.St} {te tb ta tc tl tk : TE} {t tt : TT} {tu tz : TS} {tA : TA} {E Er Er' : XK} {D : Ends} {a b c d : Addr} {v : V} {Q : VK}
theorem ev_rightPot {ta tb : TE} {a : Addr} {ns : List Int} {k : Nat} {Er Er' : XK} (ha : Ev ta σ H (.ref a)) (hb : Ev tb σ H (.int (k : Int))) (hs : SqL K H a (ns.map V.int)) (hl : ns.length ≤ 63) (hk : k < 3) : Ev (tCall sp_Lright [] Er (tCons (tCall (sp_Lpot K) [] Er' (tCons ta (tCons tb tNil))) tNil)) σ H (.bl true) := fun H1 e Q q =>
  ha H1 e _ fun H2 e2 => hb H2 (e.trans e2) _ fun H3 e3 => ⟨a, ns, k, rfl, ex_l ((e.trans e2).trans e3) hs, hl, hk, fun H4 p hp e4 p4 => ⟨p, rfl, p4, fun H5 x5 => q H5 ((e2.trans e3).trans (ExB.all e4 hp x5))⟩⟩
theorem rc_min2 {i j : Int} : RC (fun xs H Q => ∃ i j, xs = [V.int i, V.int j] ∧ Q (.int (if j < i then j else i)) H) [.int i, .int j] H (.int (if j < i then j else i)) := fun H1 _ Q q => ⟨i, j, rfl, q H1 (Ex.refl H1)⟩
theorem ok_law (T : Txt K mg w) (G_Lright : FnG P w K mg base CX0 11 T.f_Lright T.fd_Lright ["_law_pot_here"] sp_Lright) (G_Lpot : FnG P w K mg base CX0 1 T.f_Lpot T.fd_Lpot ["_law_script", "_law_k"] (sp_Lpot K)) : FnG P w K mg base CX0 12 T.f_law T.fd_law ["_law_script"] (sp_law K) := by
  skip
  refine okG T.F_law sc_law (fun vs H Q E h => ?_) (fun cdv A outer s H vs Q E gd hr h => ?_)
  · obtain ⟨_, _, rfl, _⟩ := h
    all_goals rfl
  · obtain ⟨a, ns, rfl, hs, hl, q⟩ := h
    refine ⟨_, (pss_one (ps_ret (pe_callB (cr_all rfl) (by rfl) T.z_all boot_all (pa_cons (pe_lc (own := [("_law_k", 1)]) (g := gName 1) rfl sc_law.nd (pi_range1 (by rfl) T.z_range (pa_cons (pe_callB (call_max2 rfl) (by rfl) T.z_max boot_max (pa_cons pe_int (pa_cons (pe_callB (call_min2 rfl) (by rfl) T.z_min boot_min (pa_cons (pe_callB call_len_seq (by rfl) T.z_len PySem.boot_len (pa_cons (pv 0) pa_nil)) (pa_cons pe_int pa_nil))) pa_nil))) pa_nil)) (blkOk_by (N := N_law) (sc := defScope s_law) (by decide +kernel)) (fun _ _ _ _ _ => (pg_name (i := 1) sc_law.nd rfl (Or.inl rfl) (Or.inr rfl))) (fun _ _ _ _ _ => pts_nil) (fun _ _ _ _ _ => (pc gd G_Lright (hr.mono (by decide)) (by rfl) T.m_Lright T.F_Lright.kp T.b_Lright .nil pass0 (pa_cons (pc gd G_Lpot (hr.mono (by decide)) (by rfl) T.m_Lpot T.F_Lpot.kp T.b_Lpot .nil pass0 (pa_cons (pv 0) (pa_cons (pv 1) pa_nil))) pa_nil)))) pa_nil)))), ?_⟩
    have hn : ∃ n : Nat, n ≤ 2 ∧ Ev (tCB (fun xs H Q => ∃ i j, xs = [V.int i, V.int j] ∧ Q (.int (if j > i then j else i)) H) (tCons (tC (.int 1)) (tCons (tCB (fun xs H Q => ∃ i j, xs = [V.int i, V.int j] ∧ Q (.int (if j < i then j else i)) H) (tCons (tCB (rLenS K) (tCons (tVar 0) tNil)) (tCons (tC (.int 2)) tNil))) tNil))) [some (.ref a), none] H (nV n) := by
      refine ⟨if ns.length < 2 then 1 else 2, by split <;> omega, ev_is (ev_cb (ea_cons ev_c (ea_cons (ev_cb (ea_cons (ev_cb (ea_cons (ev_var rfl) ea_nil) (rc_lenL hs)) (ea_cons ev_c ea_nil)) rc_min2) ea_nil)) rc_max2) (congrArg V.int ?_)⟩
      rw [List.length_map]
      split <;> split <;> split <;> omega
    obtain ⟨n, hn2, hev⟩ := hn
    refine s_ret (v := .bl true) (ev_is (ev_allB (bs := List.replicate n true) (el_is (el_lcR1 (n := (n : Int)) (fun _ => true) (fun _ => .bl true) (ea_cons hev ea_nil) (by omega) (fun _ => rfl) (fun i H3 e3 hi => et_yes) (fun i H3 e3 hi _ => ev_rightPot (ev_var rfl) (ev_var rfl) (ex_l e3 hs) hl (by omega))) (by
      rw [given_rep, Int.toNat_natCast, List.map_replicate]))) (cbl (all_rep n))) fun H2 e2 => q H2
end
end My
namespace My
open PySem PySem.Spec PyProof.Rows L2 GL Evl StX SkE
section
variable {P : Program} {w : World} {K : PySem.W.Frag} {mg : Str → Option Value} {base : Heap}
theorem ok_text (T : Txt K mg w) : FnG P w K mg base CX0 12 T.f_law T.fd_law ["_law_script"] (sp_law K) := by
  have G_Lsequences : FnG P w K mg base CX0 1 T.f_Lsequences T.fd_Lsequences ["_law_words"] (sp_Lseqs K) := My.ok_Lsequences T 
  have G_Lis_ahead : FnG P w K mg base CX0 1 T.f_Lis_ahead T.fd_Lis_ahead ["_law_some", "_law_word", "_law_later"] (sp_Lahead K) := My.ok_Lis_ahead T 
  have G_Lis_move : FnG P w K mg base CX0 2 T.f_Lis_move T.fd_Lis_move ["_law_some", "_law_is_shared"] (sp_Lmv K) := My.ok_Lis_move T G_Lis_ahead
  have G_Lmoves : FnG P w K mg base CX0 3 T.f_Lmoves T.fd_Lmoves ["_law_is_shared"] (sp_Lmoves K) := My.ok_Lmoves T G_Lsequences G_Lis_move
  have G_Ldraw : FnG P w K mg base CX0 1 T.f_Ldraw T.fd_Ldraw ["_law_pot_here", "_law_sides"] sp_Ldraw := My.ok_Ldraw T 
  have G_Lpick : FnG P w K mg base CX0 2 T.f_Lpick T.fd_Lpick ["_law_pot_here", "_law_some"] sp_Lpick := My.ok_Lpick T G_Ldraw
  have G_Lmixed : FnG P w K mg base CX0 2 T.f_Lmixed T.fd_Lmixed ["_law_pot_here", "_law_some"] (sp_Lmixed K) := My.ok_Lmixed T G_Ldraw
  have G_Lis_take : FnG P w K mg base CX0 2 T.f_Lis_take T.fd_Lis_take ["_law_some", "_law_amount"] (sp_Ltk K) := My.ok_Lis_take T G_Lis_ahead
  have G_Ltakes : FnG P w K mg base CX0 3 T.f_Ltakes T.fd_Ltakes ["_law_amount"] (sp_Ltakes K) := My.ok_Ltakes T G_Lsequences G_Lis_take
  have G_Lis_give : FnG P w K mg base CX0 2 T.f_Lis_give T.fd_Lis_give ["_law_some"] (sp_Lgv K) := My.ok_Lis_give T G_Lis_ahead
  have G_Lgives : FnG P w K mg base CX0 3 T.f_Lgives T.fd_Lgives [] (sp_Lgives K) := My.ok_Lgives T G_Lsequences G_Lis_give
  have G_Llifts : FnG P w K mg base CX0 1 T.f_Llifts T.fd_Llifts [] (sp_Llifts K) := My.ok_Llifts T 
  have G_Lany_rules : FnG P w K mg base CX0 4 T.f_Lany_rules T.fd_Lany_rules ["_law_pot_here", "_law_moves_some"] (sp_LanyR K) := My.ok_Lany_rules T G_Lpick G_Ldraw G_Lmixed G_Ltakes G_Lgives G_Llifts
  have G_is_word : FnG P w K mg base CX0 1 T.f_is_word T.fd_is_word ["value", "words"] (sp_isword K) := My.ok_is_word T 
  have G_are_different_words : FnG P w K mg base CX0 2 T.f_are_different_words T.fd_are_different_words ["values", "words"] (sp_adw K) := My.ok_are_different_words T G_is_word
  have G_has_words_of : FnG P w K mg base CX0 3 T.f_has_words_of T.fd_has_words_of ["value", "words"] (sp_hwo K) := My.ok_has_words_of T G_are_different_words
  have G_tests_are_ahead : FnG P w K mg base CX0 1 T.f_tests_are_ahead T.fd_tests_are_ahead ["row", "word"] (sp_taa K) := My.ok_tests_are_ahead T 
  have G_is_take_row : FnG P w K mg base CX0 4 T.f_is_take_row T.fd_is_take_row ["value"] (sp_row K pTake) := My.ok_is_take_row T G_has_words_of G_tests_are_ahead
  have G_off_has_home : FnG P w K mg base CX0 1 T.f_off_has_home T.fd_off_has_home ["row"] (sp_ohh K) := My.ok_off_has_home T 
  have G_is_give_row : FnG P w K mg base CX0 4 T.f_is_give_row T.fd_is_give_row ["value"] (sp_row K pGive) := My.ok_is_give_row T G_has_words_of G_off_has_home
  have G_is_move_row : FnG P w K mg base CX0 4 T.f_is_move_row T.fd_is_move_row ["value"] (sp_row K pMove) := My.ok_is_move_row T G_has_words_of G_off_has_home G_tests_are_ahead
  have G_is_lift_row : FnG P w K mg base CX0 4 T.f_is_lift_row T.fd_is_lift_row ["value"] (sp_row K pLift) := My.ok_is_lift_row T G_has_words_of
  have G_is_row : FnG P w K mg base CX0 5 T.f_is_row T.fd_is_row ["kind", "value"] (sp_isrow K) := My.ok_is_row T G_is_take_row G_is_give_row G_is_move_row G_is_lift_row
  have G_check_rows : FnG P w K mg base CX0 6 T.f_check_rows T.fd_check_rows ["rows"] (sp_crows K) := My.ok_check_rows T G_is_row
  have G_check_fails : FnG P w K mg base CX0 2 T.f_check_fails T.fd_check_fails ["value"] sp_cfails := My.ok_check_fails T G_is_word
  have G_check_bool : FnG P w K mg base CX0 1 T.f_check_bool T.fd_check_bool ["name", "value"] sp_cbool := My.ok_check_bool T 
  have G_is_list : FnG P w K mg base CX0 1 T.f_is_list T.fd_is_list ["value"] (sp_islist K) := My.ok_is_list T 
  have G_check_holds : FnG P w K mg base CX0 3 T.f_check_holds T.fd_check_holds ["value"] (sp_choldsN K) := My.ok_check_holds T G_is_list G_are_different_words
  have G_is_an_integer : FnG P w K mg base CX0 1 T.f_is_an_integer T.fd_is_an_integer ["value"] sp_isint := My.ok_is_an_integer T 
  have G_check_batch : FnG P w K mg base CX0 2 T.f_check_batch T.fd_check_batch ["value"] sp_cbatch := My.ok_check_batch T G_is_an_integer
  have G_fits_batch : FnG P w K mg base CX0 1 T.f_fits_batch T.fd_fits_batch ["row", "batch"] (sp_fitb K) := My.ok_fits_batch T 
  have G_fits_shared : FnG P w K mg base CX0 1 T.f_fits_shared T.fd_fits_shared ["row", "shared"] (sp_fits K) := My.ok_fits_shared T 
  have G_Binit : FnG P w K mg base CX0 7 T.f_Binit T.fd_Binit ["self", "take", "give", "move", "lift", "fails", "shared", "holds", "batch", "settles"] (sp_BinitN K T.C) := My.ok_Binit T G_check_rows G_check_fails G_check_bool G_check_holds G_check_batch G_fits_batch G_fits_shared
  have G_Lbook : FnG P w K mg base CX0 9 T.f_Lbook T.fd_Lbook ["_law_rules"] (sp_LbookN K T.C) := My.ok_Lbook T G_Binit
  have G_Lkinds_of : FnG P w K mg base CX0 1 T.f_Lkinds_of T.fd_Lkinds_of ["_law_some"] (sp_Lkinds K) := My.ok_Lkinds_of T 
  have G_Ltext : FnG P w K mg base CX0 2 T.f_Ltext T.fd_Ltext ["_law_rules"] (sp_Ltext K) := My.ok_Ltext T G_Lkinds_of
  have G_line_from : FnG P w K mg base CX0 1 T.f_line_from T.fd_line_from ["parts"] (sp_line K) := My.ok_line_from T 
  have G_check_row_kind : FnG P w K mg base CX0 2 T.f_check_row_kind T.fd_check_row_kind ["value"] sp_ckind := My.ok_check_row_kind T G_is_word
  have G_Brow : FnG P w K mg base CX0 3 T.f_Brow T.fd_Brow ["self", "kind"] (sp_BrowF K T.C) := My.ok_Brow T G_check_row_kind
  have G_Bfails : FnG P w K mg base CX0 1 T.f_Bfails T.fd_Bfails ["self"] (sp_BpartG .fails T.C) := My.ok_Bfails T 
  have G_Bholds : FnG P w K mg base CX0 1 T.f_Bholds T.fd_Bholds ["self"] (sp_BpartG .holds T.C) := My.ok_Bholds T 
  have G_Bbatch : FnG P w K mg base CX0 1 T.f_Bbatch T.fd_Bbatch ["self"] (sp_BpartG .batch T.C) := My.ok_Bbatch T 
  have G_Bshared : FnG P w K mg base CX0 1 T.f_Bshared T.fd_Bshared ["self"] (sp_BpartG .shared T.C) := My.ok_Bshared T 
  have G_Bsettles : FnG P w K mg base CX0 1 T.f_Bsettles T.fd_Bsettles ["self"] (sp_BpartG .settles T.C) := My.ok_Bsettles T 
  have G_text_of : FnG P w K mg base CX0 4 T.f_text_of T.fd_text_of ["book"] (sp_textof K T.C) := My.ok_text_of T G_line_from G_Brow G_Bfails G_Bholds G_Bbatch G_Bshared G_Bsettles
  have G_read_holds : FnG P w K mg base CX0 1 T.f_read_holds T.fd_read_holds ["words"] (sp_rholds K) := My.ok_read_holds T 
  have G_is_numeral : FnG P w K mg base CX0 1 T.f_is_numeral T.fd_is_numeral ["word"] sp_isnum := My.ok_is_numeral T 
  have G_is_between : FnG P w K mg base CX0 2 T.f_is_between T.fd_is_between ["value", "least", "most"] sp_btw := My.ok_is_between T G_is_an_integer
  have G_read_part : FnG P w K mg base CX0 6 T.f_read_part T.fd_read_part ["name", "words"] (sp_rpart K) := My.ok_read_part T G_is_row G_read_holds G_is_numeral G_is_between
  have G_read_line : FnG P w K mg base CX0 7 T.f_read_line T.fd_read_line ["name", "line"] (sp_rline K) := My.ok_read_line T G_read_part
  have G_read_book : FnG P w K mg base CX0 9 T.f_read_book T.fd_read_book ["text"] (sp_rbook K T.C) := My.ok_read_book T G_read_line G_fits_batch G_fits_shared G_Binit
  have G_Beq : FnG P w K mg base CX0 1 T.f_Beq T.fd_Beq ["self", "other"] (sp_Beq K T.C) := My.ok_Beq T 
  have G_Brepr : FnG P w K mg base CX0 1 T.f_Brepr T.fd_Brepr ["self"] (sp_Brepr K T.C) := My.ok_Brepr T 
  have G_Ltold : FnG P w K mg base CX0 4 T.f_Ltold T.fd_Ltold ["_law_volume"] (sp_Ltold K T.C) := My.ok_Ltold T G_Brow G_Bfails G_Bshared G_Bholds G_Bbatch G_Bsettles
  have G_Lboth_ways : FnG P w K mg base CX0 10 T.f_Lboth_ways T.fd_Lboth_ways ["_law_rules"] (sp_Lboth K) := My.ok_Lboth_ways T G_Lbook G_Ltext G_text_of G_read_book G_Beq G_Brepr G_Lkinds_of G_Ltold
  have G_Lturned_rules : FnG P w K mg base CX0 5 T.f_Lturned_rules T.fd_Lturned_rules ["_law_pot_here", "_law_rules", "_law_moves_some"] (sp_LturnR K) := My.ok_Lturned_rules T G_Lany_rules G_Lpick
  have G_Lchanged : FnG P w K mg base CX0 1 T.f_Lchanged T.fd_Lchanged ["_law_rules", "_law_key", "_law_entry"] (sp_Lchanged K) := My.ok_Lchanged T 
  have G_Lright : FnG P w K mg base CX0 11 T.f_Lright T.fd_Lright ["_law_pot_here"] sp_Lright := My.ok_Lright T G_Lmoves G_Lany_rules G_Lboth_ways G_Lturned_rules G_Ltext G_Beq G_Lbook G_text_of G_Ltakes G_Lchanged G_Lgives G_Llifts G_Lis_move G_Lpick
  have G_Lpot : FnG P w K mg base CX0 1 T.f_Lpot T.fd_Lpot ["_law_script", "_law_k"] (sp_Lpot K) := My.ok_Lpot T 
  have G_law : FnG P w K mg base CX0 12 T.f_law T.fd_law ["_law_script"] (sp_law K) := My.ok_law T G_Lright G_Lpot
  exact G_law
end
theorem law_start {K : PySem.W.Frag} {H : Hp} {a : Addr} {ns : List Int} (h : SqL K H a (ns.map V.int)) (hl : ns.length ≤ 63) : sp_law K [.ref a] H (fun v _ => v = .bl true) fun _ _ _ => False := ⟨a, ns, rfl, h, hl, fun _ => rfl⟩
theorem all_mk {l : PySem.W.OpenLaw} {w : World} {K : PySem.W.Frag} {h : Heap} {mg : Str → Option Value} {fa : Addr} (X : K.In h) (G : h.Ns mainGlobals mg) (hfa : mg "law" = some (.ref fa))
    {C f1 f2 f3 f4 f5 f6 f7 f8 f9 f10 f11 f12 f13 f14 f15 f16 f17 f18 f19 f20 f21 f22 f23 f24 pr24 f25 pr25 f26 pr26 f27 pr27 f28 pr28 f29 f30 f31 f32 f33 f34 f35 f36 f37 f38 f39 f40 f41 f42 f43 f44 f45 f46 f47 f48 f49 f50 f51 f52 f53 f54 f55 f56 f57 f58 f59 f60 T_FAILS T_LINES T_ROW_KINDS T_SETTLES_WORDS T_SHARED_WORDS T_LIFT_ROWS T0_LIFT_ROWS T1_LIFT_ROWS T2_LIFT_ROWS T3_LIFT_ROWS T4_LIFT_ROWS T5_LIFT_ROWS T_ROW_CHECKS : Addr} {od1 an1 od2 an2 od3 an3 od4 an4 od5 an5 od6 an6 od7 an7 od8 an8 od9 an9 od10 an10 od11 an11 od12 an12 od13 an13 od14 an14 od15 an15 od16 an16 od17 an17 od18 an18 od19 an19 od20 an20 od21 an21 od22 an22 od23 an23 od24 an24 od25 an25 od26 an26 od27 an27 od28 an28 od29 an29 od30 an30 od31 an31 od32 an32 od33 an33 od34 an34 od35 an35 od36 an36 od37 an37 od38 an38 od39 an39 od40 an40 od41 an41 od42 an42 od43 an43 od44 an44 od45 an45 od46 an46 od47 an47 od48 an48 od49 an49 od50 an50 od51 an51 od52 an52 od53 an53 od54 an54 od55 an55 od56 an56 od57 an57 od58 an58 od59 an59 od60 an60 d_T_FAILS d_T_LINES d_T_ROW_KINDS d_T_SETTLES_WORDS d_T_SHARED_WORDS d_T_LIFT_ROWS d_T0_LIFT_ROWS d_T1_LIFT_ROWS d_T2_LIFT_ROWS d_T3_LIFT_ROWS d_T4_LIFT_ROWS d_T5_LIFT_ROWS : Option Addr} {sl1 sl2 sl3 sl4 sl5 sl6 sl7 sl8 sl9 sl10 sl11 sl12 sl13 sl14 sl15 sl16 sl17 sl18 sl19 sl20 sl21 sl22 sl23 sl24 sl25 sl26 sl27 sl28 sl29 sl30 sl31 sl32 sl33 sl34 sl35 sl36 sl37 sl38 sl39 sl40 sl41 sl42 sl43 sl44 sl45 sl46 sl47 sl48 sl49 sl50 sl51 sl52 sl53 sl54 sl55 sl56 sl57 sl58 sl59 sl60 l_T_FAILS l_T_LINES l_T_ROW_KINDS l_T_SETTLES_WORDS l_T_SHARED_WORDS l_T_LIFT_ROWS l_T0_LIFT_ROWS l_T1_LIFT_ROWS l_T2_LIFT_ROWS l_T3_LIFT_ROWS l_T4_LIFT_ROWS l_T5_LIFT_ROWS : Array (Option Value)} {oc1 kV1 dc1 pm1 cd1 ct1 oc2 kV2 dc2 pm2 cd2 ct2 oc3 kV3 dc3 pm3 cd3 ct3 oc4 kV4 dc4 pm4 cd4 ct4 oc5 kV5 dc5 pm5 cd5 ct5 oc6 kV6 dc6 pm6 cd6 ct6 oc7 kV7 dc7 pm7 cd7 ct7 oc8 kV8 dc8 pm8 cd8 ct8 oc9 kV9 dc9 pm9 cd9 ct9 oc10 kV10 dc10 pm10 cd10 ct10 oc11 kV11 dc11 pm11 cd11 ct11 oc12 kV12 dc12 pm12 cd12 ct12 oc13 kV13 dc13 pm13 cd13 ct13 oc14 kV14 dc14 pm14 cd14 ct14 oc15 kV15 dc15 pm15 cd15 ct15 oc16 kV16 dc16 pm16 cd16 ct16 oc17 kV17 dc17 pm17 cd17 ct17 oc18 kV18 dc18 pm18 cd18 ct18 oc19 kV19 dc19 pm19 cd19 ct19 oc20 kV20 dc20 pm20 cd20 ct20 oc21 kV21 dc21 pm21 cd21 ct21 oc22 kV22 dc22 pm22 cd22 ct22 oc23 kV23 dc23 pm23 cd23 ct23 oc24 kV24 dc24 pm24 cd24 ct24 oc25 kV25 dc25 pm25 cd25 ct25 oc26 kV26 dc26 pm26 cd26 ct26 oc27 kV27 dc27 pm27 cd27 ct27 oc28 kV28 dc28 pm28 cd28 ct28 oc29 kV29 dc29 pm29 cd29 ct29 oc30 kV30 dc30 pm30 cd30 ct30 oc31 kV31 dc31 pm31 cd31 ct31 oc32 kV32 dc32 pm32 cd32 ct32 oc33 kV33 dc33 pm33 cd33 ct33 oc34 kV34 dc34 pm34 cd34 ct34 oc35 kV35 dc35 pm35 cd35 ct35 oc36 kV36 dc36 pm36 cd36 ct36 oc37 kV37 dc37 pm37 cd37 ct37 oc38 kV38 dc38 pm38 cd38 ct38 oc39 kV39 dc39 pm39 cd39 ct39 oc40 kV40 dc40 pm40 cd40 ct40 oc41 kV41 dc41 pm41 cd41 ct41 oc42 kV42 dc42 pm42 cd42 ct42 oc43 kV43 dc43 pm43 cd43 ct43 oc44 kV44 dc44 pm44 cd44 ct44 oc45 kV45 dc45 pm45 cd45 ct45 oc46 kV46 dc46 pm46 cd46 ct46 oc47 kV47 dc47 pm47 cd47 ct47 oc48 kV48 dc48 pm48 cd48 ct48 oc49 kV49 dc49 pm49 cd49 ct49 oc50 kV50 dc50 pm50 cd50 ct50 oc51 kV51 dc51 pm51 cd51 ct51 oc52 kV52 dc52 pm52 cd52 ct52 oc53 kV53 dc53 pm53 cd53 ct53 oc54 kV54 dc54 pm54 cd54 ct54 oc55 kV55 dc55 pm55 cd55 ct55 oc56 kV56 dc56 pm56 cd56 ct56 oc57 kV57 dc57 pm57 cd57 ct57 oc58 kV58 dc58 pm58 cd58 ct58 oc59 kV59 dc59 pm59 cd59 ct59 oc60 kV60 dc60 pm60 cd60 ct60 : Value} {n_T_FAILS n_T_LINES n_T_ROW_KINDS n_T_SETTLES_WORDS n_T_SHARED_WORDS n_T_LIFT_ROWS n_T0_LIFT_ROWS n_T1_LIFT_ROWS n_T2_LIFT_ROWS n_T3_LIFT_ROWS n_T4_LIFT_ROWS n_T5_LIFT_ROWS n_ROW_CHECKS : Nat} {t_MOST_BATCH t_DIGITS k0_T_FAILS k1_T_FAILS k2_T_FAILS k0_T_LINES k1_T_LINES k2_T_LINES k3_T_LINES k4_T_LINES k5_T_LINES k6_T_LINES k7_T_LINES k0_T_ROW_KINDS k1_T_ROW_KINDS k2_T_ROW_KINDS k3_T_ROW_KINDS k0_T_SETTLES_WORDS k1_T_SETTLES_WORDS k0_T_SHARED_WORDS k1_T_SHARED_WORDS k0_T1_LIFT_ROWS k0_T2_LIFT_ROWS k0_T3_LIFT_ROWS k1_T3_LIFT_ROWS k0_T4_LIFT_ROWS k1_T4_LIFT_ROWS k0_T5_LIFT_ROWS : Tok} {es_ROW_CHECKS : Array DictEntry} {pl24 pl25 pl26 pl27 pl28 : List Value}
    (aC : PySem.W.nsIn K mainGlobals "Book" = some (some (.ref C)))
    (pg : PySem.W.plainGet K C Str.empty = true)
    (hd : PySem.W.hasDictIn K C = true)
    (po : PySem.W.plainOver K C = true)
    (sa : PySem.W.findIn K (.ref C) "__setattr__" = some (some (.builtin "object.__setattr__")))
    (mk : PySem.W.makesIn K C = true)
    (kc : PySem.W.keepIn K (.ref C) = true)
    (n_parts : PySem.W.findIn K (.ref C) "_parts" = some none)
    (x_class : PySem.W.findIn K (.ref C) "__class__" = some (some (.builtin "object.__class__")))
    (x_get : PySem.W.specialIn K (.builtin "object.__class__") "__get__" = some (some (.builtin "getset_descriptor.__get__")))
    (x_tk : PySem.W.takesIn K (.builtin "object.__class__") = some true)
    (x_mro : PySem.W.mroIn K C (.type "object") = some true)
    (x_ne : PySem.W.findIn K (.ref C) "__ne__" = some (some (.builtin "object.__ne__")))
    (x_cls : PySem.W.isClsIn K C = true)
    (x_ty : PySem.W.typeIn K (.ref C) = some (.type "type"))
    (a1 : PySem.W.nsIn K mainGlobals "is_an_integer" = some (some (.ref f1)))
    (l1 : K.lookup f1 = some ⟨oc1, od1, .func (PySem.W.fnOf "is_an_integer" "is_an_integer" (defArgs s_is_an_integer) (defBody s_is_an_integer) (defScope s_is_an_integer) .none kV1 dc1 pm1 an1 cd1 ct1), sl1⟩)
    (c1 : PySem.W.codeIn K cd1 "is_an_integer" = true)
    (k1 : PySem.W.keepIn K (.ref f1) = true)
    (a2 : PySem.W.nsIn K mainGlobals "is_list" = some (some (.ref f2)))
    (l2 : K.lookup f2 = some ⟨oc2, od2, .func (PySem.W.fnOf "is_list" "is_list" (defArgs s_is_list) (defBody s_is_list) (defScope s_is_list) .none kV2 dc2 pm2 an2 cd2 ct2), sl2⟩)
    (c2 : PySem.W.codeIn K cd2 "is_list" = true)
    (k2 : PySem.W.keepIn K (.ref f2) = true)
    (a3 : PySem.W.nsIn K mainGlobals "is_word" = some (some (.ref f3)))
    (l3 : K.lookup f3 = some ⟨oc3, od3, .func (PySem.W.fnOf "is_word" "is_word" (defArgs s_is_word) (defBody s_is_word) (defScope s_is_word) .none kV3 dc3 pm3 an3 cd3 ct3), sl3⟩)
    (c3 : PySem.W.codeIn K cd3 "is_word" = true)
    (k3 : PySem.W.keepIn K (.ref f3) = true)
    (a4 : PySem.W.nsIn K mainGlobals "are_different_words" = some (some (.ref f4)))
    (l4 : K.lookup f4 = some ⟨oc4, od4, .func (PySem.W.fnOf "are_different_words" "are_different_words" (defArgs s_are_different_words) (defBody s_are_different_words) (defScope s_are_different_words) .none kV4 dc4 pm4 an4 cd4 ct4), sl4⟩)
    (c4 : PySem.W.codeIn K cd4 "are_different_words" = true)
    (k4 : PySem.W.keepIn K (.ref f4) = true)
    (a5 : PySem.W.nsIn K mainGlobals "has_words_of" = some (some (.ref f5)))
    (l5 : K.lookup f5 = some ⟨oc5, od5, .func (PySem.W.fnOf "has_words_of" "has_words_of" (defArgs s_has_words_of) (defBody s_has_words_of) (defScope s_has_words_of) .none kV5 dc5 pm5 an5 cd5 ct5), sl5⟩)
    (c5 : PySem.W.codeIn K cd5 "has_words_of" = true)
    (k5 : PySem.W.keepIn K (.ref f5) = true)
    (a6 : PySem.W.nsIn K mainGlobals "tests_are_ahead" = some (some (.ref f6)))
    (l6 : K.lookup f6 = some ⟨oc6, od6, .func (PySem.W.fnOf "tests_are_ahead" "tests_are_ahead" (defArgs s_tests_are_ahead) (defBody s_tests_are_ahead) (defScope s_tests_are_ahead) .none kV6 dc6 pm6 an6 cd6 ct6), sl6⟩)
    (c6 : PySem.W.codeIn K cd6 "tests_are_ahead" = true)
    (k6 : PySem.W.keepIn K (.ref f6) = true)
    (a7 : PySem.W.nsIn K mainGlobals "off_has_home" = some (some (.ref f7)))
    (l7 : K.lookup f7 = some ⟨oc7, od7, .func (PySem.W.fnOf "off_has_home" "off_has_home" (defArgs s_off_has_home) (defBody s_off_has_home) (defScope s_off_has_home) .none kV7 dc7 pm7 an7 cd7 ct7), sl7⟩)
    (c7 : PySem.W.codeIn K cd7 "off_has_home" = true)
    (k7 : PySem.W.keepIn K (.ref f7) = true)
    (a8 : PySem.W.nsIn K mainGlobals "is_take_row" = some (some (.ref f8)))
    (l8 : K.lookup f8 = some ⟨oc8, od8, .func (PySem.W.fnOf "is_take_row" "is_take_row" (defArgs s_is_take_row) (defBody s_is_take_row) (defScope s_is_take_row) .none kV8 dc8 pm8 an8 cd8 ct8), sl8⟩)
    (c8 : PySem.W.codeIn K cd8 "is_take_row" = true)
    (k8 : PySem.W.keepIn K (.ref f8) = true)
    (a9 : PySem.W.nsIn K mainGlobals "is_give_row" = some (some (.ref f9)))
    (l9 : K.lookup f9 = some ⟨oc9, od9, .func (PySem.W.fnOf "is_give_row" "is_give_row" (defArgs s_is_give_row) (defBody s_is_give_row) (defScope s_is_give_row) .none kV9 dc9 pm9 an9 cd9 ct9), sl9⟩)
    (c9 : PySem.W.codeIn K cd9 "is_give_row" = true)
    (k9 : PySem.W.keepIn K (.ref f9) = true)
    (a10 : PySem.W.nsIn K mainGlobals "is_move_row" = some (some (.ref f10)))
    (l10 : K.lookup f10 = some ⟨oc10, od10, .func (PySem.W.fnOf "is_move_row" "is_move_row" (defArgs s_is_move_row) (defBody s_is_move_row) (defScope s_is_move_row) .none kV10 dc10 pm10 an10 cd10 ct10), sl10⟩)
    (c10 : PySem.W.codeIn K cd10 "is_move_row" = true)
    (k10 : PySem.W.keepIn K (.ref f10) = true)
    (a11 : PySem.W.nsIn K mainGlobals "is_lift_row" = some (some (.ref f11)))
    (l11 : K.lookup f11 = some ⟨oc11, od11, .func (PySem.W.fnOf "is_lift_row" "is_lift_row" (defArgs s_is_lift_row) (defBody s_is_lift_row) (defScope s_is_lift_row) .none kV11 dc11 pm11 an11 cd11 ct11), sl11⟩)
    (c11 : PySem.W.codeIn K cd11 "is_lift_row" = true)
    (k11 : PySem.W.keepIn K (.ref f11) = true)
    (a12 : PySem.W.nsIn K mainGlobals "is_row" = some (some (.ref f12)))
    (l12 : K.lookup f12 = some ⟨oc12, od12, .func (PySem.W.fnOf "is_row" "is_row" (defArgs s_is_row) (defBody s_is_row) (defScope s_is_row) .none kV12 dc12 pm12 an12 cd12 ct12), sl12⟩)
    (c12 : PySem.W.codeIn K cd12 "is_row" = true)
    (k12 : PySem.W.keepIn K (.ref f12) = true)
    (a13 : PySem.W.nsIn K mainGlobals "fits_batch" = some (some (.ref f13)))
    (l13 : K.lookup f13 = some ⟨oc13, od13, .func (PySem.W.fnOf "fits_batch" "fits_batch" (defArgs s_fits_batch) (defBody s_fits_batch) (defScope s_fits_batch) .none kV13 dc13 pm13 an13 cd13 ct13), sl13⟩)
    (c13 : PySem.W.codeIn K cd13 "fits_batch" = true)
    (k13 : PySem.W.keepIn K (.ref f13) = true)
    (a14 : PySem.W.nsIn K mainGlobals "fits_shared" = some (some (.ref f14)))
    (l14 : K.lookup f14 = some ⟨oc14, od14, .func (PySem.W.fnOf "fits_shared" "fits_shared" (defArgs s_fits_shared) (defBody s_fits_shared) (defScope s_fits_shared) .none kV14 dc14 pm14 an14 cd14 ct14), sl14⟩)
    (c14 : PySem.W.codeIn K cd14 "fits_shared" = true)
    (k14 : PySem.W.keepIn K (.ref f14) = true)
    (a15 : PySem.W.nsIn K mainGlobals "check_rows" = some (some (.ref f15)))
    (l15 : K.lookup f15 = some ⟨oc15, od15, .func (PySem.W.fnOf "check_rows" "check_rows" (defArgs s_check_rows) (defBody s_check_rows) (defScope s_check_rows) .none kV15 dc15 pm15 an15 cd15 ct15), sl15⟩)
    (c15 : PySem.W.codeIn K cd15 "check_rows" = true)
    (k15 : PySem.W.keepIn K (.ref f15) = true)
    (a16 : PySem.W.nsIn K mainGlobals "check_fails" = some (some (.ref f16)))
    (l16 : K.lookup f16 = some ⟨oc16, od16, .func (PySem.W.fnOf "check_fails" "check_fails" (defArgs s_check_fails) (defBody s_check_fails) (defScope s_check_fails) .none kV16 dc16 pm16 an16 cd16 ct16), sl16⟩)
    (c16 : PySem.W.codeIn K cd16 "check_fails" = true)
    (k16 : PySem.W.keepIn K (.ref f16) = true)
    (a17 : PySem.W.nsIn K mainGlobals "check_bool" = some (some (.ref f17)))
    (l17 : K.lookup f17 = some ⟨oc17, od17, .func (PySem.W.fnOf "check_bool" "check_bool" (defArgs s_check_bool) (defBody s_check_bool) (defScope s_check_bool) .none kV17 dc17 pm17 an17 cd17 ct17), sl17⟩)
    (c17 : PySem.W.codeIn K cd17 "check_bool" = true)
    (k17 : PySem.W.keepIn K (.ref f17) = true)
    (a18 : PySem.W.nsIn K mainGlobals "check_holds" = some (some (.ref f18)))
    (l18 : K.lookup f18 = some ⟨oc18, od18, .func (PySem.W.fnOf "check_holds" "check_holds" (defArgs s_check_holds) (defBody s_check_holds) (defScope s_check_holds) .none kV18 dc18 pm18 an18 cd18 ct18), sl18⟩)
    (c18 : PySem.W.codeIn K cd18 "check_holds" = true)
    (k18 : PySem.W.keepIn K (.ref f18) = true)
    (a19 : PySem.W.nsIn K mainGlobals "check_batch" = some (some (.ref f19)))
    (l19 : K.lookup f19 = some ⟨oc19, od19, .func (PySem.W.fnOf "check_batch" "check_batch" (defArgs s_check_batch) (defBody s_check_batch) (defScope s_check_batch) .none kV19 dc19 pm19 an19 cd19 ct19), sl19⟩)
    (c19 : PySem.W.codeIn K cd19 "check_batch" = true)
    (k19 : PySem.W.keepIn K (.ref f19) = true)
    (a20 : PySem.W.nsIn K mainGlobals "check_row_kind" = some (some (.ref f20)))
    (l20 : K.lookup f20 = some ⟨oc20, od20, .func (PySem.W.fnOf "check_row_kind" "check_row_kind" (defArgs s_check_row_kind) (defBody s_check_row_kind) (defScope s_check_row_kind) .none kV20 dc20 pm20 an20 cd20 ct20), sl20⟩)
    (c20 : PySem.W.codeIn K cd20 "check_row_kind" = true)
    (k20 : PySem.W.keepIn K (.ref f20) = true)
    (a21 : PySem.W.findIn K (.ref C) "__init__" = some (some (.ref f21)))
    (i21 : PySem.W.isFn K (.ref f21) = true)
    (l21 : K.lookup f21 = some ⟨oc21, od21, .func (PySem.W.fnOf "__init__" "Book.__init__" (defArgs s_Binit) (defBody s_Binit) (defScope s_Binit) .none kV21 dc21 pm21 an21 cd21 ct21), sl21⟩)
    (c21 : PySem.W.codeIn K cd21 "Book.__init__" = true)
    (k21 : PySem.W.keepIn K (.ref f21) = true)
    (a22 : PySem.W.findIn K (.ref C) "__eq__" = some (some (.ref f22)))
    (i22 : PySem.W.isFn K (.ref f22) = true)
    (l22 : K.lookup f22 = some ⟨oc22, od22, .func (PySem.W.fnOf "__eq__" "Book.__eq__" (defArgs s_Beq) (defBody s_Beq) (defScope s_Beq) .none kV22 dc22 pm22 an22 cd22 ct22), sl22⟩)
    (c22 : PySem.W.codeIn K cd22 "Book.__eq__" = true)
    (k22 : PySem.W.keepIn K (.ref f22) = true)
    (a23 : PySem.W.findIn K (.ref C) "__repr__" = some (some (.ref f23)))
    (i23 : PySem.W.isFn K (.ref f23) = true)
    (l23 : K.lookup f23 = some ⟨oc23, od23, .func (PySem.W.fnOf "__repr__" "Book.__repr__" (defArgs s_Brepr) (defBody s_Brepr) (defScope s_Brepr) .none kV23 dc23 pm23 an23 cd23 ct23), sl23⟩)
    (c23 : PySem.W.codeIn K cd23 "Book.__repr__" = true)
    (k23 : PySem.W.keepIn K (.ref f23) = true)
    (a24 : PySem.W.findIn K (.ref C) "fails" = some (some (.ref pr24)))
    (pA24 : PySem.W.specialIn K (.ref pr24) "__get__" = some (some (.builtin "property.__get__")))
    (pB24 : PySem.W.takesIn K (.ref pr24) = some true)
    (pC24 : PySem.W.recIn K pr24 "property" = some (.ref f24 :: pl24))
    (l24 : K.lookup f24 = some ⟨oc24, od24, .func (PySem.W.fnOf "fails" "Book.fails" (defArgs s_Bfails) (defBody s_Bfails) (defScope s_Bfails) .none kV24 dc24 pm24 an24 cd24 ct24), sl24⟩)
    (c24 : PySem.W.codeIn K cd24 "Book.fails" = true)
    (k24 : PySem.W.keepIn K (.ref f24) = true)
    (a25 : PySem.W.findIn K (.ref C) "shared" = some (some (.ref pr25)))
    (pA25 : PySem.W.specialIn K (.ref pr25) "__get__" = some (some (.builtin "property.__get__")))
    (pB25 : PySem.W.takesIn K (.ref pr25) = some true)
    (pC25 : PySem.W.recIn K pr25 "property" = some (.ref f25 :: pl25))
    (l25 : K.lookup f25 = some ⟨oc25, od25, .func (PySem.W.fnOf "shared" "Book.shared" (defArgs s_Bshared) (defBody s_Bshared) (defScope s_Bshared) .none kV25 dc25 pm25 an25 cd25 ct25), sl25⟩)
    (c25 : PySem.W.codeIn K cd25 "Book.shared" = true)
    (k25 : PySem.W.keepIn K (.ref f25) = true)
    (a26 : PySem.W.findIn K (.ref C) "holds" = some (some (.ref pr26)))
    (pA26 : PySem.W.specialIn K (.ref pr26) "__get__" = some (some (.builtin "property.__get__")))
    (pB26 : PySem.W.takesIn K (.ref pr26) = some true)
    (pC26 : PySem.W.recIn K pr26 "property" = some (.ref f26 :: pl26))
    (l26 : K.lookup f26 = some ⟨oc26, od26, .func (PySem.W.fnOf "holds" "Book.holds" (defArgs s_Bholds) (defBody s_Bholds) (defScope s_Bholds) .none kV26 dc26 pm26 an26 cd26 ct26), sl26⟩)
    (c26 : PySem.W.codeIn K cd26 "Book.holds" = true)
    (k26 : PySem.W.keepIn K (.ref f26) = true)
    (a27 : PySem.W.findIn K (.ref C) "batch" = some (some (.ref pr27)))
    (pA27 : PySem.W.specialIn K (.ref pr27) "__get__" = some (some (.builtin "property.__get__")))
    (pB27 : PySem.W.takesIn K (.ref pr27) = some true)
    (pC27 : PySem.W.recIn K pr27 "property" = some (.ref f27 :: pl27))
    (l27 : K.lookup f27 = some ⟨oc27, od27, .func (PySem.W.fnOf "batch" "Book.batch" (defArgs s_Bbatch) (defBody s_Bbatch) (defScope s_Bbatch) .none kV27 dc27 pm27 an27 cd27 ct27), sl27⟩)
    (c27 : PySem.W.codeIn K cd27 "Book.batch" = true)
    (k27 : PySem.W.keepIn K (.ref f27) = true)
    (a28 : PySem.W.findIn K (.ref C) "settles" = some (some (.ref pr28)))
    (pA28 : PySem.W.specialIn K (.ref pr28) "__get__" = some (some (.builtin "property.__get__")))
    (pB28 : PySem.W.takesIn K (.ref pr28) = some true)
    (pC28 : PySem.W.recIn K pr28 "property" = some (.ref f28 :: pl28))
    (l28 : K.lookup f28 = some ⟨oc28, od28, .func (PySem.W.fnOf "settles" "Book.settles" (defArgs s_Bsettles) (defBody s_Bsettles) (defScope s_Bsettles) .none kV28 dc28 pm28 an28 cd28 ct28), sl28⟩)
    (c28 : PySem.W.codeIn K cd28 "Book.settles" = true)
    (k28 : PySem.W.keepIn K (.ref f28) = true)
    (a29 : PySem.W.findIn K (.ref C) "row" = some (some (.ref f29)))
    (i29 : PySem.W.isFn K (.ref f29) = true)
    (l29 : K.lookup f29 = some ⟨oc29, od29, .func (PySem.W.fnOf "row" "Book.row" (defArgs s_Brow) (defBody s_Brow) (defScope s_Brow) .none kV29 dc29 pm29 an29 cd29 ct29), sl29⟩)
    (c29 : PySem.W.codeIn K cd29 "Book.row" = true)
    (k29 : PySem.W.keepIn K (.ref f29) = true)
    (a30 : PySem.W.nsIn K mainGlobals "is_between" = some (some (.ref f30)))
    (l30 : K.lookup f30 = some ⟨oc30, od30, .func (PySem.W.fnOf "is_between" "is_between" (defArgs s_is_between) (defBody s_is_between) (defScope s_is_between) .none kV30 dc30 pm30 an30 cd30 ct30), sl30⟩)
    (c30 : PySem.W.codeIn K cd30 "is_between" = true)
    (k30 : PySem.W.keepIn K (.ref f30) = true)
    (a31 : PySem.W.nsIn K mainGlobals "is_numeral" = some (some (.ref f31)))
    (l31 : K.lookup f31 = some ⟨oc31, od31, .func (PySem.W.fnOf "is_numeral" "is_numeral" (defArgs s_is_numeral) (defBody s_is_numeral) (defScope s_is_numeral) .none kV31 dc31 pm31 an31 cd31 ct31), sl31⟩)
    (c31 : PySem.W.codeIn K cd31 "is_numeral" = true)
    (k31 : PySem.W.keepIn K (.ref f31) = true)
    (a32 : PySem.W.nsIn K mainGlobals "line_from" = some (some (.ref f32)))
    (l32 : K.lookup f32 = some ⟨oc32, od32, .func (PySem.W.fnOf "line_from" "line_from" (defArgs s_line_from) (defBody s_line_from) (defScope s_line_from) .none kV32 dc32 pm32 an32 cd32 ct32), sl32⟩)
    (c32 : PySem.W.codeIn K cd32 "line_from" = true)
    (k32 : PySem.W.keepIn K (.ref f32) = true)
    (a33 : PySem.W.nsIn K mainGlobals "text_of" = some (some (.ref f33)))
    (l33 : K.lookup f33 = some ⟨oc33, od33, .func (PySem.W.fnOf "text_of" "text_of" (defArgs s_text_of) (defBody s_text_of) (defScope s_text_of) .none kV33 dc33 pm33 an33 cd33 ct33), sl33⟩)
    (c33 : PySem.W.codeIn K cd33 "text_of" = true)
    (k33 : PySem.W.keepIn K (.ref f33) = true)
    (a34 : PySem.W.nsIn K mainGlobals "read_holds" = some (some (.ref f34)))
    (l34 : K.lookup f34 = some ⟨oc34, od34, .func (PySem.W.fnOf "read_holds" "read_holds" (defArgs s_read_holds) (defBody s_read_holds) (defScope s_read_holds) .none kV34 dc34 pm34 an34 cd34 ct34), sl34⟩)
    (c34 : PySem.W.codeIn K cd34 "read_holds" = true)
    (k34 : PySem.W.keepIn K (.ref f34) = true)
    (a35 : PySem.W.nsIn K mainGlobals "read_part" = some (some (.ref f35)))
    (l35 : K.lookup f35 = some ⟨oc35, od35, .func (PySem.W.fnOf "read_part" "read_part" (defArgs s_read_part) (defBody s_read_part) (defScope s_read_part) .none kV35 dc35 pm35 an35 cd35 ct35), sl35⟩)
    (c35 : PySem.W.codeIn K cd35 "read_part" = true)
    (k35 : PySem.W.keepIn K (.ref f35) = true)
    (a36 : PySem.W.nsIn K mainGlobals "read_line" = some (some (.ref f36)))
    (l36 : K.lookup f36 = some ⟨oc36, od36, .func (PySem.W.fnOf "read_line" "read_line" (defArgs s_read_line) (defBody s_read_line) (defScope s_read_line) .none kV36 dc36 pm36 an36 cd36 ct36), sl36⟩)
    (c36 : PySem.W.codeIn K cd36 "read_line" = true)
    (k36 : PySem.W.keepIn K (.ref f36) = true)
    (a37 : PySem.W.nsIn K mainGlobals "read_book" = some (some (.ref f37)))
    (l37 : K.lookup f37 = some ⟨oc37, od37, .func (PySem.W.fnOf "read_book" "read_book" (defArgs s_read_book) (defBody s_read_book) (defScope s_read_book) .none kV37 dc37 pm37 an37 cd37 ct37), sl37⟩)
    (c37 : PySem.W.codeIn K cd37 "read_book" = true)
    (k37 : PySem.W.keepIn K (.ref f37) = true)
    (a38 : PySem.W.nsIn K mainGlobals "_law_pot" = some (some (.ref f38)))
    (l38 : K.lookup f38 = some ⟨oc38, od38, .func (PySem.W.fnOf "_law_pot" "_law_pot" (defArgs s_Lpot) (defBody s_Lpot) (defScope s_Lpot) .none kV38 dc38 pm38 an38 cd38 ct38), sl38⟩)
    (c38 : PySem.W.codeIn K cd38 "_law_pot" = true)
    (k38 : PySem.W.keepIn K (.ref f38) = true)
    (a39 : PySem.W.nsIn K mainGlobals "_law_draw" = some (some (.ref f39)))
    (l39 : K.lookup f39 = some ⟨oc39, od39, .func (PySem.W.fnOf "_law_draw" "_law_draw" (defArgs s_Ldraw) (defBody s_Ldraw) (defScope s_Ldraw) .none kV39 dc39 pm39 an39 cd39 ct39), sl39⟩)
    (c39 : PySem.W.codeIn K cd39 "_law_draw" = true)
    (k39 : PySem.W.keepIn K (.ref f39) = true)
    (a40 : PySem.W.nsIn K mainGlobals "_law_pick" = some (some (.ref f40)))
    (l40 : K.lookup f40 = some ⟨oc40, od40, .func (PySem.W.fnOf "_law_pick" "_law_pick" (defArgs s_Lpick) (defBody s_Lpick) (defScope s_Lpick) .none kV40 dc40 pm40 an40 cd40 ct40), sl40⟩)
    (c40 : PySem.W.codeIn K cd40 "_law_pick" = true)
    (k40 : PySem.W.keepIn K (.ref f40) = true)
    (a41 : PySem.W.nsIn K mainGlobals "_law_sequences" = some (some (.ref f41)))
    (l41 : K.lookup f41 = some ⟨oc41, od41, .func (PySem.W.fnOf "_law_sequences" "_law_sequences" (defArgs s_Lsequences) (defBody s_Lsequences) (defScope s_Lsequences) .none kV41 dc41 pm41 an41 cd41 ct41), sl41⟩)
    (c41 : PySem.W.codeIn K cd41 "_law_sequences" = true)
    (k41 : PySem.W.keepIn K (.ref f41) = true)
    (a42 : PySem.W.nsIn K mainGlobals "_law_is_ahead" = some (some (.ref f42)))
    (l42 : K.lookup f42 = some ⟨oc42, od42, .func (PySem.W.fnOf "_law_is_ahead" "_law_is_ahead" (defArgs s_Lis_ahead) (defBody s_Lis_ahead) (defScope s_Lis_ahead) .none kV42 dc42 pm42 an42 cd42 ct42), sl42⟩)
    (c42 : PySem.W.codeIn K cd42 "_law_is_ahead" = true)
    (k42 : PySem.W.keepIn K (.ref f42) = true)
    (a43 : PySem.W.nsIn K mainGlobals "_law_is_take" = some (some (.ref f43)))
    (l43 : K.lookup f43 = some ⟨oc43, od43, .func (PySem.W.fnOf "_law_is_take" "_law_is_take" (defArgs s_Lis_take) (defBody s_Lis_take) (defScope s_Lis_take) .none kV43 dc43 pm43 an43 cd43 ct43), sl43⟩)
    (c43 : PySem.W.codeIn K cd43 "_law_is_take" = true)
    (k43 : PySem.W.keepIn K (.ref f43) = true)
    (a44 : PySem.W.nsIn K mainGlobals "_law_is_give" = some (some (.ref f44)))
    (l44 : K.lookup f44 = some ⟨oc44, od44, .func (PySem.W.fnOf "_law_is_give" "_law_is_give" (defArgs s_Lis_give) (defBody s_Lis_give) (defScope s_Lis_give) .none kV44 dc44 pm44 an44 cd44 ct44), sl44⟩)
    (c44 : PySem.W.codeIn K cd44 "_law_is_give" = true)
    (k44 : PySem.W.keepIn K (.ref f44) = true)
    (a45 : PySem.W.nsIn K mainGlobals "_law_is_move" = some (some (.ref f45)))
    (l45 : K.lookup f45 = some ⟨oc45, od45, .func (PySem.W.fnOf "_law_is_move" "_law_is_move" (defArgs s_Lis_move) (defBody s_Lis_move) (defScope s_Lis_move) .none kV45 dc45 pm45 an45 cd45 ct45), sl45⟩)
    (c45 : PySem.W.codeIn K cd45 "_law_is_move" = true)
    (k45 : PySem.W.keepIn K (.ref f45) = true)
    (a46 : PySem.W.nsIn K mainGlobals "_law_takes" = some (some (.ref f46)))
    (l46 : K.lookup f46 = some ⟨oc46, od46, .func (PySem.W.fnOf "_law_takes" "_law_takes" (defArgs s_Ltakes) (defBody s_Ltakes) (defScope s_Ltakes) .none kV46 dc46 pm46 an46 cd46 ct46), sl46⟩)
    (c46 : PySem.W.codeIn K cd46 "_law_takes" = true)
    (k46 : PySem.W.keepIn K (.ref f46) = true)
    (a47 : PySem.W.nsIn K mainGlobals "_law_gives" = some (some (.ref f47)))
    (l47 : K.lookup f47 = some ⟨oc47, od47, .func (PySem.W.fnOf "_law_gives" "_law_gives" (defArgs s_Lgives) (defBody s_Lgives) (defScope s_Lgives) .none kV47 dc47 pm47 an47 cd47 ct47), sl47⟩)
    (c47 : PySem.W.codeIn K cd47 "_law_gives" = true)
    (k47 : PySem.W.keepIn K (.ref f47) = true)
    (a48 : PySem.W.nsIn K mainGlobals "_law_moves" = some (some (.ref f48)))
    (l48 : K.lookup f48 = some ⟨oc48, od48, .func (PySem.W.fnOf "_law_moves" "_law_moves" (defArgs s_Lmoves) (defBody s_Lmoves) (defScope s_Lmoves) .none kV48 dc48 pm48 an48 cd48 ct48), sl48⟩)
    (c48 : PySem.W.codeIn K cd48 "_law_moves" = true)
    (k48 : PySem.W.keepIn K (.ref f48) = true)
    (a49 : PySem.W.nsIn K mainGlobals "_law_lifts" = some (some (.ref f49)))
    (l49 : K.lookup f49 = some ⟨oc49, od49, .func (PySem.W.fnOf "_law_lifts" "_law_lifts" (defArgs s_Llifts) (defBody s_Llifts) (defScope s_Llifts) .none kV49 dc49 pm49 an49 cd49 ct49), sl49⟩)
    (c49 : PySem.W.codeIn K cd49 "_law_lifts" = true)
    (k49 : PySem.W.keepIn K (.ref f49) = true)
    (a50 : PySem.W.nsIn K mainGlobals "_law_book" = some (some (.ref f50)))
    (l50 : K.lookup f50 = some ⟨oc50, od50, .func (PySem.W.fnOf "_law_book" "_law_book" (defArgs s_Lbook) (defBody s_Lbook) (defScope s_Lbook) .none kV50 dc50 pm50 an50 cd50 ct50), sl50⟩)
    (c50 : PySem.W.codeIn K cd50 "_law_book" = true)
    (k50 : PySem.W.keepIn K (.ref f50) = true)
    (a51 : PySem.W.nsIn K mainGlobals "_law_mixed" = some (some (.ref f51)))
    (l51 : K.lookup f51 = some ⟨oc51, od51, .func (PySem.W.fnOf "_law_mixed" "_law_mixed" (defArgs s_Lmixed) (defBody s_Lmixed) (defScope s_Lmixed) .none kV51 dc51 pm51 an51 cd51 ct51), sl51⟩)
    (c51 : PySem.W.codeIn K cd51 "_law_mixed" = true)
    (k51 : PySem.W.keepIn K (.ref f51) = true)
    (a52 : PySem.W.nsIn K mainGlobals "_law_kinds_of" = some (some (.ref f52)))
    (l52 : K.lookup f52 = some ⟨oc52, od52, .func (PySem.W.fnOf "_law_kinds_of" "_law_kinds_of" (defArgs s_Lkinds_of) (defBody s_Lkinds_of) (defScope s_Lkinds_of) .none kV52 dc52 pm52 an52 cd52 ct52), sl52⟩)
    (c52 : PySem.W.codeIn K cd52 "_law_kinds_of" = true)
    (k52 : PySem.W.keepIn K (.ref f52) = true)
    (a53 : PySem.W.nsIn K mainGlobals "_law_text" = some (some (.ref f53)))
    (l53 : K.lookup f53 = some ⟨oc53, od53, .func (PySem.W.fnOf "_law_text" "_law_text" (defArgs s_Ltext) (defBody s_Ltext) (defScope s_Ltext) .none kV53 dc53 pm53 an53 cd53 ct53), sl53⟩)
    (c53 : PySem.W.codeIn K cd53 "_law_text" = true)
    (k53 : PySem.W.keepIn K (.ref f53) = true)
    (a54 : PySem.W.nsIn K mainGlobals "_law_any_rules" = some (some (.ref f54)))
    (l54 : K.lookup f54 = some ⟨oc54, od54, .func (PySem.W.fnOf "_law_any_rules" "_law_any_rules" (defArgs s_Lany_rules) (defBody s_Lany_rules) (defScope s_Lany_rules) .none kV54 dc54 pm54 an54 cd54 ct54), sl54⟩)
    (c54 : PySem.W.codeIn K cd54 "_law_any_rules" = true)
    (k54 : PySem.W.keepIn K (.ref f54) = true)
    (a55 : PySem.W.nsIn K mainGlobals "_law_turned_rules" = some (some (.ref f55)))
    (l55 : K.lookup f55 = some ⟨oc55, od55, .func (PySem.W.fnOf "_law_turned_rules" "_law_turned_rules" (defArgs s_Lturned_rules) (defBody s_Lturned_rules) (defScope s_Lturned_rules) .none kV55 dc55 pm55 an55 cd55 ct55), sl55⟩)
    (c55 : PySem.W.codeIn K cd55 "_law_turned_rules" = true)
    (k55 : PySem.W.keepIn K (.ref f55) = true)
    (a56 : PySem.W.nsIn K mainGlobals "_law_told" = some (some (.ref f56)))
    (l56 : K.lookup f56 = some ⟨oc56, od56, .func (PySem.W.fnOf "_law_told" "_law_told" (defArgs s_Ltold) (defBody s_Ltold) (defScope s_Ltold) .none kV56 dc56 pm56 an56 cd56 ct56), sl56⟩)
    (c56 : PySem.W.codeIn K cd56 "_law_told" = true)
    (k56 : PySem.W.keepIn K (.ref f56) = true)
    (a57 : PySem.W.nsIn K mainGlobals "_law_both_ways" = some (some (.ref f57)))
    (l57 : K.lookup f57 = some ⟨oc57, od57, .func (PySem.W.fnOf "_law_both_ways" "_law_both_ways" (defArgs s_Lboth_ways) (defBody s_Lboth_ways) (defScope s_Lboth_ways) .none kV57 dc57 pm57 an57 cd57 ct57), sl57⟩)
    (c57 : PySem.W.codeIn K cd57 "_law_both_ways" = true)
    (k57 : PySem.W.keepIn K (.ref f57) = true)
    (a58 : PySem.W.nsIn K mainGlobals "_law_changed" = some (some (.ref f58)))
    (l58 : K.lookup f58 = some ⟨oc58, od58, .func (PySem.W.fnOf "_law_changed" "_law_changed" (defArgs s_Lchanged) (defBody s_Lchanged) (defScope s_Lchanged) .none kV58 dc58 pm58 an58 cd58 ct58), sl58⟩)
    (c58 : PySem.W.codeIn K cd58 "_law_changed" = true)
    (k58 : PySem.W.keepIn K (.ref f58) = true)
    (a59 : PySem.W.nsIn K mainGlobals "_law_right" = some (some (.ref f59)))
    (l59 : K.lookup f59 = some ⟨oc59, od59, .func (PySem.W.fnOf "_law_right" "_law_right" (defArgs s_Lright) (defBody s_Lright) (defScope s_Lright) .none kV59 dc59 pm59 an59 cd59 ct59), sl59⟩)
    (c59 : PySem.W.codeIn K cd59 "_law_right" = true)
    (k59 : PySem.W.keepIn K (.ref f59) = true)
    (a60 : PySem.W.nsIn K mainGlobals "law" = some (some (.ref f60)))
    (l60 : K.lookup f60 = some ⟨oc60, od60, .func (PySem.W.fnOf "law" "law" (defArgs s_law) (defBody s_law) (defScope s_law) .none kV60 dc60 pm60 an60 cd60 ct60), sl60⟩)
    (c60 : PySem.W.codeIn K cd60 "law" = true)
    (k60 : PySem.W.keepIn K (.ref f60) = true)
    (z_abs : PySem.W.nsIn K mainGlobals "abs" = some none)
    (z_all : PySem.W.nsIn K mainGlobals "all" = some none)
    (z_bool : PySem.W.nsIn K mainGlobals "bool" = some none)
    (z_dict : PySem.W.nsIn K mainGlobals "dict" = some none)
    (z_divmod : PySem.W.nsIn K mainGlobals "divmod" = some none)
    (z_enumerate : PySem.W.nsIn K mainGlobals "enumerate" = some none)
    (z_int : PySem.W.nsIn K mainGlobals "int" = some none)
    (z_isinstance : PySem.W.nsIn K mainGlobals "isinstance" = some none)
    (z_len : PySem.W.nsIn K mainGlobals "len" = some none)
    (z_list : PySem.W.nsIn K mainGlobals "list" = some none)
    (z_max : PySem.W.nsIn K mainGlobals "max" = some none)
    (z_min : PySem.W.nsIn K mainGlobals "min" = some none)
    (z_range : PySem.W.nsIn K mainGlobals "range" = some none)
    (z_repr : PySem.W.nsIn K mainGlobals "repr" = some none)
    (z_set : PySem.W.nsIn K mainGlobals "set" = some none)
    (z_str : PySem.W.nsIn K mainGlobals "str" = some none)
    (z_tuple : PySem.W.nsIn K mainGlobals "tuple" = some none)
    (g_MOST_BATCH : PySem.W.nsIn K mainGlobals "MOST_BATCH" = some (some (.int 50 t_MOST_BATCH)))
    (g_DIGITS : PySem.W.nsIn K mainGlobals "DIGITS" = some (some (.str "0123456789" t_DIGITS)))
    (g_FAILS : PySem.W.nsIn K mainGlobals "FAILS" = some (some (.ref T_FAILS)))
    (h_T_FAILS : K.lookup T_FAILS = some ⟨.type "tuple", d_T_FAILS, .seq #[.str "undo" k0_T_FAILS, .str "leave" k1_T_FAILS, .str "wait" k2_T_FAILS] n_T_FAILS, l_T_FAILS⟩)
    (g_LINES : PySem.W.nsIn K mainGlobals "LINES" = some (some (.ref T_LINES)))
    (h_T_LINES : K.lookup T_LINES = some ⟨.type "tuple", d_T_LINES, .seq #[.str "take" k0_T_LINES, .str "give" k1_T_LINES, .str "move" k2_T_LINES, .str "lift" k3_T_LINES, .str "fails" k4_T_LINES, .str "holds" k5_T_LINES, .str "batch" k6_T_LINES, .str "last" k7_T_LINES] n_T_LINES, l_T_LINES⟩)
    (g_ROW_KINDS : PySem.W.nsIn K mainGlobals "ROW_KINDS" = some (some (.ref T_ROW_KINDS)))
    (h_T_ROW_KINDS : K.lookup T_ROW_KINDS = some ⟨.type "tuple", d_T_ROW_KINDS, .seq #[.str "take" k0_T_ROW_KINDS, .str "give" k1_T_ROW_KINDS, .str "move" k2_T_ROW_KINDS, .str "lift" k3_T_ROW_KINDS] n_T_ROW_KINDS, l_T_ROW_KINDS⟩)
    (g_SETTLES_WORDS : PySem.W.nsIn K mainGlobals "SETTLES_WORDS" = some (some (.ref T_SETTLES_WORDS)))
    (h_T_SETTLES_WORDS : K.lookup T_SETTLES_WORDS = some ⟨.type "tuple", d_T_SETTLES_WORDS, .seq #[.str "stays" k0_T_SETTLES_WORDS, .str "settles" k1_T_SETTLES_WORDS] n_T_SETTLES_WORDS, l_T_SETTLES_WORDS⟩)
    (g_SHARED_WORDS : PySem.W.nsIn K mainGlobals "SHARED_WORDS" = some (some (.ref T_SHARED_WORDS)))
    (h_T_SHARED_WORDS : K.lookup T_SHARED_WORDS = some ⟨.type "tuple", d_T_SHARED_WORDS, .seq #[.str "apart" k0_T_SHARED_WORDS, .str "shared" k1_T_SHARED_WORDS] n_T_SHARED_WORDS, l_T_SHARED_WORDS⟩)
    (g_LIFT_ROWS : PySem.W.nsIn K mainGlobals "LIFT_ROWS" = some (some (.ref T_LIFT_ROWS)))
    (h_T_LIFT_ROWS : K.lookup T_LIFT_ROWS = some ⟨.type "tuple", d_T_LIFT_ROWS, .seq #[.ref T0_LIFT_ROWS, .ref T1_LIFT_ROWS, .ref T2_LIFT_ROWS, .ref T3_LIFT_ROWS, .ref T4_LIFT_ROWS, .ref T5_LIFT_ROWS] n_T_LIFT_ROWS, l_T_LIFT_ROWS⟩)
    (h_T0_LIFT_ROWS : K.lookup T0_LIFT_ROWS = some ⟨.type "tuple", d_T0_LIFT_ROWS, .seq #[] n_T0_LIFT_ROWS, l_T0_LIFT_ROWS⟩)
    (h_T1_LIFT_ROWS : K.lookup T1_LIFT_ROWS = some ⟨.type "tuple", d_T1_LIFT_ROWS, .seq #[.str "set" k0_T1_LIFT_ROWS] n_T1_LIFT_ROWS, l_T1_LIFT_ROWS⟩)
    (h_T2_LIFT_ROWS : K.lookup T2_LIFT_ROWS = some ⟨.type "tuple", d_T2_LIFT_ROWS, .seq #[.str "off" k0_T2_LIFT_ROWS] n_T2_LIFT_ROWS, l_T2_LIFT_ROWS⟩)
    (h_T3_LIFT_ROWS : K.lookup T3_LIFT_ROWS = some ⟨.type "tuple", d_T3_LIFT_ROWS, .seq #[.str "set" k0_T3_LIFT_ROWS, .str "off" k1_T3_LIFT_ROWS] n_T3_LIFT_ROWS, l_T3_LIFT_ROWS⟩)
    (h_T4_LIFT_ROWS : K.lookup T4_LIFT_ROWS = some ⟨.type "tuple", d_T4_LIFT_ROWS, .seq #[.str "off" k0_T4_LIFT_ROWS, .str "set" k1_T4_LIFT_ROWS] n_T4_LIFT_ROWS, l_T4_LIFT_ROWS⟩)
    (h_T5_LIFT_ROWS : K.lookup T5_LIFT_ROWS = some ⟨.type "tuple", d_T5_LIFT_ROWS, .seq #[.str "both" k0_T5_LIFT_ROWS] n_T5_LIFT_ROWS, l_T5_LIFT_ROWS⟩)
    (g_ROW_CHECKS : PySem.W.nsIn K mainGlobals "ROW_CHECKS" = some (some (.ref T_ROW_CHECKS)))
    (h_ROW_CHECKS : K.lookup T_ROW_CHECKS = some ⟨.type "dict", none, .dict es_ROW_CHECKS n_ROW_CHECKS, #[]⟩)
    (y_ROW_CHECKS : PySem.W.KeysLit w.params es_ROW_CHECKS.toList)
    (x_ROW_CHECKS_take : PySem.W.nsIn K T_ROW_CHECKS "take" = some (some (.ref f8)))
    (x_ROW_CHECKS_give : PySem.W.nsIn K T_ROW_CHECKS "give" = some (some (.ref f9)))
    (x_ROW_CHECKS_move : PySem.W.nsIn K T_ROW_CHECKS "move" = some (some (.ref f10)))
    (x_ROW_CHECKS_lift : PySem.W.nsIn K T_ROW_CHECKS "lift" = some (some (.ref f11)))
    (ow_ls : PySem.W.subIn K (.ref C) (.type "list") = some false)
    (ow_tp : PySem.W.subIn K (.ref C) (.type "tuple") = some false)
    (ow_dc : PySem.W.subIn K (.ref C) (.type "dict") = some false)
    (ow_st : PySem.W.subIn K (.ref C) (.type "str") = some false)
    (ow_bo : PySem.W.subIn K (.ref C) (.type "bool") = some false)
    (ow_no : PySem.W.subIn K (.ref C) (.type "NoneType") = some false)
    : ∃ fd : FuncData, (∀ (s : Shared) (v : Value), BindsTo s fd ⟨[v], []⟩ [("_law_script", v)]) ∧ ∀ base : Heap, K.In base → base.Ns mainGlobals mg → FnG l.prog w K mg base CX0 12 fa fd ["_law_script"] (sp_law K) := by
  cases hfa.symm.trans (PySem.W.mg_of X G a60)
  have F1 := fun_mk (st := s_is_an_integer) l1 c1 k1
  have B1 := F1.binds (ps := ["value"]) fun _ _ _ _ _ _ us hl => match us, hl with | [_], _ => rfl
  have F2 := fun_mk (st := s_is_list) l2 c2 k2
  have B2 := F2.binds (ps := ["value"]) fun _ _ _ _ _ _ us hl => match us, hl with | [_], _ => rfl
  have F3 := fun_mk (st := s_is_word) l3 c3 k3
  have B3 := F3.binds (ps := ["value", "words"]) fun _ _ _ _ _ _ us hl => match us, hl with | [_, _], _ => rfl
  have F4 := fun_mk (st := s_are_different_words) l4 c4 k4
  have B4 := F4.binds (ps := ["values", "words"]) fun _ _ _ _ _ _ us hl => match us, hl with | [_, _], _ => rfl
  have F5 := fun_mk (st := s_has_words_of) l5 c5 k5
  have B5 := F5.binds (ps := ["value", "words"]) fun _ _ _ _ _ _ us hl => match us, hl with | [_, _], _ => rfl
  have F6 := fun_mk (st := s_tests_are_ahead) l6 c6 k6
  have B6 := F6.binds (ps := ["row", "word"]) fun _ _ _ _ _ _ us hl => match us, hl with | [_, _], _ => rfl
  have F7 := fun_mk (st := s_off_has_home) l7 c7 k7
  have B7 := F7.binds (ps := ["row"]) fun _ _ _ _ _ _ us hl => match us, hl with | [_], _ => rfl
  have F8 := fun_mk (st := s_is_take_row) l8 c8 k8
  have B8 := F8.binds (ps := ["value"]) fun _ _ _ _ _ _ us hl => match us, hl with | [_], _ => rfl
  have F9 := fun_mk (st := s_is_give_row) l9 c9 k9
  have B9 := F9.binds (ps := ["value"]) fun _ _ _ _ _ _ us hl => match us, hl with | [_], _ => rfl
  have F10 := fun_mk (st := s_is_move_row) l10 c10 k10
  have B10 := F10.binds (ps := ["value"]) fun _ _ _ _ _ _ us hl => match us, hl with | [_], _ => rfl
  have F11 := fun_mk (st := s_is_lift_row) l11 c11 k11
  have B11 := F11.binds (ps := ["value"]) fun _ _ _ _ _ _ us hl => match us, hl with | [_], _ => rfl
  have F12 := fun_mk (st := s_is_row) l12 c12 k12
  have B12 := F12.binds (ps := ["kind", "value"]) fun _ _ _ _ _ _ us hl => match us, hl with | [_, _], _ => rfl
  have F13 := fun_mk (st := s_fits_batch) l13 c13 k13
  have B13 := F13.binds (ps := ["row", "batch"]) fun _ _ _ _ _ _ us hl => match us, hl with | [_, _], _ => rfl
  have F14 := fun_mk (st := s_fits_shared) l14 c14 k14
  have B14 := F14.binds (ps := ["row", "shared"]) fun _ _ _ _ _ _ us hl => match us, hl with | [_, _], _ => rfl
  have F15 := fun_mk (st := s_check_rows) l15 c15 k15
  have B15 := F15.binds (ps := ["rows"]) fun _ _ _ _ _ _ us hl => match us, hl with | [_], _ => rfl
  have F16 := fun_mk (st := s_check_fails) l16 c16 k16
  have B16 := F16.binds (ps := ["value"]) fun _ _ _ _ _ _ us hl => match us, hl with | [_], _ => rfl
  have F17 := fun_mk (st := s_check_bool) l17 c17 k17
  have B17 := F17.binds (ps := ["name", "value"]) fun _ _ _ _ _ _ us hl => match us, hl with | [_, _], _ => rfl
  have F18 := fun_mk (st := s_check_holds) l18 c18 k18
  have B18 := F18.binds (ps := ["value"]) fun _ _ _ _ _ _ us hl => match us, hl with | [_], _ => rfl
  have F19 := fun_mk (st := s_check_batch) l19 c19 k19
  have B19 := F19.binds (ps := ["value"]) fun _ _ _ _ _ _ us hl => match us, hl with | [_], _ => rfl
  have F20 := fun_mk (st := s_check_row_kind) l20 c20 k20
  have B20 := F20.binds (ps := ["value"]) fun _ _ _ _ _ _ us hl => match us, hl with | [_], _ => rfl
  have F21 := fun_mk (st := s_Binit) l21 c21 k21
  have F22 := fun_mk (st := s_Beq) l22 c22 k22
  have B22 := F22.binds (ps := ["self", "other"]) fun _ _ _ _ _ _ us hl => match us, hl with | [_, _], _ => rfl
  have F23 := fun_mk (st := s_Brepr) l23 c23 k23
  have B23 := F23.binds (ps := ["self"]) fun _ _ _ _ _ _ us hl => match us, hl with | [_], _ => rfl
  have F24 := fun_mk (st := s_Bfails) l24 c24 k24
  have B24 := F24.binds (ps := ["self"]) fun _ _ _ _ _ _ us hl => match us, hl with | [_], _ => rfl
  have F25 := fun_mk (st := s_Bshared) l25 c25 k25
  have B25 := F25.binds (ps := ["self"]) fun _ _ _ _ _ _ us hl => match us, hl with | [_], _ => rfl
  have F26 := fun_mk (st := s_Bholds) l26 c26 k26
  have B26 := F26.binds (ps := ["self"]) fun _ _ _ _ _ _ us hl => match us, hl with | [_], _ => rfl
  have F27 := fun_mk (st := s_Bbatch) l27 c27 k27
  have B27 := F27.binds (ps := ["self"]) fun _ _ _ _ _ _ us hl => match us, hl with | [_], _ => rfl
  have F28 := fun_mk (st := s_Bsettles) l28 c28 k28
  have B28 := F28.binds (ps := ["self"]) fun _ _ _ _ _ _ us hl => match us, hl with | [_], _ => rfl
  have F29 := fun_mk (st := s_Brow) l29 c29 k29
  have B29 := F29.binds (ps := ["self", "kind"]) fun _ _ _ _ _ _ us hl => match us, hl with | [_, _], _ => rfl
  have F30 := fun_mk (st := s_is_between) l30 c30 k30
  have B30 := F30.binds (ps := ["value", "least", "most"]) fun _ _ _ _ _ _ us hl => match us, hl with | [_, _, _], _ => rfl
  have F31 := fun_mk (st := s_is_numeral) l31 c31 k31
  have B31 := F31.binds (ps := ["word"]) fun _ _ _ _ _ _ us hl => match us, hl with | [_], _ => rfl
  have F32 := fun_mk (st := s_line_from) l32 c32 k32
  have B32 := F32.binds (ps := ["parts"]) fun _ _ _ _ _ _ us hl => match us, hl with | [_], _ => rfl
  have F33 := fun_mk (st := s_text_of) l33 c33 k33
  have B33 := F33.binds (ps := ["book"]) fun _ _ _ _ _ _ us hl => match us, hl with | [_], _ => rfl
  have F34 := fun_mk (st := s_read_holds) l34 c34 k34
  have B34 := F34.binds (ps := ["words"]) fun _ _ _ _ _ _ us hl => match us, hl with | [_], _ => rfl
  have F35 := fun_mk (st := s_read_part) l35 c35 k35
  have B35 := F35.binds (ps := ["name", "words"]) fun _ _ _ _ _ _ us hl => match us, hl with | [_, _], _ => rfl
  have F36 := fun_mk (st := s_read_line) l36 c36 k36
  have B36 := F36.binds (ps := ["name", "line"]) fun _ _ _ _ _ _ us hl => match us, hl with | [_, _], _ => rfl
  have F37 := fun_mk (st := s_read_book) l37 c37 k37
  have B37 := F37.binds (ps := ["text"]) fun _ _ _ _ _ _ us hl => match us, hl with | [_], _ => rfl
  have F38 := fun_mk (st := s_Lpot) l38 c38 k38
  have B38 := F38.binds (ps := ["_law_script", "_law_k"]) fun _ _ _ _ _ _ us hl => match us, hl with | [_, _], _ => rfl
  have F39 := fun_mk (st := s_Ldraw) l39 c39 k39
  have B39 := F39.binds (ps := ["_law_pot_here", "_law_sides"]) fun _ _ _ _ _ _ us hl => match us, hl with | [_, _], _ => rfl
  have F40 := fun_mk (st := s_Lpick) l40 c40 k40
  have B40 := F40.binds (ps := ["_law_pot_here", "_law_some"]) fun _ _ _ _ _ _ us hl => match us, hl with | [_, _], _ => rfl
  have F41 := fun_mk (st := s_Lsequences) l41 c41 k41
  have B41 := F41.binds (ps := ["_law_words"]) fun _ _ _ _ _ _ us hl => match us, hl with | [_], _ => rfl
  have F42 := fun_mk (st := s_Lis_ahead) l42 c42 k42
  have B42 := F42.binds (ps := ["_law_some", "_law_word", "_law_later"]) fun _ _ _ _ _ _ us hl => match us, hl with | [_, _, _], _ => rfl
  have F43 := fun_mk (st := s_Lis_take) l43 c43 k43
  have B43 := F43.binds (ps := ["_law_some", "_law_amount"]) fun _ _ _ _ _ _ us hl => match us, hl with | [_, _], _ => rfl
  have F44 := fun_mk (st := s_Lis_give) l44 c44 k44
  have B44 := F44.binds (ps := ["_law_some"]) fun _ _ _ _ _ _ us hl => match us, hl with | [_], _ => rfl
  have F45 := fun_mk (st := s_Lis_move) l45 c45 k45
  have B45 := F45.binds (ps := ["_law_some", "_law_is_shared"]) fun _ _ _ _ _ _ us hl => match us, hl with | [_, _], _ => rfl
  have F46 := fun_mk (st := s_Ltakes) l46 c46 k46
  have B46 := F46.binds (ps := ["_law_amount"]) fun _ _ _ _ _ _ us hl => match us, hl with | [_], _ => rfl
  have F47 := fun_mk (st := s_Lgives) l47 c47 k47
  have B47 := F47.binds (ps := []) fun _ _ _ _ _ _ us hl => match us, hl with | [], _ => rfl
  have F48 := fun_mk (st := s_Lmoves) l48 c48 k48
  have B48 := F48.binds (ps := ["_law_is_shared"]) fun _ _ _ _ _ _ us hl => match us, hl with | [_], _ => rfl
  have F49 := fun_mk (st := s_Llifts) l49 c49 k49
  have B49 := F49.binds (ps := []) fun _ _ _ _ _ _ us hl => match us, hl with | [], _ => rfl
  have F50 := fun_mk (st := s_Lbook) l50 c50 k50
  have B50 := F50.binds (ps := ["_law_rules"]) fun _ _ _ _ _ _ us hl => match us, hl with | [_], _ => rfl
  have F51 := fun_mk (st := s_Lmixed) l51 c51 k51
  have B51 := F51.binds (ps := ["_law_pot_here", "_law_some"]) fun _ _ _ _ _ _ us hl => match us, hl with | [_, _], _ => rfl
  have F52 := fun_mk (st := s_Lkinds_of) l52 c52 k52
  have B52 := F52.binds (ps := ["_law_some"]) fun _ _ _ _ _ _ us hl => match us, hl with | [_], _ => rfl
  have F53 := fun_mk (st := s_Ltext) l53 c53 k53
  have B53 := F53.binds (ps := ["_law_rules"]) fun _ _ _ _ _ _ us hl => match us, hl with | [_], _ => rfl
  have F54 := fun_mk (st := s_Lany_rules) l54 c54 k54
  have B54 := F54.binds (ps := ["_law_pot_here", "_law_moves_some"]) fun _ _ _ _ _ _ us hl => match us, hl with | [_, _], _ => rfl
  have F55 := fun_mk (st := s_Lturned_rules) l55 c55 k55
  have B55 := F55.binds (ps := ["_law_pot_here", "_law_rules", "_law_moves_some"]) fun _ _ _ _ _ _ us hl => match us, hl with | [_, _, _], _ => rfl
  have F56 := fun_mk (st := s_Ltold) l56 c56 k56
  have B56 := F56.binds (ps := ["_law_volume"]) fun _ _ _ _ _ _ us hl => match us, hl with | [_], _ => rfl
  have F57 := fun_mk (st := s_Lboth_ways) l57 c57 k57
  have B57 := F57.binds (ps := ["_law_rules"]) fun _ _ _ _ _ _ us hl => match us, hl with | [_], _ => rfl
  have F58 := fun_mk (st := s_Lchanged) l58 c58 k58
  have B58 := F58.binds (ps := ["_law_rules", "_law_key", "_law_entry"]) fun _ _ _ _ _ _ us hl => match us, hl with | [_, _, _], _ => rfl
  have F59 := fun_mk (st := s_Lright) l59 c59 k59
  have B59 := F59.binds (ps := ["_law_pot_here"]) fun _ _ _ _ _ _ us hl => match us, hl with | [_], _ => rfl
  have F60 := fun_mk (st := s_law) l60 c60 k60
  have B60 := F60.binds (ps := ["_law_script"]) fun _ _ _ _ _ _ us hl => match us, hl with | [_], _ => rfl
  let T : Txt K mg w := {
    C := C,
    c_Book := ⟨pg, hd, po, sa⟩,
    m_Book := PySem.W.mg_of X G aC,
    n_parts := n_parts,
    x_class := x_class,
    x_get := x_get,
    x_tk := x_tk,
    x_mro := x_mro,
    x_ne := x_ne,
    x_cls := x_cls,
    x_ty := x_ty,
    f_is_an_integer := f1,
    fd_is_an_integer := PySem.W.fnOf "is_an_integer" "is_an_integer" (defArgs s_is_an_integer) (defBody s_is_an_integer) (defScope s_is_an_integer) .none kV1 dc1 pm1 an1 cd1 ct1,
    F_is_an_integer := F1,
    b_is_an_integer := B1,
    m_is_an_integer := PySem.W.mg_of X G a1,
    f_is_list := f2,
    fd_is_list := PySem.W.fnOf "is_list" "is_list" (defArgs s_is_list) (defBody s_is_list) (defScope s_is_list) .none kV2 dc2 pm2 an2 cd2 ct2,
    F_is_list := F2,
    b_is_list := B2,
    m_is_list := PySem.W.mg_of X G a2,
    f_is_word := f3,
    fd_is_word := PySem.W.fnOf "is_word" "is_word" (defArgs s_is_word) (defBody s_is_word) (defScope s_is_word) .none kV3 dc3 pm3 an3 cd3 ct3,
    F_is_word := F3,
    b_is_word := B3,
    m_is_word := PySem.W.mg_of X G a3,
    f_are_different_words := f4,
    fd_are_different_words := PySem.W.fnOf "are_different_words" "are_different_words" (defArgs s_are_different_words) (defBody s_are_different_words) (defScope s_are_different_words) .none kV4 dc4 pm4 an4 cd4 ct4,
    F_are_different_words := F4,
    b_are_different_words := B4,
    m_are_different_words := PySem.W.mg_of X G a4,
    f_has_words_of := f5,
    fd_has_words_of := PySem.W.fnOf "has_words_of" "has_words_of" (defArgs s_has_words_of) (defBody s_has_words_of) (defScope s_has_words_of) .none kV5 dc5 pm5 an5 cd5 ct5,
    F_has_words_of := F5,
    b_has_words_of := B5,
    m_has_words_of := PySem.W.mg_of X G a5,
    f_tests_are_ahead := f6,
    fd_tests_are_ahead := PySem.W.fnOf "tests_are_ahead" "tests_are_ahead" (defArgs s_tests_are_ahead) (defBody s_tests_are_ahead) (defScope s_tests_are_ahead) .none kV6 dc6 pm6 an6 cd6 ct6,
    F_tests_are_ahead := F6,
    b_tests_are_ahead := B6,
    m_tests_are_ahead := PySem.W.mg_of X G a6,
    f_off_has_home := f7,
    fd_off_has_home := PySem.W.fnOf "off_has_home" "off_has_home" (defArgs s_off_has_home) (defBody s_off_has_home) (defScope s_off_has_home) .none kV7 dc7 pm7 an7 cd7 ct7,
    F_off_has_home := F7,
    b_off_has_home := B7,
    m_off_has_home := PySem.W.mg_of X G a7,
    f_is_take_row := f8,
    fd_is_take_row := PySem.W.fnOf "is_take_row" "is_take_row" (defArgs s_is_take_row) (defBody s_is_take_row) (defScope s_is_take_row) .none kV8 dc8 pm8 an8 cd8 ct8,
    F_is_take_row := F8,
    b_is_take_row := B8,
    m_is_take_row := PySem.W.mg_of X G a8,
    f_is_give_row := f9,
    fd_is_give_row := PySem.W.fnOf "is_give_row" "is_give_row" (defArgs s_is_give_row) (defBody s_is_give_row) (defScope s_is_give_row) .none kV9 dc9 pm9 an9 cd9 ct9,
    F_is_give_row := F9,
    b_is_give_row := B9,
    m_is_give_row := PySem.W.mg_of X G a9,
    f_is_move_row := f10,
    fd_is_move_row := PySem.W.fnOf "is_move_row" "is_move_row" (defArgs s_is_move_row) (defBody s_is_move_row) (defScope s_is_move_row) .none kV10 dc10 pm10 an10 cd10 ct10,
    F_is_move_row := F10,
    b_is_move_row := B10,
    m_is_move_row := PySem.W.mg_of X G a10,
    f_is_lift_row := f11,
    fd_is_lift_row := PySem.W.fnOf "is_lift_row" "is_lift_row" (defArgs s_is_lift_row) (defBody s_is_lift_row) (defScope s_is_lift_row) .none kV11 dc11 pm11 an11 cd11 ct11,
    F_is_lift_row := F11,
    b_is_lift_row := B11,
    m_is_lift_row := PySem.W.mg_of X G a11,
    f_is_row := f12,
    fd_is_row := PySem.W.fnOf "is_row" "is_row" (defArgs s_is_row) (defBody s_is_row) (defScope s_is_row) .none kV12 dc12 pm12 an12 cd12 ct12,
    F_is_row := F12,
    b_is_row := B12,
    m_is_row := PySem.W.mg_of X G a12,
    f_fits_batch := f13,
    fd_fits_batch := PySem.W.fnOf "fits_batch" "fits_batch" (defArgs s_fits_batch) (defBody s_fits_batch) (defScope s_fits_batch) .none kV13 dc13 pm13 an13 cd13 ct13,
    F_fits_batch := F13,
    b_fits_batch := B13,
    m_fits_batch := PySem.W.mg_of X G a13,
    f_fits_shared := f14,
    fd_fits_shared := PySem.W.fnOf "fits_shared" "fits_shared" (defArgs s_fits_shared) (defBody s_fits_shared) (defScope s_fits_shared) .none kV14 dc14 pm14 an14 cd14 ct14,
    F_fits_shared := F14,
    b_fits_shared := B14,
    m_fits_shared := PySem.W.mg_of X G a14,
    f_check_rows := f15,
    fd_check_rows := PySem.W.fnOf "check_rows" "check_rows" (defArgs s_check_rows) (defBody s_check_rows) (defScope s_check_rows) .none kV15 dc15 pm15 an15 cd15 ct15,
    F_check_rows := F15,
    b_check_rows := B15,
    m_check_rows := PySem.W.mg_of X G a15,
    f_check_fails := f16,
    fd_check_fails := PySem.W.fnOf "check_fails" "check_fails" (defArgs s_check_fails) (defBody s_check_fails) (defScope s_check_fails) .none kV16 dc16 pm16 an16 cd16 ct16,
    F_check_fails := F16,
    b_check_fails := B16,
    m_check_fails := PySem.W.mg_of X G a16,
    f_check_bool := f17,
    fd_check_bool := PySem.W.fnOf "check_bool" "check_bool" (defArgs s_check_bool) (defBody s_check_bool) (defScope s_check_bool) .none kV17 dc17 pm17 an17 cd17 ct17,
    F_check_bool := F17,
    b_check_bool := B17,
    m_check_bool := PySem.W.mg_of X G a17,
    f_check_holds := f18,
    fd_check_holds := PySem.W.fnOf "check_holds" "check_holds" (defArgs s_check_holds) (defBody s_check_holds) (defScope s_check_holds) .none kV18 dc18 pm18 an18 cd18 ct18,
    F_check_holds := F18,
    b_check_holds := B18,
    m_check_holds := PySem.W.mg_of X G a18,
    f_check_batch := f19,
    fd_check_batch := PySem.W.fnOf "check_batch" "check_batch" (defArgs s_check_batch) (defBody s_check_batch) (defScope s_check_batch) .none kV19 dc19 pm19 an19 cd19 ct19,
    F_check_batch := F19,
    b_check_batch := B19,
    m_check_batch := PySem.W.mg_of X G a19,
    f_check_row_kind := f20,
    fd_check_row_kind := PySem.W.fnOf "check_row_kind" "check_row_kind" (defArgs s_check_row_kind) (defBody s_check_row_kind) (defScope s_check_row_kind) .none kV20 dc20 pm20 an20 cd20 ct20,
    F_check_row_kind := F20,
    b_check_row_kind := B20,
    m_check_row_kind := PySem.W.mg_of X G a20,
    f_Binit := f21,
    fd_Binit := PySem.W.fnOf "__init__" "Book.__init__" (defArgs s_Binit) (defBody s_Binit) (defScope s_Binit) .none kV21 dc21 pm21 an21 cd21 ct21,
    F_Binit := F21,
    mk_Book := ⟨mk, a21, i21, kc⟩,
    k_Binit := ⟨fun s us ws _ l1 l2 => match us, l1, ws, l2 with | [_], _, [_, _, _, _, _, _, _, _, _], _ => .of_eq rfl, fun r1 r2 => r1.append r2⟩,
    k_Binit2 := ⟨fun s us ws _ l1 l2 => match us, l1, ws, l2 with | [_], _, [_, _, _, _, _, _, _, _, _], _ => .of_eq rfl, fun r1 r2 => sel_rel r1 .nil r2 _⟩,
    f_Beq := f22,
    fd_Beq := PySem.W.fnOf "__eq__" "Book.__eq__" (defArgs s_Beq) (defBody s_Beq) (defScope s_Beq) .none kV22 dc22 pm22 an22 cd22 ct22,
    F_Beq := F22,
    b_Beq := B22,
    M_Beq := ⟨a22, i22, k22⟩,
    f_Brepr := f23,
    fd_Brepr := PySem.W.fnOf "__repr__" "Book.__repr__" (defArgs s_Brepr) (defBody s_Brepr) (defScope s_Brepr) .none kV23 dc23 pm23 an23 cd23 ct23,
    F_Brepr := F23,
    b_Brepr := B23,
    M_Brepr := ⟨a23, i23, k23⟩,
    f_Bfails := f24,
    fd_Bfails := PySem.W.fnOf "fails" "Book.fails" (defArgs s_Bfails) (defBody s_Bfails) (defScope s_Bfails) .none kV24 dc24 pm24 an24 cd24 ct24,
    F_Bfails := F24,
    b_Bfails := B24,
    p_Bfails := pr24,
    P_Bfails := ⟨a24, pA24, pB24, _, pC24⟩,
    f_Bshared := f25,
    fd_Bshared := PySem.W.fnOf "shared" "Book.shared" (defArgs s_Bshared) (defBody s_Bshared) (defScope s_Bshared) .none kV25 dc25 pm25 an25 cd25 ct25,
    F_Bshared := F25,
    b_Bshared := B25,
    p_Bshared := pr25,
    P_Bshared := ⟨a25, pA25, pB25, _, pC25⟩,
    f_Bholds := f26,
    fd_Bholds := PySem.W.fnOf "holds" "Book.holds" (defArgs s_Bholds) (defBody s_Bholds) (defScope s_Bholds) .none kV26 dc26 pm26 an26 cd26 ct26,
    F_Bholds := F26,
    b_Bholds := B26,
    p_Bholds := pr26,
    P_Bholds := ⟨a26, pA26, pB26, _, pC26⟩,
    f_Bbatch := f27,
    fd_Bbatch := PySem.W.fnOf "batch" "Book.batch" (defArgs s_Bbatch) (defBody s_Bbatch) (defScope s_Bbatch) .none kV27 dc27 pm27 an27 cd27 ct27,
    F_Bbatch := F27,
    b_Bbatch := B27,
    p_Bbatch := pr27,
    P_Bbatch := ⟨a27, pA27, pB27, _, pC27⟩,
    f_Bsettles := f28,
    fd_Bsettles := PySem.W.fnOf "settles" "Book.settles" (defArgs s_Bsettles) (defBody s_Bsettles) (defScope s_Bsettles) .none kV28 dc28 pm28 an28 cd28 ct28,
    F_Bsettles := F28,
    b_Bsettles := B28,
    p_Bsettles := pr28,
    P_Bsettles := ⟨a28, pA28, pB28, _, pC28⟩,
    f_Brow := f29,
    fd_Brow := PySem.W.fnOf "row" "Book.row" (defArgs s_Brow) (defBody s_Brow) (defScope s_Brow) .none kV29 dc29 pm29 an29 cd29 ct29,
    F_Brow := F29,
    b_Brow := B29,
    M_Brow := ⟨a29, i29, k29⟩,
    f_is_between := f30,
    fd_is_between := PySem.W.fnOf "is_between" "is_between" (defArgs s_is_between) (defBody s_is_between) (defScope s_is_between) .none kV30 dc30 pm30 an30 cd30 ct30,
    F_is_between := F30,
    b_is_between := B30,
    m_is_between := PySem.W.mg_of X G a30,
    f_is_numeral := f31,
    fd_is_numeral := PySem.W.fnOf "is_numeral" "is_numeral" (defArgs s_is_numeral) (defBody s_is_numeral) (defScope s_is_numeral) .none kV31 dc31 pm31 an31 cd31 ct31,
    F_is_numeral := F31,
    b_is_numeral := B31,
    m_is_numeral := PySem.W.mg_of X G a31,
    f_line_from := f32,
    fd_line_from := PySem.W.fnOf "line_from" "line_from" (defArgs s_line_from) (defBody s_line_from) (defScope s_line_from) .none kV32 dc32 pm32 an32 cd32 ct32,
    F_line_from := F32,
    b_line_from := B32,
    m_line_from := PySem.W.mg_of X G a32,
    f_text_of := f33,
    fd_text_of := PySem.W.fnOf "text_of" "text_of" (defArgs s_text_of) (defBody s_text_of) (defScope s_text_of) .none kV33 dc33 pm33 an33 cd33 ct33,
    F_text_of := F33,
    b_text_of := B33,
    m_text_of := PySem.W.mg_of X G a33,
    k_text_of_book := ⟨fun s us ws _ l1 l2 => match us, l1, ws, l2 with | [], _, [_], _ => .of_eq rfl, fun r1 r2 => sel_rel r1 .nil r2 _⟩,
    f_read_holds := f34,
    fd_read_holds := PySem.W.fnOf "read_holds" "read_holds" (defArgs s_read_holds) (defBody s_read_holds) (defScope s_read_holds) .none kV34 dc34 pm34 an34 cd34 ct34,
    F_read_holds := F34,
    b_read_holds := B34,
    m_read_holds := PySem.W.mg_of X G a34,
    f_read_part := f35,
    fd_read_part := PySem.W.fnOf "read_part" "read_part" (defArgs s_read_part) (defBody s_read_part) (defScope s_read_part) .none kV35 dc35 pm35 an35 cd35 ct35,
    F_read_part := F35,
    b_read_part := B35,
    m_read_part := PySem.W.mg_of X G a35,
    f_read_line := f36,
    fd_read_line := PySem.W.fnOf "read_line" "read_line" (defArgs s_read_line) (defBody s_read_line) (defScope s_read_line) .none kV36 dc36 pm36 an36 cd36 ct36,
    F_read_line := F36,
    b_read_line := B36,
    m_read_line := PySem.W.mg_of X G a36,
    f_read_book := f37,
    fd_read_book := PySem.W.fnOf "read_book" "read_book" (defArgs s_read_book) (defBody s_read_book) (defScope s_read_book) .none kV37 dc37 pm37 an37 cd37 ct37,
    F_read_book := F37,
    b_read_book := B37,
    m_read_book := PySem.W.mg_of X G a37,
    k_read_book_text := ⟨fun s us ws _ l1 l2 => match us, l1, ws, l2 with | [], _, [_], _ => .of_eq rfl, fun r1 r2 => sel_rel r1 .nil r2 _⟩,
    f_Lpot := f38,
    fd_Lpot := PySem.W.fnOf "_law_pot" "_law_pot" (defArgs s_Lpot) (defBody s_Lpot) (defScope s_Lpot) .none kV38 dc38 pm38 an38 cd38 ct38,
    F_Lpot := F38,
    b_Lpot := B38,
    m_Lpot := PySem.W.mg_of X G a38,
    f_Ldraw := f39,
    fd_Ldraw := PySem.W.fnOf "_law_draw" "_law_draw" (defArgs s_Ldraw) (defBody s_Ldraw) (defScope s_Ldraw) .none kV39 dc39 pm39 an39 cd39 ct39,
    F_Ldraw := F39,
    b_Ldraw := B39,
    m_Ldraw := PySem.W.mg_of X G a39,
    f_Lpick := f40,
    fd_Lpick := PySem.W.fnOf "_law_pick" "_law_pick" (defArgs s_Lpick) (defBody s_Lpick) (defScope s_Lpick) .none kV40 dc40 pm40 an40 cd40 ct40,
    F_Lpick := F40,
    b_Lpick := B40,
    m_Lpick := PySem.W.mg_of X G a40,
    f_Lsequences := f41,
    fd_Lsequences := PySem.W.fnOf "_law_sequences" "_law_sequences" (defArgs s_Lsequences) (defBody s_Lsequences) (defScope s_Lsequences) .none kV41 dc41 pm41 an41 cd41 ct41,
    F_Lsequences := F41,
    b_Lsequences := B41,
    m_Lsequences := PySem.W.mg_of X G a41,
    f_Lis_ahead := f42,
    fd_Lis_ahead := PySem.W.fnOf "_law_is_ahead" "_law_is_ahead" (defArgs s_Lis_ahead) (defBody s_Lis_ahead) (defScope s_Lis_ahead) .none kV42 dc42 pm42 an42 cd42 ct42,
    F_Lis_ahead := F42,
    b_Lis_ahead := B42,
    m_Lis_ahead := PySem.W.mg_of X G a42,
    f_Lis_take := f43,
    fd_Lis_take := PySem.W.fnOf "_law_is_take" "_law_is_take" (defArgs s_Lis_take) (defBody s_Lis_take) (defScope s_Lis_take) .none kV43 dc43 pm43 an43 cd43 ct43,
    F_Lis_take := F43,
    b_Lis_take := B43,
    m_Lis_take := PySem.W.mg_of X G a43,
    f_Lis_give := f44,
    fd_Lis_give := PySem.W.fnOf "_law_is_give" "_law_is_give" (defArgs s_Lis_give) (defBody s_Lis_give) (defScope s_Lis_give) .none kV44 dc44 pm44 an44 cd44 ct44,
    F_Lis_give := F44,
    b_Lis_give := B44,
    m_Lis_give := PySem.W.mg_of X G a44,
    f_Lis_move := f45,
    fd_Lis_move := PySem.W.fnOf "_law_is_move" "_law_is_move" (defArgs s_Lis_move) (defBody s_Lis_move) (defScope s_Lis_move) .none kV45 dc45 pm45 an45 cd45 ct45,
    F_Lis_move := F45,
    b_Lis_move := B45,
    m_Lis_move := PySem.W.mg_of X G a45,
    f_Ltakes := f46,
    fd_Ltakes := PySem.W.fnOf "_law_takes" "_law_takes" (defArgs s_Ltakes) (defBody s_Ltakes) (defScope s_Ltakes) .none kV46 dc46 pm46 an46 cd46 ct46,
    F_Ltakes := F46,
    b_Ltakes := B46,
    m_Ltakes := PySem.W.mg_of X G a46,
    f_Lgives := f47,
    fd_Lgives := PySem.W.fnOf "_law_gives" "_law_gives" (defArgs s_Lgives) (defBody s_Lgives) (defScope s_Lgives) .none kV47 dc47 pm47 an47 cd47 ct47,
    F_Lgives := F47,
    b_Lgives := B47,
    m_Lgives := PySem.W.mg_of X G a47,
    f_Lmoves := f48,
    fd_Lmoves := PySem.W.fnOf "_law_moves" "_law_moves" (defArgs s_Lmoves) (defBody s_Lmoves) (defScope s_Lmoves) .none kV48 dc48 pm48 an48 cd48 ct48,
    F_Lmoves := F48,
    b_Lmoves := B48,
    m_Lmoves := PySem.W.mg_of X G a48,
    f_Llifts := f49,
    fd_Llifts := PySem.W.fnOf "_law_lifts" "_law_lifts" (defArgs s_Llifts) (defBody s_Llifts) (defScope s_Llifts) .none kV49 dc49 pm49 an49 cd49 ct49,
    F_Llifts := F49,
    b_Llifts := B49,
    m_Llifts := PySem.W.mg_of X G a49,
    f_Lbook := f50,
    fd_Lbook := PySem.W.fnOf "_law_book" "_law_book" (defArgs s_Lbook) (defBody s_Lbook) (defScope s_Lbook) .none kV50 dc50 pm50 an50 cd50 ct50,
    F_Lbook := F50,
    b_Lbook := B50,
    m_Lbook := PySem.W.mg_of X G a50,
    f_Lmixed := f51,
    fd_Lmixed := PySem.W.fnOf "_law_mixed" "_law_mixed" (defArgs s_Lmixed) (defBody s_Lmixed) (defScope s_Lmixed) .none kV51 dc51 pm51 an51 cd51 ct51,
    F_Lmixed := F51,
    b_Lmixed := B51,
    m_Lmixed := PySem.W.mg_of X G a51,
    f_Lkinds_of := f52,
    fd_Lkinds_of := PySem.W.fnOf "_law_kinds_of" "_law_kinds_of" (defArgs s_Lkinds_of) (defBody s_Lkinds_of) (defScope s_Lkinds_of) .none kV52 dc52 pm52 an52 cd52 ct52,
    F_Lkinds_of := F52,
    b_Lkinds_of := B52,
    m_Lkinds_of := PySem.W.mg_of X G a52,
    f_Ltext := f53,
    fd_Ltext := PySem.W.fnOf "_law_text" "_law_text" (defArgs s_Ltext) (defBody s_Ltext) (defScope s_Ltext) .none kV53 dc53 pm53 an53 cd53 ct53,
    F_Ltext := F53,
    b_Ltext := B53,
    m_Ltext := PySem.W.mg_of X G a53,
    f_Lany_rules := f54,
    fd_Lany_rules := PySem.W.fnOf "_law_any_rules" "_law_any_rules" (defArgs s_Lany_rules) (defBody s_Lany_rules) (defScope s_Lany_rules) .none kV54 dc54 pm54 an54 cd54 ct54,
    F_Lany_rules := F54,
    b_Lany_rules := B54,
    m_Lany_rules := PySem.W.mg_of X G a54,
    f_Lturned_rules := f55,
    fd_Lturned_rules := PySem.W.fnOf "_law_turned_rules" "_law_turned_rules" (defArgs s_Lturned_rules) (defBody s_Lturned_rules) (defScope s_Lturned_rules) .none kV55 dc55 pm55 an55 cd55 ct55,
    F_Lturned_rules := F55,
    b_Lturned_rules := B55,
    m_Lturned_rules := PySem.W.mg_of X G a55,
    f_Ltold := f56,
    fd_Ltold := PySem.W.fnOf "_law_told" "_law_told" (defArgs s_Ltold) (defBody s_Ltold) (defScope s_Ltold) .none kV56 dc56 pm56 an56 cd56 ct56,
    F_Ltold := F56,
    b_Ltold := B56,
    m_Ltold := PySem.W.mg_of X G a56,
    f_Lboth_ways := f57,
    fd_Lboth_ways := PySem.W.fnOf "_law_both_ways" "_law_both_ways" (defArgs s_Lboth_ways) (defBody s_Lboth_ways) (defScope s_Lboth_ways) .none kV57 dc57 pm57 an57 cd57 ct57,
    F_Lboth_ways := F57,
    b_Lboth_ways := B57,
    m_Lboth_ways := PySem.W.mg_of X G a57,
    f_Lchanged := f58,
    fd_Lchanged := PySem.W.fnOf "_law_changed" "_law_changed" (defArgs s_Lchanged) (defBody s_Lchanged) (defScope s_Lchanged) .none kV58 dc58 pm58 an58 cd58 ct58,
    F_Lchanged := F58,
    b_Lchanged := B58,
    m_Lchanged := PySem.W.mg_of X G a58,
    f_Lright := f59,
    fd_Lright := PySem.W.fnOf "_law_right" "_law_right" (defArgs s_Lright) (defBody s_Lright) (defScope s_Lright) .none kV59 dc59 pm59 an59 cd59 ct59,
    F_Lright := F59,
    b_Lright := B59,
    m_Lright := PySem.W.mg_of X G a59,
    f_law := fa,
    fd_law := PySem.W.fnOf "law" "law" (defArgs s_law) (defBody s_law) (defScope s_law) .none kV60 dc60 pm60 an60 cd60 ct60,
    F_law := F60,
    b_law := B60,
    m_law := PySem.W.mg_of X G a60,
    z_abs := PySem.W.mg_none_of X G z_abs,
    z_all := PySem.W.mg_none_of X G z_all,
    z_bool := PySem.W.mg_none_of X G z_bool,
    z_dict := PySem.W.mg_none_of X G z_dict,
    z_divmod := PySem.W.mg_none_of X G z_divmod,
    z_enumerate := PySem.W.mg_none_of X G z_enumerate,
    z_int := PySem.W.mg_none_of X G z_int,
    z_isinstance := PySem.W.mg_none_of X G z_isinstance,
    z_len := PySem.W.mg_none_of X G z_len,
    z_list := PySem.W.mg_none_of X G z_list,
    z_max := PySem.W.mg_none_of X G z_max,
    z_min := PySem.W.mg_none_of X G z_min,
    z_range := PySem.W.mg_none_of X G z_range,
    z_repr := PySem.W.mg_none_of X G z_repr,
    z_set := PySem.W.mg_none_of X G z_set,
    z_str := PySem.W.mg_none_of X G z_str,
    z_tuple := PySem.W.mg_none_of X G z_tuple,
    t_MOST_BATCH := t_MOST_BATCH,
    m_MOST_BATCH := PySem.W.mg_of X G g_MOST_BATCH,
    t_DIGITS := t_DIGITS,
    m_DIGITS := PySem.W.mg_of X G g_DIGITS,
    g_FAILS := T_FAILS,
    m_FAILS := PySem.W.mg_of X G g_FAILS,
    s_FAILS := fun H => .inr ⟨_, _, _, h_T_FAILS, rfl, rfl, (by show 3 ≤ sizeLine; decide), .cons ⟨_, rfl⟩ (.cons ⟨_, rfl⟩ (.cons ⟨_, rfl⟩ (.nil)))⟩,
    g_LINES := T_LINES,
    m_LINES := PySem.W.mg_of X G g_LINES,
    s_LINES := fun H => .inr ⟨_, _, _, h_T_LINES, rfl, rfl, (by show 8 ≤ sizeLine; decide), .cons ⟨_, rfl⟩ (.cons ⟨_, rfl⟩ (.cons ⟨_, rfl⟩ (.cons ⟨_, rfl⟩ (.cons ⟨_, rfl⟩ (.cons ⟨_, rfl⟩ (.cons ⟨_, rfl⟩ (.cons ⟨_, rfl⟩ (.nil))))))))⟩,
    g_ROW_KINDS := T_ROW_KINDS,
    m_ROW_KINDS := PySem.W.mg_of X G g_ROW_KINDS,
    s_ROW_KINDS := fun H => .inr ⟨_, _, _, h_T_ROW_KINDS, rfl, rfl, (by show 4 ≤ sizeLine; decide), .cons ⟨_, rfl⟩ (.cons ⟨_, rfl⟩ (.cons ⟨_, rfl⟩ (.cons ⟨_, rfl⟩ (.nil))))⟩,
    g_SETTLES_WORDS := T_SETTLES_WORDS,
    m_SETTLES_WORDS := PySem.W.mg_of X G g_SETTLES_WORDS,
    s_SETTLES_WORDS := fun H => .inr ⟨_, _, _, h_T_SETTLES_WORDS, rfl, rfl, (by show 2 ≤ sizeLine; decide), .cons ⟨_, rfl⟩ (.cons ⟨_, rfl⟩ (.nil))⟩,
    g_SHARED_WORDS := T_SHARED_WORDS,
    m_SHARED_WORDS := PySem.W.mg_of X G g_SHARED_WORDS,
    s_SHARED_WORDS := fun H => .inr ⟨_, _, _, h_T_SHARED_WORDS, rfl, rfl, (by show 2 ≤ sizeLine; decide), .cons ⟨_, rfl⟩ (.cons ⟨_, rfl⟩ (.nil))⟩,
    g_LIFT_ROWS := T_LIFT_ROWS,
    m_LIFT_ROWS := PySem.W.mg_of X G g_LIFT_ROWS,
    g0_LIFT_ROWS := T0_LIFT_ROWS,
    s0_LIFT_ROWS := fun H => .inr ⟨_, _, _, h_T0_LIFT_ROWS, rfl, rfl, (by show 0 ≤ sizeLine; decide), .nil⟩,
    g1_LIFT_ROWS := T1_LIFT_ROWS,
    s1_LIFT_ROWS := fun H => .inr ⟨_, _, _, h_T1_LIFT_ROWS, rfl, rfl, (by show 1 ≤ sizeLine; decide), .cons ⟨_, rfl⟩ (.nil)⟩,
    g2_LIFT_ROWS := T2_LIFT_ROWS,
    s2_LIFT_ROWS := fun H => .inr ⟨_, _, _, h_T2_LIFT_ROWS, rfl, rfl, (by show 1 ≤ sizeLine; decide), .cons ⟨_, rfl⟩ (.nil)⟩,
    g3_LIFT_ROWS := T3_LIFT_ROWS,
    s3_LIFT_ROWS := fun H => .inr ⟨_, _, _, h_T3_LIFT_ROWS, rfl, rfl, (by show 2 ≤ sizeLine; decide), .cons ⟨_, rfl⟩ (.cons ⟨_, rfl⟩ (.nil))⟩,
    g4_LIFT_ROWS := T4_LIFT_ROWS,
    s4_LIFT_ROWS := fun H => .inr ⟨_, _, _, h_T4_LIFT_ROWS, rfl, rfl, (by show 2 ≤ sizeLine; decide), .cons ⟨_, rfl⟩ (.cons ⟨_, rfl⟩ (.nil))⟩,
    g5_LIFT_ROWS := T5_LIFT_ROWS,
    s5_LIFT_ROWS := fun H => .inr ⟨_, _, _, h_T5_LIFT_ROWS, rfl, rfl, (by show 1 ≤ sizeLine; decide), .cons ⟨_, rfl⟩ (.nil)⟩,
    s_LIFT_ROWS := fun H => .inr ⟨_, _, _, h_T_LIFT_ROWS, rfl, rfl, (by show 6 ≤ sizeLine; decide), .cons rfl (.cons rfl (.cons rfl (.cons rfl (.cons rfl (.cons rfl (.nil))))))⟩,
    g_ROW_CHECKS := T_ROW_CHECKS,
    m_ROW_CHECKS := PySem.W.mg_of X G g_ROW_CHECKS,
    k_ROW_CHECKS_take := ⟨_, _, _, h_ROW_CHECKS, y_ROW_CHECKS, x_ROW_CHECKS_take, rfl⟩,
    k_ROW_CHECKS_give := ⟨_, _, _, h_ROW_CHECKS, y_ROW_CHECKS, x_ROW_CHECKS_give, rfl⟩,
    k_ROW_CHECKS_move := ⟨_, _, _, h_ROW_CHECKS, y_ROW_CHECKS, x_ROW_CHECKS_move, rfl⟩,
    k_ROW_CHECKS_lift := ⟨_, _, _, h_ROW_CHECKS, y_ROW_CHECKS, x_ROW_CHECKS_lift, rfl⟩,
    own := ⟨ow_ls, ow_tp, ow_dc, ow_st, ow_bo, ow_no⟩ }
  exact ⟨T.fd_law, fun s v => .of_eq rfl, fun base _ _ => ok_text T⟩
end My
namespace Hd
open PySem PySem.Spec PyProof.Rows L2 GL My
theorem all_hk {l : PySem.W.OpenLaw} {w : World} {K : PySem.W.Frag} {h : Heap} {mg : Str → Option Value} {fa : Addr} (X : K.In h) (G : h.Ns mainGlobals mg) (hfa : mg "law" = some (.ref fa)) (c : HK.Says ats fvs tbs ex w K) : ∃ fd : FuncData, (∀ (s : Shared) (v : Value), BindsTo s fd ⟨[v], []⟩ [("_law_script", v)]) ∧ ∀ base : Heap, K.In base → base.Ns mainGlobals mg → FnG l.prog w K mg base CX0 12 fa fd ["_law_script"] (sp_law K) := by
  have aC : PySem.W.nsIn K mainGlobals "Book" = some (some (.ref (aa_C K))) := HK.eqB_ok (c.fact 0)
  have pg : PySem.W.plainGet K (aa_C K) Str.empty = true := c.fact 1
  have hd : PySem.W.hasDictIn K (aa_C K) = true := c.fact 2
  have po : PySem.W.plainOver K (aa_C K) = true := c.fact 3
  have sa : PySem.W.findIn K (.ref (aa_C K)) "__setattr__" = some (some (.builtin "object.__setattr__")) := HK.eqB_ok (c.fact 4)
  have mk : PySem.W.makesIn K (aa_C K) = true := c.fact 5
  have kc : PySem.W.keepIn K (.ref (aa_C K)) = true := c.fact 6
  have n_parts : PySem.W.findIn K (.ref (aa_C K)) "_parts" = some none := HK.eqB_ok (c.fact 7)
  have x_class : PySem.W.findIn K (.ref (aa_C K)) "__class__" = some (some (.builtin "object.__class__")) := HK.eqB_ok (c.fact 8)
  have x_get : PySem.W.specialIn K (.builtin "object.__class__") "__get__" = some (some (.builtin "getset_descriptor.__get__")) := HK.eqB_ok (c.fact 9)
  have x_tk : PySem.W.takesIn K (.builtin "object.__class__") = some true := HK.eqB_ok (c.fact 10)
  have x_mro : PySem.W.mroIn K (aa_C K) (.type "object") = some true := HK.eqB_ok (c.fact 11)
  have x_ne : PySem.W.findIn K (.ref (aa_C K)) "__ne__" = some (some (.builtin "object.__ne__")) := HK.eqB_ok (c.fact 12)
  have x_cls : PySem.W.isClsIn K (aa_C K) = true := c.fact 13
  have x_ty : PySem.W.typeIn K (.ref (aa_C K)) = some (.type "type") := HK.eqB_ok (c.fact 14)
  have a1 : PySem.W.nsIn K mainGlobals "is_an_integer" = some (some (.ref (aa_f1 K))) := HK.eqB_ok (c.fact 15)
  obtain ⟨oc1, od1, kV1, dc1, pm1, an1, cd1, ct1, sl1, l1, c1⟩ := HK.f_ok (c.fn 0) (c.fact 16)
  have k1 : PySem.W.keepIn K (.ref (aa_f1 K)) = true := c.fact 17
  have a2 : PySem.W.nsIn K mainGlobals "is_list" = some (some (.ref (aa_f2 K))) := HK.eqB_ok (c.fact 18)
  obtain ⟨oc2, od2, kV2, dc2, pm2, an2, cd2, ct2, sl2, l2, c2⟩ := HK.f_ok (c.fn 1) (c.fact 19)
  have k2 : PySem.W.keepIn K (.ref (aa_f2 K)) = true := c.fact 20
  have a3 : PySem.W.nsIn K mainGlobals "is_word" = some (some (.ref (aa_f3 K))) := HK.eqB_ok (c.fact 21)
  obtain ⟨oc3, od3, kV3, dc3, pm3, an3, cd3, ct3, sl3, l3, c3⟩ := HK.f_ok (c.fn 2) (c.fact 22)
  have k3 : PySem.W.keepIn K (.ref (aa_f3 K)) = true := c.fact 23
  have a4 : PySem.W.nsIn K mainGlobals "are_different_words" = some (some (.ref (aa_f4 K))) := HK.eqB_ok (c.fact 24)
  obtain ⟨oc4, od4, kV4, dc4, pm4, an4, cd4, ct4, sl4, l4, c4⟩ := HK.f_ok (c.fn 3) (c.fact 25)
  have k4 : PySem.W.keepIn K (.ref (aa_f4 K)) = true := c.fact 26
  have a5 : PySem.W.nsIn K mainGlobals "has_words_of" = some (some (.ref (aa_f5 K))) := HK.eqB_ok (c.fact 27)
  obtain ⟨oc5, od5, kV5, dc5, pm5, an5, cd5, ct5, sl5, l5, c5⟩ := HK.f_ok (c.fn 4) (c.fact 28)
  have k5 : PySem.W.keepIn K (.ref (aa_f5 K)) = true := c.fact 29
  have a6 : PySem.W.nsIn K mainGlobals "tests_are_ahead" = some (some (.ref (aa_f6 K))) := HK.eqB_ok (c.fact 30)
  obtain ⟨oc6, od6, kV6, dc6, pm6, an6, cd6, ct6, sl6, l6, c6⟩ := HK.f_ok (c.fn 5) (c.fact 31)
  have k6 : PySem.W.keepIn K (.ref (aa_f6 K)) = true := c.fact 32
  have a7 : PySem.W.nsIn K mainGlobals "off_has_home" = some (some (.ref (aa_f7 K))) := HK.eqB_ok (c.fact 33)
  obtain ⟨oc7, od7, kV7, dc7, pm7, an7, cd7, ct7, sl7, l7, c7⟩ := HK.f_ok (c.fn 6) (c.fact 34)
  have k7 : PySem.W.keepIn K (.ref (aa_f7 K)) = true := c.fact 35
  have a8 : PySem.W.nsIn K mainGlobals "is_take_row" = some (some (.ref (aa_f8 K))) := HK.eqB_ok (c.fact 36)
  obtain ⟨oc8, od8, kV8, dc8, pm8, an8, cd8, ct8, sl8, l8, c8⟩ := HK.f_ok (c.fn 7) (c.fact 37)
  have k8 : PySem.W.keepIn K (.ref (aa_f8 K)) = true := c.fact 38
  have a9 : PySem.W.nsIn K mainGlobals "is_give_row" = some (some (.ref (aa_f9 K))) := HK.eqB_ok (c.fact 39)
  obtain ⟨oc9, od9, kV9, dc9, pm9, an9, cd9, ct9, sl9, l9, c9⟩ := HK.f_ok (c.fn 8) (c.fact 40)
  have k9 : PySem.W.keepIn K (.ref (aa_f9 K)) = true := c.fact 41
  have a10 : PySem.W.nsIn K mainGlobals "is_move_row" = some (some (.ref (aa_f10 K))) := HK.eqB_ok (c.fact 42)
  obtain ⟨oc10, od10, kV10, dc10, pm10, an10, cd10, ct10, sl10, l10, c10⟩ := HK.f_ok (c.fn 9) (c.fact 43)
  have k10 : PySem.W.keepIn K (.ref (aa_f10 K)) = true := c.fact 44
  have a11 : PySem.W.nsIn K mainGlobals "is_lift_row" = some (some (.ref (aa_f11 K))) := HK.eqB_ok (c.fact 45)
  obtain ⟨oc11, od11, kV11, dc11, pm11, an11, cd11, ct11, sl11, l11, c11⟩ := HK.f_ok (c.fn 10) (c.fact 46)
  have k11 : PySem.W.keepIn K (.ref (aa_f11 K)) = true := c.fact 47
  have a12 : PySem.W.nsIn K mainGlobals "is_row" = some (some (.ref (aa_f12 K))) := HK.eqB_ok (c.fact 48)
  obtain ⟨oc12, od12, kV12, dc12, pm12, an12, cd12, ct12, sl12, l12, c12⟩ := HK.f_ok (c.fn 11) (c.fact 49)
  have k12 : PySem.W.keepIn K (.ref (aa_f12 K)) = true := c.fact 50
  have a13 : PySem.W.nsIn K mainGlobals "fits_batch" = some (some (.ref (aa_f13 K))) := HK.eqB_ok (c.fact 51)
  obtain ⟨oc13, od13, kV13, dc13, pm13, an13, cd13, ct13, sl13, l13, c13⟩ := HK.f_ok (c.fn 12) (c.fact 52)
  have k13 : PySem.W.keepIn K (.ref (aa_f13 K)) = true := c.fact 53
  have a14 : PySem.W.nsIn K mainGlobals "fits_shared" = some (some (.ref (aa_f14 K))) := HK.eqB_ok (c.fact 54)
  obtain ⟨oc14, od14, kV14, dc14, pm14, an14, cd14, ct14, sl14, l14, c14⟩ := HK.f_ok (c.fn 13) (c.fact 55)
  have k14 : PySem.W.keepIn K (.ref (aa_f14 K)) = true := c.fact 56
  have a15 : PySem.W.nsIn K mainGlobals "check_rows" = some (some (.ref (aa_f15 K))) := HK.eqB_ok (c.fact 57)
  obtain ⟨oc15, od15, kV15, dc15, pm15, an15, cd15, ct15, sl15, l15, c15⟩ := HK.f_ok (c.fn 14) (c.fact 58)
  have k15 : PySem.W.keepIn K (.ref (aa_f15 K)) = true := c.fact 59
  have a16 : PySem.W.nsIn K mainGlobals "check_fails" = some (some (.ref (aa_f16 K))) := HK.eqB_ok (c.fact 60)
  obtain ⟨oc16, od16, kV16, dc16, pm16, an16, cd16, ct16, sl16, l16, c16⟩ := HK.f_ok (c.fn 15) (c.fact 61)
  have k16 : PySem.W.keepIn K (.ref (aa_f16 K)) = true := c.fact 62
  have a17 : PySem.W.nsIn K mainGlobals "check_bool" = some (some (.ref (aa_f17 K))) := HK.eqB_ok (c.fact 63)
  obtain ⟨oc17, od17, kV17, dc17, pm17, an17, cd17, ct17, sl17, l17, c17⟩ := HK.f_ok (c.fn 16) (c.fact 64)
  have k17 : PySem.W.keepIn K (.ref (aa_f17 K)) = true := c.fact 65
  have a18 : PySem.W.nsIn K mainGlobals "check_holds" = some (some (.ref (aa_f18 K))) := HK.eqB_ok (c.fact 66)
  obtain ⟨oc18, od18, kV18, dc18, pm18, an18, cd18, ct18, sl18, l18, c18⟩ := HK.f_ok (c.fn 17) (c.fact 67)
  have k18 : PySem.W.keepIn K (.ref (aa_f18 K)) = true := c.fact 68
  have a19 : PySem.W.nsIn K mainGlobals "check_batch" = some (some (.ref (aa_f19 K))) := HK.eqB_ok (c.fact 69)
  obtain ⟨oc19, od19, kV19, dc19, pm19, an19, cd19, ct19, sl19, l19, c19⟩ := HK.f_ok (c.fn 18) (c.fact 70)
  have k19 : PySem.W.keepIn K (.ref (aa_f19 K)) = true := c.fact 71
  have a20 : PySem.W.nsIn K mainGlobals "check_row_kind" = some (some (.ref (aa_f20 K))) := HK.eqB_ok (c.fact 72)
  obtain ⟨oc20, od20, kV20, dc20, pm20, an20, cd20, ct20, sl20, l20, c20⟩ := HK.f_ok (c.fn 19) (c.fact 73)
  have k20 : PySem.W.keepIn K (.ref (aa_f20 K)) = true := c.fact 74
  have a21 : PySem.W.findIn K (.ref (aa_C K)) "__init__" = some (some (.ref (aa_f21 K))) := HK.eqB_ok (c.fact 75)
  have i21 : PySem.W.isFn K (.ref (aa_f21 K)) = true := c.fact 76
  obtain ⟨oc21, od21, kV21, dc21, pm21, an21, cd21, ct21, sl21, l21, c21⟩ := HK.f_ok (c.fn 20) (c.fact 77)
  have k21 : PySem.W.keepIn K (.ref (aa_f21 K)) = true := c.fact 78
  have a22 : PySem.W.findIn K (.ref (aa_C K)) "__eq__" = some (some (.ref (aa_f22 K))) := HK.eqB_ok (c.fact 79)
  have i22 : PySem.W.isFn K (.ref (aa_f22 K)) = true := c.fact 80
  obtain ⟨oc22, od22, kV22, dc22, pm22, an22, cd22, ct22, sl22, l22, c22⟩ := HK.f_ok (c.fn 21) (c.fact 81)
  have k22 : PySem.W.keepIn K (.ref (aa_f22 K)) = true := c.fact 82
  have a23 : PySem.W.findIn K (.ref (aa_C K)) "__repr__" = some (some (.ref (aa_f23 K))) := HK.eqB_ok (c.fact 83)
  have i23 : PySem.W.isFn K (.ref (aa_f23 K)) = true := c.fact 84
  obtain ⟨oc23, od23, kV23, dc23, pm23, an23, cd23, ct23, sl23, l23, c23⟩ := HK.f_ok (c.fn 22) (c.fact 85)
  have k23 : PySem.W.keepIn K (.ref (aa_f23 K)) = true := c.fact 86
  have a24 : PySem.W.findIn K (.ref (aa_C K)) "fails" = some (some (.ref (aa_pr24 K))) := HK.eqB_ok (c.fact 87)
  have pA24 : PySem.W.specialIn K (.ref (aa_pr24 K)) "__get__" = some (some (.builtin "property.__get__")) := HK.eqB_ok (c.fact 88)
  have pB24 : PySem.W.takesIn K (.ref (aa_pr24 K)) = some true := HK.eqB_ok (c.fact 89)
  obtain ⟨pl24, pC24⟩ := HK.pf_ok (c.fact 90)
  obtain ⟨oc24, od24, kV24, dc24, pm24, an24, cd24, ct24, sl24, l24, c24⟩ := HK.f_ok (c.fn 23) (c.fact 91)
  have k24 : PySem.W.keepIn K (.ref (aa_f24 K)) = true := c.fact 92
  have a25 : PySem.W.findIn K (.ref (aa_C K)) "shared" = some (some (.ref (aa_pr25 K))) := HK.eqB_ok (c.fact 93)
  have pA25 : PySem.W.specialIn K (.ref (aa_pr25 K)) "__get__" = some (some (.builtin "property.__get__")) := HK.eqB_ok (c.fact 94)
  have pB25 : PySem.W.takesIn K (.ref (aa_pr25 K)) = some true := HK.eqB_ok (c.fact 95)
  obtain ⟨pl25, pC25⟩ := HK.pf_ok (c.fact 96)
  obtain ⟨oc25, od25, kV25, dc25, pm25, an25, cd25, ct25, sl25, l25, c25⟩ := HK.f_ok (c.fn 24) (c.fact 97)
  have k25 : PySem.W.keepIn K (.ref (aa_f25 K)) = true := c.fact 98
  have a26 : PySem.W.findIn K (.ref (aa_C K)) "holds" = some (some (.ref (aa_pr26 K))) := HK.eqB_ok (c.fact 99)
  have pA26 : PySem.W.specialIn K (.ref (aa_pr26 K)) "__get__" = some (some (.builtin "property.__get__")) := HK.eqB_ok (c.fact 100)
  have pB26 : PySem.W.takesIn K (.ref (aa_pr26 K)) = some true := HK.eqB_ok (c.fact 101)
  obtain ⟨pl26, pC26⟩ := HK.pf_ok (c.fact 102)
  obtain ⟨oc26, od26, kV26, dc26, pm26, an26, cd26, ct26, sl26, l26, c26⟩ := HK.f_ok (c.fn 25) (c.fact 103)
  have k26 : PySem.W.keepIn K (.ref (aa_f26 K)) = true := c.fact 104
  have a27 : PySem.W.findIn K (.ref (aa_C K)) "batch" = some (some (.ref (aa_pr27 K))) := HK.eqB_ok (c.fact 105)
  have pA27 : PySem.W.specialIn K (.ref (aa_pr27 K)) "__get__" = some (some (.builtin "property.__get__")) := HK.eqB_ok (c.fact 106)
  have pB27 : PySem.W.takesIn K (.ref (aa_pr27 K)) = some true := HK.eqB_ok (c.fact 107)
  obtain ⟨pl27, pC27⟩ := HK.pf_ok (c.fact 108)
  obtain ⟨oc27, od27, kV27, dc27, pm27, an27, cd27, ct27, sl27, l27, c27⟩ := HK.f_ok (c.fn 26) (c.fact 109)
  have k27 : PySem.W.keepIn K (.ref (aa_f27 K)) = true := c.fact 110
  have a28 : PySem.W.findIn K (.ref (aa_C K)) "settles" = some (some (.ref (aa_pr28 K))) := HK.eqB_ok (c.fact 111)
  have pA28 : PySem.W.specialIn K (.ref (aa_pr28 K)) "__get__" = some (some (.builtin "property.__get__")) := HK.eqB_ok (c.fact 112)
  have pB28 : PySem.W.takesIn K (.ref (aa_pr28 K)) = some true := HK.eqB_ok (c.fact 113)
  obtain ⟨pl28, pC28⟩ := HK.pf_ok (c.fact 114)
  obtain ⟨oc28, od28, kV28, dc28, pm28, an28, cd28, ct28, sl28, l28, c28⟩ := HK.f_ok (c.fn 27) (c.fact 115)
  have k28 : PySem.W.keepIn K (.ref (aa_f28 K)) = true := c.fact 116
  have a29 : PySem.W.findIn K (.ref (aa_C K)) "row" = some (some (.ref (aa_f29 K))) := HK.eqB_ok (c.fact 117)
  have i29 : PySem.W.isFn K (.ref (aa_f29 K)) = true := c.fact 118
  obtain ⟨oc29, od29, kV29, dc29, pm29, an29, cd29, ct29, sl29, l29, c29⟩ := HK.f_ok (c.fn 28) (c.fact 119)
  have k29 : PySem.W.keepIn K (.ref (aa_f29 K)) = true := c.fact 120
  have a30 : PySem.W.nsIn K mainGlobals "is_between" = some (some (.ref (aa_f30 K))) := HK.eqB_ok (c.fact 121)
  obtain ⟨oc30, od30, kV30, dc30, pm30, an30, cd30, ct30, sl30, l30, c30⟩ := HK.f_ok (c.fn 29) (c.fact 122)
  have k30 : PySem.W.keepIn K (.ref (aa_f30 K)) = true := c.fact 123
  have a31 : PySem.W.nsIn K mainGlobals "is_numeral" = some (some (.ref (aa_f31 K))) := HK.eqB_ok (c.fact 124)
  obtain ⟨oc31, od31, kV31, dc31, pm31, an31, cd31, ct31, sl31, l31, c31⟩ := HK.f_ok (c.fn 30) (c.fact 125)
  have k31 : PySem.W.keepIn K (.ref (aa_f31 K)) = true := c.fact 126
  have a32 : PySem.W.nsIn K mainGlobals "line_from" = some (some (.ref (aa_f32 K))) := HK.eqB_ok (c.fact 127)
  obtain ⟨oc32, od32, kV32, dc32, pm32, an32, cd32, ct32, sl32, l32, c32⟩ := HK.f_ok (c.fn 31) (c.fact 128)
  have k32 : PySem.W.keepIn K (.ref (aa_f32 K)) = true := c.fact 129
  have a33 : PySem.W.nsIn K mainGlobals "text_of" = some (some (.ref (aa_f33 K))) := HK.eqB_ok (c.fact 130)
  obtain ⟨oc33, od33, kV33, dc33, pm33, an33, cd33, ct33, sl33, l33, c33⟩ := HK.f_ok (c.fn 32) (c.fact 131)
  have k33 : PySem.W.keepIn K (.ref (aa_f33 K)) = true := c.fact 132
  have a34 : PySem.W.nsIn K mainGlobals "read_holds" = some (some (.ref (aa_f34 K))) := HK.eqB_ok (c.fact 133)
  obtain ⟨oc34, od34, kV34, dc34, pm34, an34, cd34, ct34, sl34, l34, c34⟩ := HK.f_ok (c.fn 33) (c.fact 134)
  have k34 : PySem.W.keepIn K (.ref (aa_f34 K)) = true := c.fact 135
  have a35 : PySem.W.nsIn K mainGlobals "read_part" = some (some (.ref (aa_f35 K))) := HK.eqB_ok (c.fact 136)
  obtain ⟨oc35, od35, kV35, dc35, pm35, an35, cd35, ct35, sl35, l35, c35⟩ := HK.f_ok (c.fn 34) (c.fact 137)
  have k35 : PySem.W.keepIn K (.ref (aa_f35 K)) = true := c.fact 138
  have a36 : PySem.W.nsIn K mainGlobals "read_line" = some (some (.ref (aa_f36 K))) := HK.eqB_ok (c.fact 139)
  obtain ⟨oc36, od36, kV36, dc36, pm36, an36, cd36, ct36, sl36, l36, c36⟩ := HK.f_ok (c.fn 35) (c.fact 140)
  have k36 : PySem.W.keepIn K (.ref (aa_f36 K)) = true := c.fact 141
  have a37 : PySem.W.nsIn K mainGlobals "read_book" = some (some (.ref (aa_f37 K))) := HK.eqB_ok (c.fact 142)
  obtain ⟨oc37, od37, kV37, dc37, pm37, an37, cd37, ct37, sl37, l37, c37⟩ := HK.f_ok (c.fn 36) (c.fact 143)
  have k37 : PySem.W.keepIn K (.ref (aa_f37 K)) = true := c.fact 144
  have a38 : PySem.W.nsIn K mainGlobals "_law_pot" = some (some (.ref (aa_f38 K))) := HK.eqB_ok (c.fact 145)
  obtain ⟨oc38, od38, kV38, dc38, pm38, an38, cd38, ct38, sl38, l38, c38⟩ := HK.f_ok (c.fn 37) (c.fact 146)
  have k38 : PySem.W.keepIn K (.ref (aa_f38 K)) = true := c.fact 147
  have a39 : PySem.W.nsIn K mainGlobals "_law_draw" = some (some (.ref (aa_f39 K))) := HK.eqB_ok (c.fact 148)
  obtain ⟨oc39, od39, kV39, dc39, pm39, an39, cd39, ct39, sl39, l39, c39⟩ := HK.f_ok (c.fn 38) (c.fact 149)
  have k39 : PySem.W.keepIn K (.ref (aa_f39 K)) = true := c.fact 150
  have a40 : PySem.W.nsIn K mainGlobals "_law_pick" = some (some (.ref (aa_f40 K))) := HK.eqB_ok (c.fact 151)
  obtain ⟨oc40, od40, kV40, dc40, pm40, an40, cd40, ct40, sl40, l40, c40⟩ := HK.f_ok (c.fn 39) (c.fact 152)
  have k40 : PySem.W.keepIn K (.ref (aa_f40 K)) = true := c.fact 153
  have a41 : PySem.W.nsIn K mainGlobals "_law_sequences" = some (some (.ref (aa_f41 K))) := HK.eqB_ok (c.fact 154)
  obtain ⟨oc41, od41, kV41, dc41, pm41, an41, cd41, ct41, sl41, l41, c41⟩ := HK.f_ok (c.fn 40) (c.fact 155)
  have k41 : PySem.W.keepIn K (.ref (aa_f41 K)) = true := c.fact 156
  have a42 : PySem.W.nsIn K mainGlobals "_law_is_ahead" = some (some (.ref (aa_f42 K))) := HK.eqB_ok (c.fact 157)
  obtain ⟨oc42, od42, kV42, dc42, pm42, an42, cd42, ct42, sl42, l42, c42⟩ := HK.f_ok (c.fn 41) (c.fact 158)
  have k42 : PySem.W.keepIn K (.ref (aa_f42 K)) = true := c.fact 159
  have a43 : PySem.W.nsIn K mainGlobals "_law_is_take" = some (some (.ref (aa_f43 K))) := HK.eqB_ok (c.fact 160)
  obtain ⟨oc43, od43, kV43, dc43, pm43, an43, cd43, ct43, sl43, l43, c43⟩ := HK.f_ok (c.fn 42) (c.fact 161)
  have k43 : PySem.W.keepIn K (.ref (aa_f43 K)) = true := c.fact 162
  have a44 : PySem.W.nsIn K mainGlobals "_law_is_give" = some (some (.ref (aa_f44 K))) := HK.eqB_ok (c.fact 163)
  obtain ⟨oc44, od44, kV44, dc44, pm44, an44, cd44, ct44, sl44, l44, c44⟩ := HK.f_ok (c.fn 43) (c.fact 164)
  have k44 : PySem.W.keepIn K (.ref (aa_f44 K)) = true := c.fact 165
  have a45 : PySem.W.nsIn K mainGlobals "_law_is_move" = some (some (.ref (aa_f45 K))) := HK.eqB_ok (c.fact 166)
  obtain ⟨oc45, od45, kV45, dc45, pm45, an45, cd45, ct45, sl45, l45, c45⟩ := HK.f_ok (c.fn 44) (c.fact 167)
  have k45 : PySem.W.keepIn K (.ref (aa_f45 K)) = true := c.fact 168
  have a46 : PySem.W.nsIn K mainGlobals "_law_takes" = some (some (.ref (aa_f46 K))) := HK.eqB_ok (c.fact 169)
  obtain ⟨oc46, od46, kV46, dc46, pm46, an46, cd46, ct46, sl46, l46, c46⟩ := HK.f_ok (c.fn 45) (c.fact 170)
  have k46 : PySem.W.keepIn K (.ref (aa_f46 K)) = true := c.fact 171
  have a47 : PySem.W.nsIn K mainGlobals "_law_gives" = some (some (.ref (aa_f47 K))) := HK.eqB_ok (c.fact 172)
  obtain ⟨oc47, od47, kV47, dc47, pm47, an47, cd47, ct47, sl47, l47, c47⟩ := HK.f_ok (c.fn 46) (c.fact 173)
  have k47 : PySem.W.keepIn K (.ref (aa_f47 K)) = true := c.fact 174
  have a48 : PySem.W.nsIn K mainGlobals "_law_moves" = some (some (.ref (aa_f48 K))) := HK.eqB_ok (c.fact 175)
  obtain ⟨oc48, od48, kV48, dc48, pm48, an48, cd48, ct48, sl48, l48, c48⟩ := HK.f_ok (c.fn 47) (c.fact 176)
  have k48 : PySem.W.keepIn K (.ref (aa_f48 K)) = true := c.fact 177
  have a49 : PySem.W.nsIn K mainGlobals "_law_lifts" = some (some (.ref (aa_f49 K))) := HK.eqB_ok (c.fact 178)
  obtain ⟨oc49, od49, kV49, dc49, pm49, an49, cd49, ct49, sl49, l49, c49⟩ := HK.f_ok (c.fn 48) (c.fact 179)
  have k49 : PySem.W.keepIn K (.ref (aa_f49 K)) = true := c.fact 180
  have a50 : PySem.W.nsIn K mainGlobals "_law_book" = some (some (.ref (aa_f50 K))) := HK.eqB_ok (c.fact 181)
  obtain ⟨oc50, od50, kV50, dc50, pm50, an50, cd50, ct50, sl50, l50, c50⟩ := HK.f_ok (c.fn 49) (c.fact 182)
  have k50 : PySem.W.keepIn K (.ref (aa_f50 K)) = true := c.fact 183
  have a51 : PySem.W.nsIn K mainGlobals "_law_mixed" = some (some (.ref (aa_f51 K))) := HK.eqB_ok (c.fact 184)
  obtain ⟨oc51, od51, kV51, dc51, pm51, an51, cd51, ct51, sl51, l51, c51⟩ := HK.f_ok (c.fn 50) (c.fact 185)
  have k51 : PySem.W.keepIn K (.ref (aa_f51 K)) = true := c.fact 186
  have a52 : PySem.W.nsIn K mainGlobals "_law_kinds_of" = some (some (.ref (aa_f52 K))) := HK.eqB_ok (c.fact 187)
  obtain ⟨oc52, od52, kV52, dc52, pm52, an52, cd52, ct52, sl52, l52, c52⟩ := HK.f_ok (c.fn 51) (c.fact 188)
  have k52 : PySem.W.keepIn K (.ref (aa_f52 K)) = true := c.fact 189
  have a53 : PySem.W.nsIn K mainGlobals "_law_text" = some (some (.ref (aa_f53 K))) := HK.eqB_ok (c.fact 190)
  obtain ⟨oc53, od53, kV53, dc53, pm53, an53, cd53, ct53, sl53, l53, c53⟩ := HK.f_ok (c.fn 52) (c.fact 191)
  have k53 : PySem.W.keepIn K (.ref (aa_f53 K)) = true := c.fact 192
  have a54 : PySem.W.nsIn K mainGlobals "_law_any_rules" = some (some (.ref (aa_f54 K))) := HK.eqB_ok (c.fact 193)
  obtain ⟨oc54, od54, kV54, dc54, pm54, an54, cd54, ct54, sl54, l54, c54⟩ := HK.f_ok (c.fn 53) (c.fact 194)
  have k54 : PySem.W.keepIn K (.ref (aa_f54 K)) = true := c.fact 195
  have a55 : PySem.W.nsIn K mainGlobals "_law_turned_rules" = some (some (.ref (aa_f55 K))) := HK.eqB_ok (c.fact 196)
  obtain ⟨oc55, od55, kV55, dc55, pm55, an55, cd55, ct55, sl55, l55, c55⟩ := HK.f_ok (c.fn 54) (c.fact 197)
  have k55 : PySem.W.keepIn K (.ref (aa_f55 K)) = true := c.fact 198
  have a56 : PySem.W.nsIn K mainGlobals "_law_told" = some (some (.ref (aa_f56 K))) := HK.eqB_ok (c.fact 199)
  obtain ⟨oc56, od56, kV56, dc56, pm56, an56, cd56, ct56, sl56, l56, c56⟩ := HK.f_ok (c.fn 55) (c.fact 200)
  have k56 : PySem.W.keepIn K (.ref (aa_f56 K)) = true := c.fact 201
  have a57 : PySem.W.nsIn K mainGlobals "_law_both_ways" = some (some (.ref (aa_f57 K))) := HK.eqB_ok (c.fact 202)
  obtain ⟨oc57, od57, kV57, dc57, pm57, an57, cd57, ct57, sl57, l57, c57⟩ := HK.f_ok (c.fn 56) (c.fact 203)
  have k57 : PySem.W.keepIn K (.ref (aa_f57 K)) = true := c.fact 204
  have a58 : PySem.W.nsIn K mainGlobals "_law_changed" = some (some (.ref (aa_f58 K))) := HK.eqB_ok (c.fact 205)
  obtain ⟨oc58, od58, kV58, dc58, pm58, an58, cd58, ct58, sl58, l58, c58⟩ := HK.f_ok (c.fn 57) (c.fact 206)
  have k58 : PySem.W.keepIn K (.ref (aa_f58 K)) = true := c.fact 207
  have a59 : PySem.W.nsIn K mainGlobals "_law_right" = some (some (.ref (aa_f59 K))) := HK.eqB_ok (c.fact 208)
  obtain ⟨oc59, od59, kV59, dc59, pm59, an59, cd59, ct59, sl59, l59, c59⟩ := HK.f_ok (c.fn 58) (c.fact 209)
  have k59 : PySem.W.keepIn K (.ref (aa_f59 K)) = true := c.fact 210
  have a60 : PySem.W.nsIn K mainGlobals "law" = some (some (.ref (aa_f60 K))) := HK.eqB_ok (c.fact 211)
  obtain ⟨oc60, od60, kV60, dc60, pm60, an60, cd60, ct60, sl60, l60, c60⟩ := HK.f_ok (c.fn 59) (c.fact 212)
  have k60 : PySem.W.keepIn K (.ref (aa_f60 K)) = true := c.fact 213
  have z_abs : PySem.W.nsIn K mainGlobals "abs" = some none := HK.eqB_ok (c.fact 214)
  have z_all : PySem.W.nsIn K mainGlobals "all" = some none := HK.eqB_ok (c.fact 215)
  have z_bool : PySem.W.nsIn K mainGlobals "bool" = some none := HK.eqB_ok (c.fact 216)
  have z_dict : PySem.W.nsIn K mainGlobals "dict" = some none := HK.eqB_ok (c.fact 217)
  have z_divmod : PySem.W.nsIn K mainGlobals "divmod" = some none := HK.eqB_ok (c.fact 218)
  have z_enumerate : PySem.W.nsIn K mainGlobals "enumerate" = some none := HK.eqB_ok (c.fact 219)
  have z_int : PySem.W.nsIn K mainGlobals "int" = some none := HK.eqB_ok (c.fact 220)
  have z_isinstance : PySem.W.nsIn K mainGlobals "isinstance" = some none := HK.eqB_ok (c.fact 221)
  have z_len : PySem.W.nsIn K mainGlobals "len" = some none := HK.eqB_ok (c.fact 222)
  have z_list : PySem.W.nsIn K mainGlobals "list" = some none := HK.eqB_ok (c.fact 223)
  have z_max : PySem.W.nsIn K mainGlobals "max" = some none := HK.eqB_ok (c.fact 224)
  have z_min : PySem.W.nsIn K mainGlobals "min" = some none := HK.eqB_ok (c.fact 225)
  have z_range : PySem.W.nsIn K mainGlobals "range" = some none := HK.eqB_ok (c.fact 226)
  have z_repr : PySem.W.nsIn K mainGlobals "repr" = some none := HK.eqB_ok (c.fact 227)
  have z_set : PySem.W.nsIn K mainGlobals "set" = some none := HK.eqB_ok (c.fact 228)
  have z_str : PySem.W.nsIn K mainGlobals "str" = some none := HK.eqB_ok (c.fact 229)
  have z_tuple : PySem.W.nsIn K mainGlobals "tuple" = some none := HK.eqB_ok (c.fact 230)
  obtain ⟨t_MOST_BATCH, g_MOST_BATCH⟩ := HK.ns_int (c.fact 231)
  obtain ⟨t_DIGITS, g_DIGITS⟩ := HK.ns_str (c.fact 232)
  have g_FAILS : PySem.W.nsIn K mainGlobals "FAILS" = some (some (.ref (aa_T_FAILS K))) := HK.eqB_ok (c.fact 233)
  obtain ⟨k0_T_FAILS, k1_T_FAILS, k2_T_FAILS, d_T_FAILS, n_T_FAILS, l_T_FAILS, h_T_FAILS⟩ := HK.seq_is (c.fact 234)
  have g_LINES : PySem.W.nsIn K mainGlobals "LINES" = some (some (.ref (aa_T_LINES K))) := HK.eqB_ok (c.fact 235)
  obtain ⟨k0_T_LINES, k1_T_LINES, k2_T_LINES, k3_T_LINES, k4_T_LINES, k5_T_LINES, k6_T_LINES, k7_T_LINES, d_T_LINES, n_T_LINES, l_T_LINES, h_T_LINES⟩ := HK.seq_is (c.fact 236)
  have g_ROW_KINDS : PySem.W.nsIn K mainGlobals "ROW_KINDS" = some (some (.ref (aa_T_ROW_KINDS K))) := HK.eqB_ok (c.fact 237)
  obtain ⟨k0_T_ROW_KINDS, k1_T_ROW_KINDS, k2_T_ROW_KINDS, k3_T_ROW_KINDS, d_T_ROW_KINDS, n_T_ROW_KINDS, l_T_ROW_KINDS, h_T_ROW_KINDS⟩ := HK.seq_is (c.fact 238)
  have g_SETTLES_WORDS : PySem.W.nsIn K mainGlobals "SETTLES_WORDS" = some (some (.ref (aa_T_SETTLES_WORDS K))) := HK.eqB_ok (c.fact 239)
  obtain ⟨k0_T_SETTLES_WORDS, k1_T_SETTLES_WORDS, d_T_SETTLES_WORDS, n_T_SETTLES_WORDS, l_T_SETTLES_WORDS, h_T_SETTLES_WORDS⟩ := HK.seq_is (c.fact 240)
  have g_SHARED_WORDS : PySem.W.nsIn K mainGlobals "SHARED_WORDS" = some (some (.ref (aa_T_SHARED_WORDS K))) := HK.eqB_ok (c.fact 241)
  obtain ⟨k0_T_SHARED_WORDS, k1_T_SHARED_WORDS, d_T_SHARED_WORDS, n_T_SHARED_WORDS, l_T_SHARED_WORDS, h_T_SHARED_WORDS⟩ := HK.seq_is (c.fact 242)
  have g_LIFT_ROWS : PySem.W.nsIn K mainGlobals "LIFT_ROWS" = some (some (.ref (aa_T_LIFT_ROWS K))) := HK.eqB_ok (c.fact 243)
  obtain ⟨d_T_LIFT_ROWS, n_T_LIFT_ROWS, l_T_LIFT_ROWS, h_T_LIFT_ROWS⟩ := HK.seq_is (c.fact 244)
  obtain ⟨d_T0_LIFT_ROWS, n_T0_LIFT_ROWS, l_T0_LIFT_ROWS, h_T0_LIFT_ROWS⟩ := HK.seq_is (c.fact 245)
  obtain ⟨k0_T1_LIFT_ROWS, d_T1_LIFT_ROWS, n_T1_LIFT_ROWS, l_T1_LIFT_ROWS, h_T1_LIFT_ROWS⟩ := HK.seq_is (c.fact 246)
  obtain ⟨k0_T2_LIFT_ROWS, d_T2_LIFT_ROWS, n_T2_LIFT_ROWS, l_T2_LIFT_ROWS, h_T2_LIFT_ROWS⟩ := HK.seq_is (c.fact 247)
  obtain ⟨k0_T3_LIFT_ROWS, k1_T3_LIFT_ROWS, d_T3_LIFT_ROWS, n_T3_LIFT_ROWS, l_T3_LIFT_ROWS, h_T3_LIFT_ROWS⟩ := HK.seq_is (c.fact 248)
  obtain ⟨k0_T4_LIFT_ROWS, k1_T4_LIFT_ROWS, d_T4_LIFT_ROWS, n_T4_LIFT_ROWS, l_T4_LIFT_ROWS, h_T4_LIFT_ROWS⟩ := HK.seq_is (c.fact 249)
  obtain ⟨k0_T5_LIFT_ROWS, d_T5_LIFT_ROWS, n_T5_LIFT_ROWS, l_T5_LIFT_ROWS, h_T5_LIFT_ROWS⟩ := HK.seq_is (c.fact 250)
  have g_ROW_CHECKS : PySem.W.nsIn K mainGlobals "ROW_CHECKS" = some (some (.ref (aa_T_ROW_CHECKS K))) := HK.eqB_ok (c.fact 251)
  obtain ⟨es_ROW_CHECKS, n_ROW_CHECKS, h_ROW_CHECKS, y_ROW_CHECKS, _⟩ := HK.dic_ok (c.tab 0)
  have x_ROW_CHECKS_take : PySem.W.nsIn K (aa_T_ROW_CHECKS K) "take" = some (some (.ref (aa_f8 K))) := HK.eqB_ok (c.fact 252)
  have x_ROW_CHECKS_give : PySem.W.nsIn K (aa_T_ROW_CHECKS K) "give" = some (some (.ref (aa_f9 K))) := HK.eqB_ok (c.fact 253)
  have x_ROW_CHECKS_move : PySem.W.nsIn K (aa_T_ROW_CHECKS K) "move" = some (some (.ref (aa_f10 K))) := HK.eqB_ok (c.fact 254)
  have x_ROW_CHECKS_lift : PySem.W.nsIn K (aa_T_ROW_CHECKS K) "lift" = some (some (.ref (aa_f11 K))) := HK.eqB_ok (c.fact 255)
  have ow_ls : PySem.W.subIn K (.ref (aa_C K)) (.type "list") = some false := HK.eqB_ok (c.fact 256)
  have ow_tp : PySem.W.subIn K (.ref (aa_C K)) (.type "tuple") = some false := HK.eqB_ok (c.fact 257)
  have ow_dc : PySem.W.subIn K (.ref (aa_C K)) (.type "dict") = some false := HK.eqB_ok (c.fact 258)
  have ow_st : PySem.W.subIn K (.ref (aa_C K)) (.type "str") = some false := HK.eqB_ok (c.fact 259)
  have ow_bo : PySem.W.subIn K (.ref (aa_C K)) (.type "bool") = some false := HK.eqB_ok (c.fact 260)
  have ow_no : PySem.W.subIn K (.ref (aa_C K)) (.type "NoneType") = some false := HK.eqB_ok (c.fact 261)
  exact all_mk X G hfa aC pg hd po sa mk kc n_parts x_class x_get x_tk x_mro x_ne x_cls x_ty a1 l1 c1 k1 a2 l2 c2 k2 a3 l3 c3 k3 a4 l4 c4 k4 a5 l5 c5 k5 a6 l6 c6 k6 a7 l7 c7 k7 a8 l8 c8 k8 a9 l9 c9 k9 a10 l10 c10 k10 a11 l11 c11 k11 a12 l12 c12 k12 a13 l13 c13 k13 a14 l14 c14 k14 a15 l15 c15 k15 a16 l16 c16 k16 a17 l17 c17 k17 a18 l18 c18 k18 a19 l19 c19 k19 a20 l20 c20 k20 a21 i21 l21 c21 k21 a22 i22 l22 c22 k22 a23 i23 l23 c23 k23 a24 pA24 pB24 pC24 l24 c24 k24 a25 pA25 pB25 pC25 l25 c25 k25 a26 pA26 pB26 pC26 l26 c26 k26 a27 pA27 pB27 pC27 l27 c27 k27 a28 pA28 pB28 pC28 l28 c28 k28 a29 i29 l29 c29 k29 a30 l30 c30 k30 a31 l31 c31 k31 a32 l32 c32 k32 a33 l33 c33 k33 a34 l34 c34 k34 a35 l35 c35 k35 a36 l36 c36 k36 a37 l37 c37 k37 a38 l38 c38 k38 a39 l39 c39 k39 a40 l40 c40 k40 a41 l41 c41 k41 a42 l42 c42 k42 a43 l43 c43 k43 a44 l44 c44 k44 a45 l45 c45 k45 a46 l46 c46 k46 a47 l47 c47 k47 a48 l48 c48 k48 a49 l49 c49 k49 a50 l50 c50 k50 a51 l51 c51 k51 a52 l52 c52 k52 a53 l53 c53 k53 a54 l54 c54 k54 a55 l55 c55 k55 a56 l56 c56 k56 a57 l57 c57 k57 a58 l58 c58 k58 a59 l59 c59 k59 a60 l60 c60 k60 z_abs z_all z_bool z_dict z_divmod z_enumerate z_int z_isinstance z_len z_list z_max z_min z_range z_repr z_set z_str z_tuple g_MOST_BATCH g_DIGITS g_FAILS h_T_FAILS g_LINES h_T_LINES g_ROW_KINDS h_T_ROW_KINDS g_SETTLES_WORDS h_T_SETTLES_WORDS g_SHARED_WORDS h_T_SHARED_WORDS g_LIFT_ROWS h_T_LIFT_ROWS h_T0_LIFT_ROWS h_T1_LIFT_ROWS h_T2_LIFT_ROWS h_T3_LIFT_ROWS h_T4_LIFT_ROWS h_T5_LIFT_ROWS g_ROW_CHECKS h_ROW_CHECKS y_ROW_CHECKS x_ROW_CHECKS_take x_ROW_CHECKS_give x_ROW_CHECKS_move x_ROW_CHECKS_lift ow_ls ow_tp ow_dc ow_st ow_bo ow_no
end Hd
open PySem PySem.W PySem.Calls PyProof.Rows in
set_option maxRecDepth 100000 in
set_option maxHeartbeats 0 in
theorem PySem.Challenge.cw_chargeways_k90_whole_texts_both_ways_holds : PySem.Challenge.rw_chargeways_k90_whole_texts_both_ways.Holds := by
  w_on; o_law
  refine HandSHeadRun.head_any (r := OpenLaw.row PySem.Challenge.rw_chargeways_k90_whole_texts_both_ways) (q := view (OpenLaw.row PySem.Challenge.rw_chargeways_k90_whole_texts_both_ways).prog [75]) (H := Hd.hk) (ob := Hd.ob) (M := 20000) (loose := Hd.loose) (d := HandSHeadRun.topDef (OpenLaw.row PySem.Challenge.rw_chargeways_k90_whole_texts_both_ways).prog 75) (kwd := []) Hd.ob_eq
    (by kernel_rfl) (fun s => by kernel_rfl) Hd.run (by kernel_rfl) (by kernel_rfl) (by kernel_rfl) (by rfl) (by first | assumption | decide +kernel) (by decide +kernel) ⟨rfl, rfl, rfl, rfl, rfl, by decide +kernel⟩ ?hw ?hc
  case hw => w_witness2
  case hc =>
    refine HK.walkH (l := PySem.Challenge.rw_chargeways_k90_whole_texts_both_ways) (k := 12) (x := "_law_script") (sp := My.sp_law) rfl (by kernel_rfl) ⟨rfl, by decide, by decide⟩ ?F (fun K H a ns hl hS => My.law_start hS hl)
    intro w mg fa h Y G hmg0
    obtain ⟨K, KX, c⟩ := Y
    have hmg : mg ("law" : PySem.Str) = some (.ref fa) := by
      have e : (HandSHeadRun.topDef (OpenLaw.row PySem.Challenge.rw_chargeways_k90_whole_texts_both_ways).prog 75).name = ("law" : PySem.Str) := by kernel_rfl
      rw [← e]
      exact hmg0
    obtain ⟨fd, hb, hF⟩ := Hd.all_hk (l := PySem.Challenge.rw_chargeways_k90_whole_texts_both_ways) KX G hmg c
    exact ⟨K, fd, KX, hb, hF⟩
#print axioms PySem.Challenge.cw_chargeways_k90_whole_texts_both_ways_holds
