import PyProof.Rows.All
import Wide.All
import OpenK.AllK
import Wide.FinOn
import KE.KStateDown
import HandS.Defaults
import HandS.Head0
import HandS.Head1
import HandS.Head2
import HandS.Head3
import HandS.HeadEnd
import HandS.HeadHook1
import HandS.HeadHook2
import HandS.MakeKwOnly
import HandS.ClsMeth
import HandS.HeadNt
import OpenK.KOwn
import HandS.ExcInit
import HandS.ExcField
import KE.KExcSuper
import KE.KSuper
import KE.KNest
import HandS.Lambda
import HandS.ForMost
import HandS.Walk
import HandS.Property
import HandS.MakeKw
import HandS.Evl
import HandS.DictComp
import HandS.Gcd
import HandS.Zip
import HandS.Star
import HandS.IsInst
import HandS.Exc
import KE.KOpsOwn
import KE.KMathGC
import HandS.Wide
import KE.GoesMore
import HandS.Conv
import HandS.Sort
import HandS.More
import HandS.TupAny
import KE.GoesEnum
import HandS.TupLe
import HandS.Style
import HandS.OwnEq
import HandS.ListItems
import KE.KDictIter
import PyProof.InstNe
import HandS.Records
import PyProof.Rows.Range3
import HandS.List
import KE.KDictZip
import HandS.DictTup
import HandS.DictSub
import HandS.TupMul
import HandS.GenList
import HandS.ExcOwn
import HandS.TryOnly
import HandS.WordsExc
import HandS.HotCalls
import HandS.Dict
import KE.KLam
import KE.KMinKey
import KE.DataMinKey
import KE.DataMinMax
import HandS.HeadWalk
import PyProof.StrLawsTight
import PyProof.StrBlockL
import HandS.FStr
import HandS.Text
import KE.KUnpackStar
import PyProof.StrOps2
import HandS.CallSlots
import HandS.SuiteRaise
import HandS.RaiseFrom
import HandS.ExcInitHot
import PySem.Challenge.RW_keepapart_k13_whole_texts
set_option Elab.async false
set_option linter.all false
set_option maxRecDepth 100000
set_option maxHeartbeats 2000000
/-! what is observed of the top, as the kernel runs it -/
namespace KA
open PySem PySem.Spec PyProof.Rows L2
open He (Dv ga ma ba dflB kwdB dflB_ok kwdB_ok eqO eqO_ok FnW frG asD frG_in)
/-- a def: where it stands, as the text has it -/
structure DefE where
  ad : PySem.W.Frag → Addr
  name : Str
  qual : Str
  params : Arguments
  body : List Stmt
  scope : Scope
  dfl : List Dv := []
  kwd : List (Str × Dv) := []
  clo : List Str := []
abbrev FnE : Type := Option (Str × Str × Arguments × FuncBody × Scope × Addr × List Str × Addr)
def fnE (K : PySem.W.Frag) (a : Addr) : FnE := match K.lookup a with
  | some ⟨_, _, .func fd, _⟩ => some (fd.name, fd.qualname, fd.params, fd.body, fd.scope, fd.globals, fd.closure.map Prod.fst, fd.builtins)
  | _ => none
def DefE.val (d : DefE) : FnE := some (d.name, d.qual, d.params, .stmts d.body, d.scope, mainGlobals, d.clo, builtinsNs)
def DefE.dvs (K : PySem.W.Frag) (d : DefE) : List V := d.dfl.map (Dv.v K)
def DefE.kws (K : PySem.W.Frag) (d : DefE) : List (Str × V) := d.kwd.map fun q => (q.1, q.2.v K)
def DefE.ok (K : PySem.W.Frag) (d : DefE) : Bool := PySem.W.keepIn K (.ref (d.ad K)) && (match K.lookup (d.ad K) with
  | some ⟨_, _, .func fd, _⟩ => PySem.W.codeIn K fd.code d.qual && (dflB K fd.defaults (d.dvs K) && kwdB K fd.kwdefaults (d.kws K))
  | _ => false)

/-! ### the Hook -/
abbrev AlE : Type := Bool × List FnE
def obsE (chk : PySem.W.Frag → Bool) (fn : List DefE) (K : PySem.W.Frag) : AlE := (chk K && fn.all fun d => d.ok K, fn.map fun d => fnE K (d.ad K))
def valE (fn : List DefE) : AlE := (true, fn.map DefE.val)
def SaysE (chk : PySem.W.Frag → Bool) (fn : List DefE) (K : PySem.W.Frag) : Prop := obsE chk fn K = valE fn
def obsEG (n : Nat) (chk : PySem.W.Frag → Bool) (fn : List DefE) (g : Addr → Option Obj) : AlE := obsE chk fn (frG g (asD g n))
def hookE (n : Nat) (chk : PySem.W.Frag → Bool) (fn : List DefE) : PySem.W.Hook where
  α := AlE
  obs := fun s => obsEG n chk fn s.heap.get?
  val := fun _ => valE fn
  says := fun _ h => ∃ K : PySem.W.Frag, K.In h ∧ SaysE chk fn K
  of := fun _ _ e => ⟨_, frG_in, e⟩
  keeps := fun _ _ _ ⟨K, hK, c⟩ k => ⟨K, PySem.W.Frag.In.keeps hK k, c⟩
theorem obsEG_eq {n : Nat} {chk : PySem.W.Frag → Bool} {fn : List DefE} {g : Addr → Option Obj} {s : Shared} (h : ∀ a, g a = s.heap.get? a) : obsEG n chk fn g = (hookE n chk fn).obs s := by
  have e : g = s.heap.get? := funext h
  rw [e] <;> rfl

/-! ### facts -/
/-- a property's getter -/
def pg (K : PySem.W.Frag) (C f : Str) : Addr := match PySem.W.recIn K (ma K (ga K C) f) "property" with
  | some (.ref g :: _) => g
  | _ => 0
def fGlo (x : Str) (K : PySem.W.Frag) : Bool := eqO (PySem.W.nsIn K mainGlobals x) (some (some (.ref (ga K x))))
def fFree (x : Str) (K : PySem.W.Frag) : Bool := eqO (PySem.W.nsIn K mainGlobals x) (some none)
def fBlt (x : Str) (id : String) (K : PySem.W.Frag) : Bool := eqO (PySem.W.nsIn K mainGlobals x) (some (some (.builtin id)))
def fInt (x : Str) (i : Int) (K : PySem.W.Frag) : Bool := match PySem.W.nsIn K mainGlobals x with
  | some (some (.int j _)) => decide (j = i)
  | _ => false
def fStr (x z : Str) (K : PySem.W.Frag) : Bool := match PySem.W.nsIn K mainGlobals x with
  | some (some (.str y _)) => decide (y = z)
  | _ => false
def fCls (x : Str) (K : PySem.W.Frag) : Bool := PySem.W.plainGet K (ga K x) Str.empty && (PySem.W.hasDictIn K (ga K x) && (PySem.W.plainOver K (ga K x) && eqO (PySem.W.findIn K (.ref (ga K x)) "__setattr__") (some (some (.builtin "object.__setattr__")))))
def fNoat (x f : Str) (K : PySem.W.Frag) : Bool := eqO (PySem.W.findIn K (.ref (ga K x)) f) (some none)
def fMeth (x m : Str) (K : PySem.W.Frag) : Bool := eqO (PySem.W.findIn K (.ref (ga K x)) m) (some (some (.ref (ma K (ga K x) m)))) && (PySem.W.isFn K (.ref (ma K (ga K x) m)) && (PySem.W.keepIn K (.ref (ma K (ga K x) m)) && PySem.W.fnIn K (ma K (ga K x) m)))
def fMkr (x : Str) (K : PySem.W.Frag) : Bool := PySem.W.makesIn K (ga K x) && (eqO (PySem.W.findIn K (.ref (ga K x)) "__init__") (some (some (.ref (ma K (ga K x) "__init__")))) && (PySem.W.isFn K (.ref (ma K (ga K x) "__init__")) && PySem.W.keepIn K (.ref (ga K x))))
def fProp (x f : Str) (K : PySem.W.Frag) : Bool := eqO (PySem.W.findIn K (.ref (ga K x)) f) (some (some (.ref (ma K (ga K x) f)))) && (decide (PySem.W.specialIn K (.ref (ma K (ga K x) f)) "__get__" = some (some (.builtin "property.__get__"))) && (decide (PySem.W.takesIn K (.ref (ma K (ga K x) f)) = some true) &&
  (match PySem.W.recIn K (ma K (ga K x) f) "property" with
  | some (.ref _ :: _) => true
  | _ => false)))
def fBinI (x : Str) (op : Operator) (K : PySem.W.Frag) : Bool := PySem.W.selfFirst K (ga K x) && (eqO (PySem.W.findIn K (.ref (ga K x)) (dunderR op.info.2)) (some none) && ((PySem.W.findIn K (.type "int") (PySem.dunder op.info.2)).isSome && ((PySem.W.findIn K (.type "int") (dunderR op.info.2)).isSome && decide (PySem.W.subIn K (.type "int") (.ref (ga K x)) = some false))))
def fSelf (x : Str) (K : PySem.W.Frag) : Bool := PySem.W.selfFirst K (ga K x)

def fIsi (x : Str) (K : PySem.W.Frag) : Bool := eqO (PySem.W.findIn K (.ref (ga K x)) "__class__") (some (some (.builtin "object.__class__"))) && (decide (PySem.W.specialIn K (.builtin "object.__class__") "__get__" = some (some (.builtin "getset_descriptor.__get__"))) &&
  (decide (PySem.W.takesIn K (.builtin "object.__class__") = some true) && decide (PySem.W.mroIn K (ga K x) (.type "object") = some true)))

def fNe (x : Str) (K : PySem.W.Frag) : Bool := He.eqO (PySem.W.findIn K (.ref (He.ga K x)) "__ne__") (some (some (.builtin "object.__ne__"))) && decide (PySem.W.mroIn K (He.ga K x) (.type "object") = some true)

def cg (K : PySem.W.Frag) (x m : Str) : Addr := He5.wf K (He.ga K x) "classmethod" m
def fCm (x m : Str) (K : PySem.W.Frag) : Bool := He5.wrapB K (He.ga K x) "classmethod" "classmethod.__get__" m && PySem.W.fnIn K (cg K x m)
def fCr (x : Str) (K : PySem.W.Frag) : Bool := PySem.W.readsIn K (He.ga K x) (.type "type") && decide (PySem.W.specialIn K (.ref (He.ga K x)) "__getattribute__" = some (some (.builtin "type.__getattribute__")))

/-! ### what the top has left, the interpreter's statics with it (a class's attribute is looked up there first) -/
def obsES (n : Nat) (chk : PySem.W.Frag → Bool) (fn : List DefE) (g : Addr → Option Obj) : AlE := obsE chk fn (He.frG g (He5.asA g n))
def hookES (n : Nat) (chk : PySem.W.Frag → Bool) (fn : List DefE) : PySem.W.Hook :=
  { α := AlE, obs := fun s => obsES n chk fn s.heap.get?, val := fun _ => valE fn, says := fun _ h => ∃ K : PySem.W.Frag, K.In h ∧ SaysE chk fn K, of := fun _ _ e => ⟨_, He.frG_in, e⟩, keeps := fun _ _ _ ⟨K, hK, c⟩ k => ⟨K, PySem.W.Frag.In.keeps hK k, c⟩ }
theorem obsES_eq {n : Nat} {chk : PySem.W.Frag → Bool} {fn : List DefE} {g : Addr → Option Obj} {s : Shared} (h : ∀ a, g a = s.heap.get? a) : obsES n chk fn g = (hookES n chk fn).obs s := by rw [show g = s.heap.get? from funext h] <;> rfl

abbrev veL : List Value := [.type "ValueError", .type "Exception", .type "BaseException", .type "object"]

def fExO (x : Str) (K : PySem.W.Frag) : Bool := PySem.W.excIn K (ga K x) veL "ValueError.__new__" && (PySem.W.keepIn K (.ref (ga K x)) && (decide (PySem.W.subIn K (.ref (ga K x)) (.type "BaseException") = some true) && decide (PySem.W.typeIn K (.ref (ga K x)) = some (.type "type"))))

def fExm (x y : Str) (b : Bool) (K : PySem.W.Frag) : Bool := decide (PySem.W.exmOne K (.ref (ga K x)) (.ref (ga K y)) = some b)

/-- an own class of exceptions whose __init__ says super(): all but the defs -/
def oexB (K : PySem.W.Frag) (C : Addr) : Bool := (match K.lookup C with
  | some ⟨.type "type", _, .cls ⟨_, _, .ref C' :: bm, _, _, true, _, _, _, _, false⟩, ⟨[_, _, _, _, some (.builtin n), _]⟩⟩ => C' == C && (n == "ValueError.__new__" && PySem.HandSPX.refsVE bm)
  | _ => false) && (eqO (PySem.W.findIn K (.ref C) "__setattr__") (some (some (.builtin "object.__setattr__"))) && (decide (PySem.W.subIn K (.ref C) (.type "BaseException") = some true) && (decide (PySem.W.typeIn K (.ref C) = some (.type "type")) && PySem.W.keepIn K (.ref C))))
def supB (K : PySem.W.Frag) (C f : Addr) (file0 : Str) : Bool := match K.lookup f with
  | some ⟨_, _, .func fd, _⟩ => (match fd.code with
    | .ref cda => (match K.lookup cda with
      | some ⟨_, _, .fields vs, _⟩ => (match (vs[2]? : Option Value) with
        | some (Value.str file _) => file0 == file
        | _ => false)
      | _ => false)
    | _ => false) && (match fd.closure with
    | [(_, cc)] => (match K.lookup cc with
      | some ⟨_, _, .cell (some (.ref D)), _⟩ => D == C
      | _ => false)
    | _ => false)
  | _ => false
def fSup (x fld file0 : Str) (K : PySem.W.Frag) : Bool := oexB K (ga K x) && (supB K (ga K x) (ma K (ga K x) "__init__") file0 && (eqO (PySem.W.nsIn K cStatics "thirdparty.any") (some none) && (eqO (PySem.W.ks_superIn K (ga K x) (ga K x) "__init__") (some (some (.builtin "ValueError.__init__"))) && (decide (PySem.W.mroIn K (ga K x) (.ref (ga K x)) = some true) &&
  (decide (PySem.W.subIn K (.ref (ga K x)) (.type "ValueError") = some true) && (PySem.W.excInitIn K (ga K x) veL "ValueError.__new__" && (eqO (PySem.W.findIn K (.ref (ga K x)) "__init__") (some (some (.ref (ma K (ga K x) "__init__")))) && (decide (PySem.W.typeIn K (.ref (ma K (ga K x) "__init__")) = some (.type "function")) &&
  (eqO (PySem.W.findIn K (.ref (ga K x)) fld) (some none) && xfB K (ga K x))))))))))

/-! ### a def that makes a lambda: its code object, that one's table -/
def codeAt (K : PySem.W.Frag) (f : Addr) : Addr := match K.lookup f with
  | some ⟨_, _, .func fd, _⟩ => (match fd.code with
    | .ref c => c
    | _ => 0)
  | _ => 0
def tabAt (K : PySem.W.Frag) (c : Addr) : Addr := match K.lookup c with
  | some ⟨_, _, .fields vs, _⟩ => (match (vs[11]? : Option Value) with
    | some (Value.ref P) => P
    | _ => 0)
  | _ => 0
def codeOf (x : Str) (K : PySem.W.Frag) : Addr := codeAt K (ga K x)
def tabOf (x : Str) (K : PySem.W.Frag) : Addr := tabAt K (codeOf x K)
def hdB (K : PySem.W.Frag) (c P : Addr) : Bool := match K.lookup c with
  | some ⟨.type "code", _, .fields vs, _⟩ => (match (vs[11]? : Option Value) with
    | some (Value.ref P') => P' == P
    | _ => false) && ((match vs.getD 18 .none with
    | .str _ _ => true
    | _ => false) && ((match vs.getD 7 .none with
    | .int _ _ => true
    | _ => false) && ((match vs.getD 9 .none with
    | .bool _ => true
    | _ => false) && ((match vs.getD 10 .none with
    | .int _ _ => true
    | _ => false) && !(c == P)))))
  | _ => false
def tabB (x : Str) (K : PySem.W.Frag) (g : Addr → Option Obj) : Bool := (match g (tabOf x K) with
  | some ⟨.none, none, .fields ⟨[]⟩, ⟨[]⟩⟩ => true
  | _ => false) && ((K.lookup (tabOf x K)).isNone && hdB K (codeOf x K) (tabOf x K))
/-- what was seen, the table left out -/
def cutK (x : Str) (K : PySem.W.Frag) : PySem.W.Frag := K.filter fun p => !(p.1 == tabOf x K)
def obsT (n : Nat) (x : Str) (chk : PySem.W.Frag → Bool) (fn : List DefE) (g : Addr → Option Obj) : AlE := ((obsE chk fn (cutK x (He.frG g (He5.asA g n)))).1 && tabB x (cutK x (He.frG g (He5.asA g n))) g, (obsE chk fn (cutK x (He.frG g (He5.asA g n)))).2)
theorem look_cut (P : Addr) : ∀ (K : List (Addr × Obj)) {b : Addr} {o : Obj}, (K.filter fun p => !(p.1 == P)).lookup b = some o → K.lookup b = some o ∧ b ≠ P
  | [], _, _, e => by cases e
  | (c, oc) :: K, b, o, e => by
    rw [List.filter_cons] at e
    split at e
    · rename_i h1
      rw [List.lookup_cons] at e ⊢
      split at e
      · rename_i z
        refine ⟨e, fun y => ?_⟩
        have hbc : b = c := eq_of_beq z
        rw [← hbc, y] at h1
        simp at h1
      · rename_i z
        exact look_cut P K e
    · rename_i h1
      have hc : c = P := by simpa using h1
      obtain ⟨e1, e2⟩ := look_cut P K e
      have : (b == c) = false := by
        rw [hc]
        simpa using e2
      rw [List.lookup_cons, this]
      exact ⟨e1, e2⟩
theorem cutK_in {x : Str} {K : PySem.W.Frag} {h : Heap} (X : K.In h) : (cutK x K).In h := fun b o e => X b o (look_cut _ K e).1
/-- what such a head says of the table -/
structure TabI (x : Str) (K : PySem.W.Frag) (h : Heap) : Prop where
  tb : h.get? (tabOf x K) = some { cls := .none, data := .fields #[] }
  no : K.lookup (tabOf x K) = none
  hd : PySem.W.CodeHd h (codeOf x K) (tabOf x K)
theorem hd_of {K : PySem.W.Frag} {h : Heap} {c P : Addr} (X : K.In h) (e : hdB K c P = true) : PySem.W.CodeHd h c P := by
  unfold hdB at e
  split at e
  · rename_i vs sl ho
    obtain ⟨e1, e⟩ := He.ba e
    obtain ⟨e2, e⟩ := He.ba e
    obtain ⟨e3, e⟩ := He.ba e
    obtain ⟨e4, e⟩ := He.ba e
    obtain ⟨e5, e6⟩ := He.ba e
    split at e1
    · rename_i P' g1
      obtain rfl := eq_of_beq e1
      split at e2
      · rename_i g2
        split at e3
        · rename_i g3
          split at e4
          · rename_i g4
            split at e5
            · rename_i g5
              exact ⟨_, vs, _, _, _, _, _, _, _, X _ _ ho, rfl, rfl, g1, by rw [Array.getD_eq_getD_getElem?, g1]; rfl, g2, g3, g4, g5, by simpa using e6⟩
            · cases e5
          · cases e4
        · cases e3
      · cases e2
    · cases e1
  · cases e
def hookT (n : Nat) (x : Str) (chk : PySem.W.Frag → Bool) (fn : List DefE) : PySem.W.Hook :=
  { α := AlE, obs := fun s => obsT n x chk fn s.heap.get?, val := fun _ => valE fn, says := fun _ h => ∃ K : PySem.W.Frag, K.In h ∧ SaysE chk fn K ∧ TabI x K h,
    of := fun _ s e => (by
      have e1 : ((obsE chk fn (cutK x (He.frG s.heap.get? (He5.asA s.heap.get? n)))).1 && tabB x (cutK x (He.frG s.heap.get? (He5.asA s.heap.get? n))) s.heap.get?) = true := congrArg (fun z : AlE => z.1) e
      have e2 : (obsE chk fn (cutK x (He.frG s.heap.get? (He5.asA s.heap.get? n)))).2 = fn.map DefE.val := congrArg (fun z : AlE => z.2) e
      obtain ⟨f1, f2⟩ := He.ba e1
      obtain ⟨f3, f4⟩ := He.ba f2
      obtain ⟨f5, f6⟩ := He.ba f4
      have KI := cutK_in (x := x) (He.frG_in (h := s.heap) (as := He5.asA s.heap.get? n))
      refine ⟨_, KI, Prod.ext f1 e2, ?_, by simpa using f5, hd_of KI f6⟩
      split at f3
      · assumption
      · cases f3),
    keeps := fun _ _ _ ⟨K, hK, c, t⟩ k => ⟨K, PySem.W.Frag.In.keeps hK k, c, k _ _ t.tb, t.no, t.hd.keeps k⟩ }
theorem obsT_eq {n : Nat} {x : Str} {chk : PySem.W.Frag → Bool} {fn : List DefE} {g : Addr → Option Obj} {s : Shared} (h : ∀ a, g a = s.heap.get? a) : obsT n x chk fn g = (hookT n x chk fn).obs s := by rw [show g = s.heap.get? from funext h] <;> rfl

end KA

namespace KL
open PySem PySem.Spec PyProof.Rows L2 KA
open He (ga ma)
def file0 : PySem.Str := PySem.Challenge.pw_keepapart_k13_whole_texts.main.file
abbrev FileOk (P : Program) : Prop := P.main.file = file0 ∧ (P.main.scope.names.lookup ("super" : PySem.Str)).isSome = false
def top (i : Nat) : Stmt := PySem.Challenge.pw_keepapart_k13_whole_texts.main.body.getD i (.Pass ⟨0, 0, 0, 0⟩)
abbrev s_is_at_least : Stmt := top 5
abbrev N_is_at_least : List Str := ["value", "low"]
def e_is_at_least : DefE := ⟨fun K => ga K "is_at_least", "is_at_least", "is_at_least", defArgs s_is_at_least, defBody s_is_at_least, defScope s_is_at_least, [], [], []⟩
abbrev s_is_between : Stmt := top 6
abbrev N_is_between : List Str := ["value", "low", "high"]
def e_is_between : DefE := ⟨fun K => ga K "is_between", "is_between", "is_between", defArgs s_is_between, defBody s_is_between, defScope s_is_between, [], [], []⟩
abbrev s_is_name : Stmt := top 7
abbrev N_is_name : List Str := ["value", "letter"]
def e_is_name : DefE := ⟨fun K => ga K "is_name", "is_name", "is_name", defArgs s_is_name, defBody s_is_name, defScope s_is_name, [], [], []⟩
abbrev s_all_pairs : Stmt := top 8
abbrev N_all_pairs : List Str := ["items", "at", "first", "second"]
def e_all_pairs : DefE := ⟨fun K => ga K "all_pairs", "all_pairs", "all_pairs", defArgs s_all_pairs, defBody s_all_pairs, defScope s_all_pairs, [], [], []⟩
abbrev s_BadTimetable_init : Stmt := inClass (top 12) 0
abbrev N_BadTimetable_init : List Str := ["self", "part"]
def e_BadTimetable_init : DefE := ⟨fun K => ma K (ga K "BadTimetable") "__init__", "__init__", "BadTimetable.__init__", defArgs s_BadTimetable_init, defBody s_BadTimetable_init, defScope s_BadTimetable_init, [.non], [], ["__class__"]⟩
abbrev s_BadText_init : Stmt := inClass (top 15) 0
abbrev N_BadText_init : List Str := ["self", "row"]
def e_BadText_init : DefE := ⟨fun K => ma K (ga K "BadText") "__init__", "__init__", "BadText.__init__", defArgs s_BadText_init, defBody s_BadText_init, defScope s_BadText_init, [.int 0], [], ["__class__"]⟩
abbrev s_Job_init : Stmt := inClass (top 21) 0
abbrev N_Job_init : List Str := ["self", "period", "duration", "start", "cost"]
def e_Job_init : DefE := ⟨fun K => ma K (ga K "Job") "__init__", "__init__", "Job.__init__", defArgs s_Job_init, defBody s_Job_init, defScope s_Job_init, [.int 1], [("start", .int 0), ("cost", .int 1)], []⟩
abbrev s_Job_period : Stmt := inClass (top 21) 1
abbrev N_Job_period : List Str := ["self"]
def e_Job_period : DefE := ⟨fun K => pg K "Job" "period", "period", "Job.period", defArgs s_Job_period, defBody s_Job_period, defScope s_Job_period, [], [], []⟩
abbrev s_Job_duration : Stmt := inClass (top 21) 2
abbrev N_Job_duration : List Str := ["self"]
def e_Job_duration : DefE := ⟨fun K => pg K "Job" "duration", "duration", "Job.duration", defArgs s_Job_duration, defBody s_Job_duration, defScope s_Job_duration, [], [], []⟩
abbrev s_Job_start : Stmt := inClass (top 21) 3
abbrev N_Job_start : List Str := ["self"]
def e_Job_start : DefE := ⟨fun K => pg K "Job" "start", "start", "Job.start", defArgs s_Job_start, defBody s_Job_start, defScope s_Job_start, [], [], []⟩
abbrev s_Job_cost : Stmt := inClass (top 21) 4
abbrev N_Job_cost : List Str := ["self"]
def e_Job_cost : DefE := ⟨fun K => pg K "Job" "cost", "cost", "Job.cost", defArgs s_Job_cost, defBody s_Job_cost, defScope s_Job_cost, [], [], []⟩
abbrev s_Job_eq : Stmt := inClass (top 21) 6
abbrev N_Job_eq : List Str := ["self", "other"]
def e_Job_eq : DefE := ⟨fun K => ma K (ga K "Job") "__eq__", "__eq__", "Job.__eq__", defArgs s_Job_eq, defBody s_Job_eq, defScope s_Job_eq, [], [], []⟩
abbrev s_Job_rshift : Stmt := inClass (top 21) 7
abbrev N_Job_rshift : List Str := ["self", "other", "start"]
def e_Job_rshift : DefE := ⟨fun K => ma K (ga K "Job") "__rshift__", "__rshift__", "Job.__rshift__", defArgs s_Job_rshift, defBody s_Job_rshift, defScope s_Job_rshift, [], [], []⟩
abbrev s_Job_contains : Stmt := inClass (top 21) 8
abbrev N_Job_contains : List Str := ["self", "x"]
def e_Job_contains : DefE := ⟨fun K => ma K (ga K "Job") "__contains__", "__contains__", "Job.__contains__", defArgs s_Job_contains, defBody s_Job_contains, defScope s_Job_contains, [], [], []⟩
abbrev s_Job_len : Stmt := inClass (top 21) 9
abbrev N_Job_len : List Str := ["self"]
def e_Job_len : DefE := ⟨fun K => ma K (ga K "Job") "__len__", "__len__", "Job.__len__", defArgs s_Job_len, defBody s_Job_len, defScope s_Job_len, [], [], []⟩
abbrev s_Timetable_init : Stmt := inClass (top 22) 0
abbrev N_Timetable_init : List Str := ["self", "jobs", "name"]
def e_Timetable_init : DefE := ⟨fun K => ma K (ga K "Timetable") "__init__", "__init__", "Timetable.__init__", defArgs s_Timetable_init, defBody s_Timetable_init, defScope s_Timetable_init, [], [], []⟩
abbrev s_Timetable_names : Stmt := inClass (top 22) 1
abbrev N_Timetable_names : List Str := ["self"]
def e_Timetable_names : DefE := ⟨fun K => pg K "Timetable" "names", "names", "Timetable.names", defArgs s_Timetable_names, defBody s_Timetable_names, defScope s_Timetable_names, [], [], []⟩
abbrev s_Timetable_getitem : Stmt := inClass (top 22) 2
abbrev N_Timetable_getitem : List Str := ["self", "at"]
def e_Timetable_getitem : DefE := ⟨fun K => ma K (ga K "Timetable") "__getitem__", "__getitem__", "Timetable.__getitem__", defArgs s_Timetable_getitem, defBody s_Timetable_getitem, defScope s_Timetable_getitem, [], [], []⟩
abbrev s_Timetable_contains : Stmt := inClass (top 22) 4
abbrev N_Timetable_contains : List Str := ["self", "x"]
def e_Timetable_contains : DefE := ⟨fun K => ma K (ga K "Timetable") "__contains__", "__contains__", "Timetable.__contains__", defArgs s_Timetable_contains, defBody s_Timetable_contains, defScope s_Timetable_contains, [], [], []⟩
abbrev s_Timetable_len : Stmt := inClass (top 22) 5
abbrev N_Timetable_len : List Str := ["self"]
def e_Timetable_len : DefE := ⟨fun K => ma K (ga K "Timetable") "__len__", "__len__", "Timetable.__len__", defArgs s_Timetable_len, defBody s_Timetable_len, defScope s_Timetable_len, [], [], []⟩
abbrev s_Timetable_bool : Stmt := inClass (top 22) 6
abbrev N_Timetable_bool : List Str := ["self", "jobs", "first", "second"]
def e_Timetable_bool : DefE := ⟨fun K => ma K (ga K "Timetable") "__bool__", "__bool__", "Timetable.__bool__", defArgs s_Timetable_bool, defBody s_Timetable_bool, defScope s_Timetable_bool, [], [], []⟩
abbrev s_Timetable_call : Stmt := inClass (top 22) 7
abbrev N_Timetable_call : List Str := ["self", "time", "name", "job"]
def e_Timetable_call : DefE := ⟨fun K => ma K (ga K "Timetable") "__call__", "__call__", "Timetable.__call__", defArgs s_Timetable_call, defBody s_Timetable_call, defScope s_Timetable_call, [], [], []⟩
abbrev s_Timetable_or : Stmt := inClass (top 22) 8
abbrev N_Timetable_or : List Str := ["self", "other", "jobs", "name"]
def e_Timetable_or : DefE := ⟨fun K => ma K (ga K "Timetable") "__or__", "__or__", "Timetable.__or__", defArgs s_Timetable_or, defBody s_Timetable_or, defScope s_Timetable_or, [], [], []⟩
abbrev s_Timetable_rshift : Stmt := inClass (top 22) 9
abbrev N_Timetable_rshift : List Str := ["self", "other", "name", "job"]
def e_Timetable_rshift : DefE := ⟨fun K => ma K (ga K "Timetable") "__rshift__", "__rshift__", "Timetable.__rshift__", defArgs s_Timetable_rshift, defBody s_Timetable_rshift, defScope s_Timetable_rshift, [], [], []⟩
abbrev s_Timetable_eq : Stmt := inClass (top 22) 10
abbrev N_Timetable_eq : List Str := ["self", "other"]
def e_Timetable_eq : DefE := ⟨fun K => ma K (ga K "Timetable") "__eq__", "__eq__", "Timetable.__eq__", defArgs s_Timetable_eq, defBody s_Timetable_eq, defScope s_Timetable_eq, [], [], []⟩
abbrev s_check_jobs : Stmt := top 23
abbrev N_check_jobs : List Str := ["jobs", "name", "job", "product"]
def e_check_jobs : DefE := ⟨fun K => ga K "check_jobs", "check_jobs", "check_jobs", defArgs s_check_jobs, defBody s_check_jobs, defScope s_check_jobs, [], [], []⟩
abbrev s_check_timetable : Stmt := top 24
abbrev N_check_timetable : List Str := ["timetable"]
def e_check_timetable : DefE := ⟨fun K => ga K "check_timetable", "check_timetable", "check_timetable", defArgs s_check_timetable, defBody s_check_timetable, defScope s_check_timetable, [], [], []⟩
abbrev s_keep_apart : Stmt := top 25
abbrev N_keep_apart : List Str := ["first", "second", "divisor", "distance"]
def e_keep_apart : DefE := ⟨fun K => ga K "keep_apart", "keep_apart", "keep_apart", defArgs s_keep_apart, defBody s_keep_apart, defScope s_keep_apart, [], [], []⟩
abbrev s_distance_within : Stmt := top 26
abbrev N_distance_within : List Str := ["first", "second", "divisor"]
def e_distance_within : DefE := ⟨fun K => ga K "distance_within", "distance_within", "distance_within", defArgs s_distance_within, defBody s_distance_within, defScope s_distance_within, [], [], []⟩
abbrev s_are_jobs_apart : Stmt := top 27
abbrev N_are_jobs_apart : List Str := ["first", "second"]
def e_are_jobs_apart : DefE := ⟨fun K => ga K "are_jobs_apart", "are_jobs_apart", "are_jobs_apart", defArgs s_are_jobs_apart, defBody s_are_jobs_apart, defScope s_are_jobs_apart, [], [], []⟩
abbrev s_timetable_text : Stmt := top 30
abbrev N_timetable_text : List Str := ["timetable", "name"]
def e_timetable_text : DefE := ⟨fun K => ga K "timetable_text", "timetable_text", "timetable_text", defArgs s_timetable_text, defBody s_timetable_text, defScope s_timetable_text, [], [], []⟩
abbrev s_line_of : Stmt := top 31
abbrev N_line_of : List Str := ["name", "job"]
def e_line_of : DefE := ⟨fun K => ga K "line_of", "line_of", "line_of", defArgs s_line_of, defBody s_line_of, defScope s_line_of, [], [], []⟩
abbrev s_read_timetable : Stmt := top 32
abbrev N_read_timetable : List Str := ["text", "lines", "rest", "found", "row", "line", "named"]
def e_read_timetable : DefE := ⟨fun K => ga K "read_timetable", "read_timetable", "read_timetable", defArgs s_read_timetable, defBody s_read_timetable, defScope s_read_timetable, [], [], []⟩
abbrev s_read_line : Stmt := top 33
abbrev N_read_line : List Str := ["line", "words", "period", "duration", "start", "cost", "word"]
def e_read_line : DefE := ⟨fun K => ga K "read_line", "read_line", "read_line", defArgs s_read_line, defBody s_read_line, defScope s_read_line, [], [], []⟩
abbrev s_read_number : Stmt := top 34
abbrev N_read_number : List Str := ["word", "number"]
def e_read_number : DefE := ⟨fun K => ga K "read_number", "read_number", "read_number", defArgs s_read_number, defBody s_read_number, defScope s_read_number, [], [], []⟩
abbrev s_table_of : Stmt := top 35
abbrev N_table_of : List Str := ["named", "jobs", "name", "job"]
def e_table_of : DefE := ⟨fun K => ga K "table_of", "table_of", "table_of", defArgs s_table_of, defBody s_table_of, defScope s_table_of, [], [], []⟩
abbrev s__law_cell_at : Stmt := top 37
abbrev N__law_cell_at : List Str := ["_law_script", "_law_k"]
def e__law_cell_at : DefE := ⟨fun K => ga K "_law_cell_at", "_law_cell_at", "_law_cell_at", defArgs s__law_cell_at, defBody s__law_cell_at, defScope s__law_cell_at, [], [], []⟩
abbrev s__law_draw : Stmt := top 38
abbrev N__law_draw : List Str := ["_law_cell", "_law_k", "_law_below", "_law_primes"]
def e__law_draw : DefE := ⟨fun K => ga K "_law_draw", "_law_draw", "_law_draw", defArgs s__law_draw, defBody s__law_draw, defScope s__law_draw, [], [], []⟩
abbrev s__law_number : Stmt := top 39
abbrev N__law_number : List Str := ["_law_cell", "_law_k", "_law_below", "_law_power", "_law_times", "_law_remains", "_law_small"]
def e__law_number : DefE := ⟨fun K => ga K "_law_number", "_law_number", "_law_number", defArgs s__law_number, defBody s__law_number, defScope s__law_number, [], [], []⟩
abbrev s__law_next : Stmt := top 40
abbrev N__law_next : List Str := ["_law_state", "_law_below", "_law_at", "_law_cell"]
def e__law_next : DefE := ⟨fun K => ga K "_law_next", "_law_next", "_law_next", defArgs s__law_next, defBody s__law_next, defScope s__law_next, [], [], []⟩
abbrev s__law_pick : Stmt := top 41
abbrev N__law_pick : List Str := ["_law_state", "_law_things"]
def e__law_pick : DefE := ⟨fun K => ga K "_law_pick", "_law_pick", "_law_pick", defArgs s__law_pick, defBody s__law_pick, defScope s__law_pick, [], [], []⟩
abbrev s__law_drawn : Stmt := top 42
abbrev N__law_drawn : List Str := ["_law_state", "_law_most", "_law_rows", "_law_product", "_law_name", "_law_period", "_law_length"]
def e__law_drawn : DefE := ⟨fun K => ga K "_law_drawn", "_law_drawn", "_law_drawn", defArgs s__law_drawn, defBody s__law_drawn, defScope s__law_drawn, [], [], []⟩
abbrev s__law_job : Stmt := top 43
abbrev N__law_job : List Str := ["_law_row_here"]
def e__law_job : DefE := ⟨fun K => ga K "_law_job", "_law_job", "_law_job", defArgs s__law_job, defBody s__law_job, defScope s__law_job, [], [], []⟩
abbrev s__law_table : Stmt := top 44
abbrev N__law_table : List Str := ["_law_drawn_here", "_law_rows", "_law_name"]
def e__law_table : DefE := ⟨fun K => ga K "_law_table", "_law_table", "_law_table", defArgs s__law_table, defBody s__law_table, defScope s__law_table, [], [], []⟩
abbrev s__law_row : Stmt := top 45
abbrev N__law_row : List Str := ["_law_text", "_law_found", "error"]
def e__law_row : DefE := ⟨fun K => ga K "_law_row", "_law_row", "_law_row", defArgs s__law_row, defBody s__law_row, defScope s__law_row, [], [], []⟩
abbrev s__law_one_right : Stmt := top 46
abbrev N__law_one_right : List Str := ["_law_state", "_law_drawn_here", "_law_lines", "_law_number_here", "_law_name", "_law_text", "_law_odd", "_law_at", "_law_wrong"]
def e__law_one_right : DefE := ⟨fun K => ga K "_law_one_right", "_law_one_right", "_law_one_right", defArgs s__law_one_right, defBody s__law_one_right, defScope s__law_one_right, [], [], []⟩
abbrev s__law_fixed_right : Stmt := top 47
abbrev N__law_fixed_right : List Str := ["_law_thing", "_law_cases", "_law_text", "_law_some", "_law_name", "_law_rows", "_law_due"]
def e__law_fixed_right : DefE := ⟨fun K => ga K "_law_fixed_right", "_law_fixed_right", "_law_fixed_right", defArgs s__law_fixed_right, defBody s__law_fixed_right, defScope s__law_fixed_right, [], [], []⟩
abbrev s_law : Stmt := top 48
abbrev N_law : List Str := ["_law_script", "_law_by"]
def e_law : DefE := ⟨fun K => ga K "law", "law", "law", defArgs s_law, defBody s_law, defScope s_law, [], [], []⟩
def facts : List (PySem.W.Frag → Bool) :=
  [fFree "ValueError", fFree "all", fFree "bool", fFree "dict", fFree "enumerate", fFree "int", fFree "isinstance", fFree "len"] ++ ([fFree "list", fFree "max", fFree "min", fFree "range", fFree "str", fFree "super", fBlt "gcd" "math.gcd", fStr "LETTERS" "abcdefghijklmnopqrstuvwxyz"] ++ ([fInt "LONGEST_NAME" 8, fInt "LONGEST_PERIOD" 12, fInt "HIGHEST_COST" 9, fInt "MOST_JOBS" 4, fInt "LARGEST_PRODUCT" 2000, fInt "WORDS" 5, fGlo "is_at_least", fGlo "is_between"] ++ ([fGlo "is_name", fGlo "all_pairs", fGlo "check_jobs", fGlo "check_timetable", fGlo "keep_apart", fGlo "distance_within", fGlo "are_jobs_apart", fGlo "timetable_text"] ++ ([fGlo "line_of", fGlo "read_timetable", fGlo "read_line", fGlo "read_number", fGlo "table_of", fGlo "_law_cell_at", fGlo "_law_draw", fGlo "_law_number"] ++ ([fGlo "_law_next", fGlo "_law_pick", fGlo "_law_drawn", fGlo "_law_job", fGlo "_law_table", fGlo "_law_row", fGlo "_law_one_right", fGlo "_law_fixed_right"] ++ ([fGlo "law", fExO "ApartError", fExO "BadJob", fExO "BadName", fExO "BadTime", fExm "ApartError" "BadJob" false, fExm "BadJob" "BadJob" true, fExm "BadTimetable" "BadJob" false] ++ ([fExm "BadName" "BadJob" false, fExm "BadTime" "BadJob" false, fExm "BadText" "BadJob" false, fExm "ApartError" "BadTimetable" false, fExm "BadJob" "BadTimetable" false, fExm "BadTimetable" "BadTimetable" true, fExm "BadName" "BadTimetable" false, fExm "BadTime" "BadTimetable" false] ++ ([fExm "BadText" "BadTimetable" false, fExm "ApartError" "BadText" false, fExm "BadJob" "BadText" false, fExm "BadTimetable" "BadText" false, fExm "BadName" "BadText" false, fExm "BadTime" "BadText" false, fExm "BadText" "BadText" true, fSup "BadTimetable" "part" file0] ++ ([fSup "BadText" "row" file0, fGlo "ApartError", fGlo "BadJob", fGlo "BadTimetable", fGlo "BadName", fGlo "BadTime", fGlo "BadText", fGlo "Job"] ++ ([fCls "Job", fMkr "Job", fIsi "Job", fNoat "Job" "_period", fNoat "Job" "_duration", fNoat "Job" "_start", fNoat "Job" "_cost", fProp "Job" "period"] ++ ([fProp "Job" "duration", fProp "Job" "start", fProp "Job" "cost", fMeth "Job" "__eq__", fNe "Job", fMeth "Job" "__rshift__", fun K => fBinI "Job" .RShift K && fMeth "Job" (PySem.dunder (Operator.RShift).info.2) K, fMeth "Job" "__contains__"] ++ ([fMeth "Job" "__len__", fGlo "Timetable", fCls "Timetable", fMkr "Timetable", fIsi "Timetable", fNoat "Timetable" "_jobs", fProp "Timetable" "names", fMeth "Timetable" "__getitem__"] ++ ([fMeth "Timetable" "__getitem__", fMeth "Timetable" "__iter__", fMeth "Timetable" "__contains__", fMeth "Timetable" "__len__", fMeth "Timetable" "__bool__", fMeth "Timetable" "__call__", fMeth "Timetable" "__call__", fMeth "Timetable" "__or__"] ++ ([fun K => fSelf "Timetable" K && fMeth "Timetable" (PySem.dunder (Operator.BitOr).info.2) K, fMeth "Timetable" "__rshift__", fun K => fBinI "Timetable" .RShift K && fMeth "Timetable" (PySem.dunder (Operator.RShift).info.2) K, fMeth "Timetable" "__eq__", fNe "Timetable"]))))))))))))))
def fns : List DefE :=
  [e_is_at_least, e_is_between, e_is_name, e_all_pairs, e_BadTimetable_init, e_BadText_init, e_Job_init, e_Job_period] ++ ([e_Job_duration, e_Job_start, e_Job_cost, e_Job_eq, e_Job_rshift, e_Job_contains, e_Job_len, e_Timetable_init] ++ ([e_Timetable_names, e_Timetable_getitem, e_Timetable_contains, e_Timetable_len, e_Timetable_bool, e_Timetable_call, e_Timetable_or, e_Timetable_rshift] ++ ([e_Timetable_eq, e_check_jobs, e_check_timetable, e_keep_apart, e_distance_within, e_are_jobs_apart, e_timetable_text, e_line_of] ++ ([e_read_timetable, e_read_line, e_read_number, e_table_of, e__law_cell_at, e__law_draw, e__law_number, e__law_next] ++ ([e__law_pick, e__law_drawn, e__law_job, e__law_table, e__law_row, e__law_one_right, e__law_fixed_right, e_law])))))
def names : List PySem.Str :=
  [PySem.Str.ofString "_wall", PySem.Str.ofString "LETTERS", PySem.Str.ofString "LONGEST_NAME", PySem.Str.ofString "is_at_least", PySem.Str.ofString "is_between", PySem.Str.ofString "is_name", PySem.Str.ofString "all_pairs", PySem.Str.ofString "ApartError"] ++ ([PySem.Str.ofString "BadJob", PySem.Str.ofString "BadTimetable", PySem.Str.ofString "BadName", PySem.Str.ofString "BadTime", PySem.Str.ofString "BadText", PySem.Str.ofString "LONGEST_PERIOD", PySem.Str.ofString "HIGHEST_COST", PySem.Str.ofString "MOST_JOBS"] ++ ([PySem.Str.ofString "LARGEST_PRODUCT", PySem.Str.ofString "Job", PySem.Str.ofString "Timetable", PySem.Str.ofString "check_jobs", PySem.Str.ofString "check_timetable", PySem.Str.ofString "keep_apart", PySem.Str.ofString "distance_within", PySem.Str.ofString "are_jobs_apart"] ++ ([PySem.Str.ofString "WORDS", PySem.Str.ofString "timetable_text", PySem.Str.ofString "line_of", PySem.Str.ofString "read_timetable", PySem.Str.ofString "read_line", PySem.Str.ofString "read_number", PySem.Str.ofString "table_of", PySem.Str.ofString "_law_cell_at"] ++ ([PySem.Str.ofString "_law_draw", PySem.Str.ofString "_law_number", PySem.Str.ofString "_law_next", PySem.Str.ofString "_law_pick", PySem.Str.ofString "_law_drawn", PySem.Str.ofString "_law_job", PySem.Str.ofString "_law_table", PySem.Str.ofString "_law_row"] ++ ([PySem.Str.ofString "_law_one_right", PySem.Str.ofString "_law_fixed_right"])))))
def chk (K : PySem.W.Frag) : Bool := facts.all fun f => f K
abbrev R : PySem.W.OpenRow := PySem.W.OpenLaw.row PySem.Challenge.rw_keepapart_k13_whole_texts
abbrev hk : PySem.W.Hook := hookES 6 chk fns
def ob (s : PySem.W.SharedT) : AlE := obsES 6 chk fns (HandSHeadRun.getT s)
theorem ob_eq (s : PySem.W.SharedT) : ob s = hk.obs s.abs := obsES_eq (HandSHeadRun.getT_eq s)
theorem run (w : World) : HandSHeadRun.RunEqI R (PySem.W.view R.prog [0, 48]) hk ob 8000 names w := by
  unfold HandSHeadRun.RunEqI
  kernel_rfl
end KL

/-! own operators of a class -/
namespace KA
open PySem PySem.Spec PyProof.Rows L2

/-- the class at C has the def at f under the special name d -/
structure Dun (K : PySem.W.Frag) (C : Addr) (d : Str) (f : Addr) : Prop where
  at_ : PySem.W.findIn K (.ref C) d = some (some (.ref f))
  fn : PySem.W.isFn K (.ref f) = true

section
variable {X : Cx} {CX : CXT} {k : Nat} {f C a dx : Addr} {fd : FuncData} {ps : List Str} {sp : Sp} {dvs : List V} {ds : List Value} {E : XK} {fs : List (Str × V)}
variable {pins : List (Addr × Obj)} {σ : L2.St} {H : Hp} {s : Shared}

theorem instAt (I : Inv X pins σ H s) (e : H a = some (.ins C dx fs)) : ∃ od, PySem.W.InstAt s.heap a (PySem.W.instObj C dx) C (some od) := by
  obtain ⟨mA, O, _⟩ := ins_get I.hok e
  obtain ⟨od, J, _⟩ := O.look
  exact ⟨od, J⟩

/-- as run_fn, one step deeper (within a built-in function) -/
theorem run_fn1 {Q : VK} {us : List Value} {vs : List V} (F : FnOk X.prog X.w X.K X.mg X.base CX k f fd ps sp) (hr : Room (k + 1) X.A) (hb : Binds X.K fd ps ds) (hd : Vals dvs ds) (hx : Passes CX X E)
    (I : Inv X pins σ H s) (r : Vals vs us) (h : sp (vs ++ dvs) H Q E) : wpAny (model X.prog X.w) X.A.in1 (call (.ref f) us) (EP X pins σ Q) X.xe s := by
  have r2 : Vals (vs ++ dvs) (us ++ ds) := r.append hd
  have hl : (us ++ ds).length = ps.length := by rw [← r2.length]; exact F.len _ _ _ _ h
  refine wpAny_call (codeAny_mono (F.run X.A.in1 X.stack s H ⟨us, []⟩ (us ++ ds) (vs ++ dvs) Q E hr.in1 I.env0.in1 (hb s us I.kIn hl) r2 h) fun r s' hq => ?_)
  cases r with
  | error e => exact hx pins σ H s e s' I hq
  | ok fl =>
    cases fl with
    | ret u => exact I.after hq
    | next => exact False.elim hq
    | brk => exact False.elim hq
    | cont => exact False.elim hq

/-- x in o, by the def of the class of o -/
def rOIn (C : Addr) (sp : Sp) (dvs : List V) (E : XK) (neg : Bool) : R2 := fun x y H Q => ∃ a dx fs, y = .ref a ∧ H a = some (.ins C dx fs) ∧ sp ([.ref a, x] ++ dvs) H (fun v H' => ∃ b, v = .bl b ∧ Q (.bl (if neg then !b else b)) H') E
theorem op_oin (c : Dun X.K C "__contains__" f) (F : FnOk X.prog X.w X.K X.mg X.base CX k f fd ps sp) (hr : Room k X.A) (hb : Binds X.K fd ps ds) (hd : Vals dvs ds) (hx : Passes CX X E) : OpR X (compareOp .In) (rOIn C sp dvs E false) := by
  intro pins s σ H x y v u Q I rx ry h
  obtain ⟨a, dx, fs, rfl, e, q⟩ := h
  cases ry
  obtain ⟨od, J⟩ := instAt I e
  obtain ⟨m, hF⟩ := I.fr
  refine PySem.W.in_K hF I.ok.mod.kin J c.at_ c.fn ?_
  refine thn (run_fn (us := [.ref a, v]) (vs := [.ref a, x]) F hr hb hd hx I (.cons rfl (.cons rx .nil)) q) fun r s' z => ?_
  obtain ⟨w, H', I', rw_, b, rfl, q'⟩ := z
  cases rw_
  exact wpAny_truthy_bool ⟨.bl b, H', I', rfl, q'⟩
theorem op_onin (c : Dun X.K C "__contains__" f) (F : FnOk X.prog X.w X.K X.mg X.base CX k f fd ps sp) (hr : Room k X.A) (hb : Binds X.K fd ps ds) (hd : Vals dvs ds) (hx : Passes CX X E) : OpR X (compareOp .NotIn) (rOIn C sp dvs E true) := by
  intro pins s σ H x y v u Q I rx ry h
  obtain ⟨a, dx, fs, rfl, e, q⟩ := h
  cases ry
  obtain ⟨od, J⟩ := instAt I e
  obtain ⟨m, hF⟩ := I.fr
  refine PySem.W.notIn_K hF I.ok.mod.kin J c.at_ c.fn ?_
  refine thn (run_fn (us := [.ref a, v]) (vs := [.ref a, x]) F hr hb hd hx I (.cons rfl (.cons rx .nil)) q) fun r s' z => ?_
  obtain ⟨w, H', I', rw_, b, rfl, q'⟩ := z
  cases rw_
  exact wpAny_truthy_bool ⟨.bl (!b), H', I', rfl, q'⟩

/-- len(o) -/
def rOLen (C : Addr) (sp : Sp) (dvs : List V) (E : XK) : List V → Hp → VK → Prop := fun xs H Q => ∃ a dx fs, xs = [.ref a] ∧ H a = some (.ins C dx fs) ∧ sp ([.ref a] ++ dvs) H (fun v H' => ∃ n : Int, v = .int n ∧ 0 ≤ n ∧ n < 2 ^ 63 ∧ Q (.int n) H') E
theorem call_olen (c : Dun X.K C "__len__" f) (F : FnOk X.prog X.w X.K X.mg X.base CX k f fd ps sp) (hr : Room (k + 1) X.A) (hb : Binds X.K fd ps ds) (hd : Vals dvs ds) (hx : Passes CX X E) : CallR X (.builtin "len") (rOLen C sp dvs E) := by
  intro pins s σ H xs us Q I r h
  obtain ⟨a, dx, fs, rfl, e, q⟩ := h
  obtain ⟨u, rfl, rx⟩ := vals1 r
  cases rx
  obtain ⟨od, J⟩ := instAt I e
  obtain ⟨m, hF⟩ := I.fr
  refine PySem.W.len_K hF I.ok.mod.kin J c.at_ c.fn ?_
  refine thn (run_fn1 (us := [.ref a]) (vs := [.ref a]) F hr hb hd hx I (.cons rfl .nil) q) fun r s' z => ?_
  obtain ⟨w, H', I', rw_, n, rfl, h0, h1, q'⟩ := z
  obtain ⟨t, rfl⟩ := rw_
  exact ⟨⟨h0, h1⟩, .int n, H', I'.tok _, ⟨_, rfl⟩, q'⟩

/-- the truth of o -/
def rOTru (C : Addr) (sp : Sp) (dvs : List V) (E : XK) : V → Hp → (Bool → Hp → Prop) → Prop := fun x H Q => ∃ a dx fs, x = .ref a ∧ H a = some (.ins C dx fs) ∧ sp ([.ref a] ++ dvs) H (fun v H' => ∃ b, v = .bl b ∧ Q b H') E
theorem tru_o (c : Dun X.K C "__bool__" f) (F : FnOk X.prog X.w X.K X.mg X.base CX k f fd ps sp) (hr : Room k X.A) (hb : Binds X.K fd ps ds) (hd : Vals dvs ds) (hx : Passes CX X E) : TruR X (rOTru C sp dvs E) := by
  intro pins s σ H x v Q I rx h
  obtain ⟨a, dx, fs, rfl, e, q⟩ := h
  cases rx
  obtain ⟨od, J⟩ := instAt I e
  obtain ⟨m, hF⟩ := I.fr
  refine PySem.W.truthy_K hF I.ok.mod.kin J c.at_ c.fn ?_
  refine thn (run_fn (us := [.ref a]) (vs := [.ref a]) F hr hb hd hx I (.cons rfl .nil) q) fun r s' z => ?_
  obtain ⟨w, H', I', rw_, b, rfl, q'⟩ := z
  cases rw_
  exact ⟨H', I', q'⟩

/-- o[i] -/
def rOGet (C : Addr) (sp : Sp) (dvs : List V) (E : XK) : R2 := fun x y H Q => ∃ a dx fs, x = .ref a ∧ H a = some (.ins C dx fs) ∧ sp ([.ref a, y] ++ dvs) H Q E
structure IxO (K : PySem.W.Frag) (C f : Addr) : Prop where
  at_ : PySem.W.findIn K (.ref C) "__getitem__" = some (some (.ref f))
  fn : PySem.W.isFn K (.ref f) = true
  fi : PySem.W.fnIn K f = true
theorem pe_ixO {ea eb : Expr} {ta tb : TE} {pos : Pos} (c : IxO X.K C f) (F : FnOk X.prog X.w X.K X.mg X.base CX k f fd ps sp) (hr : Room (k + 1) X.A) (hb : Binds X.K fd ps ds) (hd : Vals dvs ds) (hx : Passes CX X E)
    (ha : PE X ea ta) (hi : PE X eb tb) (hs : ∀ o i, subscripted eb true o i = runValue (.builtin "lifetime.subscript" ⟨[o, i], []⟩)) : PE X (.Subscript ea eb pos) (tOp (rOGet C sp dvs E) ta tb) := by
  refine ⟨fun pins s σ H Q I h => ?_⟩
  refine Subscript_ (binT ha hi I h fun v u s2 x y H2 I2 rx ry q => ?_)
  obtain ⟨a, dx, fs, rfl, e, q⟩ := q
  cases rx
  obtain ⟨od, J⟩ := instAt I2 e
  obtain ⟨m, hF⟩ := I2.fr
  exact PySem.W.sub_K hF I2.ok.mod.kin J c.at_ c.fi c.fn (run_fn1 (us := [.ref a, u]) (vs := [.ref a, y]) F hr hb hd hx I2 (.cons rfl (.cons ry .nil)) q) (hs _ _)

/-- a op b, b a thing of a built-in kind T -/
structure BinT (K : PySem.W.Frag) (C : Addr) (op : Operator) (T : String) (f : Addr) : Prop where
  sf : PySem.W.selfFirst K C = true
  at_ : PySem.W.findIn K (.ref C) (PySem.dunder op.info.2) = some (some (.ref f))
  fn : PySem.W.isFn K (.ref f) = true
  rc : PySem.W.findIn K (.ref C) (dunderR op.info.2) = some none
  fo : ∃ o, PySem.W.findIn K (.type T) (PySem.dunder op.info.2) = some o
  ro : ∃ o, PySem.W.findIn K (.type T) (dunderR op.info.2) = some o
  sub : PySem.W.subIn K (.type T) (.ref C) = some false
/-- what never is NotImplemented, as a value of the layer -/
theorem back_of {Q : VK} {v : V} {u : Value} {s' : Shared} {H' : Hp} (I' : Inv X pins σ H' s') (r : RelV v u) (q : Q v H') : PySem.W.CmpBack (EP X pins σ Q) u s' := by
  have h : EP X pins σ Q u s' := ⟨v, H', I', r, q⟩
  cases v with
  | non => cases r; exact h
  | bl b => cases r; exact h
  | int i => obtain ⟨t, e⟩ := r; subst e; exact h
  | str i => obtain ⟨t, e⟩ := r; subst e; exact h
  | byt i => obtain ⟨t, e⟩ := r; subst e; exact h
  | flt i => obtain ⟨t, e⟩ := r; subst e; exact h
  | ref a => cases r; exact h
  | ty n => cases r; exact h
def rOBinI (C : Addr) (sp : Sp) (dvs : List V) (E : XK) : R2 := fun x y H Q => ∃ a dx fs i, x = .ref a ∧ y = .int i ∧ H a = some (.ins C dx fs) ∧ sp ([.ref a, .int i] ++ dvs) H Q E
theorem op_obinI {op : Operator} (c : BinT X.K C op "int" f) (F : FnOk X.prog X.w X.K X.mg X.base CX k f fd ps sp) (hr : Room k X.A) (hb : Binds X.K fd ps ds) (hd : Vals dvs ds) (hx : Passes CX X E) : OpR X (binaryOp op) (rOBinI C sp dvs E) := by
  intro pins s σ H x y v u Q I rx ry h
  obtain ⟨a, dx, fs, i, rfl, rfl, e, q⟩ := h
  cases rx
  have ry' := ry
  obtain ⟨t, rfl⟩ := ry
  obtain ⟨od, J⟩ := instAt I e
  obtain ⟨m, hF⟩ := I.fr
  obtain ⟨fo, h1⟩ := c.fo
  obtain ⟨ro, h2⟩ := c.ro
  refine PySem.W.ksp_binT (T := "int") hF I.ok.mod.kin J rfl c.sf c.at_ c.fn c.rc (.inl rfl) h1 h2 c.sub ?_
  refine thn (run_fn (us := [.ref a, .int i t]) (vs := [.ref a, .int i]) F hr hb hd hx I (.cons rfl (.cons ry' .nil)) q) fun r s' z => ?_
  obtain ⟨w, H', I', rw_, q'⟩ := z
  exact back_of I' rw_ q'
/-- a op b, both of the class -/
structure BinO (K : PySem.W.Frag) (C : Addr) (op : Operator) (f : Addr) : Prop where
  sf : PySem.W.selfFirst K C = true
  at_ : PySem.W.findIn K (.ref C) (PySem.dunder op.info.2) = some (some (.ref f))
  fn : PySem.W.isFn K (.ref f) = true
def rOBin (C : Addr) (sp : Sp) (dvs : List V) (E : XK) : R2 := fun x y H Q => ∃ a dx fs b dy gs, x = .ref a ∧ y = .ref b ∧ H a = some (.ins C dx fs) ∧ H b = some (.ins C dy gs) ∧ sp ([.ref a, .ref b] ++ dvs) H Q E
theorem op_obin {op : Operator} (c : BinO X.K C op f) (F : FnOk X.prog X.w X.K X.mg X.base CX k f fd ps sp) (hr : Room k X.A) (hb : Binds X.K fd ps ds) (hd : Vals dvs ds) (hx : Passes CX X E) : OpR X (binaryOp op) (rOBin C sp dvs E) := by
  intro pins s σ H x y v u Q I rx ry h
  obtain ⟨a, dx, fs, b, dy, gs, rfl, rfl, e, e2, q⟩ := h
  cases rx
  cases ry
  obtain ⟨od, J⟩ := instAt I e
  obtain ⟨od2, J2⟩ := instAt I e2
  obtain ⟨m, hF⟩ := I.fr
  refine PySem.W.binop_K hF I.ok.mod.kin J J2.type c.sf c.at_ c.fn ?_
  refine thn (run_fn (us := [.ref a, .ref b]) (vs := [.ref a, .ref b]) F hr hb hd hx I (.cons rfl (.cons rfl .nil)) q) fun r s' z => ?_
  obtain ⟨w, H', I', rw_, q'⟩ := z
  exact back_of I' rw_ q'

/-- x == y, x != y, both of the class, by its own def -/
def rOEq (C : Addr) (sp : Sp) (dvs : List V) (E : XK) : R2 := fun x y H Q => ∃ a dx fs b dy gs, x = .ref a ∧ y = .ref b ∧ H a = some (.ins C dx fs) ∧ H b = some (.ins C dy gs) ∧ sp ([.ref a, .ref b] ++ dvs) H Q E
theorem op_oeq (c : Dun X.K C "__eq__" f) (F : FnOk X.prog X.w X.K X.mg X.base CX k f fd ps sp) (hr : Room k X.A) (hb : Binds X.K fd ps ds) (hd : Vals dvs ds) (hx : Passes CX X E) : OpR X (compareOp .Eq) (rOEq C sp dvs E) := by
  intro pins s σ H x y v u Q I rx ry h
  obtain ⟨a, dx, fs, b, dy, gs, rfl, rfl, e, e2, q⟩ := h
  cases rx
  cases ry
  obtain ⟨od, J⟩ := instAt I e
  obtain ⟨od2, J2⟩ := instAt I e2
  obtain ⟨m, hF⟩ := I.fr
  show wpAny _ _ (richCompare .Eq _ _) _ _ _
  refine PySem.W.cmp_K (op := .Eq) (tb := .ref C) hr.units0 hF I.ok.mod.kin J J2.type (by simp [PySem.W.notFirst]) c.at_ c.fn ?_
  refine thn (run_fn (us := [.ref a, .ref b]) (vs := [.ref a, .ref b]) F hr hb hd hx I (.cons rfl (.cons rfl .nil)) q) fun r s' z => ?_
  obtain ⟨w, H', I', rw_, q'⟩ := z
  exact back_of I' rw_ q'
end
end KA

/-! values with what they stand for; the state of a frame; what an expression gives -/
namespace KA
open PySem PySem.Spec PyProof.Rows L2
/-- what stands at a place, a dict that is walked read as itself -/
def kn (x : Option HO) : HO → Prop
  | .dK kvs => x = some (.dK kvs) ∨ ∃ o, x = some (.frz o (.dK kvs))
  | .dT kvs => x = some (.dT kvs) ∨ ∃ o, x = some (.frz o (.dT kvs))
  | .frz _ (.dK _) => True
  | .frz _ (.dT _) => True
  | u => x = some u
def Ex (H H' : Hp) : Prop := ∀ a u, kn (H a) u → kn (H' a) u
theorem kn_none {u : HO} (h : kn none u) : (∃ o kvs, u = .frz o (.dK kvs)) ∨ ∃ o kvs, u = .frz o (.dT kvs) := by
  cases u with
  | dK kvs => rcases h with h | ⟨_, h⟩ <;> cases h
  | dT kvs => rcases h with h | ⟨_, h⟩ <;> cases h
  | frz o u =>
    cases u with
    | dK kvs => exact .inl ⟨o, kvs, rfl⟩
    | dT kvs => exact .inr ⟨o, kvs, rfl⟩
    | _ => cases h
  | _ => cases h
theorem kn_any {x : Option HO} {u : HO} (h : kn none u) : kn x u := by
  rcases kn_none h with ⟨o, kvs, rfl⟩ | ⟨o, kvs, rfl⟩ <;> exact True.intro
theorem kn_same {o : HO} : kn (some o) o := by
  cases o with
  | dK kvs => exact .inl rfl
  | dT kvs => exact .inl rfl
  | frz o u =>
    cases u with
    | dK kvs => exact True.intro
    | dT kvs => exact True.intro
    | _ => rfl
  | _ => rfl
theorem Ex.refl (H : Hp) : Ex H H := fun _ _ h => h
theorem Ex.trans {H H1 H2 : Hp} (a : Ex H H1) (b : Ex H1 H2) : Ex H H2 := fun x o h => b x o (a x o h)
theorem Ex.mut {H H' : Hp} {p : Addr} {o : HO} (e : Ex H H') (h : H p = none) : Ex H (upd H' p o) := fun a u ha => by
  by_cases z : a = p
  · subst z; rw [h] at ha; exact kn_any ha
  · rw [upd_ne z]; exact e a u ha
theorem Ex.new {H : Hp} {p : Addr} {o : HO} (h : H p = none) : Ex H (upd H p o) := Ex.mut (Ex.refl H) h
theorem Ex.upd2 {Hk H : Hp} {p : Addr} {o : HO} (k : Ex Hk H) (h : H p = some o) : Ex (upd Hk p o) H := fun a u ha => by
  by_cases z : a = p
  · subst z; rw [upd_same] at ha; rw [h]; exact ha
  · rw [upd_ne z] at ha; exact k a u ha
theorem Ex.both {Hk H : Hp} {p : Addr} {o : HO} (k : Ex Hk H) : Ex (upd Hk p o) (upd H p o) := fun a u ha => by
  by_cases z : a = p
  · subst z; rw [upd_same] at ha ⊢; exact ha
  · rw [upd_ne z] at ha ⊢; exact k a u ha
theorem Ex.back {H H' : Hp} {p : Addr} (e : Ex H H') (h : H' p = none) : H p = none := by
  cases q : H p with
  | none => rfl
  | some o =>
    have k := e p o (by rw [q]; exact kn_same)
    rw [h] at k
    rcases kn_none k with ⟨ob, kvs, rfl⟩ | ⟨ob, kvs, rfl⟩
    · have k := e p (.dK kvs) (by rw [q]; exact .inr ⟨_, rfl⟩)
      rw [h] at k
      rcases k with k | ⟨_, k⟩ <;> cases k
    · have k := e p (.dT kvs) (by rw [q]; exact .inr ⟨_, rfl⟩)
      rw [h] at k
      rcases k with k | ⟨_, k⟩ <;> cases k
theorem Ex.lst {H H' : Hp} {a : Addr} {xs : List V} (e : Ex H H') (h : H a = some (.lst xs)) : H' a = some (.lst xs) := e a (.lst xs) h
theorem Ex.tup {H H' : Hp} {a : Addr} {xs : List V} (e : Ex H H') (h : H a = some (.tup xs)) : H' a = some (.tup xs) := e a (.tup xs) h
theorem Ex.ins {H H' : Hp} {a C dx : Addr} {fs : List (Str × V)} (e : Ex H H') (h : H a = some (.ins C dx fs)) : H' a = some (.ins C dx fs) := e a (.ins C dx fs) h
theorem Ex.frzL {H H' : Hp} {a : Addr} {o : Obj} {xs : List V} (e : Ex H H') (h : H a = some (.frz o (.lst xs))) : H' a = some (.frz o (.lst xs)) := e a (.frz o (.lst xs)) h
theorem Ex.frzT {H H' : Hp} {a : Addr} {o : Obj} {xs : List V} (e : Ex H H') (h : H a = some (.frz o (.tup xs))) : H' a = some (.frz o (.tup xs)) := e a (.frz o (.tup xs)) h
theorem Ex.dK {H H' : Hp} {a : Addr} {kvs : List (Key × V)} (e : Ex H H') (h : Rd H a (.dK kvs)) : Rd H' a (.dK kvs) := e a (.dK kvs) h
theorem Ex.dT {H H' : Hp} {a : Addr} {kvs : List (List Key × V)} (e : Ex H H') (h : Rd H a (.dT kvs)) : Rd H' a (.dT kvs) := e a (.dT kvs) h
theorem ex_l {K : PySem.W.Frag} {H H' : Hp} {a : Addr} {xs : List V} (e : Ex H H') (h : SqL K H a xs) : SqL K H' a xs := by
  rcases h with (h | ⟨o, h⟩) | h
  · exact Or.inl (.inl (e.lst h))
  · exact Or.inl (.inr ⟨o, e.frzL h⟩)
  · exact Or.inr h
theorem ex_t {K : PySem.W.Frag} {H H' : Hp} {a : Addr} {xs : List V} (e : Ex H H') (h : SqT K H a xs) : SqT K H' a xs := by
  rcases h with (h | ⟨o, h⟩) | h
  · exact Or.inl (.inl (e.tup h))
  · exact Or.inl (.inr ⟨o, e.frzT h⟩)
  · exact Or.inr h
/-- how a thing of the kind a stands in the heap -/
structure Rp (α : Type) where
  r : α → V → Hp → Prop
  mono : ∀ {x : α} {v : V} {H H' : Hp}, Ex H H' → r x v H → r x v H'
structure En where
  t : Type
  A : Rp t
  x : t
def En.ok (e : En) (v : V) (H : Hp) : Prop := e.A.r e.x v H
theorem En.mono {e : En} {v : V} {H H' : Hp} (k : Ex H H') (h : e.ok v H) : e.ok v H' := e.A.mono k h
abbrev en {α : Type} (A : Rp α) (x : α) : En := ⟨α, A, x⟩
abbrev Ctx := List (Option En)
structure Cell where
  a : Addr
  p : HO → Hp → Prop
  mono : ∀ {o : HO} {H H' : Hp}, Ex H H' → p o H → p o H'
abbrev Tm := List (En × V)
/-- from (what is known, what is) to (what is known, what is): but for W all is kept -/
structure Grow (W : List Addr) (Hk H Hk' H' : Hp) : Prop where
  kk : Ex Hk Hk'
  kh : Ex Hk' H'
  hh : ∀ a o, a ∉ W → H a = some o → H' a = some o
  nw : ∀ a, Hk a = none → H a ≠ none → Hk' a = none
  ws : ∀ a, a ∈ W → H a ≠ none → H' a ≠ none
theorem Grow.refl {W : List Addr} {Hk H : Hp} (k : Ex Hk H) : Grow W Hk H Hk H := ⟨Ex.refl _, k, fun _ _ _ h => h, fun _ h _ => h, fun _ _ h => h⟩
theorem Grow.stay {W : List Addr} {Hk H Hk' H' : Hp} (g : Grow W Hk H Hk' H') {a : Addr} (h : H a ≠ none) : H' a ≠ none := by
  by_cases w : a ∈ W
  · exact g.ws a w h
  · cases e : H a with
    | none => exact (h e).elim
    | some o => rw [g.hh a o w e]; intro z; cases z
theorem Grow.trans {W : List Addr} {Hk H Hk1 H1 Hk2 H2 : Hp} (g : Grow W Hk H Hk1 H1) (k : Grow W Hk1 H1 Hk2 H2) : Grow W Hk H Hk2 H2 where
  kk := g.kk.trans k.kk
  kh := k.kh
  hh := fun a o w e => k.hh a o w (g.hh a o w e)
  nw := fun a e n => k.nw a (g.nw a e n) (g.stay n)
  ws := fun a w n => k.ws a w (g.ws a w n)
theorem Grow.wide {W : List Addr} {Hk H Hk' H' : Hp} (g : Grow [] Hk H Hk' H') : Grow W Hk H Hk' H' where
  kk := g.kk
  kh := g.kh
  hh := fun a o _ e => g.hh a o (by simp) e
  nw := g.nw
  ws := fun a _ n => g.stay n
theorem Grow.new {W : List Addr} {Hk H : Hp} {p : Addr} {o : HO} (k : Ex Hk H) (hp : H p = none) : Grow W Hk H (upd Hk p o) (upd H p o) where
  kk := Ex.new (k.back hp)
  kh := k.both
  hh := fun a u _ e => by rw [upd_ne (ne_of_none e hp)]; exact e
  nw := fun a e n => by
    have z : a ≠ p := fun z => n (by rw [z]; exact hp)
    rw [upd_ne z]; exact e
  ws := fun a _ n => by
    have z : a ≠ p := fun z => n (by rw [z]; exact hp)
    rw [upd_ne z]; exact n
/-- the state of a frame -/
structure AtH (W : List Addr) (Hk0 H0 : Hp) (Γ : Ctx) (Ω : List Cell) (T : Tm) (σ : L2.St) (Hk H : Hp) : Prop where
  len : σ.length = Γ.length
  sl : ∀ (i : Nat) (e : En), Γ[i]? = some (some e) → ∃ v, σ[i]? = some (some v) ∧ e.ok v Hk
  tp : ∀ p ∈ T, p.1.ok p.2 Hk
  nd : (Ω.map Cell.a).Nodup
  cl : ∀ c ∈ Ω, Hk c.a = none ∧ (∃ o, H c.a = some o ∧ c.p o Hk) ∧ (c.a ∈ W ∨ H0 c.a = none)
  gr : Grow W Hk0 H0 Hk H
  ww : ∀ a ∈ W, H a ≠ none ∧ Hk a = none
def At (W : List Addr) (Hk0 H0 : Hp) (Γ : Ctx) (Ω : List Cell) (T : Tm) (σ : L2.St) (H : Hp) : Prop := ∃ Hk, AtH W Hk0 H0 Γ Ω T σ Hk H
section
variable {W : List Addr} {Hk0 H0 : Hp} {Γ : Ctx} {Ω Ω1 Ω2 Ω3 : List Cell} {T T' : Tm} {σ : L2.St} {Hk H : Hp}
theorem AtH.grow {Hk' H' : Hp} (a : AtH W Hk0 H0 Γ Ω T σ Hk H) (g : Grow [] Hk H Hk' H') : AtH W Hk0 H0 Γ Ω T σ Hk' H' where
  len := a.len
  sl := fun i e h => let ⟨v, h1, h2⟩ := a.sl i e h; ⟨v, h1, En.mono g.kk h2⟩
  tp := fun p h => En.mono g.kk (a.tp p h)
  nd := a.nd
  cl := fun c h => by
    obtain ⟨h1, ⟨o, h2, h3⟩, h4⟩ := a.cl c h
    exact ⟨g.nw _ h1 (by rw [h2]; intro z; cases z), ⟨o, g.hh _ _ (by simp) h2, c.mono g.kk h3⟩, h4⟩
  gr := a.gr.trans g.wide
  ww := fun b w => ⟨g.stay (a.ww b w).1, g.nw b (a.ww b w).2 (a.ww b w).1⟩
theorem AtH.sub (a : AtH W Hk0 H0 Γ Ω T σ Hk H) (h : ∀ p ∈ T', p ∈ T) : AtH W Hk0 H0 Γ Ω T' σ Hk H := { a with tp := fun p q => a.tp p (h p q) }
theorem AtH.push (a : AtH W Hk0 H0 Γ Ω T σ Hk H) {e : En} {v : V} (h : e.ok v Hk) : AtH W Hk0 H0 Γ Ω ((e, v) :: T) σ Hk H :=
  { a with tp := fun p q => (List.mem_cons.mp q).elim (fun z => by subst z; exact h) fun q => a.tp p q }
theorem At.sub (a : At W Hk0 H0 Γ Ω T σ H) (h : ∀ p ∈ T', p ∈ T) : At W Hk0 H0 Γ Ω T' σ H := let ⟨Hk, a⟩ := a; ⟨Hk, a.sub h⟩
theorem At.pop {e : En} {v : V} (a : At W Hk0 H0 Γ Ω ((e, v) :: T) σ H) : At W Hk0 H0 Γ Ω T σ H := a.sub fun _ h => List.mem_cons_of_mem _ h

/-- an expression gives e -/
def Ev (te : TE) (Γ : Ctx) (Ω : List Cell) (e : En) (Ω' : List Cell) : Prop := ∀ W Hk0 H0 T σ H, At W Hk0 H0 Γ Ω T σ H → ∀ Q : VK, (∀ v H', At W Hk0 H0 Γ Ω' ((e, v) :: T) σ H' → Q v H') → te σ H Q
def EvB (tt : TT) (Γ : Ctx) (Ω : List Cell) (b : Bool) (Ω' : List Cell) : Prop := ∀ W Hk0 H0 T σ H, At W Hk0 H0 Γ Ω T σ H → ∀ Q : Bool → Hp → Prop, (∀ H', At W Hk0 H0 Γ Ω' T σ H' → Q b H') → tt σ H Q
def EvA (ta : TA) (Γ : Ctx) (Ω : List Cell) (es : List En) (Ω' : List Cell) : Prop := ∀ W Hk0 H0 T σ H, At W Hk0 H0 Γ Ω T σ H → ∀ Q : List V → Hp → Prop, (∀ vs H', es.length = vs.length → At W Hk0 H0 Γ Ω' (es.zip vs ++ T) σ H' → Q vs H') → ta σ H Q

/-- a value-level two-place rule, given what its arguments are -/
def RvE (r : R2) (e1 e2 : En) (e : En) : Prop := ∀ Hk H x y, Ex Hk H → e1.ok x Hk → e2.ok y Hk → ∀ Q : VK, (∀ v Hk' H', Grow [] Hk H Hk' H' → e.ok v Hk' → Q v H') → r x y H Q
def RuE (r : V → Hp → VK → Prop) (e1 : En) (e : En) : Prop := ∀ Hk H x, Ex Hk H → e1.ok x Hk → ∀ Q : VK, (∀ v Hk' H', Grow [] Hk H Hk' H' → e.ok v Hk' → Q v H') → r x H Q
def OkAll : List En → List V → Hp → Prop
  | [], [], _ => True
  | e :: es, v :: vs, H => En.ok e v H ∧ OkAll es vs H
  | _, _, _ => False
def RcE (r : List V → Hp → VK → Prop) (es : List En) (e : En) : Prop := ∀ Hk H vs, Ex Hk H → OkAll es vs Hk → ∀ Q : VK, (∀ v Hk' H', Grow [] Hk H Hk' H' → e.ok v Hk' → Q v H') → r vs H Q
theorem OkAll.of_zip {Hk : Hp} : ∀ {es : List En} {vs : List V}, es.length = vs.length → (∀ p ∈ es.zip vs, p.1.ok p.2 Hk) → OkAll es vs Hk
  | [], [], _, _ => True.intro
  | e :: es, v :: vs, hl, h => ⟨h (e, v) (by simp), OkAll.of_zip (by simpa using hl) fun p q => h p (by simp [q])⟩
  | [], _ :: _, hl, _ => by simp at hl
  | _ :: _, [], hl, _ => by simp at hl
theorem OkAll.mono {H H' : Hp} (k : Ex H H') : ∀ {es : List En} {vs : List V}, OkAll es vs H → OkAll es vs H'
  | [], [], _ => True.intro
  | _ :: _, _ :: _, h => ⟨En.mono k h.1, OkAll.mono k h.2⟩
  | [], _ :: _, h => h
  | _ :: _, [], h => h
theorem OkAll.append {H : Hp} : ∀ {es fs : List En} {vs ws : List V}, OkAll es vs H → OkAll fs ws H → OkAll (es ++ fs) (vs ++ ws) H
  | [], _, [], _, _, h => h
  | _ :: _, _, _ :: _, _, h, k => ⟨h.1, OkAll.append h.2 k⟩
  | [], _, _ :: _, _, h, _ => h.elim
  | _ :: _, _, [], _, h, _ => h.elim
theorem OkAll.len {H : Hp} : ∀ {es : List En} {vs : List V}, OkAll es vs H → es.length = vs.length
  | [], [], _ => rfl
  | _ :: _, _ :: _, h => by simp [OkAll.len h.2]
  | [], _ :: _, h => h.elim
  | _ :: _, [], h => h.elim

variable {ta tb te : TE} {e e1 e2 : En} {tt tu : TT} {b b2 : Bool}
theorem ev_var {i : Nat} (h : Γ[i]? = some (some e)) : Ev (tVar i) Γ Ω e Ω := fun _ _ _ _ _ H ⟨Hk, a⟩ _ q => by
  obtain ⟨v, h1, h2⟩ := a.sl i e h
  exact ⟨v, h1, q v H ⟨Hk, a.push h2⟩⟩
theorem ev_c {v : V} (h : ∀ H, e.ok v H) : Ev (tC v) Γ Ω e Ω := fun _ _ _ _ _ H ⟨Hk, a⟩ _ q => q v H ⟨Hk, a.push (h Hk)⟩
theorem ev_op {r : R2} (h1 : Ev ta Γ Ω e1 Ω1) (h2 : Ev tb Γ Ω1 e2 Ω2) (hr : RvE r e1 e2 e) : Ev (tOp r ta tb) Γ Ω e Ω2 := fun W Hk0 H0 T σ H a Q q =>
  h1 W Hk0 H0 T σ H a _ fun x H1 a1 => h2 W Hk0 H0 _ σ H1 a1 _ fun y H2 ⟨Hk2, a2⟩ => hr Hk2 H2 x y a2.gr.kh (a2.tp (e1, x) (by simp)) (a2.tp (e2, y) (by simp)) Q fun v Hk' H' g hv =>
    q v H' ⟨Hk', ((a2.grow g).sub (T' := T) fun p hp => by simp [hp]).push hv⟩
theorem ev_un {r : V → Hp → VK → Prop} (h1 : Ev ta Γ Ω e1 Ω1) (hr : RuE r e1 e) : Ev (tUn r ta) Γ Ω e Ω1 := fun W Hk0 H0 T σ H a Q q =>
  h1 W Hk0 H0 T σ H a _ fun x H1 ⟨Hk1, a1⟩ => hr Hk1 H1 x a1.gr.kh (a1.tp (e1, x) (by simp)) Q fun v Hk' H' g hv => q v H' ⟨Hk', ((a1.grow g).sub (T' := T) fun p hp => by simp [hp]).push hv⟩
theorem ea_nil : EvA tNil Γ Ω [] Ω := fun W Hk0 H0 T σ H a Q q => q [] H rfl a
theorem ea_cons {tr : TA} {es : List En} (h1 : Ev ta Γ Ω e Ω1) (h2 : EvA tr Γ Ω1 es Ω2) : EvA (tCons ta tr) Γ Ω (e :: es) Ω2 := fun W Hk0 H0 T σ H a Q q =>
  h1 W Hk0 H0 T σ H a _ fun x H1 a1 => h2 W Hk0 H0 _ σ H1 a1 _ fun vs H2 hl a2 => q (x :: vs) H2 (by simp [hl]) (a2.sub fun p hp => by
    simp at hp ⊢
    rcases hp with rfl | hp | hp
    · simp
    · simp [hp]
    · simp [hp])
theorem ev_cb {r : List V → Hp → VK → Prop} {ta : TA} {es : List En} (h : EvA ta Γ Ω es Ω1) (hr : RcE r es e) : Ev (tCB r ta) Γ Ω e Ω1 := fun W Hk0 H0 T σ H a Q q =>
  h W Hk0 H0 T σ H a _ fun vs H1 hl ⟨Hk1, a1⟩ => hr Hk1 H1 vs a1.gr.kh (.of_zip hl fun p hp => a1.tp p (by simp [hp])) Q fun v Hk' H' g hv => q v H' ⟨Hk', ((a1.grow g).sub (T' := T) fun p hp => by simp [hp]).push hv⟩

/-! ### kinds -/
def rInt : Rp Int := ⟨fun n v _ => v = .int n, fun _ h => h⟩
def rBool : Rp Bool := ⟨fun b v _ => v = .bl b, fun _ h => h⟩
def rStr : Rp Str := ⟨fun z v _ => v = .str z, fun _ h => h⟩
def rNon : Rp Unit := ⟨fun _ v _ => v = .non, fun _ h => h⟩
def rOpt {α : Type} (A : Rp α) : Rp (Option α) := ⟨fun o v H => match o with | none => v = .non | some x => A.r x v H, fun {o} {_ _ _} k h => by
  cases o with
  | none => exact h
  | some x => exact A.mono k h⟩
/-- a thing as it is -/
def rVal : Rp V := ⟨fun u v _ => v = u, fun _ h => h⟩
inductive Al {α : Type} (A : Rp α) (H : Hp) : List α → List V → Prop where
  | nil : Al A H [] []
  | cons {x : α} {v : V} {xs : List α} {vs : List V} : A.r x v H → Al A H xs vs → Al A H (x :: xs) (v :: vs)
theorem Al.mono {α : Type} {A : Rp α} {H H' : Hp} (k : Ex H H') {xs : List α} {vs : List V} (h : Al A H xs vs) : Al A H' xs vs := by
  induction h with
  | nil => exact .nil
  | cons h _ ih => exact .cons (A.mono k h) ih
theorem Al.len {α : Type} {A : Rp α} {H : Hp} {xs : List α} {vs : List V} (h : Al A H xs vs) : xs.length = vs.length := by
  induction h with
  | nil => rfl
  | cons _ _ ih => simp [ih]
theorem Al.get {α : Type} {A : Rp α} {H : Hp} {xs : List α} {vs : List V} (h : Al A H xs vs) : ∀ {i : Nat} {x : α}, xs[i]? = some x → ∃ v, vs[i]? = some v ∧ A.r x v H := by
  induction h with
  | nil => intro i x e; simp at e
  | @cons y v xs vs hy _ ih =>
    intro i x e
    cases i with
    | zero => simp at e; subst e; exact ⟨v, rfl, hy⟩
    | succ i => simp at e; obtain ⟨w, h1, h2⟩ := ih e; exact ⟨w, by simpa using h1, h2⟩
theorem Al.back {α : Type} {A : Rp α} {H : Hp} {xs : List α} {vs : List V} (h : Al A H xs vs) {i : Nat} {v : V} (e : vs[i]? = some v) : ∃ x, xs[i]? = some x ∧ A.r x v H := by
  have hi : i < xs.length := by rw [h.len]; exact (List.getElem?_eq_some_iff.mp e).1
  obtain ⟨w, h1, h2⟩ := h.get (List.getElem?_eq_getElem hi)
  rw [e] at h1
  cases h1
  exact ⟨_, List.getElem?_eq_getElem hi, h2⟩
theorem Al.append {α : Type} {A : Rp α} {H : Hp} {xs ys : List α} {vs ws : List V} (h : Al A H xs vs) (k : Al A H ys ws) : Al A H (xs ++ ys) (vs ++ ws) := by
  induction h with
  | nil => exact k
  | cons h _ ih => exact .cons h ih
theorem Al.one {α : Type} {A : Rp α} {H : Hp} {x : α} {v : V} (h : A.r x v H) : Al A H [x] [v] := .cons h .nil
theorem Al.map_int {H : Hp} : ∀ {xs : List Int} {vs : List V}, Al rInt H xs vs → vs = xs.map V.int
  | _, _, .nil => rfl
  | _, _, .cons h t => by rw [Al.map_int t]; cases h; rfl
theorem Al.map_bl {H : Hp} : ∀ {xs : List Bool} {vs : List V}, Al rBool H xs vs → vs = xs.map V.bl
  | _, _, .nil => rfl
  | _, _, .cons h t => by rw [Al.map_bl t]; cases h; rfl
theorem Al.of_map_int {H : Hp} : ∀ {xs : List Int}, Al rInt H xs (xs.map V.int)
  | [] => .nil
  | _ :: _ => .cons rfl Al.of_map_int
variable (K : PySem.W.Frag)
def rList {α : Type} (A : Rp α) : Rp (List α) := ⟨fun xs v H => ∃ a vs, v = .ref a ∧ H a = some (.lst vs) ∧ Al A H xs vs, fun k ⟨a, vs, h1, h2, h3⟩ => ⟨a, vs, h1, k.lst h2, h3.mono k⟩⟩
def rTupL {α : Type} (A : Rp α) : Rp (List α) := ⟨fun xs v H => ∃ a vs, v = .ref a ∧ SqT K H a vs ∧ Al A H xs vs, fun k ⟨a, vs, h1, h2, h3⟩ => ⟨a, vs, h1, ex_t k h2, h3.mono k⟩⟩
def rPair {α β : Type} (A : Rp α) (B : Rp β) : Rp (α × β) := ⟨fun p v H => ∃ a x y, v = .ref a ∧ SqT K H a [x, y] ∧ A.r p.1 x H ∧ B.r p.2 y H, fun k ⟨a, x, y, h1, h2, h3, h4⟩ => ⟨a, x, y, h1, ex_t k h2, A.mono k h3, B.mono k h4⟩⟩
end
end KA

/-! cells, statements, loops, comprehensions -/
namespace KA
open PySem PySem.Spec PyProof.Rows L2
section
variable {W : List Addr} {Hk0 H0 : Hp} {Γ Γ' : Ctx} {Ω Ω1 Ω2 Ω3 : List Cell} {T T' : Tm} {σ : L2.St} {Hk H : Hp}
/-! ### cells -/
theorem AtH.newCell {p : Addr} {o : HO} {c : Cell} (a : AtH W Hk0 H0 Γ Ω T σ Hk H) (hp : H p = none) (hc : c.a = p) (h : c.p o Hk) : AtH W Hk0 H0 Γ (c :: Ω) T σ Hk (upd H p o) where
  len := a.len
  sl := a.sl
  tp := a.tp
  nd := by
    rw [List.map_cons, List.nodup_cons]
    refine ⟨fun z => ?_, a.nd⟩
    obtain ⟨d, hd, e⟩ := List.mem_map.mp z
    obtain ⟨_, ⟨u, h2, _⟩, _⟩ := a.cl d hd
    rw [e, hc, hp] at h2
    cases h2
  cl := fun d hd => by
    rcases List.mem_cons.mp hd with rfl | hd
    · refine ⟨by rw [hc]; exact a.gr.kh.back hp, ⟨o, by rw [hc]; exact upd_same, h⟩, ?_⟩
      by_cases w : d.a ∈ W
      · exact .inl w
      · refine .inr ?_
        cases q : H0 d.a with
        | none => rfl
        | some u =>
          have := a.gr.hh _ _ w q
          rw [hc, hp] at this
          cases this
    · obtain ⟨h1, ⟨u, h2, h3⟩, h4⟩ := a.cl d hd
      exact ⟨h1, ⟨u, by rw [upd_ne (ne_of_none h2 hp)]; exact h2, h3⟩, h4⟩
  gr := ⟨a.gr.kk, Ex.trans a.gr.kh (Ex.new hp), fun b u w e => by rw [upd_ne (ne_of_none (a.gr.hh b u w e) hp)]; exact a.gr.hh b u w e, a.gr.nw, fun b w n => by
    have := (a.ww b w).1
    have z : b ≠ p := fun z => this (by rw [z]; exact hp)
    rw [upd_ne z]; exact this⟩
  ww := fun b w => by
    obtain ⟨h1, h2⟩ := a.ww b w
    have z : b ≠ p := fun z => h1 (by rw [z]; exact hp)
    exact ⟨by rw [upd_ne z]; exact h1, h2⟩
theorem AtH.write {o' : HO} {c c' : Cell} (a : AtH W Hk0 H0 Γ (c :: Ω) T σ Hk H) (hc : c'.a = c.a) (h : c'.p o' Hk) : AtH W Hk0 H0 Γ (c' :: Ω) T σ Hk (upd H c.a o') where
  len := a.len
  sl := a.sl
  tp := a.tp
  nd := by have := a.nd; rw [List.map_cons] at this ⊢; rw [hc]; exact this
  cl := fun d hd => by
    obtain ⟨h1, ⟨u, h2, h3⟩, h4⟩ := a.cl c (by simp)
    rcases List.mem_cons.mp hd with rfl | hd
    · exact ⟨by rw [hc]; exact h1, ⟨o', by rw [hc]; exact upd_same, h⟩, by rw [hc]; exact h4⟩
    · obtain ⟨k1, ⟨v, k2, k3⟩, k4⟩ := a.cl d (List.mem_cons_of_mem _ hd)
      have ne : d.a ≠ c.a := fun e => by
        have nd := a.nd
        rw [List.map_cons, List.nodup_cons] at nd
        exact nd.1 (e ▸ List.mem_map_of_mem hd)
      exact ⟨k1, ⟨v, by rw [upd_ne ne]; exact k2, k3⟩, k4⟩
  gr := by
    obtain ⟨h1, ⟨u, h2, h3⟩, h4⟩ := a.cl c (by simp)
    refine ⟨a.gr.kk, Ex.mut a.gr.kh h1, fun b u w e => ?_, a.gr.nw, fun b w n => ?_⟩
    · have ne : b ≠ c.a := fun z => by
        subst z
        rcases h4 with h4 | h4
        · exact w h4
        · rw [e] at h4; cases h4
      rw [upd_ne ne]; exact a.gr.hh b u w e
    · by_cases z : b = c.a
      · rw [z, upd_same]; intro q; cases q
      · rw [upd_ne z]; exact a.gr.ws b w n
  ww := fun b w => by
    obtain ⟨h1, h2⟩ := a.ww b w
    refine ⟨?_, h2⟩
    by_cases z : b = c.a
    · rw [z, upd_same]; intro q; cases q
    · rw [upd_ne z]; exact h1
/-- a cell of one's own becomes a thing that is known -/
theorem AtH.release {c : Cell} (a : AtH W Hk0 H0 Γ (c :: Ω) T σ Hk H) (hw : c.a ∉ W) : ∃ o, H c.a = some o ∧ c.p o Hk ∧ AtH W Hk0 H0 Γ Ω T σ (upd Hk c.a o) H := by
  obtain ⟨h1, ⟨o, h2, h3⟩, h4⟩ := a.cl c (by simp)
  have k : Ex Hk (upd Hk c.a o) := Ex.new h1
  refine ⟨o, h2, h3, a.len, fun i e q => ?_, fun p q => En.mono k (a.tp p q), ?_, fun d hd => ?_, ?_, fun b w => ⟨(a.ww b w).1, by rw [upd_ne (show b ≠ c.a from fun z => hw (z ▸ w))]; exact (a.ww b w).2⟩⟩
  · obtain ⟨v, q1, q2⟩ := a.sl i e q
    exact ⟨v, q1, En.mono k q2⟩
  · have := a.nd; rw [List.map_cons, List.nodup_cons] at this; exact this.2
  · obtain ⟨k1, ⟨v, k2, k3⟩, k4⟩ := a.cl d (List.mem_cons_of_mem _ hd)
    have ne : d.a ≠ c.a := fun e => by
      have nd := a.nd
      rw [List.map_cons, List.nodup_cons] at nd
      exact nd.1 (e ▸ List.mem_map_of_mem hd)
    exact ⟨by rw [upd_ne ne]; exact k1, ⟨v, k2, d.mono k k3⟩, k4⟩
  · refine ⟨Ex.trans a.gr.kk k, fun b u e => ?_, a.gr.hh, fun b e n => ?_, a.gr.ws⟩
    · exact a.gr.kh.upd2 h2 b u e
    · have ne : b ≠ c.a := fun z => by
        subst z
        rcases h4 with h4 | h4
        · exact hw h4
        · exact n h4
      rw [upd_ne ne]; exact a.gr.nw b e n
/-- a list that grows -/
def lc {α : Type} (A : Rp α) (p : Addr) (xs : List α) : Cell := ⟨p, fun o H => ∃ vs, o = .lst vs ∧ Al A H xs vs, fun k ⟨vs, h1, h2⟩ => ⟨vs, h1, h2.mono k⟩⟩

theorem AtH.unpush {c : En × V} (a : AtH W Hk0 H0 Γ Ω (c :: T) σ Hk H) : AtH W Hk0 H0 Γ Ω T σ Hk H := a.sub fun z hz => by simp [hz]
/-! ### slots -/
theorem AtH.set {e : En} {v : V} (a : AtH W Hk0 H0 Γ Ω T σ Hk H) (i : Nat) (h : e.ok v Hk) : AtH W Hk0 H0 (Γ.set i (some e)) Ω T (σ.set i (some v)) Hk H :=
  { a with
    len := by rw [List.length_set, List.length_set]; exact a.len
    sl := fun j e' q => by
      by_cases z : i = j
      · subst z
        by_cases hi : i < Γ.length
        · rw [List.getElem?_set_self hi] at q
          cases q
          exact ⟨v, by rw [List.getElem?_set_self (by rw [a.len]; exact hi)], h⟩
        · rw [List.getElem?_eq_none (by rw [List.length_set]; omega)] at q
          cases q
      · rw [List.getElem?_set_ne z] at q
        obtain ⟨w, h1, h2⟩ := a.sl j e' q
        exact ⟨w, by rw [List.getElem?_set_ne z]; exact h1, h2⟩ }
/-- fewer things said of the slots -/
theorem AtH.weak (a : AtH W Hk0 H0 Γ Ω T σ Hk H) (hl : Γ'.length = Γ.length) (h : ∀ (i : Nat) (e : En), Γ'[i]? = some (some e) → Γ[i]? = some (some e)) : AtH W Hk0 H0 Γ' Ω T σ Hk H :=
  { a with len := by rw [hl]; exact a.len, sl := fun i e q => a.sl i e (h i e q) }
theorem At.weak (a : At W Hk0 H0 Γ Ω T σ H) (hl : Γ'.length = Γ.length) (h : ∀ (i : Nat) (e : En), Γ'[i]? = some (some e) → Γ[i]? = some (some e)) : At W Hk0 H0 Γ' Ω T σ H := let ⟨Hk, a⟩ := a; ⟨Hk, a.weak hl h⟩
/-- the entry of slot i is forgotten -/
theorem At.off (a : At W Hk0 H0 Γ Ω T σ H) (i : Nat) : At W Hk0 H0 (Γ.set i none) Ω T σ H := a.weak (by rw [List.length_set]) fun j e q => by
  by_cases z : i = j
  · subst z
    by_cases hi : i < Γ.length
    · rw [List.getElem?_set_self hi] at q; cases q
    · rw [List.getElem?_eq_none (by rw [List.length_set]; omega)] at q; cases q
  · rw [List.getElem?_set_ne z] at q; exact q
def wipeC (Γ : Ctx) : List Nat → Ctx
  | [] => Γ
  | v :: vs => (wipeC Γ vs).set v none
theorem AtH.wipe (a : AtH W Hk0 H0 Γ Ω T σ Hk H) : ∀ vs : List Nat, AtH W Hk0 H0 (wipeC Γ vs) Ω T (wipe σ vs) Hk H
  | [] => a
  | v :: vs => by
    have b := AtH.wipe a vs
    refine { b with len := by unfold wipeC L2.wipe; rw [List.length_set, List.length_set]; exact b.len, sl := fun j e' q => ?_ }
    unfold wipeC at q
    by_cases z : v = j
    · subst z
      by_cases hi : v < (wipeC Γ vs).length
      · rw [List.getElem?_set_self hi] at q; cases q
      · rw [List.getElem?_eq_none (by rw [List.length_set]; omega)] at q; cases q
    · rw [List.getElem?_set_ne z] at q
      obtain ⟨w, h1, h2⟩ := b.sl j e' q
      exact ⟨w, by unfold L2.wipe; rw [List.getElem?_set_ne z]; exact h1, h2⟩
theorem set_none_set {σ : L2.St} {i j : Nat} {x : Option V} : (σ.set j x).set i none = if i = j then σ.set i none else (σ.set i none).set j x := by
  by_cases z : i = j
  · subst z; rw [if_pos rfl, List.set_set]
  · rw [if_neg z, List.set_comm _ _ (fun e => z e.symm)]
theorem wipe_out {σ : L2.St} {j : Nat} {x : Option V} : ∀ {vs : List Nat}, j ∈ vs → wipe (σ.set j x) vs = wipe σ vs
  | [], h => by simp at h
  | v :: vs, h => by
    unfold wipe
    by_cases z : j ∈ vs
    · rw [wipe_out z]
    · have e : v = j := by
        rcases List.mem_cons.mp h with e | e
        · exact e.symm
        · exact (z e).elim
      subst e
      have out : ∀ {us : List Nat}, v ∉ us → wipe (σ.set v x) us = (wipe σ us).set v x := by
        intro us
        induction us with
        | nil => intro _; rfl
        | cons u us ih =>
          intro hu
          unfold L2.wipe
          rw [ih (fun q => hu (List.mem_cons_of_mem _ q)), List.set_comm _ _ (fun e => hu (by rw [e]; simp))]
      rw [out z, List.set_set]
theorem wipe_wipe {σ : L2.St} : ∀ {vs us : List Nat}, (∀ v ∈ us, v ∈ vs) → wipe (wipe σ us) vs = wipe σ vs
  | vs, [], _ => rfl
  | vs, u :: us, h => by
    show wipe ((wipe σ us).set u none) vs = wipe σ vs
    rw [wipe_out (h u (by simp)), wipe_wipe fun v hv => h v (List.mem_cons_of_mem _ hv)]
theorem wipe_one {σ : L2.St} {vs : List Nat} {j : Nat} {x : Option V} (h : j ∈ vs) : wipe ((wipe σ vs).set j x) vs = wipe σ vs := by
  rw [wipe_out h, wipe_wipe fun _ h => h]

/-! ### what comes back -/
def Back (W : List Addr) (Hk0 H0 : Hp) (e : En) (Ω : List Cell) (Q : VK) : Prop := ∀ v H T σ, At W Hk0 H0 [] Ω ((e, v) :: T) σ H → Q v H
variable {te ta tb : TE} {tt : TT} {D : Ends} {tu tw tz : TS} {e : En} {b : Bool}
theorem At.bare (a : At W Hk0 H0 Γ Ω T σ H) : At W Hk0 H0 [] Ω T [] H := let ⟨Hk, a⟩ := a; ⟨Hk, { a with len := rfl, sl := fun i e q => by simp at q }⟩
theorem s_ret (a : At W Hk0 H0 Γ Ω T σ H) (h : Ev te Γ Ω e Ω1) (k : Back W Hk0 H0 e Ω1 D.rt) : tRet te D σ H := h W Hk0 H0 T σ H a _ fun v H' a' => k v H' T [] a'.bare
theorem s_set {i : Nat} (a : At W Hk0 H0 Γ Ω T σ H) (h : Ev te Γ Ω e Ω1) (k : ∀ σ' H', At W Hk0 H0 (Γ.set i (some e)) Ω1 T σ' H' → D.nx σ' H') : tAsg te (gName i) D σ H :=
  h W Hk0 H0 T σ H a _ fun v H' ⟨Hk, a'⟩ => k _ _ ⟨Hk, (a'.sub (T' := T) fun p hp => by simp [hp]).set i (a'.tp (e, v) (by simp))⟩
theorem q_set {i : Nat} (a : At W Hk0 H0 Γ Ω T σ H) (h : Ev te Γ Ω e Ω1) (k : ∀ σ' H', At W Hk0 H0 (Γ.set i (some e)) Ω1 T σ' H' → tz D σ' H') : tSeq (tAsg te (gName i)) tz D σ H := s_set (D := { D with nx := tz D }) a h k
theorem s_if (a : At W Hk0 H0 Γ Ω T σ H) (h : EvB tt Γ Ω b Ω1) (h1 : b = true → ∀ H', At W Hk0 H0 Γ Ω1 T σ H' → tu D σ H') (h2 : b = false → ∀ H', At W Hk0 H0 Γ Ω1 T σ H' → tw D σ H') : tIfS tt tu tw D σ H :=
  h W Hk0 H0 T σ H a _ fun H' a' => by
    cases b with
    | true => exact h1 rfl H' a'
    | false => exact h2 rfl H' a'
theorem q_if (a : At W Hk0 H0 Γ Ω T σ H) (h : EvB tt Γ Ω b Ω1) (h1 : b = true → ∀ H', At W Hk0 H0 Γ Ω1 T σ H' → tu { D with nx := tz D } σ H') (h2 : b = false → ∀ H', At W Hk0 H0 Γ Ω1 T σ H' → tw { D with nx := tz D } σ H') : tSeq (tIfS tt tu tw) tz D σ H :=
  s_if (D := { D with nx := tz D }) a h h1 h2
/-- a test that is known to fail, without an else -/
theorem q_not (a : At W Hk0 H0 Γ Ω T σ H) (h : EvB tt Γ Ω b Ω1) (hb : b = false) (k : ∀ H', At W Hk0 H0 Γ Ω1 T σ H' → tz D σ H') : tSeq (tIfS tt tu tNext) tz D σ H :=
  s_if (D := { D with nx := tz D }) a h (fun e => by rw [hb] at e; cases e) fun _ => k
theorem s_not (a : At W Hk0 H0 Γ Ω T σ H) (h : EvB tt Γ Ω b Ω1) (hb : b = false) (k : ∀ H', At W Hk0 H0 Γ Ω1 T σ H' → D.nx σ H') : tIfS tt tu tNext D σ H :=
  s_if a h (fun e => by rw [hb] at e; cases e) fun _ => k
theorem q_when (a : At W Hk0 H0 Γ Ω T σ H) (h : EvB tt Γ Ω b Ω1) (h1 : b = true → ∀ H', At W Hk0 H0 Γ Ω1 T σ H' → tu { D with nx := tz D } σ H') (h2 : b = false → ∀ H', At W Hk0 H0 Γ Ω1 T σ H' → tz D σ H') : tSeq (tIfS tt tu tNext) tz D σ H :=
  s_if (D := { D with nx := tz D }) a h h1 h2
theorem s_drop (a : At W Hk0 H0 Γ Ω T σ H) (h : Ev te Γ Ω e Ω1) (k : ∀ H', At W Hk0 H0 Γ Ω1 T σ H' → D.nx σ H') : tDrop te D σ H := h W Hk0 H0 T σ H a _ fun v H' a' => k H' a'.pop
theorem q_drop (a : At W Hk0 H0 Γ Ω T σ H) (h : Ev te Γ Ω e Ω1) (k : ∀ H', At W Hk0 H0 Γ Ω1 T σ H' → tz D σ H') : tSeq (tDrop te) tz D σ H := s_drop (D := { D with nx := tz D }) a h k

/-! ### what is walked -/
/-- n turns, the i-th gives es i, as long as T' says what it says -/
def Wk (W : List Addr) (H0 : Hp) (J : It) (n : Nat) (es : Nat → En) (T' : Tm) : Prop := ∃ (G : Hp → Prop) (Y : Nat → Hp → V → Hp → Prop), Walk J n G Y ∧ (∀ Hk H, (∀ p ∈ T', En.ok p.1 p.2 Hk) → Ex Hk H → (∀ a o, a ∉ W → H0 a = some o → H a = some o) → G H) ∧
  ∀ i Hk H x H', i < n → (∀ p ∈ T', En.ok p.1 p.2 Hk) → Ex Hk H → Y i H x H' → ∃ Hk', Grow [] Hk H Hk' H' ∧ En.ok (es i) x Hk'
def EvI (Bs : List Addr → Hp → Hp → L2.St → Prop) (wi : TI) (Γ : Ctx) (Ω : List Cell) (n : Nat) (es : Nat → En) (Ω' : List Cell) : Prop :=
  ∀ W Hk0 H0 T σ H, Bs W Hk0 H0 σ → At W Hk0 H0 Γ Ω T σ H → ∀ R : It → Hp → Prop, (∀ J T' H', At W Hk0 H0 Γ Ω' (T' ++ T) σ H' → Wk W H0 J n es T' → R J H') → wi σ H R
/-- no matter around what -/
abbrev Any : List Addr → Hp → Hp → L2.St → Prop := fun _ _ _ _ => True
/-- an expression gives e, around what Bs says -/
def EvX (Bs : List Addr → Hp → Hp → L2.St → Prop) (te : TE) (Γ : Ctx) (Ω : List Cell) (e : En) (Ω' : List Cell) : Prop := ∀ W Hk0 H0 T σ H, Bs W Hk0 H0 σ → At W Hk0 H0 Γ Ω T σ H → ∀ Q : VK, (∀ v H', At W Hk0 H0 Γ Ω' ((e, v) :: T) σ H' → Q v H') → te σ H Q
theorem EvX.ev (h : EvX Any te Γ Ω e Ω1) : Ev te Γ Ω e Ω1 := fun W Hk0 H0 T σ H a Q q => h W Hk0 H0 T σ H True.intro a Q q
theorem Ev.x {Bs : List Addr → Hp → Hp → L2.St → Prop} (h : Ev te Γ Ω e Ω1) : EvX Bs te Γ Ω e Ω1 := fun W Hk0 H0 T σ H _ a Q q => h W Hk0 H0 T σ H a Q q
/-- the i-th of a list, as a thing of the kind A -/
def nth {α : Type} (A : Rp α) (xs : List α) (i : Nat) : En := match xs[i]? with
  | some x => en A x
  | none => en rNon ()
theorem nth_of {α : Type} {A : Rp α} {xs : List α} {i : Nat} {x : α} (h : xs[i]? = some x) : nth A xs i = en A x := by unfold nth; rw [h]
variable {K : PySem.W.Frag} {α β : Type} {A : Rp α} {B : Rp β} {xs : List α} {wi : TI} {n j : Nat} {es : Nat → En} {g : TG} {Bs : List Addr → Hp → Hp → L2.St → Prop}
/-- a thing that is known, among the temporaries -/
def fct (P : Hp → Prop) (m : ∀ H H', Ex H H' → P H → P H') : En × V := (⟨Unit, ⟨fun _ _ H => P H, fun k h => m _ _ k h⟩, ()⟩, .non)
theorem AtH.fct {P : Hp → Prop} (m : ∀ H H', Ex H H' → P H → P H') (a : AtH W Hk0 H0 Γ Ω T σ Hk H) (h : P Hk) : AtH W Hk0 H0 Γ Ω (fct P m :: T) σ Hk H := a.push (e := (KA.fct P m).1) (v := .non) h
theorem fct_of {P : Hp → Prop} {m : ∀ H H', Ex H H' → P H → P H'} {T : Tm} (t : ∀ p ∈ T, En.ok p.1 p.2 Hk) (h : fct P m ∈ T) : P Hk := t _ h
theorem ei_list {tl : TE} (h : Ev tl Γ Ω (en (rList A) xs) Ω1) : EvI Bs (iList K tl) Γ Ω xs.length (nth A xs) Ω1 := fun W Hk0 H0 T σ H _ a R q =>
  h W Hk0 H0 T σ H a _ fun v H1 ⟨Hk1, a1⟩ => by
    obtain ⟨p, vs, ev, hp, al⟩ := (show (rList A).r xs v Hk1 from a1.tp (en (rList A) xs, v) (by simp))
    subst ev
    have hl := al.len
    have hp1 : H1 p = some (.lst vs) := a1.gr.kh.lst hp
    have m : ∀ H H', Ex H H' → (H p = some (.lst vs) ∧ Al A H xs vs) → (H' p = some (.lst vs) ∧ Al A H' xs vs) := fun H H' k h => ⟨k.lst h.1, h.2.mono k⟩
    refine ⟨p, rfl, ⟨vs, Evl.sq_of hp1⟩, q (Itl K p) [fct _ m] H1 ⟨Hk1, (a1.sub (T' := T) fun z hz => by simp [hz]).fct m ⟨hp, al⟩⟩ ⟨_, _, (by rw [hl]; exact walk_list (K := K) (a := p) (xs := vs)), ?_, ?_⟩⟩
    · intro Hk H t k _
      exact Evl.sq_of (k.lst (fct_of (m := m) t (by simp)).1)
    · intro i Hk H x H' hi t k y
      obtain ⟨rfl, hx⟩ := y
      obtain ⟨z, h1, h2⟩ := (fct_of (m := m) t (by simp)).2.back hx
      exact ⟨Hk, Grow.refl k, by rw [nth_of h1]; exact h2⟩
theorem s_forB (Γs : Nat → Ctx) (Ωs : Nat → List Cell) (I : Nat → Prop) (hB : Bs W Hk0 H0 σ) (a : At W Hk0 H0 Γ Ω T σ H) (h : EvI Bs wi Γ Ω n es Ω1)
    (h0 : I 0 ∧ ∀ T σ H, At W Hk0 H0 Γ Ω1 T σ H → At W Hk0 H0 (Γs 0) (Ωs 0) T σ H)
    (hs : ∀ T i x σ' H', i < n → I i → At W Hk0 H0 (Γs i) (Ωs i) ((es i, x) :: T) σ' H' → g x σ' H' fun σ2 H2 => tu { D with nx := fun σ H => I (i + 1) ∧ At W Hk0 H0 (Γs (i + 1)) (Ωs (i + 1)) T σ H, ct := fun σ H => I (i + 1) ∧ At W Hk0 H0 (Γs (i + 1)) (Ωs (i + 1)) T σ H, bk := D.nx } σ2 H2)
    (hd : I n → ∀ σ' H', At W Hk0 H0 (Γs n) (Ωs n) T σ' H' → D.nx σ' H') : tFor wi g tu D σ H :=
  h W Hk0 H0 T σ H hB a _ fun J T' H1 a1 ⟨G, Y, w, hg, hy⟩ => by
    refine for_it w (fun i σ' H' => I i ∧ At W Hk0 H0 (Γs i) (Ωs i) (T' ++ T) σ' H') ⟨h0.1, h0.2 _ _ _ a1⟩ (fun i σ' H' _ ⟨_, Hk', a'⟩ => hg Hk' H' (fun p hp => a'.tp p (by simp [hp])) a'.gr.kh a'.gr.hh) ?_ (fun σ' H' ⟨i', a'⟩ => hd i' _ _ (a'.sub fun p hp => by simp [hp]))
    rintro i x σ' H2 H3 hi ⟨i', Hk', a'⟩ y
    obtain ⟨Hk3, g3, ok⟩ := hy i Hk' H2 x H3 hi (fun p hp => a'.tp p (by simp [hp])) a'.gr.kh y
    exact hs (T' ++ T) i x σ' H3 hi i' ⟨Hk3, (a'.grow g3).push ok⟩
/-- a loop whose target is one name -/
theorem s_for (Γs : Nat → Ctx) (Ωs : Nat → List Cell) (I : Nat → Prop) (a : At W Hk0 H0 Γ Ω T σ H) (h : EvI Any wi Γ Ω n es Ω1)
    (h0 : I 0 ∧ ∀ T σ H, At W Hk0 H0 Γ Ω1 T σ H → At W Hk0 H0 (Γs 0) (Ωs 0) T σ H)
    (hs : ∀ T i σ' H', i < n → I i → At W Hk0 H0 ((Γs i).set j (some (es i))) (Ωs i) T σ' H' → tu { D with nx := fun σ H => I (i + 1) ∧ At W Hk0 H0 (Γs (i + 1)) (Ωs (i + 1)) T σ H, ct := fun σ H => I (i + 1) ∧ At W Hk0 H0 (Γs (i + 1)) (Ωs (i + 1)) T σ H, bk := D.nx } σ' H')
    (hd : I n → ∀ σ' H', At W Hk0 H0 (Γs n) (Ωs n) T σ' H' → D.nx σ' H') : tFor wi (gName j) tu D σ H :=
  s_forB Γs Ωs I (Bs := Any) True.intro a h h0 (fun T i x σ' H' hi i' ⟨Hk, a'⟩ => hs T i _ H' hi i' ⟨Hk, a'.unpush.set j (a'.tp (es i, x) (by simp))⟩) hd
theorem q_for (Γs : Nat → Ctx) (Ωs : Nat → List Cell) (I : Nat → Prop) (a : At W Hk0 H0 Γ Ω T σ H) (h : EvI Any wi Γ Ω n es Ω1)
    (h0 : I 0 ∧ ∀ T σ H, At W Hk0 H0 Γ Ω1 T σ H → At W Hk0 H0 (Γs 0) (Ωs 0) T σ H)
    (hs : ∀ T i σ' H', i < n → I i → At W Hk0 H0 ((Γs i).set j (some (es i))) (Ωs i) T σ' H' → tu { D with nx := fun σ H => I (i + 1) ∧ At W Hk0 H0 (Γs (i + 1)) (Ωs (i + 1)) T σ H, ct := fun σ H => I (i + 1) ∧ At W Hk0 H0 (Γs (i + 1)) (Ωs (i + 1)) T σ H, bk := tz D } σ' H')
    (hd : I n → ∀ σ' H', At W Hk0 H0 (Γs n) (Ωs n) T σ' H' → tz D σ' H') : tSeq (tFor wi (gName j) tu) tz D σ H := s_for (D := { D with nx := tz D }) Γs Ωs I a h h0 hs hd
theorem Wk.of {J : It} {P : Hp → Prop} (m : ∀ H H', Ex H H' → P H → P H') {Y : Nat → Hp → V → Hp → Prop} {G : Hp → Prop} (w : Walk J n G Y) (hg : ∀ Hk H, P Hk → Ex Hk H → G H)
    (hy : ∀ i Hk H x H', i < n → P Hk → Ex Hk H → Y i H x H' → ∃ Hk', Grow [] Hk H Hk' H' ∧ En.ok (es i) x Hk') : Wk W H0 J n es [fct P m] :=
  ⟨G, Y, w, fun Hk H t k _ => hg Hk H (fct_of (m := m) t (by simp)) k, fun i Hk H x H' hi t k y => hy i Hk H x H' hi (fct_of (m := m) t (by simp)) k y⟩
theorem AtH.to1 {P : Hp → Prop} (m : ∀ H H', Ex H H' → P H → P H') {p : En × V} (a : AtH W Hk0 H0 Γ Ω (p :: T) σ Hk H) (h : P Hk) : AtH W Hk0 H0 Γ Ω ([KA.fct P m] ++ T) σ Hk H := (a.sub (T' := T) fun z hz => by simp [hz]).fct m h
theorem ei_tup {tl : TE} (h : Ev tl Γ Ω (en (rTupL K A) xs) Ω1) : EvI Bs (iTup K tl) Γ Ω xs.length (nth A xs) Ω1 := fun W Hk0 H0 T σ H _ a R q =>
  h W Hk0 H0 T σ H a _ fun v H1 ⟨Hk1, a1⟩ => by
    obtain ⟨p, vs, ev, hp, al⟩ := (show (rTupL K A).r xs v Hk1 from a1.tp (en (rTupL K A) xs, v) (by simp))
    subst ev
    have hl := al.len
    have m : ∀ H H', Ex H H' → (SqT K H p vs ∧ Al A H xs vs) → (SqT K H' p vs ∧ Al A H' xs vs) := fun H H' k h => ⟨ex_t k h.1, h.2.mono k⟩
    refine ⟨p, rfl, ⟨vs, ex_t a1.gr.kh hp⟩, q (Itt K p) [fct _ m] H1 ⟨Hk1, a1.to1 m ⟨hp, al⟩⟩ (.of m (by rw [hl]; exact walk_tup (K := K) (a := p) (xs := vs)) (fun Hk H t k => ex_t k t.1) fun i Hk H x H' hi t k y => ?_)⟩
    obtain ⟨rfl, hx⟩ := y
    obtain ⟨z, h1, h2⟩ := t.2.back hx
    exact ⟨Hk, Grow.refl k, by rw [nth_of h1]; exact h2⟩
theorem ei_rng1 {ta : TA} {k : Int} (h : EvA ta Γ Ω [en rInt k] Ω1) (hk : -(2 ^ 62) ≤ k ∧ k < 2 ^ 62) : EvI Bs (iRng1 ta) Γ Ω k.toNat (fun i => en rInt (i : Int)) Ω1 := fun W Hk0 H0 T σ H _ a R q =>
  h W Hk0 H0 T σ H a _ fun vs H1 hl a1 => by
    obtain ⟨Hk1, a1⟩ := a1
    match vs, hl with
    | [v], _ =>
      have e : v = .int k := a1.tp (en rInt k, v) (by simp)
      subst e
      have m : ∀ H H' : Hp, Ex H H' → True → True := fun _ _ _ h => h
      refine ⟨k, rfl, hk.1, hk.2, q (Itr 0 k.toNat) [fct _ m] H1 ⟨Hk1, a1.to1 m True.intro⟩ (.of m walk_range (fun _ _ _ _ => True.intro) fun i Hk H x H' hi t kk y => ?_)⟩
      obtain ⟨rfl, rfl⟩ := y
      exact ⟨Hk, Grow.refl kk, by show V.int (0 + (i : Int)) = V.int (i : Int); rw [Int.zero_add]⟩
theorem ei_rng2 {ta : TA} {lo k : Int} (h : EvA ta Γ Ω [en rInt lo, en rInt k] Ω1) (hk : -(2 ^ 62) ≤ lo ∧ lo < 2 ^ 62 ∧ -(2 ^ 62) ≤ k ∧ k < 2 ^ 62) : EvI Bs (iRng2 ta) Γ Ω (k - lo).toNat (fun i => en rInt (lo + (i : Int))) Ω1 := fun W Hk0 H0 T σ H _ a R q =>
  h W Hk0 H0 T σ H a _ fun vs H1 hl a1 => by
    obtain ⟨Hk1, a1⟩ := a1
    match vs, hl with
    | [v, w], _ =>
      have e : v = .int lo := a1.tp (en rInt lo, v) (by simp)
      have e2 : w = .int k := a1.tp (en rInt k, w) (by simp)
      subst e; subst e2
      have m : ∀ H H' : Hp, Ex H H' → True → True := fun _ _ _ h => h
      refine ⟨lo, k, rfl, hk, q (Itr lo (k - lo).toNat) [fct _ m] H1 ⟨Hk1, (a1.sub (T' := T) fun z hz => by simp [hz]).fct m True.intro⟩ (.of m walk_range (fun _ _ _ _ => True.intro) fun i Hk H x H' hi t kk y => ?_)⟩
      obtain ⟨rfl, rfl⟩ := y
      exact ⟨Hk, Grow.refl kk, rfl⟩
/-- a new pair is a pair -/
theorem pair_new {Hk H : Hp} {e1 : α} {e2 : β} {x y : V} {p : Addr} (k : Ex Hk H) (hp : H p = none) (h1 : A.r e1 x Hk) (h2 : B.r e2 y Hk) :
    ∃ Hk', Grow [] Hk H Hk' (upd H p (.tup [x, y])) ∧ En.ok (en (rPair K A B) (e1, e2)) (.ref p) Hk' :=
  ⟨_, Grow.new k hp, p, x, y, rfl, SqT.of upd_same, A.mono (Ex.new (k.back hp)) h1, B.mono (Ex.new (k.back hp)) h2⟩
/-- the i-th of a list, with its number -/
def nthI (K : PySem.W.Frag) (A : Rp α) (xs : List α) (i : Nat) : En := match xs[i]? with
  | some x => en (rPair K rInt A) ((i : Int), x)
  | none => en rNon ()
theorem nthI_of {i : Nat} {x : α} (h : xs[i]? = some x) : nthI K A xs i = en (rPair K rInt A) ((i : Int), x) := by unfold nthI; rw [h]
theorem ei_enum {ta : TA} (h : EvA ta Γ Ω [en (rList A) xs] Ω1) : EvI Bs (iEnum K ta) Γ Ω xs.length (nthI K A xs) Ω1 := fun W Hk0 H0 T σ H _ a R q =>
  h W Hk0 H0 T σ H a _ fun us H1 hl1 a1 => by
    obtain ⟨Hk1, a1⟩ := a1
    match us, hl1 with
    | [v], _ =>
      obtain ⟨p, vs, ev, hp, al⟩ := (show (rList A).r xs v Hk1 from a1.tp (en (rList A) xs, v) (by simp))
      subst ev
      have hl := al.len
      have m : ∀ H H', Ex H H' → (H p = some (.lst vs) ∧ Al A H xs vs) → (H' p = some (.lst vs) ∧ Al A H' xs vs) := fun H H' k h => ⟨k.lst h.1, h.2.mono k⟩
      refine ⟨p, vs, rfl, Evl.sq_of (a1.gr.kh.lst hp), q (Ite K p) [fct _ m] H1 ⟨Hk1, a1.to1 m ⟨hp, al⟩⟩ (.of m (by rw [hl]; exact walk_enum (K := K) (a := p) (xs := vs)) (fun Hk H t k => Evl.sq_of (k.lst t.1)) fun i Hk H x H' hi t k y => ?_)⟩
      obtain ⟨tp, x1, x2, rfl, hn, rfl, e1, e2⟩ := y
      cases e1
      obtain ⟨z, h1, h2⟩ := t.2.back e2
      rw [nthI_of h1]
      exact pair_new k hn rfl h2
/-- the i-th of two lists -/
def nth2 (K : PySem.W.Frag) (A : Rp α) (B : Rp β) (xs : List α) (ys : List β) (i : Nat) : En := match xs[i]?, ys[i]? with
  | some x, some y => en (rPair K A B) (x, y)
  | _, _ => en rNon ()
theorem nth2_of {ys : List β} {i : Nat} {x : α} {y : β} (h : xs[i]? = some x) (h2 : ys[i]? = some y) : nth2 K A B xs ys i = en (rPair K A B) (x, y) := by unfold nth2; rw [h, h2]

/-! ### comprehensions -/
theorem At.reslot {σ' : L2.St} (a : At W Hk0 H0 Γ' Ω T σ' H) (hl : σ.length = Γ.length) (hs : ∀ (i : Nat) (e : En), Γ[i]? = some (some e) → ∃ v, σ[i]? = some (some v) ∧ (e, v) ∈ T) : At W Hk0 H0 Γ Ω T σ H :=
  let ⟨Hk, a⟩ := a
  ⟨Hk, { a with len := hl, sl := fun i e q => let ⟨v, h1, h2⟩ := hs i e q; ⟨v, h1, a.tp (e, v) h2⟩ }⟩
/-- the slots as temporaries: kept while the slots themselves are others -/
def slT : Ctx → L2.St → Tm
  | some e :: Γ, some v :: σ => (e, v) :: slT Γ σ
  | _ :: Γ, _ :: σ => slT Γ σ
  | _, _ => []
theorem slT_ok {Hk : Hp} : ∀ {Γ : Ctx} {σ : L2.St}, σ.length = Γ.length → (∀ (i : Nat) (e : En), Γ[i]? = some (some e) → ∃ v, σ[i]? = some (some v) ∧ e.ok v Hk) → ∀ p ∈ slT Γ σ, En.ok p.1 p.2 Hk
  | [], [], _, _, p, hp => by simp [slT] at hp
  | x :: Γ, y :: σ, hl, h, p, hp => by
    have ih := slT_ok (Γ := Γ) (σ := σ) (by simpa using hl) (fun i e q => h (i + 1) e (by simpa using q))
    cases x with
    | none => exact ih p (by simpa [slT] using hp)
    | some e =>
      cases y with
      | none => obtain ⟨v, h1, _⟩ := h 0 e (by simp); simp at h1
      | some v =>
        simp [slT] at hp
        rcases hp with rfl | hp
        · obtain ⟨w, h1, h2⟩ := h 0 e (by simp)
          simp at h1
          subst h1
          exact h2
        · exact ih p hp
  | [], _ :: _, hl, _, _, _ => by simp at hl
  | _ :: _, [], hl, _, _, _ => by simp at hl
theorem slT_in {Hk : Hp} : ∀ {Γ : Ctx} {σ : L2.St}, (∀ (i : Nat) (e : En), Γ[i]? = some (some e) → ∃ v, σ[i]? = some (some v) ∧ e.ok v Hk) → ∀ (i : Nat) (e : En), Γ[i]? = some (some e) → ∃ v, σ[i]? = some (some v) ∧ (e, v) ∈ slT Γ σ
  | [], _, _, i, e, q => by simp at q
  | x :: Γ, [], h, i, e, q => by obtain ⟨v, h1, _⟩ := h i e q; simp at h1
  | x :: Γ, y :: σ, h, i, e, q => by
    cases i with
    | zero =>
      simp at q
      subst q
      obtain ⟨v, h1, h2⟩ := h 0 e (by simp)
      simp at h1
      subst h1
      exact ⟨v, by simp, by simp [slT]⟩
    | succ i =>
      obtain ⟨v, h1, h2⟩ := slT_in (Γ := Γ) (σ := σ) (fun i e q => h (i + 1) e (by simpa using q)) i e (by simpa using q)
      refine ⟨v, by simpa using h1, ?_⟩
      cases x with
      | none => cases y <;> simpa [slT] using h2
      | some e' =>
        cases y with
        | none => simpa [slT] using h2
        | some v' => simp [slT, h2]
/-- what a comprehension over n things gives: the i-th, where f says so, as v i -/
def given {β : Type} (f : Nat → Bool) (v : Nat → β) (n : Nat) : List β := ((List.range n).filter f).map v
theorem given_succ (f : Nat → Bool) (v : Nat → β) (n : Nat) : given f v (n + 1) = given f v n ++ (if f n = true then [v n] else []) := by
  unfold given
  rw [List.range_succ, List.filter_append, List.map_append]
  congr 1
  by_cases h : f n = true
  · simp [h]
  · simp [h]
theorem given_len (f : Nat → Bool) (v : Nat → β) (n : Nat) : (given f v n).length ≤ n := by
  unfold given
  rw [List.length_map]
  have h := List.length_filter_le f (List.range n)
  rw [List.length_range] at h
  exact h
/-- a target takes e: the slots behind -/
def TgE (g : TG) (Γ : Ctx) (e : En) (Γ' : Ctx) (vs : List Nat) : Prop := ∀ (W : List Addr) (Hk0 H0 : Hp) (Ω : List Cell) (T : Tm) (σ : L2.St) (H : Hp) (v : V), At W Hk0 H0 Γ Ω ((e, v) :: T) σ H →
  ∀ Q : L2.St → Hp → Prop, (∀ σ', At W Hk0 H0 Γ' Ω T σ' H → (∃ ps : List (Nat × V), (∀ p ∈ ps, p.1 ∈ vs) ∧ σ' = ps.foldl (fun s p => s.set p.1 (some p.2)) σ) → Q σ' H) → g v σ H Q
theorem wipe_fold {vs : List Nat} : ∀ {ps : List (Nat × V)} {σ : L2.St}, (∀ p ∈ ps, p.1 ∈ vs) → wipe (ps.foldl (fun s p => s.set p.1 (some p.2)) σ) vs = wipe σ vs
  | [], _, _ => rfl
  | p :: ps, σ, h => by
    rw [List.foldl_cons, wipe_fold (fun q hq => h q (List.mem_cons_of_mem _ hq)), wipe_out (h p (by simp))]
theorem tg_name {e : En} {i : Nat} {vs : List Nat} (h : i ∈ vs) : TgE (gName i) Γ e (Γ.set i (some e)) vs := fun W Hk0 H0 Ω T σ H v ⟨Hk, a⟩ Q q =>
  q _ ⟨Hk, a.unpush.set i (a.tp (e, v) (by simp))⟩ ⟨[(i, v)], by simpa using h, rfl⟩
theorem tg_pair {e1 : α} {e2 : β} {i j : Nat} {vs : List Nat} (hi : i ∈ vs) (hj : j ∈ vs) : TgE (gTup K 2 (gCons (gName i) (gCons (gName j) gNil))) Γ (en (rPair K A B) (e1, e2)) ((Γ.set i (some (en A e1))).set j (some (en B e2))) vs := fun W Hk0 H0 Ω T σ H v ⟨Hk, a⟩ Q q => by
  obtain ⟨p, x, y, rfl, hp, h1, h2⟩ := (show (rPair K A B).r (e1, e2) v Hk from a.tp (en (rPair K A B) (e1, e2), v) (by simp))
  refine ⟨p, [x, y], rfl, ex_t a.gr.kh hp, rfl, x, [y], rfl, y, [], rfl, rfl, q _ ⟨Hk, (a.unpush.set (e := en A e1) i h1).set (e := en B e2) j h2⟩ ⟨[(i, x), (j, y)], ?_, rfl⟩⟩
  intro z hz
  simp at hz
  rcases hz with rfl | rfl
  · exact hi
  · exact hj
end
end KA

namespace KA
open PySem PySem.Spec PyProof.Rows L2
section
variable {W : List Addr} {Hk0 H0 : Hp} {Γ Γ' : Ctx} {Ω Ω1 Ω2 Ω3 : List Cell} {T T' : Tm} {σ : L2.St} {Hk H : Hp}
variable {te ta tb : TE} {tt tu : TT} {D : Ends} {e e1 e2 : En} {b b2 : Bool}
variable {K : PySem.W.Frag} {α β γ : Type} {A : Rp α} {B : Rp β} {C : Rp γ} {xs : List α} {wi : TI} {n j : Nat} {es : Nat → En} {g : TG} {Bs : List Addr → Hp → Hp → L2.St → Prop}
theorem wipeC_in : ∀ {vs : List Nat} {i : Nat} {e : En}, (wipeC Γ vs)[i]? = some (some e) → Γ[i]? = some (some e) ∧ i ∉ vs
  | [], i, e, h => ⟨h, by simp⟩
  | v :: vs, i, e, h => by
    unfold wipeC at h
    by_cases z : v = i
    · subst z
      by_cases hi : v < (wipeC Γ vs).length
      · rw [List.getElem?_set_self hi] at h; cases h
      · rw [List.getElem?_eq_none (by rw [List.length_set]; omega)] at h; cases h
    · rw [List.getElem?_set_ne z] at h
      obtain ⟨h1, h2⟩ := wipeC_in h
      exact ⟨h1, by simp [h2]; exact fun q => z q.symm⟩
theorem wipe_at : ∀ {vs : List Nat} {i : Nat}, i ∉ vs → (wipe σ vs)[i]? = σ[i]?
  | [], _, _ => rfl
  | v :: vs, i, h => by
    unfold L2.wipe
    rw [List.getElem?_set_ne (fun z => h (by rw [z]; simp)), wipe_at fun q => h (List.mem_cons_of_mem _ q)]
theorem wipeC_len : ∀ {vs : List Nat}, (wipeC Γ vs).length = Γ.length
  | [] => rfl
  | v :: vs => by unfold wipeC; rw [List.length_set, wipeC_len]
theorem At.append {p : Addr} {xs : List α} {x : α} {y : V} (a : At W Hk0 H0 Γ (lc A p xs :: Ω) ((en A x, y) :: T) σ H) :
    ∃ acc, H p = some (.lst acc) ∧ acc.length = xs.length ∧ At W Hk0 H0 Γ (lc A p (xs ++ [x]) :: Ω) T σ (upd H p (.lst (acc ++ [y]))) := by
  obtain ⟨Hk, a⟩ := a
  obtain ⟨_, ⟨o, h2, acc, rfl, al⟩, _⟩ := a.cl _ (List.mem_cons_self ..)
  have hy : A.r x y Hk := a.tp (en A x, y) (by simp)
  exact ⟨acc, h2, al.len.symm, Hk, a.unpush.write (c := lc A p xs) (c' := lc A p (xs ++ [x])) rfl ⟨_, rfl, al.append (.one hy)⟩⟩
theorem At.freeL {p : Addr} {xs : List α} (a : At W Hk0 H0 Γ (lc A p xs :: Ω) T σ H) (hw : p ∉ W) : At W Hk0 H0 Γ Ω ((en (rList A) xs, .ref p) :: T) σ H := by
  obtain ⟨Hk, a⟩ := a
  obtain ⟨o, h2, ⟨vs, rfl, al⟩, a'⟩ := a.release hw
  obtain ⟨h1, _⟩ := a.cl _ (List.mem_cons_self ..)
  refine ⟨_, a'.push (e := en (rList A) xs) (v := .ref p) ⟨p, vs, rfl, upd_same, al.mono (Ex.new h1)⟩⟩
theorem At.notW (a : At W Hk0 H0 Γ Ω T σ H) {p : Addr} (h : H p = none) : p ∉ W := fun w => by
  obtain ⟨Hk, a⟩ := a
  exact (a.ww p w).1 h
/-- [elt for .. in .. if ..], the element changes nothing -/
theorem ev_lcX {vs : List Nat} (Γs : Nat → Ctx) (f : Nat → Bool) (v : Nat → β) (h : EvI Bs wi Γ Ω n es Ω1) (hn : n ≤ 40000)
    (hg : ∀ i, i < n → TgE g (wipeC Γ vs) (es i) (Γs i) vs) (ht : ∀ i Ω, i < n → EvB tt (Γs i) Ω (f i) Ω) (he : ∀ i Ω, i < n → f i = true → Ev te (Γs i) Ω (en B (v i)) Ω) :
    EvX Bs (tLc wi g tt te vs) Γ Ω (en (rList B) (given f v n)) Ω1 := fun W Hk0 H0 T σ H hB a Q q =>
  h W Hk0 H0 T σ H hB a _ fun J T' H1 ⟨Hk1, a1⟩ ⟨G, Y, w, hGk, hY⟩ Dl hD => by
    have hsl := a1.sl
    have hlen := a1.len
    have hnw : Dl ∉ W := At.notW ⟨Hk1, a1⟩ hD
    have back : ∀ {Ω' : List Cell} {σ' : L2.St} {Γ' : Ctx} {H' : Hp}, At W Hk0 H0 Γ' Ω' (T' ++ (slT Γ σ ++ T)) σ' H' → At W Hk0 H0 (wipeC Γ vs) Ω' (T' ++ (slT Γ σ ++ T)) (wipe σ vs) H' := fun {Ω'} {σ'} {Γ'} {H'} z =>
      z.reslot (by rw [wipe_length, wipeC_len]; exact hlen) fun i e q => by
        obtain ⟨h1, h2⟩ := wipeC_in q
        obtain ⟨u, h3, h4⟩ := slT_in hsl i e h1
        exact ⟨u, by rw [wipe_at h2]; exact h3, by simp [h4]⟩
    have start : At W Hk0 H0 (wipeC Γ vs) (lc B Dl (given f v 0) :: Ω1) (T' ++ (slT Γ σ ++ T)) (wipe σ vs) (upd H1 Dl (.lst [])) := by
      refine ⟨Hk1, AtH.newCell (c := lc B Dl (given f v 0)) ?_ hD rfl ⟨[], rfl, .nil⟩⟩
      refine { a1.wipe vs with tp := fun p hp => ?_ }
      simp at hp
      rcases hp with hp | hp | hp
      · exact a1.tp p (by simp [hp])
      · exact slT_ok hlen hsl p hp
      · exact a1.tp p (by simp [hp])
    refine lc_it w (fun i H' => At W Hk0 H0 (wipeC Γ vs) (lc B Dl (given f v i) :: Ω1) (T' ++ (slT Γ σ ++ T)) (wipe σ vs) H') start (fun i H' _ ⟨Hk', a'⟩ => hGk Hk' H' (fun p hp => a'.tp p (by simp [hp])) a'.gr.kh a'.gr.hh) ?_ ?_
    · rintro i x H2 H3 hi ⟨Hk', a'⟩ y
      obtain ⟨Hk3, g3, ok⟩ := hY i Hk' H2 x H3 hi (fun p hp => a'.tp p (by simp [hp])) a'.gr.kh y
      refine hg i hi W Hk0 H0 _ _ _ H3 x ⟨Hk3, (a'.grow g3).push ok⟩ _ fun σ2 a2 ⟨ps, hps, es⟩ => ⟨by rw [es, wipe_fold hps, wipe_wipe fun _ h => h], ?_⟩
      refine ht i _ hi W Hk0 H0 _ σ2 H3 a2 _ fun H4 a4 => ?_
      cases hf : f i with
      | true =>
        show te σ2 H4 _
        refine he i _ hi hf W Hk0 H0 _ σ2 H4 a4 _ fun y H5 a5 => ?_
        obtain ⟨acc, h1, h2, a6⟩ := a5.append
        refine ⟨acc, h1, ?_, ?_⟩
        · have := given_len f v i
          rw [h2]
          exact Evl.sz_lt (by omega)
        · rw [given_succ, if_pos hf]
          exact back a6
      | false =>
        show At _ _ _ _ _ _ _ H4
        rw [given_succ, if_neg (by rw [hf]; simp), List.append_nil]
        exact back a4
    · intro H' a'
      refine q (.ref Dl) H' ((a'.freeL hnw).reslot (T := (en (rList B) (given f v n), .ref Dl) :: (T' ++ (slT Γ σ ++ T))) hlen (fun i e q => ?_) |>.sub fun p hp => ?_)
      · obtain ⟨u, h3, h4⟩ := slT_in hsl i e q
        exact ⟨u, h3, by simp [h4]⟩
      · simp at hp ⊢
        rcases hp with hp | hp
        · exact .inl hp
        · exact .inr (.inr (.inr hp))
theorem ev_lc {vs : List Nat} (Γs : Nat → Ctx) (f : Nat → Bool) (v : Nat → β) (h : EvI Any wi Γ Ω n es Ω1) (hn : n ≤ 40000)
    (hg : ∀ i, i < n → TgE g (wipeC Γ vs) (es i) (Γs i) vs) (ht : ∀ i Ω, i < n → EvB tt (Γs i) Ω (f i) Ω) (he : ∀ i Ω, i < n → f i = true → Ev te (Γs i) Ω (en B (v i)) Ω) :
    Ev (tLc wi g tt te vs) Γ Ω (en (rList B) (given f v n)) Ω1 := (ev_lcX Γs f v h hn hg ht he).ev
theorem eb_yes : EvB tYes Γ Ω true Ω := fun _ _ _ _ _ H a _ q => q H a
/-- the same, all items -/
theorem given_all (v : Nat → β) (n : Nat) : given (fun _ => true) v n = (List.range n).map v := by
  unfold given
  rw [List.filter_eq_self.mpr fun _ _ => rfl]
theorem range_map_get {f : α → β} {v : Nat → β} (h : ∀ i x, xs[i]? = some x → v i = f x) : (List.range xs.length).map v = xs.map f := by
  apply List.ext_getElem?
  intro i
  by_cases hi : i < xs.length
  · rw [List.getElem?_map, List.getElem?_map, List.getElem?_range hi, List.getElem?_eq_getElem hi]
    simp [h i _ (List.getElem?_eq_getElem hi)]
  · rw [List.getElem?_eq_none (by simpa using hi), List.getElem?_eq_none (by simpa using hi)]
end
end KA

namespace KA
open PySem PySem.Spec PyProof.Rows L2
section
variable {W : List Addr} {Hk0 H0 : Hp} {Γ Γ' : Ctx} {Ω Ω1 Ω2 Ω3 : List Cell} {T T' : Tm} {σ : L2.St} {Hk H : Hp}
variable {te ta tb : TE} {tt tu : TT} {D : Ends} {e e1 e2 : En} {b b2 : Bool}
variable {K : PySem.W.Frag} {α β γ δ ε : Type} {A : Rp α} {B : Rp β} {C : Rp γ} {xs : List α} {wi : TI} {n j : Nat} {es : Nat → En} {g : TG}
/-! ### constants -/
theorem ev_int {i : Int} : Ev (tC (.int i)) Γ Ω (en rInt i) Ω := ev_c fun _ => rfl
theorem ev_bl {k : Bool} : Ev (tC (.bl k)) Γ Ω (en rBool k) Ω := ev_c fun _ => rfl
theorem ev_str {z : Str} : Ev (tC (.str z)) Γ Ω (en rStr z) Ω := ev_c fun _ => rfl
theorem ev_non : Ev (tC .non) Γ Ω (en (rOpt A) none) Ω := ev_c fun _ => rfl
theorem ev_to (h : Ev te Γ Ω e Ω1) (k : ∀ v H, e.ok v H → e2.ok v H) : Ev te Γ Ω e2 Ω1 := fun W Hk0 H0 T σ H a Q q => h W Hk0 H0 T σ H a Q fun v H' ⟨Hk, a'⟩ => q v H' ⟨Hk, a'.unpush.push (k v Hk (a'.tp (e, v) (by simp)))⟩
theorem ev_is (h : Ev te Γ Ω e Ω1) (k : e = e2) : Ev te Γ Ω e2 Ω1 := k ▸ h
theorem ev_eq {x y : α} (h : Ev te Γ Ω (en A x) Ω1) (k : x = y) : Ev te Γ Ω (en A y) Ω1 := k ▸ h
theorem eb_is (h : EvB tt Γ Ω b Ω1) (k : b = b2) : EvB tt Γ Ω b2 Ω1 := k ▸ h
theorem ev_some {x : α} (h : Ev te Γ Ω (en A x) Ω1) : Ev te Γ Ω (en (rOpt A) (some x)) Ω1 := ev_to h fun _ _ h => h
/-! ### two-place -/
theorem rv_i0 {g : Int → Int → V} {i j : Int} (h : ∀ H, e.ok (g i j) H) : RvE (rI0 g) (en rInt i) (en rInt j) e := fun Hk H x y k h1 h2 Q q => by
  cases (show x = V.int i from h1); cases (show y = V.int j from h2)
  exact ⟨i, j, rfl, rfl, q _ Hk H (.refl k) (h Hk)⟩
theorem rv_ic {P : Int → Int → Prop} {g : Int → Int → V} {i j : Int} (hc : P i j) (h : ∀ H, e.ok (g i j) H) : RvE (rI P g) (en rInt i) (en rInt j) e := fun Hk H x y k h1 h2 Q q => by
  cases (show x = V.int i from h1); cases (show y = V.int j from h2)
  exact ⟨i, j, rfl, rfl, hc, q _ Hk H (.refl k) (h Hk)⟩
theorem rv_add {i j : Int} : RvE (rI0 fun i j => .int (i + j)) (en rInt i) (en rInt j) (en rInt (i + j)) := rv_i0 fun _ => rfl
theorem rv_sub {i j : Int} : RvE (rI0 fun i j => .int (i - j)) (en rInt i) (en rInt j) (en rInt (i - j)) := rv_i0 fun _ => rfl
theorem rv_mul {i j : Int} (h : CMul i j) : RvE (rI CMul fun i j => .int (i * j)) (en rInt i) (en rInt j) (en rInt (i * j)) := rv_ic h fun _ => rfl
theorem rv_mod {i j : Int} (h : 0 < j) : RvE (rI (fun _ j => 0 < j) fun i j => .int (i % j)) (en rInt i) (en rInt j) (en rInt (i % j)) := rv_ic h fun _ => rfl
theorem rv_div {i j : Int} (h : 0 < j ∧ j < 1073741824) : RvE (rI CDiv fun i j => .int (i / j)) (en rInt i) (en rInt j) (en rInt (i / j)) := rv_ic h fun _ => rfl
theorem rv_lt {i j : Int} : RvE (rI0 fun i j => .bl (decide (i < j))) (en rInt i) (en rInt j) (en rBool (decide (i < j))) := rv_i0 fun _ => rfl
theorem rv_le {i j : Int} : RvE (rI0 fun i j => .bl (decide (i ≤ j))) (en rInt i) (en rInt j) (en rBool (decide (i ≤ j))) := rv_i0 fun _ => rfl
theorem rv_gt {i j : Int} : RvE (rI0 fun i j => .bl (decide (j < i))) (en rInt i) (en rInt j) (en rBool (decide (j < i))) := rv_i0 fun _ => rfl
theorem rv_ge {i j : Int} : RvE (rI0 fun i j => .bl (decide (j ≤ i))) (en rInt i) (en rInt j) (en rBool (decide (j ≤ i))) := rv_i0 fun _ => rfl
theorem dcd {p q : Prop} [Decidable p] [Decidable q] (h : p ↔ q) : decide p = decide q := decide_eq_decide.mpr h
theorem rv_eqI {i j : Int} : RvE rEq (en rInt i) (en rInt j) (en rBool (decide (i = j))) := fun Hk H x y k h1 h2 Q q => by
  cases (show x = V.int i from h1); cases (show y = V.int j from h2)
  exact ⟨rfl, q _ Hk H (.refl k) (show V.bl _ = V.bl _ by rw [dcd (show V.int i = V.int j ↔ i = j by simp)])⟩
theorem rv_neI {i j : Int} : RvE rNe (en rInt i) (en rInt j) (en rBool (!decide (i = j))) := fun Hk H x y k h1 h2 Q q => by
  cases (show x = V.int i from h1); cases (show y = V.int j from h2)
  exact ⟨rfl, q _ Hk H (.refl k) (show V.bl _ = V.bl _ by rw [dcd (show V.int i = V.int j ↔ i = j by simp)])⟩
theorem rv_eqS {i j : Str} : RvE rEq (en rStr i) (en rStr j) (en rBool (decide (i = j))) := fun Hk H x y k h1 h2 Q q => by
  cases (show x = V.str i from h1); cases (show y = V.str j from h2)
  exact ⟨rfl, q _ Hk H (.refl k) (show V.bl _ = V.bl _ by rw [dcd (show V.str i = V.str j ↔ i = j by simp)])⟩
theorem rv_neS {i j : Str} : RvE rNe (en rStr i) (en rStr j) (en rBool (!decide (i = j))) := fun Hk H x y k h1 h2 Q q => by
  cases (show x = V.str i from h1); cases (show y = V.str j from h2)
  exact ⟨rfl, q _ Hk H (.refl k) (show V.bl _ = V.bl _ by rw [dcd (show V.str i = V.str j ↔ i = j by simp)])⟩
theorem rv_eqB {i j : Bool} : RvE rEq (en rBool i) (en rBool j) (en rBool (decide (i = j))) := fun Hk H x y k h1 h2 Q q => by
  cases (show x = V.bl i from h1); cases (show y = V.bl j from h2)
  exact ⟨rfl, q _ Hk H (.refl k) (show V.bl _ = V.bl _ by rw [dcd (show V.bl i = V.bl j ↔ i = j by simp)])⟩
theorem rv_neB {i j : Bool} : RvE rNe (en rBool i) (en rBool j) (en rBool (!decide (i = j))) := fun Hk H x y k h1 h2 Q q => by
  cases (show x = V.bl i from h1); cases (show y = V.bl j from h2)
  exact ⟨rfl, q _ Hk H (.refl k) (show V.bl _ = V.bl _ by rw [dcd (show V.bl i = V.bl j ↔ i = j by simp)])⟩
/-- None or a number, twice -/
theorem rv_eqO {i j : Option Int} : RvE rEq (en (rOpt rInt) i) (en (rOpt rInt) j) (en rBool (decide (i = j))) := fun Hk H x y k h1 h2 Q q => by
  cases i with
  | none =>
    cases (show x = V.non from h1)
    cases j with
    | none => cases (show y = V.non from h2); exact ⟨rfl, q _ Hk H (.refl k) (show V.bl _ = V.bl _ by simp)⟩
    | some j => cases (show y = V.int j from h2); exact ⟨rfl, q _ Hk H (.refl k) (show V.bl _ = V.bl _ by simp)⟩
  | some i =>
    cases (show x = V.int i from h1)
    cases j with
    | none => cases (show y = V.non from h2); exact ⟨rfl, q _ Hk H (.refl k) (show V.bl _ = V.bl _ by simp)⟩
    | some j => cases (show y = V.int j from h2); exact ⟨rfl, q _ Hk H (.refl k) (show V.bl _ = V.bl _ by simp)⟩
theorem rv_neO {i j : Option Int} : RvE rNe (en (rOpt rInt) i) (en (rOpt rInt) j) (en rBool (!decide (i = j))) := fun Hk H x y k h1 h2 Q q => by
  cases i with
  | none =>
    cases (show x = V.non from h1)
    cases j with
    | none => cases (show y = V.non from h2); exact ⟨rfl, q _ Hk H (.refl k) (show V.bl _ = V.bl _ by simp)⟩
    | some j => cases (show y = V.int j from h2); exact ⟨rfl, q _ Hk H (.refl k) (show V.bl _ = V.bl _ by simp)⟩
  | some i =>
    cases (show x = V.int i from h1)
    cases j with
    | none => cases (show y = V.non from h2); exact ⟨rfl, q _ Hk H (.refl k) (show V.bl _ = V.bl _ by simp)⟩
    | some j => cases (show y = V.int j from h2); exact ⟨rfl, q _ Hk H (.refl k) (show V.bl _ = V.bl _ by simp)⟩
/-- a kind that None is not of -/
def NN (A : Rp α) : Prop := ∀ x v H, A.r x v H → v ≠ .non
theorem nn_int : NN rInt := fun _ _ _ h => by cases h; intro z; cases z
theorem nn_list : NN (rList A) := fun _ _ _ h => by obtain ⟨_, _, h, _⟩ := h; subst h; intro z; cases z
theorem nn_pair : NN (rPair K A B) := fun _ _ _ h => by obtain ⟨_, _, _, h, _⟩ := h; subst h; intro z; cases z
theorem nn_tupl : NN (rTupL K A) := fun _ _ _ h => by obtain ⟨_, _, h, _⟩ := h; subst h; intro z; cases z
theorem opt_non {o : Option α} {v : V} (nn : NN A) (h : (rOpt A).r o v H) : decide (v = .non) = o.isNone := by
  cases o with
  | none => cases (show v = V.non from h); rfl
  | some x => exact decide_eq_false (nn x v H h)
theorem ev_isN {o : Option α} (nn : NN A) (h : Ev ta Γ Ω (en (rOpt A) o) Ω1) : Ev (tIsN ta) Γ Ω (en rBool o.isNone) Ω1 := fun W Hk0 H0 T σ H a Q q =>
  h W Hk0 H0 T σ H a _ fun v H' ⟨Hk, a'⟩ => q _ H' ⟨Hk, a'.unpush.push (show V.bl _ = V.bl _ by rw [opt_non nn (a'.tp (en (rOpt A) o, v) (by simp))])⟩
theorem ev_notN {o : Option α} (nn : NN A) (h : Ev ta Γ Ω (en (rOpt A) o) Ω1) : Ev (tNotN ta) Γ Ω (en rBool (!o.isNone)) Ω1 := fun W Hk0 H0 T σ H a Q q =>
  h W Hk0 H0 T σ H a _ fun v H' ⟨Hk, a'⟩ => q _ H' ⟨Hk, a'.unpush.push (show V.bl _ = V.bl _ by rw [opt_non nn (a'.tp (en (rOpt A) o, v) (by simp))])⟩
/-! ### truth -/
theorem ev_and {c d : Bool} (h1 : Ev ta Γ Ω (en rBool c) Ω) (h2 : c = true → Ev tb Γ Ω (en rBool d) Ω) : Ev (tAndV ta tb) Γ Ω (en rBool (c && d)) Ω := fun W Hk0 H0 T σ H a Q q =>
  h1 W Hk0 H0 T σ H a _ fun v H' a' => by
    have hv : v = .bl c := by obtain ⟨Hk, a'⟩ := a'; exact a'.tp (en rBool c, v) (by simp)
    refine ⟨c, hv, ?_⟩
    cases c with
    | true => exact h2 rfl W Hk0 H0 T σ H' a'.pop Q q
    | false => exact q _ H' (by obtain ⟨Hk, a'⟩ := a'; exact ⟨Hk, a'.unpush.push rfl⟩)
theorem ev_or {c d : Bool} (h1 : Ev ta Γ Ω (en rBool c) Ω) (h2 : c = false → Ev tb Γ Ω (en rBool d) Ω) : Ev (tOrV ta tb) Γ Ω (en rBool (c || d)) Ω := fun W Hk0 H0 T σ H a Q q =>
  h1 W Hk0 H0 T σ H a _ fun v H' a' => by
    have hv : v = .bl c := by obtain ⟨Hk, a'⟩ := a'; exact a'.tp (en rBool c, v) (by simp)
    refine ⟨c, hv, ?_⟩
    cases c with
    | false => exact h2 rfl W Hk0 H0 T σ H' a'.pop Q q
    | true => exact q _ H' (by obtain ⟨Hk, a'⟩ := a'; exact ⟨Hk, a'.unpush.push rfl⟩)
theorem ev_not {c : Bool} (h1 : Ev ta Γ Ω (en rBool c) Ω1) : Ev (tNotV ta) Γ Ω (en rBool (!c)) Ω1 := fun W Hk0 H0 T σ H a Q q =>
  h1 W Hk0 H0 T σ H a _ fun v H' ⟨Hk, a'⟩ => ⟨c, a'.tp (en rBool c, v) (by simp), q _ H' ⟨Hk, a'.unpush.push rfl⟩⟩
theorem eb_val {c : Bool} (h1 : Ev ta Γ Ω (en rBool c) Ω1) : EvB (tB ta) Γ Ω c Ω1 := fun W Hk0 H0 T σ H a Q q =>
  h1 W Hk0 H0 T σ H a _ fun v H' a' => ⟨c, (by obtain ⟨Hk, a'⟩ := a'; exact a'.tp (en rBool c, v) (by simp)), q H' a'.pop⟩
theorem eb_cmp {c : Bool} (h1 : Ev ta Γ Ω (en rBool c) Ω1) : EvB (tTest ta) Γ Ω c Ω1 := fun W Hk0 H0 T σ H a Q q =>
  h1 W Hk0 H0 T σ H a _ fun v H' a' => ⟨c, (by obtain ⟨Hk, a'⟩ := a'; exact a'.tp (en rBool c, v) (by simp)), q H' a'.pop⟩
theorem eb_and {c d : Bool} (h1 : EvB tt Γ Ω c Ω) (h2 : c = true → EvB tu Γ Ω d Ω) : EvB (tAnd tt tu) Γ Ω (c && d) Ω := fun W Hk0 H0 T σ H a Q q =>
  h1 W Hk0 H0 T σ H a _ fun H' a' => by
    cases c with
    | true => exact h2 rfl W Hk0 H0 T σ H' a' Q q
    | false => exact q H' a'
theorem eb_or {c d : Bool} (h1 : EvB tt Γ Ω c Ω) (h2 : c = false → EvB tu Γ Ω d Ω) : EvB (tOr tt tu) Γ Ω (c || d) Ω := fun W Hk0 H0 T σ H a Q q =>
  h1 W Hk0 H0 T σ H a _ fun H' a' => by
    cases c with
    | false => exact h2 rfl W Hk0 H0 T σ H' a' Q q
    | true => exact q H' a'
theorem eb_not {c : Bool} (h1 : EvB tt Γ Ω c Ω1) : EvB (tNot tt) Γ Ω (!c) Ω1 := fun W Hk0 H0 T σ H a Q q => h1 W Hk0 H0 T σ H a _ fun H' a' => q H' a'
theorem ev_if {c : Bool} (h : EvB tt Γ Ω c Ω1) (h1 : c = true → Ev ta Γ Ω1 e Ω2) (h2 : c = false → Ev tb Γ Ω1 e Ω2) : Ev (tIf tt ta tb) Γ Ω e Ω2 := fun W Hk0 H0 T σ H a Q q =>
  h W Hk0 H0 T σ H a _ fun H' a' => by
    cases c with
    | true => exact h1 rfl W Hk0 H0 T σ H' a' Q q
    | false => exact h2 rfl W Hk0 H0 T σ H' a' Q q
/-! ### displays -/
theorem ok_zip2 {e1 e2 : En} {v1 v2 : V} {T : Tm} (t : ∀ p ∈ [e1, e2].zip [v1, v2] ++ T, En.ok p.1 p.2 Hk) : e1.ok v1 Hk ∧ e2.ok v2 Hk := ⟨t (e1, v1) (by simp), t (e2, v2) (by simp)⟩
theorem ev_tup2 {ta : TA} {x : α} {y : β} (h : EvA ta Γ Ω [en A x, en B y] Ω1) : Ev (tTup ta) Γ Ω (en (rPair K A B) (x, y)) Ω1 := fun W Hk0 H0 T σ H a Q q =>
  h W Hk0 H0 T σ H a _ fun vs H1 hl ⟨Hk1, a1⟩ => ⟨by simp at hl; rw [← hl]; decide, fun p hp => by
    match vs, hl with
    | [v, w], _ =>
      obtain ⟨h1, h2⟩ := ok_zip2 a1.tp
      obtain ⟨Hk2, g2, ok⟩ := pair_new (K := K) (A := A) (B := B) a1.gr.kh hp h1 h2
      exact q _ _ ⟨Hk2, ((a1.grow g2).sub (T' := T) fun z hz => by simp [hz]).push ok⟩⟩
theorem al_of {es : List En} {vs : List V} (xs : List α) (h : es = xs.map (en A)) (o : OkAll es vs Hk) : Al A Hk xs vs := by
  subst h
  induction xs generalizing vs with
  | nil => cases vs with
    | nil => exact .nil
    | cons _ _ => exact o.elim
  | cons x xs ih => cases vs with
    | nil => exact o.elim
    | cons v vs => exact .cons o.1 (ih o.2)
theorem ev_lst {ta : TA} {es : List En} (xs : List α) (h : EvA ta Γ Ω es Ω1) (hx : es = xs.map (en A) := by rfl) (hl : xs.length ≤ 40000 := by decide) : Ev (tLst ta) Γ Ω (en (rList A) xs) Ω1 := fun W Hk0 H0 T σ H a Q q =>
  h W Hk0 H0 T σ H a _ fun vs H1 hlv ⟨Hk1, a1⟩ => ⟨by rw [← hlv, hx, List.length_map]; exact Nat.le_trans hl (by decide), fun p hp => by
    have o : OkAll es vs Hk1 := .of_zip hlv fun z hz => a1.tp z (by simp [hz])
    have g := Grow.new (W := []) (o := .lst vs) a1.gr.kh hp
    exact q _ _ ⟨_, ((a1.grow g).sub (T' := T) fun z hz => by simp [hz]).push (e := en (rList A) xs) ⟨p, vs, rfl, upd_same, (al_of xs hx o).mono g.kk⟩⟩⟩
theorem ev_tupl {ta : TA} {es : List En} (xs : List α) (h : EvA ta Γ Ω es Ω1) (hx : es = xs.map (en A) := by rfl) (hl : xs.length ≤ 40000 := by decide) : Ev (tTup ta) Γ Ω (en (rTupL K A) xs) Ω1 := fun W Hk0 H0 T σ H a Q q =>
  h W Hk0 H0 T σ H a _ fun vs H1 hlv ⟨Hk1, a1⟩ => ⟨by rw [← hlv, hx, List.length_map]; exact Nat.le_trans hl (by decide), fun p hp => by
    have o : OkAll es vs Hk1 := .of_zip hlv fun z hz => a1.tp z (by simp [hz])
    have g := Grow.new (W := []) (o := .tup vs) a1.gr.kh hp
    exact q _ _ ⟨_, ((a1.grow g).sub (T' := T) fun z hz => by simp [hz]).push (e := en (rTupL K A) xs) ⟨p, vs, rfl, SqT.of upd_same, (al_of xs hx o).mono g.kk⟩⟩⟩
/-! ### items -/
theorem rv_ixL {i : Int} {x : α} (hi : 0 ≤ i) (h : xs[i.toNat]? = some x) : RvE (rIxL K) (en (rList A) xs) (en rInt i) (en A x) := fun Hk H u y k h1 h2 Q q => by
  obtain ⟨p, vs, hu, hp, al⟩ := (show (rList A).r xs u Hk from h1)
  cases (show y = V.int i from h2)
  obtain ⟨v, e1, e2⟩ := al.get h
  refine ⟨p, vs, i, v, hu, rfl, Evl.sq_of (k.lst hp), ?_, q v Hk H (.refl k) e2⟩
  have := atI_nat (j := i.toNat) e1
  rwa [Int.toNat_of_nonneg hi] at this
theorem rv_ixL1 {x : α} {ys : List α} : RvE (rIxL K) (en (rList A) (ys ++ [x])) (en rInt (-1)) (en A x) := fun Hk H u y k h1 h2 Q q => by
  obtain ⟨p, vs, hu, hp, al⟩ := (show (rList A).r (ys ++ [x]) u Hk from h1)
  cases (show y = V.int (-1) from h2)
  have hl := al.len
  obtain ⟨v, e1, e2⟩ := al.get (i := ys.length) (x := x) (by simp)
  refine ⟨p, vs, -1, v, hu, rfl, Evl.sq_of (k.lst hp), ?_, q v Hk H (.refl k) e2⟩
  rw [List.length_append] at hl
  have : vs = vs.take ys.length ++ [v] := by
    apply List.ext_getElem?
    intro m
    by_cases h1 : m < ys.length
    · rw [List.getElem?_append_left (by rw [List.length_take]; simp at hl; omega), List.getElem?_take_of_lt h1]
    · by_cases h3 : m = ys.length
      · subst h3
        rw [List.getElem?_append_right (by rw [List.length_take]; omega), e1, List.length_take]
        simp at hl
        simp [show ys.length - min ys.length vs.length = 0 by omega]
      · rw [List.getElem?_eq_none (by simp at hl; omega), List.getElem?_eq_none (by rw [List.length_append, List.length_take]; simp at hl ⊢; omega)]
  rw [this]
  exact atI_last _ _
theorem rv_ixT {i : Int} {x : α} (hi : 0 ≤ i) (h : xs[i.toNat]? = some x) : RvE (rIxT K) (en (rTupL K A) xs) (en rInt i) (en A x) := fun Hk H u y k h1 h2 Q q => by
  obtain ⟨p, vs, hu, hp, al⟩ := (show (rTupL K A).r xs u Hk from h1)
  cases (show y = V.int i from h2)
  obtain ⟨v, e1, e2⟩ := al.get h
  refine ⟨p, vs, i, v, hu, rfl, ex_t k hp, ?_, q v Hk H (.refl k) e2⟩
  have := atI_nat (j := i.toNat) e1
  rwa [Int.toNat_of_nonneg hi] at this
theorem rv_fst {x : α} {z : β} : RvE (rIxT K) (en (rPair K A B) (x, z)) (en rInt 0) (en A x) := fun Hk H u y k h1 h2 Q q => by
  obtain ⟨p, v, w, hu, hp, r1, r2⟩ := (show (rPair K A B).r (x, z) u Hk from h1)
  cases (show y = V.int 0 from h2)
  exact ⟨p, [v, w], 0, v, hu, rfl, ex_t k hp, (by have := atI_nat (xs := [v, w]) (j := 0) (v := v) rfl; simpa using this), q v Hk H (.refl k) r1⟩
theorem rv_snd {x : α} {z : β} : RvE (rIxT K) (en (rPair K A B) (x, z)) (en rInt 1) (en B z) := fun Hk H u y k h1 h2 Q q => by
  obtain ⟨p, v, w, hu, hp, r1, r2⟩ := (show (rPair K A B).r (x, z) u Hk from h1)
  cases (show y = V.int 1 from h2)
  exact ⟨p, [v, w], 1, w, hu, rfl, ex_t k hp, (by have := atI_nat (xs := [v, w]) (j := 1) (v := w) rfl; simpa using this), q w Hk H (.refl k) r2⟩
/-! ### built-in functions of lists -/
theorem ok1 {vs : List V} (o : OkAll [e] vs Hk) : ∃ v, vs = [v] ∧ e.ok v Hk := by
  cases vs with
  | nil => exact o.elim
  | cons v vs =>
    cases vs with
    | nil => exact ⟨v, rfl, o.1⟩
    | cons _ _ => exact o.2.elim
abbrev rLenQ (K : PySem.W.Frag) : List V → Hp → VK → Prop := fun xs H Q => ∃ p ys, xs = [.ref p] ∧ (SqL K H p ys ∨ SqT K H p ys) ∧ Q (.int ys.length) H
theorem rc_lenL : RcE (rLenQ K) [en (rList A) xs] (en rInt (xs.length : Int)) := fun Hk H vs k o Q q => by
  obtain ⟨v, rfl, o1⟩ := ok1 o
  obtain ⟨p, ws, hu, hp, al⟩ := (show (rList A).r xs v Hk from o1)
  exact ⟨p, ws, by rw [hu], .inl (Evl.sq_of (k.lst hp)), q _ Hk H (.refl k) (show V.int _ = V.int _ by rw [al.len])⟩
theorem rc_lenT : RcE (rLenQ K) [en (rTupL K A) xs] (en rInt (xs.length : Int)) := fun Hk H vs k o Q q => by
  obtain ⟨v, rfl, o1⟩ := ok1 o
  obtain ⟨p, ws, hu, hp, al⟩ := (show (rTupL K A).r xs v Hk from o1)
  exact ⟨p, ws, by rw [hu], .inr (ex_t k hp), q _ Hk H (.refl k) (show V.int _ = V.int _ by rw [al.len])⟩
theorem rc_sum {ns : List Int} : RcE (rSum K) [en (rList rInt) ns] (en rInt ns.sum) := fun Hk H vs k o Q q => by
  obtain ⟨v, rfl, o1⟩ := ok1 o
  obtain ⟨p, ws, hu, hp, al⟩ := (show (rList rInt).r ns v Hk from o1)
  exact ⟨p, ns, by rw [hu], by rw [← al.map_int]; exact Evl.sq_of (k.lst hp), q _ Hk H (.refl k) rfl⟩
theorem rc_all {bs : List Bool} : RcE (rAll K) [en (rList rBool) bs] (en rBool (bs.all id)) := fun Hk H vs k o Q q => by
  obtain ⟨v, rfl, o1⟩ := ok1 o
  obtain ⟨p, ws, hu, hp, al⟩ := (show (rList rBool).r bs v Hk from o1)
  exact ⟨p, bs, by rw [hu], by rw [← al.map_bl]; exact Evl.sq_of (k.lst hp), q _ Hk H (.refl k) rfl⟩
theorem rc_any {bs : List Bool} : RcE (rAny K) [en (rList rBool) bs] (en rBool (bs.any id)) := fun Hk H vs k o Q q => by
  obtain ⟨v, rfl, o1⟩ := ok1 o
  obtain ⟨p, ws, hu, hp, al⟩ := (show (rList rBool).r bs v Hk from o1)
  exact ⟨p, bs, by rw [hu], by rw [← al.map_bl]; exact Evl.sq_of (k.lst hp), q _ Hk H (.refl k) rfl⟩
theorem rv_cat {ys : List α} (h : xs.length + ys.length ≤ 40000) : RvE rCat (en (rList A) xs) (en (rList A) ys) (en (rList A) (xs ++ ys)) := fun Hk H u y k h1 h2 Q q => by
  obtain ⟨p, vs, hu, hp, al⟩ := (show (rList A).r xs u Hk from h1)
  obtain ⟨p2, vs2, hu2, hp2, al2⟩ := (show (rList A).r ys y Hk from h2)
  refine ⟨p, p2, vs, vs2, hu, hu2, k.lst hp, k.lst hp2, by rw [← al.len, ← al2.len]; exact Nat.le_trans h (by decide), fun r hr => ?_⟩
  have g := Grow.new (W := []) (o := .lst (vs ++ vs2)) k hr
  exact q _ _ _ g ⟨r, _, rfl, upd_same, (al.append al2).mono g.kk⟩
/-! ### calls -/
abbrev Sig := List En → En → Prop
/-- a def that changes nothing -/
def spS (S : Sig) : Sp := fun vs H Q _ => ∃ es res Hk, S es res ∧ Ex Hk H ∧ OkAll es vs Hk ∧ ∀ w Hk' H', Grow [] Hk H Hk' H' → En.ok res w Hk' → Q w H'
theorem ev_call {S : Sig} {ta : TA} {es ds : List En} {dvs : List V} {E : XK} (h : EvA ta Γ Ω es Ω1) (hs : S (es ++ ds) e) (hd : ∀ H, OkAll ds dvs H := by intro _; exact True.intro) : Ev (tCall (spS S) dvs E ta) Γ Ω e Ω1 := fun W Hk0 H0 T σ H a Q q =>
  h W Hk0 H0 T σ H a _ fun vs H1 hl ⟨Hk1, a1⟩ => ⟨es ++ ds, e, Hk1, hs, a1.gr.kh, (OkAll.of_zip hl fun p hp => a1.tp p (by simp [hp])).append (hd Hk1), fun w Hk' H' g ok => q w H' ⟨Hk', ((a1.grow g).sub (T' := T) fun z hz => by simp [hz]).push ok⟩⟩
/-- a thing that is an instance of the class at C -/
def IsIn (C : Addr) (e : En) : Prop := ∀ v H, e.ok v H → ∃ a dx fs, v = .ref a ∧ H a = some (.ins C dx fs)
theorem ev_prop {S : Sig} {Cl : Addr} {E : XK} (hi : IsIn Cl e1) (h : Ev ta Γ Ω e1 Ω1) (hs : S [e1] e) : Ev (tProp Cl (spS S) [] E ta) Γ Ω e Ω1 := fun W Hk0 H0 T σ H a Q q =>
  h W Hk0 H0 T σ H a _ fun v H1 ⟨Hk1, a1⟩ => by
    have ok1 := a1.tp (e1, v) (by simp)
    obtain ⟨p, dx, fs, hv, hp⟩ := hi v Hk1 ok1
    refine ⟨p, dx, fs, hv, a1.gr.kh.ins hp, [e1], e, Hk1, hs, a1.gr.kh, ⟨by rw [← hv]; exact ok1, True.intro⟩, fun w Hk' H' g ok => q w H' ⟨Hk', (a1.grow g).unpush.push ok⟩⟩
/-- a method -/
theorem ev_meth {S : Sig} {Cl : Addr} {m : Str} {ta : TA} {to : TE} {es ds : List En} {dvs : List V} {E : XK} (hi : ∀ v H, e1.ok v H → ∃ a dx fs, v = .ref a ∧ H a = some (.ins Cl dx fs) ∧ fs.lookup m = none) (h : Ev to Γ Ω e1 Ω1) (ha : EvA ta Γ Ω1 es Ω2) (hs : S (e1 :: (es ++ ds)) e)
    (hd : ∀ H, OkAll ds dvs H := by intro _; exact True.intro) : Ev (tMeth Cl m (spS S) dvs E to ta) Γ Ω e Ω2 := fun W Hk0 H0 T σ H a Q q =>
  h W Hk0 H0 T σ H a _ fun v H1 a1 => by
    have : ∃ p dx fs, v = .ref p ∧ H1 p = some (.ins Cl dx fs) ∧ fs.lookup m = none := by
      obtain ⟨Hk1, a1⟩ := a1
      obtain ⟨p, dx, fs, hv, hp, hl⟩ := hi v Hk1 (a1.tp (e1, v) (by simp))
      exact ⟨p, dx, fs, hv, a1.gr.kh.ins hp, hl⟩
    obtain ⟨p, dx, fs, hv, hp, hl⟩ := this
    refine ⟨p, dx, fs, hv, hp, hl, ha W Hk0 H0 _ σ H1 a1 _ fun vs H2 hlv ⟨Hk2, a2⟩ => ?_⟩
    have o : OkAll (e1 :: (es ++ ds)) (v :: (vs ++ dvs)) Hk2 := ⟨a2.tp (e1, v) (by simp), (OkAll.of_zip hlv fun z hz => a2.tp z (by simp [hz])).append (hd Hk2)⟩
    exact ⟨e1 :: (es ++ ds), e, Hk2, hs, a2.gr.kh, o, fun w Hk' H' g ok => q w H' ⟨Hk', ((a2.grow g).sub (T' := T) fun z hz => by simp [hz]).push ok⟩⟩
/-- own operators -/
theorem rv_oin {S : Sig} {Cl : Addr} {E : XK} {c : Bool} (hi : IsIn Cl e2) (hs : S [e2, e1] (en rBool c)) : RvE (rOIn Cl (spS S) [] E false) e1 e2 (en rBool c) := fun Hk H x y k h1 h2 Q q => by
  obtain ⟨p, dx, fs, hv, hp⟩ := hi y Hk h2
  exact ⟨p, dx, fs, hv, k.ins hp, [e2, e1], en rBool c, Hk, hs, k, ⟨by rw [← hv]; exact h2, h1, True.intro⟩, fun w Hk' H' g ok => ⟨c, ok, q _ Hk' H' g rfl⟩⟩
theorem rv_onin {S : Sig} {Cl : Addr} {E : XK} {c : Bool} (hi : IsIn Cl e2) (hs : S [e2, e1] (en rBool c)) : RvE (rOIn Cl (spS S) [] E true) e1 e2 (en rBool (!c)) := fun Hk H x y k h1 h2 Q q => by
  obtain ⟨p, dx, fs, hv, hp⟩ := hi y Hk h2
  exact ⟨p, dx, fs, hv, k.ins hp, [e2, e1], en rBool c, Hk, hs, k, ⟨by rw [← hv]; exact h2, h1, True.intro⟩, fun w Hk' H' g ok => ⟨c, ok, q _ Hk' H' g rfl⟩⟩
theorem rv_oget {S : Sig} {Cl : Addr} {E : XK} (hi : IsIn Cl e1) (hs : S [e1, e2] e) : RvE (rOGet Cl (spS S) [] E) e1 e2 e := fun Hk H x y k h1 h2 Q q => by
  obtain ⟨p, dx, fs, hv, hp⟩ := hi x Hk h1
  exact ⟨p, dx, fs, hv, k.ins hp, [e1, e2], e, Hk, hs, k, ⟨by rw [← hv]; exact h1, h2, True.intro⟩, q⟩
theorem rv_obinI {S : Sig} {Cl : Addr} {E : XK} {i : Int} (hi : IsIn Cl e1) (hs : S [e1, en rInt i] e) : RvE (rOBinI Cl (spS S) [] E) e1 (en rInt i) e := fun Hk H x y k h1 h2 Q q => by
  obtain ⟨p, dx, fs, hv, hp⟩ := hi x Hk h1
  exact ⟨p, dx, fs, i, hv, h2, k.ins hp, [e1, en rInt i], e, Hk, hs, k, ⟨by rw [← hv]; exact h1, rfl, True.intro⟩, q⟩
theorem rv_obin {S : Sig} {Cl : Addr} {E : XK} (hi : IsIn Cl e1) (hi2 : IsIn Cl e2) (hs : S [e1, e2] e) : RvE (rOBin Cl (spS S) [] E) e1 e2 e := fun Hk H x y k h1 h2 Q q => by
  obtain ⟨p, dx, fs, hv, hp⟩ := hi x Hk h1
  obtain ⟨p2, dx2, fs2, hv2, hp2⟩ := hi2 y Hk h2
  exact ⟨p, dx, fs, p2, dx2, fs2, hv, hv2, k.ins hp, k.ins hp2, [e1, e2], e, Hk, hs, k, ⟨by rw [← hv]; exact h1, by rw [← hv2]; exact h2, True.intro⟩, q⟩
theorem rv_oeq {S : Sig} {Cl : Addr} {E : XK} (hi : IsIn Cl e1) (hi2 : IsIn Cl e2) (hs : S [e1, e2] e) : RvE (rOEq Cl (spS S) [] E) e1 e2 e := fun Hk H x y k h1 h2 Q q => by
  obtain ⟨p, dx, fs, hv, hp⟩ := hi x Hk h1
  obtain ⟨p2, dx2, fs2, hv2, hp2⟩ := hi2 y Hk h2
  exact ⟨p, dx, fs, p2, dx2, fs2, hv, hv2, k.ins hp, k.ins hp2, [e1, e2], e, Hk, hs, k, ⟨by rw [← hv]; exact h1, by rw [← hv2]; exact h2, True.intro⟩, q⟩
theorem rc_olen {S : Sig} {Cl : Addr} {E : XK} {m : Nat} (hi : IsIn Cl e1) (hm : m ≤ 40000) (hs : S [e1] (en rInt (m : Int))) : RcE (rOLen Cl (spS S) [] E) [e1] (en rInt (m : Int)) := fun Hk H vs k o Q q => by
  obtain ⟨v, rfl, o1⟩ := ok1 o
  obtain ⟨p, dx, fs, hv, hp⟩ := hi v Hk o1
  exact ⟨p, dx, fs, by rw [hv], k.ins hp, [e1], en rInt (m : Int), Hk, hs, k, ⟨by rw [← hv]; exact o1, True.intro⟩, fun w Hk' H' g ok => ⟨m, ok, by omega, by omega, q _ Hk' H' g rfl⟩⟩
end

/-! ### a def -/
section
variable {P : Program} {w : World} {K : PySem.W.Frag} {mg : Str → Option Value} {base : Heap}
/-- the start of a def: what its arguments are -/
theorem at_startH {N : List Str} {es : List En} {vs : List V} {Hk H : Hp} (k : Ex Hk H) (o : OkAll es vs Hk) (hN : es.length ≤ N.length) : AtH [] Hk H (es.map some ++ List.replicate (N.length - es.length) none) [] [] (L2.start N vs) Hk H := by
  have hl := o.len
  refine ⟨?_, fun i e q => ?_, fun _ h => by simp at h, by simp, fun _ h => by simp at h, Grow.refl k, fun _ h => by simp at h⟩
  · unfold L2.start; simp [hl]
  · by_cases hi : i < es.length
    · rw [List.getElem?_append_left (by simpa using hi)] at q
      rw [List.getElem?_map] at q
      obtain ⟨d, hd, z⟩ := Option.map_eq_some_iff.mp q
      cases z
      have : ∀ {es : List En} {vs : List V} {i : Nat}, OkAll es vs Hk → es[i]? = some e → ∃ v, vs[i]? = some v ∧ e.ok v Hk := by
        intro es
        induction es with
        | nil => intro vs i _ h; simp at h
        | cons d es ih =>
          intro vs i o h
          cases vs with
          | nil => exact o.elim
          | cons v vs =>
            cases i with
            | zero => simp at h; subst h; exact ⟨v, rfl, o.1⟩
            | succ i => obtain ⟨u, h1, h2⟩ := ih o.2 (by simpa using h); exact ⟨u, by simpa using h1, h2⟩
      obtain ⟨v, h1, h2⟩ := this o hd
      refine ⟨v, ?_, h2⟩
      unfold L2.start
      rw [List.getElem?_append_left (by simp; omega), List.getElem?_map, h1]
      rfl
    · rw [List.getElem?_append_right (by simpa using hi)] at q
      have := List.mem_replicate.mp (List.mem_of_getElem? q)
      cases this.2
theorem at_start {N : List Str} {es : List En} {vs : List V} {Hk H : Hp} (k : Ex Hk H) (o : OkAll es vs Hk) (hN : es.length ≤ N.length) : At [] Hk H (es.map some ++ List.replicate (N.length - es.length) none) [] [] (L2.start N vs) H := ⟨Hk, at_startH k o hN⟩
/-- a def keeps its promise: its body from what its arguments are to what it hands back -/
theorem fun_ok {CX : CXT} {x qual : Str} {params : Arguments} {body : List Stmt} {scope : Scope} {dvs : List V} {kws : List (Str × V)} {f : Addr} {fd : FuncData} {N ps : List Str} {k : Nat} {S : Sig}
    (F : FunD K x qual params body scope dvs kws f fd) (sc : FnScope N ps scope) (hl : ∀ es res, S es res → es.length = ps.length)
    (hbody : ∀ (cdv : Value) (A : Around) (outer : List Env) (s : Shared) (H : Hp) (E : XK), Room k (A.deeper (envOfC qual scope s.heap.objs.size f cdv)) →
      ∃ t, PSs (cxOf CX P w K mg base N qual scope f cdv A outer s H E) body t ∧ ∀ (es : List En) (res : En) (vs : List V) (Hk : Hp) (Q : VK), S es res → At [] Hk H (es.map some ++ List.replicate (N.length - es.length) none) [] [] (L2.start N vs) H →
        Back [] Hk H res [] Q → t { nx := fun _ H' => Q .non H', rt := Q } (L2.start N vs) H) :
    FnOk P w K mg base CX (k + 1) f fd ps (spS S) := by
  refine F.ok sc (fun vs H Q E h => ?_) fun cdv A outer s H vs Q E hr h => ?_
  · obtain ⟨es, res, Hk, hs, _, o, _⟩ := h
    rw [← o.len, hl es res hs]
  · obtain ⟨es, res, Hk, hs, hk, o, q⟩ := h
    obtain ⟨t, hp, ht⟩ := hbody cdv A outer s H E hr
    have hN : es.length ≤ N.length := by
      rw [hl es res hs]
      have := sc.pre
      have := congrArg List.length this
      rw [List.length_take] at this
      omega
    refine ⟨t, hp, ht es res vs Hk Q hs (at_start hk o hN) fun v H' T σ a => ?_⟩
    obtain ⟨Hk', a⟩ := a
    exact q v Hk' H' a.gr (a.tp (res, v) (by simp))
end
end KA

namespace KA
open PySem PySem.Spec PyProof.Rows L2
section
variable {W : List Addr} {Hk0 H0 : Hp} {Γ Γ' : Ctx} {Ω Ω1 Ω2 Ω3 : List Cell} {T T' : Tm} {σ σ' : L2.St} {Hk H : Hp}
variable {te ta tb td : TE} {tt tu : TT} {D : Ends} {e e1 e2 : En} {b b2 : Bool}
variable {K : PySem.W.Frag} {α β γ δ ε : Type} {A : Rp α} {B : Rp β} {C : Rp γ} {xs : List α} {wi : TI} {n j : Nat} {es : Nat → En} {g : TG}
/-! ### the same from here -/
def wide (W : List Addr) (Ω : List Cell) : List Addr := Ω.map Cell.a ++ W
theorem AtH.here (a : AtH W Hk0 H0 Γ Ω T σ Hk H) : AtH (wide W Ω) Hk H Γ Ω T σ Hk H where
  len := a.len
  sl := a.sl
  tp := a.tp
  nd := a.nd
  cl := fun c h => let ⟨h1, h2, _⟩ := a.cl c h; ⟨h1, h2, .inl (List.mem_append_left _ (List.mem_map_of_mem h))⟩
  gr := Grow.refl a.gr.kh
  ww := fun b w => by
    rcases List.mem_append.mp w with w | w
    · obtain ⟨c, hc, rfl⟩ := List.mem_map.mp w
      obtain ⟨h1, ⟨o, h2, _⟩, _⟩ := a.cl c hc
      exact ⟨(by rw [h2]; intro z; cases z), h1⟩
    · exact a.ww b w
theorem AtH.back {Hk' H' : Hp} (a : AtH W Hk0 H0 Γ Ω T σ Hk H) (b : AtH (wide W Ω) Hk H Γ' Ω1 T' σ' Hk' H') : AtH W Hk0 H0 Γ' Ω1 T' σ' Hk' H' := by
  have hin : ∀ x, x ∈ wide W Ω → x ∈ W ∨ H0 x = none := fun x hx => by
    rcases List.mem_append.mp hx with w | w
    · obtain ⟨c, hc, rfl⟩ := List.mem_map.mp w
      exact (a.cl c hc).2.2
    · exact .inl w
  refine { b with cl := fun c h => ?_, gr := ⟨a.gr.kk.trans b.gr.kk, b.gr.kh, fun x o hx e => ?_, fun x e nn => ?_, fun x w nn => ?_⟩, ww := fun x w => b.ww x (List.mem_append_right _ w) }
  · obtain ⟨h1, h2, h3⟩ := b.cl c h
    refine ⟨h1, h2, ?_⟩
    rcases h3 with h3 | h3
    · exact hin _ h3
    · by_cases w : c.a ∈ W
      · exact .inl w
      · refine .inr ?_
        cases q : H0 c.a with
        | none => rfl
        | some u => rw [a.gr.hh _ _ w q] at h3; cases h3
  · refine b.gr.hh x o (fun w => ?_) (a.gr.hh x o hx e)
    rcases hin x w with w | w
    · exact hx w
    · rw [e] at w; cases w
  · exact b.gr.nw x (a.gr.nw x e nn) (a.gr.stay nn)
  · exact b.gr.stay (a.gr.ws x w nn)
/-! ### a dict that is walked -/
def IsDct : HO → Prop
  | .dK _ => True
  | .dT _ => True
  | _ => False
theorem kn_frz {u v : HO} {od : Obj} (hu : IsDct u) (h : kn (some u) v) : kn (some (.frz od u)) v := by
  cases u with
  | dK kvs => cases v with
    | dK l => rcases h with h | ⟨_, h⟩ <;> cases h; exact .inr ⟨_, rfl⟩
    | dT l => rcases h with h | ⟨_, h⟩ <;> cases h
    | frz o w => cases w with
      | dK _ => exact True.intro
      | dT _ => exact True.intro
      | _ => cases h
    | _ => cases h
  | dT kvs => cases v with
    | dK l => rcases h with h | ⟨_, h⟩ <;> cases h
    | dT l => rcases h with h | ⟨_, h⟩ <;> cases h; exact .inr ⟨_, rfl⟩
    | frz o w => cases w with
      | dK _ => exact True.intro
      | dT _ => exact True.intro
      | _ => cases h
    | _ => cases h
  | _ => exact hu.elim
theorem kn_unfrz {u v : HO} {od : Obj} (hu : IsDct u) (h : kn (some (.frz od u)) v) : kn (some u) v := by
  cases u with
  | dK kvs => cases v with
    | dK l => rcases h with h | ⟨_, h⟩ <;> cases h; exact .inl rfl
    | dT l => rcases h with h | ⟨_, h⟩ <;> cases h
    | frz o w => cases w with
      | dK _ => exact True.intro
      | dT _ => exact True.intro
      | _ => cases h
    | _ => cases h
  | dT kvs => cases v with
    | dK l => rcases h with h | ⟨_, h⟩ <;> cases h
    | dT l => rcases h with h | ⟨_, h⟩ <;> cases h; exact .inl rfl
    | frz o w => cases w with
      | dK _ => exact True.intro
      | dT _ => exact True.intro
      | _ => cases h
    | _ => cases h
  | _ => exact hu.elim
/-- the dict at d is locked -/
theorem AtH.lock {d : Addr} {u : HO} {od : Obj} (a : AtH W Hk0 H0 Γ Ω T σ Hk H) (hd : H d = some u) (hu : IsDct u) (hk : Hk d ≠ none) : AtH (wide W Ω) Hk (upd H d (.frz od u)) Γ Ω T σ Hk (upd H d (.frz od u)) := by
  have k : Ex Hk (upd H d (.frz od u)) := fun b v h => by
    have := a.gr.kh b v h
    by_cases z : b = d
    · subst z; rw [upd_same]; rw [hd] at this; exact kn_frz hu this
    · rw [upd_ne z]; exact this
  have b := a.here
  refine { b with cl := fun c h => ?_, gr := Grow.refl k, ww := fun x w => ?_ }
  · obtain ⟨h1, ⟨o, h2, h3⟩, h4⟩ := b.cl c h
    have ne : c.a ≠ d := fun z => hk (z ▸ h1)
    exact ⟨h1, ⟨o, by rw [upd_ne ne]; exact h2, h3⟩, .inl (by
      rcases h4 with h4 | h4
      · exact h4
      · rw [h2] at h4; cases h4)⟩
  · obtain ⟨h1, h2⟩ := b.ww x w
    exact ⟨by rw [upd_ne (show x ≠ d from fun z => hk (z ▸ h2))]; exact h1, h2⟩
theorem AtH.unlock {d : Addr} {u : HO} {od : Obj} {Hk' H' : Hp} (a : AtH W Hk0 H0 Γ Ω T σ Hk H) (hd : H d = some u) (hu : IsDct u) (hk : Hk d ≠ none) (b : AtH (wide W Ω) Hk (upd H d (.frz od u)) Γ' Ω1 T' σ' Hk' H') :
    H' d = some (.frz od u) ∧ AtH W Hk0 H0 Γ' Ω1 T' σ' Hk' (upd H' d u) := by
  have ne : ∀ x, x ∈ wide W Ω → x ≠ d := fun x w z => by
    have := a.here.ww x w
    exact hk (z ▸ this.2)
  have e : H' d = some (.frz od u) := b.gr.hh d _ (fun w => ne d w rfl) upd_same
  have k : Ex Hk' (upd H' d u) := fun x v h => by
    have := b.gr.kh x v h
    by_cases z : x = d
    · subst z; rw [upd_same]; rw [e] at this; exact kn_unfrz hu this
    · rw [upd_ne z]; exact this
  have kd : Hk' d ≠ none := fun z => by
    cases q : Hk d with
    | none => exact hk q
    | some o => exact hk (b.gr.kk.back z)
  have bn : ∀ x, H x ≠ none → upd H d (.frz od u) x ≠ none := fun x h => by
    by_cases z : x = d
    · subst z; rw [upd_same]; intro q; cases q
    · rw [upd_ne z]; exact h
  refine ⟨e, a.back { b with cl := fun c h => ?_, gr := ⟨b.gr.kk, k, fun x o hx ex => ?_, fun x h1 h2 => b.gr.nw x h1 (bn x h2), fun x w h2 => ?_⟩, ww := fun x w => ?_ }⟩
  · obtain ⟨h1, ⟨o, h2, h3⟩, h4⟩ := b.cl c h
    have nc : c.a ≠ d := fun z => kd (z ▸ h1)
    refine ⟨h1, ⟨o, by rw [upd_ne nc]; exact h2, h3⟩, ?_⟩
    rcases h4 with h4 | h4
    · exact .inl h4
    · rw [upd_ne nc] at h4; exact .inr h4
  · by_cases z : x = d
    · subst z; rw [upd_same]; rw [hd] at ex; exact ex
    · rw [upd_ne z]; exact b.gr.hh x o hx (by rw [upd_ne z]; exact ex)
  · rw [upd_ne (ne x w)]; exact b.gr.ws x w (bn x h2)
  · obtain ⟨h1, h2⟩ := b.ww x w
    exact ⟨by rw [upd_ne (ne x w)]; exact h1, h2⟩
end
/-- what a statement asks where the dict it walks may be locked already, or is locked for it -/
def tLockS (t : TS) : TS := fun D σ H => tLock t D σ H ∨ t D σ H
def tLockV (t : TE) : TE := fun σ H Q => tLockE t σ H Q ∨ t σ H Q
section
variable {X : Cx}
theorem ps_lk {st : Stmt} {t : TS} (h : PS X st t) : PS X st (tLockS t) := ⟨fun pins s σ H D I q => q.elim (fun q => (ps_lock h).run pins s σ H D I q) fun q => h.run pins s σ H D I q⟩
theorem pe_lk {e : Expr} {t : TE} (h : PE X e t) : PE X e (tLockV t) := ⟨fun pins s σ H Q I q => q.elim (fun q => (pe_lock h).run pins s σ H Q I q) fun q => h.run pins s σ H Q I q⟩
end
section
variable {W : List Addr} {Hk0 H0 : Hp} {Γ Γ' : Ctx} {Ω Ω1 Ω2 Ω3 : List Cell} {T T' : Tm} {σ σ' : L2.St} {Hk H : Hp}
variable {te ta tb td : TE} {tt tu : TT} {D : Ends} {e e1 e2 : En} {b b2 : Bool} {ts : TS}
variable {K : PySem.W.Frag} {α β γ δ ε : Type} {A : Rp α} {B : Rp β} {C : Rp γ} {xs : List α} {wi : TI} {n j : Nat} {es : Nat → En} {g : TG}
/-! ### dicts whose keys are names -/
inductive AlD (A : Rp α) (H : Hp) : List (Str × α) → List (Key × V) → Prop where
  | nil : AlD A H [] []
  | cons {k : Str} {x : α} {v : V} {m : List (Str × α)} {kvs : List (Key × V)} : A.r x v H → AlD A H m kvs → AlD A H ((k, x) :: m) ((Sum.inr k, v) :: kvs)
theorem AlD.mono {H H' : Hp} (k : Ex H H') {m : List (Str × α)} {kvs : List (Key × V)} (h : AlD A H m kvs) : AlD A H' m kvs := by
  induction h with
  | nil => exact .nil
  | cons h _ ih => exact .cons (A.mono k h) ih
theorem AlD.len {m : List (Str × α)} {kvs : List (Key × V)} (h : AlD A H m kvs) : m.length = kvs.length := by
  induction h with
  | nil => rfl
  | cons _ _ ih => simp [ih]
theorem AlD.append {m l : List (Str × α)} {kvs lvs : List (Key × V)} (h : AlD A H m kvs) (k : AlD A H l lvs) : AlD A H (m ++ l) (kvs ++ lvs) := by
  induction h with
  | nil => exact k
  | cons h _ ih => exact .cons h ih
theorem AlD.back {m : List (Str × α)} {kvs : List (Key × V)} (h : AlD A H m kvs) : ∀ {i : Nat} {k : Key} {v : V}, kvs[i]? = some (k, v) → ∃ nm x, m[i]? = some (nm, x) ∧ k = Sum.inr nm ∧ A.r x v H := by
  induction h with
  | nil => intro i k v e; simp at e
  | @cons nm x v m kvs hx _ ih =>
    intro i k v' e
    cases i with
    | zero => simp at e; obtain ⟨rfl, rfl⟩ := e; exact ⟨nm, x, rfl, rfl, hx⟩
    | succ i => simp at e; obtain ⟨nm', x', h1, h2, h3⟩ := ih e; exact ⟨nm', x', by simpa using h1, h2, h3⟩
theorem AlD.keys {m : List (Str × α)} {kvs : List (Key × V)} (h : AlD A H m kvs) : kvs.map (·.1) = m.map fun p => (Sum.inr p.1 : Key) := by
  induction h with
  | nil => rfl
  | cons _ _ ih => simp [ih]
theorem AlD.val {m : List (Str × α)} {kvs : List (Key × V)} (h : AlD A H m kvs) (nm : Str) : match m.lookup nm with
    | some x => ∃ v, valV kvs (Sum.inr nm) = some v ∧ A.r x v H
    | none => valV kvs (Sum.inr nm) = none := by
  induction h with
  | nil => rfl
  | @cons k x v m kvs hx _ ih =>
    by_cases e : nm = k
    · subst e
      rw [show ((nm, x) :: m).lookup nm = some x by simp [List.lookup]]
      exact ⟨v, valV_pos rfl, hx⟩
    · rw [show ((k, x) :: m).lookup nm = m.lookup nm by rw [List.lookup, beq_eq_false_iff_ne.mpr e]]
      have : valV ((Sum.inr k, v) :: kvs) (Sum.inr nm : Key) = valV kvs (Sum.inr nm) := by
        unfold valV
        rw [List.find?_cons, decide_eq_false (fun z => e (Sum.inr.inj z).symm)]
      rw [this]
      exact ih
theorem AlD.yes {m : List (Str × α)} {kvs : List (Key × V)} (h : AlD A H m kvs) {nm : Str} {x : α} (e : m.lookup nm = some x) : ∃ v, valV kvs (Sum.inr nm) = some v ∧ A.r x v H := by
  have := h.val nm
  rw [e] at this
  exact this
theorem AlD.no {m : List (Str × α)} {kvs : List (Key × V)} (h : AlD A H m kvs) {nm : Str} (e : m.lookup nm = none) : valV kvs (Sum.inr nm) = none := by
  have := h.val nm
  rw [e] at this
  exact this
def rDict (A : Rp α) : Rp (List (Str × α)) := ⟨fun m v H => ∃ d kvs, v = .ref d ∧ Rd H d (.dK kvs) ∧ AlD A H m kvs, fun k ⟨d, kvs, h1, h2, h3⟩ => ⟨d, kvs, h1, k.dK h2, h3.mono k⟩⟩
theorem ev_dget {m : List (Str × α)} {nm : Str} {x : α} (h1 : Ev td Γ Ω (en (rDict A) m) Ω1) (h2 : Ev ta Γ Ω1 (en rStr nm) Ω2) (hm : m.lookup nm = some x) : Ev (tDGet td ta) Γ Ω (en A x) Ω2 := fun W Hk0 H0 T σ H a Q q =>
  h1 W Hk0 H0 T σ H a _ fun v H1 a1 => h2 W Hk0 H0 _ σ H1 a1 _ fun y H2 ⟨Hk2, a2⟩ => by
    obtain ⟨d, kvs, hv, hd, al⟩ := (show (rDict A).r m v Hk2 from a2.tp (en (rDict A) m, v) (by simp))
    have hy : y = .str nm := a2.tp (en rStr nm, y) (by simp)
    obtain ⟨u, e1, e2⟩ := al.yes hm
    exact ⟨d, u, hv, .inl ⟨kvs, Sum.inr nm, a2.gr.kh.dK hd, hy, e1.symm⟩, q u H2 ⟨Hk2, (a2.sub (T' := T) fun z hz => by simp [hz]).push e2⟩⟩
theorem ev_din {m : List (Str × α)} {nm : Str} (h2 : Ev ta Γ Ω (en rStr nm) Ω1) (h1 : Ev td Γ Ω1 (en (rDict A) m) Ω2) : Ev (tDIn ta td) Γ Ω (en rBool (m.lookup nm).isSome) Ω2 := fun W Hk0 H0 T σ H a Q q =>
  h2 W Hk0 H0 T σ H a _ fun y H1 a1 => h1 W Hk0 H0 _ σ H1 a1 _ fun v H2 ⟨Hk2, a2⟩ => by
    obtain ⟨d, kvs, hv, hd, al⟩ := (show (rDict A).r m v Hk2 from a2.tp (en (rDict A) m, v) (by simp))
    have hy : y = .str nm := a2.tp (en rStr nm, y) (by simp)
    refine ⟨d, valV kvs (Sum.inr nm), hv, .inl ⟨kvs, Sum.inr nm, a2.gr.kh.dK hd, hy, rfl⟩, q _ H2 ⟨Hk2, (a2.sub (T' := T) fun z hz => by simp [hz]).push (e := en rBool (m.lookup nm).isSome) ?_⟩⟩
    show V.bl _ = V.bl _
    cases e : m.lookup nm with
    | none => rw [al.no e]; rfl
    | some x => obtain ⟨u, e1, _⟩ := al.yes e; rw [e1]; rfl
/-! ### walks over dicts -/
/-- td is the dict m, whatever else has changed -/
def Dloc (td : TE) (Γ : Ctx) (A : Rp α) (m : List (Str × α)) : Prop := ∀ W Hk0 H0 Ω T σ Hk H, AtH W Hk0 H0 Γ Ω T σ Hk H → ∃ d kvs, Rd Hk d (.dK kvs) ∧ AlD A Hk m kvs ∧ ∀ H', Ex Hk H' → ∀ Q : VK, Q (.ref d) H' → td σ H' Q
theorem dloc_var {i : Nat} {m : List (Str × α)} (h : Γ[i]? = some (some (en (rDict A) m))) : Dloc (tVar i) Γ A m := fun W Hk0 H0 Ω T σ Hk H a => by
  obtain ⟨v, h1, d, kvs, rfl, hd, al⟩ := a.sl i _ h
  exact ⟨d, kvs, hd, al, fun H' _ Q q => ⟨_, h1, q⟩⟩
/-- the dict that td is is locked here -/
def Lkd (td : TE) (A : Rp α) (m : List (Str × α)) : List Addr → Hp → Hp → L2.St → Prop := fun W Hk0 H0 σ => ∃ d o kvs, d ∉ W ∧ H0 d = some (.frz o (.dK kvs)) ∧ AlD A Hk0 m kvs ∧ ∀ H', Ex Hk0 H' → ∀ Q : VK, Q (.ref d) H' → td σ H' Q
theorem ev_lk {m : List (Str × α)} (hl : Dloc td Γ A m) (h : EvX (Lkd td A m) te Γ Ω e Ω1) : Ev (tLockV te) Γ Ω e Ω1 := fun W Hk0 H0 T σ H ⟨Hk, a⟩ Q q => by
  obtain ⟨d, kvs, hd, al, ht⟩ := hl W Hk0 H0 Ω T σ Hk H a
  have hdH : Rd H d (.dK kvs) := a.gr.kh.dK hd
  have hk : Hk d ≠ none := by rcases hd with hd | ⟨_, hd⟩ <;> (rw [hd]; intro z; cases z)
  have hw : d ∉ wide W Ω := fun w => hk (a.here.ww d w).2
  rcases hdH with hdH | ⟨o, hdH⟩
  · refine .inl ⟨d, .dK kvs, hdH, True.intro, fun od => ?_⟩
    have b := a.lock (od := od) hdH True.intro hk
    refine h _ _ _ _ _ _ ⟨d, od, kvs, hw, upd_same, al, ht⟩ ⟨Hk, b⟩ _ fun v H' ⟨Hk', b'⟩ => ?_
    obtain ⟨e1, e2⟩ := a.unlock (od := od) hdH True.intro hk b'
    exact ⟨e1, q v _ ⟨Hk', e2⟩⟩
  · refine .inr ?_
    exact h _ _ _ _ _ _ ⟨d, o, kvs, hw, hdH, al, ht⟩ ⟨Hk, a.here⟩ _ fun v H' ⟨Hk', b'⟩ => q v H' ⟨Hk', a.back b'⟩
/-- a statement under the lock: what it leads to, what it hands back -/
theorem s_lk {m : List (Str × α)} (a : At W Hk0 H0 Γ Ω T σ H) (hl : Dloc td Γ A m) {Γn : Ctx} {Ωn : List Cell} {Tn : Tm} (hn : ∀ σ' H', At W Hk0 H0 Γn Ωn Tn σ' H' → D.nx σ' H')
    (h : ∀ W' Hk' H' (D' : Ends), Lkd td A m W' Hk' H' σ → At W' Hk' H' Γ Ω T σ H' → (∀ σ' H2, At W' Hk' H' Γn Ωn Tn σ' H2 → D'.nx σ' H2) → (∀ e Ω', Back W Hk0 H0 e Ω' D.rt → Back W' Hk' H' e Ω' D'.rt) → ts D' σ H') : tLockS ts D σ H := by
  obtain ⟨Hk, a⟩ := a
  obtain ⟨d, kvs, hd, al, ht⟩ := hl W Hk0 H0 Ω T σ Hk H a
  have hdH : Rd H d (.dK kvs) := a.gr.kh.dK hd
  have hk : Hk d ≠ none := by rcases hd with hd | ⟨_, hd⟩ <;> (rw [hd]; intro z; cases z)
  have hw : d ∉ wide W Ω := fun w => hk (a.here.ww d w).2
  rcases hdH with hdH | ⟨o, hdH⟩
  · refine .inl ⟨d, .dK kvs, hdH, True.intro, fun od => ?_⟩
    have b := a.lock (od := od) hdH True.intro hk
    refine h _ _ _ _ ⟨d, od, kvs, hw, upd_same, al, ht⟩ ⟨Hk, b⟩ (fun σ' H' ⟨Hk', b'⟩ => ?_) (fun e Ω' k v H' T' σ' ⟨Hk', b'⟩ => ?_)
    · obtain ⟨e1, e2⟩ := a.unlock (od := od) hdH True.intro hk b'
      exact ⟨e1, hn _ _ ⟨Hk', e2⟩⟩
    · obtain ⟨e1, e2⟩ := a.unlock (od := od) hdH True.intro hk b'
      exact ⟨e1, k v _ T' σ' ⟨Hk', e2⟩⟩
  · refine .inr (h _ _ _ D ⟨d, o, kvs, hw, hdH, al, ht⟩ ⟨Hk, a.here⟩ (fun σ' H' ⟨Hk', b'⟩ => hn _ _ ⟨Hk', a.back b'⟩) (fun e Ω' k v H' T' σ' ⟨Hk', b'⟩ => k v H' T' σ' ⟨Hk', a.back b'⟩))
theorem given_k {m : List (Str × α)} {kvs : List (Key × V)} (al : AlD A H m kvs) {i : Nat} {k : Key} {v : V} (h : kvs[i]? = some (k, v)) : ∃ nm x, m[i]? = some (nm, x) ∧ k = Sum.inr nm ∧ A.r x v H := al.back h
theorem ei_keys {m : List (Str × α)} : EvI (Lkd td A m) (iKeys td) Γ Ω m.length (nth rStr (m.map (·.1))) Ω := fun W Hk0 H0 T σ H ⟨d, o, kvs, hw, hd, al, ht⟩ ⟨Hk, a⟩ R q => by
  have k0 : Ex Hk0 H := a.gr.kk.trans a.gr.kh
  refine ht H k0 _ ⟨d, o, rfl, .inl ⟨kvs, a.gr.hh d _ hw hd, ?_⟩⟩
  have mm : ∀ H H' : Hp, Ex H H' → True → True := fun _ _ _ h => h
  refine q (Itk d o kvs) [fct _ mm] H ⟨Hk, a.fct mm True.intro⟩ ⟨_, _, (by rw [al.len]; exact walk_keys), fun Hk H t k hh => hh d _ hw hd, fun i Hk H x H' hi t k y => ?_⟩
  obtain ⟨rfl, kk, v, h1, rfl⟩ := y
  obtain ⟨nm, x, h2, rfl, h3⟩ := al.back h1
  refine ⟨Hk, Grow.refl k, ?_⟩
  rw [nth_of (x := nm) (by rw [List.getElem?_map, h2]; rfl)]
  exact rfl
theorem ei_items {m : List (Str × α)} : EvI (Lkd td A m) (iItems td) Γ Ω m.length (nth (rPair K rStr A) m) Ω := fun W Hk0 H0 T σ H ⟨d, o, kvs, hw, hd, al, ht⟩ ⟨Hk, a⟩ R q => by
  have k0 : Ex Hk0 H := a.gr.kk.trans a.gr.kh
  refine ht H k0 _ ⟨d, o, kvs, rfl, a.gr.hh d _ hw hd, ?_⟩
  have mm : ∀ H H' : Hp, Ex H H' → AlD A H m kvs → AlD A H' m kvs := fun _ _ k h => h.mono k
  refine q (Iti d o kvs) [fct _ mm] H ⟨Hk, a.fct mm (al.mono a.gr.kk)⟩ ⟨_, _, (by rw [al.len]; exact walk_items), fun Hk H t k hh => hh d _ hw hd, fun i Hk H x H' hi t k y => ?_⟩
  obtain ⟨tp, x1, x2, rfl, hn, rfl, e1, e2⟩ := y
  obtain ⟨⟨kk, v⟩, g1, g2⟩ := Option.map_eq_some_iff.mp e1
  have e2 : Option.map Prod.snd kvs[i]? = some x2 := e2
  rw [g1] at e2
  cases e2
  obtain ⟨nm, x, h2, h4, h3⟩ := (fct_of (m := mm) t (by simp)).back g1
  rw [nth_of h2]
  refine pair_new (A := rStr) (B := A) k hn ?_ h3
  subst g2
  rw [h4]
  exact rfl
/-! ### dicts that are made -/
def dc (A : Rp α) (p : Addr) (m : List (Str × α)) : Cell := ⟨p, fun o H => ∃ kvs, o = .dK kvs ∧ AlD A H m kvs, fun k ⟨kvs, h1, h2⟩ => ⟨kvs, h1, h2.mono k⟩⟩
theorem AlD.put {m : List (Str × α)} {kvs : List (Key × V)} (h : AlD A H m kvs) {nm : Str} {x : α} {v : V} (hn : m.lookup nm = none) (hx : A.r x v H) : putK kvs (Sum.inr nm) v = kvs ++ [(Sum.inr nm, v)] ∧ AlD A H (m ++ [(nm, x)]) (kvs ++ [(Sum.inr nm, v)]) :=
  ⟨putK_new v (h.no hn), h.append (.cons hx .nil)⟩
theorem At.freeD {p : Addr} {m : List (Str × α)} (a : At W Hk0 H0 Γ (dc A p m :: Ω) T σ H) (hw : p ∉ W) : At W Hk0 H0 Γ Ω ((en (rDict A) m, .ref p) :: T) σ H := by
  obtain ⟨Hk, a⟩ := a
  obtain ⟨o, h2, ⟨kvs, rfl, al⟩, a'⟩ := a.release hw
  obtain ⟨h1, _⟩ := a.cl _ (List.mem_cons_self ..)
  exact ⟨_, a'.push (e := en (rDict A) m) (v := .ref p) ⟨p, kvs, rfl, .inl upd_same, al.mono (Ex.new h1)⟩⟩
/-- what a slot names is known now -/
theorem At.give {p : Addr} (a : At W Hk0 H0 Γ Ω ((e, .ref p) :: T) σ H) {i : Nat} (h : Γ[i]? = some (some (en rVal (.ref p)))) : At W Hk0 H0 (Γ.set i (some e)) Ω T σ H := by
  obtain ⟨Hk, a⟩ := a
  obtain ⟨v, h1, h2⟩ := a.sl i _ h
  have hv : v = .ref p := h2
  subst hv
  have b := a.unpush.set i (a.tp (e, .ref p) (by simp))
  have hs : σ.set i (some (.ref p)) = σ := by
    apply List.ext_getElem?
    intro j
    by_cases z : i = j
    · subst z
      have := (List.getElem?_eq_some_iff.mp h1).1
      rw [List.getElem?_set_self this, h1]
    · rw [List.getElem?_set_ne z]
  rw [hs] at b
  exact ⟨Hk, b⟩
/-- x = {}, x = [] -/
theorem q_newD {i : Nat} {tz : TS} (a : At W Hk0 H0 Γ Ω T σ H) (A : Rp α) (k : ∀ p σ' H', p ∉ W → At W Hk0 H0 (Γ.set i (some (en rVal (.ref p)))) (dc A p [] :: Ω) T σ' H' → tz D σ' H') : tSeq (tAsg tDNewK (gName i)) tz D σ H := by
  intro p hp
  obtain ⟨Hk, a⟩ := a
  have b := a.newCell (c := dc A p []) (o := .dK []) hp rfl ⟨[], rfl, .nil⟩
  exact k p _ _ (At.notW ⟨Hk, a⟩ hp) ⟨Hk, b.set i rfl⟩
theorem q_newL {i : Nat} {tz : TS} (a : At W Hk0 H0 Γ Ω T σ H) (A : Rp α) (k : ∀ p σ' H', p ∉ W → At W Hk0 H0 (Γ.set i (some (en rVal (.ref p)))) (lc A p [] :: Ω) T σ' H' → tz D σ' H') : tSeq (tAsg (tLst tNil) (gName i)) tz D σ H := by
  refine ⟨Nat.zero_le _, fun p hp => ?_⟩
  obtain ⟨Hk, a⟩ := a
  have b := a.newCell (c := lc A p []) (o := .lst []) hp rfl ⟨[], rfl, .nil⟩
  exact k p _ _ (At.notW ⟨Hk, a⟩ hp) ⟨Hk, b.set i rfl⟩
/-- d[nm] = e, d of one's own, nm not in it -/
theorem s_dput {p : Addr} {i : Nat} {m : List (Str × α)} {nm : Str} {x : α} (a : At W Hk0 H0 Γ (dc A p m :: Ω) T σ H) (hi : Γ[i]? = some (some (en rVal (.ref p)))) (hv : Ev te Γ (dc A p m :: Ω) (en A x) (dc A p m :: Ω)) (hk : Ev ta Γ (dc A p m :: Ω) (en rStr nm) (dc A p m :: Ω))
    (hn : m.lookup nm = none) (hl : m.length ≤ 40000) (k : ∀ H', At W Hk0 H0 Γ (dc A p (m ++ [(nm, x)]) :: Ω) T σ H' → D.nx σ H') : sDPut (tVar i) ta te D σ H :=
  hv W Hk0 H0 T σ H a _ fun v H1 a1 => by
    have a1' := a1
    obtain ⟨Hk1, a1⟩ := a1
    obtain ⟨u, h1, h2⟩ := a1.sl i _ hi
    refine ⟨u, h1, hk W Hk0 H0 _ σ H1 a1' _ fun y H2 ⟨Hk2, a2⟩ => ?_⟩
    have hu : u = .ref p := h2
    subst hu
    have hy : y = .str nm := a2.tp (en rStr nm, y) (by simp)
    have hx : A.r x v Hk2 := a2.tp (en A x, v) (by simp)
    obtain ⟨_, ⟨o, g2, kvs, rfl, al⟩, _⟩ := a2.cl _ (List.mem_cons_self ..)
    obtain ⟨e1, e2⟩ := al.put hn hx
    refine ⟨p, _, rfl, .inl ⟨kvs, Sum.inr nm, g2, hy, ?_, rfl⟩, ?_⟩
    · rw [← al.len]; exact Evl.sz_lt (by omega)
    · rw [e1]
      exact k _ ⟨Hk2, (a2.sub (T' := T) fun z hz => by simp [hz]).write (c := dc A p m) (c' := dc A p (m ++ [(nm, x)])) rfl ⟨_, rfl, e2⟩⟩
/-- xs.append(e), xs of one's own -/
theorem s_app {p : Addr} {i : Nat} {xs : List α} {x : α} (a : At W Hk0 H0 Γ (lc A p xs :: Ω) T σ H) (hi : Γ[i]? = some (some (en rVal (.ref p)))) (hv : Ev te Γ (lc A p xs :: Ω) (en A x) (lc A p xs :: Ω)) (hl : xs.length ≤ 40000)
    (k : ∀ H', At W Hk0 H0 Γ (lc A p (xs ++ [x]) :: Ω) T σ H' → D.nx σ H') : tDrop (tBM K "list" rAppend (tVar i) (tCons te tNil)) D σ H := by
  have a0 := a
  obtain ⟨Hk, a⟩ := a
  obtain ⟨u, h1, h2⟩ := a.sl i _ hi
  have hu : u = .ref p := h2
  subst hu
  obtain ⟨_, ⟨o, g2, vs, rfl, al⟩, _⟩ := a.cl _ (List.mem_cons_self ..)
  refine ⟨_, h1, .inl ⟨rfl, vs, Evl.sq_of g2⟩, hv W Hk0 H0 T σ H a0 _ fun v H1 a1 => ?_⟩
  obtain ⟨acc, e1, e2, a2⟩ := a1.append
  exact ⟨p, acc, v, rfl, rfl, e1, by rw [e2]; exact Evl.sz_lt (by omega), k _ a2⟩
/-- list(d) -/
theorem rc_listD {m : List (Str × α)} : RcE (fun xs H Q => ∃ (a : Addr) (kvs : List (Key × V)), xs = [.ref a] ∧ Rd H a (.dK kvs) ∧ ∀ p, H p = none → Q (.ref p) (upd H p (.lst (kvs.map fun kv => kV kv.1)))) [en (rDict A) m] (en (rList rStr) (m.map (·.1))) := fun Hk H vs k o Q q => by
  obtain ⟨v, rfl, o1⟩ := ok1 o
  obtain ⟨d, kvs, rfl, hd, al⟩ := (show (rDict A).r m v Hk from o1)
  refine ⟨d, kvs, rfl, k.dK hd, fun p hp => ?_⟩
  refine q _ _ _ (Grow.new k hp) ⟨p, _, rfl, upd_same, ?_⟩
  have : ∀ {m : List (Str × α)} {kvs : List (Key × V)} {H1 H2 : Hp}, AlD A H1 m kvs → Al rStr H2 (m.map (·.1)) (kvs.map fun kv => kV kv.1) := by
    intro m kvs H1 H2 h
    induction h with
    | nil => exact .nil
    | cons _ _ ih => exact .cons rfl ih
  exact this al
theorem lookup_no {m : List (Str × α)} {nm : Str} (h : ∀ p ∈ m, p.1 ≠ nm) : m.lookup nm = none := by
  induction m with
  | nil => rfl
  | cons p m ih =>
    obtain ⟨k, x⟩ := p
    rw [List.lookup, beq_eq_false_iff_ne.mpr fun z => h (k, x) (by simp) z.symm]
    exact ih fun q hq => h q (by simp [hq])
theorem dc_it {J : It} {G : Hp → Prop} {Y : Nat → Hp → V → Hp → Prop} (w : Walk J n G Y) {tk tv : TE} {vs : List Nat} {H1 : Hp} {D : Addr} {Qd : Hp → Prop} (Pv : Nat → Hp → Prop) (h0 : Pv 0 (upd H1 D (.dK []))) (hG : ∀ i H, i ≤ n → Pv i H → G H)
    (hs : ∀ i x H H', i < n → Pv i H → Y i H x H' → g x (wipe σ vs) H' fun σ2 H2 => wipe σ2 vs = wipe σ vs ∧ tt σ2 H2 fun b H3 =>
      if b = true then tk σ2 H3 fun y H4 => tv σ2 H4 fun z H5 => ∃ kvs k, y = kV k ∧ H5 D = some (.dK kvs) ∧ kvs.length < sizeLine ∧ Pv (i + 1) (upd H5 D (.dK (putK kvs k z))) else Pv (i + 1) H3) (hd : ∀ H, Pv n H → Qd H) :
    ∃ W : Nat → Nat → Hp → Prop, (∃ m, W 0 m (upd H1 D (.dK []))) ∧ ∀ i m H, W i m H →
      (J.stop i H ∧ Qd H) ∨ (J.go i H ∧ ∃ Nx : Hp → Prop, (∀ H', Nx H' → ∃ m', m' < m ∧ W (i + 1) m' H') ∧ ∀ x H', J.yld i H x H' → g x (wipe σ vs) H' fun σ2 H2 => wipe σ2 vs = wipe σ vs ∧ tt σ2 H2 fun b H3 =>
        if b = true then tk σ2 H3 fun y H4 => tv σ2 H4 fun z H5 => ∃ kvs k, y = kV k ∧ H5 D = some (.dK kvs) ∧ kvs.length < sizeLine ∧ Nx (upd H5 D (.dK (putK kvs k z))) else Nx H3) := by
  refine ⟨fun i m H => m = n - i ∧ i ≤ n ∧ Pv i H, ⟨n, by simp, Nat.zero_le _, h0⟩, ?_⟩
  rintro i m H ⟨rfl, hi, p⟩
  have q := hG i H hi p
  by_cases hlt : i < n
  · refine .inr ⟨w.goes i H hlt q, Pv (i + 1), fun H' p' => ⟨n - (i + 1), by omega, rfl, hlt, p'⟩, fun x H' y => hs i x H H' hlt p (w.yields i H x H' hlt q y)⟩
  · have e : i = n := by omega
    subst e
    exact .inl ⟨w.stops H q, hd H p⟩
/-- {k: v for .. in ..}, no key twice -/
theorem ev_dcX {Bs : List Addr → Hp → Hp → L2.St → Prop} {tk tv : TE} {vs : List Nat} (Γs : Nat → Ctx) (ks : Nat → Str) (v : Nat → β) (h : EvI Bs wi Γ Ω n es Ω1) (hn : n ≤ 40000) (nd : ∀ i j, i < j → j < n → ks i ≠ ks j)
    (hg : ∀ i, i < n → TgE g (wipeC Γ vs) (es i) (Γs i) vs) (hk : ∀ i Ω, i < n → Ev tk (Γs i) Ω (en rStr (ks i)) Ω) (he : ∀ i Ω, i < n → Ev tv (Γs i) Ω (en B (v i)) Ω) :
    EvX Bs (tDc wi g tYes tk tv vs) Γ Ω (en (rDict B) ((List.range n).map fun i => (ks i, v i))) Ω1 := fun W Hk0 H0 T σ H hB a Q q =>
  h W Hk0 H0 T σ H hB a _ fun J T' H1 ⟨Hk1, a1⟩ ⟨G, Y, w, hGk, hY⟩ Dl hD => by
    have hsl := a1.sl
    have hlen := a1.len
    have hnw : Dl ∉ W := At.notW ⟨Hk1, a1⟩ hD
    have back : ∀ {Ω' : List Cell} {σ' : L2.St} {Γ' : Ctx} {H' : Hp}, At W Hk0 H0 Γ' Ω' (T' ++ (slT Γ σ ++ T)) σ' H' → At W Hk0 H0 (wipeC Γ vs) Ω' (T' ++ (slT Γ σ ++ T)) (wipe σ vs) H' := fun {Ω'} {σ'} {Γ'} {H'} z =>
      z.reslot (by rw [wipe_length, wipeC_len]; exact hlen) fun i e q => by
        obtain ⟨h1, h2⟩ := wipeC_in q
        obtain ⟨u, h3, h4⟩ := slT_in hsl i e h1
        exact ⟨u, by rw [wipe_at h2]; exact h3, by simp [h4]⟩
    have start : At W Hk0 H0 (wipeC Γ vs) (dc B Dl ((List.range 0).map fun i => (ks i, v i)) :: Ω1) (T' ++ (slT Γ σ ++ T)) (wipe σ vs) (upd H1 Dl (.dK [])) := by
      refine ⟨Hk1, AtH.newCell (c := dc B Dl ((List.range 0).map fun i => (ks i, v i))) ?_ hD rfl ⟨[], rfl, .nil⟩⟩
      refine { a1.wipe vs with tp := fun p hp => ?_ }
      simp at hp
      rcases hp with hp | hp | hp
      · exact a1.tp p (by simp [hp])
      · exact slT_ok hlen hsl p hp
      · exact a1.tp p (by simp [hp])
    refine dc_it w (fun i H' => At W Hk0 H0 (wipeC Γ vs) (dc B Dl ((List.range i).map fun i => (ks i, v i)) :: Ω1) (T' ++ (slT Γ σ ++ T)) (wipe σ vs) H') start (fun i H' _ ⟨Hk', a'⟩ => hGk Hk' H' (fun p hp => a'.tp p (by simp [hp])) a'.gr.kh a'.gr.hh) ?_ ?_
    · rintro i x H2 H3 hi ⟨Hk', a'⟩ y
      obtain ⟨Hk3, g3, ok⟩ := hY i Hk' H2 x H3 hi (fun p hp => a'.tp p (by simp [hp])) a'.gr.kh y
      refine hg i hi W Hk0 H0 _ _ _ H3 x ⟨Hk3, (a'.grow g3).push ok⟩ _ fun σ2 a2 ⟨ps, hps, es⟩ => ⟨by rw [es, wipe_fold hps, wipe_wipe fun _ h => h], ?_⟩
      show tk σ2 H3 _
      refine hk i _ hi W Hk0 H0 _ σ2 H3 a2 _ fun y H4 a4 => ?_
      refine he i _ hi W Hk0 H0 _ σ2 H4 a4 _ fun z H5 ⟨Hk5, a5⟩ => ?_
      have hy : y = .str (ks i) := a5.tp (en rStr (ks i), y) (by simp)
      have hz : B.r (v i) z Hk5 := a5.tp (en B (v i), z) (by simp)
      obtain ⟨_, ⟨o, g2, kvs, rfl, al⟩, _⟩ := a5.cl _ (List.mem_cons_self ..)
      have hno : ((List.range i).map fun i => (ks i, v i)).lookup (ks i) = none := lookup_no fun p hp => by
        obtain ⟨j, hj, rfl⟩ := List.mem_map.mp hp
        exact nd j i (List.mem_range.mp hj) hi
      obtain ⟨e1, e2⟩ := al.put hno hz
      have hl := al.len
      rw [List.length_map, List.length_range] at hl
      refine ⟨kvs, Sum.inr (ks i), hy, g2, Evl.sz_lt (by omega), ?_⟩
      rw [e1, List.range_succ, List.map_append]
      refine back ⟨Hk5, (a5.sub (T' := T' ++ (slT Γ σ ++ T)) fun p hp => ?_).write (c := dc B Dl ((List.range i).map fun i => (ks i, v i))) (c' := dc B Dl (((List.range i).map fun i => (ks i, v i)) ++ [(ks i, v i)])) rfl ⟨_, rfl, e2⟩⟩
      simp at hp ⊢
      rcases hp with hp | hp | hp <;> simp [hp]
    · intro H' a'
      refine q (.ref Dl) H' ((a'.freeD hnw).reslot (T := (en (rDict B) ((List.range n).map fun i => (ks i, v i)), .ref Dl) :: (T' ++ (slT Γ σ ++ T))) hlen (fun i e q => ?_) |>.sub fun p hp => ?_)
      · obtain ⟨u, h3, h4⟩ := slT_in hsl i e q
        exact ⟨u, h3, by simp [h4]⟩
      · simp at hp ⊢
        rcases hp with hp | hp
        · exact .inl hp
        · exact .inr (.inr (.inr hp))
end
end KA

/-! the facts of the top, read off one run -/
namespace KA
open PySem PySem.Spec PyProof.Rows L2
open He (Dv ga ma ba dflB kwdB dflB_ok kwdB_ok eqO eqO_ok FnW frG asD frG_in)
/-- the def stands there -/
def Has (K : PySem.W.Frag) (d : DefE) : Prop := ∃ fd, FunD K d.name d.qual d.params d.body d.scope (d.dvs K) (d.kws K) (d.ad K) fd
theorem DefE.hasX {K : PySem.W.Frag} {d : DefE} (e : fnE K (d.ad K) = d.val) (c : d.ok K = true) : PySem.W.keepIn K (.ref (d.ad K)) = true ∧ ∃ (cl : List (Str × Addr)) (oc : Value) (od : Option Addr) (dV kV doc pm : Value) (an : Option Addr) (cdv ct : Value) (osl : Array (Option Value)),
    cl.map Prod.fst = d.clo ∧ K.lookup (d.ad K) = some ⟨oc, od, .func (PySem.W.fnX d.name d.qual d.params d.body d.scope cl dV kV doc pm an cdv ct), osl⟩ ∧ PySem.W.codeIn K cdv d.qual = true ∧ dflB K dV (d.dvs K) = true ∧ kwdB K kV (d.kws K) = true := by
  obtain ⟨kp, c2⟩ := ba c
  unfold fnE at e
  cases q : K.lookup (d.ad K) with
  | none =>
    rw [q] at c2
    cases c2
  | some o =>
    obtain ⟨oc, od, dt, osl⟩ := o
    rw [q] at c2 e
    cases dt with
    | func fd =>
      obtain ⟨n1, n2, n3, n4, n5, n6, n7, n8, n9, n10, n11, n12, n13, n14, n15⟩ := fd
      have e2 : (some (n1, n2, n3, n4, n5, n6, n7.map Prod.fst, n15) : FnE) = some (d.name, d.qual, d.params, .stmts d.body, d.scope, mainGlobals, d.clo, builtinsNs) := e
      simp only [Option.some.injEq, Prod.mk.injEq] at e2
      obtain ⟨h1, h2, h3, h4, h5, h6, h7, h8⟩ := e2
      subst h1 h2 h3 h4 h5 h6 h8
      have c3 : (PySem.W.codeIn K n13 d.qual && (dflB K n8 (d.dvs K) && kwdB K n9 (d.kws K))) = true := c2
      obtain ⟨k1, k2⟩ := ba c3
      obtain ⟨k3, k4⟩ := ba k2
      exact ⟨kp, n7, oc, od, n8, n9, n10, n11, n12, n13, n14, osl, h7, rfl, k1, k3, k4⟩
    | _ => cases c2
theorem DefE.has {K : PySem.W.Frag} {d : DefE} (e : fnE K (d.ad K) = d.val) (c : d.ok K = true) (hc : d.clo = []) : Has K d := by
  obtain ⟨kp, cl, oc, od, dV, kV, doc, pm, an, cdv, ct, osl, h1, h2, h3, h4, h5⟩ := DefE.hasX e c
  rw [hc] at h1
  obtain rfl : cl = [] := by simpa using h1
  exact ⟨_, ⟨oc, od, dV, kV, doc, pm, an, cdv, ct, osl, rfl, h2, h3, dflB_ok h4, kwdB_ok h5⟩, kp⟩
section
variable {ck : PySem.W.Frag → Bool} {fn : List DefE} {K : PySem.W.Frag}
theorem SaysE.chk (c : SaysE ck fn K) : ck K = true := (ba (show (ck K && fn.all fun d => d.ok K) = true from congrArg (fun z : AlE => z.1) c)).1
theorem SaysE.both (c : SaysE ck fn K) (i : Nat) {d : DefE} (h : fn[i]? = some d) : fnE K (d.ad K) = d.val ∧ d.ok K = true := by
  have c2 := (ba (show (ck K && fn.all fun d => d.ok K) = true from congrArg (fun z : AlE => z.1) c)).2
  have e : fn.map (fun d => fnE K (d.ad K)) = fn.map DefE.val := congrArg (fun z : AlE => z.2) c
  have e2 : (fn.map fun d => fnE K (d.ad K))[i]? = (fn.map DefE.val)[i]? := by rw [e]
  rw [List.getElem?_map, List.getElem?_map, h] at e2
  exact ⟨Option.some.inj e2, List.all_eq_true.mp c2 d (List.mem_of_getElem? h)⟩
theorem SaysE.has (c : SaysE ck fn K) (i : Nat) {d : DefE} (h : fn[i]? = some d := by rfl) (hc : d.clo = [] := by rfl) : Has K d := DefE.has (c.both i h).1 (c.both i h).2 hc
end
section
variable {K : PySem.W.Frag} {h : Heap} {mg : Str → Option Value} {x f m : Str}
theorem glo_ok (X : K.In h) (G : h.Ns mainGlobals mg) (c : fGlo x K = true) : mg x = some (.ref (ga K x)) := PySem.W.mg_of X G (eqO_ok c)
theorem blt_ok (X : K.In h) (G : h.Ns mainGlobals mg) {id : String} (c : fBlt x id K = true) : mg x = some (.builtin id) := PySem.W.mg_of X G (eqO_ok c)
theorem free_ok (X : K.In h) (G : h.Ns mainGlobals mg) (c : fFree x K = true) : mg x = none := PySem.W.mg_none_of X G (eqO_ok c)
theorem int_ok (X : K.In h) (G : h.Ns mainGlobals mg) {i : Int} (c : fInt x i K = true) : ∃ t, mg x = some (.int i t) := He.int_ok X G (x := x) (i := i) c
theorem str_ok (X : K.In h) (G : h.Ns mainGlobals mg) {z : Str} (c : fStr x z K = true) : ∃ t, mg x = some (.str z t) := He.str_ok X G (x := x) (z := z) c
theorem cls_ok (c : fCls x K = true) : Cls K (ga K x) := He.cls_ok (x := x) c
theorem noat_ok (c : fNoat x f K = true) : NoAttr K (ga K x) f := eqO_ok c
theorem meth_ok (c : fMeth x m K = true) : Meth K (ga K x) m (ma K (ga K x) m) := by
  obtain ⟨c1, c⟩ := ba c
  obtain ⟨c2, c⟩ := ba c
  exact ⟨eqO_ok c1, c2, (ba c).1⟩
theorem dun_ok (c : fMeth x m K = true) : Dun K (ga K x) m (ma K (ga K x) m) := by
  obtain ⟨c1, c⟩ := ba c
  exact ⟨eqO_ok c1, (ba c).1⟩
theorem ixo_ok (c : fMeth x "__getitem__" K = true) : IxO K (ga K x) (ma K (ga K x) "__getitem__") := by
  obtain ⟨c1, c⟩ := ba c
  obtain ⟨c2, c⟩ := ba c
  exact ⟨eqO_ok c1, c2, (ba c).2⟩
theorem callo_ok (c : fMeth x "__call__" K = true) : StX.CallO K (ga K x) (ma K (ga K x) "__call__") := by
  obtain ⟨c1, c⟩ := ba c
  obtain ⟨c2, c⟩ := ba c
  exact ⟨eqO_ok c1, c2, (ba c).2⟩
theorem mkr_ok (c : fMkr x K = true) : Mk K (ga K x) (ma K (ga K x) "__init__") := He.mkr_ok (x := x) c
theorem prop_ok (c : fProp x f K = true) : PropOf K (ga K x) f (ma K (ga K x) f) (pg K x f) := by
  obtain ⟨c1, c⟩ := ba c
  obtain ⟨c2, c⟩ := ba c
  obtain ⟨c3, c4⟩ := ba c
  refine ⟨eqO_ok c1, of_decide_eq_true c2, of_decide_eq_true c3, ?_⟩
  unfold pg
  split at c4
  · rename_i g r e
    rw [e]
    exact ⟨r, rfl⟩
  · cases c4
theorem bini_ok {op : Operator} (c : fBinI x op K = true) (c' : fMeth x (PySem.dunder op.info.2) K = true) : BinT K (ga K x) op "int" (ma K (ga K x) (PySem.dunder op.info.2)) := by
  obtain ⟨c1, c⟩ := ba c
  obtain ⟨c2, c⟩ := ba c
  obtain ⟨c3, c⟩ := ba c
  obtain ⟨c4, c5⟩ := ba c
  obtain ⟨d1, d⟩ := ba c'
  exact ⟨c1, eqO_ok d1, (ba d).1, eqO_ok c2, Option.isSome_iff_exists.mp c3, Option.isSome_iff_exists.mp c4, of_decide_eq_true c5⟩
theorem bino_ok {op : Operator} (c : fSelf x K = true) (c' : fMeth x (PySem.dunder op.info.2) K = true) : BinO K (ga K x) op (ma K (ga K x) (PySem.dunder op.info.2)) := by
  obtain ⟨d1, d⟩ := ba c'
  exact ⟨c, eqO_ok d1, (ba d).1⟩
end
end KA

namespace KA
open PySem PySem.Spec PyProof.Rows L2
section
variable {W : List Addr} {Hk0 H0 : Hp} {Γ Γ' : Ctx} {Ω Ω' Ω1 Ω2 Ω3 : List Cell} {T T' : Tm} {σ σ' : L2.St} {Hk H : Hp}
variable {te ta tb td : TE} {tt tu : TT} {D : Ends} {e e1 e2 : En} {b b2 : Bool} {ts : TS}
variable {K : PySem.W.Frag} {α β γ δ ε : Type} {A : Rp α} {B : Rp β} {C : Rp γ} {xs : List α} {wi : TI} {n j : Nat} {es : Nat → En} {g : TG}
/-! ### defs that change things of the caller -/
abbrev SigM := List En → List Cell → En → List Cell → Prop
def adr (Ω : List Cell) : List Addr := Ω.map Cell.a
def spM (S : SigM) : Sp := fun vs H Q _ => ∃ es Ω res Ω' Hk, S es Ω res Ω' ∧ es.length = vs.length ∧ At (adr Ω) Hk H [] Ω (es.zip vs) [] H ∧ Ex Hk H ∧ ∀ v H' T σ, At (adr Ω) Hk H [] Ω' ((res, v) :: T) σ H' → Q v H'
/-- what the caller keeps beside the cells that it lends -/
theorem AtH.lend (a : AtH W Hk0 H0 Γ (Ω ++ Ω2) T σ Hk H) : AtH (adr Ω) Hk H [] Ω T [] Hk H where
  len := rfl
  sl := fun i e q => by simp at q
  tp := a.tp
  nd := by have := a.nd; rw [List.map_append] at this; exact (List.nodup_append.mp this).1
  cl := fun c h => let ⟨h1, h2, _⟩ := a.cl c (List.mem_append_left _ h); ⟨h1, h2, .inl (List.mem_map_of_mem h)⟩
  gr := Grow.refl a.gr.kh
  ww := fun b w => by
    obtain ⟨c, hc, rfl⟩ := List.mem_map.mp w
    obtain ⟨h1, ⟨o, h2, _⟩, _⟩ := a.cl c (List.mem_append_left _ hc)
    exact ⟨(by rw [h2]; intro z; cases z), h1⟩
theorem AtH.paid {Hk' H' : Hp} (a : AtH W Hk0 H0 Γ (Ω ++ Ω2) T σ Hk H) (b : AtH (adr Ω) Hk H [] Ω' T' [] Hk' H') (hΩ : ∀ c ∈ Ω', c.a ∈ adr Ω) : AtH W Hk0 H0 Γ (Ω' ++ Ω2) (T' ++ T) σ Hk' H' where
  len := a.len
  sl := fun i e q => let ⟨v, h1, h2⟩ := a.sl i e q; ⟨v, h1, En.mono b.gr.kk h2⟩
  tp := fun p hp => by
    rcases List.mem_append.mp hp with hp | hp
    · exact b.tp p hp
    · exact En.mono b.gr.kk (a.tp p hp)
  nd := by
    rw [List.map_append]
    have h := a.nd
    rw [List.map_append, List.nodup_append] at h
    refine List.nodup_append.mpr ⟨b.nd, h.2.1, fun x hx y hy z => ?_⟩
    obtain ⟨c, hc, rfl⟩ := List.mem_map.mp hx
    exact h.2.2 _ (hΩ c hc) y hy z
  cl := fun c hc => by
    have dis : ∀ x ∈ adr Ω, ∀ y ∈ Ω2.map Cell.a, x ≠ y := by
      have h := a.nd
      rw [List.map_append, List.nodup_append] at h
      exact h.2.2
    rcases List.mem_append.mp hc with hc | hc
    · obtain ⟨h1, h2, _⟩ := b.cl c hc
      refine ⟨h1, h2, ?_⟩
      obtain ⟨d, hd, hz⟩ := List.mem_map.mp (hΩ c hc)
      rw [← hz]
      exact (a.cl d (List.mem_append_left _ hd)).2.2
    · obtain ⟨h1, ⟨o, h2, h3⟩, h4⟩ := a.cl c (List.mem_append_right _ hc)
      refine ⟨b.gr.nw _ h1 (by rw [h2]; intro z; cases z), ⟨o, b.gr.hh _ _ (fun w => dis _ w _ (List.mem_map_of_mem hc) rfl) h2, c.mono b.gr.kk h3⟩, h4⟩
  gr := ⟨a.gr.kk.trans b.gr.kk, b.gr.kh, fun x o w ex => b.gr.hh x o (fun w' => by
      obtain ⟨d, hd, hz⟩ := List.mem_map.mp w'
      have := (a.cl d (List.mem_append_left _ hd)).2.2
      rw [hz] at this
      rcases this with h | h
      · exact w h
      · rw [ex] at h; cases h) (a.gr.hh x o w ex), fun x h1 h2 => b.gr.nw x (a.gr.nw x h1 h2) (a.gr.stay h2), fun x w h => b.gr.stay (a.gr.ws x w h)⟩
  ww := fun x w => ⟨b.gr.stay (a.ww x w).1, b.gr.nw x (a.ww x w).2 (a.ww x w).1⟩
theorem ev_callM {S : SigM} {ta : TA} {es ds : List En} {dvs : List V} {E : XK} (h : EvA ta Γ Ω es (Ω1 ++ Ω2)) (hs : S (es ++ ds) Ω1 e Ω') (hΩ : ∀ c ∈ Ω', c.a ∈ adr Ω1) (hd : ∀ H, OkAll ds dvs H := by intro _; exact True.intro) (hl : ds.length = dvs.length := by rfl) :
    Ev (tCall (spM S) dvs E ta) Γ Ω e (Ω' ++ Ω2) := fun W Hk0 H0 T σ H a Q q =>
  h W Hk0 H0 T σ H a _ fun vs H1 hlv ⟨Hk1, a1⟩ => by
    refine ⟨es ++ ds, Ω1, e, Ω', Hk1, hs, by simp [hlv, hl], ⟨Hk1, { a1.lend with tp := fun p hp => ?_ }⟩, a1.gr.kh, fun v H' T' σ' ⟨Hk', b⟩ => ?_⟩
    · rw [List.zip_append hlv] at hp
      rcases List.mem_append.mp hp with hp | hp
      · exact a1.tp p (by simp [hp])
      · have o := hd Hk1
        have : ∀ {ds : List En} {dvs : List V}, OkAll ds dvs Hk1 → ∀ p ∈ ds.zip dvs, En.ok p.1 p.2 Hk1 := by
          intro ds
          induction ds with
          | nil => intro dvs _ p hp; simp at hp
          | cons d ds ih =>
            intro dvs o p hp
            cases dvs with
            | nil => simp at hp
            | cons v dvs =>
              simp at hp
              rcases hp with rfl | hp
              · exact o.1
              · exact ih o.2 p hp
        exact this o p hp
    · have b' : AtH (adr Ω1) Hk1 H1 [] Ω' ((e, v) :: T') [] Hk' H' := { b with len := rfl, sl := fun i e q => by simp at q }
      refine q v H' ⟨Hk', (a1.paid b' hΩ).sub fun p hp => ?_⟩
      simp at hp ⊢
      rcases hp with hp | hp
      · exact .inl hp
      · simp [hp]
/-! ### a new instance -/
/-- an instance that is being filled -/
def ic (C p dx : Addr) (fs : List (Str × V)) : Cell := ⟨p, fun o _ => o = .ins C dx fs, fun _ h => h⟩
theorem AtH.extra {p : Addr} {o : HO} (a : AtH W Hk0 H0 Γ Ω T σ Hk H) (hp : H p = none) : AtH W Hk0 H0 Γ Ω T σ Hk (upd H p o) where
  len := a.len
  sl := a.sl
  tp := a.tp
  nd := a.nd
  cl := fun c h => let ⟨h1, ⟨u, h2, h3⟩, h4⟩ := a.cl c h; ⟨h1, ⟨u, by rw [upd_ne (ne_of_none h2 hp)]; exact h2, h3⟩, h4⟩
  gr := ⟨a.gr.kk, a.gr.kh.trans (Ex.new hp), fun x u w ex => by rw [upd_ne (ne_of_none (a.gr.hh x u w ex) hp)]; exact a.gr.hh x u w ex, a.gr.nw, fun x w h => by
    have := a.gr.ws x w h
    rw [upd_ne (show x ≠ p from fun z => this (by rw [z]; exact hp))]; exact this⟩
  ww := fun x w => by
    have := a.ww x w
    exact ⟨by rw [upd_ne (show x ≠ p from fun z => this.1 (by rw [z]; exact hp))]; exact this.1, this.2⟩
/-- C(e, ..): the new object's __init__, then what the object is -/
theorem make_core {S : SigM} {Cl : Addr} {es : List En} {vs : List V} {E : XK} {H1 Hk1 : Hp} {Q : VK} (a1 : AtH W Hk0 H0 Γ Ω1 T σ Hk1 H1) (o : OkAll es vs Hk1) (e : En)
    (hs : ∀ x dx, ∃ c' : Cell, c'.a = x ∧ S (en rVal (.ref x) :: es) [ic Cl x dx []] (en rNon ()) [c'] ∧ ∀ o Hk, Hk x = none → c'.p o Hk → e.ok (.ref x) (upd Hk x o))
    (q : ∀ v H', At W Hk0 H0 Γ Ω1 ((e, v) :: T) σ H' → Q v H') (x dx : Addr) (hx : H1 x = none) (hdx : H1 dx = none) (hne : dx ≠ x) :
    spM S (.ref x :: vs) (upd (upd H1 dx (.own x)) x (.ins Cl dx [])) (fun v H3 => v = .non ∧ Q (.ref x) H3) E := by
  obtain ⟨c', hc, hS, hok⟩ := hs x dx
  have hx' : upd H1 dx (.own x) x = none := by rw [upd_ne hne.symm]; exact hx
  have b := (a1.extra (o := .own x) hdx).newCell (c := ic Cl x dx []) (o := .ins Cl dx []) hx' rfl rfl
  have b : AtH W Hk0 H0 Γ ([ic Cl x dx []] ++ Ω1) T σ Hk1 (upd (upd H1 dx (.own x)) x (.ins Cl dx [])) := b
  refine ⟨en rVal (.ref x) :: es, [ic Cl x dx []], en rNon (), [c'], Hk1, hS, by simp [o.len], ⟨Hk1, { b.lend with tp := fun p hp => ?_ }⟩, b.gr.kh, fun v H' T' σ' ⟨Hk', z⟩ => ?_⟩
  · simp at hp
    rcases hp with rfl | hp
    · exact rfl
    · have : ∀ {ds : List En} {dvs : List V}, OkAll ds dvs Hk1 → ∀ p ∈ ds.zip dvs, En.ok p.1 p.2 Hk1 := by
        intro ds
        induction ds with
        | nil => intro dvs _ p hp; simp at hp
        | cons d ds ih =>
          intro dvs o p hp
          cases dvs with
          | nil => simp at hp
          | cons v dvs =>
            simp at hp
            rcases hp with rfl | hp
            · exact o.1
            · exact ih o.2 p hp
      exact this o p hp
  · have hv : v = .non := z.tp (en rNon (), v) (by simp)
    refine ⟨hv, ?_⟩
    have z' : AtH (adr [ic Cl x dx []]) Hk1 (upd (upd H1 dx (.own x)) x (.ins Cl dx [])) [] [c'] ((en rNon (), v) :: T') [] Hk' H' := { z with len := rfl, sl := fun i e q => by simp at q }
    have w := b.paid z' fun c hc' => by simp at hc'; subst hc'; simp [adr, ic, hc]
    have w : AtH W Hk0 H0 Γ (c' :: Ω1) (((en rNon (), v) :: T') ++ T) σ Hk' H' := w
    have hw : c'.a ∉ W := by rw [hc]; exact At.notW ⟨Hk1, a1⟩ hx
    obtain ⟨wn, _⟩ := w.cl c' (List.mem_cons_self ..)
    obtain ⟨o', h2, h3, w2⟩ := w.release hw
    rw [hc] at h2 w2 wn
    exact q _ _ ⟨_, (w2.sub (T' := T) fun p hp => by simp [hp]).push (hok o' Hk' wn h3)⟩
theorem ev_makeN {S : SigM} {Cl : Addr} {n m : Nat} {gV : List V → List V → List V} {E : XK} {t tk : TA} {es zs es' : List En} (h : EvA t Γ Ω es Ω1) (hk : EvA tk Γ Ω1 zs Ω2) (hn : es.length = n) (hm : zs.length = m)
    (hg : ∀ vs ws x Hk, OkAll es vs Hk → OkAll zs ws Hk → ∃ us, gV (.ref x :: vs) ws = .ref x :: us ∧ OkAll es' us Hk)
    (hs : ∀ x dx, ∃ c' : Cell, c'.a = x ∧ S (en rVal (.ref x) :: es') [ic Cl x dx []] (en rNon ()) [c'] ∧ ∀ o Hk, Hk x = none → c'.p o Hk → e.ok (.ref x) (upd Hk x o)) : Ev (tMakeN Cl n m (spM S) gV E t tk) Γ Ω e Ω2 := fun W Hk0 H0 T σ H a Q q =>
  h W Hk0 H0 T σ H a _ fun vs H1 hl a1 => hk W Hk0 H0 _ σ H1 a1 _ fun ws H2 hlw ⟨Hk2, a2⟩ => by
    refine ⟨by rw [← hl, hn], by rw [← hlw, hm], fun x dx hx hdx hne => ?_⟩
    have o1 : OkAll es vs Hk2 := .of_zip hl fun p hp => a2.tp p (by simp [hp])
    have o2 : OkAll zs ws Hk2 := .of_zip hlw fun p hp => a2.tp p (by simp [hp])
    obtain ⟨us, e1, o3⟩ := hg vs ws x Hk2 o1 o2
    rw [e1]
    exact make_core (a2.sub (T' := T) fun p hp => by simp [hp]) o3 e hs q x dx hx hdx hne
theorem ev_make {S : SigM} {Cl : Addr} {dvs : List V} {E : XK} {t : TA} {es ds : List En} (h : EvA t Γ Ω es Ω1) (hs : ∀ x dx, ∃ c' : Cell, c'.a = x ∧ S (en rVal (.ref x) :: (es ++ ds)) [ic Cl x dx []] (en rNon ()) [c'] ∧ ∀ o Hk, Hk x = none → c'.p o Hk → e.ok (.ref x) (upd Hk x o))
    (hd : ∀ H, OkAll ds dvs H := by intro _; exact True.intro) : Ev (tMake Cl (spM S) dvs E t) Γ Ω e Ω1 := fun W Hk0 H0 T σ H a Q q =>
  h W Hk0 H0 T σ H a _ fun vs H1 hl ⟨Hk1, a1⟩ x dx hx hdx hne => by
    have o1 : OkAll es vs Hk1 := .of_zip hl fun p hp => a1.tp p (by simp [hp])
    exact make_core (a1.sub (T' := T) fun p hp => by simp [hp]) (o1.append (hd Hk1)) e hs q x dx hx hdx hne
/-- self.f = e -/
theorem s_fld {Cl p dx : Addr} {fs : List (Str × V)} {f : Str} {c c' : Cell} {tv to : TE} (a : At W Hk0 H0 Γ (c :: Ω) T σ H) (hv : Ev tv Γ (c :: Ω) e (c :: Ω)) (ho : Ev to Γ (c :: Ω) (en rVal (.ref p)) (c :: Ω)) (hcl : Cls K Cl) (hn : NoAttr K Cl f) (hp : c.a = p) (hp' : c'.a = p)
    (hc : ∀ o Hk, c.p o Hk → ∃ fs, o = .ins Cl dx fs ∧ fs.length < 1000 ∧ ∀ y, e.ok y Hk → c'.p (.ins Cl dx (putF f y fs)) Hk) (k : ∀ H', At W Hk0 H0 Γ (c' :: Ω) T σ H' → D.nx σ H') : sFld K to tv f D σ H :=
  hv W Hk0 H0 T σ H a _ fun y H1 a1 => ho W Hk0 H0 _ σ H1 a1 _ fun u H2 ⟨Hk2, a2⟩ => by
    have hu : u = .ref p := a2.tp (en rVal (.ref p), u) (by simp)
    subst hu
    obtain ⟨_, ⟨o, g2, g3⟩, _⟩ := a2.cl _ (List.mem_cons_self ..)
    obtain ⟨fs, rfl, hl, h⟩ := hc o Hk2 g3
    rw [hp] at g2
    have w := (a2.sub (T' := T) fun z hz => by simp [hz]).write (c := c) (c' := c') (hp'.trans hp.symm) (h y (a2.tp (e, y) (by simp)))
    rw [hp] at w
    exact ⟨p, Cl, dx, fs, rfl, g2, hcl, hn, hl, k _ ⟨Hk2, w⟩⟩
end
section
variable {P : Program} {w : World} {K : PySem.W.Frag} {mg : Str → Option Value} {base : Heap}
theorem at_startM {N : List Str} {es : List En} {vs : List V} {Ω : List Cell} {Hk H : Hp} (a : At (adr Ω) Hk H [] Ω (es.zip vs) [] H) (k : Ex Hk H) (hl : es.length = vs.length) (hN : es.length ≤ N.length) : At (adr Ω) Hk H (es.map some ++ List.replicate (N.length - es.length) none) Ω [] (L2.start N vs) H := by
  obtain ⟨Hk', a⟩ := a
  have o : OkAll es vs Hk' := .of_zip hl a.tp
  have b := at_startH (N := N) (Ex.refl Hk') o hN
  exact ⟨Hk', { a with len := b.len, sl := b.sl, tp := fun p hp => by simp at hp }⟩
/-- a def that changes cells of its caller keeps its promise -/
theorem fun_okM {CX : CXT} {x qual : Str} {params : Arguments} {body : List Stmt} {scope : Scope} {dvs : List V} {kws : List (Str × V)} {f : Addr} {fd : FuncData} {N ps : List Str} {k : Nat} {S : SigM}
    (F : FunD K x qual params body scope dvs kws f fd) (sc : FnScope N ps scope) (hl : ∀ es Ω res Ω', S es Ω res Ω' → es.length = ps.length)
    (hbody : ∀ (cdv : Value) (A : Around) (outer : List Env) (s : Shared) (H : Hp) (E : XK), Room k (A.deeper (envOfC qual scope s.heap.objs.size f cdv)) →
      ∃ t, PSs (cxOf CX P w K mg base N qual scope f cdv A outer s H E) body t ∧ ∀ (es : List En) (Ω : List Cell) (res : En) (Ω' : List Cell) (vs : List V) (Hk : Hp) (Q : VK), S es Ω res Ω' → At (adr Ω) Hk H (es.map some ++ List.replicate (N.length - es.length) none) Ω [] (L2.start N vs) H →
        Back (adr Ω) Hk H res Ω' Q → t { nx := fun _ H' => Q .non H', rt := Q } (L2.start N vs) H) :
    FnOk P w K mg base CX (k + 1) f fd ps (spM S) := by
  refine F.ok sc (fun vs H Q E h => ?_) fun cdv A outer s H vs Q E hr h => ?_
  · obtain ⟨es, Ω, res, Ω', Hk, hs, h1, _⟩ := h
    rw [← h1, hl es Ω res Ω' hs]
  · obtain ⟨es, Ω, res, Ω', Hk, hs, h1, a, hk, q⟩ := h
    obtain ⟨t, hp, ht⟩ := hbody cdv A outer s H E hr
    have hN : es.length ≤ N.length := by
      rw [hl es Ω res Ω' hs]
      have := congrArg List.length sc.pre
      rw [List.length_take] at this
      omega
    exact ⟨t, hp, ht es Ω res Ω' vs Hk Q hs (at_startM a hk h1 hN) fun v H' T σ a' => q v H' T σ a'⟩
end
end KA

/-! jobs and timetables -/
namespace KA
open PySem PySem.Spec PyProof.Rows L2
open He (ga ma)
/-- a job -/
structure Jb where
  per : Int
  dur : Int
  st : Int
  co : Int
  ok : (1 ≤ per ∧ per ≤ 12) ∧ (1 ≤ dur ∧ dur ≤ per) ∧ (0 ≤ st ∧ st < per) ∧ (1 ≤ co ∧ co ≤ 9)
theorem Jb.ext' {a b : Jb} (h1 : a.per = b.per) (h2 : a.dur = b.dur) (h3 : a.st = b.st) (h4 : a.co = b.co) : a = b := by
  cases a; cases b; simp at h1 h2 h3 h4; subst h1 h2 h3 h4; rfl
instance : DecidableEq Jb := fun a b =>
  if h : a.per = b.per ∧ a.dur = b.dur ∧ a.st = b.st ∧ a.co = b.co then .isTrue (Jb.ext' h.1 h.2.1 h.2.2.1 h.2.2.2) else .isFalse fun z => h (by subst z; exact ⟨rfl, rfl, rfl, rfl⟩)
def jobFs (j : Jb) : List (Str × V) := [("_period", .int j.per), ("_duration", .int j.dur), ("_start", .int j.st), ("_cost", .int j.co)]
variable (K : PySem.W.Frag)
abbrev cJ : Addr := ga K "Job"
abbrev cT : Addr := ga K "Timetable"
def rJob : Rp Jb := ⟨fun j v H => ∃ a dx, v = .ref a ∧ H a = some (.ins (cJ K) dx (jobFs j)), fun k ⟨a, dx, h1, h2⟩ => ⟨a, dx, h1, k.ins h2⟩⟩
/-- the rows of a timetable -/
def prodP (m : List (Str × Jb)) : Int := m.foldl (fun p r => p * r.2.per) 1
def letters : Str := "abcdefghijklmnopqrstuvwxyz"
def isNm (z : Str) : Bool := decide (1 ≤ z.length ∧ z.length ≤ 8) && z.cps.toList.all fun c => decide (c ∈ letters.cps.toList)
structure TbOk (m : List (Str × Jb)) : Prop where
  n1 : 1 ≤ m.length
  n4 : m.length ≤ 4
  nd : (m.map (·.1)).Nodup
  nm : ∀ p ∈ m, isNm p.1 = true
  pr : prodP m ≤ 2000
def rTab : Rp (List (Str × Jb)) := ⟨fun m v H => TbOk m ∧ ∃ a dx d, v = .ref a ∧ H a = some (.ins (cT K) dx [("_jobs", .ref d)]) ∧ (rDict (rJob K)).r m (.ref d) H, fun k ⟨h0, a, dx, d, h1, h2, h3⟩ => ⟨h0, a, dx, d, h1, k.ins h2, (rDict (rJob K)).mono k h3⟩⟩
theorem isJob {K : PySem.W.Frag} {j : Jb} : IsIn (cJ K) (en (rJob K) j) := fun v H ⟨a, dx, h1, h2⟩ => ⟨a, dx, _, h1, h2⟩
theorem isTab {K : PySem.W.Frag} {m : List (Str × Jb)} : IsIn (cT K) (en (rTab K) m) := fun v H ⟨_, a, dx, d, h1, h2, _⟩ => ⟨a, dx, _, h1, h2⟩
section
variable {W : List Addr} {Hk0 H0 : Hp} {Γ Γ' : Ctx} {Ω Ω' Ω1 Ω2 Ω3 : List Cell} {T T' : Tm} {σ σ' : L2.St} {Hk H : Hp} {K : PySem.W.Frag}
variable {te ta tb td : TE} {tt tu : TT} {D : Ends} {e e1 e2 : En} {b b2 : Bool} {ts : TS} {α β : Type} {A : Rp α} {B : Rp β} {xs : List α}
theorem ev_jobF {j : Jb} {f : Str} {i : Int} (h : Ev ta Γ Ω (en (rJob K) j) Ω1) (hl : (jobFs j).lookup f = some (.int i)) (c : Cls K (cJ K)) (n : NoAttr K (cJ K) f) : Ev (tFld K ta f) Γ Ω (en rInt i) Ω1 := fun W Hk0 H0 T σ H a Q q =>
  h W Hk0 H0 T σ H a _ fun v H1 ⟨Hk1, a1⟩ => by
    obtain ⟨p, dx, hv, hp⟩ := (show (rJob K).r j v Hk1 from a1.tp (en (rJob K) j, v) (by simp))
    exact ⟨p, _, dx, _, .int i, hv, a1.gr.kh.ins hp, c, n, hl, q _ H1 ⟨Hk1, a1.unpush.push rfl⟩⟩
theorem jl1 {j : Jb} : (jobFs j).lookup ("_period" : Str) = some (V.int j.per) := by rfl
theorem jl2 {j : Jb} : (jobFs j).lookup ("_duration" : Str) = some (V.int j.dur) := by rfl
theorem jl3 {j : Jb} : (jobFs j).lookup ("_start" : Str) = some (V.int j.st) := by rfl
theorem jl4 {j : Jb} : (jobFs j).lookup ("_cost" : Str) = some (V.int j.co) := by rfl
theorem ev_tabF {m : List (Str × Jb)} (h : Ev ta Γ Ω (en (rTab K) m) Ω1) (c : Cls K (cT K)) (n : NoAttr K (cT K) "_jobs") : Ev (tFld K ta "_jobs") Γ Ω (en (rDict (rJob K)) m) Ω1 := fun W Hk0 H0 T σ H a Q q =>
  h W Hk0 H0 T σ H a _ fun v H1 ⟨Hk1, a1⟩ => by
    obtain ⟨_, p, dx, d, hv, hp, hd⟩ := (show (rTab K).r m v Hk1 from a1.tp (en (rTab K) m, v) (by simp))
    exact ⟨p, _, dx, _, .ref d, hv, a1.gr.kh.ins hp, c, n, rfl, q _ H1 ⟨Hk1, a1.unpush.push hd⟩⟩
theorem dloc_tabF {i : Nat} {m : List (Str × Jb)} (h : Γ[i]? = some (some (en (rTab K) m))) (c : Cls K (cT K)) (n : NoAttr K (cT K) "_jobs") : Dloc (tFld K (tVar i) "_jobs") Γ (rJob K) m := fun W Hk0 H0 Ω T σ Hk H a => by
  obtain ⟨v, h1, _, p, dx, d, hv, hp, d', kvs, he, hd, al⟩ := a.sl i _ h
  cases he
  subst hv
  exact ⟨d, kvs, hd, al, fun H' k Q q => ⟨_, h1, p, _, dx, _, .ref d, rfl, k.ins hp, c, n, rfl, q⟩⟩
theorem ev_val {v : V} : Ev (tC v) Γ Ω (en rVal v) Ω := ev_c fun _ => rfl
theorem rc_isi {K : PySem.W.Frag} {c : V} {u t : Value} {k : Bool} (hc : ClsV c u) (ht : ∀ v H, e.ok v H → TyX K H v t) (hk : PySem.W.kitOne K t u = some k) : RcE (rIsi K) [e, en rVal c] (en rBool k) := fun Hk H vs kk o Q q => by
  cases vs with
  | nil => exact o.elim
  | cons x vs =>
    obtain ⟨o1, o2⟩ := o
    obtain ⟨y, rfl, hy⟩ := ok1 o2
    have hy : y = c := hy
    subst hy
    exact ⟨x, y, t, u, k, rfl, hc, ht x H (En.mono kk o1), hk, q _ Hk H (.refl kk) rfl⟩
theorem ty_int {i : Int} : ∀ v H, (en rInt i).ok v H → TyX K H v (.type "int") := fun v H h => by cases (show v = V.int i from h); exact .base (.int i)
theorem ty_str {z : Str} : ∀ v H, (en rStr z).ok v H → TyX K H v (.type "str") := fun v H h => by cases (show v = V.str z from h); exact .base (.str z)
theorem ii_int {i : Int} : RcE (rIsi K) [en rInt i, en rVal (.ty "int")] (en rBool true) := rc_isi (.ty _) ty_int (PySem.W.kitOne.eq_1 .. ▸ rfl)
theorem ii_bool {i : Int} : RcE (rIsi K) [en rInt i, en rVal (.ty "bool")] (en rBool false) := rc_isi (.ty _) ty_int (kit_ty (by decide +kernel))
theorem ii_str {z : Str} : RcE (rIsi K) [en rStr z, en rVal (.ty "str")] (en rBool true) := rc_isi (.ty _) ty_str (kit_ty (by decide +kernel))
/-- of the class C itself -/
theorem ii_own {Cl : Addr} (hi : IsIn Cl e) (cl : Cls K Cl) (ha : PySem.W.findIn K (.ref Cl) "__class__" = some (some (.builtin "object.__class__")))
      (hn : PySem.W.specialIn K (.builtin "object.__class__") "__get__" = some (some (.builtin "getset_descriptor.__get__"))) (htk : PySem.W.takesIn K (.builtin "object.__class__") = some true)
      (hm : PySem.W.mroIn K Cl (.type "object") = some true) : RcE (rIsi K) [e, en rVal (.ref Cl)] (en rBool true) := rc_isi (.own _) (fun v H h => by
    obtain ⟨a, dx, fs, rfl, hp⟩ := hi v H h
    exact .base (.ins hp cl ha hn htk hm)) (by unfold PySem.W.kitOne; rw [if_pos (beq_self_eq_true _)])
theorem ty_dict {m : List (Str × α)} : ∀ v H, (en (rDict A) m).ok v H → TyX K H v (.type "dict") := fun v H h => by
  obtain ⟨d, kvs, rfl, hd, _⟩ := h
  rcases hd with hd | ⟨o, hd⟩
  · exact .base (.dK hd)
  · exact .fDict hd
theorem ii_dict {m : List (Str × α)} : RcE (rIsi K) [en (rDict A) m, en rVal (.ty "dict")] (en rBool true) := rc_isi (.ty _) ty_dict (kit_ty (by decide +kernel))
theorem rc_lenD {m : List (Str × α)} : RcE (fun xs H Q => ∃ (d : Addr) (kvs : List (Key × V)), xs = [.ref d] ∧ Rd H d (.dK kvs) ∧ Q (.int kvs.length) H) [en (rDict A) m] (en rInt (m.length : Int)) := fun Hk H vs k o Q q => by
  obtain ⟨v, rfl, o1⟩ := ok1 o
  obtain ⟨d, kvs, rfl, hd, al⟩ := (show (rDict A).r m v Hk from o1)
  exact ⟨d, kvs, rfl, k.dK hd, q _ Hk H (.refl k) (show V.int _ = V.int _ by rw [al.len])⟩
theorem rc_lenS {z : Str} (h : z.length ≤ 40000) : RcE (fun xs H Q => ∃ z : Str, xs = [.str z] ∧ z.length ≤ sizeLine ∧ Q (.int z.length) H) [en rStr z] (en rInt (z.length : Int)) := fun Hk H vs k o Q q => by
  obtain ⟨v, rfl, o1⟩ := ok1 o
  cases (show v = V.str z from o1)
  exact ⟨z, rfl, Nat.le_trans h (by decide), q _ Hk H (.refl k) rfl⟩
end
end KA

namespace KA
open PySem PySem.Spec PyProof.Rows L2
open He (ga ma eqO eqO_ok ba)
/-- what isinstance asks of an own class -/
structure Isi (K : PySem.W.Frag) (C : Addr) : Prop where
  ha : PySem.W.findIn K (.ref C) "__class__" = some (some (.builtin "object.__class__"))
  hn : PySem.W.specialIn K (.builtin "object.__class__") "__get__" = some (some (.builtin "getset_descriptor.__get__"))
  htk : PySem.W.takesIn K (.builtin "object.__class__") = some true
  hm : PySem.W.mroIn K C (.type "object") = some true
theorem isi_ok {K : PySem.W.Frag} {x : Str} (c : fIsi x K = true) : Isi K (ga K x) := by
  obtain ⟨c1, c⟩ := ba c
  obtain ⟨c2, c⟩ := ba c
  obtain ⟨c3, c4⟩ := ba c
  exact ⟨eqO_ok c1, of_decide_eq_true c2, of_decide_eq_true c3, of_decide_eq_true c4⟩
section
variable {X : Cx}
theorem call_lenR : CallR X (.builtin "len") (fun xs H Q => ∃ (d : Addr) (kvs : List (Key × V)), xs = [.ref d] ∧ Rd H d (.dK kvs) ∧ Q (.int kvs.length) H) := by
  intro pins s σ H xs us Q I r h
  obtain ⟨a, kvs, rfl, ha, q⟩ := h
  obtain ⟨u, rfl, ru⟩ := vals1 r
  cases ru
  exact d_len I ha fun t s' I' => ⟨.int kvs.length, H, I', ⟨t, rfl⟩, q⟩
def rLcm : List V → Hp → VK → Prop := fun vs H Q => ∃ a b : Int, vs = [.int a, .int b] ∧ a.natAbs < 1000000 ∧ b.natAbs < 1000000 ∧ Q (.int ((Nat.lcm a.natAbs b.natAbs : Nat) : Int)) H
theorem cr_lcm : CallR X (.builtin "math.lcm") rLcm := by
  intro pins s σ H vs us Q I r h
  obtain ⟨a, b, rfl, h1, h2, q⟩ := h
  obtain ⟨t, u, rfl⟩ := Vals.int2 r
  exact PySem.W.mc_lcm (by omega) (by omega) fun _ => ⟨.int _, H, I.tok _, ⟨_, rfl⟩, q⟩
end
section
variable {K : PySem.W.Frag} {e : En}
theorem rc_gcd {i j : Int} : RcE rGcd [en rInt i, en rInt j] (en rInt ((Nat.gcd i.natAbs j.natAbs : Nat) : Int)) := fun Hk H vs k o Q q => by
  cases vs with
  | nil => exact o.elim
  | cons x vs =>
    obtain ⟨o1, o2⟩ := o
    obtain ⟨y, rfl, hy⟩ := ok1 o2
    cases (show x = V.int i from o1)
    cases (show y = V.int j from hy)
    exact ⟨i, j, rfl, q _ Hk H (.refl k) rfl⟩
theorem rc_lcm {i j : Int} (hi : i.natAbs < 1000000) (hj : j.natAbs < 1000000) : RcE rLcm [en rInt i, en rInt j] (en rInt ((Nat.lcm i.natAbs j.natAbs : Nat) : Int)) := fun Hk H vs k o Q q => by
  cases vs with
  | nil => exact o.elim
  | cons x vs =>
    obtain ⟨o1, o2⟩ := o
    obtain ⟨y, rfl, hy⟩ := ok1 o2
    cases (show x = V.int i from o1)
    cases (show y = V.int j from hy)
    exact ⟨i, j, rfl, hi, hj, q _ Hk H (.refl k) rfl⟩
end
end KA

/-! slices, texts that are walked, tuples of many kinds, lists of one's own of many kinds, while -/
namespace KA
open PySem PySem.Spec PyProof.Rows L2
open He (ga ma eqO eqO_ok ba)
theorem runits1 {k : Nat} {A : Around} (r : Room k A) : A.units + 1 < cLine := by have := r.units; omega
section
variable {W : List Addr} {Hk0 H0 : Hp} {Γ Γ' : Ctx} {Ω Ω' Ω1 Ω2 Ω3 : List Cell} {T T' : Tm} {σ σ' : L2.St} {Hk H : Hp} {K : PySem.W.Frag}
variable {te ta tb td : TE} {tt tu : TT} {D : Ends} {e e1 e2 : En} {b b2 : Bool} {ts tz tbd : TS} {α β : Type} {A : Rp α} {B : Rp β} {xs : List α} {n j : Nat} {Bs : List Addr → Hp → Hp → L2.St → Prop}
/-! ### numbers -/
theorem ru_neg {i : Int} : RuE (rU fun i => .int (-i)) (en rInt i) (en rInt (-i)) := fun Hk H x k h Q q => by
  cases (show x = V.int i from h)
  exact ⟨i, rfl, q _ Hk H (.refl k) rfl⟩
theorem ev_neg {i : Int} (h : Ev ta Γ Ω (en rInt i) Ω1) : Ev (tUn (rU fun i => .int (-i)) ta) Γ Ω (en rInt (-i)) Ω1 := ev_un h ru_neg
theorem rv_divW {i j : Int} (h : CDivW i j) : RvE (rI CDivW fun i j => .int (i / j)) (en rInt i) (en rInt j) (en rInt (i / j)) := rv_ic h fun _ => rfl
theorem rv_pow {i j : Int} (h : CPow i j) : RvE (rI CPow fun i j => .int (i ^ j.toNat)) (en rInt i) (en rInt j) (en rInt (i ^ j.toNat)) := rv_ic h fun _ => rfl
/-! ### texts -/
theorem ei_str {z : Str} (h : Ev te Γ Ω (en rStr z) Ω1) : EvI Bs (iStr te) Γ Ω z.cps.size (fun i => en rStr ⟨#[z.cps.getD i 0]⟩) Ω1 := fun W Hk0 H0 T σ H _ a R q =>
  h W Hk0 H0 T σ H a _ fun v H1 ⟨Hk1, a1⟩ => by
    have e : v = .str z := a1.tp (en rStr z, v) (by simp)
    subst e
    have m : ∀ H H' : Hp, Ex H H' → True → True := fun _ _ _ h => h
    refine ⟨z, rfl, q (Its z) [fct _ m] H1 ⟨Hk1, a1.to1 m True.intro⟩ (.of m walk_str (fun _ _ _ _ => True.intro) fun i Hk H x H' hi t k y => ?_)⟩
    obtain ⟨rfl, c, h1, rfl⟩ := y
    refine ⟨Hk, Grow.refl k, ?_⟩
    show V.str _ = V.str _
    rw [Array.getD_eq_getD_getElem?, h1]
    rfl
theorem rv_inS {c : Nat} {z : Str} : RvE (fun x y H Q => ∃ (c : Nat) (z : Str), x = .str ⟨#[c]⟩ ∧ y = .str z ∧ Q (.bl (decide (c ∈ z.cps.toList))) H) (en rStr ⟨#[c]⟩) (en rStr z) (en rBool (decide (c ∈ z.cps.toList))) := fun Hk H x y k h1 h2 Q q => by
  cases (show x = V.str ⟨#[c]⟩ from h1)
  cases (show y = V.str z from h2)
  exact ⟨c, z, rfl, rfl, q _ Hk H (.refl k) rfl⟩
/-! ### slices -/
theorem Al.drop {H : Hp} {vs : List V} (h : Al A H xs vs) (n : Nat) : Al A H (xs.drop n) (vs.drop n) := by
  induction h generalizing n with
  | nil => simp; exact .nil
  | cons h t ih =>
    cases n with
    | zero => exact .cons h t
    | succ n => exact ih n
theorem Al.take {H : Hp} {vs : List V} (h : Al A H xs vs) (n : Nat) : Al A H (xs.take n) (vs.take n) := by
  induction h generalizing n with
  | nil => simp; exact .nil
  | cons h t ih =>
    cases n with
    | zero => exact .nil
    | succ n => exact .cons h (ih n)
theorem cut_from {vs : List V} {lo : Int} (h : 0 ≤ lo) : cutV vs (some lo) none = vs.drop lo.toNat := by
  obtain ⟨k, rfl⟩ := Int.eq_ofNat_of_zero_le h
  unfold cutV
  rw [HT.sIx_none]
  show (vs.drop (HT.sIx vs.length 0 (some (k : Int)))).take (vs.length - HT.sIx vs.length 0 (some (k : Int))) = _
  rw [HT.sIx_nat, Int.toNat_natCast]
  by_cases z : k ≤ vs.length
  · rw [Nat.min_eq_left z, List.take_of_length_le (by simp)]
  · rw [Nat.min_eq_right (by omega), List.drop_of_length_le (by omega), List.drop_of_length_le (by omega)]
    simp
theorem cut_to {vs : List V} {hi : Int} (h : 0 ≤ hi) : cutV vs none (some hi) = vs.take hi.toNat := by
  obtain ⟨k, rfl⟩ := Int.eq_ofNat_of_zero_le h
  unfold cutV
  rw [HT.sIx_none]
  show (vs.drop 0).take (HT.sIx vs.length vs.length (some (k : Int)) - 0) = _
  rw [HT.sIx_nat, Int.toNat_natCast, List.drop_zero, Nat.sub_zero]
  by_cases z : k ≤ vs.length
  · rw [Nat.min_eq_left z]
  · rw [Nat.min_eq_right (by omega), List.take_of_length_le (Nat.le_refl _), List.take_of_length_le (by omega)]
/-- xs[lo:] -/
theorem ev_slFrom {lo : Int} (h : Ev ta Γ Ω (en (rList A) xs) Ω1) (hl : Ev tb Γ Ω1 (en rInt lo) Ω2) (h0 : 0 ≤ lo) : Ev (tSl (rSlL K) ta (tPart tb) tNoPart) Γ Ω (en (rList A) (xs.drop lo.toNat)) Ω2 := fun W Hk0 H0 T σ H a Q q =>
  h W Hk0 H0 T σ H a _ fun x H1 a1 => hl W Hk0 H0 _ σ H1 a1 _ fun y H2 ⟨Hk2, a2⟩ => by
    have hy : y = .int lo := a2.tp (en rInt lo, y) (by simp)
    obtain ⟨p, vs, hx, hp, al⟩ := (show (rList A).r xs x Hk2 from a2.tp (en (rList A) xs, x) (by simp))
    refine ⟨lo, hy, p, vs, hx, Evl.sq_of (a2.gr.kh.lst hp), fun r hr => ?_⟩
    rw [cut_from h0]
    have g := Grow.new (W := []) (o := .lst (vs.drop lo.toNat)) a2.gr.kh hr
    exact q _ _ ⟨_, ((a2.grow g).sub (T' := T) fun z hz => by simp [hz]).push (e := en (rList A) (xs.drop lo.toNat)) ⟨r, _, rfl, upd_same, (al.drop _).mono g.kk⟩⟩
/-- xs[:hi] -/
theorem ev_slTo {hi : Int} (h : Ev ta Γ Ω (en (rList A) xs) Ω1) (hl : Ev tb Γ Ω1 (en rInt hi) Ω2) (h0 : 0 ≤ hi) : Ev (tSl (rSlL K) ta tNoPart (tPart tb)) Γ Ω (en (rList A) (xs.take hi.toNat)) Ω2 := fun W Hk0 H0 T σ H a Q q =>
  h W Hk0 H0 T σ H a _ fun x H1 a1 => hl W Hk0 H0 _ σ H1 a1 _ fun y H2 ⟨Hk2, a2⟩ => by
    have hy : y = .int hi := a2.tp (en rInt hi, y) (by simp)
    obtain ⟨p, vs, hx, hp, al⟩ := (show (rList A).r xs x Hk2 from a2.tp (en (rList A) xs, x) (by simp))
    refine ⟨hi, hy, p, vs, hx, Evl.sq_of (a2.gr.kh.lst hp), fun r hr => ?_⟩
    rw [cut_to h0]
    have g := Grow.new (W := []) (o := .lst (vs.take hi.toNat)) a2.gr.kh hr
    exact q _ _ ⟨_, ((a2.grow g).sub (T' := T) fun z hz => by simp [hz]).push (e := en (rList A) (xs.take hi.toNat)) ⟨r, _, rfl, upd_same, (al.take _).mono g.kk⟩⟩
/-! ### tuples of many kinds -/
def rMany (K : PySem.W.Frag) (es : List En) : Rp Unit := ⟨fun _ v H => ∃ a vs, v = .ref a ∧ SqT K H a vs ∧ OkAll es vs H, fun k ⟨a, vs, h1, h2, h3⟩ => ⟨a, vs, h1, ex_t k h2, h3.mono k⟩⟩
abbrev enT (K : PySem.W.Frag) (es : List En) : En := en (rMany K es) ()
theorem ev_tupN {ta : TA} {es : List En} (h : EvA ta Γ Ω es Ω1) (hl : es.length ≤ 40000 := by simp) : Ev (tTup ta) Γ Ω (enT K es) Ω1 := fun W Hk0 H0 T σ H a Q q =>
  h W Hk0 H0 T σ H a _ fun vs H1 hlv ⟨Hk1, a1⟩ => ⟨by rw [← hlv]; exact Nat.le_trans hl (by decide), fun p hp => by
    have o : OkAll es vs Hk1 := .of_zip hlv fun z hz => a1.tp z (by simp [hz])
    have g := Grow.new (W := []) (o := .tup vs) a1.gr.kh hp
    exact q _ _ ⟨_, ((a1.grow g).sub (T' := T) fun z hz => by simp [hz]).push (e := enT K es) ⟨p, vs, rfl, SqT.of upd_same, o.mono g.kk⟩⟩⟩
theorem OkAll.get {H : Hp} : ∀ {es : List En} {vs : List V} {i : Nat} {e : En}, OkAll es vs H → es[i]? = some e → ∃ v, vs[i]? = some v ∧ e.ok v H
  | [], _, i, e, _, h => by simp at h
  | _ :: _, [], _, _, o, _ => o.elim
  | d :: es, v :: vs, i, e, o, h => by
    cases i with
    | zero => simp at h; subst h; exact ⟨v, rfl, o.1⟩
    | succ i => obtain ⟨u, h1, h2⟩ := OkAll.get o.2 (by simpa using h); exact ⟨u, by simpa using h1, h2⟩
theorem rv_ixN {es : List En} {i : Int} (hi : 0 ≤ i) (h : es[i.toNat]? = some e) : RvE (rIxT K) (enT K es) (en rInt i) e := fun Hk H u y k h1 h2 Q q => by
  obtain ⟨p, vs, hu, hp, al⟩ := (show (rMany K es).r () u Hk from h1)
  cases (show y = V.int i from h2)
  obtain ⟨v, e1, e2⟩ := al.get h
  refine ⟨p, vs, i, v, hu, rfl, ex_t k hp, ?_, q v Hk H (.refl k) e2⟩
  have := atI_nat (j := i.toNat) e1
  rwa [Int.toNat_of_nonneg hi] at this
theorem rc_lenN {es : List En} : RcE (rLenQ K) [enT K es] (en rInt (es.length : Int)) := fun Hk H vs k o Q q => by
  obtain ⟨v, rfl, o1⟩ := ok1 o
  obtain ⟨p, ws, hu, hp, al⟩ := (show (rMany K es).r () v Hk from o1)
  exact ⟨p, ws, by rw [hu], .inr (ex_t k hp), q _ Hk H (.refl k) (show V.int _ = V.int _ by rw [al.len])⟩
/-- targets in a row -/
def gNs : List Nat → TGs
  | [] => gNil
  | i :: is => gCons (gName i) (gNs is)
def setAll (Γ : Ctx) : List Nat → List En → Ctx
  | i :: is, e :: es => setAll (Γ.set i (some e)) is es
  | _, _ => Γ
theorem gNs_ok : ∀ {is : List Nat} {es : List En} {vs : List V} {Γ : Ctx} {σ : L2.St} {vars : List Nat}, (∀ i ∈ is, i ∈ vars) → is.length = es.length → AtH W Hk0 H0 Γ Ω T σ Hk H → OkAll es vs Hk → ∀ Q : L2.St → Hp → Prop,
    (∀ σ', AtH W Hk0 H0 (setAll Γ is es) Ω T σ' Hk H → (∃ ps : List (Nat × V), (∀ p ∈ ps, p.1 ∈ vars) ∧ σ' = ps.foldl (fun s p => s.set p.1 (some p.2)) σ) → Q σ' H) → gNs is vs σ H Q
  | [], [], [], Γ, σ, vars, _, _, a, _, Q, q => ⟨rfl, q σ a ⟨[], fun _ h => by simp at h, rfl⟩⟩
  | i :: is, e :: es, v :: vs, Γ, σ, vars, hi, hl, a, o, Q, q => ⟨v, vs, rfl, gNs_ok (vars := vars) (fun j hj => hi j (List.mem_cons_of_mem _ hj)) (by simpa using hl) (a.set (e := e) i o.1) o.2 Q fun σ' a' ⟨ps, h1, h2⟩ =>
      q σ' a' ⟨(i, v) :: ps, fun p hp => (List.mem_cons.mp hp).elim (fun z => by subst z; exact hi i (by simp)) (h1 p), h2⟩⟩
  | [], _ :: _, _, _, _, _, _, hl, _, _, _, _ => by simp at hl
  | _ :: _, [], _, _, _, _, _, hl, _, _, _, _ => by simp at hl
  | [], [], _ :: _, _, _, _, _, _, _, o, _, _ => o.elim
  | _ :: _, _ :: _, [], _, _, _, _, _, _, o, _, _ => o.elim
theorem tg_many {is : List Nat} {es : List En} {vars : List Nat} (hi : ∀ i ∈ is, i ∈ vars) (hl : is.length = es.length) (hn : n = es.length) : TgE (gTup K n (gNs is)) Γ (enT K es) (setAll Γ is es) vars := fun W Hk0 H0 Ω T σ H v ⟨Hk, a⟩ Q q => by
  obtain ⟨p, vs, rfl, hp, o⟩ := (show (rMany K es).r () v Hk from a.tp (enT K es, v) (by simp))
  refine ⟨p, vs, rfl, ex_t a.gr.kh hp, by rw [hn, o.len], gNs_ok (vars := vars) hi hl a.unpush o Q fun σ' a' h => q σ' ⟨Hk, a'⟩ h⟩
/-- a, b = (x, y) and the like -/
theorem s_tg {g : TG} {vars : List Nat} (a : At W Hk0 H0 Γ Ω T σ H) (h : Ev te Γ Ω e Ω1) (hg : TgE g Γ e Γ' vars) (k : ∀ σ' H', At W Hk0 H0 Γ' Ω1 T σ' H' → D.nx σ' H') : tAsg te g D σ H :=
  h W Hk0 H0 T σ H a _ fun v H' a' => hg W Hk0 H0 Ω1 T σ H' v a' _ fun σ' a2 _ => k σ' H' a2
theorem q_tg {g : TG} {vars : List Nat} (a : At W Hk0 H0 Γ Ω T σ H) (h : Ev te Γ Ω e Ω1) (hg : TgE g Γ e Γ' vars) (k : ∀ σ' H', At W Hk0 H0 Γ' Ω1 T σ' H' → tz D σ' H') : tSeq (tAsg te g) tz D σ H := s_tg (D := { D with nx := tz D }) a h hg k
/-- x, y = a, b -/
theorem s_par {i j : Nat} {ta : TA} (a : At W Hk0 H0 Γ Ω T σ H) (h : EvA ta Γ Ω [e1, e2] Ω1) (k : ∀ σ' H', At W Hk0 H0 ((Γ.set i (some e1)).set j (some e2)) Ω1 T σ' H' → D.nx σ' H') : tPar i j ta D σ H :=
  h W Hk0 H0 T σ H a _ fun vs H' hl ⟨Hk, a'⟩ => by
    match vs, hl with
    | [v, w], _ => exact ⟨v, w, rfl, k _ _ ⟨Hk, ((a'.sub (T' := T) fun p hp => by simp [hp]).set (e := e1) i (a'.tp (e1, v) (by simp))).set (e := e2) j (a'.tp (e2, w) (by simp))⟩⟩
theorem q_par {i j : Nat} {ta : TA} (a : At W Hk0 H0 Γ Ω T σ H) (h : EvA ta Γ Ω [e1, e2] Ω1) (k : ∀ σ' H', At W Hk0 H0 ((Γ.set i (some e1)).set j (some e2)) Ω1 T σ' H' → tz D σ' H') : tSeq (tPar i j ta) tz D σ H := s_par (D := { D with nx := tz D }) a h k
/-- x, y = {}, b: a dict of one's own -/
theorem q_parD {i j : Nat} (a : At W Hk0 H0 Γ Ω T σ H) (A : Rp α) (h : ∀ Ω, Ev te Γ Ω e Ω) (k : ∀ p σ' H', p ∉ W → At W Hk0 H0 ((Γ.set i (some (en rVal (.ref p)))).set j (some e)) (dc A p [] :: Ω) T σ' H' → tz D σ' H') : tSeq (tPar i j (tCons tDNewK (tCons te tNil))) tz D σ H := by
  intro p hp
  obtain ⟨Hk, a⟩ := a
  have b := a.newCell (c := dc A p []) (o := .dK []) hp rfl ⟨[], rfl, .nil⟩
  have hw := At.notW ⟨Hk, a⟩ hp
  refine h _ W Hk0 H0 _ σ _ ⟨Hk, b⟩ _ fun v H' ⟨Hk', a'⟩ => ?_
  exact ⟨.ref p, v, rfl, k p _ _ hw ⟨Hk', (a'.unpush.set (e := en rVal (.ref p)) i rfl).set (e := e) j (a'.tp (e, v) (by simp))⟩⟩
/-! ### a list of one's own of many kinds -/
def lm (p : Addr) (es : List En) : Cell := ⟨p, fun o H => ∃ vs, o = .lst vs ∧ OkAll es vs H, fun k ⟨vs, h1, h2⟩ => ⟨vs, h1, h2.mono k⟩⟩
theorem ev_ixC {p : Addr} {es : List En} {i : Nat} {m : Int} (hi : Γ[i]? = some (some (en rVal (.ref p)))) (hb : Ev tb Γ (lm p es :: Ω) (en rInt m) (lm p es :: Ω)) (h0 : 0 ≤ m) (h : es[m.toNat]? = some e) : Ev (tOp (rIxL K) (tVar i) tb) Γ (lm p es :: Ω) e (lm p es :: Ω) := fun W Hk0 H0 T σ H a Q q => by
  have a0 := a
  obtain ⟨Hk, a⟩ := a
  obtain ⟨u, h1, h2⟩ := a.sl i _ hi
  have hu : u = .ref p := h2
  subst hu
  refine ⟨_, h1, hb W Hk0 H0 T σ H a0 _ fun y H1 ⟨Hk1, a1⟩ => ?_⟩
  have hy : y = .int m := a1.tp (en rInt m, y) (by simp)
  obtain ⟨_, ⟨o, g2, vs, rfl, al⟩, _⟩ := a1.cl _ (List.mem_cons_self ..)
  obtain ⟨v, e1, e2⟩ := al.get h
  refine ⟨p, vs, m, v, rfl, hy, Evl.sq_of g2, ?_, q v H1 ⟨Hk1, a1.unpush.push e2⟩⟩
  have := atI_nat (j := m.toNat) e1
  rwa [Int.toNat_of_nonneg h0] at this
theorem OkAll.set {H : Hp} : ∀ {es : List En} {vs : List V} {i : Nat} {e : En} {v : V}, OkAll es vs H → e.ok v H → OkAll (es.set i e) (vs.set i v) H
  | [], [], _, _, _, _, _ => True.intro
  | [], _ :: _, _, _, _, o, _ => o.elim
  | _ :: _, [], _, _, _, o, _ => o.elim
  | d :: es, w :: vs, i, e, v, o, h => by
    cases i with
    | zero => exact ⟨h, o.2⟩
    | succ i => exact ⟨o.1, OkAll.set o.2 h⟩
/-- xs[m] = e -/
theorem s_setC {p : Addr} {es : List En} {i : Nat} {m : Int} (a : At W Hk0 H0 Γ (lm p es :: Ω) T σ H) (hi : Γ[i]? = some (some (en rVal (.ref p)))) (hv : Ev te Γ (lm p es :: Ω) e (lm p es :: Ω)) (hb : Ev tb Γ (lm p es :: Ω) (en rInt m) (lm p es :: Ω)) (h0 : 0 ≤ m) (hl : m.toNat < es.length)
    (k : ∀ H', At W Hk0 H0 Γ (lm p (es.set m.toNat e) :: Ω) T σ H' → D.nx σ H') : tAsg te (gSub (tVar i) tb rSetL) D σ H :=
  hv W Hk0 H0 T σ H a _ fun v H1 a1 => by
    have a0 := a1
    obtain ⟨Hk1, a1⟩ := a1
    obtain ⟨u, h1, h2⟩ := a1.sl i _ hi
    have hu : u = .ref p := h2
    subst hu
    refine ⟨_, h1, hb W Hk0 H0 _ σ H1 a0 _ fun y H2 ⟨Hk2, a2⟩ => ?_⟩
    have hy : y = .int m := a2.tp (en rInt m, y) (by simp)
    have hx : e.ok v Hk2 := a2.tp (e, v) (by simp)
    obtain ⟨_, ⟨o, g2, vs, rfl, al⟩, _⟩ := a2.cl _ (List.mem_cons_self ..)
    have hj : ixN vs.length m = some m.toNat := by
      have := Evl.ixN_nat (n := vs.length) (j := m.toNat) (by rw [← al.len]; exact hl)
      rwa [Int.toNat_of_nonneg h0] at this
    exact ⟨p, vs, m, m.toNat, rfl, hy, g2, hj, k _ ⟨Hk2, (a2.sub (T' := T) fun z hz => by simp [hz]).write (c := lm p es) (c' := lm p (es.set m.toNat e)) rfl ⟨_, rfl, al.set hx⟩⟩⟩
theorem q_setC {p : Addr} {es : List En} {i : Nat} {m : Int} (a : At W Hk0 H0 Γ (lm p es :: Ω) T σ H) (hi : Γ[i]? = some (some (en rVal (.ref p)))) (hv : Ev te Γ (lm p es :: Ω) e (lm p es :: Ω)) (hb : Ev tb Γ (lm p es :: Ω) (en rInt m) (lm p es :: Ω)) (h0 : 0 ≤ m) (hl : m.toNat < es.length)
    (k : ∀ H', At W Hk0 H0 Γ (lm p (es.set m.toNat e) :: Ω) T σ H' → tz D σ H') : tSeq (tAsg te (gSub (tVar i) tb rSetL)) tz D σ H := s_setC (D := { D with nx := tz D }) a hi hv hb h0 hl k
/-! ### while -/
theorem s_while {ι : Type} (Γs : ι → Ctx) (Ωs : ι → List Cell) (μ : ι → Nat) (c : ι → Bool) (i0 : ι) (a : At W Hk0 H0 (Γs i0) (Ωs i0) T σ H) (ht : ∀ i, EvB tt (Γs i) (Ωs i) (c i) (Ωs i))
    (hs : ∀ i σ' H', c i = true → At W Hk0 H0 (Γs i) (Ωs i) T σ' H' → tbd { D with nx := fun σ H => ∃ j, μ j < μ i ∧ At W Hk0 H0 (Γs j) (Ωs j) T σ H, ct := fun σ H => ∃ j, μ j < μ i ∧ At W Hk0 H0 (Γs j) (Ωs j) T σ H, bk := D.nx } σ' H')
    (hd : ∀ i σ' H', c i = false → At W Hk0 H0 (Γs i) (Ωs i) T σ' H' → D.nx σ' H') : tWhile tt tbd D σ H := by
  refine ⟨fun m σ H => ∃ i, m = μ i ∧ At W Hk0 H0 (Γs i) (Ωs i) T σ H, ⟨_, i0, rfl, a⟩, ?_⟩
  rintro m σ H ⟨i, rfl, a⟩
  refine ht i W Hk0 H0 T σ H a _ fun H' a' => ?_
  cases hc : c i with
  | true =>
    refine ⟨fun σ H => ∃ j, μ j < μ i ∧ At W Hk0 H0 (Γs j) (Ωs j) T σ H, fun σ' H' ⟨j, h1, h2⟩ => ⟨_, h1, j, rfl, h2⟩, ?_⟩
    exact hs i σ H' hc a'
  | false => exact hd i σ H' hc a'
end
end KA
namespace KA
open PySem PySem.Spec PyProof.Rows L2
/-- what a caller needs of a def -/
def Gd (P : Program) (w : World) (K : PySem.W.Frag) (mg : Str → Option Value) (base : Heap) (k : Nat) (f : Addr) (ps : List Str) (sp : Sp) : Prop :=
  ∃ fd, FnOk P w K mg base CX0 k f fd ps sp ∧ PySem.W.keepIn K (.ref f) = true ∧ Binds K fd ps []
end KA
namespace KA
open PySem PySem.Spec PyProof.Rows L2
section
variable {W : List Addr} {Hk0 H0 : Hp} {Γ Γ' : Ctx} {Ω Ω' Ω1 Ω2 Ω3 : List Cell} {T T' : Tm} {σ σ' : L2.St} {Hk H : Hp} {K : PySem.W.Frag}
variable {te ta tb td : TE} {D : Ends} {e e1 e2 : En} {tz : TS}
theorem s_end {Q : VK} (a : At W Hk0 H0 Γ Ω T σ H) (k : Back W Hk0 H0 (en rNon ()) Ω Q) : Q .non H := by
  obtain ⟨Hk, a⟩ := a.bare
  exact k .non H T [] ⟨Hk, a.push (e := en rNon ()) rfl⟩
theorem q_fld {Cl p dx : Addr} {f : Str} {c c' : Cell} {tv to : TE} (a : At W Hk0 H0 Γ (c :: Ω) T σ H) (hv : Ev tv Γ (c :: Ω) e (c :: Ω)) (ho : Ev to Γ (c :: Ω) (en rVal (.ref p)) (c :: Ω)) (hcl : Cls K Cl) (hn : NoAttr K Cl f) (hp : c.a = p) (hp' : c'.a = p)
    (hc : ∀ o Hk, c.p o Hk → ∃ fs, o = .ins Cl dx fs ∧ fs.length < 1000 ∧ ∀ y, e.ok y Hk → c'.p (.ins Cl dx (putF f y fs)) Hk) (k : ∀ H', At W Hk0 H0 Γ (c' :: Ω) T σ H' → tz D σ H') : tSeq (sFld K to tv f) tz D σ H := s_fld (fs := []) (D := { D with nx := tz D }) a hv ho hcl hn hp hp' hc k
end
/-- the same with keywords -/
def GdK (P : Program) (w : World) (K : PySem.W.Frag) (mg : Str → Option Value) (base : Heap) (k : Nat) (f : Addr) (ps : List Str) (sp : Sp) (n : Nat) (ks : List Str) : Prop :=
  ∃ fd, FnOk P w K mg base CX0 k f fd ps sp ∧ PySem.W.keepIn K (.ref f) = true ∧ KBn K fd ps n ks (fun us ws => us ++ ws) (fun vs zs => vs ++ zs)
theorem kgJob {es zs : List En} : ∀ (vs ws : List V) (x : Addr) (Hk : Hp), OkAll es vs Hk → OkAll zs ws Hk → ∃ us, (fun vs zs : List V => vs ++ zs) (.ref x :: vs) ws = .ref x :: us ∧ OkAll (es ++ zs) us Hk := fun vs ws _ _ o1 o2 => ⟨vs ++ ws, rfl, o1.append o2⟩
end KA

/-! walks whose items are named by their place -/
namespace KA
open PySem PySem.Spec PyProof.Rows L2
open He (ga ma eqO eqO_ok ba)
instance : Inhabited Jb := ⟨⟨1, 1, 0, 1, by decide⟩⟩
section
variable {W : List Addr} {Hk0 H0 : Hp} {Γ Γ' : Ctx} {Ω Ω' Ω1 Ω2 Ω3 : List Cell} {T T' : Tm} {σ σ' : L2.St} {Hk H : Hp} {K : PySem.W.Frag}
variable {te ta tb td : TE} {tt tu : TT} {D : Ends} {e e1 e2 : En} {b b2 : Bool} {ts tz tbd : TS} {α β γ : Type} {A : Rp α} {B : Rp β} {C : Rp γ} {xs : List α} {n j : Nat} {Bs : List Addr → Hp → Hp → L2.St → Prop} {wi : TI}
theorem ei_is {es es' : Nat → En} (h : EvI Bs wi Γ Ω n es Ω1) (k : ∀ i, i < n → es i = es' i) : EvI Bs wi Γ Ω n es' Ω1 := fun W Hk0 H0 T σ H hB a R q =>
  h W Hk0 H0 T σ H hB a R fun J T' H' a' ⟨G, Y, w, hg, hy⟩ => q J T' H' a' ⟨G, Y, w, hg, fun i Hk H x H' hi t kk y => by
    rw [← k i hi]
    exact hy i Hk H x H' hi t kk y⟩
theorem getD_at [Inhabited α] {i : Nat} (h : i < xs.length) : xs[i]? = some (xs.getD i default) := by
  rw [List.getD_eq_getElem?_getD, List.getElem?_eq_getElem h]
  rfl
theorem ei_gd [Inhabited α] (h : EvI Bs wi Γ Ω xs.length (nth A xs) Ω1) : EvI Bs wi Γ Ω xs.length (fun i => en A (xs.getD i default)) Ω1 := ei_is h fun i hi => nth_of (getD_at hi)
theorem ei_gdI [Inhabited α] (h : EvI Bs wi Γ Ω xs.length (nthI K A xs) Ω1) : EvI Bs wi Γ Ω xs.length (fun i => en (rPair K rInt A) ((i : Int), xs.getD i default)) Ω1 := ei_is h fun i hi => nthI_of (getD_at hi)
theorem ei_gdK [Inhabited α] {m : List (Str × α)} (h : EvI Bs wi Γ Ω m.length (nth rStr (m.map (·.1))) Ω1) : EvI Bs wi Γ Ω m.length (fun i => en rStr (m.getD i default).1) Ω1 := ei_is h fun i hi => nth_of (by rw [List.getElem?_map, getD_at hi]; rfl)
theorem tg_pairD {p : α × β} {i j : Nat} {vs : List Nat} (hi : i ∈ vs) (hj : j ∈ vs) : TgE (gTup K 2 (gCons (gName i) (gCons (gName j) gNil))) Γ (en (rPair K A B) p) ((Γ.set i (some (en A p.1))).set j (some (en B p.2))) vs := tg_pair (e1 := p.1) (e2 := p.2) hi hj
theorem tg_nameD {i : Nat} {vs : List Nat} (h : i ∈ vs) : TgE (gName i) Γ e (Γ.set i (some e)) vs := tg_name h
/-- what a comprehension over a list gives -/
theorem given_getD [Inhabited α] (p : α → Bool) (f : α → β) : ∀ xs : List α, given (fun i => p (xs.getD i default)) (fun i => f (xs.getD i default)) xs.length = (xs.filter p).map f := by
  intro xs
  unfold given
  induction xs with
  | nil => rfl
  | cons x xs ih =>
    have e : List.range (x :: xs).length = 0 :: (List.range xs.length).map Nat.succ := by rw [List.length_cons, List.range_succ_eq_map]
    rw [e, List.filter_cons]
    have h1 : ((List.range xs.length).map Nat.succ).filter (fun i => p ((x :: xs).getD i default)) = ((List.range xs.length).filter fun i => p (xs.getD i default)).map Nat.succ := by
      rw [List.filter_map]
      rfl
    rw [h1, List.filter_cons]
    have h2 : List.map (fun i => f ((x :: xs).getD i default)) (((List.range xs.length).filter fun i => p (xs.getD i default)).map Nat.succ) = (xs.filter p).map f := by
      rw [List.map_map, ← ih]
      rfl
    show List.map _ (if p x = true then 0 :: _ else _) = List.map f (if p x = true then x :: _ else _)
    cases hp : p x with
    | true =>
      rw [if_pos rfl, if_pos rfl, List.map_cons, List.map_cons, h2]
      rfl
    | false =>
      rw [if_neg (by simp), if_neg (by simp), h2]
theorem range_getD [Inhabited α] (f : α → β) (xs : List α) : (List.range xs.length).map (fun i => f (xs.getD i default)) = xs.map f := by
  have h := given_getD (fun _ => true) f xs
  unfold given at h
  rw [List.filter_eq_self.mpr fun _ _ => rfl, List.filter_eq_self.mpr fun _ _ => rfl] at h
  exact h
theorem given_getDT [Inhabited α] (f : α → β) (xs : List α) : given (fun _ => true) (fun i => f (xs.getD i default)) xs.length = xs.map f := by
  rw [given_all]; exact range_getD f xs
/-- the numbers -/
theorem given_rng (p : Nat → Bool) (f : Nat → β) (n : Nat) : given p f n = ((List.range n).filter p).map f := rfl
/-! ### dict locks around statements -/
theorem q_lk {m : List (Str × α)} (a : At W Hk0 H0 Γ Ω T σ H) (hl : Dloc td Γ A m) {Γn : Ctx} {Ωn : List Cell} {Tn : Tm} (hn : ∀ σ' H', At W Hk0 H0 Γn Ωn Tn σ' H' → tz D σ' H')
    (h : ∀ W' Hk' H' (D' : Ends), Lkd td A m W' Hk' H' σ → At W' Hk' H' Γ Ω T σ H' → (∀ σ' H2, At W' Hk' H' Γn Ωn Tn σ' H2 → D'.nx σ' H2) → (∀ e Ω', Back W Hk0 H0 e Ω' D.rt → Back W' Hk' H' e Ω' D'.rt) → ts D' σ H') : tSeq (tLockS ts) tz D σ H := s_lk (D := { D with nx := tz D }) a hl hn h
/-- lookups in a list without a name twice -/
theorem lookup_get {m : List (Str × α)} (nd : (m.map (·.1)).Nodup) : ∀ {i : Nat} {p : Str × α}, m[i]? = some p → m.lookup p.1 = some p.2 := by
  induction m with
  | nil => intro i p h; simp at h
  | cons q m ih =>
    intro i p h
    obtain ⟨k, x⟩ := q
    rw [List.map_cons, List.nodup_cons] at nd
    cases i with
    | zero => simp at h; subst h; simp [List.lookup]
    | succ i =>
      have h : m[i]? = some p := by simpa using h
      have hm : p.1 ∈ m.map (·.1) := List.mem_map_of_mem (List.mem_of_getElem? h)
      have ne : p.1 ≠ k := fun e => nd.1 (e ▸ hm)
      rw [List.lookup, beq_eq_false_iff_ne.mpr ne]
      exact ih nd.2 h
theorem lookup_getD [Inhabited α] {m : List (Str × α)} (nd : (m.map (·.1)).Nodup) {i : Nat} (h : i < m.length) : m.lookup (m.getD i default).1 = some (m.getD i default).2 := lookup_get nd (getD_at h)
theorem nodup_getD [Inhabited α] {m : List (Str × α)} (nd : (m.map (·.1)).Nodup) {i j : Nat} (h : i < j) (hj : j < m.length) : (m.getD i default).1 ≠ (m.getD j default).1 := fun e => by
  have hi : i < m.length := by omega
  have h1 : (m.map (·.1))[i]? = some (m.getD i default).1 := by rw [List.getElem?_map, getD_at hi]; rfl
  have h2 : (m.map (·.1))[j]? = some (m.getD j default).1 := by rw [List.getElem?_map, getD_at hj]; rfl
  have := (List.getElem?_inj (by simpa using hi) nd).mp (h1.trans ((congrArg some e).trans h2.symm))
  omega
theorem mem_getD [Inhabited α] {i : Nat} (h : i < xs.length) : xs.getD i default ∈ xs := List.mem_of_getElem? (getD_at h)
/-! ### timetables that are filled -/
/-- an instance with one dict of jobs -/
def tcT (K : PySem.W.Frag) (x dx : Addr) (m : List (Str × Jb)) : Cell := ⟨x, fun o H => ∃ d, o = .ins (cT K) dx [("_jobs", .ref d)] ∧ (rDict (rJob K)).r m (.ref d) H, fun k ⟨d, h1, h2⟩ => ⟨d, h1, (rDict (rJob K)).mono k h2⟩⟩
theorem ty_own {Cl : Addr} (hi : IsIn Cl e) (cl : Cls K Cl) (i : Isi K Cl) : RcE (rIsi K) [e, en rVal (.ref Cl)] (en rBool true) := ii_own hi cl i.ha i.hn i.htk i.hm
end
end KA
namespace KA
open PySem PySem.Spec PyProof.Rows L2
theorem prodP_take {m : List (Str × Jb)} {i : Nat} (h : i < m.length) : prodP (m.take i) * (m.getD i default).2.per = prodP (m.take (i + 1)) := by
  unfold prodP
  rw [List.take_succ, getD_at h]
  simp [List.foldl_append]
end KA
namespace KA
def keepA (i j : Jb) (d : Int) : Bool := decide (i.dur ≤ (j.st - i.st) % d ∧ (j.st - i.st) % d + j.dur ≤ d)
def gcdJ (i j : Jb) : Int := ((Nat.gcd i.per.natAbs j.per.natAbs : Nat) : Int)
theorem gcd_pos (i j : Jb) : 0 < ((Nat.gcd i.per.natAbs j.per.natAbs : Nat) : Int) := by
  have := i.ok
  have h : 0 < Nat.gcd i.per.natAbs j.per.natAbs := Nat.gcd_pos_of_pos_left _ (by omega)
  omega
def apartJ (i j : Jb) : Bool := keepA i j (gcdJ i j)
def Jb.shift (j : Jb) (x : Int) : Jb := ⟨j.per, j.dur, (j.st + x) % j.per, j.co, ⟨j.ok.1, j.ok.2.1, ⟨Int.emod_nonneg _ (by have := j.ok; omega), Int.emod_lt_of_pos _ (by have := j.ok; omega)⟩, j.ok.2.2.2⟩⟩
end KA

namespace KA
open PySem PySem.Spec PyProof.Rows L2
open He (ga ma eqO eqO_ok ba)
section
variable {W : List Addr} {Hk0 H0 : Hp} {Γ Γ' : Ctx} {Ω Ω' Ω1 Ω2 Ω3 : List Cell} {T T' : Tm} {σ σ' : L2.St} {Hk H : Hp} {K : PySem.W.Frag}
variable {te ta tb td : TE} {tt tu : TT} {D : Ends} {e e1 e2 : En} {b b2 : Bool} {ts tz tbd : TS} {α β γ : Type} {A : Rp α} {B : Rp β} {C : Rp γ} {xs : List α} {n j : Nat} {Bs : List Addr → Hp → Hp → L2.St → Prop} {wi : TI}
theorem sqT_ty {p : Addr} {vs : List V} (h : SqT K H p vs) : TyX K H (.ref p) (.type "tuple") := by
  rcases h with (h | ⟨o, h⟩) | ⟨o, its, n, h1, h2, _⟩
  · exact .base (.tup h)
  · exact .fTuple h
  · exact .kTuple h1 h2
theorem ii_tupN {es : List En} : RcE (rIsi K) [enT K es, en rVal (.ty "tuple")] (en rBool true) := rc_isi (.ty _) (fun v H h => by
  obtain ⟨p, vs, rfl, h, _⟩ := h
  exact sqT_ty h) (kit_ty (by decide +kernel))
theorem Al.strs {H : Hp} : ∀ {xs : List Str} {vs : List V}, Al rStr H xs vs → vs = xs.map V.str
  | _, _, .nil => rfl
  | _, _, .cons h t => by rw [Al.strs t]; cases h; rfl
/-- names.index(z) -/
theorem ev_index {zs : List Str} {z : Str} {j : Nat} (ho : Ev ta Γ Ω (en (rList rStr) zs) Ω1) (hz : Ev tb Γ Ω1 (en rStr z) Ω2) (nd : zs.Nodup) (hj : zs[j]? = some z) : Ev (tBM K "list" (rIndex K) ta (tCons tb tNil)) Γ Ω (en rInt (j : Int)) Ω2 := fun W Hk0 H0 T σ H a Q q =>
  ho W Hk0 H0 T σ H a _ fun x H1 a1 => by
    have : tyV K "list" x H1 := by
      obtain ⟨Hk1, a1⟩ := a1
      obtain ⟨p, vs, rfl, hp, al⟩ := (show (rList rStr).r zs x Hk1 from a1.tp (en (rList rStr) zs, x) (by simp))
      exact .inl ⟨rfl, vs, Evl.sq_of (a1.gr.kh.lst hp)⟩
    refine ⟨this, hz W Hk0 H0 _ σ H1 a1 _ fun y H2 ⟨Hk2, a2⟩ => ?_⟩
    obtain ⟨p, vs, hx, hp, al⟩ := (show (rList rStr).r zs x Hk2 from a2.tp (en (rList rStr) zs, x) (by simp))
    have hy : y = .str z := a2.tp (en rStr z, y) (by simp)
    have hv := al.strs
    subst hv
    refine ⟨p, _, y, j, .str z, hx, rfl, Evl.sq_of (a2.gr.kh.lst hp), by rw [hy]; rfl, ?_, by rw [List.getElem?_map, hj]; rfl, by rw [hy]; exact decide_eq_true rfl, ?_, q _ H2 ⟨Hk2, (a2.sub (T' := T) fun w hw => by simp [hw]).push rfl⟩⟩
    · exact List.all_eq_true.mpr fun v hv => by
        obtain ⟨s, _, rfl⟩ := List.mem_map.mp hv
        rfl
    · intro m z' hm hz'
      rw [List.getElem?_map] at hz'
      obtain ⟨s, h1, rfl⟩ := Option.map_eq_some_iff.mp hz'
      rw [hy]
      refine decide_eq_false fun e => ?_
      have := (List.getElem?_inj (List.getElem?_eq_some_iff.mp h1).1 nd).mp (h1.trans ((congrArg some e).trans hj.symm))
      omega
end
/-- the first of n numbers where p holds -/
def firstAt (p : Nat → Bool) (n : Nat) : Option Nat := (List.range n).find? p
theorem firstAt_some {p : Nat → Bool} {n i : Nat} (hi : i < n) (h : p i = true) (hb : ∀ k, k < i → p k = false) : firstAt p n = some i := by
  unfold firstAt
  induction n with
  | zero => omega
  | succ n ih =>
    rw [List.range_succ, List.find?_append]
    by_cases e : i < n
    · rw [ih e]; rfl
    · have e : i = n := by omega
      subst e
      rw [List.find?_eq_none.mpr fun x hx => by rw [hb x (List.mem_range.mp hx)]; simp]
      simp [h]
theorem firstAt_none {p : Nat → Bool} {n : Nat} (hb : ∀ k, k < n → p k = false) : firstAt p n = none := List.find?_eq_none.mpr fun x hx => by rw [hb x (List.mem_range.mp hx)]; simp
theorem firstAt_ext {p q : Nat → Bool} {n : Nat} (h : ∀ k, k < n → p k = q k) : firstAt p n = firstAt q n := by
  unfold firstAt
  induction n with
  | zero => rfl
  | succ n ih =>
    rw [List.range_succ, List.find?_append, List.find?_append, ih fun k hk => h k (by omega)]
    congr 1
    simp [h n (by omega)]
theorem firstAt_spec {p : Nat → Bool} {n i : Nat} (h : firstAt p n = some i) : i < n ∧ p i = true ∧ ∀ k, k < i → p k = false := by
  unfold firstAt at h
  refine ⟨List.mem_range.mp (List.mem_of_find?_eq_some h), List.find?_some h, fun k hk => ?_⟩
  cases hp : p k with
  | false => rfl
  | true =>
    have hn : i < n := List.mem_range.mp (List.mem_of_find?_eq_some h)
    have : ∃ m, m ≤ k ∧ p m = true ∧ ∀ l, l < m → p l = false := by
      clear hn h hk
      induction k using Nat.strongRecOn with
      | ind k ih =>
        by_cases z : ∃ l, l < k ∧ p l = true
        · obtain ⟨l, h1, h2⟩ := z
          obtain ⟨m, m1, m2, m3⟩ := ih l h1 h2
          exact ⟨m, by omega, m2, m3⟩
        · refine ⟨k, Nat.le_refl _, hp, fun l hl => ?_⟩
          cases hq : p l with
          | false => rfl
          | true => exact (z ⟨l, hl, hq⟩).elim
    obtain ⟨m, m1, m2, m3⟩ := this
    have := firstAt_some (n := n) (by omega) m2 m3
    unfold firstAt at this
    rw [this] at h
    cases h
    omega
theorem firstAt_none' {p : Nat → Bool} {n : Nat} (h : firstAt p n = none) (k : Nat) (hk : k < n) : p k = false := by
  have := List.find?_eq_none.mp h k (List.mem_range.mpr hk)
  cases hp : p k with
  | false => rfl
  | true => exact (this hp).elim
/-- both run at t -/
def runs (j : Jb) (t : Int) : Bool := decide ((t - j.st) % j.per < j.dur)
def meetJ (i j : Jb) (t : Nat) : Bool := runs i t && runs j t
def lcmJ (i j : Jb) : Nat := Nat.lcm i.per.natAbs j.per.natAbs
def commonT (i j : Jb) : Option Int := (firstAt (meetJ i j) (lcmJ i j)).map Int.ofNat
theorem lcm_small (i j : Jb) : lcmJ i j ≤ 144 := by
  have hi := i.ok
  have hj := j.ok
  have h : lcmJ i j ≤ i.per.natAbs * j.per.natAbs := Nat.le_of_dvd (Nat.mul_pos (by omega) (by omega)) (Nat.lcm_dvd_mul _ _)
  have := Nat.mul_le_mul (show i.per.natAbs ≤ 12 by omega) (show j.per.natAbs ≤ 12 by omega)
  omega
end KA
namespace KA
def reasonJ (i j : Jb) (d x : Int) : Bool := decide (1 ≤ d) && (decide (i.per % d = 0) && decide (j.per % d = 0)) && (decide (x = (j.st - i.st) % d) && keepA i j d)
end KA

namespace KA
open PySem PySem.Spec PyProof.Rows L2
open He (ga ma eqO eqO_ok ba)
section
variable {W : List Addr} {Hk0 H0 : Hp} {Γ Γ' : Ctx} {Ω Ω' Ω1 Ω2 Ω3 : List Cell} {T T' : Tm} {σ σ' : L2.St} {Hk H : Hp} {K : PySem.W.Frag}
variable {te ta tb td : TE} {tt tu : TT} {D : Ends} {e e1 e2 : En} {b b2 : Bool} {ts tz tbd : TS} {α β γ : Type} {A : Rp α} {B : Rp β} {C : Rp γ} {xs : List α} {n j : Nat} {Bs : List Addr → Hp → Hp → L2.St → Prop} {wi : TI} {g : TG} {c c1 c2 : Cell}
/-! ### cells in another order, cells that are forgotten -/
theorem AtH.cells (a : AtH W Hk0 H0 Γ Ω T σ Hk H) (nd : (Ω'.map Cell.a).Nodup) (h : ∀ c ∈ Ω', c ∈ Ω) : AtH W Hk0 H0 Γ Ω' T σ Hk H := { a with nd := nd, cl := fun c hc => a.cl c (h c hc) }
theorem At.swap (a : At W Hk0 H0 Γ (c1 :: c2 :: Ω) T σ H) : At W Hk0 H0 Γ (c2 :: c1 :: Ω) T σ H := by
  obtain ⟨Hk, a⟩ := a
  refine ⟨Hk, a.cells ?_ fun c hc => ?_⟩
  · have := a.nd
    simp only [List.map_cons, List.nodup_cons, List.mem_cons, not_or] at this ⊢
    exact ⟨⟨fun e => this.1.1 e.symm, this.2.1⟩, this.1.2, this.2.2⟩
  · simp at hc ⊢
    rcases hc with h | h | h <;> simp [h]
theorem At.forget (a : At W Hk0 H0 Γ (c :: Ω) T σ H) : At W Hk0 H0 Γ Ω T σ H := by
  obtain ⟨Hk, a⟩ := a
  refine ⟨Hk, a.cells ?_ fun c hc => List.mem_cons_of_mem _ hc⟩
  have := a.nd
  rw [List.map_cons, List.nodup_cons] at this
  exact this.2
theorem Back.forget {Q : VK} (k : Back W Hk0 H0 e Ω Q) : Back W Hk0 H0 e (c :: Ω) Q := fun v H T σ a => k v H T σ a.forget
theorem Back.swap {Q : VK} (k : Back W Hk0 H0 e (c1 :: c2 :: Ω) Q) : Back W Hk0 H0 e (c2 :: c1 :: Ω) Q := fun v H T σ a => k v H T σ a.swap
/-! ### the script -/
def rScr (K : PySem.W.Frag) : Rp (List Int) := ⟨fun ns v H => ∃ a, v = .ref a ∧ SqL K H a (ns.map V.int), fun k ⟨a, h1, h2⟩ => ⟨a, h1, ex_l k h2⟩⟩
theorem rv_ixScr {ns : List Int} {i : Int} {x : Int} (hi : 0 ≤ i) (h : ns[i.toNat]? = some x) : RvE (rIxL K) (en (rScr K) ns) (en rInt i) (en rInt x) := fun Hk H u y k h1 h2 Q q => by
  obtain ⟨p, hu, hp⟩ := (show (rScr K).r ns u Hk from h1)
  cases (show y = V.int i from h2)
  have e1 : (ns.map V.int)[i.toNat]? = some (V.int x) := by rw [List.getElem?_map, h]; rfl
  refine ⟨p, _, i, .int x, hu, rfl, ex_l k hp, ?_, q _ Hk H (.refl k) rfl⟩
  have := atI_nat (j := i.toNat) e1
  rwa [Int.toNat_of_nonneg hi] at this
theorem rc_lenScr {ns : List Int} : RcE (rLenQ K) [en (rScr K) ns] (en rInt (ns.length : Int)) := fun Hk H vs k o Q q => by
  obtain ⟨v, rfl, o1⟩ := ok1 o
  obtain ⟨p, hu, hp⟩ := (show (rScr K).r ns v Hk from o1)
  exact ⟨p, _, by rw [hu], .inl (ex_l k hp), q _ Hk H (.refl k) (show V.int _ = V.int _ by rw [List.length_map])⟩
theorem ei_rng3 {ta : TA} {lo k s : Int} {n : Nat} (h : EvA ta Γ Ω [en rInt lo, en rInt k, en rInt s] Ω1) (hk : RgC lo k s n) : EvI Bs (iRng3 ta) Γ Ω n (fun i => en rInt (lo + (i : Nat) * s)) Ω1 := fun W Hk0 H0 T σ H _ a R q =>
  h W Hk0 H0 T σ H a _ fun vs H1 hl a1 => by
    obtain ⟨Hk1, a1⟩ := a1
    match vs, hl with
    | [v, w, u], _ =>
      have e : v = .int lo := a1.tp (en rInt lo, v) (by simp)
      have e2 : w = .int k := a1.tp (en rInt k, w) (by simp)
      have e3 : u = .int s := a1.tp (en rInt s, u) (by simp)
      subst e; subst e2; subst e3
      have m : ∀ H H' : Hp, Ex H H' → True → True := fun _ _ _ h => h
      refine ⟨lo, k, s, n, rfl, hk, q (Itc lo s n) [fct _ m] H1 ⟨Hk1, (a1.sub (T' := T) fun z hz => by simp [hz]).fct m True.intro⟩ (.of m walk_rangeC (fun _ _ _ _ => True.intro) fun i Hk H x H' hi t kk y => ?_)⟩
      obtain ⟨rfl, rfl⟩ := y
      exact ⟨Hk, Grow.refl kk, rfl⟩
theorem ok2 {e1 e2 : En} {vs : List V} (o : OkAll [e1, e2] vs Hk) : ∃ v w, vs = [v, w] ∧ e1.ok v Hk ∧ e2.ok w Hk := by
  cases vs with
  | nil => exact o.elim
  | cons v vs =>
    obtain ⟨w, rfl, h⟩ := ok1 o.2
    exact ⟨v, w, rfl, o.1, h⟩
theorem rc_max2 {i j : Int} : RcE (fun xs H Q => ∃ i j, xs = [.int i, .int j] ∧ Q (.int (if j > i then j else i)) H) [en rInt i, en rInt j] (en rInt (max i j)) := fun Hk H vs k o Q q => by
  obtain ⟨v, w, rfl, h1, h2⟩ := ok2 o
  cases (show v = V.int i from h1)
  cases (show w = V.int j from h2)
  exact ⟨i, j, rfl, q _ Hk H (.refl k) (show V.int _ = V.int (max i j) by congr 1; omega)⟩
theorem rc_min2 {i j : Int} : RcE (fun xs H Q => ∃ i j, xs = [.int i, .int j] ∧ Q (.int (if j < i then j else i)) H) [en rInt i, en rInt j] (en rInt (min i j)) := fun Hk H vs k o Q q => by
  obtain ⟨v, w, rfl, h1, h2⟩ := ok2 o
  cases (show v = V.int i from h1)
  cases (show w = V.int j from h2)
  exact ⟨i, j, rfl, q _ Hk H (.refl k) (show V.int _ = V.int (min i j) by congr 1; omega)⟩
/-! ### loops with what is not said beforehand -/
theorem s_forGB {ι : Type} (Γs : Nat → ι → Ctx) (Ωs : Nat → ι → List Cell) (I : Nat → ι → Prop) (i0 : ι) (hB : Bs W Hk0 H0 σ) (a : At W Hk0 H0 Γ Ω T σ H) (h : EvI Bs wi Γ Ω n es Ω1)
    (h0 : I 0 i0 ∧ ∀ T σ H, At W Hk0 H0 Γ Ω1 T σ H → At W Hk0 H0 (Γs 0 i0) (Ωs 0 i0) T σ H)
    (hs : ∀ T i x u σ' H', i < n → I i u → At W Hk0 H0 (Γs i u) (Ωs i u) ((es i, x) :: T) σ' H' → g x σ' H' fun σ2 H2 => ts { D with nx := fun σ H => ∃ u, I (i + 1) u ∧ At W Hk0 H0 (Γs (i + 1) u) (Ωs (i + 1) u) T σ H, ct := fun σ H => ∃ u, I (i + 1) u ∧ At W Hk0 H0 (Γs (i + 1) u) (Ωs (i + 1) u) T σ H, bk := D.nx } σ2 H2)
    (hd : ∀ u, I n u → ∀ σ' H', At W Hk0 H0 (Γs n u) (Ωs n u) T σ' H' → D.nx σ' H') : tFor wi g ts D σ H :=
  h W Hk0 H0 T σ H hB a _ fun J T' H1 a1 ⟨G, Y, w, hg, hy⟩ => by
    refine for_it w (fun i σ' H' => ∃ u, I i u ∧ At W Hk0 H0 (Γs i u) (Ωs i u) (T' ++ T) σ' H') ⟨i0, h0.1, h0.2 _ _ _ a1⟩ (fun i σ' H' _ ⟨_, _, Hk', a'⟩ => hg Hk' H' (fun p hp => a'.tp p (by simp [hp])) a'.gr.kh a'.gr.hh) ?_ (fun σ' H' ⟨u, i', a'⟩ => hd u i' _ _ (a'.sub fun p hp => by simp [hp]))
    rintro i x σ' H2 H3 hi ⟨u, i', Hk', a'⟩ y
    obtain ⟨Hk3, g3, ok⟩ := hy i Hk' H2 x H3 hi (fun p hp => a'.tp p (by simp [hp])) a'.gr.kh y
    exact hs (T' ++ T) i x u σ' H3 hi i' ⟨Hk3, (a'.grow g3).push ok⟩
theorem s_forG {ι : Type} {g : TG} {vars : List Nat} (Γs : Nat → ι → Ctx) (Ωs : Nat → ι → List Cell) (I : Nat → ι → Prop) (i0 : ι) (Γt : Nat → ι → Ctx) (a : At W Hk0 H0 Γ Ω T σ H) (h : EvI Any wi Γ Ω n es Ω1) (hg : ∀ i u, i < n → TgE g (Γs i u) (es i) (Γt i u) vars)
    (h0 : I 0 i0 ∧ ∀ T σ H, At W Hk0 H0 Γ Ω1 T σ H → At W Hk0 H0 (Γs 0 i0) (Ωs 0 i0) T σ H)
    (hs : ∀ T i u σ' H', i < n → I i u → At W Hk0 H0 (Γt i u) (Ωs i u) T σ' H' → ts { D with nx := fun σ H => ∃ u, I (i + 1) u ∧ At W Hk0 H0 (Γs (i + 1) u) (Ωs (i + 1) u) T σ H, ct := fun σ H => ∃ u, I (i + 1) u ∧ At W Hk0 H0 (Γs (i + 1) u) (Ωs (i + 1) u) T σ H, bk := D.nx } σ' H')
    (hd : ∀ u, I n u → ∀ σ' H', At W Hk0 H0 (Γs n u) (Ωs n u) T σ' H' → D.nx σ' H') : tFor wi g ts D σ H :=
  s_forGB Γs Ωs I i0 (Bs := Any) True.intro a h h0 (fun T i x u σ' H' hi i' a => hg i u hi _ _ _ _ _ _ _ _ a _ fun σ2 a2 _ => hs T i u σ2 H' hi i' a2) hd
theorem q_forG {ι : Type} {g : TG} {vars : List Nat} (Γs : Nat → ι → Ctx) (Ωs : Nat → ι → List Cell) (I : Nat → ι → Prop) (i0 : ι) (Γt : Nat → ι → Ctx) (a : At W Hk0 H0 Γ Ω T σ H) (h : EvI Any wi Γ Ω n es Ω1) (hg : ∀ i u, i < n → TgE g (Γs i u) (es i) (Γt i u) vars)
    (h0 : I 0 i0 ∧ ∀ T σ H, At W Hk0 H0 Γ Ω1 T σ H → At W Hk0 H0 (Γs 0 i0) (Ωs 0 i0) T σ H)
    (hs : ∀ T i u σ' H', i < n → I i u → At W Hk0 H0 (Γt i u) (Ωs i u) T σ' H' → ts { D with nx := fun σ H => ∃ u, I (i + 1) u ∧ At W Hk0 H0 (Γs (i + 1) u) (Ωs (i + 1) u) T σ H, ct := fun σ H => ∃ u, I (i + 1) u ∧ At W Hk0 H0 (Γs (i + 1) u) (Ωs (i + 1) u) T σ H, bk := tz D } σ' H')
    (hd : ∀ u, I n u → ∀ σ' H', At W Hk0 H0 (Γs n u) (Ωs n u) T σ' H' → tz D σ' H') : tSeq (tFor wi g ts) tz D σ H := s_forG (D := { D with nx := tz D }) Γs Ωs I i0 Γt a h hg h0 hs hd
/-! ### defs whose answer is not said beforehand -/
abbrev SigW := List En → List Cell → (En → List Cell → Prop) → Prop
def spW (S : SigW) : Sp := fun vs H Q _ => ∃ es Ω R Hk, S es Ω R ∧ es.length = vs.length ∧ At (adr Ω) Hk H [] Ω (es.zip vs) [] H ∧ Ex Hk H ∧ ∀ e Ω' v H' T σ, R e Ω' → At (adr Ω) Hk H [] Ω' ((e, v) :: T) σ H' → Q v H'
theorem okall_zip {Hk : Hp} : ∀ {ds : List En} {dvs : List V}, OkAll ds dvs Hk → ∀ p ∈ ds.zip dvs, En.ok p.1 p.2 Hk
  | [], _, _, p, hp => by simp at hp
  | _ :: _, [], _, p, hp => by simp at hp
  | d :: ds, v :: dvs, o, p, hp => by
    simp at hp
    rcases hp with rfl | hp
    · exact o.1
    · exact okall_zip o.2 p hp
/-- x = f(..): what f answers is known from here on -/
theorem s_setW {S : SigW} {ta : TA} {es : List En} {E : XK} {i : Nat} {R : En → List Cell → Prop} (a : At W Hk0 H0 Γ Ω T σ H) (h : EvA ta Γ Ω es (Ω1 ++ Ω2)) (hs : S es Ω1 R) (hΩ : ∀ e Ω', R e Ω' → ∀ c ∈ Ω', c.a ∈ adr Ω1)
    (k : ∀ e Ω' σ' H', R e Ω' → At W Hk0 H0 (Γ.set i (some e)) (Ω' ++ Ω2) T σ' H' → D.nx σ' H') : tAsg (tCall (spW S) [] E ta) (gName i) D σ H :=
  h W Hk0 H0 T σ H a _ fun vs H1 hlv ⟨Hk1, a1⟩ => by
    refine ⟨es, Ω1, R, Hk1, hs, by simp [hlv], ⟨Hk1, { a1.lend with tp := fun p hp => ?_ }⟩, a1.gr.kh, fun e Ω' v H' T' σ' hR ⟨Hk', b⟩ => ?_⟩
    · exact a1.tp p (by simp at hp; simp [hp])
    · have b' : AtH (adr Ω1) Hk1 H1 [] Ω' ((e, v) :: T') [] Hk' H' := { b with len := rfl, sl := fun i e q => by simp at q }
      have c := a1.paid b' (hΩ e Ω' hR)
      have hv : e.ok v Hk' := c.tp (e, v) (by simp)
      exact k e Ω' _ H' hR ⟨Hk', (c.sub (T' := T) fun p hp => by simp [hp]).set i hv⟩
theorem q_setW {S : SigW} {ta : TA} {es : List En} {E : XK} {i : Nat} {R : En → List Cell → Prop} (a : At W Hk0 H0 Γ Ω T σ H) (h : EvA ta Γ Ω es (Ω1 ++ Ω2)) (hs : S es Ω1 R) (hΩ : ∀ e Ω', R e Ω' → ∀ c ∈ Ω', c.a ∈ adr Ω1)
    (k : ∀ e Ω' σ' H', R e Ω' → At W Hk0 H0 (Γ.set i (some e)) (Ω' ++ Ω2) T σ' H' → tz D σ' H') : tSeq (tAsg (tCall (spW S) [] E ta) (gName i)) tz D σ H := s_setW (D := { D with nx := tz D }) a h hs hΩ k
/-- f([a, b, ..]): the list is lent to f, then forgotten -/
theorem ev_callL {S : SigM} {ta : TA} {es : List En} {E : XK} (h : EvA ta Γ Ω es Ω1) (hl : es.length ≤ 40000) (hs : ∀ p, ∃ Ω', S [en rVal (.ref p)] [lm p es] e Ω' ∧ ∀ c ∈ Ω', c.a = p) : Ev (tCall (spM S) [] E (tCons (tLst ta) tNil)) Γ Ω e Ω1 := fun W Hk0 H0 T σ H a Q q =>
  h W Hk0 H0 T σ H a _ fun vs H1 hlv ⟨Hk1, a1⟩ => ⟨by rw [← hlv]; exact Nat.le_trans hl (by decide), fun p hp => by
    have o : OkAll es vs Hk1 := .of_zip hlv fun z hz => a1.tp z (by simp [hz])
    have b : AtH W Hk0 H0 Γ ([lm p es] ++ Ω1) T σ Hk1 (upd H1 p (.lst vs)) := (a1.sub (T' := T) fun z hz => by simp [hz]).newCell (c := lm p es) (o := .lst vs) hp rfl ⟨vs, rfl, o⟩
    obtain ⟨Ω', hS, hc⟩ := hs p
    refine ⟨[en rVal (.ref p)], [lm p es], e, Ω', Hk1, hS, rfl, ⟨Hk1, { b.lend with tp := fun z hz => ?_ }⟩, b.gr.kh, fun v H' T' σ' ⟨Hk', z⟩ => ?_⟩
    · simp at hz
      subst hz
      exact rfl
    · have z' : AtH (adr [lm p es]) Hk1 (upd H1 p (.lst vs)) [] Ω' ((e, v) :: T') [] Hk' H' := { z with len := rfl, sl := fun i e q => by simp at q }
      have w := b.paid z' fun c hc' => by simp [adr, lm, hc c hc']
      have w2 : AtH W Hk0 H0 Γ Ω1 ((e, v) :: T' ++ T) σ Hk' H' := w.cells (by
        have := w.nd
        rw [List.map_append] at this
        exact (List.nodup_append.mp this).2.1) fun c hc => List.mem_append_right _ hc
      exact q v H' ⟨Hk', w2.sub fun y hy => by simp at hy ⊢; rcases hy with hy | hy <;> simp [hy]⟩⟩
end
section
variable {P : Program} {w : World} {K : PySem.W.Frag} {mg : Str → Option Value} {base : Heap}
theorem fun_okW {CX : CXT} {x qual : Str} {params : Arguments} {body : List Stmt} {scope : Scope} {dvs : List V} {kws : List (Str × V)} {f : Addr} {fd : FuncData} {N ps : List Str} {k : Nat} {S : SigW}
    (F : FunD K x qual params body scope dvs kws f fd) (sc : FnScope N ps scope) (hl : ∀ es Ω R, S es Ω R → es.length = ps.length)
    (hbody : ∀ (cdv : Value) (A : Around) (outer : List Env) (s : Shared) (H : Hp) (E : XK), Room k (A.deeper (envOfC qual scope s.heap.objs.size f cdv)) →
      ∃ t, PSs (cxOf CX P w K mg base N qual scope f cdv A outer s H E) body t ∧ ∀ (es : List En) (Ω : List Cell) (R : En → List Cell → Prop) (vs : List V) (Hk : Hp) (Q : VK), S es Ω R → At (adr Ω) Hk H (es.map some ++ List.replicate (N.length - es.length) none) Ω [] (L2.start N vs) H →
        (∀ e Ω', R e Ω' → Back (adr Ω) Hk H e Ω' Q) → t { nx := fun _ H' => Q .non H', rt := Q } (L2.start N vs) H) :
    FnOk P w K mg base CX (k + 1) f fd ps (spW S) := by
  refine F.ok sc (fun vs H Q E h => ?_) fun cdv A outer s H vs Q E hr h => ?_
  · obtain ⟨es, Ω, R, Hk, hs, h1, _⟩ := h
    rw [← h1, hl es Ω R hs]
  · obtain ⟨es, Ω, R, Hk, hs, h1, a, hk, q⟩ := h
    obtain ⟨t, hp, ht⟩ := hbody cdv A outer s H E hr
    have hN : es.length ≤ N.length := by
      rw [hl es Ω R hs]
      have := congrArg List.length sc.pre
      rw [List.length_take] at this
      omega
    exact ⟨t, hp, ht es Ω R vs Hk Q hs (at_startM a hk h1 hN) fun e Ω' hR v H' T σ a' => q e Ω' v H' T σ hR a'⟩
end
end KA

/-! what the laws draw -/
namespace KA
open PySem PySem.Spec PyProof.Rows L2
def cellAt (ns : List Int) (k : Int) : Int := ns.getD k.toNat 0
def primesV : List Int := [1000003, 1000033, 1000037, 1000039, 1000081, 1000099, 1000117, 1000121, 1000133, 1000151, 1000159, 1000171, 1000183, 1000187, 1000193, 1000199]
def drawV (cell k below : Int) : Int := (cell * 48271 + k * 69621) % primesV.getD (k % 16).toNat 1 % below
def numV (cell k below : Int) : Int := if 0 < (cell - 1000000000000000000) / 1009 ^ (k % 24).toNat then (cell - 1000000000000000000) / 1009 ^ (k % 24).toNat % 1009 % below else
  drawV ((cell % 1000003 + 977 * k) * (cell % 1000003 + 31 * k + 5)) (k % 9 + 1) 999983 % below
def nextV (ns : List Int) (y c below : Int) : Int := numV (cellAt ns (y + (c + 1) / 12) + 31 * ((c + 1) / 12)) ((c + 1) % 12 + 1) below
theorem numV_bd {cell k below : Int} (h : 0 < below) : 0 ≤ numV cell k below ∧ numV cell k below < below := by
  unfold numV
  split <;> exact ⟨Int.emod_nonneg _ (by omega), Int.emod_lt_of_pos _ h⟩
theorem nextV_bd {ns : List Int} {y c below : Int} (h : 0 < below) : 0 ≤ nextV ns y c below ∧ nextV ns y c below < below := numV_bd h
theorem prime_pos : ∀ n, n < 16 → 0 < primesV.getD n 1 := by decide
/-- where a law's draws stand -/
def stq (K : PySem.W.Frag) (p : Addr) (ns : List Int) (y c : Int) : Cell := lm p [en (rScr K) ns, en rInt y, en rInt c]
theorem pow_log (n : Nat) (h : n < 24) : CDivW 0 (1009 ^ n) := by
  have : ∀ n, n < 24 → CDivW 0 ((1009 : Int) ^ n) := by
    intro n h
    refine wide_div (b := 250) ?_ ?_ (by decide) (by decide)
    · exact Int.pow_pos (by decide)
    · rw [Int.natAbs_pow]
      calc (1009 : Int).natAbs ^ n ≤ 1024 ^ n := Nat.pow_le_pow_left (by decide) n
        _ ≤ 1024 ^ 24 := Nat.pow_le_pow_right (by decide) (by omega)
        _ < 2 ^ 250 := by decide
  exact this n h
end KA

namespace KA
open PySem PySem.Spec PyProof.Rows L2
open He (ga ma eqO eqO_ok ba)
section
variable {W : List Addr} {Hk0 H0 : Hp} {Γ Γ' : Ctx} {Ω Ω' Ω1 Ω2 Ω3 : List Cell} {T T' : Tm} {σ σ' : L2.St} {Hk H : Hp} {K : PySem.W.Frag}
variable {te ta tb td : TE} {tt tu : TT} {D : Ends} {e e1 e2 : En} {b b2 : Bool} {ts tz tbd : TS} {α β γ : Type} {A : Rp α} {B : Rp β} {C : Rp γ} {xs : List α} {n j : Nat}
/-- a law's row: period, length, start, cost -/
def rRow (K : PySem.W.Frag) : Rp Jb := ⟨fun j v H => (rTupL K rInt).r [j.per, j.dur, j.st, j.co] v H, fun {j v H H'} k h => (rTupL K rInt).mono k h⟩
theorem rv_row0 {r : Jb} : RvE (rIxT K) (en (rRow K) r) (en rInt 0) (en rInt r.per) := rv_ixT (K := K) (A := rInt) (xs := [r.per, r.dur, r.st, r.co]) (i := 0) (by decide) rfl
theorem rv_row1 {r : Jb} : RvE (rIxT K) (en (rRow K) r) (en rInt 1) (en rInt r.dur) := rv_ixT (K := K) (A := rInt) (xs := [r.per, r.dur, r.st, r.co]) (i := 1) (by decide) rfl
theorem rv_row2 {r : Jb} : RvE (rIxT K) (en (rRow K) r) (en rInt 2) (en rInt r.st) := rv_ixT (K := K) (A := rInt) (xs := [r.per, r.dur, r.st, r.co]) (i := 2) (by decide) rfl
theorem rv_row3 {r : Jb} : RvE (rIxT K) (en (rRow K) r) (en rInt 3) (en rInt r.co) := rv_ixT (K := K) (A := rInt) (xs := [r.per, r.dur, r.st, r.co]) (i := 3) (by decide) rfl
/-- four numbers that are a row's -/
theorem ev_row {ta : TA} {p l s c : Int} (r : Jb) (h : EvA ta Γ Ω [en rInt p, en rInt l, en rInt s, en rInt c] Ω1) (h1 : r.per = p) (h2 : r.dur = l) (h3 : r.st = s) (h4 : r.co = c) : Ev (tTup ta) Γ Ω (en (rRow K) r) Ω1 :=
  ev_to (ev_tupl (K := K) (A := rInt) [p, l, s, c] h rfl (by simp)) fun v H h => by
    subst h1 h2 h3 h4
    exact h
/-- d[nm] = e, where e's value changes other cells -/
theorem s_dputP {p : Addr} {i : Nat} {m : List (Str × α)} {nm : Str} {x : α} (a : At W Hk0 H0 Γ Ω T σ H) (hi : Γ[i]? = some (some (en rVal (.ref p)))) (hv : Ev te Γ Ω (en A x) Ω1) (hk : Ev ta Γ Ω1 (en rStr nm) Ω1)
    (sw : ∀ W Hk0 H0 T σ H, At W Hk0 H0 Γ Ω1 T σ H → At W Hk0 H0 Γ (dc A p m :: Ω2) T σ H) (hn : m.lookup nm = none) (hl : m.length ≤ 40000) (k : ∀ H', At W Hk0 H0 Γ (dc A p (m ++ [(nm, x)]) :: Ω2) T σ H' → D.nx σ H') : sDPut (tVar i) ta te D σ H :=
  hv W Hk0 H0 T σ H a _ fun v H1 a1 => by
    have a1' := a1
    obtain ⟨Hk1, a1⟩ := a1
    obtain ⟨u, h1, h2⟩ := a1.sl i _ hi
    refine ⟨u, h1, hk W Hk0 H0 _ σ H1 a1' _ fun y H2 a2 => ?_⟩
    obtain ⟨Hk2, a2⟩ := sw _ _ _ _ _ _ a2
    have hu : u = .ref p := h2
    subst hu
    have hy : y = .str nm := a2.tp (en rStr nm, y) (by simp)
    have hx : A.r x v Hk2 := a2.tp (en A x, v) (by simp)
    obtain ⟨_, ⟨o, g2, kvs, rfl, al⟩, _⟩ := a2.cl _ (List.mem_cons_self ..)
    obtain ⟨e1, e2⟩ := al.put hn hx
    refine ⟨p, _, rfl, .inl ⟨kvs, Sum.inr nm, g2, hy, ?_, rfl⟩, ?_⟩
    · rw [← al.len]; exact Evl.sz_lt (by omega)
    · rw [e1]
      exact k _ ⟨Hk2, (a2.sub (T' := T) fun z hz => by simp [hz]).write (c := dc A p m) (c' := dc A p (m ++ [(nm, x)])) rfl ⟨_, rfl, e2⟩⟩
/-- c ? x : y where both change cells -/
theorem ev_ifC {c : Bool} {Ωa Ωb : List Cell} {ea eb : En} (h : EvB tt Γ Ω c Ω1) (h1 : Ev ta Γ Ω1 ea Ωa) (h2 : Ev tb Γ Ω1 eb Ωb) (k1 : c = true → ea = e ∧ Ωa = Ω2) (k2 : c = false → eb = e ∧ Ωb = Ω2) : Ev (tIf tt ta tb) Γ Ω e Ω2 :=
  ev_if h (fun z => by obtain ⟨rfl, rfl⟩ := k1 z; exact h1) (fun z => by obtain ⟨rfl, rfl⟩ := k2 z; exact h2)
end
/-- the names of the laws' jobs -/
def nms4 : List Str := ["mail", "b", "log", "a"]
theorem nms4_ok : ∀ z ∈ nms4, isNm z = true := by decide
theorem nms4_nd : nms4.Nodup := by decide
theorem prodP_app {m : List (Str × Jb)} {z : Str} {j : Jb} : prodP (m ++ [(z, j)]) = prodP m * j.per := by
  unfold prodP
  simp [List.foldl_append]
theorem getD_all {P : Int → Prop} {xs : List Int} (h : ∀ x ∈ xs, P x) {n : Nat} (hn : n < xs.length) : P (xs.getD n 0) := by
  rw [List.getD_eq_getElem?_getD, List.getElem?_eq_getElem hn]
  exact h _ (List.getElem_mem hn)
def mkJ (p l s c : Int) (h : (1 ≤ p ∧ p ≤ 12) ∧ (1 ≤ l ∧ l ≤ p) ∧ (0 ≤ s ∧ s < p) ∧ (1 ≤ c ∧ c ≤ 9)) : Jb := ⟨p, l, s, c, h⟩
/-- of one drawn plan -/
structure DrI where
  c : Int
  rows : List (Str × Jb)
structure DrOk (most : Int) (n i : Nat) (u : DrI) : Prop where
  c0 : 0 ≤ u.c
  ks : u.rows.map (·.1) = (nms4.take n).take i
  p1 : 1 ≤ prodP u.rows
  p2 : prodP u.rows ≤ most
theorem DrOk.tb {most : Int} {n : Nat} {u : DrI} (h : DrOk most n n u) (hm : most ≤ 2000) (h1 : 1 ≤ n) (h4 : n ≤ 4) : TbOk u.rows := by
  have e := h.ks
  rw [List.take_take, Nat.min_self] at e
  have hl := congrArg List.length e
  rw [List.length_map, List.length_take, show nms4.length = 4 from rfl, Nat.min_eq_left h4] at hl
  refine ⟨by omega, by omega, ?_, fun p hp => ?_, by have := h.p2; omega⟩
  · rw [e]; exact List.Nodup.sublist (List.take_sublist _ _) nms4_nd
  · refine nms4_ok _ (List.mem_of_mem_take (i := n) ?_)
    rw [← e]
    exact List.mem_map_of_mem hp
end KA
namespace KA
open PySem PySem.Spec PyProof.Rows L2
section
variable {W : List Addr} {Hk0 H0 : Hp} {T : Tm} {σ : L2.St} {H : Hp} {tt : TT} {tbd tz : TS} {D : Ends}
theorem q_while {ι : Type} (Γs : ι → Ctx) (Ωs : ι → List Cell) (μ : ι → Nat) (c : ι → Bool) (i0 : ι) (a : At W Hk0 H0 (Γs i0) (Ωs i0) T σ H) (ht : ∀ i, EvB tt (Γs i) (Ωs i) (c i) (Ωs i))
    (hs : ∀ i σ' H', c i = true → At W Hk0 H0 (Γs i) (Ωs i) T σ' H' → tbd { D with nx := fun σ H => ∃ j, μ j < μ i ∧ At W Hk0 H0 (Γs j) (Ωs j) T σ H, ct := fun σ H => ∃ j, μ j < μ i ∧ At W Hk0 H0 (Γs j) (Ωs j) T σ H, bk := tz D } σ' H')
    (hd : ∀ i σ' H', c i = false → At W Hk0 H0 (Γs i) (Ωs i) T σ' H' → tz D σ' H') : tSeq (tWhile tt tbd) tz D σ H := s_while (D := { D with nx := tz D }) Γs Ωs μ c i0 a ht hs hd
end
abbrev Per : Type := { x : Int // 1 ≤ x ∧ x ≤ 12 }
theorem DrOk.fresh {most : Int} {n i : Nat} {u : DrI} (h : DrOk most n i u) (hi : i < (nms4.take n).length) : u.rows.lookup ((nms4.take n).getD i default) = none := lookup_no fun q hq e => by
  have h1 : q.1 ∈ (nms4.take n).take i := by rw [← h.ks]; exact List.mem_map_of_mem hq
  obtain ⟨k, hk, h2⟩ := List.getElem_of_mem h1
  have hk2 : k < i := by rw [List.length_take] at hk; omega
  have nd : (nms4.take n).Nodup := List.Nodup.sublist (List.take_sublist _ _) nms4_nd
  have h3 : (nms4.take n)[k]? = some q.1 := by
    rw [List.getElem_take] at h2
    rw [← h2]
    exact List.getElem?_eq_getElem (by omega)
  have := (List.getElem?_inj (by omega) nd).mp (h3.trans ((congrArg some e).trans (getD_at hi).symm))
  omega
theorem DrOk.step {most : Int} {n i : Nat} {u : DrI} (h : DrOk most n i u) (hi : i < (nms4.take n).length) (r : Jb) (c' : Int) (hc : 0 ≤ c') (hp : prodP u.rows * r.per ≤ most) : DrOk most n (i + 1) ⟨c', u.rows ++ [((nms4.take n).getD i default, r)]⟩ := by
  refine ⟨hc, ?_, ?_, by rw [prodP_app]; exact hp⟩
  · rw [List.map_append, h.ks]
    show _ ++ [(nms4.take n).getD i default] = _
    conv => rhs; rw [List.take_succ, getD_at hi]
    rfl
  · rw [prodP_app]
    have h1 := h.p1
    have h2 := r.ok.1.1
    have : 0 < prodP u.rows * r.per := Int.mul_pos (by omega) (by omega)
    omega
end KA

/-! when two jobs meet -/
namespace KA
open PySem
def crtC : Bool := (List.range 13).all fun p => (List.range 13).all fun q => (List.range q).all fun x => p == 0 || x % Nat.gcd p q != 0 || (List.range (Nat.lcm p q)).any fun t => t % p == 0 && t % q == x
theorem crtC_ok : crtC = true := by decide +kernel
theorem crt12 (p : Nat) (hp : p < 13) (q : Nat) (hq : q < 13) (x : Nat) (hx : x < q) (p0 : 0 < p) (h : x % Nat.gcd p q = 0) : ∃ t, t < Nat.lcm p q ∧ t % p = 0 ∧ t % q = x := by
  have c := List.all_eq_true.mp (List.all_eq_true.mp (List.all_eq_true.mp crtC_ok p (List.mem_range.mpr hp)) q (List.mem_range.mpr hq)) x (List.mem_range.mpr hx)
  have e1 : (p == 0) = false := beq_eq_false_iff_ne.mpr (by omega)
  rw [e1, h] at c
  simp at c
  obtain ⟨t, h1, h2, h3⟩ := c
  exact ⟨t, h1, h2, h3⟩
theorem per_nat (j : Jb) : ∃ p : Nat, j.per = (p : Int) ∧ 0 < p ∧ p < 13 ∧ j.per.natAbs = p := ⟨j.per.natAbs, by have := j.ok; omega, by have := j.ok; omega, by have := j.ok; omega, rfl⟩
theorem dvd_sub_emod {a d p : Int} (h : d ∣ p) : d ∣ a - a % p := by
  obtain ⟨k, hk⟩ := h
  have := Int.emod_add_mul_ediv a p
  refine ⟨k * (a / p), ?_⟩
  rw [← Int.mul_assoc, ← hk]
  omega
/-- a common divisor that keeps them apart -/
theorem keep_apart_never {i j : Jb} {d : Int} (hd : 0 < d) (h1 : d ∣ i.per) (h2 : d ∣ j.per) (k : keepA i j d = true) (t : Int) (a : runs i t = true) (b : runs j t = true) : False := by
  have k := of_decide_eq_true k
  have a := of_decide_eq_true a
  have b := of_decide_eq_true b
  have hi := i.ok
  have hj := j.ok
  have a0 := Int.emod_nonneg (t - i.st) (show i.per ≠ 0 by omega)
  have b0 := Int.emod_nonneg (t - j.st) (show j.per ≠ 0 by omega)
  obtain ⟨u, hu⟩ := dvd_sub_emod (a := t - i.st) h1
  obtain ⟨v, hv⟩ := dvd_sub_emod (a := t - j.st) h2
  obtain ⟨w, hw⟩ := dvd_sub_emod (a := j.st - i.st) (p := d) (Int.dvd_refl d)
  have e : (t - i.st) % i.per - (t - j.st) % j.per - (j.st - i.st) % d = d * (w - u + v) := by
    rw [Int.mul_add, Int.mul_sub, ← hu, ← hv, ← hw]
    omega
  have l1 : d * (w - u + v) < 0 := by omega
  have l2 : -d < d * (w - u + v) := by omega
  have l3 : w - u + v < 0 := by
    by_cases z : w - u + v < 0
    · exact z
    · have := Int.mul_nonneg (show 0 ≤ d by omega) (show 0 ≤ w - u + v by omega)
      omega
  have l4 : d * (w - u + v) ≤ d * (-1) := Int.mul_le_mul_of_nonneg_left (by omega) (by omega)
  omega
theorem emod_of {x b k p : Int} (h : x = b + p * k) (h0 : 0 ≤ b) (h1 : b < p) : x % p = b := by
  rw [h, Int.add_mul_emod_self_left]
  exact Int.emod_eq_of_lt h0 h1
theorem meet_some {i j : Jb} (k : apartJ i j = false) : ∃ t : Nat, meetJ i j t = true := by
  have hi := i.ok
  have hj := j.ok
  obtain ⟨p, ep, p0, p13, ap⟩ := per_nat i
  obtain ⟨q, eq, q0, q13, aq⟩ := per_nat j
  have k := of_decide_eq_false k
  unfold gcdJ at k
  rw [ap, aq] at k
  have hg : 0 < Nat.gcd p q := Nat.gcd_pos_of_pos_left _ p0
  generalize eg : Nat.gcd p q = g at k hg
  have gp : g ∣ p := eg ▸ Nat.gcd_dvd_left p q
  have gq : g ∣ q := eg ▸ Nat.gcd_dvd_right p q
  have D0 := Int.emod_nonneg (j.st - i.st) (show (g : Int) ≠ 0 by omega)
  have D1 := Int.emod_lt_of_pos (j.st - i.st) (show 0 < (g : Int) by omega)
  have : ∃ a b : Int, (0 ≤ a ∧ a < i.dur) ∧ (0 ≤ b ∧ b < j.dur) ∧ (g : Int) ∣ j.st + b - i.st - a := by
    obtain ⟨w, hw⟩ := dvd_sub_emod (a := j.st - i.st) (p := (g : Int)) (Int.dvd_refl _)
    by_cases z : (j.st - i.st) % (g : Int) < i.dur
    · exact ⟨(j.st - i.st) % (g : Int), 0, ⟨D0, z⟩, ⟨by omega, by omega⟩, w, by omega⟩
    · refine ⟨0, (g : Int) - (j.st - i.st) % (g : Int), ⟨by omega, by omega⟩, ⟨by omega, by omega⟩, w + 1, ?_⟩
      rw [Int.mul_add]
      omega
  obtain ⟨a, b, ha, hb, hd⟩ := this
  have x0 := Int.emod_nonneg (j.st + b - i.st - a) (show (q : Int) ≠ 0 by omega)
  have x1 := Int.emod_lt_of_pos (j.st + b - i.st - a) (show 0 < (q : Int) by omega)
  generalize ex : (j.st + b - i.st - a) % (q : Int) = x at x0 x1
  have hx : x.toNat % g = 0 := by
    have d2 : (g : Int) ∣ j.st + b - i.st - a - x := ex ▸ dvd_sub_emod (Int.natCast_dvd_natCast.mpr gq)
    have d3 : (g : Int) ∣ x := by
      have := Int.dvd_sub hd d2
      rwa [show j.st + b - i.st - a - (j.st + b - i.st - a - x) = x by omega] at this
    have d4 : (g : Int) ∣ (x.toNat : Int) := by rw [Int.toNat_of_nonneg x0]; exact d3
    exact Nat.mod_eq_zero_of_dvd (Int.natCast_dvd_natCast.mp d4)
  obtain ⟨t, t1, t2, t3⟩ := crt12 p p13 q q13 x.toNat (by omega) p0 (by rw [eg]; exact hx)
  refine ⟨t + i.st.toNat + a.toNat, ?_⟩
  have c1 : ((t + i.st.toNat + a.toNat : Nat) : Int) = (t : Int) + i.st + a := by omega
  unfold meetJ
  rw [Bool.and_eq_true]
  refine ⟨decide_eq_true ?_, decide_eq_true ?_⟩
  · rw [c1, ep]
    rw [emod_of (b := a) (k := ((t / p : Nat) : Int)) ?_ (by omega) (by omega)]
    · omega
    · have := Nat.div_add_mod t p
      rw [t2, Nat.add_zero] at this
      have : (t : Int) = (p : Int) * ((t / p : Nat) : Int) := by rw [← Int.natCast_mul, this]
      omega
  · rw [c1, eq]
    obtain ⟨w, hw⟩ := dvd_sub_emod (a := j.st + b - i.st - a) (p := (q : Int)) (Int.dvd_refl _)
    rw [ex] at hw
    rw [emod_of (b := b) (k := ((t / q : Nat) : Int) - w) ?_ (by omega) (by omega)]
    · omega
    · have := Nat.div_add_mod t q
      rw [t3] at this
      have : (t : Int) = (q : Int) * ((t / q : Nat) : Int) + x := by
        rw [← Int.natCast_mul]
        omega
      rw [Int.mul_sub]
      omega
theorem runs_add {j : Jb} {t : Int} {k : Int} : runs j (t + j.per * k) = runs j t := by
  unfold runs
  rw [show t + j.per * k - j.st = t - j.st + j.per * k by omega, Int.add_mul_emod_self_left]
theorem meet_mod {i j : Jb} (t : Nat) {L : Nat} (h1 : i.per.natAbs ∣ L) (h2 : j.per.natAbs ∣ L) : meetJ i j (t % L) = meetJ i j t := by
  have hi := i.ok
  have hj := j.ok
  have e : (t : Int) = ((t % L : Nat) : Int) + (L : Int) * ((t / L : Nat) : Int) := by
    have := Nat.mod_add_div t L
    rw [← Int.natCast_mul]
    omega
  obtain ⟨a, ha⟩ := h1
  obtain ⟨b, hb⟩ := h2
  have ea : (L : Int) = i.per * (a : Int) := by
    rw [ha, Int.natCast_mul]
    congr 1
    omega
  have eb : (L : Int) = j.per * (b : Int) := by
    rw [hb, Int.natCast_mul]
    congr 1
    omega
  unfold meetJ
  conv => rhs; rw [e]
  congr 1
  · rw [ea, Int.mul_assoc, runs_add]
  · rw [eb, Int.mul_assoc, runs_add]
theorem lcmJ_pos (i j : Jb) : 0 < lcmJ i j := by
  have hi := i.ok
  have hj := j.ok
  exact Nat.lcm_pos (by omega) (by omega)
theorem common_none (i j : Jb) : (commonT i j).isNone = apartJ i j := by
  cases k : apartJ i j with
  | false =>
    obtain ⟨t, ht⟩ := meet_some k
    rw [← meet_mod (L := lcmJ i j) t (Nat.dvd_lcm_left _ _) (Nat.dvd_lcm_right _ _)] at ht
    unfold commonT
    cases e : firstAt (meetJ i j) (lcmJ i j) with
    | none =>
      have := firstAt_none' e (t % lcmJ i j) (Nat.mod_lt _ (lcmJ_pos i j))
      rw [this] at ht
      cases ht
    | some x => rfl
  | true =>
    unfold commonT
    rw [firstAt_none]
    · rfl
    · intro t _
      cases m : meetJ i j t with
      | false => rfl
      | true =>
        unfold meetJ at m
        rw [Bool.and_eq_true] at m
        refine (keep_apart_never (d := gcdJ i j) (gcd_pos i j) ?_ ?_ k t m.1 m.2).elim
        · have := i.ok
          unfold gcdJ
          rw [show i.per = (i.per.natAbs : Int) by omega]
          exact Int.natCast_dvd_natCast.mpr (Nat.gcd_dvd_left _ _)
        · have := j.ok
          unfold gcdJ
          rw [show j.per = (j.per.natAbs : Int) by omega]
          exact Int.natCast_dvd_natCast.mpr (Nat.gcd_dvd_right _ _)
theorem common_comm (i j : Jb) : commonT j i = commonT i j := by
  unfold commonT lcmJ
  rw [Nat.lcm_comm]
  congr 1
  exact firstAt_ext fun t _ => by unfold meetJ; rw [Bool.and_comm]
theorem apart_comm (i j : Jb) : apartJ j i = apartJ i j := by rw [← common_none, ← common_none, common_comm]
/-- the first meeting below a greater multiple -/
theorem common_mul (i j : Jb) {n : Nat} (h1 : lcmJ i j ∣ n) (h0 : 0 < n) : (firstAt (meetJ i j) n).map Int.ofNat = commonT i j := by
  unfold commonT
  congr 1
  cases e : firstAt (meetJ i j) (lcmJ i j) with
  | some t =>
    obtain ⟨a, b, c⟩ := firstAt_spec e
    exact firstAt_some (Nat.lt_of_lt_of_le a (Nat.le_of_dvd h0 h1)) b c
  | none =>
    refine firstAt_none fun t _ => ?_
    rw [← meet_mod (L := lcmJ i j) t (Nat.dvd_lcm_left _ _) (Nat.dvd_lcm_right _ _)]
    exact firstAt_none' e _ (Nat.mod_lt _ (lcmJ_pos i j))
theorem lcm_dvd_mul (i j : Jb) : lcmJ i j ∣ (i.per * j.per).toNat := by
  have hi := i.ok
  have hj := j.ok
  have : (i.per * j.per).toNat = i.per.natAbs * j.per.natAbs := by
    have e1 : i.per = (i.per.natAbs : Int) := by omega
    have e2 : j.per = (j.per.natAbs : Int) := by omega
    generalize i.per.natAbs = a at *
    generalize j.per.natAbs = b at *
    rw [e1, e2, ← Int.natCast_mul, Int.toNat_natCast]
  rw [this]
  exact Nat.lcm_dvd_mul _ _
theorem reason_any (i j : Jb) : ((List.range 12).map fun (k : Nat) => reasonJ i j (1 + (k : Int)) ((j.st - i.st) % (1 + (k : Int)))).any id = apartJ i j := by
  have hi := i.ok
  have hj := j.ok
  cases k : apartJ i j with
  | true =>
    refine List.any_eq_true.mpr ⟨true, List.mem_map.mpr ⟨(gcdJ i j).toNat - 1, ?_, ?_⟩, rfl⟩
    · have := gcd_pos i j
      have h : Nat.gcd i.per.natAbs j.per.natAbs ≤ i.per.natAbs := Nat.le_of_dvd (by omega) (Nat.gcd_dvd_left _ _)
      exact List.mem_range.mpr (by unfold gcdJ; omega)
    · have g0 := gcd_pos i j
      have e : 1 + (((gcdJ i j).toNat - 1 : Nat) : Int) = gcdJ i j := by unfold gcdJ; omega
      rw [e]
      unfold reasonJ
      rw [show keepA i j (gcdJ i j) = true from k]
      have d1 : i.per % gcdJ i j = 0 := Int.emod_eq_zero_of_dvd (by
        unfold gcdJ
        have e : i.per = (i.per.natAbs : Int) := by omega
        conv => rhs; rw [e]
        exact Int.natCast_dvd_natCast.mpr (Nat.gcd_dvd_left _ _))
      have d2 : j.per % gcdJ i j = 0 := Int.emod_eq_zero_of_dvd (by
        unfold gcdJ
        have e : j.per = (j.per.natAbs : Int) := by omega
        conv => rhs; rw [e]
        exact Int.natCast_dvd_natCast.mpr (Nat.gcd_dvd_right _ _))
      rw [d1, d2]
      have : 1 ≤ gcdJ i j := g0
      simp [this]
  | false =>
    refine List.any_eq_false.mpr fun x hx z => ?_
    obtain ⟨k', hk, rfl⟩ := List.mem_map.mp hx
    have z : reasonJ i j (1 + (k' : Int)) ((j.st - i.st) % (1 + (k' : Int))) = true := z
    unfold reasonJ at z
    simp only [Bool.and_eq_true, decide_eq_true_eq] at z
    obtain ⟨t, ht⟩ := meet_some k
    unfold meetJ at ht
    rw [Bool.and_eq_true] at ht
    exact keep_apart_never (by omega) (Int.dvd_of_emod_eq_zero z.1.2.1) (Int.dvd_of_emod_eq_zero z.1.2.2) z.2.2 t ht.1 ht.2
end KA
namespace KA
open PySem
/-- every two of a list, the earlier first, of the first i -/
def pairsTo (zs : List Str) (i : Nat) : List (Str × Str) := (List.range i).flatMap fun k => (zs.drop (k + 1)).map fun o => (zs.getD k default, o)
def pairsV (zs : List Str) : List (Str × Str) := pairsTo zs zs.length
theorem pairsTo_succ (zs : List Str) (i : Nat) : pairsTo zs (i + 1) = pairsTo zs i ++ (zs.drop (i + 1)).map fun o => (zs.getD i default, o) := by
  unfold pairsTo
  rw [List.range_succ, List.flatMap_append]
  simp
theorem pairsTo_len (zs : List Str) (i : Nat) : (pairsTo zs i).length ≤ zs.length * i := by
  induction i with
  | zero => simp [pairsTo]
  | succ i ih =>
    rw [pairsTo_succ, List.length_append, List.length_map, List.length_drop, Nat.mul_succ]
    omega
theorem pairsV_mem {zs : List Str} {p : Str × Str} (h : p ∈ pairsV zs) : ∃ a b : Nat, zs[a]? = some p.1 ∧ zs[b]? = some p.2 ∧ a < b := by
  unfold pairsV pairsTo at h
  obtain ⟨k, hk, h⟩ := List.mem_flatMap.mp h
  obtain ⟨o, ho, rfl⟩ := List.mem_map.mp h
  obtain ⟨b, hb⟩ := List.mem_iff_getElem?.mp ho
  rw [List.getElem?_drop] at hb
  exact ⟨k, k + 1 + b, getD_at (List.mem_range.mp hk), hb, by omega⟩
theorem runs_law (j : Jb) (t : Int) : decide ((t + 12 * j.per - j.st) % j.per < j.dur) = runs j t := by
  unfold runs
  rw [show t + 12 * j.per - j.st = t - j.st + j.per * 12 by omega, Int.add_mul_emod_self_left]
theorem far_law (i j : Jb) (d : Int) : (j.st + 12 * d - i.st) % d = (j.st - i.st) % d := by
  rw [show j.st + 12 * d - i.st = j.st - i.st + d * 12 by omega, Int.add_mul_emod_self_left]
end KA

namespace KA
open PySem PySem.Spec PyProof.Rows L2
section
variable {W : List Addr} {Hk0 H0 : Hp} {Γ Γ' : Ctx} {Ω Ω' Ω1 Ω2 Ω3 : List Cell} {T T' : Tm} {σ σ' : L2.St} {Hk H : Hp} {K : PySem.W.Frag} {tt tu : TT} {c d : Bool} {D : Ends} {ts tu' tz tw : TS}
/-- the first n slots, the others forgotten -/
def keepC (n : Nat) (Γ : Ctx) : Ctx := Γ.take n ++ List.replicate (Γ.length - n) none
theorem At.keep (a : At W Hk0 H0 Γ Ω T σ H) (n : Nat) : At W Hk0 H0 (keepC n Γ) Ω T σ H := a.weak (by unfold keepC; rw [List.length_append, List.length_take, List.length_replicate]; omega) fun i e h => by
  unfold keepC at h
  by_cases z : i < (Γ.take n).length
  · rw [List.getElem?_append_left z] at h
    rw [List.length_take] at z
    rw [List.getElem?_take_of_lt (by omega)] at h
    exact h
  · rw [List.getElem?_append_right (by omega)] at h
    have := List.mem_replicate.mp (List.mem_of_getElem? h)
    cases this.2
theorem eb_andC (h1 : EvB tt Γ Ω c Ω1) (h2 : c = true → EvB tu Γ Ω1 d Ω2) (k1 : c = true → Ω2 = Ω3) (k2 : c = false → Ω1 = Ω3) : EvB (tAnd tt tu) Γ Ω (c && d) Ω3 := fun W Hk0 H0 T σ H a Q q =>
  h1 W Hk0 H0 T σ H a _ fun H' a' => by
    cases c with
    | true =>
      obtain rfl := k1 rfl
      exact h2 rfl W Hk0 H0 T σ H' a' Q q
    | false =>
      obtain rfl := k2 rfl
      exact q H' a'
/-- both branches lead to the same -/
theorem q_join (P : L2.St → Hp → Prop) (hz : ∀ σ H, P σ H → tz D σ H) (h : tu' { D with nx := P } σ H) (mono : ∀ D' : Ends, D'.rt = D.rt → (∀ σ H, P σ H → D'.nx σ H) → tu' { D with nx := P } σ H → tu' D' σ H) : tSeq tu' tz D σ H := mono { D with nx := tz D } rfl hz h
end
end KA
namespace KA
open PySem PySem.Spec PyProof.Rows L2
section
variable {W : List Addr} {Hk0 H0 : Hp} {Γ Γ' : Ctx} {Ω Ω' Ω1 Ω2 Ω3 : List Cell} {T T' : Tm} {σ σ' : L2.St} {Hk H : Hp} {K : PySem.W.Frag} {tt : TT} {b : Bool} {D : Ends} {tu tz tw : TS}
/-- an if whose branches both lead to what k takes -/
theorem q_ifJ {ι : Type} (Γj : ι → Ctx) (Ωj : ι → List Cell) (J : ι → Prop) (a : At W Hk0 H0 Γ Ω T σ H) (h : EvB tt Γ Ω b Ω1) (k : ∀ u, J u → ∀ σ H, At W Hk0 H0 (Γj u) (Ωj u) T σ H → tz D σ H)
    (h1 : (∀ u, J u → ∀ σ H, At W Hk0 H0 (Γj u) (Ωj u) T σ H → tz D σ H) → b = true → ∀ H', At W Hk0 H0 Γ Ω1 T σ H' → tu { D with nx := tz D } σ H')
    (h2 : (∀ u, J u → ∀ σ H, At W Hk0 H0 (Γj u) (Ωj u) T σ H → tz D σ H) → b = false → ∀ H', At W Hk0 H0 Γ Ω1 T σ H' → tw { D with nx := tz D } σ H') : tSeq (tIfS tt tu tw) tz D σ H := q_if a h (h1 k) (h2 k)
end
end KA
namespace KA
open PySem PySem.Spec PyProof.Rows L2
theorem rgc3 {hi : Int} (h : 1 ≤ hi ∧ hi ≤ 24) : RgC 0 hi 3 (Builtin.Range.rangeSize 0 hi 3).toNat := by
  have : ∀ n : Nat, n < 25 → 1 ≤ n → ((3 : Int) ≠ 0 ∧ (3 : Int).natAbs < 1073741824 ∧ Builtin.Range.small 0 (n : Int) 3 = true ∧ Builtin.Range.rangeSize 0 (n : Int) 3 = ((Builtin.Range.rangeSize 0 (n : Int) 3).toNat : Int)) := by decide
  have := this hi.toNat (by omega) (by omega)
  rw [Int.toNat_of_nonneg (by omega)] at this
  exact this
/-- a law: it takes the script, its answer is True -/
def S_lawV (K : PySem.W.Frag) : Sig := fun es res => ∃ ns : List Int, es = [en (rScr K) ns] ∧ res = en rBool true
theorem lawV_ok {K : PySem.W.Frag} {H : Hp} {a : Addr} {ns : List Int} (hS : SqL K H a (ns.map V.int)) {E : XK} : spS (S_lawV K) [.ref a] H (fun v _ => v = .bl true) E :=
  ⟨[en (rScr K) ns], en rBool true, H, ⟨ns, rfl, rfl⟩, Ex.refl H, ⟨⟨a, rfl, hS⟩, True.intro⟩, fun w Hk' H' g ok => ok⟩
end KA

/-! things that are compared item by item -/
namespace KA
open PySem PySem.Spec PyProof.Rows L2
variable {K : PySem.W.Frag} {α β : Type}
structure Dat (K : PySem.W.Frag) {α : Type} (A : Rp α) where
  enc : α → PyData
  good : α → Bool
  dep : Nat
  dp : ∀ {x : α} {v : V} {H : Hp}, A.r x v H → Dp K H v (enc x)
  lay : ∀ x, good x = true → (enc x).canLay0 = true
  dle : ∀ x, (enc x).depth ≤ dep
  inj : ∀ x y, PyData.eqv (enc x) (enc y) = true ↔ x = y
def datI : Dat K rInt := ⟨fun i => .int i, fun _ => true, 0, fun {x v H} h => by cases (show v = V.int x from h); exact .int x, fun _ _ => rfl, fun _ => Nat.le_refl _, fun x y => by simp [PyData.eqv]⟩
def datB : Dat K rBool := ⟨fun i => .bool i, fun _ => true, 0, fun {x v H} h => by cases (show v = V.bl x from h); exact .bl x, fun _ _ => rfl, fun _ => Nat.le_refl _, fun x y => by simp [PyData.eqv]⟩
def datS : Dat K rStr := ⟨fun i => .str i, fun z => (PyData.str z).canLay0, 0, fun {x v H} h => by cases (show v = V.str x from h); exact .str x, fun _ h => h, fun _ => Nat.le_refl _, fun x y => by simp [PyData.eqv]⟩
theorem dpAll_of (d : Dat K (A := A)) {H : Hp} : ∀ {xs : List α} {vs : List V}, Al A H xs vs → DpAll K H vs (xs.map d.enc)
  | _, _, .nil => .nil
  | _, _, .cons h t => .cons (d.dp h) (dpAll_of d t)
theorem layAll_of {A : Rp α} (d : Dat K A) : ∀ xs : List α, xs.all d.good = true → PyData.canLayAll0 (xs.map d.enc) = true
  | [], _ => rfl
  | x :: xs, h => by
    rw [List.all_cons, Bool.and_eq_true] at h
    simp only [List.map_cons, PyData.canLayAll0, Bool.and_eq_true]
    exact ⟨d.lay x h.1, layAll_of d xs h.2⟩
theorem depAll_of {A : Rp α} (d : Dat K A) : ∀ xs : List α, PyData.depthAll (xs.map d.enc) ≤ d.dep
  | [] => Nat.zero_le _
  | x :: xs => by
    simp only [List.map_cons, PyData.depthAll]
    exact Nat.max_le.mpr ⟨d.dle x, depAll_of d xs⟩
theorem eqAll_of {A : Rp α} (d : Dat K A) : ∀ xs ys : List α, PyData.eqvAll (xs.map d.enc) (ys.map d.enc) = true ↔ xs = ys
  | [], [] => by simp [PyData.eqvAll]
  | [], _ :: _ => by simp [PyData.eqvAll]
  | _ :: _, [] => by simp [PyData.eqvAll]
  | x :: xs, y :: ys => by
    simp only [List.map_cons, PyData.eqvAll, Bool.and_eq_true, List.cons.injEq]
    rw [d.inj, eqAll_of d xs ys]
def datL {A : Rp α} (d : Dat K A) : Dat K (rList A) := ⟨fun xs => .list (xs.map d.enc), fun xs => xs.all d.good, d.dep + 1, fun {x v H} h => by
    obtain ⟨a, vs, rfl, h1, h2⟩ := h
    exact .lst (Evl.sq_of h1) (dpAll_of d h2), fun xs h => layAll_of d xs h, fun xs => by simp only [PyData.depth]; exact Nat.succ_le_succ (depAll_of d xs), fun x y => by simp only [PyData.eqv]; exact eqAll_of d x y⟩
def datT {A : Rp α} (d : Dat K A) : Dat K (rTupL K A) := ⟨fun xs => .tuple (xs.map d.enc), fun xs => xs.all d.good, d.dep + 1, fun {x v H} h => by
    obtain ⟨a, vs, rfl, h1, h2⟩ := h
    exact .tup h1 (dpAll_of d h2), fun xs h => layAll_of d xs h, fun xs => by simp only [PyData.depth]; exact Nat.succ_le_succ (depAll_of d xs), fun x y => by simp only [PyData.eqv]; exact eqAll_of d x y⟩
def datP {A : Rp α} {B : Rp β} (d : Dat K A) (e : Dat K B) : Dat K (rPair K A B) := ⟨fun p => .tuple [d.enc p.1, e.enc p.2], fun p => d.good p.1 && e.good p.2, max d.dep e.dep + 1, fun {x v H} h => by
    obtain ⟨a, u, w, rfl, h1, h2, h3⟩ := h
    exact .tup h1 (.cons (d.dp h2) (.cons (e.dp h3) .nil)), fun p h => by
      rw [Bool.and_eq_true] at h
      simp only [PyData.canLay0, PyData.canLayAll0, Bool.and_eq_true]
      exact ⟨d.lay _ h.1, e.lay _ h.2, True.intro⟩, fun p => by
      simp only [PyData.depth, PyData.depthAll]
      have := d.dle p.1
      have := e.dle p.2
      omega, fun x y => by
      simp only [PyData.eqv, PyData.eqvAll, Bool.and_eq_true, Bool.and_true]
      rw [d.inj, e.inj]
      exact ⟨fun h => Prod.ext h.1 h.2, fun h => by subst h; exact ⟨rfl, rfl⟩⟩⟩
theorem rv_eqD {A : Rp α} [DecidableEq α] (d : Dat K A) {x y : α} (hx : d.good x = true) (hy : d.good y = true) (hd : d.dep ≤ 64 := by decide) : RvE (rEqD K) (en A x) (en A y) (en rBool (decide (x = y))) := fun Hk H u w k h1 h2 Q q => by
  have h1 : A.r x u H := A.mono k h1
  have h2 : A.r y w H := A.mono k h2
  refine ⟨d.enc x, d.enc y, d.dp h1, d.dp h2, ?_, ?_, q _ Hk H (.refl k) (show V.bl _ = V.bl _ from ?_)⟩
  · exact Bool.and_eq_true_iff.mpr ⟨d.lay x hx, decide_eq_true (Nat.le_trans (d.dle x) hd)⟩
  · exact Bool.and_eq_true_iff.mpr ⟨d.lay y hy, decide_eq_true (Nat.le_trans (d.dle y) hd)⟩
  · congr 1
    rw [Bool.eq_iff_iff, decide_eq_true_eq]
    exact d.inj x y
theorem rv_neD {A : Rp α} [DecidableEq α] (d : Dat K A) {x y : α} (hx : d.good x = true) (hy : d.good y = true) (hd : d.dep ≤ 64 := by decide) : RvE (rNeD K) (en A x) (en A y) (en rBool (!decide (x = y))) := fun Hk H u w k h1 h2 Q q => by
  have h1 : A.r x u H := A.mono k h1
  have h2 : A.r y w H := A.mono k h2
  refine ⟨d.enc x, d.enc y, d.dp h1, d.dp h2, ?_, ?_, q _ Hk H (.refl k) (show V.bl _ = V.bl _ from ?_)⟩
  · exact Bool.and_eq_true_iff.mpr ⟨d.lay x hx, decide_eq_true (Nat.le_trans (d.dle x) hd)⟩
  · exact Bool.and_eq_true_iff.mpr ⟨d.lay y hy, decide_eq_true (Nat.le_trans (d.dle y) hd)⟩
  · congr 2
    rw [Bool.eq_iff_iff, decide_eq_true_eq]
    exact d.inj x y
end KA

/-! zip of a list and a tuple -/
namespace KA
open PySem PySem.Spec PyProof.Rows L2
/-- the list at a and the tuple at b as they stand at each turn -/
def ItzM (K : PySem.W.Frag) (a b : Addr) : It where
  go := fun i H => ∃ (xs ys : List V) (x y : V), SqL K H a xs ∧ SqT K H b ys ∧ xs[i]? = some x ∧ ys[i]? = some y
  yld := fun i H v H' => ∃ p x y, v = .ref p ∧ H p = none ∧ H' = upd H p (.tup [x, y]) ∧ (∀ xs, SqL K H a xs → xs[i]? = some x) ∧ ∀ ys, SqT K H b ys → ys[i]? = some y
  stop := fun i H => ∃ xs ys : List V, SqL K H a xs ∧ SqT K H b ys ∧ (i ≤ xs.length ∧ i ≤ ys.length) ∧ (i = xs.length ∨ i = ys.length)
section
variable {P : Program} {w : World} {K : PySem.W.Frag}
theorem zm_mem {c z t1 t2 j1 j2 : Addr} (h : c ∈ [z, t1, t2, j1, j2]) : c = z ∨ c = t1 ∨ c = t2 ∨ c = j1 ∨ c = j2 := by simpa using h
theorem turn_zipM {elts : List Expr} {kk : Nat} {tpos : Pos} {a b z t1 t2 j1 j2 : Addr} (S : ZipSep2 z t1 t2 j1 j2 [j1, a] [j2, b]) (na : a ≠ j1) (nb : b ≠ j2) :
    Turn P w K (.Tuple elts kk tpos) (ItzM K a b) [z, t1, t2, j1, j2] z (fun i g => IsZip g z t1 t2 .none ∧ IsTupOf2 g t1 (.ref j1) (.ref j2) ∧ (∃ u v, IsTupOf2 g t2 u v) ∧ g.IsListIter j1 a i ∧ g.IsTupleIter j2 b i) where
  mem := List.mem_cons_self ..
  obj := fun i g st c hc => by
    obtain ⟨s1, s2, ⟨u, v, s3⟩, ⟨o4, f4, _, d4⟩, ⟨o5, f5, _, d5⟩⟩ := st
    rcases zm_mem hc with rfl | rfl | rfl | rfl | rfl
    · exact ⟨_, s1, fun _ q => nomatch q⟩
    · exact ⟨_, s2, fun _ q => nomatch q⟩
    · exact ⟨_, s3, fun _ q => nomatch q⟩
    · exact ⟨o4, f4, fun _ q => by rw [d4] at q; cases q⟩
    · exact ⟨o5, f5, fun _ q => by rw [d5] at q; cases q⟩
  keep := fun i g g' st k => by
    obtain ⟨s1, s2, ⟨u, v, s3⟩, s4, s5⟩ := st
    exact ⟨k z (by simp) _ s1, k t1 (by simp) _ s2, ⟨u, v, k t2 (by simp) _ s3⟩, s4.at (k j1 (by simp)), s5.at (k j2 (by simp))⟩
  item := by
    intro X e1 e2 e3 calm i pins s σ H E I fp st hg
    subst e1 e2 e3
    obtain ⟨s1, s2, ⟨u0, v0, s3⟩, s4, s5⟩ := st
    obtain ⟨xs, ys, x, y, qa, qb, gx, gy⟩ := hg
    obtain ⟨us, ru, pa, _⟩ := I.list qa
    obtain ⟨ws, rw', pb, _⟩ := I.tuple qb
    obtain ⟨u, gu, rx⟩ := ru.get gx
    obtain ⟨v, gv, ry⟩ := rw'.get gy
    have hh : X.A.in1.handled = none := I.ok.hd calm
    have lz : z < s.heap.objs.size := Heap.lt_size s1
    have D1 := Draws.list (prog := X.prog) (w := X.w) (A := X.A.in1) hh j1 a na us.toArray
    have D2 := Draws.tuple (prog := X.prog) (w := X.w) (A := X.A.in1) hh j2 b nb ws.toArray
    have l1 : i < us.toArray.size := by rw [List.size_toArray]; exact (List.getElem?_eq_some_iff.mp gu).1
    have l2 : i < ws.toArray.size := by rw [List.size_toArray]; exact (List.getElem?_eq_some_iff.mp gv).1
    refine wpAny_pyNext_zipD2_item S D1 D2 s1 s2 s3 ⟨s4, pa.isList⟩ ⟨s5, pb⟩ l1 l2 fun x1 x2 g tk y1 y2 c1 c2 d1 d2 c5 _ c7 => ?_
    obtain rfl : u = x1 := by simpa [gu] using y1
    obtain rfl : v = x2 := by simpa [gv] using y2
    refine ⟨_, rfl, wpAny_letOwnedTupleGo_zip (s := { s with heap := g, toks := tk }) c1 fun g2 c8 sb => ?_⟩
    have q5 : g2.get? s.heap.objs.size = some { cls := .type "tuple", data := .seq #[u, v] } := (sb.2 _ (Nat.ne_of_gt lz)).trans c5
    have stays : ∀ c o, c ∉ [z, t1, t2, j1, j2] → s.heap.get? c = some o → g2.get? c = some o := fun c o n q => by
      simp at n
      exact (sb.2 c n.1).trans (c7 c o n.1 n.2.2.1 n.2.2.2.1 n.2.2.2.2 q)
    have fresh : ObjOk X.prog X.w (upd H s.heap.objs.size (.tup [x, y])) g2 s.heap.objs.size (.tup [x, y]) :=
      ⟨(by decide : (2 : Nat) ≤ sizeLine), [u, v], .cons rx (.cons ry .nil), ⟨_, q5, rfl, _, rfl⟩⟩
    have J := I.turnedNew (t' := tk) stays fp (Nat.le_refl _) fresh
    refine ⟨.ref s.heap.objs.size, _, J, rfl, ⟨_, x, y, rfl, I.hok.fresh (Nat.le_refl _), rfl, fun l hl => (I.list_inj hl qa) ▸ gx, fun l hl => (I.tuple_inj hl qb) ▸ gy⟩, ⟨c8, ?_, ⟨u, v, ?_⟩, ?_, ?_⟩, fun c hc => ?_⟩
    · exact (sb.2 _ S.TIz).trans (c7 _ _ S.TIz S.TITO S.TIi1 S.TIi2 s2)
    · exact (sb.2 _ S.TOz).trans c2
    · exact d1.1.at fun o q => (sb.2 _ S.zi1.symm).trans q
    · exact d2.1.at fun o q => (sb.2 _ S.zi2.symm).trans q
    · have lc : c < s.heap.objs.size := by
        obtain ⟨_, f4, _⟩ := s4
        obtain ⟨_, f5, _⟩ := s5
        rcases zm_mem hc with rfl | rfl | rfl | rfl | rfl
        · exact lz
        · exact Heap.lt_size s2
        · exact Heap.lt_size s3
        · exact Heap.lt_size f4
        · exact Heap.lt_size f5
      rw [upd_ne (Nat.ne_of_lt lc)]
      exact (fp c hc).1
  done := by
    intro X e1 e2 e3 calm i pins s σ H E I fp st hg
    subst e1 e2 e3
    obtain ⟨s1, s2, ⟨u0, v0, s3⟩, s4, s5⟩ := st
    obtain ⟨xs, ys, qa, qb, ⟨le1, le2⟩, hend⟩ := hg
    obtain ⟨us, ru, pa, _⟩ := I.list qa
    obtain ⟨ws, rw', pb, _⟩ := I.tuple qb
    have hh : X.A.in1.handled = none := I.ok.hd calm
    have k1 : xs.length = us.toArray.size := by rw [List.size_toArray]; exact ru.length
    have k2 : ys.length = ws.toArray.size := by rw [List.size_toArray]; exact rw'.length
    refine wpAny_pyNext_zipD2_end S (Draws.list hh j1 a na us.toArray) (Draws.tuple hh j2 b nb ws.toArray) s1 s2 s3 ⟨s4, pa.isList⟩ ⟨s5, pb⟩ (k1 ▸ le1) (k2 ▸ le2) (by rw [← k1, ← k2]; exact hend) fun g tk c7 => ⟨rfl, I.turnedL (t' := tk) (ch := [z, t1, t2, j1, j2]) (fun c o n q => ?_) fp⟩
    simp at n
    exact c7 c o n.1 n.2.2.1 n.2.2.2.1 n.2.2.2.2 q
  self := fun A i s Q E st h => wpAny_pyIter_zip st.1 h
end
end KA
namespace KA
open PySem PySem.Spec PyProof.Rows L2
theorem nq {x y : Nat} (h : ¬ x = y) : x ≠ y := h
theorem zm_le (n c : Nat) (h : c ∈ [n + 4, n + 2, n + 3, n, n + 1]) : n ≤ c := by simp at h; omega
theorem two_no {x p q : Nat} (h1 : x ≠ p) (h2 : x ≠ q) : x ∉ ([p, q] : List Addr) := fun h => by
  rcases List.mem_cons.mp h with h | h
  · exact h1 h
  · exact h2 (List.mem_singleton.mp h)
theorem zm_sep (n a b : Nat) (la : a < n) (lb : b < n) : ZipSep2 (n + 4) (n + 2) (n + 3) n (n + 1) [n, a] [n + 1, b] where
  TIz := nq (by omega)
  TOz := nq (by omega)
  TITO := nq (by omega)
  TIi1 := nq (by omega)
  mem1 := List.mem_cons_self ..
  zf1 := two_no (nq (by omega)) (nq (by omega))
  Tf1 := two_no (nq (by omega)) (nq (by omega))
  TIi2 := nq (by omega)
  mem2 := List.mem_cons_self ..
  zf2 := two_no (nq (by omega)) (nq (by omega))
  Tf2 := two_no (nq (by omega)) (nq (by omega))
  sep1_2 := two_no (nq (by omega)) (nq (by omega))
  sep2_1 := two_no (nq (by omega)) (nq (by omega))
/-- zip(xs, t): a list and a tuple -/
def iZipM (K : PySem.W.Frag) (ta : TA) : TI := fun σ H R => ta σ H fun vs H1 => ∃ a b xs ys, vs = [.ref a, .ref b] ∧ SqL K H1 a xs ∧ SqT K H1 b ys ∧ R (ItzM K a b) H1
theorem pi_zipM {X : Cx} {e e2 : Expr} {ta : TA} {p pos tpos : Pos} {elts : List Expr} {kk : Nat} (hg : Gl X "zip") (hm : X.mg "zip" = none) (ha : PA X [e, e2] ta)
    (hs : starEach [e, e2] X.env = (false, eval e X.env) :: starEach [e2] X.env := by rfl) (hpl : (backTo pos (starEach [e2] X.env)).any (·.1) = false := by rfl) : PI X (.Tuple elts kk tpos) (.Call (.Name "zip" p) [e, e2] [] pos) (iZipM X.K ta) := by
  refine ⟨fun pins s σ H R I h => Call_ (ld_blt I hg hm PyProof.Rows.boot_zip (PyProof.Rows.callWith_type1 (thn (ha.run pos pins s σ H _ I h) fun us s1 ⟨vs, H1, J, rv, q⟩ => ?_) hs hpl))⟩
  obtain ⟨a, b, xs, ys, rfl, qa, qb, q⟩ := q
  cases rv with
  | cons r rr =>
    cases rr with
    | cons r2 rr =>
      cases rr
      cases r
      cases r2
      obtain ⟨us, ru, pa, _⟩ := J.list qa
      obtain ⟨ws, rw', pb, _⟩ := J.tuple qb
      have la : a < s1.heap.objs.size := pa.lt
      have lb : b < s1.heap.objs.size := by obtain ⟨o, h, _⟩ := id pb; exact Heap.lt_size h
      refine zip_begins2 (begins_list a us.toArray) (begins_tuple b ws.toArray) pa.isList (show s1.heap.IsTuple b ws.toArray from pb) fun g c1 c2 c3 c4 c5 _ c7 => wpAny_pyIter_zip c1 ?_
      have J2 : Inv X pins σ H1 { s1 with heap := g } := J.kept (t' := s1.toks) c7
      have S := zm_sep s1.heap.objs.size a b la lb
      refine ⟨s1.heap.objs.size + 4, [s1.heap.objs.size + 4, s1.heap.objs.size + 2, s1.heap.objs.size + 3, s1.heap.objs.size, s1.heap.objs.size + 1], _, _, H1, rfl, J2, turn_zipM S (Nat.ne_of_lt la) (Nat.ne_of_lt (Nat.lt_of_lt_of_le lb (Nat.le_add_right _ _))), ⟨c1, c2, ⟨_, _, c3⟩, ⟨_, c4, rfl, rfl⟩, ⟨_, c5, rfl, rfl⟩⟩, fun c hc => ?_, q⟩
      have le : s1.heap.objs.size ≤ c := zm_le _ _ hc
      exact J.fpOk le (J.hok.fresh le)
end KA
namespace KA
open PySem PySem.Spec PyProof.Rows L2
section
variable {W : List Addr} {Hk0 H0 : Hp} {Γ : Ctx} {Ω Ω1 : List Cell} {K : PySem.W.Frag} {α β : Type} {A : Rp α} {B : Rp β} {Bs : List Addr → Hp → Hp → L2.St → Prop}
theorem walk_zipM {a b : Addr} {vs ws : List V} (hl : vs.length = ws.length) : Walk (ItzM K a b) vs.length (fun H => SqL K H a vs ∧ SqT K H b ws) (fun i H v H' => ∃ p x y, v = .ref p ∧ H p = none ∧ H' = upd H p (.tup [x, y]) ∧ vs[i]? = some x ∧ ws[i]? = some y) :=
  ⟨fun i H hi q => ⟨vs, ws, vs[i], ws[i]'(by omega), q.1, q.2, List.getElem?_eq_getElem hi, List.getElem?_eq_getElem (by omega)⟩, fun H q => ⟨vs, ws, q.1, q.2, ⟨Nat.le_refl _, by omega⟩, .inl rfl⟩, fun i H x H' hi q y => by
    obtain ⟨p, u, v, h1, h2, h3, h4, h5⟩ := y
    exact ⟨p, u, v, h1, h2, h3, h4 _ q.1, h5 _ q.2⟩⟩
theorem ei_zipM {ta : TA} {xs : List α} {ys : List β} [Inhabited α] [Inhabited β] (h : EvA ta Γ Ω [en (rList A) xs, en (rTupL K B) ys] Ω1) (hl : xs.length = ys.length) : EvI Bs (iZipM K ta) Γ Ω xs.length (fun i => en (rPair K A B) (xs.getD i default, ys.getD i default)) Ω1 := fun W Hk0 H0 T σ H _ a R q =>
  h W Hk0 H0 T σ H a _ fun us H1 hlv a1 => by
    obtain ⟨Hk1, a1⟩ := a1
    match us, hlv with
    | [u, v], _ =>
      obtain ⟨p, vs, rfl, hp, al⟩ := (show (rList A).r xs u Hk1 from a1.tp (en (rList A) xs, u) (by simp))
      obtain ⟨p2, ws, rfl, hp2, al2⟩ := (show (rTupL K B).r ys v Hk1 from a1.tp (en (rTupL K B) ys, v) (by simp))
      have l1 := al.len
      have l2 := al2.len
      have wk := walk_zipM (K := K) (a := p) (b := p2) (vs := vs) (ws := ws) (by omega)
      rw [← l1] at wk
      have m : ∀ H H', Ex H H' → ((H p = some (.lst vs) ∧ Al A H xs vs) ∧ SqT K H p2 ws ∧ Al B H ys ws) → ((H' p = some (.lst vs) ∧ Al A H' xs vs) ∧ SqT K H' p2 ws ∧ Al B H' ys ws) := fun H H' k h => ⟨⟨k.lst h.1.1, h.1.2.mono k⟩, ex_t k h.2.1, h.2.2.mono k⟩
      refine ⟨p, p2, vs, ws, rfl, Evl.sq_of (a1.gr.kh.lst hp), ex_t a1.gr.kh hp2, q (ItzM K p p2) [fct _ m] H1 ⟨Hk1, (a1.sub (T' := T) fun z hz => by simp [hz]).fct m ⟨⟨hp, al⟩, hp2, al2⟩⟩ (.of m wk (fun Hk H t k => ⟨Evl.sq_of (k.lst t.1.1), ex_t k t.2.1⟩) fun i Hk H x H' hi t k y => ?_)⟩
      obtain ⟨r, u, v, rfl, hn, rfl, g1, g2⟩ := y
      obtain ⟨x', k1, k2⟩ := t.1.2.back g1
      obtain ⟨y', k3, k4⟩ := t.2.2.back g2
      have e1 : xs.getD i default = x' := by rw [List.getD_eq_getElem?_getD, k1]; rfl
      have e2 : ys.getD i default = y' := by rw [List.getD_eq_getElem?_getD, k3]; rfl
      show ∃ Hk', _ ∧ En.ok (en (rPair K A B) (xs.getD i default, ys.getD i default)) _ _
      rw [e1, e2]
      exact pair_new (K := K) (A := A) (B := B) k hn k2 k4
end
end KA

/-! shifts -/
namespace KA
open PySem PySem.Spec PyProof.Rows L2
section
variable {W : List Addr} {Hk0 H0 : Hp} {Γ : Ctx} {Ω Ω1 : List Cell} {T : Tm} {σ : L2.St} {H : Hp} {K : PySem.W.Frag} {α β : Type} {A : Rp α}
theorem ii_tupl {xs : List α} : RcE (rIsi K) [en (rTupL K A) xs, en rVal (.ty "tuple")] (en rBool true) := rc_isi (.ty _) (fun v H h => by
  obtain ⟨p, vs, rfl, h, _⟩ := h
  exact sqT_ty h) (kit_ty (by decide +kernel))
/-- a slot's timetable is one -/
theorem At.tab (a : At W Hk0 H0 Γ Ω T σ H) (i : Nat) {m : List (Str × Jb)} (h : Γ[i]? = some (some (en (rTab K) m)) := by rfl) : TbOk m := by
  obtain ⟨Hk, a⟩ := a
  obtain ⟨v, _, h2⟩ := a.sl i _ h
  exact h2.1
end
/-- shifts of a timetable -/
def ShOk (m : List (Str × Jb)) (xs : List Int) : Prop := xs.length = m.length ∧ ∀ i, i < m.length → 0 ≤ xs.getD i default ∧ xs.getD i default ≤ (m.getD i default).2.per - 1
def shiftT (m : List (Str × Jb)) (xs : List Int) : List (Str × Jb) := (List.range m.length).map fun i => ((m.getD i default).1, (m.getD i default).2.shift (xs.getD i default))
def priceT (m : List (Str × Jb)) (xs : List Int) : Int := ((List.range m.length).map fun i => (m.getD i default).2.co * xs.getD i default).sum
theorem names_getD (m : List (Str × Jb)) {i : Nat} (h : i < m.length) : (m.map (·.1)).getD i default = (m.getD i default).1 := by
  rw [List.getD_eq_getElem?_getD, List.getElem?_map, getD_at h]
  rfl
theorem shiftT_names (m : List (Str × Jb)) (xs : List Int) : (shiftT m xs).map (·.1) = m.map (·.1) := by
  unfold shiftT
  rw [List.map_map]
  exact range_getD (fun p : Str × Jb => p.1) m
theorem shiftT_pers (m : List (Str × Jb)) (xs : List Int) : (shiftT m xs).map (fun p => p.2.per) = m.map fun p => p.2.per := by
  unfold shiftT
  rw [List.map_map]
  exact range_getD (fun p : Str × Jb => p.2.per) m
theorem prodP_pers : ∀ (m : List (Str × Jb)) (k : Int), m.foldl (fun p r => p * r.2.per) k = (m.map fun p => p.2.per).foldl (fun p x => p * x) k
  | [], _ => rfl
  | _ :: m, k => prodP_pers m _
theorem shiftT_len (m : List (Str × Jb)) (xs : List Int) : (shiftT m xs).length = m.length := by simp [shiftT]
theorem shiftT_ok {m : List (Str × Jb)} {xs : List Int} (h : TbOk m) : TbOk (shiftT m xs) := by
  refine ⟨by rw [shiftT_len]; exact h.n1, by rw [shiftT_len]; exact h.n4, by rw [shiftT_names]; exact h.nd, fun p hp => ?_, ?_⟩
  · have : p.1 ∈ m.map (·.1) := by rw [← shiftT_names m xs]; exact List.mem_map_of_mem hp
    obtain ⟨q, hq, e⟩ := List.mem_map.mp this
    rw [← e]
    exact h.nm q hq
  · have := h.pr
    unfold prodP at this ⊢
    rw [prodP_pers, shiftT_pers, ← prodP_pers]
    exact this
end KA
namespace KA
open PySem PySem.Spec PyProof.Rows L2
theorem pg_tupK {X : Cx} {K : PySem.W.Frag} {es : List Expr} {k n : Nat} {pos : Pos} {t : TGs} (hK : X.K = K) (hc : X.calm = true) (h : PGs X es t) (hn : (assignEach es X.env).length = n := by rfl) (hst : (assignEach es X.env).findIdx? (·.1) = none := by rfl) : PG X (.Tuple es k pos) (gTup K n t) := hK ▸ pg_tup hc h hn hst
end KA
namespace KA
open PySem PySem.Spec PyProof.Rows L2
theorem jb_eq (i j : Jb) : (decide (i.per = j.per) && (decide (i.dur = j.dur) && (decide (i.st = j.st) && decide (i.co = j.co)))) = decide (i = j) := by
  rw [Bool.eq_iff_iff]
  simp only [Bool.and_eq_true, decide_eq_true_eq]
  exact ⟨fun h => Jb.ext' h.1 h.2.1 h.2.2.1 h.2.2.2, fun h => by subst h; exact ⟨rfl, rfl, rfl, rfl⟩⟩
/-- all the jobs a step later -/
def laterT (m : List (Str × Jb)) (x : Int) : List (Str × Jb) := m.map fun p => (p.1, p.2.shift x)
theorem laterT_ok {m : List (Str × Jb)} {x : Int} (h : TbOk m) : TbOk (laterT m x) := by
  have e : (laterT m x).map (·.1) = m.map (·.1) := by unfold laterT; rw [List.map_map]; rfl
  have e2 : (laterT m x).map (fun p => p.2.per) = m.map fun p => p.2.per := by unfold laterT; rw [List.map_map]; rfl
  have el : (laterT m x).length = m.length := by unfold laterT; rw [List.length_map]
  refine ⟨by rw [el]; exact h.n1, by rw [el]; exact h.n4, by rw [e]; exact h.nd, fun p hp => ?_, ?_⟩
  · have : p.1 ∈ m.map (·.1) := by rw [← e]; exact List.mem_map_of_mem hp
    obtain ⟨q, hq, e⟩ := List.mem_map.mp this
    rw [← e]
    exact h.nm q hq
  · have := h.pr
    unfold prodP at this ⊢
    rw [prodP_pers, e2, ← prodP_pers]
    exact this
/-- the names of the jobs that run at t -/
def runAt (m : List (Str × Jb)) (t : Int) : List Str := (m.filter fun p => runs p.2 t).map (·.1)
end KA

/-! comprehensions with two clauses -/
namespace KA
open PySem PySem.Spec PyProof.Rows L2
def flatN {β : Type} (n1 : Nat → Nat) (v : Nat → Nat → β) (n : Nat) : List β := (List.range n).flatMap fun i => (List.range (n1 i)).map (v i)
theorem flatN_succ {β : Type} (n1 : Nat → Nat) (v : Nat → Nat → β) (n : Nat) : flatN n1 v (n + 1) = flatN n1 v n ++ (List.range (n1 n)).map (v n) := by
  unfold flatN
  rw [List.range_succ, List.flatMap_append]
  simp
section
variable {W : List Addr} {Hk0 H0 : Hp} {Γ Γ' : Ctx} {Ω Ω1 : List Cell} {T T' : Tm} {σ : L2.St} {Hk H : Hp}
variable {te : TE} {β : Type} {B : Rp β} {wi wi1 : TI} {n : Nat} {es : Nat → En} {g g1 : TG}
theorem At.rewipe {vs : List Nat} {Ω' : List Cell} {σ' : L2.St} {Γ' : Ctx} {H' : Hp} {Tx : Tm} (hlen : σ.length = Γ.length) (hsl : ∀ (i : Nat) (e : En), Γ[i]? = some (some e) → ∃ v, σ[i]? = some (some v) ∧ (e, v) ∈ Tx) (z : At W Hk0 H0 Γ' Ω' Tx σ' H') : At W Hk0 H0 (wipeC Γ vs) Ω' Tx (wipe σ vs) H' :=
  z.reslot (by rw [wipe_length, wipeC_len]; exact hlen) fun i e q => by
    obtain ⟨h1, h2⟩ := wipeC_in q
    obtain ⟨u, h3, h4⟩ := hsl i e h1
    exact ⟨u, by rw [wipe_at h2]; exact h3, h4⟩
theorem ev_lc2 {vs vs1 : List Nat} (Γs : Nat → Ctx) (Γt : Nat → Nat → Ctx) (n1 : Nat → Nat) (es1 : Nat → Nat → En) (v : Nat → Nat → β) (h : EvI Any wi Γ Ω n es Ω1) (hsz : ∀ i j, i < n → j ≤ n1 i → (flatN n1 v i).length + j ≤ 40000)
    (hg : ∀ i, i < n → TgE g (wipeC Γ vs) (es i) (Γs i) vs) (hi1 : ∀ i Ω, i < n → EvI Any wi1 (Γs i) Ω (n1 i) (es1 i) Ω) (hg1 : ∀ i j, i < n → j < n1 i → TgE g1 (wipeC (Γs i) vs1) (es1 i j) (Γt i j) vs1)
    (he : ∀ i j Ω, i < n → j < n1 i → Ev te (Γt i j) Ω (en B (v i j)) Ω) : Ev (tLc2 wi g tYes wi1 g1 tYes te vs vs1) Γ Ω (en (rList B) (flatN n1 v n)) Ω1 := fun W Hk0 H0 T σ H a Q q =>
  h W Hk0 H0 T σ H True.intro a _ fun J T' H1 ⟨Hk1, a1⟩ ⟨G, Y, w, hGk, hY⟩ Dl hD => by
    have hsl := a1.sl
    have hlen := a1.len
    have hnw : Dl ∉ W := At.notW ⟨Hk1, a1⟩ hD
    have inn : ∀ (i : Nat) (e : En), Γ[i]? = some (some e) → ∃ v, σ[i]? = some (some v) ∧ (e, v) ∈ T' ++ (slT Γ σ ++ T) := fun i e q => by
      obtain ⟨u, h3, h4⟩ := slT_in hsl i e q
      exact ⟨u, h3, by simp [h4]⟩
    have start : At W Hk0 H0 (wipeC Γ vs) (lc B Dl (flatN n1 v 0) :: Ω1) (T' ++ (slT Γ σ ++ T)) (wipe σ vs) (upd H1 Dl (.lst [])) := by
      refine ⟨Hk1, AtH.newCell (c := lc B Dl (flatN n1 v 0)) ?_ hD rfl ⟨[], rfl, .nil⟩⟩
      refine { a1.wipe vs with tp := fun p hp => ?_ }
      simp at hp
      rcases hp with hp | hp | hp
      · exact a1.tp p (by simp [hp])
      · exact slT_ok hlen hsl p hp
      · exact a1.tp p (by simp [hp])
    refine ⟨fun i m H' => m = n - i ∧ i ≤ n ∧ At W Hk0 H0 (wipeC Γ vs) (lc B Dl (flatN n1 v i) :: Ω1) (T' ++ (slT Γ σ ++ T)) (wipe σ vs) H', ⟨n, by simp, Nat.zero_le _, start⟩, ?_⟩
    rintro i m H2 ⟨rfl, hi, p⟩
    have hG : G H2 := by
      obtain ⟨Hk', a'⟩ := p
      exact hGk Hk' H2 (fun p hp => a'.tp p (by simp [hp])) a'.gr.kh a'.gr.hh
    by_cases hlt : i < n
    · refine .inr ⟨w.goes i H2 hlt hG, fun H' => At W Hk0 H0 (wipeC Γ vs) (lc B Dl (flatN n1 v (i + 1)) :: Ω1) (T' ++ (slT Γ σ ++ T)) (wipe σ vs) H', fun H' p' => ⟨n - (i + 1), by omega, rfl, hlt, p'⟩, fun x H3 y => ?_⟩
      obtain ⟨Hk', a'⟩ := p
      obtain ⟨Hk3, g3, ok⟩ := hY i Hk' H2 x H3 hlt (fun p hp => a'.tp p (by simp [hp])) a'.gr.kh (w.yields i H2 x H3 hlt hG y)
      refine hg i hlt W Hk0 H0 _ _ _ H3 x ⟨Hk3, (a'.grow g3).push ok⟩ _ fun σ2 a2 ⟨ps, hps, es⟩ => ⟨by rw [es, wipe_fold hps, wipe_wipe fun _ h => h], ?_⟩
      show wi1 σ2 H3 _
      refine hi1 i _ hlt W Hk0 H0 _ σ2 H3 True.intro a2 _ fun J1 T1 H4 ⟨Hk4, a4⟩ ⟨G1, Y1, w1, hGk1, hY1⟩ => ?_
      have hsl1 := a4.sl
      have hlen1 := a4.len
      have inn1 : ∀ (k : Nat) (e : En), (Γs i)[k]? = some (some e) → ∃ v, σ2[k]? = some (some v) ∧ (e, v) ∈ T1 ++ (slT (Γs i) σ2 ++ (T' ++ (slT Γ σ ++ T))) := fun k e q => by
        obtain ⟨u, h3, h4⟩ := slT_in hsl1 k e q
        exact ⟨u, h3, by simp [h4]⟩
      have start1 : At W Hk0 H0 (wipeC (Γs i) vs1) (lc B Dl (flatN n1 v i ++ (List.range 0).map (v i)) :: Ω1) (T1 ++ (slT (Γs i) σ2 ++ (T' ++ (slT Γ σ ++ T)))) (wipe σ2 vs1) H4 := by
        have e0 : flatN n1 v i ++ (List.range 0).map (v i) = flatN n1 v i := by simp
        rw [e0]
        refine ⟨Hk4, { a4.wipe vs1 with tp := fun p hp => ?_ }⟩
        simp at hp
        rcases hp with hp | hp | hp | hp | hp
        · exact a4.tp p (by simp [hp])
        · exact slT_ok hlen1 hsl1 p hp
        · exact a4.tp p (by simp [hp])
        · exact a4.tp p (by simp [hp])
        · exact a4.tp p (by simp [hp])
      refine ⟨fun j k H' => k = n1 i - j ∧ j ≤ n1 i ∧ At W Hk0 H0 (wipeC (Γs i) vs1) (lc B Dl (flatN n1 v i ++ (List.range j).map (v i)) :: Ω1) (T1 ++ (slT (Γs i) σ2 ++ (T' ++ (slT Γ σ ++ T)))) (wipe σ2 vs1) H', ⟨n1 i, by simp, Nat.zero_le _, start1⟩, ?_⟩
      rintro j k H5 ⟨rfl, hj, p1⟩
      have hG1 : G1 H5 := by
        obtain ⟨Hk', a'⟩ := p1
        exact hGk1 Hk' H5 (fun p hp => a'.tp p (by simp [hp])) a'.gr.kh a'.gr.hh
      by_cases hjl : j < n1 i
      · refine .inr ⟨w1.goes j H5 hjl hG1, fun H' => At W Hk0 H0 (wipeC (Γs i) vs1) (lc B Dl (flatN n1 v i ++ (List.range (j + 1)).map (v i)) :: Ω1) (T1 ++ (slT (Γs i) σ2 ++ (T' ++ (slT Γ σ ++ T)))) (wipe σ2 vs1) H', fun H' p' => ⟨n1 i - (j + 1), by omega, rfl, hjl, p'⟩, fun x1 H6 y1 => ?_⟩
        obtain ⟨Hk5, a5⟩ := p1
        obtain ⟨Hk6, g6, ok6⟩ := hY1 j Hk5 H5 x1 H6 hjl (fun p hp => a5.tp p (by simp [hp])) a5.gr.kh (w1.yields j H5 x1 H6 hjl hG1 y1)
        refine hg1 i j hlt hjl W Hk0 H0 _ _ _ H6 x1 ⟨Hk6, (a5.grow g6).push ok6⟩ _ fun σ3 a6 ⟨ps1, hps1, es1⟩ => ⟨by rw [es1, wipe_fold hps1, wipe_wipe fun _ h => h], ?_⟩
        show te σ3 H6 _
        refine he i j _ hlt hjl W Hk0 H0 _ σ3 H6 a6 _ fun y H7 a7 => ?_
        obtain ⟨acc, h1, h2, a8⟩ := a7.append
        refine ⟨acc, h1, ?_, ?_⟩
        · have := hsz i (j + 1) hlt hjl
          rw [h2, List.length_append, List.length_map, List.length_range]
          exact Evl.sz_lt (by omega)
        · rw [List.range_succ, List.map_append, ← List.append_assoc]
          exact At.rewipe hlen1 inn1 a8
      · have e : j = n1 i := by omega
        subst e
        refine .inl ⟨w1.stops H5 hG1, ?_⟩
        show At _ _ _ _ _ _ _ H5
        rw [flatN_succ]
        exact At.rewipe hlen inn (p1.sub fun p hp => by simp at hp ⊢; rcases hp with hp | hp | hp <;> simp [hp])
    · have e : i = n := by omega
      subst e
      refine .inl ⟨w.stops H2 hG, ?_⟩
      refine q (.ref Dl) H2 ((p.freeL hnw).reslot (T := (en (rList B) (flatN n1 v i), .ref Dl) :: (T' ++ (slT Γ σ ++ T))) hlen (fun k e q => ?_) |>.sub fun p hp => ?_)
      · obtain ⟨u, h3, h4⟩ := slT_in hsl k e q
        exact ⟨u, h3, by simp [h4]⟩
      · simp at hp ⊢
        rcases hp with hp | hp
        · exact .inl hp
        · exact .inr (.inr (.inr hp))
end
end KA
namespace KA
open PySem PySem.Spec PyProof.Rows L2
/-- every two of a list, the earlier first -/
def pairsL {α : Type} [Inhabited α] (xs : List α) : List (α × α) := flatN (fun i => (xs.drop ((i : Int) + 1).toNat).length) (fun i j => (xs.getD i default, (xs.drop ((i : Int) + 1).toNat).getD j default)) xs.length
theorem flatN_len {β : Type} {n1 : Nat → Nat} {v : Nat → Nat → β} {k : Nat} (h : ∀ i, n1 i ≤ k) (n : Nat) : (flatN n1 v n).length ≤ n * k := by
  induction n with
  | zero => simp [flatN]
  | succ n ih =>
    rw [flatN_succ, List.length_append, List.length_map, List.length_range, Nat.succ_mul]
    have := h n
    omega
end KA
namespace KA
open PySem PySem.Spec PyProof.Rows L2 L2
section
variable {W : List Addr} {Hk0 H0 : Hp} {Γ : Ctx} {Ω Ω1 : List Cell} {T : Tm} {σ : L2.St} {H : Hp} {ta : TE}
/-- list(range(k)) -/
theorem ev_listRg {k : Int} (h : Ev ta Γ Ω (en rInt k) Ω1) (hk : 0 ≤ k ∧ k ≤ 40000) : Ev (tLstRg (tRg1 ta)) Γ Ω (en (rList rInt) ((List.range k.toNat).map fun i : Nat => (i : Int))) Ω1 := fun W Hk0 H0 T σ H a Q q =>
  h W Hk0 H0 T σ H a _ fun x H1 ⟨Hk1, a1⟩ => by
    have hx : x = .int k := a1.tp (en rInt k, x) (by simp)
    refine ⟨k, hx, RgOk.of_le (by omega) (by omega) (by omega) (by omega), fun p hp => ?_⟩
    have g := Grow.new (W := []) (o := .lst (rgV 0 k)) a1.gr.kh hp
    refine q _ _ ⟨_, ((a1.grow g).unpush).push (e := en (rList rInt) ((List.range k.toNat).map fun i : Nat => (i : Int))) ⟨p, _, rfl, upd_same, ?_⟩⟩
    have e : rgV 0 k = ((List.range k.toNat).map fun i : Nat => (i : Int)).map V.int := by
      unfold rgV
      rw [List.map_map, Int.sub_zero]
      apply List.map_congr_left
      intro i _
      show V.int (0 + (i : Int)) = V.int (i : Int)
      rw [Int.zero_add]
    rw [e]
    exact Al.of_map_int
end
end KA

/-! list(d.values()) -/
namespace KA
open PySem PySem.Spec PyProof.Rows L2
theorem vals_at {κ : Type} {kvs : List (κ × V)} {vs : List (κ × Value)} (r : KV kvs vs) : ∀ us : List Value, us.length = vs.length → (∀ (j : Nat) (v : Value), us[j]? = some v → ∃ k, vs[j]? = some (k, v)) → Vals (kvs.map (·.2)) us := by
  unfold KV at r
  induction r with
  | nil =>
    intro us hl _
    cases us with
    | nil => exact .nil
    | cons _ _ => simp at hl
  | cons r t ih =>
    intro us hl h
    cases us with
    | nil => simp at hl
    | cons u us =>
      obtain ⟨k, hk⟩ := h 0 u rfl
      have hk := Option.some.inj hk
      refine .cons ?_ (ih us (by simpa using hl) fun j v hj => h (j + 1) v (by simpa using hj))
      have := r.2
      rw [hk] at this
      exact this
def tListVals (td : TE) : TE := fun σ H Q => td σ H fun x H1 => ∃ a kvs, x = .ref a ∧ Rd H1 a (.dK kvs) ∧ ∀ p, H1 p = none → Q (.ref p) (upd H1 p (.lst (kvs.map (·.2))))
section
variable {X : Cx} {o : Expr} {p pos apos mpos : Pos} {td : TE}
theorem pe_listVals (hc : X.calm = true) (hg : Gl X "list") (hm : X.mg "list" = none) (hd : PE X o td) (hbase : attributeBase o "values" X.env (eval o X.env) = eval o X.env := by rfl) (hline : (apos.endLine == mpos.line) = true := by rfl)
    (na : starEach [Expr.Call (.Attribute o "values" apos) [] [] mpos] X.env = (false, eval (Expr.Call (.Attribute o "values" apos) [] [] mpos) X.env) :: starEach [] X.env := by rfl) : PE X (.Call (.Name "list" p) [.Call (.Attribute o "values" apos) [] [] mpos] [] pos) (tListVals td) := by
  refine ⟨fun pins s σ H Q I h => ?_⟩
  refine Call_ (ld_blt I hg hm boot_list (PyProof.Rows.callWith_type1 (args_cons (wpAny_Call_method0_late hbase hline (thn (hd.run pins s σ H _ I h) fun v s1 ⟨x, H1, J, r1, a, kvs, ex, ha, q⟩ => ?_)) na) na))
  subst ex
  obtain rfl : v = Value.ref a := r1
  obtain ⟨z, lo, vs, rel, dd⟩ := dk_rd J.hok ha
  obtain ⟨ep, dat⟩ := dd.dictAt
  have dat0 := dat
  obtain ⟨ob, es, ho, ex, _⟩ := dat0
  refine ⟨"dict", "dict.values", F.plainAttrs_dict, F.slot_dict_values, F.type_dict_values, ⟨ob, ho, ex.1⟩, fun b e => ?_, Calls.callWith_builtin rfl (PySem.evalArgs_none ?_)⟩
  · cases e
    exact ⟨ob, ho, ex.2.1⟩
  refine call_meetsIn F.slot_dict_values ⟨ob, ho, ex.1⟩ F.entry_dict_values (F.args_dict_values_1 _) (meets_dict_values (mixKind X.prog X.w) a lo) ⟨⟨vs, dd⟩, ?_⟩
  have k1 : ∀ b u, s1.heap.get? b = some u → (s1.heap.push { cls := .type "dict_values", data := .fields #[.ref a] }).get? b = some u := fun b u e => Heap.get?_push_of_some _ e
  have J2 : Inv X pins σ H1 { s1 with heap := s1.heap.push { cls := .type "dict_values", data := .fields #[.ref a] } } := J.kept (t' := s1.toks) k1
  have dat1 : (s1.heap.push { cls := .type "dict_values", data := .fields #[.ref a] }).DictAt (mixKind X.prog X.w) a vs ep := dat.keep k1
  have vw : (s1.heap.push { cls := .type "dict_values", data := .fields #[.ref a] }).IsValuesView s1.heap.objs.size a := ⟨_, Heap.get?_push_size _ rfl, rfl, rfl⟩
  show wpAny _ _ (spliced _) _ _ _
  refine args_nil ?_
  refine PySem.W.kdl_call (s := { s1 with heap := s1.heap.push { cls := .type "dict_values", data := .fields #[.ref a] } }) (PySem.W.kdl_values (knd := mixKind X.prog X.w) (r := s1.heap.objs.size) (d := a) (kvs := vs) (ep := ep)) (I.ok.hd hc) ⟨vw, dat1⟩ (by rw [← rel.length]; exact z) fun h' tk acc c' hk hD hacc => ?_
  have hv : Vals (kvs.map (·.2)) acc.toList := vals_at rel _ (by rw [Array.length_toList]; exact hacc.1) fun j v e => hacc.2 j v (by rw [← Array.getElem?_toList]; exact e)
  exact ⟨.ref _, upd H1 _ (.lst (kvs.map (·.2))), J2.laid (t' := tk) hk (Nat.le_refl _) (show ObjOk X.prog X.w _ _ _ (.lst (kvs.map (·.2))) from ⟨by rw [List.length_map]; exact z, acc.toList, c', hv, by rw [Array.toArray_toList]; exact hD⟩), rfl, q _ (J2.hok.fresh (Nat.le_refl _))⟩
end
end KA
namespace KA
open PySem PySem.Spec PyProof.Rows L2
section
variable {W : List Addr} {Hk0 H0 : Hp} {Γ : Ctx} {Ω Ω1 : List Cell} {T : Tm} {σ : L2.St} {H : Hp} {td : TE} {α : Type} {A : Rp α}
theorem AlD.vals {H : Hp} {m : List (Str × α)} {kvs : List (Key × V)} (h : AlD A H m kvs) : Al A H (m.map (·.2)) (kvs.map (·.2)) := by
  induction h with
  | nil => exact .nil
  | cons h _ ih => exact .cons h ih
theorem ev_listVals {m : List (Str × α)} (h : Ev td Γ Ω (en (rDict A) m) Ω1) : Ev (tListVals td) Γ Ω (en (rList A) (m.map (·.2))) Ω1 := fun W Hk0 H0 T σ H a Q q =>
  h W Hk0 H0 T σ H a _ fun v H1 ⟨Hk1, a1⟩ => by
    obtain ⟨d, kvs, hv, hd, al⟩ := (show (rDict A).r m v Hk1 from a1.tp (en (rDict A) m, v) (by simp))
    refine ⟨d, kvs, hv, a1.gr.kh.dK hd, fun p hp => ?_⟩
    have g := Grow.new (W := []) (o := .lst (kvs.map (·.2))) a1.gr.kh hp
    exact q _ _ ⟨_, ((a1.grow g).unpush).push (e := en (rList A) (m.map (·.2))) ⟨p, _, rfl, upd_same, (al.mono g.kk).vals⟩⟩
end
end KA

/-! loops that forget some slots and keep the others; lists of one's own that are drawn from -/
namespace KA
open PySem PySem.Spec PyProof.Rows L2
/-- the first says less than the second -/
inductive Fit : Ctx → Ctx → Prop where
  | nil : Fit [] []
  | off {x : Option En} {Γ Γ' : Ctx} : Fit Γ Γ' → Fit (none :: Γ) (x :: Γ')
  | keep {x : Option En} {Γ Γ' : Ctx} : Fit Γ Γ' → Fit (x :: Γ) (x :: Γ')
theorem Fit.len {Γ Γ' : Ctx} (h : Fit Γ Γ') : Γ.length = Γ'.length := by
  induction h with
  | nil => rfl
  | off _ ih => simp [ih]
  | keep _ ih => simp [ih]
theorem Fit.at {Γ Γ' : Ctx} (h : Fit Γ Γ') : ∀ {i : Nat} {e : En}, Γ[i]? = some (some e) → Γ'[i]? = some (some e) := by
  induction h with
  | nil => intro i e q; simp at q
  | off _ ih =>
    intro i e q
    cases i with
    | zero => simp at q
    | succ i => exact ih (by simpa using q)
  | keep _ ih =>
    intro i e q
    cases i with
    | zero => exact q
    | succ i => exact ih (by simpa using q)
/-- slots that carry something -/
def putC (Γ : Ctx) : List (Nat × En) → Ctx
  | [] => Γ
  | p :: ps => (putC Γ ps).set p.1 (some p.2)
section
variable {W : List Addr} {Hk0 H0 : Hp} {Γ Γ' : Ctx} {Ω Ω' Ω1 Ω2 Ω3 : List Cell} {T T' : Tm} {σ σ' : L2.St} {Hk H : Hp} {K : PySem.W.Frag}
variable {te ta tb td : TE} {tt tu : TT} {D : Ends} {e e1 e2 : En} {b b2 : Bool} {ts tz tbd : TS} {α β γ : Type} {A : Rp α} {B : Rp β} {xs : List α} {n j : Nat} {Bs : List Addr → Hp → Hp → L2.St → Prop} {wi : TI} {es : Nat → En}
theorem At.fit (a : At W Hk0 H0 Γ' Ω T σ H) (h : Fit Γ Γ') : At W Hk0 H0 Γ Ω T σ H := a.weak h.len fun _ _ q => h.at q
theorem s_forW {ι : Type} {g : TG} {vars : List Nat} (mod : List Nat) (cr : Nat → ι → List (Nat × En)) (Ωs : Nat → ι → List Cell) (I : Nat → ι → Prop) (i0 : ι) (Γt : Nat → ι → Ctx) (a : At W Hk0 H0 Γ Ω T σ H) (h : EvI Any wi Γ Ω n es Ω1) (hg : ∀ i u, i < n → TgE g (putC (wipeC Γ mod) (cr i u)) (es i) (Γt i u) vars)
    (h0 : I 0 i0 ∧ ∀ T σ H, At W Hk0 H0 Γ Ω1 T σ H → At W Hk0 H0 (putC (wipeC Γ mod) (cr 0 i0)) (Ωs 0 i0) T σ H)
    (hs : ∀ T i u σ' H', i < n → I i u → At W Hk0 H0 (Γt i u) (Ωs i u) T σ' H' → ts { D with nx := fun σ H => ∃ u, I (i + 1) u ∧ At W Hk0 H0 (putC (wipeC Γ mod) (cr (i + 1) u)) (Ωs (i + 1) u) T σ H, ct := fun σ H => ∃ u, I (i + 1) u ∧ At W Hk0 H0 (putC (wipeC Γ mod) (cr (i + 1) u)) (Ωs (i + 1) u) T σ H, bk := D.nx } σ' H')
    (hd : ∀ u, I n u → ∀ σ' H', At W Hk0 H0 (putC (wipeC Γ mod) (cr n u)) (Ωs n u) T σ' H' → D.nx σ' H') : tFor wi g ts D σ H :=
  s_forG (fun i u => putC (wipeC Γ mod) (cr i u)) Ωs I i0 Γt a h hg h0 hs hd
theorem q_forW {ι : Type} {g : TG} {vars : List Nat} (mod : List Nat) (cr : Nat → ι → List (Nat × En)) (Ωs : Nat → ι → List Cell) (I : Nat → ι → Prop) (i0 : ι) (Γt : Nat → ι → Ctx) (a : At W Hk0 H0 Γ Ω T σ H) (h : EvI Any wi Γ Ω n es Ω1) (hg : ∀ i u, i < n → TgE g (putC (wipeC Γ mod) (cr i u)) (es i) (Γt i u) vars)
    (h0 : I 0 i0 ∧ ∀ T σ H, At W Hk0 H0 Γ Ω1 T σ H → At W Hk0 H0 (putC (wipeC Γ mod) (cr 0 i0)) (Ωs 0 i0) T σ H)
    (hs : ∀ T i u σ' H', i < n → I i u → At W Hk0 H0 (Γt i u) (Ωs i u) T σ' H' → ts { D with nx := fun σ H => ∃ u, I (i + 1) u ∧ At W Hk0 H0 (putC (wipeC Γ mod) (cr (i + 1) u)) (Ωs (i + 1) u) T σ H, ct := fun σ H => ∃ u, I (i + 1) u ∧ At W Hk0 H0 (putC (wipeC Γ mod) (cr (i + 1) u)) (Ωs (i + 1) u) T σ H, bk := tz D } σ' H')
    (hd : ∀ u, I n u → ∀ σ' H', At W Hk0 H0 (putC (wipeC Γ mod) (cr n u)) (Ωs n u) T σ' H' → tz D σ' H') : tSeq (tFor wi g ts) tz D σ H := s_forW (D := { D with nx := tz D }) mod cr Ωs I i0 Γt a h hg h0 hs hd
/-- a target takes what it is given, whatever the slots are -/
theorem tg_nameW {i : Nat} {vs : List Nat} (h : i ∈ vs) : TgE (gName i) Γ e (Γ.set i (some e)) vs := tg_name h
/-! ### draws: a list of one's own, taken from the front -/
theorem ev_popC {p : Addr} {ds : List Int} {d : Int} {i : Nat} (hi : Γ[i]? = some (some (en rVal (.ref p)))) : Ev (tBM K "list" rPopAt (tVar i) (tCons (tC (.int 0)) tNil)) Γ (lc rInt p (d :: ds) :: Ω) (en rInt d) (lc rInt p ds :: Ω) := fun W Hk0 H0 T σ H ⟨Hk, a⟩ Q q => by
  obtain ⟨u, h1, h2⟩ := a.sl i _ hi
  have hu : u = .ref p := h2
  subst hu
  obtain ⟨_, ⟨o, g2, vs, rfl, al⟩, _⟩ := a.cl _ (List.mem_cons_self ..)
  have hv := al.map_int
  subst hv
  refine ⟨_, h1, .inl ⟨rfl, _, Evl.sq_of g2⟩, p, _, 0, 0, .int d, rfl, rfl, g2, by decide, by decide, by simp [seqIndex?], rfl, ?_⟩
  have w := a.write (c := lc rInt p (d :: ds)) (c' := lc rInt p ds) (o' := .lst (((d :: ds).map V.int).eraseIdx 0)) rfl ⟨_, rfl, by simpa using (Al.of_map_int (H := Hk) (xs := ds))⟩
  exact q _ _ ⟨Hk, w.push (e := en rInt d) rfl⟩
/-- xs != [] of a list of one's own -/
theorem ev_neC {p : Addr} {ds : List Int} {i : Nat} (hi : Γ[i]? = some (some (en rVal (.ref p)))) : Ev (tOp (rNeD K) (tVar i) (tLst tNil)) Γ (lc rInt p ds :: Ω) (en rBool (!decide (ds = []))) (lc rInt p ds :: Ω) := fun W Hk0 H0 T σ H ⟨Hk, a⟩ Q q => by
  obtain ⟨u, h1, h2⟩ := a.sl i _ hi
  have hu : u = .ref p := h2
  subst hu
  obtain ⟨_, ⟨o, g2, vs, rfl, al⟩, _⟩ := a.cl _ (List.mem_cons_self ..)
  have hv := al.map_int
  subst hv
  refine ⟨_, h1, Nat.zero_le _, fun r hr => ?_⟩
  have hne : p ≠ r := ne_of_none g2 hr
  have hp : upd H r (.lst []) p = some (.lst (ds.map V.int)) := by rw [upd_ne hne]; exact g2
  have e1 : Dp K (upd H r (.lst [])) (.ref p) (.list (ds.map datI.enc)) := (datL (K := K) datI).dp (x := ds) ⟨p, _, rfl, hp, Al.of_map_int⟩
  have e2 : Dp K (upd H r (.lst [])) (.ref r) (.list (([] : List Int).map datI.enc)) := (datL (K := K) datI).dp (x := []) ⟨r, _, rfl, upd_same, .nil⟩
  have lay : ∀ xs : List Int, (PyData.list (xs.map datI.enc)).canLay0 = true := fun xs => (datL (K := K) datI).lay xs (List.all_eq_true.mpr fun _ _ => rfl)
  have dep : ∀ xs : List Int, (PyData.list (xs.map datI.enc)).depth ≤ 64 := fun xs => Nat.le_trans ((datL (K := K) datI).dle xs) (show 0 + 1 ≤ 64 by decide)
  refine ⟨_, _, e1, e2, Bool.and_eq_true_iff.mpr ⟨lay _, decide_eq_true (dep _)⟩, Bool.and_eq_true_iff.mpr ⟨lay [], decide_eq_true (dep [])⟩, q _ _ ⟨_, (a.grow (Grow.new (W := []) (o := .lst []) a.gr.kh hr)).push (e := en rBool (!decide (ds = []))) (show V.bl _ = V.bl _ from ?_)⟩⟩
  congr 2
  rw [Bool.eq_iff_iff, decide_eq_true_eq]
  exact (datL (K := K) datI).inj ds []
/-- xs.append(e) where e's value changes other cells -/
theorem s_appP {p : Addr} {i : Nat} {xs : List α} {x : α} (a : At W Hk0 H0 Γ Ω T σ H) (ho : ∀ W Hk0 H0 T σ H, At W Hk0 H0 Γ Ω T σ H → At W Hk0 H0 Γ (lc A p xs :: Ω3) T σ H) (hi : Γ[i]? = some (some (en rVal (.ref p)))) (hv : Ev te Γ Ω (en A x) Ω1)
    (hΩ : ∀ W Hk0 H0 T σ H, At W Hk0 H0 Γ Ω1 T σ H → At W Hk0 H0 Γ (lc A p xs :: Ω2) T σ H) (hl : xs.length ≤ 40000)
    (k : ∀ H', At W Hk0 H0 Γ (lc A p (xs ++ [x]) :: Ω2) T σ H' → D.nx σ H') : tDrop (tBM K "list" rAppend (tVar i) (tCons te tNil)) D σ H := by
  have a0 := a
  have a' := ho _ _ _ _ _ _ a
  obtain ⟨Hk, a'⟩ := a'
  obtain ⟨u, h1, h2⟩ := a'.sl i _ hi
  have hu : u = .ref p := h2
  subst hu
  obtain ⟨_, ⟨o, g2, vs, rfl, al⟩, _⟩ := a'.cl _ (List.mem_cons_self ..)
  refine ⟨_, h1, .inl ⟨rfl, vs, Evl.sq_of g2⟩, hv W Hk0 H0 T σ H a0 _ fun v H1 a1 => ?_⟩
  obtain ⟨acc, e1, e2, a2⟩ := (hΩ _ _ _ _ _ _ a1).append
  exact ⟨p, acc, v, rfl, rfl, e1, by rw [e2]; exact Evl.sz_lt (by omega), k _ a2⟩
end
end KA

/-! rows with a name in front; slices and sums of tuples; enumerate over a tuple; zip of two lists -/
namespace KA
open PySem PySem.Spec PyProof.Rows L2
/-! ### enumerate over a tuple -/
theorem enum_new1 {v : Value} {ob : Obj} {Hq : Heap → Prop} (B : Begins v ob Hq) :
    Meets (Builtin.«enumerate.__new__» ⟨[.type "enumerate", v], []⟩) (fun _ R s => Hq s.heap ∧ R (.ok (.ret (.ref (s.heap.push ob).objs.size))) { s with heap := (s.heap.push ob).push { cls := .type "enumerate", data := .fields #[.none, .bool false, .ref s.heap.objs.size, rawInt 0, .none, .none] } }) :=
  .of_wp fun pr wd Ar Rs s h => by
    obtain ⟨hp, g, d, tk, os⟩ := s
    obtain ⟨h1, h⟩ := h
    have hsub := sub_enumerate
    have it1 : ∀ {A1 : Around} {E1 : Value → Shared → Prop} {Q1 : Value → Shared → Prop}, Q1 (.ref hp.objs.size) ⟨hp.push ob, g, d, tk, os⟩ → wpAny (model pr wd) A1 (pyIter v) Q1 E1 ⟨hp, g, d, tk, os⟩ := fun z => B.iter pr wd _ _ ⟨hp, g, d, tk, os⟩ _ h1 z
    wp_walk using it1
    refine wpAny_stack_any fun stk => wpAny_pure ?_
    split
    · rename_i cc _ _ _ _ _
      cases (cc == Value.type "enumerate") <;> (wp_walk using it1; exact ⟨_, rfl, h⟩)
    · wp_walk using it1
      exact ⟨_, rfl, h⟩
/-- the tuple at a as it stands at each turn, each item in a new pair -/
def IteT (K : PySem.W.Frag) (a : Addr) : It where
  go := fun i H => ∃ (xs : List V) (x : V), SqT K H a xs ∧ xs[i]? = some x
  yld := fun i H v H' => ∃ p x, v = .ref p ∧ H p = none ∧ H' = upd H p (.tup [.int (i : Nat), x]) ∧ ∀ xs, SqT K H a xs → xs[i]? = some x
  stop := fun i H => ∃ xs : List V, SqT K H a xs ∧ i = xs.length
section
variable {P : Program} {w : World} {K : PySem.W.Frag}
theorem turn_enumT {elts : List Expr} {kk : Nat} {tpos : Pos} {a e it : Addr} (ne : e ≠ it) (na : a ≠ it) (ea : e ≠ a) : Turn P w K (.Tuple elts kk tpos) (IteT K a) [e, it] e (fun i g => (∃ old, IsEnum g e it ((i : Nat) : Int) old) ∧ g.IsTupleIter it a i) where
  mem := List.mem_cons_self ..
  obj := fun i g st c hc => by
    obtain ⟨⟨old, s1⟩, ⟨o2, f2, _, d2⟩⟩ := st
    rcases (show c = e ∨ c = it by simpa using hc) with rfl | rfl
    · exact ⟨_, s1, fun _ q => nomatch q⟩
    · exact ⟨o2, f2, fun _ q => by rw [d2] at q; cases q⟩
  keep := fun i g g' st k => ⟨st.1.imp fun old s1 => k e (by simp) _ s1, st.2.at (k it (by simp))⟩
  item := by
    intro X e1 e2 e3 calm i pins s σ H E I fp st hg
    subst e1 e2 e3
    obtain ⟨⟨old, s1⟩, s2⟩ := st
    obtain ⟨xs, x, qa, gx⟩ := hg
    obtain ⟨us, ru, pa, _⟩ := I.tuple qa
    obtain ⟨u, gu, rx⟩ := ru.get gx
    have hh : X.A.in1.handled = none := I.ok.hd calm
    have le : e < s.heap.objs.size := Heap.lt_size s1
    have li : it < s.heap.objs.size := by obtain ⟨_, f2, _⟩ := s2; exact Heap.lt_size f2
    have D := Draws.tuple (prog := X.prog) (w := X.w) (A := X.A.in1) hh it a na us.toArray
    have l1 : i < us.toArray.size := by rw [List.size_toArray]; exact (List.getElem?_eq_some_iff.mp gu).1
    refine wpAny_pyNext_enum_itemC D s1 ⟨s2, pa⟩ l1 ne (two_no ne ea) fun x1 g tk y1 o1 st1 hT _ hk => ?_
    obtain rfl : u = x1 := by simpa [gu] using y1
    refine ⟨_, rfl, wpAny_letOwnedTupleGo_enum (s := { s with heap := g, toks := tk + 1 }) o1 fun g2 he2 sb => ?_⟩
    have q5 : g2.get? s.heap.objs.size = some { cls := .type "tuple", data := .seq #[.int (i : Nat) tk, u] } := (sb.2 _ (Nat.ne_of_gt le)).trans hT
    have stays : ∀ c o, c ∉ [e, it] → s.heap.get? c = some o → g2.get? c = some o := fun c o n q => by
      simp at n
      exact (sb.2 c n.1).trans (hk c o n.1 n.2 q)
    have fresh : ObjOk X.prog X.w (upd H s.heap.objs.size (.tup [.int (i : Nat), x])) g2 s.heap.objs.size (.tup [.int (i : Nat), x]) :=
      ⟨(by decide : (2 : Nat) ≤ sizeLine), [.int (i : Nat) tk, u], .cons ⟨_, rfl⟩ (.cons rx .nil), ⟨_, q5, rfl, _, rfl⟩⟩
    have J := I.turnedNew (t' := tk + 1) stays fp (Nat.le_refl _) fresh
    refine ⟨.ref s.heap.objs.size, _, J, rfl, ⟨_, x, rfl, I.hok.fresh (Nat.le_refl _), rfl, fun l hl => (I.tuple_inj hl qa) ▸ gx⟩, ⟨⟨u, ?_⟩, ?_⟩, fun c hc => ?_⟩
    · have e1 : ((i + 1 : Nat) : Int) = (i : Int) + 1 := by omega
      rw [e1]
      exact he2
    · exact st1.1.at fun o q => (sb.2 it (fun z => ne z.symm)).trans q
    · have lc : c < s.heap.objs.size := by
        rcases (show c = e ∨ c = it by simpa using hc) with rfl | rfl
        · exact le
        · exact li
      rw [upd_ne (Nat.ne_of_lt lc)]
      exact (fp c hc).1
  done := by
    intro X e1 e2 e3 calm i pins s σ H E I fp st hg
    subst e1 e2 e3
    obtain ⟨⟨old, s1⟩, s2⟩ := st
    obtain ⟨xs, qa, hend⟩ := hg
    obtain ⟨us, ru, pa, _⟩ := I.tuple qa
    have hh : X.A.in1.handled = none := I.ok.hd calm
    have k1 : xs.length = us.toArray.size := by rw [List.size_toArray]; exact ru.length
    have D := Draws.tuple (prog := X.prog) (w := X.w) (A := X.A.in1) hh it a na us.toArray
    rw [hend, k1] at s2
    refine wpAny_pyNext_enum_endD D s1 ⟨s2, pa⟩ fun g hx => ⟨rfl, I.turnedL (t' := s.toks) (ch := [e, it]) (fun c o n q => hx c o (fun z => n (by simp [z])) q) fp⟩
  self := fun A i s Q E st h => by
    obtain ⟨⟨old, s1⟩, _⟩ := st
    exact wpAny_pyIter_enum s1 h
end
def iEnumT (K : PySem.W.Frag) (ta : TA) : TI := fun σ H R => ta σ H fun vs H1 => ∃ a xs, vs = [.ref a] ∧ SqT K H1 a xs ∧ R (IteT K a) H1
theorem pi_enumT {X : Cx} {e : Expr} {ta : TA} {p pos tpos : Pos} {elts : List Expr} {kk : Nat} (hg : Gl X "enumerate") (hm : X.mg "enumerate" = none) (ha : PA X [e] ta) (hs : starEach [e] X.env = [(false, eval e X.env)] := by rfl) : PI X (.Tuple elts kk tpos) (.Call (.Name "enumerate" p) [e] [] pos) (iEnumT X.K ta) := by
  refine ⟨fun pins s σ H R I h => Call_ (ld_blt I hg hm boot_enumerate (PyProof.Rows.callWith_type1 (thn (ha.run pos pins s σ H _ I h) fun us s1 ⟨vs, H1, J, rv, q⟩ => ?_) hs rfl))⟩
  obtain ⟨a, xs, rfl, qa, q⟩ := q
  cases rv with
  | cons r rr =>
    cases rr
    cases r
    obtain ⟨us, ru, pa, _⟩ := J.tuple qa
    have la : a < s1.heap.objs.size := by obtain ⟨o, h, _⟩ := id pa; exact Heap.lt_size h
    have B := begins_tuple a us.toArray
    refine callType_new F.called_enumerate (by decide) (F.typeCall_enumerate_1 _) (F.newCall_enumerate_1 _) (fun obj => F.args_object_init_2 obj _) F.entry_enumerate_new (enum_new1 B) ⟨pa, ?_⟩
    have hz : (s1.heap.push { cls := .type "tuple_iterator", data := .fields #[.ref a, .int 0 0] }).objs.size = s1.heap.objs.size + 1 := Heap.size_push ..
    show _ ∧ _
    rw [hz]
    have he : IsEnum ((s1.heap.push { cls := .type "tuple_iterator", data := .fields #[.ref a, .int 0 0] }).push { cls := .type "enumerate", data := .fields #[.none, .bool false, .ref s1.heap.objs.size, rawInt 0, .none, .none] }) (s1.heap.objs.size + 1) s1.heap.objs.size 0 .none := by
      have := Heap.get?_push_size (s1.heap.push { cls := .type "tuple_iterator", data := .fields #[.ref a, .int 0 0] }) (o := { cls := .type "enumerate", data := .fields #[.none, .bool false, .ref s1.heap.objs.size, rawInt 0, .none, .none] }) rfl
      rw [hz] at this
      exact this
    have hi : ((s1.heap.push { cls := .type "tuple_iterator", data := .fields #[.ref a, .int 0 0] }).push { cls := .type "enumerate", data := .fields #[.none, .bool false, .ref s1.heap.objs.size, rawInt 0, .none, .none] }).IsTupleIter s1.heap.objs.size a 0 := ⟨_, Heap.get?_push_of_some _ (Heap.get?_push_size _ rfl), rfl, rfl⟩
    refine ⟨⟨_, he, rfl⟩, wpAny_pyIter_enum he ?_⟩
    have J2 : Inv X pins σ H1 { s1 with heap := (s1.heap.push { cls := .type "tuple_iterator", data := .fields #[.ref a, .int 0 0] }).push { cls := .type "enumerate", data := .fields #[.none, .bool false, .ref s1.heap.objs.size, rawInt 0, .none, .none] } } := J.kept (t' := s1.toks) fun b o x => Heap.get?_push_of_some _ (Heap.get?_push_of_some _ x)
    refine ⟨s1.heap.objs.size + 1, [s1.heap.objs.size + 1, s1.heap.objs.size], _, _, H1, rfl, J2, turn_enumT (Nat.succ_ne_self _) (Nat.ne_of_lt la) (Nat.ne_of_gt (Nat.lt_succ_of_lt la)), ⟨⟨_, he⟩, hi⟩, fun c hc => ?_, q⟩
    have le : s1.heap.objs.size ≤ c := by
      rcases (show c = s1.heap.objs.size + 1 ∨ c = s1.heap.objs.size by simpa using hc) with rfl | rfl
      · exact Nat.le_succ _
      · exact Nat.le_refl _
    exact J.fpOk le (J.hok.fresh le)
section
variable {W : List Addr} {Hk0 H0 : Hp} {Γ Γ' : Ctx} {Ω Ω1 Ω2 : List Cell} {T T' : Tm} {σ : L2.St} {Hk H : Hp} {K : PySem.W.Frag} {α β : Type} {A : Rp α} {B : Rp β} {Bs : List Addr → Hp → Hp → L2.St → Prop} {xs : List α} {ta tb : TE} {e : En}
theorem walk_enumT {a : Addr} {vs : List V} : Walk (IteT K a) vs.length (fun H => SqT K H a vs) (fun i H v H' => ∃ p x, v = .ref p ∧ H p = none ∧ H' = upd H p (.tup [.int (i : Nat), x]) ∧ vs[i]? = some x) :=
  ⟨fun i H hi q => ⟨vs, vs[i], q, List.getElem?_eq_getElem hi⟩, fun H q => ⟨vs, q, rfl⟩, fun i H x H' hi q y => by
    obtain ⟨p, u, h1, h2, h3, h4⟩ := y
    exact ⟨p, u, h1, h2, h3, h4 _ q⟩⟩
theorem ei_enumT {ta : TA} [Inhabited α] (h : EvA ta Γ Ω [en (rTupL K A) xs] Ω1) : EvI Bs (iEnumT K ta) Γ Ω xs.length (fun i => en (rPair K rInt A) ((i : Int), xs.getD i default)) Ω1 := fun W Hk0 H0 T σ H _ a R q =>
  h W Hk0 H0 T σ H a _ fun us H1 hl1 a1 => by
    obtain ⟨Hk1, a1⟩ := a1
    match us, hl1 with
    | [v], _ =>
      obtain ⟨p, vs, rfl, hp, al⟩ := (show (rTupL K A).r xs v Hk1 from a1.tp (en (rTupL K A) xs, v) (by simp))
      have hl := al.len
      have wk := walk_enumT (K := K) (a := p) (vs := vs)
      rw [← hl] at wk
      have m : ∀ H H', Ex H H' → (SqT K H p vs ∧ Al A H xs vs) → (SqT K H' p vs ∧ Al A H' xs vs) := fun H H' k h => ⟨ex_t k h.1, h.2.mono k⟩
      refine ⟨p, vs, rfl, ex_t a1.gr.kh hp, q (IteT K p) [fct _ m] H1 ⟨Hk1, a1.to1 m ⟨hp, al⟩⟩ (.of m wk (fun Hk H t k => ex_t k t.1) fun i Hk H x H' hi t k y => ?_)⟩
      obtain ⟨r, u, rfl, hn, rfl, g1⟩ := y
      obtain ⟨x', k1, k2⟩ := t.2.back g1
      have e1 : xs.getD i default = x' := by rw [List.getD_eq_getElem?_getD, k1]; rfl
      show ∃ Hk', _ ∧ En.ok (en (rPair K rInt A) ((i : Int), xs.getD i default)) _ _
      rw [e1]
      exact pair_new (K := K) (A := rInt) (B := A) k hn rfl k2
/-! ### zip of two lists -/
theorem ei_zipLL {ta : TA} {ys : List β} [Inhabited α] [Inhabited β] (h : EvA ta Γ Ω [en (rList A) xs, en (rList B) ys] Ω1) : EvI Bs (iZip K ta) Γ Ω (min xs.length ys.length) (fun i => en (rPair K A B) (xs.getD i default, ys.getD i default)) Ω1 := fun W Hk0 H0 T σ H _ a R q =>
  h W Hk0 H0 T σ H a _ fun us H1 hlv a1 => by
    obtain ⟨Hk1, a1⟩ := a1
    match us, hlv with
    | [u, v], _ =>
      obtain ⟨p, vs, rfl, hp, al⟩ := (show (rList A).r xs u Hk1 from a1.tp (en (rList A) xs, u) (by simp))
      obtain ⟨p2, ws, rfl, hp2, al2⟩ := (show (rList B).r ys v Hk1 from a1.tp (en (rList B) ys, v) (by simp))
      have wk := walk_zip (K := K) (a := p) (b := p2) (xs := vs) (ys := ws) (n := min xs.length ys.length) (by rw [al.len, al2.len])
      have m : ∀ H H', Ex H H' → ((H p = some (.lst vs) ∧ Al A H xs vs) ∧ H p2 = some (.lst ws) ∧ Al B H ys ws) → ((H' p = some (.lst vs) ∧ Al A H' xs vs) ∧ H' p2 = some (.lst ws) ∧ Al B H' ys ws) := fun H H' k h => ⟨⟨k.lst h.1.1, h.1.2.mono k⟩, k.lst h.2.1, h.2.2.mono k⟩
      refine ⟨p, p2, vs, ws, rfl, Evl.sq_of (a1.gr.kh.lst hp), Evl.sq_of (a1.gr.kh.lst hp2), q (Itz K p p2) [fct _ m] H1 ⟨Hk1, (a1.sub (T' := T) fun z hz => by simp [hz]).fct m ⟨⟨hp, al⟩, hp2, al2⟩⟩ (.of m wk (fun Hk H t k => ⟨Evl.sq_of (k.lst t.1.1), Evl.sq_of (k.lst t.2.1)⟩) fun i Hk H x H' hi t k y => ?_)⟩
      obtain ⟨r, u, v, rfl, hn, rfl, g1, g2⟩ := y
      obtain ⟨x', k1, k2⟩ := t.1.2.back g1
      obtain ⟨y', k3, k4⟩ := t.2.2.back g2
      have e1 : xs.getD i default = x' := by rw [List.getD_eq_getElem?_getD, k1]; rfl
      have e2 : ys.getD i default = y' := by rw [List.getD_eq_getElem?_getD, k3]; rfl
      show ∃ Hk', _ ∧ En.ok (en (rPair K A B) (xs.getD i default, ys.getD i default)) _ _
      rw [e1, e2]
      exact pair_new (K := K) (A := A) (B := B) k hn k2 k4
/-! ### slices and sums of tuples -/
theorem OkAll.take {H : Hp} : ∀ {es : List En} {vs : List V} (n : Nat), OkAll es vs H → OkAll (es.take n) (vs.take n) H
  | [], [], n, _ => by simp; exact True.intro
  | e :: es, v :: vs, 0, _ => True.intro
  | e :: es, v :: vs, n + 1, h => ⟨h.1, OkAll.take n h.2⟩
  | [], _ :: _, _, h => h.elim
  | _ :: _, [], _, h => h.elim
theorem OkAll.drop {H : Hp} : ∀ {es : List En} {vs : List V} (n : Nat), OkAll es vs H → OkAll (es.drop n) (vs.drop n) H
  | [], [], n, _ => by simp; exact True.intro
  | e :: es, v :: vs, 0, h => h
  | e :: es, v :: vs, n + 1, h => OkAll.drop n h.2
  | [], _ :: _, _, h => h.elim
  | _ :: _, [], _, h => h.elim
theorem cut_whole {vs : List V} {lo hi : Option Int} (h : HT.sIx vs.length 0 lo = 0 ∧ HT.sIx vs.length vs.length hi = vs.length) : cutV vs lo hi = vs := by
  unfold cutV
  rw [h.1, h.2]
  simp
theorem ev_slTupTo {hi : Int} (h : Ev ta Γ Ω (en (rTupL K A) xs) Ω1) (hl : Ev tb Γ Ω1 (en rInt hi) Ω2) (h0 : 0 ≤ hi) : Ev (tSl (rSlA K) ta tNoPart (tPart tb)) Γ Ω (en (rTupL K A) (xs.take hi.toNat)) Ω2 := fun W Hk0 H0 T σ H a Q q =>
  h W Hk0 H0 T σ H a _ fun x H1 a1 => hl W Hk0 H0 _ σ H1 a1 _ fun y H2 ⟨Hk2, a2⟩ => by
    have hy : y = .int hi := a2.tp (en rInt hi, y) (by simp)
    obtain ⟨p, vs, hx, hp, al⟩ := (show (rTupL K A).r xs x Hk2 from a2.tp (en (rTupL K A) xs, x) (by simp))
    have ec := cut_to (vs := vs) h0
    refine ⟨hi, hy, p, vs, hx, ex_t a2.gr.kh hp, fun hw => ?_, fun _ r hr => ?_⟩
    · rw [cut_whole hw] at ec
      exact q _ _ ⟨Hk2, (a2.sub (T' := T) fun z hz => by simp [hz]).push (e := en (rTupL K A) (xs.take hi.toNat)) ⟨p, vs, rfl, hp, by rw [ec]; exact al.take _⟩⟩
    · rw [ec]
      have g := Grow.new (W := []) (o := .tup (vs.take hi.toNat)) a2.gr.kh hr
      exact q _ _ ⟨_, ((a2.grow g).sub (T' := T) fun z hz => by simp [hz]).push (e := en (rTupL K A) (xs.take hi.toNat)) ⟨r, _, rfl, SqT.of upd_same, (al.take _).mono g.kk⟩⟩
theorem ev_slNTo {es : List En} {hi : Int} (h : Ev ta Γ Ω (enT K es) Ω1) (hl : Ev tb Γ Ω1 (en rInt hi) Ω2) (h0 : 0 ≤ hi) : Ev (tSl (rSlA K) ta tNoPart (tPart tb)) Γ Ω (enT K (es.take hi.toNat)) Ω2 := fun W Hk0 H0 T σ H a Q q =>
  h W Hk0 H0 T σ H a _ fun x H1 a1 => hl W Hk0 H0 _ σ H1 a1 _ fun y H2 ⟨Hk2, a2⟩ => by
    have hy : y = .int hi := a2.tp (en rInt hi, y) (by simp)
    obtain ⟨p, vs, hx, hp, al⟩ := (show (rMany K es).r () x Hk2 from a2.tp (enT K es, x) (by simp))
    have ec := cut_to (vs := vs) h0
    refine ⟨hi, hy, p, vs, hx, ex_t a2.gr.kh hp, fun hw => ?_, fun _ r hr => ?_⟩
    · rw [cut_whole hw] at ec
      exact q _ _ ⟨Hk2, (a2.sub (T' := T) fun z hz => by simp [hz]).push (e := enT K (es.take hi.toNat)) ⟨p, vs, rfl, hp, by rw [ec]; exact al.take _⟩⟩
    · rw [ec]
      have g := Grow.new (W := []) (o := .tup (vs.take hi.toNat)) a2.gr.kh hr
      exact q _ _ ⟨_, ((a2.grow g).sub (T' := T) fun z hz => by simp [hz]).push (e := enT K (es.take hi.toNat)) ⟨r, _, rfl, SqT.of upd_same, (al.take _).mono g.kk⟩⟩
theorem ev_slNFrom {es : List En} {lo : Int} (h : Ev ta Γ Ω (enT K es) Ω1) (hl : Ev tb Γ Ω1 (en rInt lo) Ω2) (h0 : 0 ≤ lo) : Ev (tSl (rSlA K) ta (tPart tb) tNoPart) Γ Ω (enT K (es.drop lo.toNat)) Ω2 := fun W Hk0 H0 T σ H a Q q =>
  h W Hk0 H0 T σ H a _ fun x H1 a1 => hl W Hk0 H0 _ σ H1 a1 _ fun y H2 ⟨Hk2, a2⟩ => by
    have hy : y = .int lo := a2.tp (en rInt lo, y) (by simp)
    obtain ⟨p, vs, hx, hp, al⟩ := (show (rMany K es).r () x Hk2 from a2.tp (enT K es, x) (by simp))
    have ec := cut_from (vs := vs) h0
    refine ⟨lo, hy, p, vs, hx, ex_t a2.gr.kh hp, fun hw => ?_, fun _ r hr => ?_⟩
    · rw [cut_whole hw] at ec
      exact q _ _ ⟨Hk2, (a2.sub (T' := T) fun z hz => by simp [hz]).push (e := enT K (es.drop lo.toNat)) ⟨p, vs, rfl, hp, by rw [ec]; exact al.drop _⟩⟩
    · rw [ec]
      have g := Grow.new (W := []) (o := .tup (vs.drop lo.toNat)) a2.gr.kh hr
      exact q _ _ ⟨_, ((a2.grow g).sub (T' := T) fun z hz => by simp [hz]).push (e := enT K (es.drop lo.toNat)) ⟨r, _, rfl, SqT.of upd_same, (al.drop _).mono g.kk⟩⟩
theorem rv_catN {es fs : List En} (h : es.length + fs.length ≤ 40000 := by simp) : RvE (rCatA K) (enT K es) (enT K fs) (enT K (es ++ fs)) := fun Hk H u y k h1 h2 Q q => by
  obtain ⟨p, vs, hu, hp, al⟩ := (show (rMany K es).r () u Hk from h1)
  obtain ⟨p2, vs2, hu2, hp2, al2⟩ := (show (rMany K fs).r () y Hk from h2)
  refine ⟨p, p2, vs, vs2, hu, hu2, ex_t k hp, ex_t k hp2, by rw [← al.len, ← al2.len]; exact Nat.le_trans h (by decide), fun z => ?_, fun _ z2 => ?_, fun _ _ r hr => ?_⟩
  · subst z
    cases es with
    | nil => exact q _ Hk H (.refl k) ⟨p2, vs2, rfl, hp2, al2⟩
    | cons _ _ => exact al.elim
  · subst z2
    cases fs with
    | nil => exact q _ Hk H (.refl k) ⟨p, vs, rfl, hp, by rw [List.append_nil]; exact al⟩
    | cons _ _ => exact al2.elim
  · have g := Grow.new (W := []) (o := .tup (vs ++ vs2)) k hr
    exact q _ _ _ g ⟨r, _, rfl, SqT.of upd_same, (al.append al2).mono g.kk⟩
theorem rc_abs {i : Int} : RcE (fun xs H Q => ∃ i, xs = [.int i] ∧ Q (.int (if i < 0 then -i else i)) H) [en rInt i] (en rInt (if i < 0 then -i else i)) := fun Hk H vs k o Q q => by
  obtain ⟨v, rfl, o1⟩ := ok1 o
  cases (show v = V.int i from o1)
  exact ⟨i, rfl, q _ Hk H (.refl k) rfl⟩
/-! ### x, y = e, [] and x, y = [], e -/
theorem q_parL2 {te : TE} {tz : TS} {D : Ends} {i j : Nat} (a : At W Hk0 H0 Γ Ω T σ H) (A : Rp α) (h : Ev te Γ Ω e Ω1) (k : ∀ p σ' H', p ∉ W → At W Hk0 H0 ((Γ.set i (some e)).set j (some (en rVal (.ref p)))) (lc A p [] :: Ω1) T σ' H' → tz D σ' H') : tSeq (tPar i j (tCons te (tCons (tLst tNil) tNil))) tz D σ H :=
  h W Hk0 H0 T σ H a _ fun v H1 ⟨Hk1, a1⟩ => ⟨Nat.zero_le _, fun p hp => by
    have b := a1.newCell (c := lc A p []) (o := .lst []) hp rfl ⟨[], rfl, .nil⟩
    exact ⟨v, .ref p, rfl, k p _ _ (At.notW ⟨Hk1, a1⟩ hp) ⟨Hk1, (b.unpush.set (e := e) i (b.tp (e, v) (by simp))).set (e := en rVal (.ref p)) j rfl⟩⟩⟩
theorem q_parL1 {te : TE} {tz : TS} {D : Ends} {i j : Nat} (a : At W Hk0 H0 Γ Ω T σ H) (A : Rp α) (h : ∀ p, Ev te Γ (lc A p [] :: Ω) e (lc A p [] :: Ω1)) (k : ∀ p σ' H', p ∉ W → At W Hk0 H0 ((Γ.set i (some (en rVal (.ref p)))).set j (some e)) (lc A p [] :: Ω1) T σ' H' → tz D σ' H') : tSeq (tPar i j (tCons (tLst tNil) (tCons te tNil))) tz D σ H := by
  refine ⟨Nat.zero_le _, fun p hp => ?_⟩
  obtain ⟨Hk, a⟩ := a
  have b := a.newCell (c := lc A p []) (o := .lst []) hp rfl ⟨[], rfl, .nil⟩
  have hw := At.notW ⟨Hk, a⟩ hp
  refine h p W Hk0 H0 _ σ _ ⟨Hk, b⟩ _ fun v H' ⟨Hk', a'⟩ => ?_
  exact ⟨.ref p, v, rfl, k p _ _ hw ⟨Hk', (a'.unpush.set (e := en rVal (.ref p)) i rfl).set (e := e) j (a'.tp (e, v) (by simp))⟩⟩
end
/-! ### rows: a name, period, duration, start, cost -/
def r5 (p : Str × Jb) : List En := [en rStr p.1, en rInt p.2.per, en rInt p.2.dur, en rInt p.2.st, en rInt p.2.co]
def rRow5 (K : PySem.W.Frag) : Rp (Str × Jb) := ⟨fun p v H => (rMany K (r5 p)).r () v H, fun {p _ _ _} k h => (rMany K (r5 p)).mono k h⟩
section
variable {Γ : Ctx} {Ω Ω1 : List Cell} {K : PySem.W.Frag} {te : TE} {r : Str × Jb}
theorem ev_many (h : Ev te Γ Ω (en (rRow5 K) r) Ω1) : Ev te Γ Ω (enT K (r5 r)) Ω1 := ev_to h fun _ _ h => h
theorem ev_row5 (r : Str × Jb) {es : List En} (h : Ev te Γ Ω (enT K es) Ω1) (e : es = r5 r) : Ev te Γ Ω (en (rRow5 K) r) Ω1 := by subst e; exact ev_to h fun _ _ h => h
theorem rv_r50 : RvE (rIxT K) (en (rRow5 K) r) (en rInt 0) (en rStr r.1) := rv_ixN (es := r5 r) (by decide) rfl
theorem rv_r51 : RvE (rIxT K) (en (rRow5 K) r) (en rInt 1) (en rInt r.2.per) := rv_ixN (es := r5 r) (by decide) rfl
theorem rv_r52 : RvE (rIxT K) (en (rRow5 K) r) (en rInt 2) (en rInt r.2.dur) := rv_ixN (es := r5 r) (by decide) rfl
theorem rv_r53 : RvE (rIxT K) (en (rRow5 K) r) (en rInt 3) (en rInt r.2.st) := rv_ixN (es := r5 r) (by decide) rfl
theorem rv_r54 : RvE (rIxT K) (en (rRow5 K) r) (en rInt 4) (en rInt r.2.co) := rv_ixN (es := r5 r) (by decide) rfl
end
end KA
namespace KA
open PySem PySem.Spec PyProof.Rows L2
/-! ### the pool of draws -/
def absI (i : Int) : Int := if i < 0 then -i else i
def cellB (ns : List Int) (k : Int) : Int := if k.toNat < ns.length then absI (ns.getD k.toNat 0) else drawV (absI ns.sum + 7919 * k) k 999983
theorem absI_pos (i : Int) : 0 ≤ absI i := by unfold absI; split <;> omega
theorem drawV_bd {c k b : Int} (h : 0 < b) : 0 ≤ drawV c k b ∧ drawV c k b < b := ⟨Int.emod_nonneg _ (by omega), Int.emod_lt_of_pos _ h⟩
theorem cellB_pos (ns : List Int) (k : Int) : 0 ≤ cellB ns k := by
  unfold cellB
  split
  · exact absI_pos _
  · exact (drawV_bd (by decide)).1
def leftB (c b : Int) : Nat → Int
  | 0 => c - 1000000000000000000
  | i + 1 => if 1000000000000000000 ≤ c then leftB c b i / b else leftB c b i
def digitB (c b : Int) (i : Nat) : Int := if 1000000000000000000 ≤ c then leftB c b i % b else
  (drawV ((c + 977 * (i : Int)) * (c + 31 * (i : Int) + 5)) ((i : Int) % 9 + 1) 999983 * 1000003 + drawV ((c + 31 * (i : Int)) * (c + 7) + 977 * (i : Int)) ((i : Int) % 7 + 2) 1000003) % b
def digitsB (c b : Int) (n : Nat) : List Int := (List.range n).map (digitB c b)
theorem digitsB_len (c b : Int) (n : Nat) : (digitsB c b n).length = n := by simp [digitsB]
theorem digitsB_succ (c b : Int) (n : Nat) : digitsB c b (n + 1) = digitsB c b n ++ [digitB c b n] := by simp [digitsB, List.range_succ]
theorem digitB_big {c b : Int} {i : Nat} (h : 1000000000000000000 ≤ c) : digitB c b i = leftB c b i % b := by unfold digitB; rw [if_pos h]
theorem digitB_small {c b : Int} {i : Nat} (h : ¬ 1000000000000000000 ≤ c) : digitB c b i = (drawV ((c + 977 * (i : Int)) * (c + 31 * (i : Int) + 5)) ((i : Int) % 9 + 1) 999983 * 1000003 + drawV ((c + 31 * (i : Int)) * (c + 7) + 977 * (i : Int)) ((i : Int) % 7 + 2) 1000003) % b := by unfold digitB; rw [if_neg h]
theorem leftB_succ {c b : Int} {i : Nat} (h : 1000000000000000000 ≤ c) : leftB c b (i + 1) = leftB c b i / b := by rw [leftB, if_pos h]
theorem leftB_stay {c b : Int} {i : Nat} (h : ¬ 1000000000000000000 ≤ c) : leftB c b (i + 1) = leftB c b i := by rw [leftB, if_neg h]
def takeV (ds : List Int) (n : Int) : Int := ds.headD 0 % n
theorem takeV_bd {ds : List Int} {n : Int} (h : 0 < n) : 0 ≤ takeV ds n ∧ takeV ds n < n := ⟨Int.emod_nonneg _ (by omega), Int.emod_lt_of_pos _ h⟩
def poolB (ns bs : List Int) (i : Nat) : List Int := (List.range i).flatMap fun (k : Nat) => digitsB (cellB ns (k : Int)) (bs.getD k default) 150
theorem poolB_succ (ns bs : List Int) (i : Nat) : poolB ns bs (i + 1) = poolB ns bs i ++ digitsB (cellB ns (i : Int)) (bs.getD i default) 150 := by simp [poolB, List.range_succ]
theorem poolB_len (ns bs : List Int) (i : Nat) : (poolB ns bs i).length = i * 150 := by
  induction i with
  | zero => rfl
  | succ i ih => rw [poolB_succ, List.length_append, ih, digitsB_len]; omega
section
variable {W : List Addr} {Hk0 H0 : Hp} {Γ : Ctx} {Ω : List Cell} {T : Tm} {σ : L2.St} {H : Hp} {K : PySem.W.Frag} {α : Type} {A : Rp α} {D : Ends} {tz : TS} {te : TE}
theorem q_app {p : Addr} {i : Nat} {xs : List α} {x : α} (a : At W Hk0 H0 Γ (lc A p xs :: Ω) T σ H) (hi : Γ[i]? = some (some (en rVal (.ref p)))) (hv : Ev te Γ (lc A p xs :: Ω) (en A x) (lc A p xs :: Ω)) (hl : xs.length ≤ 40000)
    (k : ∀ H', At W Hk0 H0 Γ (lc A p (xs ++ [x]) :: Ω) T σ H' → tz D σ H') : tSeq (tDrop (tBM K "list" rAppend (tVar i) (tCons te tNil))) tz D σ H := s_app (D := { D with nx := tz D }) a hi hv hl k
end
end KA
namespace KA
open PySem PySem.Spec PyProof.Rows L2
theorem cdivW {a b : Int} (h : 0 < b ∧ b < 1073741824) : CDivW a b := by
  have hb : b.natAbs ≠ 0 := by omega
  have : b.natAbs.log2 < 30 := (Nat.log2_lt hb).mpr (by omega)
  exact ⟨h.1, by omega⟩
end KA

/-! plans that are drawn from a pool -/
namespace KA
open PySem PySem.Spec PyProof.Rows L2
def nmsB : List Str := ["sync", "mail", "log", "a"]
theorem nmsB_ok : ∀ z ∈ nmsB, isNm z = true := by decide
theorem nmsB_nd : nmsB.Nodup := by decide
def persB : List Int := [4, 6, 2, 12, 3, 8, 9, 10, 5, 7, 1, 11]
structure DrB where
  ds : List Int
  rows : List (Str × Jb)
  left : Int
structure DrBOk (most : Int) (n i : Nat) (u : DrB) : Prop where
  ks : u.rows.map (·.1) = (nmsB.take n).take i
  l1 : 1 ≤ u.left
  p1 : 1 ≤ prodP u.rows
  pl : prodP u.rows * u.left ≤ most
theorem DrBOk.len {most : Int} {n i : Nat} {u : DrB} (h : DrBOk most n i u) (hn : n ≤ 4) (hi : i ≤ n) : u.rows.length = i := by
  have := congrArg List.length h.ks
  rw [List.length_map, List.length_take, List.length_take, show nmsB.length = 4 from rfl] at this
  omega
theorem DrBOk.pr {most : Int} {n i : Nat} {u : DrB} (h : DrBOk most n i u) : prodP u.rows ≤ most := by
  have h1 := h.l1
  have h2 := h.p1
  have := Int.mul_le_mul_of_nonneg_left h1 (show 0 ≤ prodP u.rows by omega)
  have h3 := h.pl
  omega
theorem DrBOk.tb {most : Int} {n : Nat} {u : DrB} (h : DrBOk most n n u) (hm : most ≤ 2000) (h1 : 1 ≤ n) (h4 : n ≤ 4) : TbOk u.rows := by
  have hl := h.len h4 (Nat.le_refl _)
  have hk : u.rows.map (·.1) = nmsB.take n := by rw [h.ks, List.take_of_length_le (by rw [List.length_take]; omega)]
  refine ⟨by omega, by omega, by rw [hk]; exact nmsB_nd.sublist (List.take_sublist _ _), fun p hp => ?_, Int.le_trans h.pr hm⟩
  refine nmsB_ok _ (List.mem_of_mem_take (i := n) ?_)
  rw [← hk]
  exact List.mem_map_of_mem hp
theorem DrBOk.step {most : Int} {n i : Nat} {u : DrB} (h : DrBOk most n i u) (hn : n ≤ 4) (hi : i < (nmsB.take n).length) (r : Jb) (ds' : List Int) (hp : r.per ≤ u.left) : DrBOk most n (i + 1) ⟨ds', u.rows ++ [((nmsB.take n).getD i default, r)], u.left / r.per⟩ := by
  have hr := r.ok
  have h1 := h.l1
  have h2 := h.p1
  have h3 := h.pl
  have d1 : 1 ≤ u.left / r.per := (Int.le_ediv_iff_mul_le (show 0 < r.per by omega)).mpr (by omega)
  have d2 : u.left / r.per * r.per ≤ u.left := Int.ediv_mul_le _ (by omega)
  refine ⟨?_, d1, ?_, ?_⟩
  · show (u.rows ++ [((nmsB.take n).getD i default, r)]).map (·.1) = _
    rw [List.map_append, h.ks, List.take_succ, getD_at hi]
    rfl
  · show 1 ≤ prodP (u.rows ++ [_])
    rw [prodP_app]
    have := Int.mul_le_mul_of_nonneg_left hr.1.1 (show 0 ≤ prodP u.rows by omega)
    omega
  · show prodP (u.rows ++ [_]) * (u.left / r.per) ≤ most
    rw [prodP_app, Int.mul_assoc, Int.mul_comm r.per]
    exact Int.le_trans (Int.mul_le_mul_of_nonneg_left d2 (by omega)) h3
theorem getD_all' {P : Int → Prop} {xs : List Int} (h : ∀ x ∈ xs, P x) {n : Nat} (hn : n < xs.length) : P (xs.getD n 1) := by
  rw [List.getD_eq_getElem?_getD, List.getElem?_eq_getElem hn]
  exact h _ (List.getElem_mem hn)
theorem persB_at {x y : Int} (hx : 0 ≤ x ∧ x < 12) (hy : 0 ≤ y ∧ y < 12) : 0 ≤ x * y / 12 ∧ (x * y / 12).toNat < 12 ∧ 1 ≤ persB.getD (x * y / 12).toNat 1 ∧ persB.getD (x * y / 12).toNat 1 ≤ 12 := by
  have h0 : 0 ≤ x * y := Int.mul_nonneg hx.1 hy.1
  have h1 : x * y ≤ 11 * 11 := Int.mul_le_mul (by omega) (by omega) hy.1 (by decide)
  have hz : (x * y / 12).toNat < 12 := by omega
  refine ⟨by omega, hz, ?_⟩
  exact getD_all' (P := fun p => 1 ≤ p ∧ p ≤ 12) (by decide) hz
/-- every two of a list, the earlier first, of the first i -/
def pairsGTo {α : Type} [Inhabited α] (zs : List α) (i : Nat) : List (α × α) := (List.range i).flatMap fun k => (zs.drop (k + 1)).map fun o => (zs.getD k default, o)
def pairsG {α : Type} [Inhabited α] (zs : List α) : List (α × α) := pairsGTo zs zs.length
section
variable {α : Type} [Inhabited α]
theorem pairsGTo_succ (zs : List α) (i : Nat) : pairsGTo zs (i + 1) = pairsGTo zs i ++ (zs.drop (i + 1)).map fun o => (zs.getD i default, o) := by
  unfold pairsGTo
  rw [List.range_succ, List.flatMap_append]
  simp
theorem pairsGTo_len (zs : List α) (i : Nat) : (pairsGTo zs i).length ≤ zs.length * i := by
  induction i with
  | zero => simp [pairsGTo]
  | succ i ih =>
    rw [pairsGTo_succ, List.length_append, List.length_map, List.length_drop, Nat.mul_succ]
    omega
theorem pairsG_mem {zs : List α} {p : α × α} (h : p ∈ pairsG zs) : ∃ a b : Nat, zs[a]? = some p.1 ∧ zs[b]? = some p.2 ∧ a < b := by
  unfold pairsG pairsGTo at h
  obtain ⟨k, hk, h⟩ := List.mem_flatMap.mp h
  obtain ⟨o, ho, rfl⟩ := List.mem_map.mp h
  have hk := List.mem_range.mp hk
  obtain ⟨j, hj, e⟩ := List.getElem_of_mem ho
  rw [List.length_drop] at hj
  refine ⟨k, k + 1 + j, getD_at hk, ?_, by omega⟩
  rw [List.getElem?_eq_getElem (show k + 1 + j < zs.length by omega), ← e, List.getElem_drop]
end
/-- the rows of a plan moved on, as many as there are shifts -/
def movedV (m : List (Str × Jb)) (xs : List Int) (n : Nat) : List (Str × Jb) := (List.range n).map fun i => ((m.getD i default).1, (m.getD i default).2.shift (xs.getD i default))
end KA

/-! lists of one's own that a def hands over; short lists; is of truth values -/
namespace KA
open PySem PySem.Spec PyProof.Rows L2
section
variable {W : List Addr} {Hk0 H0 : Hp} {Γ Γ' : Ctx} {Ω Ω' Ω1 Ω2 Ω3 : List Cell} {T T' : Tm} {σ σ' : L2.St} {Hk H : Hp} {K : PySem.W.Frag}
variable {te ta tb td : TE} {tt tu : TT} {D : Ends} {e e1 e2 : En} {b b2 : Bool} {ts tz tbd : TS} {α β γ : Type} {A : Rp α} {B : Rp β} {xs : List α} {n j : Nat}
/-- what comes back may be new -/
theorem AtH.paid2 {Hk' H' : Hp} (a : AtH W Hk0 H0 Γ (Ω ++ Ω2) T σ Hk H) (b : AtH (adr Ω) Hk H [] Ω' T' [] Hk' H') : AtH W Hk0 H0 Γ (Ω' ++ Ω2) (T' ++ T) σ Hk' H' := by
  have dis : ∀ x ∈ adr Ω, ∀ y ∈ Ω2.map Cell.a, x ≠ y := by
    have h := a.nd
    rw [List.map_append, List.nodup_append] at h
    exact h.2.2
  have live : ∀ y ∈ Ω2.map Cell.a, H y ≠ none := fun y hy z => by
    obtain ⟨c, hc, rfl⟩ := List.mem_map.mp hy
    obtain ⟨_, ⟨o, h2, _⟩, _⟩ := a.cl c (List.mem_append_right _ hc)
    rw [z] at h2
    cases h2
  refine ⟨a.len, fun i e q => let ⟨v, h1, h2⟩ := a.sl i e q; ⟨v, h1, En.mono b.gr.kk h2⟩, fun p hp => ?_, ?_, fun c hc => ?_, ?_, fun x w => ⟨b.gr.stay (a.ww x w).1, b.gr.nw x (a.ww x w).2 (a.ww x w).1⟩⟩
  · rcases List.mem_append.mp hp with hp | hp
    · exact b.tp p hp
    · exact En.mono b.gr.kk (a.tp p hp)
  · rw [List.map_append]
    have h := a.nd
    rw [List.map_append, List.nodup_append] at h
    refine List.nodup_append.mpr ⟨b.nd, h.2.1, fun x hx y hy z => ?_⟩
    obtain ⟨c, hc, rfl⟩ := List.mem_map.mp hx
    rcases (b.cl c hc).2.2 with w | w
    · exact dis _ w y hy z
    · exact live y hy (z ▸ w)
  · rcases List.mem_append.mp hc with hc | hc
    · obtain ⟨h1, h2, h3⟩ := b.cl c hc
      refine ⟨h1, h2, ?_⟩
      rcases h3 with h3 | h3
      · obtain ⟨d, hd, hz⟩ := List.mem_map.mp h3
        rw [← hz]
        exact (a.cl d (List.mem_append_left _ hd)).2.2
      · by_cases w : c.a ∈ W
        · exact .inl w
        · refine .inr ?_
          cases q : H0 c.a with
          | none => rfl
          | some u => rw [a.gr.hh _ _ w q] at h3; cases h3
    · obtain ⟨h1, ⟨o, h2, h3⟩, h4⟩ := a.cl c (List.mem_append_right _ hc)
      exact ⟨b.gr.nw _ h1 (by rw [h2]; intro z; cases z), ⟨o, b.gr.hh _ _ (fun w => dis _ w _ (List.mem_map_of_mem hc) rfl) h2, c.mono b.gr.kk h3⟩, h4⟩
  · exact ⟨a.gr.kk.trans b.gr.kk, b.gr.kh, fun x o w ex => b.gr.hh x o (fun w' => by
      obtain ⟨d, hd, hz⟩ := List.mem_map.mp w'
      have := (a.cl d (List.mem_append_left _ hd)).2.2
      rw [hz] at this
      rcases this with h | h
      · exact w h
      · rw [ex] at h; cases h) (a.gr.hh x o w ex), fun x h1 h2 => b.gr.nw x (a.gr.nw x h1 h2) (a.gr.stay h2), fun x w h => b.gr.stay (a.gr.ws x w h)⟩
theorem s_setF {S : SigW} {ta : TA} {es : List En} {E : XK} {i : Nat} {R : En → List Cell → Prop} (a : At W Hk0 H0 Γ Ω T σ H) (h : EvA ta Γ Ω es (Ω1 ++ Ω2)) (hs : S es Ω1 R)
    (k : ∀ e Ω' σ' H', R e Ω' → At W Hk0 H0 (Γ.set i (some e)) (Ω' ++ Ω2) T σ' H' → D.nx σ' H') : tAsg (tCall (spW S) [] E ta) (gName i) D σ H :=
  h W Hk0 H0 T σ H a _ fun vs H1 hlv ⟨Hk1, a1⟩ => by
    refine ⟨es, Ω1, R, Hk1, hs, by simp [hlv], ⟨Hk1, { a1.lend with tp := fun p hp => ?_ }⟩, a1.gr.kh, fun e Ω' v H' T' σ' hR ⟨Hk', b⟩ => ?_⟩
    · exact a1.tp p (by simp at hp; simp [hp])
    · have b' : AtH (adr Ω1) Hk1 H1 [] Ω' ((e, v) :: T') [] Hk' H' := { b with len := rfl, sl := fun i e q => by simp at q }
      have c := a1.paid2 b'
      have hv : e.ok v Hk' := c.tp (e, v) (by simp)
      exact k e Ω' _ H' hR ⟨Hk', (c.sub (T' := T) fun p hp => by simp [hp]).set i hv⟩
/-- x = f(..), what f makes is the caller's own -/
theorem q_setF {S : SigW} {ta : TA} {es : List En} {E : XK} {i : Nat} {R : En → List Cell → Prop} (a : At W Hk0 H0 Γ Ω T σ H) (h : EvA ta Γ Ω es (Ω1 ++ Ω2)) (hs : S es Ω1 R)
    (k : ∀ e Ω' σ' H', R e Ω' → At W Hk0 H0 (Γ.set i (some e)) (Ω' ++ Ω2) T σ' H' → tz D σ' H') : tSeq (tAsg (tCall (spW S) [] E ta) (gName i)) tz D σ H := s_setF (D := { D with nx := tz D }) a h hs k
/-- xs = xs + e, xs of one's own -/
theorem s_catC {p : Addr} {i : Nat} {ys : List α} (a : At W Hk0 H0 Γ (lc A p xs :: Ω) T σ H) (hi : Γ[i]? = some (some (en rVal (.ref p)))) (h : Ev tb Γ (lc A p xs :: Ω) (en (rList A) ys) (lc A p xs :: Ω)) (hl : xs.length + ys.length ≤ 40000)
    (k : ∀ q σ' H', At W Hk0 H0 (Γ.set i (some (en rVal (.ref q)))) (lc A q (xs ++ ys) :: Ω) T σ' H' → D.nx σ' H') : tAsg (tOp rCat (tVar i) tb) (gName i) D σ H := by
  have a0 := a
  obtain ⟨Hk, a⟩ := a
  obtain ⟨u, h1, h2⟩ := a.sl i _ hi
  have hu : u = .ref p := h2
  subst hu
  refine ⟨_, h1, h W Hk0 H0 T σ H a0 _ fun y H1 ⟨Hk1, a1⟩ => ?_⟩
  obtain ⟨p2, ws, hy, hp2, al2⟩ := (show (rList A).r ys y Hk1 from a1.tp (en (rList A) ys, y) (by simp))
  obtain ⟨_, ⟨o, g2, vs, rfl, al⟩, _⟩ := a1.cl _ (List.mem_cons_self ..)
  refine ⟨p, p2, vs, ws, rfl, hy, g2, a1.gr.kh.lst hp2, by rw [← al.len, ← al2.len]; exact Nat.le_trans hl (by decide), fun r hr => ?_⟩
  have b := a1.unpush.newCell (c := lc A r (xs ++ ys)) (o := .lst (vs ++ ws)) hr rfl ⟨_, rfl, al.append al2⟩
  have b2 : At W Hk0 H0 Γ (lc A r (xs ++ ys) :: Ω) T σ _ := (At.swap ⟨Hk1, b⟩).forget
  obtain ⟨Hk2, b2⟩ := b2
  exact k r _ _ ⟨Hk2, b2.set (e := en rVal (.ref r)) i rfl⟩
/-! ### short lists -/
theorem ev_lst1 {ta : TA} {x : α} (h : EvA ta Γ Ω [en A x] Ω1) : Ev (tLst ta) Γ Ω (en (rList A) [x]) Ω1 := ev_lst [x] h rfl (by simp)
theorem ev_lst2 {ta : TA} {x y : α} (h : EvA ta Γ Ω [en A x, en A y] Ω1) : Ev (tLst ta) Γ Ω (en (rList A) [x, y]) Ω1 := ev_lst [x, y] h rfl (by simp)
theorem ev_lst3 {ta : TA} {x y z : α} (h : EvA ta Γ Ω [en A x, en A y, en A z] Ω1) : Ev (tLst ta) Γ Ω (en (rList A) [x, y, z]) Ω1 := ev_lst [x, y, z] h rfl (by simp)
theorem ev_lst4 {ta : TA} {x y z w : α} (h : EvA ta Γ Ω [en A x, en A y, en A z, en A w] Ω1) : Ev (tLst ta) Γ Ω (en (rList A) [x, y, z, w]) Ω1 := ev_lst [x, y, z, w] h rfl (by simp)
theorem ev_lst5 {ta : TA} {x y z w u : α} (h : EvA ta Γ Ω [en A x, en A y, en A z, en A w, en A u] Ω1) : Ev (tLst ta) Γ Ω (en (rList A) [x, y, z, w, u]) Ω1 := ev_lst [x, y, z, w, u] h rfl (by simp)
theorem rv_isB {i j : Bool} : RvE (fun x y H Q => ∃ a b, x = .bl a ∧ y = .bl b ∧ Q (.bl (decide (a = b))) H) (en rBool i) (en rBool j) (en rBool (decide (i = j))) := fun Hk H x y k h1 h2 Q q => by
  cases (show x = V.bl i from h1)
  cases (show y = V.bl j from h2)
  exact ⟨i, j, rfl, rfl, q _ Hk H (.refl k) rfl⟩
theorem rv_isnB {i j : Bool} : RvE (fun x y H Q => ∃ a b, x = .bl a ∧ y = .bl b ∧ Q (.bl (!decide (a = b))) H) (en rBool i) (en rBool j) (en rBool (!decide (i = j))) := fun Hk H x y k h1 h2 Q q => by
  cases (show x = V.bl i from h1)
  cases (show y = V.bl j from h2)
  exact ⟨i, j, rfl, rfl, q _ Hk H (.refl k) rfl⟩
theorem q_par3 {i j l : Nat} {e3 : En} {ta : TA} (a : At W Hk0 H0 Γ Ω T σ H) (h : EvA ta Γ Ω [e1, e2, e3] Ω1) (k : ∀ σ' H', At W Hk0 H0 (((Γ.set i (some e1)).set j (some e2)).set l (some e3)) Ω1 T σ' H' → tz D σ' H') : tSeq (tPar3 i j l ta) tz D σ H :=
  h W Hk0 H0 T σ H a _ fun vs H' hl ⟨Hk, a'⟩ => by
    match vs, hl with
    | [u, v, w], _ => exact ⟨u, v, w, rfl, k _ _ ⟨Hk, (((a'.sub (T' := T) fun p hp => by simp [hp]).set (e := e1) i (a'.tp (e1, u) (by simp))).set (e := e2) j (a'.tp (e2, v) (by simp))).set (e := e3) l (a'.tp (e3, w) (by simp))⟩⟩
theorem ev_opt {i : Nat} {x : α} (h : Ev te Γ Ω (en (rOpt A) (some x)) Ω1) : Ev te Γ Ω (en A x) Ω1 := ev_to h fun _ _ h => h
end
/-! ### reasons -/
theorem reason_apart {i j : Jb} {d x : Int} (h : reasonJ i j d x = true) : apartJ i j = true := by
  rw [← reason_any]
  unfold reasonJ at h
  simp only [Bool.and_eq_true, decide_eq_true_eq] at h
  obtain ⟨⟨h1, h2, h3⟩, h4, h5⟩ := h
  have hi := i.ok
  have hd : d ≤ 12 := by
    have : d ∣ i.per := Int.dvd_of_emod_eq_zero h2
    have := Int.le_of_dvd (by omega) this
    omega
  refine List.any_eq_true.mpr ⟨true, List.mem_map.mpr ⟨(d - 1).toNat, List.mem_range.mpr (by omega), ?_⟩, rfl⟩
  rw [show 1 + (((d - 1).toNat : Nat) : Int) = d by omega]
  unfold reasonJ
  simp [h1, h2, h3, h5]
theorem apart_reason {i j : Jb} (h : apartJ i j = true) : ∃ k : Nat, k < 12 ∧ reasonJ i j (1 + (k : Int)) ((j.st - i.st) % (1 + (k : Int))) = true := by
  rw [← reason_any] at h
  obtain ⟨b, hb, hb2⟩ := List.any_eq_true.mp h
  obtain ⟨k, hk, e⟩ := List.mem_map.mp hb
  exact ⟨k, List.mem_range.mp hk, e.trans hb2⟩
theorem common_runs {i j : Jb} {t : Int} (h : commonT i j = some t) : 0 ≤ t ∧ runs i t = true ∧ runs j t = true := by
  unfold commonT at h
  obtain ⟨k, hk, rfl⟩ := Option.map_eq_some_iff.mp h
  have := (firstAt_spec hk).2.1
  unfold meetJ at this
  rw [Bool.and_eq_true] at this
  exact ⟨Int.natCast_nonneg k, this⟩
end KA
namespace KA
open PySem PySem.Spec PyProof.Rows L2
section
variable {W : List Addr} {Hk0 H0 : Hp} {Γ : Ctx} {Ω Ω1 Ω2 : List Cell} {T : Tm} {σ : L2.St} {H : Hp} {K : PySem.W.Frag} {ta tb : TE} {tt tu : TT} {c d : Bool}
/-- script[:hi] -/
theorem ev_slScr {ns : List Int} {hi : Int} (h : Ev ta Γ Ω (en (rScr K) ns) Ω1) (hl : Ev tb Γ Ω1 (en rInt hi) Ω2) (h0 : 0 ≤ hi) : Ev (tSl (rSlL K) ta tNoPart (tPart tb)) Γ Ω (en (rList rInt) (ns.take hi.toNat)) Ω2 := fun W Hk0 H0 T σ H a Q q =>
  h W Hk0 H0 T σ H a _ fun x H1 a1 => hl W Hk0 H0 _ σ H1 a1 _ fun y H2 ⟨Hk2, a2⟩ => by
    have hy : y = .int hi := a2.tp (en rInt hi, y) (by simp)
    obtain ⟨p, hx, hp⟩ := (show (rScr K).r ns x Hk2 from a2.tp (en (rScr K) ns, x) (by simp))
    refine ⟨hi, hy, p, ns.map V.int, hx, ex_l a2.gr.kh hp, fun r hr => ?_⟩
    rw [cut_to h0, ← List.map_take]
    have g := Grow.new (W := []) (o := .lst ((ns.take hi.toNat).map V.int)) a2.gr.kh hr
    exact q _ _ ⟨_, ((a2.grow g).sub (T' := T) fun z hz => by simp [hz]).push (e := en (rList rInt) (ns.take hi.toNat)) ⟨r, _, rfl, upd_same, Al.of_map_int⟩⟩
theorem eb_orF (h1 : EvB tt Γ Ω c Ω1) (hc : c = false) (h2 : EvB tu Γ Ω1 d Ω2) : EvB (tOr tt tu) Γ Ω d Ω2 := fun W Hk0 H0 T σ H a Q q =>
  h1 W Hk0 H0 T σ H a _ fun H' a' => by
    subst hc
    exact h2 W Hk0 H0 T σ H' a' Q q
theorem eb_andT (h1 : EvB tt Γ Ω c Ω1) (hc : c = true) (h2 : EvB tu Γ Ω1 d Ω2) : EvB (tAnd tt tu) Γ Ω d Ω2 := fun W Hk0 H0 T σ H a Q q =>
  h1 W Hk0 H0 T σ H a _ fun H' a' => by
    subst hc
    exact h2 W Hk0 H0 T σ H' a' Q q
end
end KA
namespace KA
/-- what has been found of n divisors -/
structure FdOk (i j : Jb) (n : Nat) (l : List (Int × Int)) : Prop where
  ap : l ≠ [] → apartJ i j = true
  all : ∀ k : Nat, k < n → 0 < -1 + (k : Int) → reasonJ i j (-1 + (k : Int)) ((j.st - i.st) % (-1 + (k : Int))) = true → l ≠ []
  len : l.length ≤ 2 * n
theorem FdOk.zero (i j : Jb) : FdOk i j 0 [] := ⟨fun h => (h rfl).elim, fun k hk => by omega, by simp⟩
theorem FdOk.done {i j : Jb} {l : List (Int × Int)} (h : FdOk i j ((14 : Int) - -1).toNat l) : decide (l = []) = !apartJ i j := by
  cases hl : apartJ i j with
  | true =>
    obtain ⟨k, hk, hr⟩ := apart_reason hl
    have := h.all (k + 2) (show k + 2 < 15 by omega) (by omega) (by rw [show -1 + ((k + 2 : Nat) : Int) = 1 + (k : Int) by omega]; exact hr)
    simpa using this
  | false =>
    cases l with
    | nil => rfl
    | cons x l => have := h.ap (by simp); rw [hl] at this; cases this
structure FdStep (i j : Jb) (l0 ps : List (Int × Int)) (q : Nat) (l : List (Int × Int)) : Prop where
  ap : l ≠ [] → apartJ i j = true
  old : l0 ≠ [] → l ≠ []
  new : ∀ k p, k < q → ps[k]? = some p → reasonJ i j p.1 p.2 = true → l ≠ []
  len : l.length ≤ l0.length + q
theorem FdStep.zero {i j : Jb} {l ps : List (Int × Int)} {n : Nat} (h : FdOk i j n l) : FdStep i j l ps 0 l := ⟨h.ap, fun h => h, fun k p hk => by omega, Nat.le_refl _⟩
theorem FdStep.step {i j : Jb} {l0 ps l : List (Int × Int)} {q : Nat} (h : FdStep i j l0 ps q l) (hq : q < ps.length) : FdStep i j l0 ps (q + 1) (l ++ if reasonJ i j (ps.getD q default).1 (ps.getD q default).2 = true then [ps.getD q default] else []) := by
  refine ⟨fun hl => ?_, fun h0 => by simp [h.old h0], fun k p hk hp hr => ?_, ?_⟩
  · by_cases z : reasonJ i j (ps.getD q default).1 (ps.getD q default).2 = true
    · exact reason_apart z
    · rw [if_neg z, List.append_nil] at hl
      exact h.ap hl
  · by_cases z : k < q
    · have := h.new k p z hp hr
      simp [this]
    · have z : k = q := by omega
      subst z
      rw [getD_at hq] at hp
      cases hp
      rw [if_pos hr]
      simp
  · have := h.len
    rw [List.length_append]
    split <;> simp <;> omega
theorem FdStep.done {i j : Jb} {l0 l : List (Int × Int)} {n : Nat} {p1 p2 : Int × Int} (h0 : FdOk i j n l0) (h : FdStep i j l0 [p1, p2] [p1, p2].length l) (h1 : p1.1 = -1 + (n : Int) := by rfl) (h2 : 0 < -1 + (n : Int) → p1.2 = (j.st - i.st) % (-1 + (n : Int)) := by intro h; exact if_pos h) : FdOk i j (n + 1) l := by
  refine ⟨h.ap, fun k hk hp hr => ?_, ?_⟩
  · by_cases z : k < n
    · exact h.old (h0.all k z hp hr)
    · have z : k = n := by omega
      subst z
      exact h.new 0 p1 (by simp) rfl (by rw [h1, h2 hp]; exact hr)
  · have := h.len
    have := h0.len
    simp at *
    omega
end KA

/-! == of lists and tuples whose items have an own ==: both answers -/
namespace KA
open PySem PySem.Spec PyProof.Rows L2
open MeetsSeq3 MeetsSeq2
open AutoSeq1 (wpAny_loadPart')
section
variable {prog : Program} {w : World} {A : Around} {R : Result → Shared → Prop}
theorem leq_loop (l b : Addr) (N : Nat) (bs : Nat → Bool) (J : Nat → Shared → Prop)
    (look : ∀ i s, J i s → ∃ (us vs : Array Value) (n m : Nat), s.heap.get? l = some { cls := .type "list", data := .seq us n } ∧ s.heap.get? b = some { cls := .type "list", data := .seq vs m } ∧ us.size = N ∧ vs.size = N ∧
      ∀ (h1 : i < us.size) (h2 : i < vs.size), wpAny (model prog w) A.in1 (eqBool us[i] vs[i]) (fun r s' => r = bs i ∧ J (i + 1) s') (fun e s' => R (.error e) s') s)
    (yes : ∀ s, (∀ i, i < N → bs i = true) → J N s → R (.ok (.ret (.bool true))) s) (no : ∀ i s, i < N → bs i = false → J (i + 1) s → R (.ok (.ret (.bool false))) s) (k : Nat) :
    ∀ i : Nat, N - i = k → i ≤ N → (∀ j, j < i → bs j = true) → ∀ s, J i s → wpAny (model prog w) A.in1 (Builtin.«list.__eq__.loop» ⟨[.ref l, .ref b, rawInt i, rawInt 2], []⟩) (GQ.FinOf prog w A R) (fun e s' => R (.error e) s') s := by
  induction k with
  | zero =>
    intro i hk hi hb s h
    obtain ⟨us, vs, n, m, g1, g2, z1, z2, _⟩ := look _ _ h
    have e : i = N := by omega
    have fin : R (.ok (.ret (.bool true))) s := yes s (e ▸ hb) (e ▸ h)
    obtain ⟨p1, p2, p3, p4, p5⟩ := s
    wp_walk using wpAny_loadPart' g1, wpAny_loadPart' g2
    have n1 : us[((i : Nat) : Int).toNat]? = none := by simp; omega
    have n2 : vs[((i : Nat) : Int).toNat]? = none := by simp; omega
    rw [n1, n2]
    wp_walk using wpAny_loadPart' g1, wpAny_loadPart' g2
    show R (.ok (.ret (.bool (us.size == vs.size)))) _
    rw [z1, z2]
    simpa using fin
  | succ k ih =>
    intro i hk hi hb s h
    obtain ⟨us, vs, n, m, g1, g2, z1, z2, turn⟩ := look _ _ h
    have l1 : i < us.size := by omega
    have l2 : i < vs.size := by omega
    have tt := turn l1 l2
    obtain ⟨p1, p2, p3, p4, p5⟩ := s
    wp_walk using wpAny_loadPart' g1, wpAny_loadPart' g2
    have n1 : us[((i : Nat) : Int).toNat]? = some us[i] := by simp [l1]
    have n2 : vs[((i : Nat) : Int).toNat]? = some vs[i] := by simp [l2]
    have nx : ((i : Int) + 1) = ((i + 1 : Nat) : Int) := by omega
    rw [n1, n2]
    refine wpAny_bind (wpAny_mono tt (fun r t q => ?_) fun _ _ x => x)
    obtain ⟨q1, q2⟩ := q
    subst q1
    cases hbi : bs i with
    | true =>
      have rec_ := ih (i + 1) (by omega) (by omega) (fun j hj => by
        by_cases z : j < i
        · exact hb j z
        · rw [show j = i by omega]; exact hbi) t q2
      obtain ⟨t1, t2, t3, t4, t5⟩ := t
      wp_walk
      rw [nx]
      exact ⟨plainId_quiet plain_eq_loop _, codeAny_builtin entry_eq_loop (by rw [Around.under_plainId plain_eq_loop _]; exact rec_)⟩
    | false =>
      have fin := no i t (by omega) hbi q2
      obtain ⟨us', vs', n', m', g1', g2', z1', z2', _⟩ := look _ _ q2
      obtain ⟨t1, t2, t3, t4, t5⟩ := t
      have o1 : us'[((i : Nat) : Int).toNat]? = some (us'[i]'(by omega)) := by simp
      have o2 : vs'[((i : Nat) : Int).toNat]? = some (vs'[i]'(by omega)) := by simp
      wp_walk using wpAny_loadPart' g1', wpAny_loadPart' g2'
      rw [o1, o2]
      wp_walk
      exact fin
end
end KA
namespace KA
open PySem PySem.Spec PyProof.Rows L2
open MeetsSeq3 MeetsSeq2
open AutoSeq1 (wpAny_loadPart')
section
variable {prog : Program} {w : World} {A : Around} {R : Result → Shared → Prop} {E : Value → Shared → Prop}
theorem leq_list (l b : Addr) (N : Nat) (bs : Nat → Bool) (J : Nat → Shared → Prop)
    (look : ∀ i s, J i s → ∃ (us vs : Array Value) (n m : Nat), s.heap.get? l = some { cls := .type "list", data := .seq us n } ∧ s.heap.get? b = some { cls := .type "list", data := .seq vs m } ∧ us.size = N ∧ vs.size = N ∧
      ∀ (h1 : i < us.size) (h2 : i < vs.size), wpAny (model prog w) A.in1 (eqBool us[i] vs[i]) (fun r s' => r = bs i ∧ J (i + 1) s') (fun e s' => R (.error e) s') s)
    (yes : ∀ s, (∀ i, i < N → bs i = true) → J N s → R (.ok (.ret (.bool true))) s) (no : ∀ i s, i < N → bs i = false → J (i + 1) s → R (.ok (.ret (.bool false))) s) {s : Shared} (h : J 0 s) :
    wpAny (model prog w) A.in1 (Builtin.«list.__eq__» ⟨[.ref l, .ref b], []⟩) (GQ.FinOf prog w A R) (fun e s' => R (.error e) s') s := by
  obtain ⟨us, vs, n, m, g1, g2, z1, z2, _⟩ := look _ _ h
  have rec_ := leq_loop (A := A) (R := R) l b N bs J look yes no _ 0 rfl (Nat.zero_le _) (fun j hj => by omega) s h
  obtain ⟨p1, p2, p3, p4, p5⟩ := s
  have sb := AutoSeq1.sub_list_list
  have ne : ¬ (us.size != vs.size) = true := by simp [z1, z2]
  wp_walk using wpAny_loadPart' g1, wpAny_loadPart' g2
  exact ⟨plainId_quiet plain_eq_loop _, codeAny_builtin entry_eq_loop (by rw [Around.under_plainId plain_eq_loop _]; exact rec_)⟩
/-- lists of different lengths -/
theorem leq_len (l b : Addr) {us vs : Array Value} {n m : Nat} {s : Shared} (g1 : s.heap.get? l = some { cls := .type "list", data := .seq us n }) (g2 : s.heap.get? b = some { cls := .type "list", data := .seq vs m }) (z : us.size ≠ vs.size) (fin : R (.ok (.ret (.bool false))) s) :
    wpAny (model prog w) A.in1 (Builtin.«list.__eq__» ⟨[.ref l, .ref b], []⟩) (GQ.FinOf prog w A R) (fun e s' => R (.error e) s') s := by
  obtain ⟨p1, p2, p3, p4, p5⟩ := s
  have sb := AutoSeq1.sub_list_list
  have ne : (us.size != vs.size) = true := by simpa using z
  wp_walk using wpAny_loadPart' g1, wpAny_loadPart' g2
  exact fin
theorem leq_tup (l b : Addr) (us vs : Array Value) (n m : Nat) (d1 d2 : Option Addr) (o1 o2 : Array (Option Value)) (bs : Nat → Bool) (J : Nat → Shared → Prop)
    (turn : ∀ i (h1 : i < us.size) (h2 : i < vs.size) s, J i s → wpAny (model prog w) A.in1 (eqBool us[i] vs[i]) (fun r s' => r = bs i ∧ J (i + 1) s') (fun e s' => R (.error e) s') s)
    (yes : ∀ s, (∀ i, i < us.size → bs i = true) → J us.size s → R (.ok (.ret (.bool true))) s) (no : ∀ i s, i < us.size → bs i = false → J (i + 1) s → R (.ok (.ret (.bool false))) s) (hz : us.size = vs.size) {s : Shared}
    (g1 : s.heap.get? l = some { cls := .type "tuple", dict := d1, data := .seq us n, slots := o1 }) (g2 : s.heap.get? b = some { cls := .type "tuple", dict := d2, data := .seq vs m, slots := o2 }) (h : J 0 s) :
    wpAny (model prog w) A.in1 (Builtin.«tuple.__eq__» ⟨[.ref l, .ref b], []⟩) (GQ.FinOf prog w A R) (fun e s' => R (.error e) s') s := by
  have sb := AutoSeq1.sub_tuple_tuple
  have hl : (us.toList.zip vs.toList).length = us.size := by simp [hz]
  have h0 := h
  obtain ⟨p1, p2, p3, p4, p5⟩ := s
  wp_walk using wpAny_loadPart' g1, wpAny_loadPart' g2, wpAny_forIn_list _ (fun rest b s' => b.1 = none ∧ ∃ i, rest = (us.toList.zip vs.toList).drop i ∧ i ≤ us.size ∧ (∀ j, j < i → bs j = true) ∧ J i s') _
  case turn =>
    rintro ⟨y, x⟩ rest b s' ⟨hb', i, hr, hi, hj, hJ⟩
    have lt : i < (us.toList.zip vs.toList).length := Nat.lt_of_not_le fun z => by rw [List.drop_of_length_le z] at hr; cases hr
    have l1 : i < us.size := hl ▸ lt
    have l2 : i < vs.size := hz ▸ l1
    rw [List.drop_eq_getElem_cons lt] at hr
    injection hr with hyx hre
    obtain rfl : y = us[i] := by have := congrArg Prod.fst hyx; simpa using this
    obtain rfl : x = vs[i] := by have := congrArg Prod.snd hyx; simpa using this
    refine wpAny_bind (wpAny_mono (turn i l1 l2 s' hJ) (fun r t q => ?_) fun _ _ x => x)
    obtain ⟨q1, q2⟩ := q
    subst q1
    cases hbi : bs i with
    | true =>
      wp_walk
      exact ⟨rfl, i + 1, hre, l1, fun j hj' => by
        by_cases z : j < i
        · exact hj j z
        · rw [show j = i by omega]; exact hbi, q2⟩
    | false =>
      wp_walk
      exact no i t l1 hbi q2
  case fin =>
    rintro ⟨b1, b2⟩ s' ⟨hb', i, hr, hi, hj, hJ⟩
    simp only at hb'
    subst hb'
    have ge : us.size ≤ i := Nat.le_of_not_lt fun z => by rw [List.drop_eq_getElem_cons (hl ▸ z)] at hr; cases hr
    have e : i = us.size := by omega
    have fin : R (.ok (.ret (.bool true))) s' := yes s' (e ▸ hj) (e ▸ hJ)
    wp_walk
    simpa [Builtin.Tuple.tupleCompareSizes, hz] using fin
  case h => exact ⟨rfl, 0, rfl, Nat.zero_le _, fun j hj => by omega, h0⟩
end
end KA

/-! == by an own ==, kind by kind -/
namespace KA
open PySem PySem.Spec PyProof.Rows L2
open He (ga ma)
/-- what a kind needs: the thing is known by its value; == inside a container -/
structure EqK (X : Cx) (n : Nat) {α : Type} [DecidableEq α] (A : Rp α) : Prop where
  fn : ∀ {pins : List (Addr × Obj)} {σ : L2.St} {s : Shared} {x y : α} {v : V} {H : Hp}, Inv X pins σ H s → A.r x v H → A.r y v H → x = y
  eq : ∀ (Ar : Around) (pins : List (Addr × Obj)) (s : Shared) (σ : L2.St) (H Hk : Hp) (x y : α) (u v : V) (u' v' : Value), L2.Sub X n Ar → Inv X pins σ H s → RelV u u' → RelV v v' → Ex Hk H → A.r x u Hk → A.r y v Hk →
    wpAny (model X.prog X.w) Ar (eqBool u' v') (fun r s' => r = decide (x = y) ∧ ∃ Hk' H', Inv X pins σ H' s' ∧ Grow [] Hk H Hk' H') X.xe s
structure RcK (X : Cx) (n : Nat) {α : Type} [DecidableEq α] (A : Rp α) : Prop where
  fn : ∀ {pins : List (Addr × Obj)} {σ : L2.St} {s : Shared} {x y : α} {v : V} {H : Hp}, Inv X pins σ H s → A.r x v H → A.r y v H → x = y
  rf : ∀ {x : α} {v : V} {H : Hp}, A.r x v H → ∃ a, v = .ref a
  rc : ∀ (Ar : Around) (pins : List (Addr × Obj)) (s : Shared) (σ : L2.St) (H Hk : Hp) (x y : α) (u v : V) (u' v' : Value), L2.Sub X n Ar → Inv X pins σ H s → RelV u u' → RelV v v' → Ex Hk H → A.r x u Hk → A.r y v Hk →
    wpAny (model X.prog X.w) Ar (richCompare .Eq u' v') (fun r s' => r = .bool (decide (x = y)) ∧ ∃ Hk' H', Inv X pins σ H' s' ∧ Grow [] Hk H Hk' H') X.xe s
section
variable {X : Cx} {n m : Nat} {K : PySem.W.Frag} {α β : Type} [DecidableEq α] [DecidableEq β] {A : Rp α} {B : Rp β}
theorem EqK.mono (h : EqK X n A) (hn : n ≤ m) : EqK X m A := ⟨h.fn, fun Ar pins s σ H Hk x y u v u' v' sb => h.eq Ar pins s σ H Hk x y u v u' v' (sb.mono hn)⟩
theorem RcK.eqK (h : RcK X n A) : EqK X n A := ⟨h.fn, fun Ar pins s σ H Hk x y u v u' v' sb I ru rv k h1 h2 => by
  obtain ⟨a, rfl⟩ := h.rf h1
  obtain ⟨b, rfl⟩ := h.rf h2
  cases ru
  cases rv
  by_cases hab : a = b
  · subst hab
    obtain rfl := h.fn I (A.mono k h1) (A.mono k h2)
    exact SeqAt.EqAt.same (A := Ar) (s := s) (.ref a) X.prog X.w X.xe _ ⟨by simp, Hk, H, I, .refl k⟩
  · refine GQ.eqBool_refG hab (wpAny_mono (h.rc Ar pins s σ H Hk x y (.ref a) (.ref b) _ _ sb I rfl rfl k h1 h2) (fun r t q => ?_) fun _ _ z => z)
    obtain ⟨q1, q2⟩ := q
    exact ⟨_, q1, rfl, q2⟩⟩
theorem eqK_str : EqK X 0 rStr := ⟨fun _ h1 h2 => by cases (show _ = V.str _ from h1); cases (show V.str _ = V.str _ from h2); rfl, fun Ar pins s σ H Hk x y u v u' v' sb I ru rv k h1 h2 => by
  cases (show u = V.str x from h1)
  cases (show v = V.str y from h2)
  have q := eqAt_V (A := Ar) (s := s) ru rv rfl rfl
  refine q X.prog X.w X.xe _ ⟨?_, Hk, H, I, .refl k⟩
  show (x == y) = decide (x = y)
  by_cases e : x = y
  · subst e; simp
  · rw [decide_eq_false e]; exact beq_eq_false_iff_ne.mpr e⟩
theorem eqK_int : EqK X 0 rInt := ⟨fun _ h1 h2 => by cases (show _ = V.int _ from h1); cases (show V.int _ = V.int _ from h2); rfl, fun Ar pins s σ H Hk x y u v u' v' sb I ru rv k h1 h2 => by
  cases (show u = V.int x from h1)
  cases (show v = V.int y from h2)
  have q := eqAt_V (A := Ar) (s := s) ru rv rfl rfl
  refine q X.prog X.w X.xe _ ⟨?_, Hk, H, I, .refl k⟩
  show (x == y) = decide (x = y)
  by_cases e : x = y
  · subst e; simp
  · rw [decide_eq_false e]; exact beq_eq_false_iff_ne.mpr e⟩
theorem al_fn {H : Hp} (hA : ∀ {x y : α} {v : V}, A.r x v H → A.r y v H → x = y) : ∀ {xs ys : List α} {vs : List V}, Al A H xs vs → Al A H ys vs → xs = ys
  | _, _, _, .nil, .nil => rfl
  | _, _, _, .cons h1 t1, .cons h2 t2 => by rw [hA h1 h2, al_fn hA t1 t2]
theorem list_fn {H : Hp} (hA : ∀ {x y : α} {v : V}, A.r x v H → A.r y v H → x = y) {xs ys : List α} {v : V} (h1 : (rList A).r xs v H) (h2 : (rList A).r ys v H) : xs = ys := by
  obtain ⟨a, vs, rfl, g1, l1⟩ := h1
  obtain ⟨b, ws, e, g2, l2⟩ := h2
  cases e
  rw [g1] at g2
  cases g2
  exact al_fn hA l1 l2
/-- the state between two items -/
def Mid (X : Cx) (pins : List (Addr × Obj)) (σ : L2.St) (Hk H : Hp) (s' : Shared) : Prop := ∃ Hk' H', Inv X pins σ H' s' ∧ Grow [] Hk H Hk' H'
theorem EqK.turn (h : EqK X n A) {Ar : Around} (sb : L2.Sub X (n + 1) Ar) {pins : List (Addr × Obj)} {σ : L2.St} {Hk H : Hp} {x y : α} {u v : V} {u' v' : Value} (h1 : A.r x u Hk) (h2 : A.r y v Hk) (ru : RelV u u') (rv : RelV v v') {s' : Shared} (md : Mid X pins σ Hk H s') :
    wpAny (model X.prog X.w) Ar.in1 (eqBool u' v') (fun r s2 => r = decide (x = y) ∧ Mid X pins σ Hk H s2) X.xe s' := by
  obtain ⟨Hk1, H1, I1, g⟩ := md
  refine wpAny_mono (h.eq Ar.in1 pins s' σ H1 Hk1 x y u v u' v' sb.in1 I1 ru rv g.kh (A.mono g.kk h1) (A.mono g.kk h2)) (fun r t q => ?_) fun _ _ z => z
  obtain ⟨q1, Hk2, H2, I2, g2⟩ := q
  exact ⟨q1, Hk2, H2, I2, g.trans g2⟩
theorem rcK_list (h : EqK X n A) : RcK X (n + 1) (rList A) := by
  refine ⟨fun I => list_fn fun h1 h2 => h.fn I h1 h2, fun h => let ⟨a, _, e, _⟩ := h; ⟨a, e⟩, fun Ar pins s σ H Hk xs ys u v u' v' sb I ru rv k h1 h2 => ?_⟩
  obtain ⟨a, vs, rfl, ga_, la⟩ := h1
  obtain ⟨b, ws, rfl, gb, lb⟩ := h2
  cases ru
  cases rv
  have look : ∀ s', Mid X pins σ Hk H s' → ∃ (us1 us2 : List Value) (n1 n2 : Nat), Vals vs us1 ∧ Vals ws us2 ∧ s'.heap.get? a = some { cls := .type "list", data := .seq us1.toArray n1 } ∧ s'.heap.get? b = some { cls := .type "list", data := .seq us2.toArray n2 } := fun s' ⟨Hk1, H1, I1, g⟩ => by
    obtain ⟨_, t1, n1, r1, e1⟩ := I1.hok a _ (g.kh.lst (g.kk.lst ga_))
    obtain ⟨_, t2, n2, r2, e2⟩ := I1.hok b _ (g.kh.lst (g.kk.lst gb))
    exact ⟨t1, t2, n1, n2, r1, r2, e1, e2⟩
  have m0 : Mid X pins σ Hk H s := ⟨Hk, H, I, .refl k⟩
  obtain ⟨us1, us2, n1, n2, r1, r2, e1, e2⟩ := look s m0
  refine wpAny_richCompare_same_room (op := .Eq) ⟨_, e1, rfl⟩ ⟨_, e2, rfl⟩ F.slot_list_eq (GQ.call_here F.slot_list_eq ⟨_, e1, rfl⟩ F.entry_list_eq (F.args_list_eq_2 _ _) ?_) sb.room.units0
  by_cases hl : xs.length = ys.length
  · refine leq_list (R := wants (fun z s' => z ≠ .notImplemented ∧ (z = .bool (decide (xs = ys)) ∧ ∃ Hk' H', Inv X pins σ H' s' ∧ Grow [] Hk H Hk' H')) X.xe) a b xs.length (fun i => decide (xs[i]? = ys[i]?)) (fun _ s' => Mid X pins σ Hk H s') (fun i s' md => ?_) (fun s' hb md => ⟨(fun z => nomatch z), ?_, md⟩) (fun i s' hi hb md => ⟨(fun z => nomatch z), ?_, md⟩) m0
    · obtain ⟨t1, t2, k1, k2, q1, q2, f1, f2⟩ := look s' md
      refine ⟨t1.toArray, t2.toArray, k1, k2, f1, f2, by rw [List.size_toArray, ← q1.length, ← la.len], by rw [List.size_toArray, ← q2.length, ← lb.len, hl], fun i1 i2 => ?_⟩
      have j1 : i < vs.length := by rw [q1.length]; simpa using i1
      have j2 : i < ws.length := by rw [q2.length]; simpa using i2
      obtain ⟨p1, g1, c1⟩ := q1.get (List.getElem?_eq_getElem j1)
      obtain ⟨p2, g2, c2⟩ := q2.get (List.getElem?_eq_getElem j2)
      obtain ⟨x, x1, x2⟩ := la.back (List.getElem?_eq_getElem j1)
      obtain ⟨y, y1, y2⟩ := lb.back (List.getElem?_eq_getElem j2)
      have d1 : t1.toArray[i] = p1 := by
        have : t1[i]? = some (t1.toArray[i]) := by rw [List.getElem?_eq_getElem (by simpa using i1)] <;> simp
        rw [this] at g1; exact Option.some.inj g1
      have d2 : t2.toArray[i] = p2 := by
        have : t2[i]? = some (t2.toArray[i]) := by rw [List.getElem?_eq_getElem (by simpa using i2)] <;> simp
        rw [this] at g2; exact Option.some.inj g2
      rw [d1, d2, x1, y1]
      have := h.turn sb x2 y2 c1 c2 md
      simpa using this
    · congr 1
      refine (decide_eq_true ?_).symm
      apply List.ext_getElem?
      intro i
      by_cases hi : i < xs.length
      · simpa using hb i hi
      · rw [List.getElem?_eq_none (by omega), List.getElem?_eq_none (by omega)]
    · congr 1
      refine (decide_eq_false fun e => ?_).symm
      subst e
      simp at hb
  · refine leq_len (R := wants (fun z s' => z ≠ .notImplemented ∧ (z = .bool (decide (xs = ys)) ∧ ∃ Hk' H', Inv X pins σ H' s' ∧ Grow [] Hk H Hk' H')) X.xe) a b e1 e2 (by rw [List.size_toArray, List.size_toArray, ← r1.length, ← r2.length, ← la.len, ← lb.len]; exact hl) ⟨(fun z => nomatch z), ?_, m0⟩
    congr 1
    exact (decide_eq_false fun e => hl (by rw [e])).symm
theorem rcK_pair (hK : X.K = K) (h1 : EqK X n A) (h2 : EqK X n B) : RcK X (n + 1) (rPair K A B) := by
  subst hK
  refine ⟨fun I g1 g2 => ?_, fun h => let ⟨a, _, _, e, _⟩ := h; ⟨a, e⟩, fun Ar pins s σ H Hk p q u v u' v' sb I ru rv k g1 g2 => ?_⟩
  · obtain ⟨a, x, y, rfl, g1, r1, r2⟩ := g1
    obtain ⟨b, x', y', e, g2, r3, r4⟩ := g2
    cases e
    have := I.tuple_inj g1 g2
    cases this
    exact Prod.ext (h1.fn I r1 r3) (h2.fn I r2 r4)
  obtain ⟨a, x, y, rfl, g1, r1, r2⟩ := g1
  obtain ⟨b, x', y', rfl, g2, r3, r4⟩ := g2
  cases ru
  cases rv
  have m0 : Mid X pins σ Hk H s := ⟨Hk, H, I, .refl k⟩
  obtain ⟨us, c1, t1, _⟩ := I.tuple (ex_t k g1)
  obtain ⟨ws, c2, t2, _⟩ := I.tuple (ex_t k g2)
  obtain ⟨p1, p2, rfl, a1, a2⟩ : ∃ p1 p2, us = [p1, p2] ∧ RelV x p1 ∧ RelV y p2 := by
    cases c1 with
    | cons a1 t => cases t with
      | cons a2 t => cases t; exact ⟨_, _, rfl, a1, a2⟩
  obtain ⟨q1, q2, rfl, b1, b2⟩ : ∃ q1 q2, ws = [q1, q2] ∧ RelV x' q1 ∧ RelV y' q2 := by
    cases c2 with
    | cons b1 t => cases t with
      | cons b2 t => cases t; exact ⟨_, _, rfl, b1, b2⟩
  obtain ⟨⟨cls, d1, dt, o1⟩, f1, hc, m1, hd⟩ := id t1
  obtain ⟨⟨cls', d2, dt', o2⟩, f2, hc', m2, hd'⟩ := id t2
  simp only at hc hd hc' hd'
  subst hc hd hc' hd'
  refine wpAny_richCompare_same_room (op := .Eq) ⟨_, f1, rfl⟩ ⟨_, f2, rfl⟩ F.slot_tuple_eq (GQ.call_here F.slot_tuple_eq ⟨_, f1, rfl⟩ F.entry_tuple_eq (F.args_tuple_eq_2 _ _) ?_) sb.room.units0
  refine leq_tup (R := wants (fun z s' => z ≠ .notImplemented ∧ (z = .bool (decide (p = q)) ∧ ∃ Hk' H', Inv X pins σ H' s' ∧ Grow [] Hk H Hk' H')) X.xe) a b [p1, p2].toArray [q1, q2].toArray m1 m2 d1 d2 o1 o2 (fun i => if i = 0 then decide (p.1 = q.1) else decide (p.2 = q.2)) (fun _ s' => Mid X pins σ Hk H s') (fun i i1 i2 s' md => ?_) (fun s' hb md => ⟨(fun z => nomatch z), ?_, md⟩) (fun i s' hi hb md => ⟨(fun z => nomatch z), ?_, md⟩) rfl f1 f2 m0
  · have i1 : i < 2 := i1
    match i, i1 with
    | 0, _ => exact h1.turn sb r1 r3 a1 b1 md
    | 1, _ => exact h2.turn sb r2 r4 a2 b2 md
  · congr 1
    have b0 := hb 0 (show 0 < 2 by decide)
    have b1 := hb 1 (show 1 < 2 by decide)
    simp at b0 b1
    exact (decide_eq_true (Prod.ext b0 b1)).symm
  · congr 1
    refine (decide_eq_false fun e => ?_).symm
    subst e
    simp at hb
/-- an own class with its own == -/
theorem rcK_own {CX : CXT} {C f : Addr} {fd : FuncData} {ps : List Str} {E : XK} {S : Sig} (hi : ∀ x, IsIn C (en A x)) (hfn : ∀ {x y : α} {v : V} {H : Hp}, A.r x v H → A.r y v H → x = y) (c : Dun X.K C "__eq__" f)
    (F : FnOk X.prog X.w X.K X.mg X.base CX n f fd ps (spS S)) (hs : ∀ x y, S [en A x, en A y] (en rBool (decide (x = y)))) (hb : Binds X.K fd ps []) (hx : Passes CX X E) : RcK X n A := by
  refine ⟨fun _ => hfn, fun {x v H} h => let ⟨a, _, _, e, _⟩ := hi x v H h; ⟨a, e⟩, fun Ar pins s σ H Hk x y u v u' v' sb I ru rv k g1 g2 => ?_⟩
  obtain ⟨a, dx, fs, rfl, ha⟩ := hi x u Hk g1
  obtain ⟨b, dy, gs, rfl, hb'⟩ := hi y v Hk g2
  cases ru
  cases rv
  obtain ⟨mA, J, _⟩ := ins_get I.hok (k.ins ha)
  obtain ⟨mB, J', _⟩ := ins_get I.hok (k.ins hb')
  obtain ⟨od, J, _⟩ := J.look
  obtain ⟨od', J', _⟩ := J'.look
  obtain ⟨m, hF⟩ := I.fr
  refine PySem.W.cmp_K (op := .Eq) (tb := .ref C) sb.room.units0 hF I.ok.mod.kin J J'.type (by simp [PySem.W.notFirst]) c.at_ c.fn ?_
  have hsp : spS S [.ref a, .ref b] H (fun v H' => v = .bl (decide (x = y)) ∧ ∃ Hk', Grow [] Hk H Hk' H') E := ⟨[en A x, en A y], en rBool (decide (x = y)), Hk, hs x y, k, ⟨g1, g2, True.intro⟩, fun w Hk' H' g ok => ⟨ok, Hk', g⟩⟩
  have e0 : Env0 X.prog X.w X.K X.mg X.base Ar X.stack s H := by
    have e := I.env0
    exact ⟨(by rw [sb.fr]; exact e.frames), e.mod, e.bs, e.bsz, e.funs, e.frf, e.hok, e.bare⟩
  have hl := F.len _ _ _ _ hsp
  have r2 : Vals [V.ref a, V.ref b] [Value.ref a, Value.ref b] := .cons rfl (.cons rfl .nil)
  refine wpAny_call (codeAny_mono (F.run Ar X.stack s H ⟨[.ref a, .ref b], []⟩ [.ref a, .ref b] [.ref a, .ref b] _ E sb.room e0 (by
    have := hb s [.ref a, .ref b] I.kIn (by simpa using hl)
    simpa using this) r2 hsp) fun r s' hq => ?_)
  cases r with
  | error e => exact hx pins σ H s e s' I hq
  | ok fl =>
    cases fl with
    | ret w =>
      obtain ⟨z, H', I', rz, ez, Hk', g⟩ := I.after hq
      subst ez
      cases rz
      exact ⟨rfl, Hk', H', I', g⟩
    | next => exact False.elim hq
    | brk => exact False.elim hq
    | cont => exact False.elim hq
/-- x == y as an expression -/
def rEqK (A : Rp α) : R2 := fun u v H Q => ∃ Hk x y, Ex Hk H ∧ A.r x u Hk ∧ A.r y v Hk ∧ ∀ Hk' H', Grow [] Hk H Hk' H' → Q (.bl (decide (x = y))) H'
theorem op_eqK (h : RcK X n A) (hr : Room n X.A) : OpR X (compareOp .Eq) (rEqK A) := by
  intro pins s σ H u v u' v' Q I ru rv hq
  obtain ⟨Hk, x, y, k, h1, h2, q⟩ := hq
  show wpAny (model X.prog X.w) X.A (richCompare .Eq u' v') (EP X pins σ Q) X.xe s
  refine wpAny_mono (h.rc X.A pins s σ H Hk x y u v u' v' ⟨hr, rfl⟩ I ru rv k h1 h2) (fun r s' z => ?_) fun _ _ z => z
  obtain ⟨z1, Hk', H', I', g⟩ := z
  subst z1
  exact ⟨.bl _, H', I', rfl, q Hk' H' g⟩
theorem rv_eqK {x y : α} : RvE (rEqK A) (en A x) (en A y) (en rBool (decide (x = y))) := fun Hk H u v k h1 h2 Q q => ⟨Hk, x, y, k, h1, h2, fun Hk' H' g => q _ Hk' H' g rfl⟩
end
theorem job_fn {K : PySem.W.Frag} {x y : Jb} {v : V} {H : Hp} (h1 : (rJob K).r x v H) (h2 : (rJob K).r y v H) : x = y := by
  obtain ⟨a, dx, rfl, g1⟩ := h1
  obtain ⟨b, dy, e, g2⟩ := h2
  cases e
  have e : jobFs x = jobFs y := congrArg (fun o : Option HO => match o with | some (.ins _ _ fs) => fs | _ => []) (g1.symm.trans g2)
  simp [jobFs] at e
  exact Jb.ext' e.1 e.2.1 e.2.2.1 e.2.2.2
end KA
/-! ### list(d.items()), the dict locked or not -/
namespace KA
open PySem PySem.Spec PyProof.Rows L2
def tListIts (td : TE) : TE := fun σ H Q => td σ H fun x H1 => ∃ (d : Addr) (kvs : List (Key × V)), x = .ref d ∧ Rd H1 d (.dK kvs) ∧
  ∀ (H' : Hp) (p : Addr) (ts : List Addr), (∀ b o, H1 b = some o → H' b = some o) → H1 p = none → (∀ t ∈ ts, H1 t = none) → p ∉ ts → H' p = some (.lst (ts.map V.ref)) → Paired (fun (t : Addr) (q : Key × V) => H' t = some (.tup [kV q.1, q.2])) ts kvs → Q (.ref p) H'
section
variable {X : Cx} {o : Expr} {p pos apos mpos : Pos} {td : TE}
theorem pe_listIts (hc : X.calm = true) (hd : PE X o td) (hg : Gl X "list") (hm : X.mg "list" = none) (hbase : attributeBase o "items" X.env (eval o X.env) = eval o X.env := by rfl) (hline : (apos.endLine == mpos.line) = true := by rfl)
    (na : starEach [Expr.Call (.Attribute o "items" apos) [] [] mpos] X.env = (false, eval (Expr.Call (.Attribute o "items" apos) [] [] mpos) X.env) :: starEach [] X.env := by rfl) : PE X (.Call (.Name "list" p) [.Call (.Attribute o "items" apos) [] [] mpos] [] pos) (tListIts td) := by
  refine ⟨fun pins s σ H Q I h => wpAny_Call_Name_kw (ld_blt I hg hm boot_list (PyProof.Rows.callWith_type1 ?_ na rfl))⟩
  rw [na]
  show wpAny _ _ (spliced ((false, eval (.Call (.Attribute o "items" apos) [] [] mpos) X.env) :: backTo pos (starEach [] X.env))) _ _ s
  refine Calls.spliced_cons (wpAny_Call_method (T := "dict") (id := "dict.items") hbase rfl hline F.plainAttrs_dict F.slot_dict_items F.type_dict_items (thn (hd.run pins s σ H _ I h) fun v s1 ⟨x, H1, J, r1, d, kvs, ex, ha, q⟩ => ?_))
  subst ex
  obtain rfl : v = Value.ref d := r1
  obtain ⟨z, lo, vs, rel, dd⟩ := dk_rd J.hok ha
  obtain ⟨ep, at_⟩ := dd.dictAt
  have lk : kvs.length = vs.length := Paired.length rel
  have J2 : Inv X pins σ H1 { s1 with heap := s1.heap.push { cls := .type "dict_items", data := .fields #[.ref d] } } := J.kept (t' := s1.toks) fun b u q => Heap.get?_push_of_some _ q
  refine ⟨dd.typeIs, dd.mapOf.noDict, ?_⟩
  show wpAny _ _ (callWith mpos (.builtin "dict.items") [.ref d] [] []) _ X.xe s1
  refine method_meetsIn F.slot_dict_items F.entry_dict_items rfl (PySem.evalArgs_none ⟨rfl, dd.typeIs, F.args_dict_items_1 _, _, meets_dict_items (mixKind X.prog X.w) d lo, ⟨vs, dd⟩, Calls.spliced_nil ?_⟩)
  refine PySem.W.kdx_call (knd := mixKind X.prog X.w) (kvs := vs) (ep := ep) (J.ok.hd hc) ⟨_, Heap.get?_push_size _ rfl, rfl, rfl⟩ (at_.push _) (by omega) fun g tk acc c us k1 k2 k3 k4 k5 => ?_
  obtain ⟨H', m1, m2, m3, m4, m5, m6, J3⟩ := LiI.items_laid (tk := tk) J2 z rel k1 k2 k3 k4 k5
  exact ⟨.ref _, H', J3, rfl, q H' _ us m1 m2 m3 m4 m5 m6⟩
end
section
variable {W : List Addr} {Hk0 H0 : Hp} {Γ : Ctx} {Ω Ω1 : List Cell} {T : Tm} {σ : L2.St} {H : Hp} {td : TE} {α : Type} {A : Rp α} {K : PySem.W.Frag}
/-- what is new is known -/
theorem Grow.many {Hk H H' : Hp} (k : Ex Hk H) (keep : ∀ b o, H b = some o → H' b = some o) (N : Addr → Prop) [DecidablePred N] (hN : ∀ a, N a → H a = none) : Grow [] Hk H (fun a => if N a then H' a else Hk a) H' where
  kk := fun a u h => by
    by_cases z : N a
    · rw [k.back (hN a z)] at h
      exact kn_any h
    · simp only [if_neg z]
      exact h
  kh := fun a u h => by
    by_cases z : N a
    · simp only [if_pos z] at h
      exact h
    · simp only [if_neg z] at h
      have := k a u h
      cases e : H a with
      | none => rw [e] at this; exact kn_any this
      | some o => rw [e] at this; rw [keep a o e]; exact this
  hh := fun a o _ e => keep a o e
  nw := fun a e n => by
    have z : ¬ N a := fun z => n (hN a z)
    simp only [if_neg z]
    exact e
  ws := fun a _ n => by
    cases e : H a with
    | none => exact (n e).elim
    | some o => rw [keep a o e]; intro z; cases z
theorem al_items {m : List (Str × α)} {kvs : List (Key × V)} {Hk H' Hn : Hp} (al : AlD A Hk m kvs) (k : Ex Hk Hn) : ∀ {ts : List Addr}, Paired (fun (t : Addr) (q : Key × V) => H' t = some (.tup [kV q.1, q.2])) ts kvs → (∀ t ∈ ts, Hn t = H' t) → Al (rPair K rStr A) Hn m (ts.map V.ref) := by
  induction al with
  | nil => intro ts h _; cases h; exact .nil
  | cons hx _ ih =>
    intro ts h e
    cases h with
    | cons h1 h2 => exact .cons ⟨_, _, _, rfl, SqT.of ((e _ (by simp)).trans h1), rfl, A.mono k hx⟩ (ih h2 fun t ht => e t (by simp [ht]))
theorem ev_listIts {m : List (Str × α)} (h : Ev td Γ Ω (en (rDict A) m) Ω1) : Ev (tListIts td) Γ Ω (en (rList (rPair K rStr A)) m) Ω1 := fun W Hk0 H0 T σ H a Q q =>
  h W Hk0 H0 T σ H a _ fun v H1 ⟨Hk1, a1⟩ => by
    obtain ⟨d, kvs, hv, hd, al⟩ := (show (rDict A).r m v Hk1 from a1.tp (en (rDict A) m, v) (by simp))
    refine ⟨d, kvs, hv, a1.gr.kh.dK hd, fun H' p ts keep hp ht hn e1 e2 => ?_⟩
    have g := Grow.many a1.gr.kh keep (fun a => a = p ∨ a ∈ ts) (fun a z => z.elim (fun z => by rw [z]; exact hp) (ht a))
    refine q _ _ ⟨_, ((a1.grow g).unpush).push (e := en (rList (rPair K rStr A)) m) ⟨p, _, rfl, ?_, al_items al g.kk e2 fun t h => ?_⟩⟩
    · exact (if_pos (Or.inl rfl)).trans e1
    · exact if_pos (Or.inr h)
end
end KA
namespace KA
open PySem PySem.Spec PyProof.Rows L2
theorem ald_fn {α : Type} {A : Rp α} {H : Hp} (hA : ∀ {x y : α} {v : V}, A.r x v H → A.r y v H → x = y) : ∀ {m l : List (Str × α)} {kvs : List (Key × V)}, AlD A H m kvs → AlD A H l kvs → m = l
  | _, _, _, .nil, .nil => rfl
  | _, _, _, .cons h1 t1, .cons h2 t2 => by rw [hA h1 h2, ald_fn hA t1 t2]
def rdOf : Option HO → List (Key × V)
  | some (.dK k) => k
  | some (.frz _ (.dK k)) => k
  | _ => []
theorem rd_fn {H : Hp} {d : Addr} {k1 k2 : List (Key × V)} (r1 : Rd H d (.dK k1)) (r2 : Rd H d (.dK k2)) : k1 = k2 := by
  have f1 : rdOf (H d) = k1 := by rcases r1 with r | ⟨_, r⟩ <;> rw [r] <;> rfl
  have f2 : rdOf (H d) = k2 := by rcases r2 with r | ⟨_, r⟩ <;> rw [r] <;> rfl
  exact f1.symm.trans f2
theorem tab_fn {K : PySem.W.Frag} {m l : List (Str × Jb)} {v : V} {H : Hp} (h1 : (rTab K).r m v H) (h2 : (rTab K).r l v H) : m = l := by
  obtain ⟨_, a, dx, d, rfl, g1, d1, k1, e1, r1, a1⟩ := h1
  obtain ⟨_, b, dy, d', e, g2, d2, k2, e2, r2, a2⟩ := h2
  cases e
  cases e1
  cases e2
  have e : ([(Str.ofString "_jobs", V.ref d)] : List (Str × V)) = [(Str.ofString "_jobs", V.ref d')] := congrArg (fun o : Option HO => match o with | some (.ins _ _ fs) => fs | _ => []) (g1.symm.trans g2)
  simp at e
  subst e
  have : k1 = k2 := rd_fn r1 r2
  subst this
  exact ald_fn (fun h1 h2 => job_fn h1 h2) a1 a2
end KA

/-! zip of a dict and a tuple -/
namespace KA
open PySem PySem.Spec PyProof.Rows L2
section
variable {prog : Program} {w : World} {A : Around} {κ : Type} [DecidableEq κ] {knd : KeyKind prog w κ}
theorem nextOf_keys_end {it d : Addr} {i ep : Nat} {kvs : List (κ × Value)} {s : Shared} {Q E : Value → Shared → Prop} (hh : A.handled = none) (hit : s.heap.IsKeyIter it d i kvs.length ep) (hm : s.heap.DictAt knd d kvs ep) (hge : kvs.length ≤ i)
    (hE : ∀ g e, Heap.ExtBut it s.heap g → (∃ o, g.get? e = some o ∧ o.cls = .type "StopIteration") → E (.ref e) { s with heap := g }) : wpAny (model prog w) A (Builtin.SmallTypes.nextOf (.ref it)) Q E s := by
  obtain ⟨o, ho, hc, hd⟩ := id hit
  obtain ⟨od, es, hod, hcd, hdd, hk, hp, hn⟩ := id hm
  have hsz : es.size = kvs.length := by rw [← hp.length] <;> simp
  unfold Builtin.SmallTypes.nextOf
  refine wpAny_bind (wpAny_callSpecial?_slot (name := Str.ofString "__next__") hit.typeIs F.slot_dict_keyiterator_next (wpAny_call_entry F.slot_dict_keyiterator_next hit.typeIs F.entry_dict_keyiterator_next ?_ (F.args_dict_keyiterator_next_1 _)))
  refine wpAny_bind (wpAny_pure (wpAny_bind (wpAny_bind ?_)))
  first | refine wpAny_bind (wpAny_typeNameOfWhole_keyiter hit.typeIs (wpAny_pure ?_)) | skip
  refine wpAny_bind (wpAny_fieldsOf ho hd ?_)
  have own0 : Builtin.Dict_items.ownsTuple "dict_keyiterator" = false := by decide
  simp only [own0, Bool.false_eq_true, if_false]
  show wpAny _ _ (if (Value.ref d == Value.none) = true then _ else _) _ _ s
  rw [if_neg (by simp)]
  refine wpAny_bind (wpAny_pure (wpAny_bind (wpAny_dictEntries hod hdd ?_)))
  rw [if_neg (by rw [hsz] <;> simp)]
  refine wpAny_bind (wpAny_pure (wpAny_bind (wpAny_dictEpoch hod hdd ?_)))
  rw [if_neg (by simp)]
  refine wpAny_pure ?_
  have no_ : es.size ≤ i := by rw [hsz] <;> exact hge
  simp only [show ¬ ((i : Int) < 0) by omega, if_false, Int.toNat_natCast, Array.getElem?_eq_none no_]
  refine wpAny_bind ?_
  first | refine wpAny_bind (wpAny_typeNameOfWhole_keyiter hit.typeIs (wpAny_pure ?_)) | skip
  show wpAny _ _ (setField (.ref it) 0 .none >>= _) _ _ s
  refine wpAny_bind (wpAny_setField ho hd (by simp) ?_)
  show wpAny _ _ (newExc (.type "StopIteration") [] >>= _) _ _ _
  refine wpAny_bind ?_
  simp only [newExc, newTuple]
  refine wpAny_bind (wpAny_newObj_type ?_ (by size_fits))
  refine wpAny_bind (m := firstArgMember _ _) (wpAny_of_eq (a := Value.none) (by first | rfl | (simp only [firstArgMember] <;> rfl)) ?_)
  refine wpAny_newObj_type ?_ (by size_fits)
  simp only [raiseNew]
  refine wpAny_bind (wpAny_handled ?_)
  first | rw [show A.in1.handled = none from hh] | rw [hh]
  refine wpAny_bind (wpAny_pure (wpAny_throw ?_))
  exact hE _ _ (((Heap.SameBut.update ..).extBut.push _).push _) ⟨_, Heap.get?_push_size _ rfl, rfl⟩
theorem draws_keys (hh : A.handled = none) (it d : Addr) (hne : d ≠ it) (kvs : List (κ × Value)) (ep : Nat) :
    Draws prog w A it [it, d] kvs.length (fun i v => ∃ k x, kvs[i]? = some (k, x) ∧ knd.is k v = true) (fun i h => h.IsKeyIter it d i kvs.length ep ∧ h.DictAt knd d kvs ep) where
  live := fun _ _ st => let ⟨o, ho, _⟩ := st.1; ⟨o, ho⟩
  frame := fun _ _ _ st k => ⟨st.1.at fun o e => k it (by simp) o e, st.2.at' fun o e => k d (by simp) o e⟩
  item := fun i s Q E hi st hQ => by
    obtain ⟨⟨k, x⟩, hx⟩ : ∃ p, kvs[i]? = some p := ⟨kvs[i], List.getElem?_eq_getElem hi⟩
    unfold Builtin.SmallTypes.nextOf
    refine wpAny_bind (PySem.W.kdk_special st.1 st.2 hx fun key g h1 h2 h3 => ?_)
    exact wpAny_pure (hQ key g s.toks ⟨k, x, hx, h1⟩ ⟨h2, st.2.extBut h3.extBut hne⟩ h3)
  done := fun s Q E st hE => nextOf_keys_end hh st.1 st.2 (Nat.le_refl _) hE
end
end KA
namespace KA
open PySem PySem.Spec PyProof.Rows L2
/-- the locked dict at d, the tuple at b: key and item in a new pair -/
def ItzD (K : PySem.W.Frag) (d : Addr) (o : Obj) (b : Addr) (kvs : List (Key × V)) : It where
  go := fun i H => H d = some (.frz o (.dK kvs)) ∧ ∃ (ys : List V) (x : Key × V) (y : V), SqT K H b ys ∧ kvs[i]? = some x ∧ ys[i]? = some y
  yld := fun i H v H' => ∃ p x y, v = .ref p ∧ H p = none ∧ H' = upd H p (.tup [kV (Prod.fst x), y]) ∧ kvs[i]? = some x ∧ ∀ ys, SqT K H b ys → ys[i]? = some y
  stop := fun i H => H d = some (.frz o (.dK kvs)) ∧ ∃ ys : List V, SqT K H b ys ∧ (i ≤ kvs.length ∧ i ≤ ys.length) ∧ (i = kvs.length ∨ i = ys.length)
section
variable {P : Program} {w : World} {K : PySem.W.Frag}
theorem turn_zipD {elts : List Expr} {kk : Nat} {tpos : Pos} {d b z t1 t2 j1 j2 : Addr} {od : Obj} {es : Array DictEntry} {ep : Nat} {kvs : List (Key × V)} (S : ZipSep2 z t1 t2 j1 j2 [j1, d] [j2, b]) (na : d ≠ j1) (nb : b ≠ j2) (hod : od.data = .dict es ep) :
    Turn P w K (.Tuple elts kk tpos) (ItzD K d od b kvs) [z, t1, t2, j1, j2] z (fun i g => IsZip g z t1 t2 .none ∧ IsTupOf2 g t1 (.ref j1) (.ref j2) ∧ (∃ u v, IsTupOf2 g t2 u v) ∧ g.IsKeyIter j1 d i kvs.length ep ∧ g.IsTupleIter j2 b i) where
  mem := List.mem_cons_self ..
  obj := fun i g st c hc => by
    obtain ⟨s1, s2, ⟨u, v, s3⟩, ⟨o4, f4, _, d4⟩, ⟨o5, f5, _, d5⟩⟩ := st
    rcases zm_mem hc with rfl | rfl | rfl | rfl | rfl
    · exact ⟨_, s1, fun _ q => nomatch q⟩
    · exact ⟨_, s2, fun _ q => nomatch q⟩
    · exact ⟨_, s3, fun _ q => nomatch q⟩
    · exact ⟨o4, f4, fun _ q => by rw [d4] at q; cases q⟩
    · exact ⟨o5, f5, fun _ q => by rw [d5] at q; cases q⟩
  keep := fun i g g' st k => by
    obtain ⟨s1, s2, ⟨u, v, s3⟩, s4, s5⟩ := st
    exact ⟨k z (by simp) _ s1, k t1 (by simp) _ s2, ⟨u, v, k t2 (by simp) _ s3⟩, s4.at (k j1 (by simp)), s5.at (k j2 (by simp))⟩
  item := by
    intro X e1 e2 e3 calm i pins s σ H E I fp st hg
    subst e1 e2 e3
    obtain ⟨s1, s2, ⟨u0, v0, s3⟩, s4, s5⟩ := st
    obtain ⟨hd, ys, x, y, qb, gx, gy⟩ := hg
    obtain ⟨hs, hgd, hx, es', ep', vs, hdt, hsz, kv, hm⟩ := I.frzK hd
    obtain ⟨rfl, rfl⟩ := dict_ep hod hdt
    obtain ⟨ws, rw', pb, _⟩ := I.tuple qb
    obtain ⟨v, gv, ry⟩ := rw'.get gy
    have hl : kvs.length = vs.length := Paired.length kv
    have hh : X.A.in1.handled = none := I.ok.hd calm
    have lz : z < s.heap.objs.size := Heap.lt_size s1
    have D1 := draws_keys (prog := X.prog) (w := X.w) (A := X.A.in1) (knd := mixKind X.prog X.w) hh j1 d na vs ep'
    have D2 := Draws.tuple (prog := X.prog) (w := X.w) (A := X.A.in1) hh j2 b nb ws.toArray
    have l1 : i < vs.length := by rw [← hl]; exact (List.getElem?_eq_some_iff.mp gx).1
    have l2 : i < ws.toArray.size := by rw [List.size_toArray]; exact (List.getElem?_eq_some_iff.mp gv).1
    rw [hl] at s4
    refine wpAny_pyNext_zipD2_item S D1 D2 s1 s2 s3 ⟨s4, hm⟩ ⟨s5, pb⟩ l1 l2 fun x1 x2 g tk y1 y2 c1 c2 dd1 dd2 c5 _ c7 => ?_
    obtain ⟨k, u1, hk, hkey⟩ := y1
    obtain rfl : v = x2 := by simpa [gv] using y2
    obtain ⟨kx, vx⟩ := x
    obtain ⟨u, hu, ru⟩ := kv_get kv gx
    rw [hk] at hu
    cases hu
    have rk : RelV (kV k) x1 := relV_key (show keyIs k x1 = true from hkey)
    refine ⟨_, rfl, wpAny_letOwnedTupleGo_zip (s := { s with heap := g, toks := tk }) c1 fun g2 c8 sb => ?_⟩
    have q5 : g2.get? s.heap.objs.size = some { cls := .type "tuple", data := .seq #[x1, v] } := (sb.2 _ (Nat.ne_of_gt lz)).trans c5
    have stays : ∀ c o, c ∉ [z, t1, t2, j1, j2] → s.heap.get? c = some o → g2.get? c = some o := fun c o n q => by
      simp at n
      exact (sb.2 c n.1).trans (c7 c o n.1 n.2.2.1 n.2.2.2.1 n.2.2.2.2 q)
    have fresh : ObjOk X.prog X.w (upd H s.heap.objs.size (.tup [kV k, y])) g2 s.heap.objs.size (.tup [kV k, y]) :=
      ⟨(by decide : (2 : Nat) ≤ sizeLine), [x1, v], .cons rk (.cons ry .nil), ⟨_, q5, rfl, _, rfl⟩⟩
    have J := I.turnedNew (t' := tk) stays fp (Nat.le_refl _) fresh
    refine ⟨.ref s.heap.objs.size, _, J, rfl, ⟨_, (k, vx), y, rfl, I.hok.fresh (Nat.le_refl _), rfl, gx, fun l hl => (I.tuple_inj hl qb) ▸ gy⟩, ⟨c8, ?_, ⟨x1, v, ?_⟩, ?_, ?_⟩, fun c hc => ?_⟩
    · exact (sb.2 _ S.TIz).trans (c7 _ _ S.TIz S.TITO S.TIi1 S.TIi2 s2)
    · exact (sb.2 _ S.TOz).trans c2
    · rw [hl]
      exact dd1.1.at fun o q => (sb.2 _ S.zi1.symm).trans q
    · exact dd2.1.at fun o q => (sb.2 _ S.zi2.symm).trans q
    · have lc : c < s.heap.objs.size := by
        obtain ⟨_, f4, _⟩ := s4
        obtain ⟨_, f5, _⟩ := s5
        rcases zm_mem hc with rfl | rfl | rfl | rfl | rfl
        · exact lz
        · exact Heap.lt_size s2
        · exact Heap.lt_size s3
        · exact Heap.lt_size f4
        · exact Heap.lt_size f5
      rw [upd_ne (Nat.ne_of_lt lc)]
      exact (fp c hc).1
  done := by
    intro X e1 e2 e3 calm i pins s σ H E I fp st hg
    subst e1 e2 e3
    obtain ⟨s1, s2, ⟨u0, v0, s3⟩, s4, s5⟩ := st
    obtain ⟨hd, ys, qb, ⟨le1, le2⟩, hend⟩ := hg
    obtain ⟨hs, hgd, hx, es', ep', vs, hdt, hsz, kv, hm⟩ := I.frzK hd
    obtain ⟨rfl, rfl⟩ := dict_ep hod hdt
    obtain ⟨ws, rw', pb, _⟩ := I.tuple qb
    have hl : kvs.length = vs.length := Paired.length kv
    have hh : X.A.in1.handled = none := I.ok.hd calm
    have k2 : ys.length = ws.toArray.size := by rw [List.size_toArray]; exact rw'.length
    rw [hl] at s4
    refine wpAny_pyNext_zipD2_end S (draws_keys (knd := mixKind X.prog X.w) hh j1 d na vs ep') (Draws.tuple hh j2 b nb ws.toArray) s1 s2 s3 ⟨s4, hm⟩ ⟨s5, pb⟩ (hl ▸ le1) (k2 ▸ le2) (by rw [← hl, ← k2]; exact hend) fun g tk c7 => ⟨rfl, I.turnedL (t' := tk) (ch := [z, t1, t2, j1, j2]) (fun c o n q => ?_) fp⟩
    simp at n
    exact c7 c o n.1 n.2.2.1 n.2.2.2.1 n.2.2.2.2 q
  self := fun A i s Q E st h => wpAny_pyIter_zip st.1 h
end
theorem begins_keys {d : Addr} {od : Obj} {es : Array DictEntry} {ep : Nat} (h1 : (d == sysModules) = false) (h2 : od.ExactDict) (h3 : od.data = .dict es ep) : Begins (.ref d) { cls := .type "dict_keyiterator", data := .fields #[.ref d, .int 0 0, .int es.size 0, .int ep 0] } fun h => h.get? d = some od where
  iter := fun prog w A E s Q hl h => iter_keys h1 hl h2 h3 h
  keeps := fun h h' x hk => hk d _ x
  free := rfl
/-- zip(d, t): a locked dict and a tuple -/
def iZipD (K : PySem.W.Frag) (ta : TA) : TI := fun σ H R => ta σ H fun vs H2 => ∃ d o kvs b ys, vs = [.ref d, .ref b] ∧ H2 d = some (.frz o (.dK kvs)) ∧ SqT K H2 b ys ∧ R (ItzD K d o b kvs) H2
theorem pi_zipD {X : Cx} {e e2 : Expr} {ta : TA} {p pos tpos : Pos} {elts : List Expr} {kk : Nat} (hg : Gl X "zip") (hm : X.mg "zip" = none) (ha : PA X [e, e2] ta)
    (hs : starEach [e, e2] X.env = (false, eval e X.env) :: starEach [e2] X.env := by rfl) (hpl : (backTo pos (starEach [e2] X.env)).any (·.1) = false := by rfl) : PI X (.Tuple elts kk tpos) (.Call (.Name "zip" p) [e, e2] [] pos) (iZipD X.K ta) := by
  refine ⟨fun pins s σ H R I h => Call_ (ld_blt I hg hm PyProof.Rows.boot_zip (PyProof.Rows.callWith_type1 (thn (ha.run pos pins s σ H _ I h) fun us s1 ⟨vs, H1, J, rv, q⟩ => ?_) hs hpl))⟩
  obtain ⟨d, o, kvs, b, ys, rfl, qd, qb, q⟩ := q
  cases rv with
  | cons r rr =>
    cases rr with
    | cons r2 rr =>
      cases rr
      cases r
      cases r2
      obtain ⟨hs0, hgd, hx, es, ep, vs, hdt, hsz, kv, hm0⟩ := J.frzK qd
      obtain ⟨ws, rw', pb, _⟩ := J.tuple qb
      have la : d < s1.heap.objs.size := Heap.lt_size hgd
      have lb : b < s1.heap.objs.size := by obtain ⟨o, h, _⟩ := id pb; exact Heap.lt_size h
      refine zip_begins2 (begins_keys hs0 hx hdt) (begins_tuple b ws.toArray) hgd (show s1.heap.IsTuple b ws.toArray from pb) fun g c1 c2 c3 c4 c5 _ c7 => wpAny_pyIter_zip c1 ?_
      have J2 : Inv X pins σ H1 { s1 with heap := g } := J.kept (t' := s1.toks) c7
      have S := zm_sep s1.heap.objs.size d b la lb
      refine ⟨s1.heap.objs.size + 4, [s1.heap.objs.size + 4, s1.heap.objs.size + 2, s1.heap.objs.size + 3, s1.heap.objs.size, s1.heap.objs.size + 1], _, _, H1, rfl, J2, turn_zipD S (Nat.ne_of_lt la) (Nat.ne_of_lt (Nat.lt_of_lt_of_le lb (Nat.le_add_right _ _))) hdt, ⟨c1, c2, ⟨_, _, c3⟩, ⟨_, c4, rfl, by rw [hsz] <;> rfl⟩, ⟨_, c5, rfl, rfl⟩⟩, fun c hc => ?_, q⟩
      have le : s1.heap.objs.size ≤ c := zm_le _ _ hc
      exact J.fpOk le (J.hok.fresh le)
end KA
namespace KA
open PySem PySem.Spec PyProof.Rows L2
section
variable {W : List Addr} {Hk0 H0 : Hp} {Γ : Ctx} {Ω Ω1 : List Cell} {K : PySem.W.Frag} {α β : Type} {A : Rp α} {B : Rp β}
theorem walk_zipD {d : Addr} {o : Obj} {b : Addr} {kvs : List (Key × V)} {ws : List V} (hl : kvs.length = ws.length) : Walk (ItzD K d o b kvs) kvs.length (fun H => H d = some (.frz o (.dK kvs)) ∧ SqT K H b ws) (fun i H v H' => ∃ p k u y, v = .ref p ∧ H p = none ∧ H' = upd H p (.tup [kV k, y]) ∧ kvs[i]? = some (k, u) ∧ ws[i]? = some y) :=
  ⟨fun i H hi q => ⟨q.1, ws, kvs[i], ws[i]'(by omega), q.2, List.getElem?_eq_getElem hi, List.getElem?_eq_getElem (by omega)⟩, fun H q => ⟨q.1, ws, q.2, ⟨Nat.le_refl _, by omega⟩, .inl rfl⟩, fun i H x H' hi q y => by
    obtain ⟨p, ⟨k, u⟩, v, h1, h2, h3, h4, h5⟩ := y
    exact ⟨p, k, u, v, h1, h2, h3, h4, h5 _ q.2⟩⟩
theorem ei_zipD {td tb : TE} {m : List (Str × α)} {ys : List β} [Inhabited α] [Inhabited β] (h : Ev tb Γ Ω (en (rTupL K B) ys) Ω1) (hl : m.length = ys.length) : EvI (Lkd td A m) (iZipD K (tCons td (tCons tb tNil))) Γ Ω m.length (fun i => en (rPair K rStr B) ((m.getD i default).1, ys.getD i default)) Ω1 := fun W Hk0 H0 T σ H ⟨d, o, kvs, hw, hd, al, ht⟩ ⟨Hk, a⟩ R q => by
  have k0 : Ex Hk0 H := a.gr.kk.trans a.gr.kh
  refine ht H k0 _ ?_
  show tb σ H _
  refine h W Hk0 H0 T σ H ⟨Hk, a⟩ _ fun y H1 b1 => ?_
  obtain ⟨Hk1, a1⟩ := b1
  obtain ⟨b, ws, rfl, hb, al2⟩ := (show (rTupL K B).r ys y Hk1 from a1.tp (en (rTupL K B) ys, y) (by simp))
  have hdH : H1 d = some (.frz o (.dK kvs)) := a1.gr.hh d _ hw hd
  have lk : kvs.length = ws.length := by rw [← al.len, ← al2.len, hl]
  refine ⟨d, o, kvs, b, ws, rfl, hdH, ex_t a1.gr.kh hb, ?_⟩
  have mm : ∀ H H' : Hp, Ex H H' → (SqT K H b ws ∧ Al B H ys ws) → (SqT K H' b ws ∧ Al B H' ys ws) := fun _ _ k h => ⟨ex_t k h.1, h.2.mono k⟩
  refine q (ItzD K d o b kvs) [fct _ mm] H1 ⟨Hk1, (a1.sub (T' := T) fun z hz => by simp [hz]).fct mm ⟨hb, al2⟩⟩ ⟨fun H => H d = some (.frz o (.dK kvs)) ∧ SqT K H b ws, _, (by rw [al.len]; exact walk_zipD lk), fun Hk H t k hh => ⟨hh d _ hw hd, ex_t k (fct_of (m := mm) t (by simp)).1⟩, fun i Hk H x H' hi t k y => ?_⟩
  obtain ⟨p, kk, u, y, rfl, hn, rfl, g1, g2⟩ := y
  obtain ⟨nm, x, h2, rfl, h3⟩ := al.back g1
  obtain ⟨y', h4, h5⟩ := (fct_of (m := mm) t (by simp)).2.back g2
  have e1 : (m.getD i default).1 = nm := by rw [List.getD_eq_getElem?_getD, h2]; rfl
  have e2 : ys.getD i default = y' := by rw [List.getD_eq_getElem?_getD, h4]; rfl
  show ∃ Hk', _ ∧ En.ok (en (rPair K rStr B) ((m.getD i default).1, ys.getD i default)) _ _
  rw [e1, e2]
  exact pair_new (K := K) (A := rStr) (B := B) k hn rfl h5
end
end KA

/-! != where a class has its own == and no != -/
namespace KA
open PySem PySem.Spec PyProof.Rows L2
section
variable {prog : Program} {w : World} {A : Around} {E : Value → Shared → Prop} {s : Shared} {K : PySem.W.Frag} {x y C f L : Addr} {h₀ : Heap} {m : Str → Option Value} {ox oy : Obj} {od od2 : Option Obj}
theorem ne_body {Q : Fin → Shared → Prop} (X : K.In s.heap) (I : PySem.W.InstAt s.heap x ox C od) (hs : PySem.W.findIn K (.ref C) "__eq__" = some (some (.ref f))) (hf : PySem.W.isFn K (.ref f) = true) (hu : A.units < cLine)
    (hc : wpAny (model prog w) A (call (.ref f) [.ref x, .ref y]) (fun v s' => ∃ b, v = .bool b ∧ Q (.done (.ret (.bool (!b)))) s') E s) : wpAny (model prog w) A (Builtin.«object.__ne__» ⟨[.ref x, .ref y], []⟩) Q E s := by
  unfold Builtin.«object.__ne__»
  repeat (first
    | with_reducible refine wpAny_cRoomFor hu ?_
    | (refine wpAny_bind (m := callSpecialIfBound? (.ref x) (Str.ofString "__eq__") [.ref y]) (PySem.W.ifBound_K X I hs hf (wpAny_mono hc (fun v t z => by
          obtain ⟨b, rfl, z⟩ := z
          repeat (first | exact z | exact wpAny_pure z | exact wpAny_truthy_bool z | (refine wpAny_bind (m := truthy (.bool _)) (wpAny_truthy_bool ?_)) | wp_step)) fun _ _ e => e)))
    | wp_step)
theorem ne_try {Q : Value → Shared → Prop} (X : K.In s.heap) (I : PySem.W.InstAt s.heap x ox C od) (hn : PySem.W.findIn K (.ref C) "__ne__" = some (some (.builtin "object.__ne__"))) (hm : PySem.W.mroIn K C (.type "object") = some true)
    (hs : PySem.W.findIn K (.ref C) "__eq__" = some (some (.ref f))) (hf : PySem.W.isFn K (.ref f) = true) (hu : A.units + 1 < cLine)
    (hc : wpAny (model prog w) A.in1 (call (.ref f) [.ref x, .ref y]) (fun v s' => ∃ b, v = .bool b ∧ Q (.bool (!b)) s') E s) : wpAny (model prog w) A (tryCompare (.ref x) "__ne__" (.ref y)) (fun r s' => ∃ v, r = some v ∧ Q v s') E s := by
  have run : wpAny (model prog w) A (call (.builtin "object.__ne__") [.ref x, .ref y]) (fun v s' => ∃ b, v = .bool b ∧ Q (.bool b) s') E s :=
    wpAny_call (codeAny_call_builtin F.cmp_object.ne.plain F.cmpEntry_ne (PySem.W.check_slot F.cmpKind_ne F.cmpSplit_ne (I.type.andThen (PySem.W.looks_mroIn X hm)) (F.cmpArgs_ne _ _)
      (ne_body (A := A.in1) X I hs hf (by first | exact hu | exact Nat.lt_of_succ_lt hu | (show A.units + 1 < cLine; exact hu)) (wpAny_mono hc (fun v t z => by obtain ⟨b, rfl, z⟩ := z; exact ⟨b, rfl, ⟨_, rfl, z⟩⟩) fun _ _ e => e))))
  unfold tryCompare
  refine wpAny_bind ?_
  simp only [callSpecialIfBound?, bindSpecialIfBound?]
  refine wpAny_holding (wpAny_bind (wpAny_bind (wpAny_bind (I.type.here ((PySem.W.looks_findIn X hn).here ?_)))))
  refine wpAny_bind (wpAny_askSetting (wpAny_ite ?_))
  simp only [F.cmp_object.ne.bind]
  have last : ∀ Q' : Option Value → Shared → Prop, (∀ b t, Q (.bool b) t → Q' (some (.bool b)) t) → wpAny (model prog w) A (call (.builtin "object.__ne__") ([.ref x] ++ [.ref y]) >>= fun v => pure (some v)) Q' E s := fun Q' k => wpAny_bind (wpAny_mono run (fun v t z => wpAny_pure (by obtain ⟨b, rfl, z⟩ := z; exact k b t z)) fun _ _ e => e)
  split
  · exact wpAny_bind (wpAny_pure (wpAny_pure (last _ fun b t z => wpAny_pure ⟨_, rfl, z⟩)))
  · exact wpAny_tryCatch (wpAny_bind (wpAny_pure (wpAny_pure (last _ fun b t z => wpAny_pure ⟨_, rfl, z⟩))))
theorem ne_rich {Q : Value → Shared → Prop} (X : K.In s.heap) (I : PySem.W.InstAt s.heap x ox C od) (J : PySem.W.InstAt s.heap y oy C od2) (hn : PySem.W.findIn K (.ref C) "__ne__" = some (some (.builtin "object.__ne__"))) (hm : PySem.W.mroIn K C (.type "object") = some true)
    (hs : PySem.W.findIn K (.ref C) "__eq__" = some (some (.ref f))) (hf : PySem.W.isFn K (.ref f) = true) (hu : A.units + 1 < cLine)
    (hc : wpAny (model prog w) A.in1 (call (.ref f) [.ref x, .ref y]) (fun v s' => ∃ b, v = .bool b ∧ Q (.bool (!b)) s') E s) : wpAny (model prog w) A (richCompare .NotEq (.ref x) (.ref y)) Q E s := by
  have one := ne_try X I hn hm hs hf hu hc
  unfold richCompare
  simp only [oneThing_ref]
  refine wpAny_holding (wpAny_bind (wpAny_cRoomFor (Nat.lt_of_succ_lt hu) ?_))
  refine wpAny_bind (I.type.here (wpAny_bind (J.type.here ?_)))
  rw [if_neg (show ¬ ((Value.ref C != Value.ref C) = true) by simp)]
  refine wpAny_bind (wpAny_pure ?_)
  simp only [Bool.false_eq_true, if_false]
  refine wpAny_bind (wpAny_mono one (fun r t z => ?_) fun _ _ e => e)
  obtain ⟨v, rfl, z⟩ := z
  exact wpAny_pure z
end
end KA
namespace KA
open PySem PySem.Spec PyProof.Rows L2
/-- the class at C has no != of its own -/
structure DunNe (K : PySem.W.Frag) (C : Addr) : Prop where
  at_ : PySem.W.findIn K (.ref C) "__ne__" = some (some (.builtin "object.__ne__"))
  hm : PySem.W.mroIn K C (.type "object") = some true
theorem ne_ok {K : PySem.W.Frag} {x : Str} (c : fNe x K = true) : DunNe K (He.ga K x) := by
  obtain ⟨c1, c2⟩ := He.ba c
  exact ⟨He.eqO_ok c1, of_decide_eq_true c2⟩
section
variable {X : Cx} {CX : CXT} {k : Nat} {f C : Addr} {fd : FuncData} {ps : List Str} {sp : Sp} {dvs : List V} {ds : List Value} {E : XK}
def rONe (C : Addr) (sp : Sp) (dvs : List V) (E : XK) : R2 := fun x y H Q => ∃ a dx fs b dy gs, x = .ref a ∧ y = .ref b ∧ H a = some (.ins C dx fs) ∧ H b = some (.ins C dy gs) ∧ sp ([.ref a, .ref b] ++ dvs) H (fun v H' => ∃ c, v = .bl c ∧ Q (.bl (!c)) H') E
theorem op_one (c : Dun X.K C "__eq__" f) (d : DunNe X.K C) (F : FnOk X.prog X.w X.K X.mg X.base CX k f fd ps sp) (hr : Room (k + 1) X.A) (hb : Binds X.K fd ps ds) (hd : Vals dvs ds) (hx : Passes CX X E) : OpR X (compareOp .NotEq) (rONe C sp dvs E) := by
  intro pins s σ H x y v u Q I rx ry h
  obtain ⟨a, dx, fs, b, dy, gs, rfl, rfl, e, e2, q⟩ := h
  cases rx
  cases ry
  obtain ⟨od, J⟩ := instAt I e
  obtain ⟨od2, J2⟩ := instAt I e2
  have XK := I.kIn
  show wpAny _ _ (richCompare .NotEq _ _) _ _ _
  refine ne_rich XK J J2 d.at_ d.hm c.at_ c.fn (runits1 hr) ?_
  refine thn (run_fn1 (us := [.ref a, .ref b]) (vs := [.ref a, .ref b]) F hr hb hd hx I (.cons rfl (.cons rfl .nil)) q) fun r s' z => ?_
  obtain ⟨w, H', I', rw_, c, rfl, q'⟩ := z
  cases rw_
  exact ⟨c, rfl, .bl (!c), H', I', rfl, q'⟩
end
theorem rv_one {S : Sig} {Cl : Addr} {E : XK} {e1 e2 : En} {c : Bool} (hi : IsIn Cl e1) (hi2 : IsIn Cl e2) (hs : S [e1, e2] (en rBool c)) : RvE (rONe Cl (spS S) [] E) e1 e2 (en rBool (!c)) := fun Hk H x y k h1 h2 Q q => by
  obtain ⟨p, dx, fs, hv, hp⟩ := hi x Hk h1
  obtain ⟨p2, dx2, fs2, hv2, hp2⟩ := hi2 y Hk h2
  exact ⟨p, dx, fs, p2, dx2, fs2, hv, hv2, k.ins hp, k.ins hp2, [e1, e2], en rBool c, Hk, hs, k, ⟨by rw [← hv]; exact h1, by rw [← hv2]; exact h2, True.intro⟩, fun w Hk' H' g ok => ⟨c, ok, q _ Hk' H' g rfl⟩⟩
end KA

namespace KA
open PySem PySem.Spec PyProof.Rows L2
/-! ### bool(o) by an own truth -/
theorem bool_own {prog : Program} {w : World} {x : Value} : MeetsIn prog w (Builtin.«bool.__new__» ⟨[.type "bool", x], []⟩) (fun A R s => wpAny (model prog w) A.in1 (truthy x) (fun b s' => R (.ok (.ret (.bool b))) s') (fun e s' => R (.error e) s') s) :=
  MeetsIn.of_wp fun A R s hs => by
    obtain ⟨p1, p2, p3, p4, p5⟩ := s
    have f1 := F.conv_sub_bool
    repeat (any_goals (first | assumption | (with_reducible refine wpAny_bind (m := truthy x) (wpAny_mono hs (fun b t z => ?_) fun _ _ e => e)) | wp_step))
    all_goals exact ⟨_, rfl, z⟩
section
variable {X : Cx} {CX : CXT} {k : Nat} {f C : Addr} {fd : FuncData} {ps : List Str} {sp : Sp} {dvs : List V} {ds : List Value} {E : XK}
theorem run_fnD {Q : VK} {us : List Value} {vs : List V} {pins : List (Addr × Obj)} {σ : L2.St} {H : Hp} {s : Shared} (F : FnOk X.prog X.w X.K X.mg X.base CX k f fd ps sp) (A : Around) (hf : A.frames = X.A.frames) (hr : Room k A) (hb : Binds X.K fd ps ds) (hd : Vals dvs ds) (hx : Passes CX X E)
    (I : Inv X pins σ H s) (r : Vals vs us) (h : sp (vs ++ dvs) H Q E) : wpAny (model X.prog X.w) A (call (.ref f) us) (EP X pins σ Q) X.xe s := by
  have r2 : Vals (vs ++ dvs) (us ++ ds) := r.append hd
  have hl : (us ++ ds).length = ps.length := by rw [← r2.length]; exact F.len _ _ _ _ h
  have e0 : Env0 X.prog X.w X.K X.mg X.base A X.stack s H := by
    have e := I.env0
    exact ⟨(by rw [hf]; exact e.frames), e.mod, e.bs, e.bsz, e.funs, e.frf, e.hok, e.bare⟩
  refine wpAny_call (codeAny_mono (F.run A X.stack s H ⟨us, []⟩ (us ++ ds) (vs ++ dvs) Q E hr e0 (hb s us I.kIn hl) r2 h) fun r s' hq => ?_)
  cases r with
  | error e => exact hx pins σ H s e s' I hq
  | ok fl =>
    cases fl with
    | ret u => exact I.after hq
    | next => exact False.elim hq
    | brk => exact False.elim hq
    | cont => exact False.elim hq
/-- bool(o) -/
def rOBool (C : Addr) (sp : Sp) (dvs : List V) (E : XK) : List V → Hp → VK → Prop := fun xs H Q => ∃ a dx fs, xs = [.ref a] ∧ H a = some (.ins C dx fs) ∧ sp ([.ref a] ++ dvs) H (fun v H' => ∃ b, v = .bl b ∧ Q (.bl b) H') E
theorem call_obool (c : Dun X.K C "__bool__" f) (G : FnOk X.prog X.w X.K X.mg X.base CX k f fd ps sp) (hr : Room (k + 2) X.A) (hb : Binds X.K fd ps ds) (hd : Vals dvs ds) (hx : Passes CX X E) : CallR X (.type "bool") (rOBool C sp dvs E) := by
  intro pins s σ H xs us Q I r h
  obtain ⟨a, dx, fs, rfl, e, q⟩ := h
  obtain ⟨u, rfl, rx⟩ := vals1 r
  cases rx
  obtain ⟨od, J⟩ := instAt I e
  obtain ⟨m, hF⟩ := I.fr
  refine callType_newIn F.called_bool F.newNe_bool (F.typeCall_bool_1 _) (F.newCall_bool_1 _) (fun obj => F.args_object_init_2 obj _) F.entry_bool_new bool_own ?_
  refine PySem.W.truthy_K hF I.ok.mod.kin J c.at_ c.fn ?_
  refine thn (run_fnD (us := [.ref a]) (vs := [.ref a]) G X.A.in1.in1 rfl hr.in1.in1 hb hd hx I (.cons rfl .nil) q) fun r s' z => ?_
  obtain ⟨w, H', I', rw_, b, rfl, q'⟩ := z
  cases rw_
  exact ⟨PySem.typeIs_bool _ _, .bl b, H', I', rfl, q'⟩
end
end KA
namespace KA
open PySem PySem.Spec PyProof.Rows L2
section
variable {W : List Addr} {Hk0 H0 : Hp} {Γ Γ' : Ctx} {Ω Ω' Ω1 Ω2 Ω3 : List Cell} {T T' : Tm} {σ σ' : L2.St} {Hk H : Hp} {K : PySem.W.Frag}
variable {te ta tb td tf : TE} {tt tu : TT} {D : Ends} {e e1 e2 : En} {b b2 : Bool} {ts tz tbd : TS} {α β γ : Type} {A : Rp α} {B : Rp β} {xs : List α} {n j : Nat} {wi : TI} {es : Nat → En} {g : TG}
theorem rc_obool {S : Sig} {Cl : Addr} {E : XK} {c : Bool} (hi : IsIn Cl e) (hs : S [e] (en rBool c)) : RcE (rOBool Cl (spS S) [] E) [e] (en rBool c) := fun Hk H vs k o Q q => by
  obtain ⟨v, rfl, o1⟩ := ok1 o
  obtain ⟨p, dx, fs, hv, hp⟩ := hi v Hk o1
  exact ⟨p, dx, fs, by rw [hv], k.ins hp, [e], en rBool c, Hk, hs, k, ⟨by rw [← hv]; exact o1, True.intro⟩, fun w Hk' H' g ok => ⟨c, ok, q _ Hk' H' g rfl⟩⟩
/-- o as a test -/
theorem eb_otru {S : Sig} {Cl : Addr} {E : XK} {c : Bool} (h : Ev ta Γ Ω e Ω1) (hi : IsIn Cl e) (hs : S [e] (en rBool c)) : EvB (fun σ H Q => ta σ H fun x H' => rOTru Cl (spS S) [] E x H' Q) Γ Ω c Ω1 := fun W Hk0 H0 T σ H a Q q =>
  h W Hk0 H0 T σ H a _ fun v H1 ⟨Hk1, a1⟩ => by
    have o1 := a1.tp (e, v) (by simp)
    obtain ⟨p, dx, fs, hv, hp⟩ := hi v Hk1 o1
    refine ⟨p, dx, fs, hv, a1.gr.kh.ins hp, [e], en rBool c, Hk1, hs, a1.gr.kh, ⟨by rw [← hv]; exact o1, True.intro⟩, fun w Hk' H' g ok => ⟨c, ok, q H' ⟨Hk', (a1.grow g).unpush⟩⟩⟩
/-- o(..) -/
theorem ev_callO {X : Cx} {S : Sig} {Cl : Addr} {E : XK} {t : TA} {es : List En} (hi : IsIn Cl e1) (h : Ev tf Γ Ω e1 Ω1) (ha : EvA t Γ Ω1 es Ω2) (hs : S (e1 :: es) e) : Ev (StX.tCallO X Cl (fun vs H Q E => spS S (vs ++ []) H Q E) E tf t) Γ Ω e Ω2 := fun W Hk0 H0 T σ H a Q q =>
  h W Hk0 H0 T σ H a _ fun v H1 a1 => by
    have : ∃ p dx fs, v = .ref p ∧ H1 p = some (.ins Cl dx fs) := by
      obtain ⟨Hk1, a1⟩ := a1
      obtain ⟨p, dx, fs, hv, hp⟩ := hi v Hk1 (a1.tp (e1, v) (by simp))
      exact ⟨p, dx, fs, hv, a1.gr.kh.ins hp⟩
    obtain ⟨p, dx, fs, hv, hp⟩ := this
    refine ⟨p, hv, ha W Hk0 H0 _ σ H1 a1 _ fun vs H2 hlv ⟨Hk2, a2⟩ => ?_⟩
    have o1 : e1.ok v Hk2 := a2.tp (e1, v) (by simp)
    obtain ⟨p2, dx2, fs2, hv2, hp2⟩ := hi v Hk2 o1
    have ep : p2 = p := by rw [hv] at hv2; cases hv2; rfl
    subst ep
    have o : OkAll (e1 :: es) (.ref p2 :: vs ++ []) Hk2 := by rw [List.append_nil, ← hv]; exact ⟨o1, .of_zip hlv fun z hz => a2.tp z (by simp [hz])⟩
    exact ⟨.inr ⟨dx2, fs2, a2.gr.kh.ins hp2⟩, e1 :: es, e, Hk2, hs, a2.gr.kh, o, fun w Hk' H' g ok => q w H' ⟨Hk', ((a2.grow g).sub (T' := T) fun z hz => by simp [hz]).push ok⟩⟩
theorem Al.rev {H : Hp} {vs : List V} (h : Al A H xs vs) : Al A H xs.reverse vs.reverse := by
  induction h with
  | nil => exact .nil
  | cons h _ ih => rw [List.reverse_cons, List.reverse_cons]; exact ih.append (.one h)
/-- xs[::-1] -/
theorem ev_rev (h : Ev ta Γ Ω (en (rList A) xs) Ω1) : Ev (tRevL K ta) Γ Ω (en (rList A) xs.reverse) Ω1 := fun W Hk0 H0 T σ H a Q q =>
  h W Hk0 H0 T σ H a _ fun v H1 ⟨Hk1, a1⟩ => by
    obtain ⟨p, vs, hv, hp, al⟩ := (show (rList A).r xs v Hk1 from a1.tp (en (rList A) xs, v) (by simp))
    refine ⟨p, vs, hv, Evl.sq_of (a1.gr.kh.lst hp), fun r hr => ?_⟩
    have g := Grow.new (W := []) (o := .lst vs.reverse) a1.gr.kh hr
    exact q _ _ ⟨_, ((a1.grow g).unpush).push (e := en (rList A) xs.reverse) ⟨r, _, rfl, upd_same, al.rev.mono g.kk⟩⟩
/-- list(t) -/
theorem rc_listT {es : List En} (xs : List α) (hx : es = xs.map (en A)) : RcE (fun us H Q => ∃ p ys, us = [.ref p] ∧ (SqL K H p ys ∨ SqT K H p ys) ∧ ∀ l, H l = none → Q (.ref l) (upd H l (.lst ys))) [enT K es] (en (rList A) xs) := fun Hk H vs k o Q q => by
  obtain ⟨v, rfl, o1⟩ := ok1 o
  obtain ⟨p, ws, hu, hp, al⟩ := (show (rMany K es).r () v Hk from o1)
  refine ⟨p, ws, by rw [hu], .inr (ex_t k hp), fun l hl => ?_⟩
  have g := Grow.new (W := []) (o := .lst ws) k hl
  exact q _ _ _ g ⟨l, _, rfl, upd_same, (al_of xs hx al).mono g.kk⟩
theorem rc_listTL : RcE (fun us H Q => ∃ p ys, us = [.ref p] ∧ (SqL K H p ys ∨ SqT K H p ys) ∧ ∀ l, H l = none → Q (.ref l) (upd H l (.lst ys))) [en (rTupL K A) xs] (en (rList A) xs) := fun Hk H vs k o Q q => by
  obtain ⟨v, rfl, o1⟩ := ok1 o
  obtain ⟨p, ws, hu, hp, al⟩ := (show (rTupL K A).r xs v Hk from o1)
  refine ⟨p, ws, by rw [hu], .inr (ex_t k hp), fun l hl => ?_⟩
  have g := Grow.new (W := []) (o := .lst ws) k hl
  exact q _ _ _ g ⟨l, _, rfl, upd_same, al.mono g.kk⟩
theorem At.perm (a : At W Hk0 H0 Γ Ω T σ H) (h : Ω.Perm Ω') : At W Hk0 H0 Γ Ω' T σ H := by
  obtain ⟨Hk, a⟩ := a
  exact ⟨Hk, a.cells ((h.map Cell.a).nodup_iff.mp a.nd) fun c hc => h.mem_iff.mpr hc⟩
/-- [elt for .. in ..], the element changes cells -/
theorem ev_lcC {vs : List Nat} (Γs : Nat → Ctx) (Ωs : Nat → List Cell) (v : Nat → β) (h : EvI Any wi Γ Ω n es (Ωs 0)) (hn : n ≤ 40000)
    (hg : ∀ i, i < n → TgE g (wipeC Γ vs) (es i) (Γs i) vs) (he : ∀ i D, i < n → Ev te (Γs i) (Ωs i ++ [D]) (en B (v i)) (Ωs (i + 1) ++ [D])) :
    Ev (tLc wi g tYes te vs) Γ Ω (en (rList B) ((List.range n).map v)) (Ωs n) := fun W Hk0 H0 T σ H a Q q =>
  h W Hk0 H0 T σ H True.intro a _ fun J T' H1 ⟨Hk1, a1⟩ ⟨G, Y, w, hGk, hY⟩ Dl hD => by
    have hsl := a1.sl
    have hlen := a1.len
    have hnw : Dl ∉ W := At.notW ⟨Hk1, a1⟩ hD
    have back : ∀ {Ω' : List Cell} {σ' : L2.St} {Γ' : Ctx} {H' : Hp}, At W Hk0 H0 Γ' Ω' (T' ++ (slT Γ σ ++ T)) σ' H' → At W Hk0 H0 (wipeC Γ vs) Ω' (T' ++ (slT Γ σ ++ T)) (wipe σ vs) H' := fun {Ω'} {σ'} {Γ'} {H'} z =>
      z.reslot (by rw [wipe_length, wipeC_len]; exact hlen) fun i e q => by
        obtain ⟨h1, h2⟩ := wipeC_in q
        obtain ⟨u, h3, h4⟩ := slT_in hsl i e h1
        exact ⟨u, by rw [wipe_at h2]; exact h3, by simp [h4]⟩
    have start : At W Hk0 H0 (wipeC Γ vs) (lc B Dl ((List.range 0).map v) :: Ωs 0) (T' ++ (slT Γ σ ++ T)) (wipe σ vs) (upd H1 Dl (.lst [])) := by
      refine ⟨Hk1, AtH.newCell (c := lc B Dl ((List.range 0).map v)) { a1.wipe vs with tp := fun p hp => ?_ } hD rfl ⟨[], rfl, .nil⟩⟩
      simp at hp
      rcases hp with hp | hp | hp
      · exact a1.tp p (by simp [hp])
      · exact slT_ok hlen hsl p hp
      · exact a1.tp p (by simp [hp])
    refine lc_it w (fun i H' => At W Hk0 H0 (wipeC Γ vs) (lc B Dl ((List.range i).map v) :: Ωs i) (T' ++ (slT Γ σ ++ T)) (wipe σ vs) H') start (fun i H' _ ⟨Hk', a'⟩ => hGk Hk' H' (fun p hp => a'.tp p (by simp [hp])) a'.gr.kh a'.gr.hh) ?_ ?_
    · rintro i x H2 H3 hi ⟨Hk', a'⟩ y
      obtain ⟨Hk3, g3, ok⟩ := hY i Hk' H2 x H3 hi (fun p hp => a'.tp p (by simp [hp])) a'.gr.kh y
      refine hg i hi W Hk0 H0 _ _ _ H3 x ⟨Hk3, (a'.grow g3).push ok⟩ _ fun σ2 a2 ⟨ps, hps, es⟩ => ⟨by rw [es, wipe_fold hps, wipe_wipe fun _ h => h], ?_⟩
      show te σ2 H3 _
      refine he i _ hi W Hk0 H0 _ σ2 H3 (a2.perm (List.perm_append_singleton _ _).symm) _ fun y H5 a5 => ?_
      obtain ⟨acc, h1, h2, a6⟩ := (a5.perm (List.perm_append_singleton _ _)).append
      refine ⟨acc, h1, ?_, ?_⟩
      · rw [h2, List.length_map, List.length_range]
        exact Evl.sz_lt (by omega)
      · rw [List.range_succ, List.map_append]
        exact back a6
    · intro H' a'
      refine q (.ref Dl) H' ((a'.freeL hnw).reslot (T := (en (rList B) ((List.range n).map v), .ref Dl) :: (T' ++ (slT Γ σ ++ T))) hlen (fun i e q => ?_) |>.sub fun p hp => ?_)
      · obtain ⟨u, h3, h4⟩ := slT_in hsl i e q
        exact ⟨u, h3, by simp [h4]⟩
      · simp at hp ⊢
        rcases hp with hp | hp
        · exact .inl hp
        · exact .inr (.inr (.inr hp))
/-- a thing that is new and one's own: a dict -/
def EvC (Bs : List Addr → Hp → Hp → L2.St → Prop) (te : TE) (Γ : Ctx) (Ω : List Cell) (A : Rp α) (m : List (Str × α)) (Ω' : List Cell) : Prop := ∀ W Hk0 H0 T σ H, Bs W Hk0 H0 σ → At W Hk0 H0 Γ Ω T σ H → ∀ Q : VK, (∀ p H', p ∉ W → At W Hk0 H0 Γ (dc A p m :: Ω') T σ H' → Q (.ref p) H') → te σ H Q
theorem s_setDC {i : Nat} {m : List (Str × α)} (a : At W Hk0 H0 Γ Ω T σ H) (h : EvC Any te Γ Ω A m Ω1) (k : ∀ p σ' H', p ∉ W → At W Hk0 H0 (Γ.set i (some (en rVal (.ref p)))) (dc A p m :: Ω1) T σ' H' → D.nx σ' H') : tAsg te (gName i) D σ H :=
  h W Hk0 H0 T σ H True.intro a _ fun p H' hp ⟨Hk, a'⟩ => k p _ _ hp ⟨Hk, a'.set (e := en rVal (.ref p)) i rfl⟩
theorem q_setDC {i : Nat} {m : List (Str × α)} (a : At W Hk0 H0 Γ Ω T σ H) (h : EvC Any te Γ Ω A m Ω1) (k : ∀ p σ' H', p ∉ W → At W Hk0 H0 (Γ.set i (some (en rVal (.ref p)))) (dc A p m :: Ω1) T σ' H' → tz D σ' H') : tSeq (tAsg te (gName i)) tz D σ H := s_setDC (D := { D with nx := tz D }) a h k
end
end KA
namespace KA
open PySem PySem.Spec PyProof.Rows L2
section
variable {W : List Addr} {Hk0 H0 : Hp} {Γ Γ' : Ctx} {Ω Ω' Ω1 Ω2 Ω3 : List Cell} {T T' : Tm} {σ σ' : L2.St} {Hk H : Hp} {K : PySem.W.Frag}
variable {te ta tb td tf : TE} {tt tu : TT} {D : Ends} {e e1 e2 : En} {α β γ : Type} {A : Rp α} {B : Rp β} {xs : List α} {n j : Nat} {wi : TI} {es : Nat → En} {g : TG}
/-- {k: v for .. in ..}, no key twice, the dict one's own -/
theorem ev_dcC {Bs : List Addr → Hp → Hp → L2.St → Prop} {tk tv : TE} {vs : List Nat} (Γs : Nat → Ctx) (ks : Nat → Str) (v : Nat → β) (h : EvI Bs wi Γ Ω n es Ω1) (hn : n ≤ 40000) (nd : ∀ i j, i < j → j < n → ks i ≠ ks j)
    (hg : ∀ i, i < n → TgE g (wipeC Γ vs) (es i) (Γs i) vs) (hk : ∀ i Ω, i < n → Ev tk (Γs i) Ω (en rStr (ks i)) Ω) (he : ∀ i Ω, i < n → Ev tv (Γs i) Ω (en B (v i)) Ω) :
    EvC Bs (tDc wi g tYes tk tv vs) Γ Ω B ((List.range n).map fun i => (ks i, v i)) Ω1 := fun W Hk0 H0 T σ H hB a Q q =>
  h W Hk0 H0 T σ H hB a _ fun J T' H1 ⟨Hk1, a1⟩ ⟨G, Y, w, hGk, hY⟩ Dl hD => by
    have hsl := a1.sl
    have hlen := a1.len
    have hnw : Dl ∉ W := At.notW ⟨Hk1, a1⟩ hD
    have back : ∀ {Ω' : List Cell} {σ' : L2.St} {Γ' : Ctx} {H' : Hp}, At W Hk0 H0 Γ' Ω' (T' ++ (slT Γ σ ++ T)) σ' H' → At W Hk0 H0 (wipeC Γ vs) Ω' (T' ++ (slT Γ σ ++ T)) (wipe σ vs) H' := fun {Ω'} {σ'} {Γ'} {H'} z =>
      z.reslot (by rw [wipe_length, wipeC_len]; exact hlen) fun i e q => by
        obtain ⟨h1, h2⟩ := wipeC_in q
        obtain ⟨u, h3, h4⟩ := slT_in hsl i e h1
        exact ⟨u, by rw [wipe_at h2]; exact h3, by simp [h4]⟩
    have start : At W Hk0 H0 (wipeC Γ vs) (dc B Dl ((List.range 0).map fun i => (ks i, v i)) :: Ω1) (T' ++ (slT Γ σ ++ T)) (wipe σ vs) (upd H1 Dl (.dK [])) := by
      refine ⟨Hk1, AtH.newCell (c := dc B Dl ((List.range 0).map fun i => (ks i, v i))) ?_ hD rfl ⟨[], rfl, .nil⟩⟩
      refine { a1.wipe vs with tp := fun p hp => ?_ }
      simp at hp
      rcases hp with hp | hp | hp
      · exact a1.tp p (by simp [hp])
      · exact slT_ok hlen hsl p hp
      · exact a1.tp p (by simp [hp])
    refine dc_it w (fun i H' => At W Hk0 H0 (wipeC Γ vs) (dc B Dl ((List.range i).map fun i => (ks i, v i)) :: Ω1) (T' ++ (slT Γ σ ++ T)) (wipe σ vs) H') start (fun i H' _ ⟨Hk', a'⟩ => hGk Hk' H' (fun p hp => a'.tp p (by simp [hp])) a'.gr.kh a'.gr.hh) ?_ ?_
    · rintro i x H2 H3 hi ⟨Hk', a'⟩ y
      obtain ⟨Hk3, g3, ok⟩ := hY i Hk' H2 x H3 hi (fun p hp => a'.tp p (by simp [hp])) a'.gr.kh y
      refine hg i hi W Hk0 H0 _ _ _ H3 x ⟨Hk3, (a'.grow g3).push ok⟩ _ fun σ2 a2 ⟨ps, hps, es⟩ => ⟨by rw [es, wipe_fold hps, wipe_wipe fun _ h => h], ?_⟩
      show tk σ2 H3 _
      refine hk i _ hi W Hk0 H0 _ σ2 H3 a2 _ fun y H4 a4 => ?_
      refine he i _ hi W Hk0 H0 _ σ2 H4 a4 _ fun z H5 ⟨Hk5, a5⟩ => ?_
      have hy : y = .str (ks i) := a5.tp (en rStr (ks i), y) (by simp)
      have hz : B.r (v i) z Hk5 := a5.tp (en B (v i), z) (by simp)
      obtain ⟨_, ⟨o, g2, kvs, rfl, al⟩, _⟩ := a5.cl _ (List.mem_cons_self ..)
      have hno : ((List.range i).map fun i => (ks i, v i)).lookup (ks i) = none := lookup_no fun p hp => by
        obtain ⟨j, hj, rfl⟩ := List.mem_map.mp hp
        exact nd j i (List.mem_range.mp hj) hi
      obtain ⟨e1, e2⟩ := al.put hno hz
      have hl := al.len
      rw [List.length_map, List.length_range] at hl
      refine ⟨kvs, Sum.inr (ks i), hy, g2, Evl.sz_lt (by omega), ?_⟩
      rw [e1, List.range_succ, List.map_append]
      refine back ⟨Hk5, (a5.sub (T' := T' ++ (slT Γ σ ++ T)) fun p hp => ?_).write (c := dc B Dl ((List.range i).map fun i => (ks i, v i))) (c' := dc B Dl (((List.range i).map fun i => (ks i, v i)) ++ [(ks i, v i)])) rfl ⟨_, rfl, e2⟩⟩
      simp at hp ⊢
      rcases hp with hp | hp | hp <;> simp [hp]
    · intro H' a'
      refine q Dl H' hnw (a'.reslot (T := T' ++ (slT Γ σ ++ T)) hlen (fun i e q => ?_) |>.sub fun p hp => by simp [hp])
      obtain ⟨u, h3, h4⟩ := slT_in hsl i e q
      exact ⟨u, h3, by simp [h4]⟩
theorem ev_lkC {m : List (Str × α)} {l : List (Str × β)} (hl : Dloc td Γ A m) (h : EvC (Lkd td A m) te Γ Ω B l Ω1) : EvC Any (tLockV te) Γ Ω B l Ω1 := fun W Hk0 H0 T σ H _ ⟨Hk, a⟩ Q q => by
  obtain ⟨d, kvs, hd, al, ht⟩ := hl W Hk0 H0 Ω T σ Hk H a
  have hdH : Rd H d (.dK kvs) := a.gr.kh.dK hd
  have hk : Hk d ≠ none := by rcases hd with hd | ⟨_, hd⟩ <;> (rw [hd]; intro z; cases z)
  have hw : d ∉ wide W Ω := fun w => hk (a.here.ww d w).2
  rcases hdH with hdH | ⟨o, hdH⟩
  · refine .inl ⟨d, .dK kvs, hdH, True.intro, fun od => ?_⟩
    have b := a.lock (od := od) hdH True.intro hk
    refine h _ _ _ _ _ _ ⟨d, od, kvs, hw, upd_same, al, ht⟩ ⟨Hk, b⟩ _ fun p H' hp ⟨Hk', b'⟩ => ?_
    obtain ⟨e1, e2⟩ := a.unlock (od := od) hdH True.intro hk b'
    exact ⟨e1, q p _ (fun z => hp (List.mem_append_right _ z)) ⟨Hk', e2⟩⟩
  · exact .inr (h _ _ _ _ _ _ ⟨d, o, kvs, hw, hdH, al, ht⟩ ⟨Hk, a.here⟩ _ fun p H' hp ⟨Hk', b'⟩ => q p H' (fun z => hp (List.mem_append_right _ z)) ⟨Hk', a.back b'⟩)
end
end KA
namespace KA
open PySem PySem.Spec PyProof.Rows L2
theorem ii_strI {K : PySem.W.Frag} {i : Int} : RcE (rIsi K) [en rInt i, en rVal (.ty "str")] (en rBool false) := rc_isi (.ty _) ty_int (kit_ty (by decide +kernel))
end KA

namespace KA
open PySem PySem.Spec PyProof.Rows L2
/-- in the frame of a comprehension's block -/
def InBlk (X : Cx) (sc : Scope) (P : Cx → Prop) : Prop := ∀ s H C cl fp, P (X.blk s H sc (compEnvC sc cl C X.env) fp)
section
variable {X : Cx}
theorem swD_true {k v : Expr} {gs : List Comprehension} {sc : Scope} {p q : Pos} {y : Str} {l : Nat} {en : Env} (hk : en.scope.kind = .function) (hy : en.scope.names.lookup y = some .local) (hl : (q.line == p.line) = true)
    (ha : (sc.names.any fun (n, k) => n == y && (k == .local || k == .cell)) = false) : swapsWith (.DictComp k v gs sc p) (some (.Name y q)) l en = pure true := by
  have h1 : en.kindOf y = some .local := hy
  have h2 : en.blockKind = .function := by rw [Env.blockKind, hk]; rfl
  simp only [swapsWith, h2, h1, ha, Expr.pos, hl]
  rfl
/-- name = {..}, a statement on one line, the name a local one -/
theorem ps_setDc {i : Nat} {y : Str} {q p r : Pos} {ek ev tg it : Expr} {cs : List Expr} {sc : Scope} {own : List (Str × Nat)} {wi : TI} {g : TG} {tt : TT} {tk tv : TE} (calm : X.calm = true) (nd : X.N.Nodup) (at_ : X.N[i]? = some y) (loc : X.env.scope.names.lookup y = some .local)
    (sw : swapsWith (.DictComp ek ev [⟨tg, it, cs, 0⟩] sc p) (some (.Name y q)) r.line X.env = pure true) (pi : PI X tg it wi) (ok : BlkOk X.N X.env.scope sc own)
    (pg : InBlk X sc fun B => PG B tg g) (pt : InBlk X sc fun B => PTs B cs tt) (pk : InBlk X sc fun B => PE B ek tk) (pv : InBlk X sc fun B => PE B ev tv) (fold : ∀ x, foldedSetIterable it X.env x = pure x := by intro _; rfl) :
    PS X (.Assign [.Name y q] (.DictComp ek ev [⟨tg, it, cs, 0⟩] sc p) r) (tAsg (tDc wi g tt tk tv (own.map (·.2))) (gName i)) := ⟨fun pins s σ H D I h => by
  have h : tDc wi g tt tk tv (own.map (·.2)) σ H (fun x H1 => gName i x σ H1 D.nx) := h
  have z := dc_core (use := some (assign (.Name y q) X.env)) (Qf := fun _ s' => SP X pins D .next s') (pos := p) (pos' := firstIterPos [⟨tg, it, cs, 0⟩] p) calm nd I pi ok pg pt pk pv fold h fun d c t m H' J w n f => wpAny_assign_Name (store_ok2 (v := V.ref d) J nd at_ (.inl loc) rfl (fun t2 J2 ⟨b, same, hb⟩ => by
    have cb : c ≠ b := hb.elim (fun e => e ▸ f.2.1) fun e z => f.2.2.2.2.1 y b e z.symm
    exact ⟨m, n.sameBut same cb, fun t3 same3 => ⟨_, H', J2.turned (t' := t2.toks) (fun o u ho e => (same3.2 o ho).trans e) f.1 f.2.1 f.2.2.2.1 f.2.2.2.2.1 f.2.2.2.2.2, w⟩⟩) (.inr loc))
  rw [exec_Assign_Name_used _ _ _ _ sw]
  exact wpAny_bind (wpAny_standAt (wpAny_bind (wpAny_bind (thn z fun _ _ e => wpAny_pure (wpAny_pure e)))))⟩
end
section
variable {W : List Addr} {Hk0 H0 : Hp} {Γ Γ' : Ctx} {Ω Ω' Ω1 Ω2 Ω3 : List Cell} {T T' : Tm} {σ σ' : L2.St} {Hk H : Hp} {K : PySem.W.Frag}
variable {te td tf : TE} {D : Ends} {tz : TS} {α β : Type} {A : Rp α} {B : Rp β} {e : En}
/-- name = {..}, the dict it walks locked the while -/
theorem s_setDCS {m : List (Str × α)} {l : List (Str × β)} {i : Nat} (a : At W Hk0 H0 Γ Ω T σ H) (hl : Dloc td Γ A m) (h : EvC (Lkd td A m) te Γ Ω B l Ω1) (k : ∀ p σ' H', p ∉ W → At W Hk0 H0 (Γ.set i (some (en rVal (.ref p)))) (dc B p l :: Ω1) T σ' H' → D.nx σ' H') : tLockS (tAsg te (gName i)) D σ H := by
  obtain ⟨Hk, a⟩ := a
  obtain ⟨d, kvs, hd, al, ht⟩ := hl W Hk0 H0 Ω T σ Hk H a
  have hdH : Rd H d (.dK kvs) := a.gr.kh.dK hd
  have hk : Hk d ≠ none := by rcases hd with hd | ⟨_, hd⟩ <;> (rw [hd]; intro z; cases z)
  have hw : d ∉ wide W Ω := fun w => hk (a.here.ww d w).2
  rcases hdH with hdH | ⟨o, hdH⟩
  · refine .inl ⟨d, .dK kvs, hdH, True.intro, fun od => ?_⟩
    have b := a.lock (od := od) hdH True.intro hk
    refine h _ _ _ _ _ _ ⟨d, od, kvs, hw, upd_same, al, ht⟩ ⟨Hk, b⟩ _ fun p H' hp ⟨Hk', b'⟩ => ?_
    obtain ⟨e1, e2⟩ := a.unlock (od := od) hdH True.intro hk (b'.set (e := en rVal (.ref p)) i rfl)
    exact ⟨e1, k p _ _ (fun z => hp (List.mem_append_right _ z)) ⟨Hk', e2⟩⟩
  · exact .inr (h _ _ _ _ _ _ ⟨d, o, kvs, hw, hdH, al, ht⟩ ⟨Hk, a.here⟩ _ fun p H' hp ⟨Hk', b'⟩ => k p _ _ (fun z => hp (List.mem_append_right _ z)) ⟨Hk', (a.back b').set (e := en rVal (.ref p)) i rfl⟩)
theorem q_setDCS {m : List (Str × α)} {l : List (Str × β)} {i : Nat} (a : At W Hk0 H0 Γ Ω T σ H) (hl : Dloc td Γ A m) (h : EvC (Lkd td A m) te Γ Ω B l Ω1) (k : ∀ p σ' H', p ∉ W → At W Hk0 H0 (Γ.set i (some (en rVal (.ref p)))) (dc B p l :: Ω1) T σ' H' → tz D σ' H') : tSeq (tLockS (tAsg te (gName i))) tz D σ H := s_setDCS (D := { D with nx := tz D }) a hl h k
/-- C.m(..), m a classmethod -/
theorem ev_cmeth {S : Sig} {C : Addr} {E : XK} {t : TA} {es : List En} (hc : Ev te Γ Ω (en rVal (.ref C)) Ω1) (h : EvA t Γ Ω1 es Ω2) (hs : S (en rVal (.ref C) :: es) e) : Ev (ClX.tCMeth C (fun vs H Q E => spS S (vs ++ []) H Q E) E te t) Γ Ω e Ω2 := fun W Hk0 H0 T σ H a Q q =>
  hc W Hk0 H0 T σ H a _ fun v H1 ⟨Hk1, a1⟩ => ⟨a1.tp (en rVal (.ref C), v) (by simp), h W Hk0 H0 _ σ H1 ⟨Hk1, a1⟩ _ fun vs H2 hl ⟨Hk2, a2⟩ =>
    ⟨en rVal (.ref C) :: es, e, Hk2, hs, a2.gr.kh, by rw [List.append_nil]; exact ⟨rfl, .of_zip hl fun p hp => a2.tp p (by simp [hp])⟩, fun w Hk' H' g ok => q w H' ⟨Hk', ((a2.grow g).sub (T' := T) fun z hz => by simp [hz]).push ok⟩⟩⟩
end
/-! ### a class held by a local name; keywords left out -/
def tMakeV (i : Nat) (C : Addr) (sp : Sp) (dvs : List V) (E : XK) (t : TA) : TE := fun σ H Q => σ[i]? = some (some (.ref C)) ∧ tMake C sp dvs E t σ H Q
section
variable {X : Cx} {CX : CXT} {k i : Nat} {f C : Addr} {fd : FuncData} {ps : List Str} {sp : Sp} {dvs : List V} {E : XK} {x : Str} {a : Expr} {as_ : List Expr} {t : TA} {p pos : Pos}
theorem pe_makeX (M : Mk X.K C f) (F : FnOk X.prog X.w X.K X.mg X.base CX k f fd ps sp) (hr : Room (k + 1) X.A) (hg : Gl X x) (hm : X.mg x = some (.ref C)) (hb : ∃ ds, Vals dvs ds ∧ Binds X.K fd ps ds) (hx : Passes CX X E) (ha : PA X (a :: as_) t) (hdb : (x == ("__debug__" : Str)) = false := by decide)
    (he : starEach (a :: as_) X.env = (false, eval a X.env) :: starEach as_ X.env := by rfl) (hpl : (backTo pos (starEach as_ X.env)).any (·.1) = false := by rfl) : PE X (.Call (.Name x p) (a :: as_) [] pos) (tMake C sp dvs E t) := by
  obtain ⟨ds, hd, b⟩ := hb
  exact pe_make M F hr hg hm b hd hx ha hdb he hpl
theorem pe_makeV (M : Mk X.K C f) (F : FnOk X.prog X.w X.K X.mg X.base CX k f fd ps sp) (hr : Room (k + 1) X.A) (hb : ∃ ds, Vals dvs ds ∧ Binds X.K fd ps ds) (hx : Passes CX X E) (hN : X.N[i]? = some x) (hv : Vis X.env.scope x) (ha : PA X (a :: as_) t)
    (h1 : (x == ("__debug__" : Str)) = false := by decide) (h2 : (x == ("__classdict__" : Str)) = false := by decide)
    (he : starEach (a :: as_) X.env = (false, eval a X.env) :: starEach as_ X.env := by rfl) (hpl : (backTo pos (starEach as_ X.env)).any (·.1) = false := by rfl) : PE X (.Call (.Name x p) (a :: as_) [] pos) (tMakeV i C sp dvs E t) := ⟨fun pins s σ H Q I ⟨hs, h⟩ => by
  obtain ⟨ds, hd, b⟩ := hb
  refine wpAny_Call_Name_kw (thn ((pe_var (pos := p) (i := i) hN hv h1 h2).run pins s σ H (fun v H1 => v = .ref C ∧ H1 = H) I ⟨.ref C, hs, rfl, rfl⟩) fun u s1 ⟨v, H1, J, rv, ev, eH⟩ => ?_)
  subst ev eH
  cases rv
  exact PySem.W.callWith_K (h₀ := X.base) J.ok.mod.kin M.kp (thn (ha.run pos pins s1 σ H1 _ J h) fun us s2 ⟨vs, H2, J2, rr, w⟩ => ⟨J2.kIn, run_make M F hr b hd hx J2 rr w⟩) he hpl⟩
end
section
variable {Γ : Ctx} {Ω Ω1 : List Cell} {e : En} {es ds : List En}
theorem ev_makeV {S : SigM} {Cl : Addr} {dvs : List V} {E : XK} {t : TA} {i : Nat} (hi : Γ[i]? = some (some (en rVal (.ref Cl)))) (h : Ev (tMake Cl (spM S) dvs E t) Γ Ω e Ω1) : Ev (tMakeV i Cl (spM S) dvs E t) Γ Ω e Ω1 := fun W Hk0 H0 T σ H ⟨Hk, a⟩ Q q => by
  obtain ⟨v, h1, h2⟩ := a.sl i _ hi
  have : v = .ref Cl := h2
  subst this
  exact ⟨h1, h W Hk0 H0 T σ H ⟨Hk, a⟩ Q q⟩
end
/-- a promise with what the call leaves out -/
def GdD (P : Program) (w : World) (K : PySem.W.Frag) (mg : Str → Option Value) (base : Heap) (k : Nat) (f : Addr) (ps : List Str) (sp : Sp) (dvs : List V) : Prop :=
  ∃ fd, FnOk P w K mg base CX0 k f fd ps sp ∧ PySem.W.keepIn K (.ref f) = true ∧ ∃ ds, Vals dvs ds ∧ Binds K fd ps ds
/-! ### a classmethod of the text -/
theorem cm_ok {K : PySem.W.Frag} {x m : Str} (c : fCm x m K = true) : ClX.CMet K (He.ga K x) (.type "type") m (He.ma K (He.ga K x) m) (cg K x m) := by
  have c := Bool.and_eq_true_iff.mp c
  exact He5.cmet_of c.1 c.2
theorem cr_ok {K : PySem.W.Frag} {x : Str} (c : fCr x K = true) : ClX.CRead K (He.ga K x) (.type "type") := by
  have c := Bool.and_eq_true_iff.mp c
  exact ⟨c.1, of_decide_eq_true c.2⟩
end KA

namespace KA
open PySem PySem.Spec PyProof.Rows L2
/-! ### shifted jobs -/
theorem runs_later (j : Jb) (x t : Int) : runs (j.shift x) (t + x) = runs j t := by
  have hj := j.ok
  show decide ((t + x - (j.st + x) % j.per) % j.per < j.dur) = decide ((t - j.st) % j.per < j.dur)
  have : (t + x - (j.st + x) % j.per) % j.per = (t - j.st) % j.per := by
    rw [Int.sub_emod, Int.emod_emod_of_dvd _ (Int.dvd_refl _), ← Int.sub_emod]
    congr 1
    omega
  rw [this]
theorem shift_per (j : Jb) : j.shift j.per = j := by
  have hj := j.ok
  refine Jb.ext' rfl rfl ?_ rfl
  show (j.st + j.per) % j.per = j.st
  rw [Int.add_emod_right, Int.emod_eq_of_lt hj.2.2.1.1 hj.2.2.1.2]
theorem shift_zero (j : Jb) : j.shift 0 = j := by
  have hj := j.ok
  refine Jb.ext' rfl rfl ?_ rfl
  show (j.st + 0) % j.per = j.st
  rw [Int.add_zero, Int.emod_eq_of_lt hj.2.2.1.1 hj.2.2.1.2]
theorem runAt_later (m : List (Str × Jb)) (x t : Int) : runAt (laterT m x) (t + x) = runAt m t := by
  unfold runAt laterT
  induction m with
  | nil => rfl
  | cons p m ih =>
    rw [List.map_cons, List.filter_cons, List.filter_cons, runs_later]
    split
    · rw [List.map_cons, List.map_cons, ih]
    · exact ih
theorem movedV_rep (m : List (Str × Jb)) (x : Int) (n : Nat) (h : n = m.length) : movedV m (List.replicate n x) (min m.length (List.replicate n x).length) = laterT m x := by
  subst h
  rw [List.length_replicate, Nat.min_self]
  unfold movedV laterT
  rw [← range_getD (fun p : Str × Jb => (p.1, p.2.shift x)) m]
  refine List.map_congr_left fun i hi => ?_
  have hi := List.mem_range.mp hi
  have e : (List.replicate m.length x).getD i default = x := by
    rw [List.getD_eq_getElem?_getD, List.getElem?_eq_getElem (by rw [List.length_replicate]; exact hi)]
    simp
  rw [e]
/-! ### pairs -/
theorem flatMap_eq {α β : Type} {f g : α → List β} : ∀ {l : List α}, (∀ a ∈ l, f a = g a) → l.flatMap f = l.flatMap g
  | [], _ => rfl
  | a :: l, h => by rw [List.flatMap_cons, List.flatMap_cons, h a (List.mem_cons_self ..), flatMap_eq fun b hb => h b (List.mem_cons_of_mem _ hb)]
section
variable {α β : Type} [Inhabited α] [Inhabited β]
theorem pairsL_G (xs : List α) : pairsL xs = pairsG xs := by
  unfold pairsL pairsG pairsGTo flatN
  refine flatMap_eq fun i _ => ?_
  have e : ((i : Int) + 1).toNat = i + 1 := by omega
  dsimp only
  rw [e]
  exact range_getD (fun o => (xs.getD i default, o)) (xs.drop (i + 1))
theorem pairsG_map (f : α → β) (xs : List α) : pairsG (xs.map f) = (pairsG xs).map fun p => (f p.1, f p.2) := by
  unfold pairsG pairsGTo
  rw [List.length_map, List.map_flatMap]
  refine flatMap_eq fun i hi => ?_
  have hi := List.mem_range.mp hi
  rw [← List.map_drop, List.map_map, List.map_map]
  refine List.map_congr_left fun o _ => ?_
  show ((xs.map f).getD i default, f o) = (f (xs.getD i default), f o)
  rw [List.getD_eq_getElem?_getD, List.getD_eq_getElem?_getD, List.getElem?_map, List.getElem?_eq_getElem hi]
  rfl
theorem mem_pairsG {zs : List α} {x y : α} {a b : Nat} (h1 : zs[a]? = some x) (h2 : zs[b]? = some y) (h : a < b) : (x, y) ∈ pairsG zs := by
  obtain ⟨ha, e1⟩ := List.getElem?_eq_some_iff.mp h1
  obtain ⟨hb, e2⟩ := List.getElem?_eq_some_iff.mp h2
  refine List.mem_flatMap.mpr ⟨a, List.mem_range.mpr ha, List.mem_map.mpr ⟨y, ?_, ?_⟩⟩
  · refine List.mem_of_getElem? (i := b - (a + 1)) ?_
    rw [List.getElem?_drop, show a + 1 + (b - (a + 1)) = b by omega]
    exact h2
  · rw [List.getD_eq_getElem?_getD, h1]
    rfl
end
/-- no two of them ever meet -/
def freeG (m : List (Str × Jb)) : Bool := ((pairsG m).map fun p => apartJ p.1.2 p.2.2).all id
theorem freeG_L (m : List (Str × Jb)) : ((pairsL (m.map (·.2))).map fun p => apartJ p.1 p.2).all id = freeG m := by
  rw [pairsL_G, pairsG_map, List.map_map]
  rfl
theorem freeG_common (m : List (Str × Jb)) : ((pairsG m).map fun p => (commonT p.1.2 p.2.2).isNone).all id = freeG m := by
  unfold freeG
  congr 2
  funext p
  exact common_none _ _
theorem freeG_take {m : List (Str × Jb)} (h : freeG m = true) (n : Nat) : freeG (m.take n) = true := by
  unfold freeG at h ⊢
  rw [List.all_eq_true] at h ⊢
  intro b hb
  obtain ⟨p, hp, rfl⟩ := List.mem_map.mp hb
  obtain ⟨i, j, e1, e2, hij⟩ := pairsG_mem hp
  have up : ∀ {k : Nat} {x : Str × Jb}, (m.take n)[k]? = some x → m[k]? = some x := fun {k x} e => by
    rw [List.getElem?_take] at e
    split at e
    · exact e
    · cases e
  exact h _ (List.mem_map.mpr ⟨p, mem_pairsG (up e1) (up e2) hij, rfl⟩)
/-- parts of a plan -/
theorem TbOk.rev {m : List (Str × Jb)} (h : TbOk m) (hp : prodP m.reverse = prodP m) : TbOk m.reverse := by
  refine ⟨by rw [List.length_reverse]; exact h.n1, by rw [List.length_reverse]; exact h.n4, ?_, fun p hp => h.nm p (List.mem_reverse.mp hp), ?_⟩
  · rw [List.map_reverse]
    exact (List.reverse_perm _).nodup_iff.mpr h.nd
  · rw [hp]
    exact h.pr
theorem rev_one {m : List (Str × Jb)} (h : TbOk m) : decide (m.reverse = m) = decide (m.length = 1) := by
  have h1 := h.n1
  have h4 := h.n4
  have nd := h.nd
  match m, h1, h4, nd with
  | [a], _, _, _ => simp
  | [a, b], _, _, nd =>
    have : ¬ [a, b].reverse = [a, b] := fun e => by
      have e := (List.cons.inj e).1
      subst e
      simp at nd
    exact (decide_eq_false this).trans (decide_eq_false (by simp)).symm
  | [a, b, c], _, _, nd =>
    have : ¬ [a, b, c].reverse = [a, b, c] := fun e => by
      have e := (List.cons.inj e).1
      subst e
      simp at nd
    exact (decide_eq_false this).trans (decide_eq_false (by simp)).symm
  | [a, b, c, d], _, _, nd =>
    have : ¬ [a, b, c, d].reverse = [a, b, c, d] := fun e => by
      have e := (List.cons.inj e).1
      subst e
      simp at nd
    exact (decide_eq_false this).trans (decide_eq_false (by simp)).symm
/-! ### [x] * n -/
theorem rv_rep1 {α : Type} {A : Rp α} {x : α} {k : Int} (h1 : 0 ≤ k) (h2 : k ≤ 1000) : RvE rRep (en (rList A) [x]) (en rInt k) (en (rList A) (List.replicate k.toNat x)) := fun Hk H y z ex o1 o2 Q q => by
  obtain ⟨p, vs, hv, hp, al⟩ := (show (rList A).r [x] y Hk from o1)
  obtain ⟨v, e, r⟩ : ∃ v, vs = [v] ∧ A.r x v Hk := by
    cases al with
    | cons h t => cases t; exact ⟨_, rfl, h⟩
  subst e
  refine ⟨p, k, [v], hv, o2, ex.lst hp, by omega, by omega, by simp only [List.length_cons, List.length_nil]; exact Nat.le_trans (by omega) (show 1000 ≤ sizeLine by decide), fun r0 hr => ?_⟩
  have g := Grow.new (W := []) (o := .lst (List.replicate k.toNat [v]).flatten) ex hr
  refine q _ _ _ g ⟨r0, _, rfl, upd_same, ?_⟩
  refine Al.mono g.kk ?_
  generalize k.toNat = n
  induction n with
  | zero => exact .nil
  | succ n ih =>
    rw [List.replicate_succ, List.replicate_succ, List.flatten_cons]
    exact .cons r ih
/-! ### more of plans -/
theorem pairsG_len {α : Type} [Inhabited α] {xs : List α} (h : xs.length ≤ 4) : (pairsG xs).length ≤ 16 := by
  rw [← pairsL_G]
  have hb : ∀ i : Nat, (xs.drop ((i : Int) + 1).toNat).length ≤ 4 := fun i => by rw [List.length_drop]; omega
  have h1 := flatN_len (v := fun i j => (xs.getD i default, (xs.drop ((i : Int) + 1).toNat).getD j default)) hb xs.length
  have h2 : xs.length * 4 ≤ 4 * 4 := Nat.mul_le_mul h (Nat.le_refl _)
  unfold pairsL
  omega
/-- the draws after n of them -/
def tlN (ds : List Int) : Nat → List Int
  | 0 => ds
  | n + 1 => (tlN ds n).tail
theorem foldP (m : List (Str × Jb)) (k : Int) : m.foldl (fun p r => p * r.2.per) k = k * prodP m := by
  unfold prodP
  induction m generalizing k with
  | nil => exact (Int.mul_one k).symm
  | cons p m ih => rw [List.foldl_cons, List.foldl_cons, ih, ih (1 * p.2.per), Int.one_mul, Int.mul_assoc]
theorem prodP_cons (p : Str × Jb) (m : List (Str × Jb)) : prodP (p :: m) = p.2.per * prodP m := by
  show List.foldl _ _ m = _
  rw [foldP]
  dsimp only
  rw [Int.one_mul]
theorem prodP_append (m l : List (Str × Jb)) : prodP (m ++ l) = prodP m * prodP l := by
  unfold prodP
  rw [List.foldl_append]
  exact foldP l _
theorem prodP_one (m : List (Str × Jb)) : 1 ≤ prodP m := by
  induction m with
  | nil => exact Int.le_refl 1
  | cons p m ih =>
    rw [prodP_cons]
    have := p.2.ok
    have h := Int.mul_le_mul (show 1 ≤ p.2.per by omega) ih (by omega) (by omega)
    omega
theorem prodP_rev (m : List (Str × Jb)) : prodP m.reverse = prodP m := by
  induction m with
  | nil => rfl
  | cons p m ih => rw [List.reverse_cons, prodP_append, ih, prodP_cons p m, prodP_cons p [], show prodP [] = 1 from rfl, Int.mul_one, Int.mul_comm]
theorem TbOk.part {m l : List (Str × Jb)} (h : TbOk (m ++ l)) : (1 ≤ m.length → TbOk m) ∧ (1 ≤ l.length → TbOk l) := by
  have h4 := h.n4
  rw [List.length_append] at h4
  have nd := h.nd
  rw [List.map_append] at nd
  have pr := h.pr
  rw [prodP_append] at pr
  have p1 := prodP_one m
  have p2 := prodP_one l
  have q1 := Int.mul_le_mul_of_nonneg_left p2 (show 0 ≤ prodP m by omega)
  have q2 := Int.mul_le_mul_of_nonneg_right p1 (show 0 ≤ prodP l by omega)
  exact ⟨fun h1 => ⟨h1, by omega, nd.sublist (List.sublist_append_left _ _), fun p hp => h.nm p (List.mem_append_left _ hp), by omega⟩,
    fun h1 => ⟨h1, by omega, nd.sublist (List.sublist_append_right _ _), fun p hp => h.nm p (List.mem_append_right _ hp), by omega⟩⟩
/-- the next cost is another one -/
def nextC (j : Jb) : Jb := ⟨j.per, j.dur, j.st, j.co % 9 + 1, by have := j.ok; omega⟩
theorem nextC_ne (j : Jb) : ¬ j = nextC j := fun e => by
  have h := congrArg Jb.co e
  have h : j.co = j.co % 9 + 1 := h
  have := j.ok
  omega
def dailyJ (n : Int) (h : 0 ≤ n) : Jb := ⟨12, n % 12 + 1, 0, 1, by omega⟩
end KA

/-! list(zip(xs, t)) -/
namespace KA
open PySem PySem.Spec PyProof.Rows L2
section
variable {prog : Program} {w : World} {A : Around} {E : Value → Shared → Prop} {s : Shared} {z t1 t2 j1 j2 T : Addr} {f : Bool} {oT : Obj} {F1 F2 : List Addr} {n1 n2 i : Nat} {P1 P2 : Nat → Value → Prop} {S1 S2 : Nat → Heap → Prop}
/-- the next pair, the one before still out -/
theorem zipH_item {Q : Value → Shared → Prop} (S : ZipSep2 z t1 t2 j1 j2 F1 F2) (D1 : Draws prog w A j1 F1 n1 P1 S1) (D2 : Draws prog w A j2 F2 n2 P2 S2) (hz : IsZipHeld s.heap z t1 t2 T f) (hT : s.heap.get? T = some oT) (ht : IsTupOf2 s.heap t1 (.ref j1) (.ref j2))
    (h1 : S1 i s.heap) (h2 : S2 i s.heap) (l1 : i < n1) (l2 : i < n2) (hQ : ∀ x y g tk, P1 i x → P2 i y → IsZipHeld g z t1 t2 T true → S1 (i + 1) g → S2 (i + 1) g → IsTupOf2 g s.heap.objs.size x y → (∀ c o, c ≠ z → c ≠ j1 → c ≠ j2 → s.heap.get? c = some o → g.get? c = some o) → Q (.ref s.heap.objs.size) { s with heap := g, toks := tk }) :
    wpAny (model prog w) A (Builtin.«zip.__next__» ⟨[.ref z], []⟩) (fun r u => ∃ v, r = .done (.ret v) ∧ Q v u) E s := by
  obtain ⟨hp, gs, dr, k0, os⟩ := s
  show wpAny _ _ (field (.ref z) 2 >>= _) _ _ _; refine wpAny_bind (wpAny_field hz rfl (x := .bool false) rfl ?_)
  show wpAny _ _ (field (.ref z) 3 >>= _) _ _ _; refine wpAny_bind (wpAny_field hz rfl (x := .ref t1) rfl (wpAny_bind (wpAny_seqItems ht rfl ?_)))
  show wpAny _ _ (Builtin.SmallTypes.ownedTupleIsFree (.ref z) >>= _) _ _ _; refine wpAny_bind (wpAny_tupleHeld_zip hz hT fun g0 z0 e0 => ?_)
  replace e0 : Heap.SameBut z hp g0 := e0
  simp only [Bool.false_eq_true, if_false]
  refine wpAny_bind ?_
  rw [← Array.forIn_toList]; simp only [List.forIn_cons, List.forIn_nil]; refine wpAny_bind (wpAny_bind (wpAny_holding ?_))
  show wpAny _ _ (Builtin.SmallTypes.nextOf (.ref j1) >>= _) _ _ ⟨g0, gs, dr, _, os⟩
  refine wpAny_bind (D1.item i _ _ _ l1 (D1.over h1 e0 S.zf1) fun x p1 k1 hx a1 e1 => wpAny_pure (wpAny_pure ?_))
  replace e1 : Heap.SameBut j1 g0 p1 := e1
  refine wpAny_bind (wpAny_bind (wpAny_holding ?_))
  show wpAny _ _ (Builtin.SmallTypes.nextOf (.ref j2) >>= _) _ _ ⟨p1, gs, dr, _, os⟩
  refine wpAny_bind (D2.item i _ _ _ l2 (D2.over (D2.over h2 e0 S.zf2) e1 S.sep1_2) fun y p2 k2 hy a2 e2 => wpAny_pure (wpAny_pure (wpAny_pure ?_)))
  replace e2 : Heap.SameBut j2 p1 p2 := e2
  show wpAny _ _ (newTuple [x, y] >>= _) _ _ _; refine wpAny_bind (wpAny_newTuple (wpAny_pure ⟨_, rfl, ?_⟩))
  have sz : p2.objs.size = hp.objs.size := by rw [e2.1, e1.1, e0.1]
  have zz : IsZipHeld p2 z t1 t2 T true := e2.extBut _ _ S.zi2 (e1.extBut _ _ S.zi1 z0)
  have kk : ∀ c o, c ≠ z → c ≠ j1 → c ≠ j2 → hp.get? c = some o → p2.get? c = some o := fun c o n0 m1 m2 q => e2.extBut _ _ m2 (e1.extBut _ _ m1 (e0.extBut _ _ n0 q))
  have tp : IsTupOf2 (p2.push { cls := .type "tuple", data := .seq #[x, y] }) p2.objs.size x y := Heap.get?_push_size _ rfl
  show Q (.ref p2.objs.size) _
  rw [sz] at tp ⊢
  exact hQ x y _ k2 hx hy (Heap.get?_push_of_some _ zz) (D1.frame _ _ _ (D1.over a1 e2 S.sep2_1) fun b _ o q => Heap.get?_push_of_some _ q) (D2.frame _ _ _ a2 fun b _ o q => Heap.get?_push_of_some _ q) tp fun c o n0 m1 m2 q => Heap.get?_push_of_some _ (kk c o n0 m1 m2 q)
/-- .. none is left -/
theorem zipH_end {Q : Fin → Shared → Prop} (S : ZipSep2 z t1 t2 j1 j2 F1 F2) (D1 : Draws prog w A j1 F1 n1 P1 S1) (hz : IsZipHeld s.heap z t1 t2 T f) (hT : s.heap.get? T = some oT) (ht : IsTupOf2 s.heap t1 (.ref j1) (.ref j2))
    (h1 : S1 n1 s.heap) (hE : ∀ g tk e, (∀ c o, c ≠ z → c ≠ j1 → s.heap.get? c = some o → g.get? c = some o) → (∃ o, g.get? e = some o ∧ o.cls = .type "StopIteration") → E (.ref e) { s with heap := g, toks := tk }) :
    wpAny (model prog w) A (Builtin.«zip.__next__» ⟨[.ref z], []⟩) Q E s := by
  obtain ⟨hp, gs, dr, k0, os⟩ := s
  show wpAny _ _ (field (.ref z) 2 >>= _) _ _ _; refine wpAny_bind (wpAny_field hz rfl (x := .bool false) rfl ?_)
  show wpAny _ _ (field (.ref z) 3 >>= _) _ _ _; refine wpAny_bind (wpAny_field hz rfl (x := .ref t1) rfl (wpAny_bind (wpAny_seqItems ht rfl ?_)))
  show wpAny _ _ (Builtin.SmallTypes.ownedTupleIsFree (.ref z) >>= _) _ _ _; refine wpAny_bind (wpAny_tupleHeld_zip hz hT fun g0 z0 e0 => ?_)
  replace e0 : Heap.SameBut z hp g0 := e0
  simp only [Bool.false_eq_true, if_false]
  refine wpAny_bind ?_
  rw [← Array.forIn_toList]; simp only [List.forIn_cons, List.forIn_nil]; refine wpAny_bind (wpAny_bind (wpAny_holding ?_))
  show wpAny _ _ (Builtin.SmallTypes.nextOf (.ref j1) >>= _) _ _ ⟨g0, gs, dr, _, os⟩
  exact wpAny_bind (D1.done ⟨g0, gs, dr, _, os⟩ _ _ (D1.over h1 e0 S.zf1) fun g e k he => hE g _ e (fun c o n0 m1 q => k _ _ m1 (e0.extBut _ _ n0 q)) he)
end
/-! ### a zip of the list at a and the tuple at b, the list at L being made of it -/
structure ZSt (z t1 t2 j1 j2 a b L : Addr) (us ws : Array Value) (i : Nat) (h : Heap) : Prop where
  ti : IsTupOf2 h t1 (.ref j1) (.ref j2)
  to : ∃ u v, IsTupOf2 h t2 u v
  s1 : h.IsListIter j1 a i
  s2 : h.IsTupleIter j2 b i
  la : h.IsList a us
  tb : h.IsTuple b ws
  own : IsZip h z t1 t2 .none ∨ ∃ (T : Addr) (f : Bool) (o : Obj), IsZipHeld h z t1 t2 T f ∧ h.get? T = some o ∧ T ≠ z ∧ T ≠ j1 ∧ T ≠ j2 ∧ T ≠ L
/-- where they lie -/
structure ZAp (z t1 t2 j1 j2 a b L : Addr) : Prop extends ZipSep2 z t1 t2 j1 j2 [j1, a] [j2, b] where
  aj : a ≠ j1
  bj : b ≠ j2
  no : L ≠ z ∧ L ≠ t1 ∧ L ≠ t2 ∧ L ≠ j1 ∧ L ≠ j2 ∧ L ≠ a ∧ L ≠ b
  ab : (a ≠ z ∧ a ≠ t2 ∧ a ≠ j2) ∧ (b ≠ z ∧ b ≠ t2 ∧ b ≠ j1)
section
variable {prog : Program} {w : World} {A : Around} {E : Value → Shared → Prop} {s : Shared} {z t1 t2 j1 j2 a b L : Addr} {us ws : Array Value} {i : Nat}
theorem ZSt.keep {h g : Heap} (x : ZSt z t1 t2 j1 j2 a b L us ws i h) (Z : ZAp z t1 t2 j1 j2 a b L) (k : ∀ c o, c ≠ L → h.get? c = some o → g.get? c = some o) : ZSt z t1 t2 j1 j2 a b L us ws i g := by
  obtain ⟨n1, n2, n3, n4, n5, n6, n7⟩ := Z.no
  refine ⟨k _ _ n2.symm x.ti, ?_, x.s1.at (k _ · n4.symm), x.s2.at (k _ · n5.symm), x.la.at (k _ · n6.symm), x.tb.at (k _ · n7.symm), ?_⟩
  · obtain ⟨u, v, q⟩ := x.to
    exact ⟨u, v, k _ _ n3.symm q⟩
  · rcases x.own with q | ⟨T, f, o, q, r, m1, m2, m3, m4⟩
    · exact .inl (k _ _ n1.symm q)
    · exact .inr ⟨T, f, o, k _ _ n1.symm q, k _ _ m4 r, m1, m2, m3, m4⟩
theorem zst_item {Q : Option Value → Shared → Prop} (hh : A.in1.handled = none) (Z : ZAp z t1 t2 j1 j2 a b L) (x : ZSt z t1 t2 j1 j2 a b L us ws i s.heap) (hi : i < us.size) (hw : i < ws.size) (hL : L < s.heap.objs.size)
    (hQ : ∀ g tk, ZSt z t1 t2 j1 j2 a b L us ws (i + 1) g → IsTupOf2 g s.heap.objs.size us[i] ws[i] → (∀ c o, c ≠ z → c ≠ t2 → c ≠ j1 → c ≠ j2 → s.heap.get? c = some o → g.get? c = some o) → Q (some (.ref s.heap.objs.size)) { s with heap := g, toks := tk }) : wpAny (model prog w) A (pyNext (.ref z)) Q E s := by
  have D1 := Draws.list (prog := prog) (w := w) (A := A.in1) hh j1 a Z.aj us
  have D2 := Draws.tuple (prog := prog) (w := w) (A := A.in1) hh j2 b Z.bj ws
  obtain ⟨u0, v0, to⟩ := x.to
  rcases x.own with q | ⟨T, f, o, q, r, m1, m2, m3, m4⟩
  · have lz := Heap.lt_size q
    have l1 : j1 < s.heap.objs.size := let ⟨_, e, _⟩ := x.s1; Heap.lt_size e
    have l2 : j2 < s.heap.objs.size := let ⟨_, e, _⟩ := x.s2; Heap.lt_size e
    refine wpAny_pyNext_zipD2_item Z.toZipSep2 D1 D2 q x.ti to ⟨x.s1, x.la⟩ ⟨x.s2, x.tb⟩ hi hw fun y1 y2 g tk p1 p2 c1 c2 d1 d2 c5 _ c7 => ?_
    obtain rfl : us[i] = y1 := by simpa [hi] using p1
    obtain rfl : ws[i] = y2 := by simpa [hw] using p2
    exact hQ g tk ⟨c7 _ _ Z.TIz Z.TITO Z.TIi1 Z.TIi2 x.ti, ⟨_, _, c2⟩, d1.1, d2.1, d1.2, d2.2, .inr ⟨_, false, _, c1, c5, Nat.ne_of_gt lz, Nat.ne_of_gt l1, Nat.ne_of_gt l2, Nat.ne_of_gt hL⟩⟩ c5 c7
  · have tz : s.TypeIs (.ref z) "zip" := ⟨_, q, rfl⟩
    unfold pyNext
    refine wpAny_bind (wpAny_attempt (wpAny_callSpecial?_slot (name := Str.ofString "__next__") tz F.slot_zip_next (wpAny_call_entry F.slot_zip_next tz F.entry_zip_next (zipH_item Z.toZipSep2 D1 D2 q r x.ti ⟨x.s1, x.la⟩ ⟨x.s2, x.tb⟩ hi hw fun y1 y2 g tk p1 p2 c1 d1 d2 c5 c7 => wpAny_pure ?_) (F.args_zip_next_1 _))))
    obtain rfl : us[i] = y1 := by simpa [hi] using p1
    obtain rfl : ws[i] = y2 := by simpa [hw] using p2
    exact hQ g tk ⟨c7 _ _ Z.TIz Z.TIi1 Z.TIi2 x.ti, ⟨_, _, c7 _ _ Z.TOz (fun e => Z.Tf1 (by simp [e])) (fun e => Z.Tf2 (by simp [e])) to⟩, d1.1, d2.1, d1.2, d2.2, .inr ⟨T, true, _, c1, c7 _ _ m1 m2 m3 r, m1, m2, m3, m4⟩⟩ c5 fun c o n0 _ n2 n3 => c7 c o n0 n2 n3
theorem zst_end {Q : Option Value → Shared → Prop} (hh : A.in1.handled = none) (Z : ZAp z t1 t2 j1 j2 a b L) (hl : us.size = ws.size) (x : ZSt z t1 t2 j1 j2 a b L us ws us.size s.heap)
    (hQ : ∀ g tk, (∀ c o, c ≠ z → c ≠ t2 → c ≠ j1 → c ≠ j2 → s.heap.get? c = some o → g.get? c = some o) → Q none { s with heap := g, toks := tk }) : wpAny (model prog w) A (pyNext (.ref z)) Q E s := by
  have D1 := Draws.list (prog := prog) (w := w) (A := A.in1) hh j1 a Z.aj us
  have D2 := Draws.tuple (prog := prog) (w := w) (A := A.in1) hh j2 b Z.bj ws
  obtain ⟨u0, v0, to⟩ := x.to
  rcases x.own with q | ⟨T, f, o, q, r, m1, m2, m3, m4⟩
  · exact wpAny_pyNext_zipD2_end Z.toZipSep2 D1 D2 q x.ti to ⟨x.s1, x.la⟩ ⟨x.s2, x.tb⟩ (Nat.le_refl _) (Nat.le_of_eq hl) (.inl rfl) hQ
  · have tz : s.TypeIs (.ref z) "zip" := ⟨_, q, rfl⟩
    unfold pyNext
    refine wpAny_bind (wpAny_attempt (wpAny_callSpecial?_slot (name := Str.ofString "__next__") tz F.slot_zip_next (wpAny_call_entry F.slot_zip_next tz F.entry_zip_next (zipH_end Z.toZipSep2 D1 q r x.ti ⟨x.s1, x.la⟩ fun g tk e k he => ?_) (F.args_zip_next_1 _))))
    obtain ⟨oe, h1, h2⟩ := he
    exact wpAny_bind (wpAny_isInstance (T := "StopIteration") (b := true) ⟨oe, h1, h2⟩ isSubtype_stop (wpAny_pure (hQ g tk fun c o n0 _ n2 _ => k c o n0 n2)))
/-- the pairs that are made by now -/
structure PMade (us ws : Array Value) (lo : Addr) (h : Heap) (as : List Addr) : Prop where
  up : as.Pairwise (· < ·)
  gt : ∀ c ∈ as, lo ≤ c
  at_ : ∀ (j : Nat) (c : Addr), as[j]? = some c → ∃ u v, us[j]? = some u ∧ ws[j]? = some v ∧ IsTupOf2 h c u v
theorem PMade.lt {lo : Addr} {h : Heap} {as : List Addr} (g : PMade us ws lo h as) {c : Addr} (hc : c ∈ as) : c < h.objs.size := by
  obtain ⟨j, hj⟩ := List.mem_iff_getElem?.mp hc
  obtain ⟨_, _, _, _, e⟩ := g.at_ j c hj
  exact Heap.lt_size e
theorem zst_loop {R : Result → Shared → Prop} {lo : Addr} {h0 : Heap} (hh : A.in1.in1.handled = none) (Z : ZAp z t1 t2 j1 j2 a b L) (hl : us.size = ws.size) (hz : us.size ≤ sizeLine) (hlo : L < lo ∧ z < lo ∧ t2 < lo ∧ j1 < lo ∧ j2 < lo) (res : Value)
    (hR : ∀ g tk acc c as, (∀ x o, x ≠ L → x ≠ z → x ≠ t2 → x ≠ j1 → x ≠ j2 → h0.get? x = some o → g.get? x = some o) → g.get? L = some { cls := .type "list", dict := none, data := .seq acc c, slots := #[] } → as.length = us.size → PMade us ws lo g as → acc.toList = as.map Value.ref → R (.ok (.ret res)) { s with heap := g, toks := tk }) :
    ∀ (k i : Nat) (h : Heap) (tk c : Nat) (acc : Array Value) (as : List Addr), us.size - i = k → i ≤ us.size → lo ≤ h.objs.size → ZSt z t1 t2 j1 j2 a b L us ws i h → (∀ x o, x ≠ L → x ≠ z → x ≠ t2 → x ≠ j1 → x ≠ j2 → h0.get? x = some o → h.get? x = some o) →
      h.get? L = some { cls := .type "list", dict := none, data := .seq acc c, slots := #[] } → acc.toList = as.map Value.ref → as.length = i → PMade us ws lo h as → codeAny (model prog w) A (.builtin "list.extend.loop" ⟨[.ref L, .ref z, res], []⟩) R { s with heap := h, toks := tk } := by
  obtain ⟨n1, n2, n3, n4, n5, n6, n7⟩ := Z.no
  obtain ⟨q1, q2, q3, q4, q5⟩ := hlo
  intro k
  induction k with
  | zero =>
    intro i h tk c acc as hk hi hn st hkeep hL hacc hal hG
    obtain rfl : i = us.size := by omega
    refine codeAny_builtin PySem.F.entry_extend_loop ?_
    rw [Around.under_plainId PySem.F.plain_extend_loop _]
    show wpAny _ A.in1 (pyNext (.ref z) >>= _) _ _ _; refine wpAny_bind (zst_end (s := { s with heap := h, toks := tk }) (A := A.in1) hh Z hl st fun g tk' kk => ?_)
    refine wpAny_pure (hR g tk' acc c as (fun x o m0 m1 m2 m3 m4 e => kk x o m1 m2 m3 m4 (hkeep x o m0 m1 m2 m3 m4 e)) (kk L _ n1 n3 n4 n5 hL) hal ⟨hG.up, hG.gt, fun j d hj => ?_⟩ hacc)
    obtain ⟨u, v, e1, e2, e3⟩ := hG.at_ j d hj
    have hd := hG.gt d (List.mem_of_getElem? hj)
    exact ⟨u, v, e1, e2, kk d _ (Nat.ne_of_gt (Nat.lt_of_lt_of_le q2 hd)) (Nat.ne_of_gt (Nat.lt_of_lt_of_le q3 hd)) (Nat.ne_of_gt (Nat.lt_of_lt_of_le q4 hd)) (Nat.ne_of_gt (Nat.lt_of_lt_of_le q5 hd)) e3⟩
  | succ k ih =>
    intro i h tk c acc as hk hi hn st hkeep hL hacc hal hG
    have lt : i < us.size := by omega
    have sz : acc.size = i := by rw [← Array.length_toList, hacc, List.length_map, hal]
    refine codeAny_builtin PySem.F.entry_extend_loop ?_
    rw [Around.under_plainId PySem.F.plain_extend_loop _]
    show wpAny _ A.in1 (pyNext (.ref z) >>= _) _ _ _; refine wpAny_bind (zst_item (s := { s with heap := h, toks := tk }) (A := A.in1) hh Z st lt (by omega) (Heap.lt_size hL) fun g tk' st' tp kk => ?_)
    dsimp only at tp kk ⊢
    have hL2 := kk L _ n1 n3 n4 n5 hL
    have ov : ∀ x o, x ≠ L → g.get? x = some o → (g.update L (Obj.mapSeq (·.push (Value.ref h.objs.size)))).get? x = some o := fun x o m e => (Heap.get?_update_other _ _ m.symm).trans e
    have ll : L < h.objs.size := Heap.lt_size hL
    have tp2 := ov _ _ (Nat.ne_of_gt ll) tp
    show wpAny _ A.in1 (updateSeq L (·.push (Value.ref h.objs.size)) >>= _) _ _ _
    refine wpAny_bind (wpAny_updateSeq hL2 rfl (wpAny_pure ⟨plainId_quiet PySem.F.plain_extend_loop _, ih (i + 1) _ tk' _ (acc.push (Value.ref h.objs.size)) (as ++ [h.objs.size]) (by omega) lt (Nat.le_of_lt (Nat.lt_of_le_of_lt hn (Heap.lt_size tp2))) (st'.keep Z ov) (fun x o m0 m1 m2 m3 m4 e => ov x o m0 (kk x o m1 m2 m3 m4 (hkeep x o m0 m1 m2 m3 m4 e)))
      (Heap.get?_update_self _ hL2 rfl) (by rw [Array.toList_push, hacc, List.map_append]; rfl) (by rw [List.length_append, hal]; rfl) ⟨?_, ?_, ?_⟩⟩) (by rw [sz]; omega) (by show (acc.push (Value.ref h.objs.size)).size ≤ sizeLine + 1; rw [Array.size_push, sz]; omega))
    · refine List.pairwise_append.mpr ⟨hG.up, List.pairwise_singleton _ _, fun x hx y hy => ?_⟩
      rw [List.mem_singleton.mp hy]; exact hG.lt hx
    · intro x hx
      rcases List.mem_append.mp hx with hx | hx
      · exact hG.gt x hx
      · rw [List.mem_singleton.mp hx]; exact hn
    · intro j d hj
      rcases Nat.lt_trichotomy j as.length with m | m | m
      · rw [List.getElem?_append_left m] at hj
        obtain ⟨u, v, e1, e2, e3⟩ := hG.at_ j d hj
        have hd := hG.gt d (List.mem_of_getElem? hj)
        exact ⟨u, v, e1, e2, ov d _ (Nat.ne_of_gt (Nat.lt_of_lt_of_le q1 hd)) (kk d _ (Nat.ne_of_gt (Nat.lt_of_lt_of_le q2 hd)) (Nat.ne_of_gt (Nat.lt_of_lt_of_le q3 hd)) (Nat.ne_of_gt (Nat.lt_of_lt_of_le q4 hd)) (Nat.ne_of_gt (Nat.lt_of_lt_of_le q5 hd)) e3)⟩
      · subst m
        obtain rfl : h.objs.size = d := by simpa using hj
        subst hal
        exact ⟨us[as.length], ws[as.length]'(by omega), Array.getElem?_eq_getElem _, Array.getElem?_eq_getElem _, tp2⟩
      · rw [List.getElem?_eq_none (by rw [List.length_append, List.length_singleton]; omega)] at hj
        cases hj
theorem zip_len0 : typeLookup (.type "zip") "__len__" = pure none := am_miss_of_fast (by decide +kernel)
theorem zip_hint0 : typeLookup (.type "zip") "__length_hint__" = pure none := am_miss_of_fast (by decide +kernel)
theorem zst_hint {Q : Bool → Shared → Prop} (tz : s.TypeIs (.ref z) "zip") (h : Q true s) : wpAny (model prog w) A (Builtin.List.listLengthHint (.ref z)) Q E s := by
  unfold Builtin.List.listLengthHint
  refine wpAny_bind (wpAny_specialOf tz zip_len0 ?_)
  show wpAny _ _ (specialOf (.ref z) "__length_hint__" >>= _) _ _ _
  exact wpAny_bind (wpAny_specialOf tz zip_hint0 (wpAny_pure h))
/-- what comes of it -/
def ZDone (us ws : Array Value) (z t2 j1 j2 L : Addr) (h0 : Heap) (lo : Addr) (R : Addr → Array Value → Nat → List Addr → Heap → Nat → Prop) : Prop := ∀ g tk acc c as, (∀ x o, x ≠ L → x ≠ z → x ≠ t2 → x ≠ j1 → x ≠ j2 → h0.get? x = some o → g.get? x = some o) → g.get? L = some { cls := .type "list", dict := none, data := .seq acc c, slots := #[] } → as.length = us.size → PMade us ws lo g as → acc.toList = as.map Value.ref → R L acc c as g tk
theorem zst_ext {R : Result → Shared → Prop} {c0 : Nat} (hh : A.in1.in1.handled = none) (Z : ZAp z t1 t2 j1 j2 a b L) (hl : us.size = ws.size) (hz : us.size ≤ sizeLine) (zz : IsZip s.heap z t1 t2 .none) (st : ZSt z t1 t2 j1 j2 a b L us ws 0 s.heap) (hL : s.heap.get? L = some { cls := .type "list", data := .seq #[] c0 }) (res : Value)
    (hR : ZDone us ws z t2 j1 j2 L s.heap s.heap.objs.size fun _ _ _ _ g tk => R (.ok (.ret res)) { s with heap := g, toks := tk }) :
    wpAny (model prog w) A.in1 (Builtin.List.listExtendWith (.ref L) (.ref z) res) (fun r u => match r with | .done q => R (.ok q) u | .again q => q.quiet = true ∧ codeAny (model prog w) A q R u) (fun e u => R (.error e) u) s := by
  obtain ⟨n1, n2, n3, n4, n5, n6, n7⟩ := Z.no
  have tz : ∀ {h : Heap}, IsZip h z t1 t2 .none → ({ s with heap := h } : Shared).TypeIs (.ref z) "zip" := fun q => ⟨_, q, rfl⟩
  have l1 : j1 < s.heap.objs.size := let ⟨_, e, _⟩ := st.s1; Heap.lt_size e
  have l2 : j2 < s.heap.objs.size := let ⟨_, e, _⟩ := st.s2; Heap.lt_size e
  have l3 : t2 < s.heap.objs.size := let ⟨_, _, e⟩ := st.to; Heap.lt_size e
  have go : ∀ (h : Heap) (c1 tk : Nat), s.heap.objs.size ≤ h.objs.size → (∀ x o, x ≠ L → s.heap.get? x = some o → h.get? x = some o) → h.get? L = some { cls := .type "list", data := .seq #[] c1 } → codeAny (model prog w) A (.builtin "list.extend.loop" ⟨[.ref L, .ref z, res], []⟩) R { s with heap := h, toks := tk } := fun h c1 tk sz k q =>
    zst_loop (s := s) (h0 := s.heap) hh Z hl hz ⟨Heap.lt_size hL, Heap.lt_size zz, l3, l1, l2⟩ res hR us.size 0 h tk c1 #[] [] (Nat.sub_zero _) (Nat.zero_le _) sz (st.keep Z k) (fun x o m0 _ _ _ _ e => k x o m0 e) q rfl rfl ⟨List.Pairwise.nil, (fun _ m => nomatch m), fun j c q => by simp at q⟩
  unfold Builtin.List.listExtendWith
  refine wpAny_bind (wpAny_typeOf (T := "zip") (tz zz) ?_)
  simp only [show Builtin.List.listSameRef (.ref L) (.ref z) = false by simp [Builtin.List.listSameRef, n1], show (Value.type "zip" == Value.type "list") = false by decide, show (Value.type "zip" == Value.type "tuple") = false by decide, Bool.or_false, Bool.false_eq_true, if_false]
  refine wpAny_bind (wpAny_pyIter_zip zz (wpAny_bind (wpAny_holding (zst_hint (tz zz) ?_))))
  refine wpAny_ite_split (fun _ => ?_) fun _ => wpAny_pure ⟨plainId_quiet PySem.F.plain_extend_loop _, go _ c0 _ (Nat.le_refl _) (fun x o _ e => e) hL⟩
  refine wpAny_bind (wpAny_rule (wpAny_bind ?_))
  show wpAny _ _ (updateSeq L (·.push .none) >>= fun _ => updateSeq L (·.pop)) _ _ _
  refine wpAny_bind (wpAny_updateSeq hL rfl ?_)
  have h2 := Heap.get?_update_self (Obj.mapSeq (·.push Value.none)) hL rfl
  refine wpAny_updateSeq (hz := by seq_fits) h2 rfl (wpAny_pure ⟨plainId_quiet PySem.F.plain_extend_loop _, go _ _ _ ?_ (fun x o m e => ?_) (Heap.get?_update_self (Obj.mapSeq (·.pop)) h2 rfl)⟩)
  · rw [Heap.size_update, Heap.size_update]; exact Nat.le_refl _
  · exact (Heap.get?_update_other _ _ m.symm).trans ((Heap.get?_update_other _ _ m.symm).trans e)
/-- list(z), z such a zip, the list laid behind all that stands -/
theorem zst_call {Q : Value → Shared → Prop} (hh : A.handled = none) (Z : ZAp z t1 t2 j1 j2 a b s.heap.objs.size) (hl : us.size = ws.size) (hz : us.size ≤ sizeLine) (zz : IsZip s.heap z t1 t2 .none) (ti : IsTupOf2 s.heap t1 (.ref j1) (.ref j2)) (to : ∃ u v, IsTupOf2 s.heap t2 u v)
    (i1 : s.heap.IsListIter j1 a 0) (i2 : s.heap.IsTupleIter j2 b 0) (la : s.heap.IsList a us) (tb : s.heap.IsTuple b ws)
    (hQ : ∀ g tk acc c as, (∀ x o, x ≠ z → x ≠ t2 → x ≠ j1 → x ≠ j2 → s.heap.get? x = some o → g.get? x = some o) → g.get? s.heap.objs.size = some { cls := .type "list", dict := none, data := .seq acc c, slots := #[] } → as.length = us.size → PMade us ws (s.heap.objs.size + 1) g as → acc.toList = as.map Value.ref → Q (.ref s.heap.objs.size) { s with heap := g, toks := tk }) :
    wpAny (model prog w) A (call (.type "list") [.ref z]) Q E s := by
  refine callType_codes (Q₁ := fun o t => o = .ref s.heap.objs.size ∧ t = { s with heap := s.heap.push { cls := .type "list", data := .seq #[] } }) PySem.F.called_list (PySem.F.typeCall_list_1 _) PySem.F.entry_list_init (code_list_new _ ⟨rfl, rfl⟩) fun o t e => ?_
  obtain ⟨rfl, rfl⟩ := e
  have h1 : (s.heap.push { cls := .type "list", data := .seq #[] }).get? s.heap.objs.size = some { cls := .type "list", data := .seq #[] } := Heap.get?_push_size _ rfl
  have up : ∀ x o, s.heap.get? x = some o → (s.heap.push { cls := .type "list", data := .seq #[] }).get? x = some o := fun x o e => Heap.get?_push_of_some _ e
  refine ⟨⟨_, h1, rfl⟩, PySem.F.args_list_init_2 _ _, ?_⟩
  show wpAny _ _ (do let old ← Builtin.List.listItems (.ref s.heap.objs.size); Builtin.List.listUpdate (.ref s.heap.objs.size) (fun _ => #[]); letGo old.toList.reverse; Builtin.List.listExtendWith (.ref s.heap.objs.size) (.ref z) .none) _ _ _
  unfold Builtin.List.listItems; refine wpAny_bind (wpAny_bind (wpAny_seqItems h1 rfl (wpAny_pure ?_)))
  show wpAny _ _ (updateSeq s.heap.objs.size (fun _ => #[]) >>= fun _ => letGo (#[] : Array Value).toList.reverse >>= fun _ => Builtin.List.listExtendWith (.ref s.heap.objs.size) (.ref z) .none) _ _ _
  refine wpAny_bind (wpAny_updateSeq h1 rfl (wpAny_bind (wpAny_letGo ?_)))
  have h2 := Heap.get?_update_self (Obj.mapSeq (fun _ => (#[] : Array Value))) h1 rfl
  have up2 : ∀ x o, x ≠ s.heap.objs.size → s.heap.get? x = some o → ((s.heap.push { cls := .type "list", data := .seq #[] }).update s.heap.objs.size (Obj.mapSeq (fun _ => (#[] : Array Value)))).get? x = some o := fun x o m e => (Heap.get?_update_other _ _ m.symm).trans (up x o e)
  have up3 : ∀ x o, s.heap.get? x = some o → ((s.heap.push { cls := .type "list", data := .seq #[] }).update s.heap.objs.size (Obj.mapSeq (fun _ => (#[] : Array Value)))).get? x = some o := fun x o e => up2 x o (Nat.ne_of_lt (Heap.lt_size e)) e
  have sz : ((s.heap.push { cls := .type "list", data := .seq #[] }).update s.heap.objs.size (Obj.mapSeq (fun _ => (#[] : Array Value)))).objs.size = s.heap.objs.size + 1 := by rw [Heap.size_update, Heap.size_push]
  refine zst_ext (A := A.in1) (s := { s with heap := _ }) hh Z hl hz (up3 _ _ zz) ⟨up3 _ _ ti, ?_, i1.at (up3 _), i2.at (up3 _), la.at (up3 _), tb.at (up3 _), .inl (up3 _ _ zz)⟩ h2 .none fun g tk acc c as k kl kn km ka => ?_
  · obtain ⟨u, v, e⟩ := to
    exact ⟨u, v, up3 _ _ e⟩
  · exact ⟨rfl, hQ g tk acc c as (fun x o m1 m2 m3 m4 e => k x o (Nat.ne_of_lt (Heap.lt_size e)) m1 m2 m3 m4 (up3 x o e)) kl kn ⟨km.up, fun x hx => Nat.le_trans (Nat.le_of_eq sz.symm) (km.gt x hx), km.at_⟩ ka⟩
end
/-! ### as a value -/
section
variable {X : Cx} {pins : List (Addr × Obj)} {σ : L2.St} {H : Hp} {s : Shared}
/-- laid tuples are tracked -/
theorem takes {P : Addr → List V → Prop} {g : Heap} {tk lo : Nat} (I0 : Inv X pins σ H s) (hlo : s.heap.objs.size ≤ lo) : ∀ (as : List Addr) (H1 : Hp), Inv X pins σ H1 { s with heap := g, toks := tk } → as.Nodup → (∀ c ∈ as, lo ≤ c ∧ H1 c = none ∧ ∃ vs, P c vs ∧ ∀ H2, ObjOk X.prog X.w H2 g c (.tup vs)) →
    ∃ H2, Inv X pins σ H2 { s with heap := g, toks := tk } ∧ (∀ c o, H1 c = some o → H2 c = some o) ∧ (∀ c, c ∉ as → H2 c = H1 c) ∧ ∀ c ∈ as, ∃ vs, P c vs ∧ H2 c = some (.tup vs)
  | [], H1, I1, _, _ => ⟨H1, I1, fun _ _ e => e, fun _ _ => rfl, fun _ h => nomatch h⟩
  | c :: as, H1, I1, nd, h => by
    obtain ⟨h1, h2, vs, h3, h4⟩ := h c (List.mem_cons_self ..)
    have J := I1.take (h' := g) (t' := tk) (fun b ob _ e => e) (I0.fpOk (Nat.le_trans hlo h1) h2) (h4 (upd H1 c (.tup vs)))
    rw [List.nodup_cons] at nd
    obtain ⟨H2, J2, k1, k2, k3⟩ := takes I0 hlo as _ J nd.2 fun d hd => by
      obtain ⟨q1, q2, q3⟩ := h d (List.mem_cons_of_mem _ hd)
      exact ⟨q1, by rw [upd_ne fun e => nd.1 (by rw [← e]; exact hd)]; exact q2, q3⟩
    refine ⟨H2, J2, fun d o e => k1 d o (by rw [upd_ne (ne_of_none e h2)]; exact e), fun d hd => ?_, fun d hd => ?_⟩
    · rw [k2 d fun m => hd (List.mem_cons_of_mem _ m), upd_ne fun e => hd (by rw [e]; exact List.mem_cons_self ..)]
    · rcases List.mem_cons.mp hd with rfl | hd
      · exact ⟨vs, h3, k1 _ _ upd_same⟩
      · exact k3 d hd
/-- list(zip(xs, t)), as many of each -/
def tLstZip (K : PySem.W.Frag) (ta : TA) : TE := fun σ H Q => ta σ H fun vs H1 => ∃ a b xs ys, vs = [.ref a, .ref b] ∧ SqL K H1 a xs ∧ SqT K H1 b ys ∧ xs.length = ys.length ∧ ∀ H' p (ts : List Addr), (∀ c o, H1 c = some o → H' c = some o) → H1 p = none → (∀ t ∈ ts, H1 t = none) → H' p = some (.lst (ts.map V.ref)) → ts.length = xs.length →
  (∀ (j : Nat) (t : Addr) (x y : V), ts[j]? = some t → xs[j]? = some x → ys[j]? = some y → H' t = some (.tup [x, y])) → Q (.ref p) H'
theorem pe_lstZip {e e2 : Expr} {ta : TA} {p pos p2 pos2 : Pos} (hc : X.calm = true) (hg : Gl X "list") (hm : X.mg "list" = none) (hgz : Gl X "zip") (hmz : X.mg "zip" = none) (ha : PA X [e, e2] ta)
    (hs : starEach [e, e2] X.env = (false, eval e X.env) :: starEach [e2] X.env := by rfl) (hpl : (backTo pos2 (starEach [e2] X.env)).any (·.1) = false := by rfl) (na : starEach [Expr.Call (.Name "zip" p2) [e, e2] [] pos2] X.env = (false, eval (Expr.Call (.Name "zip" p2) [e, e2] [] pos2) X.env) :: starEach [] X.env := by rfl) :
    PE X (.Call (.Name "list" p) [.Call (.Name "zip" p2) [e, e2] [] pos2] [] pos) (tLstZip X.K ta) := by
  refine ⟨fun pins s σ H Q I h => Call_ (ld_blt I hg hm boot_list (PyProof.Rows.callWith_type1 (args_cons (Call_ (ld_blt I hgz hmz PyProof.Rows.boot_zip (PyProof.Rows.callWith_type1 (thn (ha.run pos2 pins s σ H _ I h) fun us s1 ⟨vs, H1, J, rv, q⟩ => ?_) hs hpl))) na) na))⟩
  obtain ⟨a, b, xs, ys, rfl, qa, qb, hxy, q⟩ := q
  cases rv with
  | cons r rr =>
    cases rr with
    | cons r2 rr =>
      cases rr
      cases r
      cases r2
      obtain ⟨us, ru, pa, za⟩ := J.list qa
      obtain ⟨ws, rw', pb, _⟩ := J.tuple qb
      have la : a < s1.heap.objs.size := pa.lt
      have lb : b < s1.heap.objs.size := by obtain ⟨o, h, _⟩ := id pb; exact Heap.lt_size h
      refine zip_begins2 (begins_list a us.toArray) (begins_tuple b ws.toArray) pa.isList (show s1.heap.IsTuple b ws.toArray from pb) fun g c1 c2 c3 c4 c5 _ c7 => args_nil ?_
      have lz : s1.heap.objs.size + 4 < g.objs.size := Heap.lt_size c1
      have hd : X.A.handled = none := J.ok.hd hc
      have k1 := ru.length
      have k2 := rw'.length
      have ne : ∀ {x : Nat}, x ≤ s1.heap.objs.size + 4 → g.objs.size ≠ x := fun {x} h => Nat.ne_of_gt (Nat.lt_of_le_of_lt h lz)
      refine zst_call (s := { s1 with heap := g }) (us := us.toArray) (ws := ws.toArray) hd ⟨zm_sep s1.heap.objs.size a b la lb, Nat.ne_of_lt la, Nat.ne_of_lt (Nat.lt_of_lt_of_le lb (Nat.le_add_right _ _)), ⟨ne (Nat.le_refl _), ne (Nat.add_le_add_left (by decide) _), ne (Nat.add_le_add_left (by decide) _), ne (Nat.le_add_right _ _), ne (Nat.add_le_add_left (by decide) _), ne (Nat.le_trans (Nat.le_of_lt la) (Nat.le_add_right _ _)), ne (Nat.le_trans (Nat.le_of_lt lb) (Nat.le_add_right _ _))⟩,
        ⟨⟨Nat.ne_of_lt (Nat.lt_of_lt_of_le la (Nat.le_add_right _ _)), Nat.ne_of_lt (Nat.lt_of_lt_of_le la (Nat.le_add_right _ _)), Nat.ne_of_lt (Nat.lt_of_lt_of_le la (Nat.le_add_right _ _))⟩, ⟨Nat.ne_of_lt (Nat.lt_of_lt_of_le lb (Nat.le_add_right _ _)), Nat.ne_of_lt (Nat.lt_of_lt_of_le lb (Nat.le_add_right _ _)), Nat.ne_of_lt lb⟩⟩⟩
        (by rw [List.size_toArray, List.size_toArray, ← k1, ← k2]; exact hxy) (by rw [List.size_toArray, ← k1]; exact za) c1 c2 ⟨_, _, c3⟩ ⟨_, c4, rfl, rfl⟩ ⟨_, c5, rfl, rfl⟩ (pa.isList.at (c7 _)) (Heap.IsTuple.at pb (c7 _)) fun g2 tk acc c as kk kl kn km ka => ?_
      have old : ∀ x o, s1.heap.get? x = some o → g2.get? x = some o := fun x o e => by
        have lx : x < s1.heap.objs.size := Heap.lt_size e
        exact kk x o (Nat.ne_of_lt (Nat.lt_of_lt_of_le lx (Nat.le_add_right _ _))) (Nat.ne_of_lt (Nat.lt_of_lt_of_le lx (Nat.le_add_right _ _))) (Nat.ne_of_lt lx) (Nat.ne_of_lt (Nat.lt_of_lt_of_le lx (Nat.le_add_right _ _))) (c7 x o e)
      have fr : ∀ x, s1.heap.objs.size ≤ x → H1 x = none := fun x h => J.hok.fresh h
      have lL : s1.heap.objs.size ≤ g.objs.size := Nat.le_trans (Nat.le_add_right _ 4) (Nat.le_of_lt lz)
      have la2 : as.length = xs.length := kn.trans (by rw [List.size_toArray]; exact k1.symm)
      have J3 : Inv X pins σ H1 { s1 with heap := g2, toks := tk } := J.kept (t' := tk) old
      have J4 := J3.take (h' := g2) (t' := tk) (o := .lst (as.map V.ref)) (fun b ob _ e => e) (J.fpOk lL (fr _ lL)) ⟨by rw [List.length_map, la2]; exact za, acc.toList, c, by rw [ka]; exact vals_refs as, by rw [Array.toArray_toList]; exact kl⟩
      have nd : as.Nodup := List.Pairwise.imp (fun h => Nat.ne_of_lt h) km.up
      have gt : ∀ t ∈ as, g.objs.size < t := fun t ht => km.gt t ht
      have hx : ∀ t ∈ as, g.objs.size + 1 ≤ t ∧ upd H1 g.objs.size (.lst (as.map V.ref)) t = none ∧ ∃ vs, (∃ (j : Nat) (x y : V), as[j]? = some t ∧ xs[j]? = some x ∧ ys[j]? = some y ∧ vs = [x, y]) ∧ ∀ H2, ObjOk X.prog X.w H2 g2 t (.tup vs) := fun t ht => by
        obtain ⟨j, hj⟩ := List.mem_iff_getElem?.mp ht
        obtain ⟨u, v, g1, g3, g4⟩ := km.at_ j t hj
        have jl : j < xs.length := la2 ▸ (List.getElem?_eq_some_iff.mp hj).1
        obtain ⟨u2, h1, r1⟩ := ru.get (List.getElem?_eq_getElem jl)
        obtain ⟨v2, h2, r2⟩ := rw'.get (List.getElem?_eq_getElem (hxy ▸ jl))
        obtain rfl : u2 = u := Option.some.inj (h1.symm.trans (by simpa using g1))
        obtain rfl : v2 = v := Option.some.inj (h2.symm.trans (by simpa using g3))
        exact ⟨km.gt t ht, by rw [upd_ne (Nat.ne_of_gt (gt t ht))]; exact fr t (Nat.le_trans lL (Nat.le_of_lt (gt t ht))), [xs[j], ys[j]'(hxy ▸ jl)], ⟨j, _, _, hj, List.getElem?_eq_getElem jl, List.getElem?_eq_getElem _, rfl⟩, fun H2 => ⟨(by decide : (2 : Nat) ≤ sizeLine), [u2, v2], .cons r1 (.cons r2 .nil), ⟨_, g4, rfl, _, rfl⟩⟩⟩
      obtain ⟨H2, J5, e1, e2, e3⟩ := takes (P := fun t vs => ∃ (j : Nat) (x y : V), as[j]? = some t ∧ xs[j]? = some x ∧ ys[j]? = some y ∧ vs = [x, y]) (lo := g.objs.size + 1) J (Nat.le_trans lL (Nat.le_succ _)) as _ J4 nd hx
      refine ⟨.ref g.objs.size, H2, J5, rfl, q H2 g.objs.size as (fun x o e => e1 x o ?_) (fr _ lL) (fun t ht => fr t (Nat.le_trans lL (Nat.le_of_lt (gt t ht)))) (e1 _ _ upd_same) la2 fun j t x y a1 a2 a3 => ?_⟩
      · rw [upd_ne (ne_of_none e (fr _ lL))]
        exact e
      · obtain ⟨vs, ⟨j2, x2, y2, b1, b2, b3, rfl⟩, b4⟩ := e3 t (List.mem_of_getElem? a1)
        obtain rfl : j = j2 := (List.getElem?_inj (List.getElem?_eq_some_iff.mp a1).1 nd).mp (a1.trans b1.symm)
        cases a2.symm.trans b2
        cases a3.symm.trans b3
        exact b4
end
end KA

namespace KA
open PySem PySem.Spec PyProof.Rows L2
section
variable {W : List Addr} {Hk0 H0 : Hp} {Γ : Ctx} {Ω Ω1 : List Cell} {K : PySem.W.Frag} {α β : Type} {A : Rp α} {B : Rp β}
theorem al_zip {Hk Hn : Hp} (k : Ex Hk Hn) : ∀ {xs : List α} {ys : List β} {vs ws : List V} {ts : List Addr}, Al A Hk xs vs → Al B Hk ys ws → xs.length = ys.length → ts.length = xs.length → (∀ (j : Nat) (t : Addr) (x y : V), ts[j]? = some t → vs[j]? = some x → ws[j]? = some y → Hn t = some (.tup [x, y])) → Al (rPair K A B) Hn (xs.zip ys) (ts.map V.ref) := by
  intro xs ys vs ws ts h1
  induction h1 generalizing ys ws ts with
  | nil =>
    intro _ _ l2 _
    obtain rfl := List.length_eq_zero_iff.mp l2
    exact .nil
  | cons hx _ ih =>
    intro h2 l1 l2 h3
    cases h2 with
    | nil => simp at l1
    | cons hy t2 =>
      match ts, l2 with
      | t :: ts, l2 =>
        refine .cons ⟨_, _, _, rfl, SqT.of (h3 0 t _ _ rfl rfl rfl), A.mono k hx, B.mono k hy⟩ (ih t2 (by simpa using l1) (by simpa using l2) fun j t x y e1 e2 e3 => h3 (j + 1) t x y e1 e2 e3)
theorem ev_lstZip {ta : TA} {xs : List α} {ys : List β} (h : EvA ta Γ Ω [en (rList A) xs, en (rTupL K B) ys] Ω1) (hl : xs.length = ys.length) : Ev (tLstZip K ta) Γ Ω (en (rList (rPair K A B)) (xs.zip ys)) Ω1 := fun W Hk0 H0 T σ H a Q q =>
  h W Hk0 H0 T σ H a _ fun us H1 hlv ⟨Hk1, a1⟩ => by
    match us, hlv with
    | [u, v], _ =>
      obtain ⟨p, vs, rfl, hp, al⟩ := (show (rList A).r xs u Hk1 from a1.tp (en (rList A) xs, u) (by simp))
      obtain ⟨p2, ws, rfl, hp2, al2⟩ := (show (rTupL K B).r ys v Hk1 from a1.tp (en (rTupL K B) ys, v) (by simp))
      refine ⟨p, p2, vs, ws, rfl, Evl.sq_of (a1.gr.kh.lst hp), ex_t a1.gr.kh hp2, by rw [← al.len, ← al2.len]; exact hl, fun H' r ts keep hr ht e1 e2 e3 => ?_⟩
      have g := Grow.many a1.gr.kh keep (fun a => a = r ∨ a ∈ ts) (fun a z => z.elim (fun z => by rw [z]; exact hr) (ht a))
      refine q _ _ ⟨_, ((a1.grow g).sub (T' := T) fun z hz => by simp [hz]).push (e := en (rList (rPair K A B)) (xs.zip ys)) ⟨r, _, rfl, (if_pos (Or.inl rfl)).trans e1, al_zip g.kk al al2 hl (e2.trans al.len.symm) fun j t x y m1 m2 m3 => ?_⟩⟩
      exact (if_pos (Or.inr (List.mem_of_getElem? m1))).trans (e3 j t x y m1 m2 m3)
end
end KA

namespace KA
open PySem PySem.Spec PyProof.Rows L2
/-- a value as a test, by its truth -/
def tTruK (K : PySem.W.Frag) (te : TE) : TT := fun σ H Q => te σ H fun x H' => ∃ k, TruV K x H' k ∧ Q k H'
/-! ### tuples as keys -/
/-- a tuple of numbers and texts, as a key -/
def rKeyT : Rp (List Key) := ⟨fun ks v H => ∃ b, v = .ref b ∧ H b = some (.tup (ks.map kV)), fun k ⟨b, h1, h2⟩ => ⟨b, h1, k.tup h2⟩⟩
/-- a dict of such keys, what is in it known -/
def rSetT : Rp (List Key → Bool) := ⟨fun S v H => ∃ d kvs, v = .ref d ∧ Rd H d (.dT kvs) ∧ ∀ k, (valV kvs k).isSome = S k, fun k ⟨d, kvs, h1, h2, h3⟩ => ⟨d, kvs, h1, k.dT h2, h3⟩⟩
def dct (p : Addr) (n : Nat) (S : List Key → Bool) : Cell := ⟨p, fun o _ => ∃ kvs, o = .dT kvs ∧ kvs.length ≤ n ∧ ∀ k, (valV kvs k).isSome = S k, fun _ h => h⟩
section
variable {W : List Addr} {Hk0 H0 : Hp} {Γ Γ' : Ctx} {Ω Ω1 Ω2 : List Cell} {T : Tm} {σ : L2.St} {H : Hp} {K : PySem.W.Frag} {te ta tb td : TE} {t : TA} {tz : TS} {D : Ends} {α β γ δ : Type} {A : Rp α} {B : Rp β} {C : Rp γ} {F : Rp δ} {xs : List α} {es : List En}
theorem ev_keyT {ks : List Key} (h : EvA t Γ Ω es Ω1) (hk : ∀ vs H, OkAll es vs H → vs = ks.map kV) (hl : ks.length ≤ 1000 := by simp) : Ev (tTup t) Γ Ω (en rKeyT ks) Ω1 := fun W Hk0 H0 T σ H a Q q =>
  h W Hk0 H0 T σ H a _ fun vs H1 hlv ⟨Hk1, a1⟩ => by
    have e := hk vs Hk1 (.of_zip hlv fun z hz => a1.tp z (by simp [hz]))
    refine ⟨by rw [e, List.length_map]; exact Nat.le_trans hl (by decide), fun p hp => ?_⟩
    have g := Grow.new (W := []) (o := .tup vs) a1.gr.kh hp
    exact q _ _ ⟨_, ((a1.grow g).sub (T' := T) fun z hz => by simp [hz]).push (e := en rKeyT ks) ⟨p, rfl, by rw [← e]; exact upd_same⟩⟩
/-- d = {} -/
theorem q_newT {i : Nat} (a : At W Hk0 H0 Γ Ω T σ H) (k : ∀ p σ' H', p ∉ W → At W Hk0 H0 (Γ.set i (some (en rVal (.ref p)))) (dct p 0 (fun _ => false) :: Ω) T σ' H' → tz D σ' H') : tSeq (tAsg tDNewT (gName i)) tz D σ H := by
  intro p hp
  obtain ⟨Hk, a⟩ := a
  have b := a.newCell (c := dct p 0 fun _ => false) (o := .dT []) hp rfl ⟨[], rfl, Nat.le_refl _, fun _ => rfl⟩
  exact k p _ _ (At.notW ⟨Hk, a⟩ hp) ⟨Hk, b.set i rfl⟩
/-- d[key] = e -/
theorem s_dputT {p : Addr} {i n : Nat} {S : List Key → Bool} {ks : List Key} {e : En} (a : At W Hk0 H0 Γ (dct p n S :: Ω) T σ H) (hi : Γ[i]? = some (some (en rVal (.ref p)))) (hv : Ev te Γ (dct p n S :: Ω) e (dct p n S :: Ω)) (hk : Ev ta Γ (dct p n S :: Ω) (en rKeyT ks) (dct p n S :: Ω)) (hn : n ≤ 40000)
    (k : ∀ H', At W Hk0 H0 Γ (dct p (n + 1) (fun j => decide (j = ks) || S j) :: Ω) T σ H' → D.nx σ H') : sDPut (tVar i) ta te D σ H :=
  hv W Hk0 H0 T σ H a _ fun v H1 a1 => by
    have a1' := a1
    obtain ⟨Hk1, a1⟩ := a1
    obtain ⟨u, h1, h2⟩ := a1.sl i _ hi
    refine ⟨u, h1, hk W Hk0 H0 _ σ H1 a1' _ fun y H2 ⟨Hk2, a2⟩ => ?_⟩
    have hu : u = .ref p := h2
    subst hu
    obtain ⟨b, hy, hb⟩ := (show rKeyT.r ks y Hk2 from a2.tp (en rKeyT ks, y) (by simp))
    obtain ⟨_, ⟨o, g2, kvs, rfl, hlen, hS⟩, _⟩ := a2.cl _ (List.mem_cons_self ..)
    refine ⟨p, _, rfl, .inr ⟨kvs, ks, b, g2, hy, a2.gr.kh.tup hb, Evl.sz_lt (by omega), rfl⟩, k _ ⟨Hk2, (a2.sub (T' := T) fun z hz => by simp [hz]).write (c := dct p n S) (c' := dct p (n + 1) fun j => decide (j = ks) || S j) rfl ⟨_, rfl, Nat.le_trans (DSub.putK_len kvs ks v) (by omega), fun j => ?_⟩⟩⟩
    show (valV (putK kvs ks v) j).isSome = (decide (j = ks) || S j)
    rw [valV_put, ← hS j]
    by_cases z : j = ks
    · rw [if_pos z, decide_eq_true z]; rfl
    · rw [if_neg z, decide_eq_false z]; rfl
theorem At.freeT {p : Addr} {n : Nat} {S : List Key → Bool} (a : At W Hk0 H0 Γ (dct p n S :: Ω) T σ H) (hw : p ∉ W) : At W Hk0 H0 Γ Ω ((en rSetT S, .ref p) :: T) σ H := by
  obtain ⟨Hk, a⟩ := a
  obtain ⟨o, h2, ⟨kvs, rfl, _, hS⟩, a'⟩ := a.release hw
  exact ⟨_, a'.push (e := en rSetT S) (v := .ref p) ⟨p, kvs, rfl, .inl upd_same, hS⟩⟩
/-- key in d -/
theorem ev_dinT {S : List Key → Bool} {ks : List Key} (h2 : Ev ta Γ Ω (en rKeyT ks) Ω1) (h1 : Ev td Γ Ω1 (en rSetT S) Ω2) : Ev (tDIn ta td) Γ Ω (en rBool (S ks)) Ω2 := fun W Hk0 H0 T σ H a Q q =>
  h2 W Hk0 H0 T σ H a _ fun y H1 a1 => h1 W Hk0 H0 _ σ H1 a1 _ fun v H2 ⟨Hk2, a2⟩ => by
    obtain ⟨d, kvs, hv, hd, hS⟩ := (show rSetT.r S v Hk2 from a2.tp (en rSetT S, v) (by simp))
    obtain ⟨b, hy, hb⟩ := (show rKeyT.r ks y Hk2 from a2.tp (en rKeyT ks, y) (by simp))
    refine ⟨d, valV kvs ks, hv, .inr ⟨kvs, ks, b, a2.gr.kh.dT hd, hy, a2.gr.kh.tup hb, rfl⟩, q _ H2 ⟨Hk2, (a2.sub (T' := T) fun z hz => by simp [hz]).push (e := en rBool (S ks)) ?_⟩⟩
    show V.bl _ = V.bl _
    rw [hS]
/-- (*xs, x) -/
theorem ev_tupS {x : α} (h1 : Ev te Γ Ω (en (rTupL K A) xs) Ω1) (h2 : Ev tb Γ Ω1 (en A x) Ω2) (hl : xs.length ≤ 1000) : Ev (tTup (StX.tStar K te (tCons tb tNil))) Γ Ω (en (rTupL K A) (xs ++ [x])) Ω2 := fun W Hk0 H0 T σ H a Q q =>
  h1 W Hk0 H0 T σ H a _ fun v H1 ⟨Hk1, a1⟩ => by
    obtain ⟨p, vs, hv, hp, al⟩ := (show (rTupL K A).r xs v Hk1 from a1.tp (en (rTupL K A) xs, v) (by simp))
    have m : ∀ H H', Ex H H' → Al A H xs vs → Al A H' xs vs := fun H H' k h => h.mono k
    refine ⟨p, vs, hv, .inl (ex_t a1.gr.kh hp), h2 W Hk0 H0 (fct _ m :: T) σ H1 ⟨Hk1, (a1.sub (T' := T) fun z hz => by simp [hz]).fct m al⟩ _ fun y H2 ⟨Hk2, a2⟩ => ?_⟩
    have hy : A.r x y Hk2 := a2.tp (en A x, y) (by simp)
    have al2 : Al A Hk2 xs vs := a2.tp (fct _ m) (by simp)
    refine ⟨by rw [List.length_append, ← al2.len]; exact Nat.le_trans (Nat.add_le_add_right hl 1) (show 1000 + 1 ≤ sizeLine by decide), fun r hr => ?_⟩
    have g := Grow.new (W := []) (o := .tup (vs ++ [y])) a2.gr.kh hr
    exact q _ _ ⟨_, ((a2.grow g).sub (T' := T) fun z hz => by simp [hz]).push (e := en (rTupL K A) (xs ++ [x])) ⟨r, _, rfl, SqT.of upd_same, (al2.append (.one hy)).mono g.kk⟩⟩
/-- a list as a test -/
theorem eb_lst (h : Ev te Γ Ω (en (rList A) xs) Ω1) : EvB (tTruK K te) Γ Ω (!xs.isEmpty) Ω1 := fun W Hk0 H0 T σ H a Q q =>
  h W Hk0 H0 T σ H a _ fun v H1 ⟨Hk1, a1⟩ => by
    obtain ⟨p, vs, rfl, hp, al⟩ := (show (rList A).r xs v Hk1 from a1.tp (en (rList A) xs, v) (by simp))
    refine ⟨!xs.isEmpty, .inl ⟨vs, Evl.sq_of (a1.gr.kh.lst hp), ?_⟩, q H1 ⟨Hk1, a1.unpush⟩⟩
    cases al <;> rfl
/-- (a, b), (c, d) as a target -/
theorem tg_pair2 {r : (α × β) × γ × δ} {i j k l : Nat} {vs : List Nat} (hi : i ∈ vs) (hj : j ∈ vs) (hk : k ∈ vs) (hl : l ∈ vs) : TgE (gTup K 2 (gCons (gTup K 2 (gCons (gName i) (gCons (gName j) gNil))) (gCons (gTup K 2 (gCons (gName k) (gCons (gName l) gNil))) gNil))) Γ (en (rPair K (rPair K A B) (rPair K C F)) r)
    ((((Γ.set i (some (en A r.1.1))).set j (some (en B r.1.2))).set k (some (en C r.2.1))).set l (some (en F r.2.2))) vs := fun W Hk0 H0 Ω T σ H v ⟨Hk, a⟩ Q q => by
  obtain ⟨p, x, y, rfl, hp, ⟨p1, x1, y1, rfl, hp1, e1, e2⟩, p2, x2, y2, rfl, hp2, e3, e4⟩ := (show (rPair K (rPair K A B) (rPair K C F)).r r v Hk from a.tp (en (rPair K (rPair K A B) (rPair K C F)) r, v) (by simp))
  refine ⟨p, _, rfl, ex_t a.gr.kh hp, rfl, _, _, rfl, ⟨p1, _, rfl, ex_t a.gr.kh hp1, rfl, x1, [y1], rfl, y1, [], rfl, rfl, _, [], rfl, ⟨p2, _, rfl, ex_t a.gr.kh hp2, rfl, x2, [y2], rfl, y2, [], rfl, rfl, rfl, q _ ⟨Hk, (((a.unpush.set (e := en A r.1.1) i e1).set (e := en B r.1.2) j e2).set (e := en C r.2.1) k e3).set (e := en F r.2.2) l e4⟩ ⟨[(i, x1), (j, y1), (k, x2), (l, y2)], ?_, rfl⟩⟩⟩⟩
  intro z hz
  simp at hz
  rcases hz with rfl | rfl | rfl | rfl
  · exact hi
  · exact hj
  · exact hk
  · exact hl
end
end KA

/-! all shifts of a timetable -/
namespace KA
open PySem PySem.Spec PyProof.Rows L2
/-- one more shift behind each -/
def shNext (acc : List (List Int)) (p : Int) : List (List Int) := acc.flatMap fun s => (List.range p.toNat).map fun (k : Nat) => s ++ [(k : Int)]
def shTo (m : List (Str × Jb)) : Nat → List (List Int)
  | 0 => [[]]
  | n + 1 => shNext (shTo m n) (m.getD n default).2.per
theorem flatMap_getD {α β : Type} [Inhabited α] (f : α → List β) (xs : List α) : (List.range xs.length).flatMap (fun i => f (xs.getD i default)) = xs.flatMap f := by
  rw [List.flatMap_def, List.flatMap_def, range_getD f xs]
theorem flatMap_len {α β : Type} {f : α → List β} {n : Nat} : ∀ {xs : List α}, (∀ x ∈ xs, (f x).length = n) → (xs.flatMap f).length = xs.length * n
  | [], _ => (Nat.zero_mul n).symm
  | x :: xs, h => by
    rw [List.flatMap_cons, List.length_append, h x (List.mem_cons_self ..), flatMap_len fun y hy => h y (List.mem_cons_of_mem _ hy), List.length_cons, Nat.succ_mul, Nat.add_comm]
theorem shNext_len (acc : List (List Int)) (p : Int) : (shNext acc p).length = acc.length * p.toNat := flatMap_len fun s _ => by rw [List.length_map, List.length_range]
theorem shTo_len {m : List (Str × Jb)} : ∀ {n : Nat}, n ≤ m.length → ((shTo m n).length : Int) = prodP (m.take n)
  | 0, _ => rfl
  | n + 1, h => by
    have hp := (m.getD n default).2.ok
    rw [shTo, shNext_len, Int.natCast_mul, shTo_len (Nat.le_of_succ_le h), Int.toNat_of_nonneg (by omega), prodP_take h]
theorem prodP_le {m : List (Str × Jb)} (n : Nat) : prodP (m.take n) ≤ prodP m := by
  have e := prodP_append (m.take n) (m.drop n)
  rw [List.take_append_drop] at e
  have h1 := prodP_one (m.take n)
  have h2 := Int.mul_le_mul_of_nonneg_left (prodP_one (m.drop n)) (show 0 ≤ prodP (m.take n) by omega)
  omega
theorem shTo_small {m : List (Str × Jb)} (h : TbOk m) {n : Nat} (hn : n ≤ m.length) : (shTo m n).length ≤ 2000 := by
  have h1 := shTo_len hn
  have h2 := prodP_le (m := m) n
  have h3 := h.pr
  omega
/-- each is one of that many numbers, each less than its period -/
theorem shTo_ok {m : List (Str × Jb)} : ∀ {n : Nat} {s : List Int}, s ∈ shTo m n → s.length = n ∧ ∀ i, i < n → 0 ≤ s.getD i default ∧ s.getD i default < (m.getD i default).2.per
  | 0, s, h => by
    rw [List.mem_singleton.mp h]
    exact ⟨rfl, fun i hi => absurd hi (Nat.not_lt_zero i)⟩
  | n + 1, s, h => by
    obtain ⟨u, hu, h2⟩ := List.mem_flatMap.mp (show s ∈ List.flatMap _ (shTo m n) from h)
    obtain ⟨k, hk, rfl⟩ := List.mem_map.mp h2
    have hk := List.mem_range.mp hk
    obtain ⟨e, hb⟩ := shTo_ok hu
    refine ⟨by rw [List.length_append, e]; rfl, fun i hi => ?_⟩
    by_cases z : i < n
    · rw [List.getD_eq_getElem?_getD, List.getElem?_append_left (by omega), ← List.getD_eq_getElem?_getD]
      exact hb i z
    · obtain rfl : i = n := by omega
      have e2 : (u ++ [(k : Int)]).getD i default = k := by
        rw [List.getD_eq_getElem?_getD, List.getElem?_append_right (by omega), e, Nat.sub_self]
        rfl
      rw [e2]
      omega
theorem flatN_const {β : Type} {v : Nat → Nat → β} {c : Nat} (n : Nat) : (flatN (fun _ => c) v n).length = n * c := by
  unfold flatN
  rw [flatMap_len (n := c) fun i _ => by rw [List.length_map, List.length_range], List.length_range]
end KA

/-! which shifts of two jobs meet -/
namespace KA
open PySem PySem.Spec PyProof.Rows L2
def kOf (f s : Str) (x y : Int) : List Key := [.inr f, .inr s, .inl x, .inl y]
theorem kOf_inj {f s f' s' : Str} {x y x' y' : Int} : kOf f s x y = kOf f' s' x' y' ↔ f = f' ∧ s = s' ∧ x = x' ∧ y = y' := by
  unfold kOf
  simp
abbrev PP : Type := (Str × Jb) × (Str × Jb)
/-- among the pairs before the i-th, and of the i-th with shifts before (k, l): this key has a common time -/
def MetTo (ps : List PP) (i k l : Nat) (key : List Key) : Prop := ∃ (a : Nat) (p : PP) (x y : Nat), ps[a]? = some p ∧ ((x : Int) < p.1.2.per ∧ (y : Int) < p.2.2.per) ∧ (commonT (p.1.2.shift x) (p.2.2.shift y)).isSome = true ∧ key = kOf p.1.1 p.2.1 x y ∧ (a < i ∨ a = i ∧ (x < k ∨ x = k ∧ y < l))
theorem MetTo.zero {ps : List PP} {key : List Key} : ¬ MetTo ps 0 0 0 key := fun ⟨a, p, x, y, _, _, _, _, h⟩ => by omega
theorem MetTo.step {ps : List PP} {i k l : Nat} {p : PP} (hp : ps[i]? = some p) (hk : (k : Int) < p.1.2.per) (hl : (l : Int) < p.2.2.per) (key : List Key) : MetTo ps i k (l + 1) key ↔ MetTo ps i k l key ∨ (commonT (p.1.2.shift k) (p.2.2.shift l)).isSome = true ∧ key = kOf p.1.1 p.2.1 k l := by
  constructor
  · rintro ⟨a, q, x, y, e, b, c, d, h⟩
    by_cases z : a = i ∧ x = k ∧ y = l
    · obtain ⟨rfl, rfl, rfl⟩ := z
      cases hp.symm.trans e
      exact .inr ⟨c, d⟩
    · exact .inl ⟨a, q, x, y, e, b, c, d, by omega⟩
  · rintro (⟨a, q, x, y, e, b, c, d, h⟩ | ⟨c, d⟩)
    · exact ⟨a, q, x, y, e, b, c, d, by omega⟩
    · exact ⟨i, p, k, l, hp, ⟨hk, hl⟩, c, d, by omega⟩
theorem MetTo.row {ps : List PP} {i k n : Nat} {p : PP} (hp : ps[i]? = some p) (hn : (n : Int) = p.2.2.per) (key : List Key) : MetTo ps i k n key ↔ MetTo ps i (k + 1) 0 key := by
  constructor
  · rintro ⟨a, q, x, y, e, b, c, d, h⟩
    exact ⟨a, q, x, y, e, b, c, d, by omega⟩
  · rintro ⟨a, q, x, y, e, b, c, d, h⟩
    refine ⟨a, q, x, y, e, b, c, d, ?_⟩
    by_cases z : a = i
    · subst z
      cases hp.symm.trans e
      omega
    · omega
theorem MetTo.pair {ps : List PP} {i n : Nat} {p : PP} (hp : ps[i]? = some p) (hn : (n : Int) = p.1.2.per) (key : List Key) : MetTo ps i n 0 key ↔ MetTo ps (i + 1) 0 0 key := by
  constructor
  · rintro ⟨a, q, x, y, e, b, c, d, h⟩
    exact ⟨a, q, x, y, e, b, c, d, by omega⟩
  · rintro ⟨a, q, x, y, e, b, c, d, h⟩
    refine ⟨a, q, x, y, e, b, c, d, ?_⟩
    by_cases z : a = i
    · subst z
      cases hp.symm.trans e
      omega
    · omega
open Classical in
/-- the keys that stand in the dict of meetings -/
noncomputable def metF (m : List (Str × Jb)) : List Key → Bool := fun key => decide (MetTo (pairsG m) (pairsG m).length 0 0 key)
open Classical in
theorem metF_of {m : List (Str × Jb)} {S : List Key → Bool} (h : ∀ key, S key = true ↔ MetTo (pairsG m) (pairsG m).length 0 0 key) : S = metF m := by
  funext key
  rw [Bool.eq_iff_iff, h key]
  exact decide_eq_true_iff.symm
open Classical in
theorem metF_iff {m : List (Str × Jb)} {key : List Key} : metF m key = true ↔ MetTo (pairsG m) (pairsG m).length 0 0 key := decide_eq_true_iff
/-- what the loops keep -/
def MetI (ps : List PP) (i k l : Nat) (u : Nat × (List Key → Bool)) : Prop := u.1 ≤ 144 * i + 12 * k + l ∧ ∀ key, u.2 key = true ↔ MetTo ps i k l key
end KA
namespace KA
open PySem PySem.Spec PyProof.Rows L2
/-- the keys of a plan's shifts -/
def partsOf (m : List (Str × Jb)) (xs : List Int) : List (List Key) := (pairsG ((m.map fun p : Str × Jb => p.1).zip xs)).map fun p => kOf p.1.1 p.2.1 p.1.2 p.2.2
noncomputable def freeAll (m : List (Str × Jb)) : List (List Int) := (shTo m m.length).filter fun s => ((partsOf m s).filter (metF m)).isEmpty
theorem eb_empty {Γ : Ctx} {Ω Ω1 : List Cell} {K : PySem.W.Frag} {te : TE} {α : Type} {A : Rp α} {xs : List α} (h : Ev te Γ Ω (en (rList A) xs) Ω1) : EvB (tNot (tTruK K te)) Γ Ω xs.isEmpty Ω1 := by
  have z := eb_not (eb_lst (K := K) h)
  rwa [Bool.not_not] at z
/-! ### no part of the shifts is met: they never meet -/
theorem shiftT_at {m : List (Str × Jb)} {xs : List Int} {a : Nat} {p : Str × Jb} (h : (shiftT m xs)[a]? = some p) : ∃ q, m[a]? = some q ∧ p = (q.1, q.2.shift (xs.getD a default)) := by
  unfold shiftT at h
  rw [List.getElem?_map] at h
  obtain ⟨i, h1, h2⟩ := Option.map_eq_some_iff.mp h
  obtain ⟨h3, h4⟩ := List.getElem?_eq_some_iff.mp h1
  rw [List.length_range] at h3
  rw [List.getElem_range] at h4
  subst h4
  exact ⟨_, getD_at h3, h2.symm⟩
theorem shiftT_get {m : List (Str × Jb)} {xs : List Int} {a : Nat} {q : Str × Jb} (h : m[a]? = some q) : (shiftT m xs)[a]? = some (q.1, q.2.shift (xs.getD a default)) := by
  have ha := (List.getElem?_eq_some_iff.mp h).1
  unfold shiftT
  rw [List.getElem?_map, List.getElem?_range ha, Option.map_some, List.getD_eq_getElem?_getD, h]
  rfl
theorem names_one {m : List (Str × Jb)} (nd : (m.map (·.1)).Nodup) {a b : Nat} {p q : Str × Jb} (ha : m[a]? = some p) (hb : m[b]? = some q) (h : p.1 = q.1) : a = b := by
  have g1 : (m.map Prod.fst)[a]? = some p.1 := by rw [List.getElem?_map, ha]; rfl
  have g2 : (m.map Prod.fst)[b]? = some q.1 := by rw [List.getElem?_map, hb]; rfl
  exact (List.getElem?_inj (List.getElem?_eq_some_iff.mp g1).1 nd).mp (g1.trans ((congrArg some h).trans g2.symm))
theorem freeG_iff (m : List (Str × Jb)) : freeG m = true ↔ ∀ (a b : Nat) (p q : Str × Jb), m[a]? = some p → m[b]? = some q → a < b → (commonT p.2 q.2).isNone = true := by
  rw [← freeG_common, List.all_eq_true]
  constructor
  · intro h a b p q ha hb hab
    exact h _ (List.mem_map.mpr ⟨(p, q), mem_pairsG ha hb hab, rfl⟩)
  · intro h c hc
    obtain ⟨pq, hpq, rfl⟩ := List.mem_map.mp hc
    obtain ⟨a, b, ha, hb, hab⟩ := pairsG_mem hpq
    exact h a b _ _ ha hb hab
theorem zip_at {m : List (Str × Jb)} {xs : List Int} (hl : xs.length = m.length) {a : Nat} {p : Str × Int} : ((m.map fun p : Str × Jb => p.1).zip xs)[a]? = some p ↔ ∃ q, m[a]? = some q ∧ p = (q.1, xs.getD a default) := by
  rw [List.getElem?_zip_eq_some, List.getElem?_map]
  constructor
  · rintro ⟨h1, h2⟩
    obtain ⟨q, h3, h4⟩ := Option.map_eq_some_iff.mp h1
    refine ⟨q, h3, ?_⟩
    rw [List.getD_eq_getElem?_getD, h2, h4]
    rfl
  · rintro ⟨q, h1, rfl⟩
    have ha := (List.getElem?_eq_some_iff.mp h1).1
    refine ⟨by rw [h1]; rfl, ?_⟩
    rw [List.getD_eq_getElem?_getD, List.getElem?_eq_getElem (by omega)]
    rfl
theorem parts_free {m : List (Str × Jb)} (hm : TbOk m) {xs : List Int} (hx : ShOk m xs) : ((partsOf m xs).filter (metF m)).isEmpty = freeG (shiftT m xs) := by
  rw [Bool.eq_iff_iff, List.isEmpty_iff, List.filter_eq_nil_iff, freeG_iff]
  constructor
  · intro h a b p q ha hb hab
    obtain ⟨p0, hp, rfl⟩ := shiftT_at ha
    obtain ⟨q0, hq, rfl⟩ := shiftT_at hb
    have la := (List.getElem?_eq_some_iff.mp hp).1
    have lb := (List.getElem?_eq_some_iff.mp hq).1
    have ka : kOf p0.1 q0.1 (xs.getD a default) (xs.getD b default) ∈ partsOf m xs := List.mem_map.mpr ⟨((p0.1, xs.getD a default), (q0.1, xs.getD b default)), mem_pairsG ((zip_at hx.1).mpr ⟨p0, hp, rfl⟩) ((zip_at hx.1).mpr ⟨q0, hq, rfl⟩) hab, rfl⟩
    have hn := h _ ka
    cases e : (commonT (p0.2.shift (xs.getD a default)) (q0.2.shift (xs.getD b default))).isNone with
    | true => rfl
    | false =>
      refine absurd ?_ hn
      have b1 := hx.2 a la
      have b2 := hx.2 b lb
      have g1 : m.getD a default = p0 := by rw [List.getD_eq_getElem?_getD, hp]; rfl
      have g2 : m.getD b default = q0 := by rw [List.getD_eq_getElem?_getD, hq]; rfl
      rw [g1] at b1
      rw [g2] at b2
      obtain ⟨i, hi⟩ := List.mem_iff_getElem?.mp (mem_pairsG hp hq hab)
      refine metF_iff.mpr ⟨i, (p0, q0), (xs.getD a default).toNat, (xs.getD b default).toNat, hi, ⟨by dsimp only; omega, by dsimp only; omega⟩, ?_, ?_, .inl (List.getElem?_eq_some_iff.mp hi).1⟩
      · rw [Int.toNat_of_nonneg b1.1, Int.toNat_of_nonneg b2.1]
        revert e
        cases commonT (p0.2.shift (xs.getD a default)) (q0.2.shift (xs.getD b default)) <;> simp
      · rw [Int.toNat_of_nonneg b1.1, Int.toNat_of_nonneg b2.1]
  · intro h key hk
    obtain ⟨pq, hpq, rfl⟩ := List.mem_map.mp hk
    obtain ⟨a, b, ha, hb, hab⟩ := pairsG_mem hpq
    obtain ⟨p0, hp, e1⟩ := (zip_at hx.1).mp ha
    obtain ⟨q0, hq, e2⟩ := (zip_at hx.1).mp hb
    intro hmet
    obtain ⟨i, r, x, y, hr, _, hc, hkey, _⟩ := metF_iff.mp hmet
    obtain ⟨a', b', ha', hb', _⟩ := pairsG_mem (List.mem_of_getElem? hr)
    rw [e1, e2, kOf_inj] at hkey
    obtain ⟨n1, n2, rfl', rfl''⟩ := hkey
    obtain rfl := names_one hm.nd hp ha' n1
    obtain rfl := names_one hm.nd hq hb' n2
    have f1 : p0 = r.1 := Option.some.inj (hp.symm.trans ha')
    have f2 : q0 = r.2 := Option.some.inj (hq.symm.trans hb')
    have z := h a b _ _ (shiftT_get hp) (shiftT_get hq) hab
    rw [← f1, ← f2, ← rfl', ← rfl''] at hc
    revert z hc
    dsimp only
    cases commonT (p0.2.shift (xs.getD a default)) (q0.2.shift (xs.getD b default)) <;> simp
end KA

namespace KA
open PySem PySem.Spec PyProof.Rows L2
section
variable {K : PySem.W.Frag} {α : Type} {A : Rp α}
theorem ok_al {H : Hp} : ∀ {xs : List α} {vs : List V}, Al A H xs vs → OkAll (xs.map (en A)) vs H
  | _, _, .nil => True.intro
  | _, _, .cons h t => ⟨h, ok_al t⟩
/-- xs + (x,) -/
theorem rv_catT {xs : List α} {x : α} (hl : xs.length ≤ 1000) : RvE (rCatA K) (en (rTupL K A) xs) (enT K [en A x]) (en (rTupL K A) (xs ++ [x])) := fun Hk H u y k h1 h2 Q q => by
  obtain ⟨p, vs, hu, hp, al⟩ := (show (rTupL K A).r xs u Hk from h1)
  refine rv_catN (K := K) (es := xs.map (en A)) (fs := [en A x]) (by rw [List.length_map]; show xs.length + 1 ≤ 40000; omega) Hk H u y k ⟨p, vs, hu, hp, ok_al al⟩ h2 Q fun v Hk' H' g ok => q v Hk' H' g ?_
  obtain ⟨r, ws, hv, hr, al2⟩ := (show (rMany K (xs.map (en A) ++ [en A x])).r () v Hk' from ok)
  exact ⟨r, ws, hv, hr, al_of (xs ++ [x]) (by rw [List.map_append]; rfl) al2⟩
end
theorem shNext_take (acc : List (List Int)) (p : Int) (i : Nat) (h : i < acc.length) : shNext (acc.take i) p ++ (List.range p.toNat).map (fun (k : Nat) => acc.getD i default ++ [(k : Int)]) = shNext (acc.take (i + 1)) p := by
  unfold shNext
  rw [List.take_succ, getD_at h, List.flatMap_append]
  simp
end KA

/-! (x,) * n, n from 1 on -/
namespace KA
open PySem PySem.Spec PyProof.Rows L2
theorem tuple_mul1 (l : Addr) (items : Array Value) (n : Nat) (dd : Option Addr) (sl : Array (Option Value)) (u : Tok) : Meets (Builtin.«tuple.__mul__» ⟨[.ref l, .int 1 u], []⟩) (fun _ R s => s.heap.get? l = some { cls := .type "tuple", dict := dd, data := .seq items n, slots := sl } ∧ R (.ok (.ret (.ref l))) s) :=
  .of_wp fun prog w A R s h => by
    obtain ⟨hp, g, d, tk, os⟩ := s
    obtain ⟨hl, h⟩ := h
    have f1 := AutoSeq1.idx_int
    wp_walk using wpAny_loadPart' hl
    all_goals exact ⟨_, rfl, h⟩
/-- a tuple times a number: itself, or a new one -/
def rRepTA (K : PySem.W.Frag) : R2 := fun x y H Q => ∃ l k xs, x = .ref l ∧ y = .int k ∧ SqT K H l xs ∧ xs ≠ [] ∧ 1 ≤ k ∧ k ≤ 1000 ∧ xs.length ≤ 1000 ∧ (k = 1 → Q (.ref l) H) ∧ (2 ≤ k → ∀ p, H p = none → Q (.ref p) (upd H p (.tup (List.replicate k.toNat xs).flatten)))
theorem op_repTA {X : Cx} : OpR X (binaryOp .Mult) (rRepTA X.K) := by
  intro pins s σ H x y v u Q I rx ry h
  obtain ⟨l, k, xs, rfl, rfl, hT, hne, h1, h2, hz, q1, q2⟩ := h
  by_cases hk : 2 ≤ k
  · exact op_repT pins s σ H _ _ v u Q I rx ry ⟨l, k, xs, rfl, rfl, hT, hne, hk, h2, hz, q2 hk⟩
  · obtain rfl : k = 1 := by omega
    cases rx
    obtain ⟨t, rfl⟩ := ry
    obtain ⟨its, r, ⟨⟨c, dd, data, sl⟩, ho, hc, n, hd⟩, hs⟩ := I.tuple hT
    simp only at hc hd
    subst hc hd
    refine wpAny_binaryOp_repeat_ref (T := "tuple") (U := "int") (by decide) ⟨_, ho, rfl⟩ (fun s' => typeIs_int s' 1 t) noFill_tuple_mul F.fills_int_mul F.slot_int_rmul repeat_tuple F.slot_int_index.lookup
      (call_meets F.slot_int_rmul (typeIs_int s 1 t) F.entry_int_rmul (F.args_int_rmul_2 _ _) (int_rmul_tuple 1 t l its.toArray n dd sl) ⟨ho, rfl, ⟨_, ho, rfl⟩, call_meets F.slot_tuple_mul ⟨_, ho, rfl⟩ F.entry_tuple_mul (F.args_tuple_mul_2 _ _) (tuple_mul1 l its.toArray n dd sl t) ⟨ho, ?_⟩⟩)
    exact ⟨.ref l, H, I, rfl, q1 rfl⟩
theorem rv_repT {K : PySem.W.Frag} {α : Type} {A : Rp α} {x : α} {k : Int} (h1 : 1 ≤ k) (h2 : k ≤ 1000) : RvE (rRepTA K) (en (rTupL K A) [x]) (en rInt k) (en (rTupL K A) (List.replicate k.toNat x)) := fun Hk H y z ex o1 o2 Q q => by
  obtain ⟨p, vs, hv, hp, al⟩ := (show (rTupL K A).r [x] y Hk from o1)
  obtain ⟨v, e, r⟩ : ∃ v, vs = [v] ∧ A.r x v Hk := by
    cases al with
    | cons h t => cases t; exact ⟨_, rfl, h⟩
  subst e
  refine ⟨p, k, [v], hv, o2, ex_t ex hp, by simp, h1, h2, by simp, fun e => ?_, fun _ r0 hr => ?_⟩
  · subst e
    exact q _ Hk H (.refl ex) ⟨p, [v], rfl, hp, .one r⟩
  · have g := Grow.new (W := []) (o := .tup (List.replicate k.toNat [v]).flatten) ex hr
    refine q _ _ _ g ⟨r0, _, rfl, SqT.of upd_same, Al.mono g.kk ?_⟩
    generalize k.toNat = n
    induction n with
    | zero => exact .nil
    | succ n ih =>
      rw [List.replicate_succ, List.replicate_succ, List.flatten_cons]
      exact .cons r ih
/-- tuple(xs) -/
theorem rc_tuple {K : PySem.W.Frag} {α : Type} {A : Rp α} {xs : List α} : RcE (fun us H Q => ∃ p ys, us = [.ref p] ∧ ((SqL K H p ys ∧ ∀ l, H l = none → Q (.ref l) (upd H l (.tup ys))) ∨ (SqT K H p ys ∧ Q (.ref p) H))) [en (rList A) xs] (en (rTupL K A) xs) := fun Hk H vs k o Q q => by
  obtain ⟨v, rfl, o1⟩ := ok1 o
  obtain ⟨p, ws, hv, hp, al⟩ := (show (rList A).r xs v Hk from o1)
  refine ⟨p, ws, by rw [hv], .inl ⟨Evl.sq_of (k.lst hp), fun l hl => ?_⟩⟩
  have g := Grow.new (W := []) (o := .tup ws) k hl
  exact q _ _ _ g ⟨l, _, rfl, SqT.of upd_same, al.mono g.kk⟩
end KA

/-! for and if in a generator's body -/
namespace KA
open PySem PySem.Spec PyProof.Rows L2 GenW
section
variable {M : Model} {A : Around} {R : GenEnd} {Y : Protocol} {n : Nat} {s₀ : Shared} {c : Code} {fs : List Frame} {s : Shared} {env : Env} {K : Flow → Sem PySem.Fin} {H : Value → Sem PySem.Fin} {gd : Bool → Bool} {lv : List Value → List Value}
theorem seg_For {tg iter : Expr} {body : List Stmt} {pos : Pos} (hs : ∀ x, foldedSetIterable iter env x = pure x)
    (h : wpAny M (A.over c fs) (eval iter env) (fun x s1 => wpAny M (A.over c fs) (pyIter x) (fun it s2 => ∀ p, Seg M A R Y n s₀ (.forLoop tg it body [] env) (M.den (.forLoop tg it body [] env))
      (.ret (fun r => ((match r with | .ok f => (.pure f : Sem Flow) | .error e => .raise e).onRaise (cameBack env)).wrap K H gd lv) none (gd false) (lv []) c p [] :: fs) s2)
      (fun x s' => Seg M A R Y n s₀ c (H x) fs s') s1) (fun x s' => Seg M A R Y n s₀ c (H x) fs s') s) :
    Seg M A R Y n s₀ c ((exec (.For tg iter body [] pos) env).wrap K H gd lv) fs s := by
  rw [exec_For]
  refine seg_bind_wrap (wpAny_standAt ?_)
  refine seg_bind_wrap (wpAny_mono h (fun x s1 h1 => ?_) fun _ _ z => z)
  refine seg_bind_wrap (wpAny_of_eq (hs x) ?_)
  refine seg_bind_wrap (wpAny_standAt ?_)
  refine seg_bind_wrap (wpAny_holding (wpAny_mono h1 (fun it s2 h2 => ?_) fun _ _ z => z))
  exact seg_call h2
theorem seg_If {test : Expr} {b1 b2 : List Stmt} {pos : Pos}
    (h : wpAny M (A.over c fs) (isTrue test env (eval test env)) (fun b s2 => if b = true then Seg M A R Y n s₀ c ((execs b1 env).wrap K H gd lv) fs s2 else Seg M A R Y n s₀ c ((execs b2 env).wrap K H gd lv) fs s2) (fun x s' => Seg M A R Y n s₀ c (H x) fs s') s) :
    Seg M A R Y n s₀ c ((exec (.If test b1 b2 pos) env).wrap K H gd lv) fs s := by
  rw [exec_If]
  refine seg_bind_wrap (wpAny_standAt ?_)
  refine seg_bind_wrap (wpAny_mono h (fun b s1 h1 => ?_) fun _ _ z => z)
  cases b with
  | true => rw [if_pos rfl] at h1 ⊢; exact h1
  | false => rw [if_neg Bool.false_ne_true] at h1 ⊢; exact h1
end
section
variable {prog : Program} {w : World} {A : Around} {R : GenEnd} {Y : Protocol} {n : Nat} {s₀ : Shared} {fs : List Frame} {s : Shared} {env : Env}
/-- an exception passes a loop's code -/
abbrev noted (env : Env) (x : Value) : Sem PySem.Fin := (do noteFrame x env; theTreesLotGoes x : Sem Unit).bind fun _ => .raise x
theorem seg_forLoop {tg : Expr} {it : Value} {body : List Stmt}
    (h : wpAny (model prog w) (A.over (.forLoop tg it body [] env) fs) (pyNext it) (fun r s1 => match r with
      | none => Seg (model prog w) A R Y n s₀ (.forLoop tg it body [] env) (.pure (.again (.block [] env))) fs s1
      | some v => wpAny (model prog w) (A.over (.forLoop tg it body [] env) fs) (letOwnedTupleGo tg it v) (fun _ s2 => wpAny (model prog w) (A.over (.forLoop tg it body [] env) fs) (assign tg env v) (fun _ s3 =>
          Seg (model prog w) A R Y n s₀ (.forLoop tg it body [] env) ((execs body env).wrap (fun f => match f with
            | .next | .cont => .pure (.again (.forLoop tg it body [] env))
            | .brk => .pure (.done .next)
            | .ret v => .pure (.done (.ret v))) (noted env) id id) fs s3)
          (fun x s' => Seg (model prog w) A R Y n s₀ (.forLoop tg it body [] env) (noted env x) fs s') s2) (fun x s' => Seg (model prog w) A R Y n s₀ (.forLoop tg it body [] env) (noted env x) fs s') s1)
      (fun x s' => Seg (model prog w) A R Y n s₀ (.forLoop tg it body [] env) (noted env x) fs s') s) :
    Seg (model prog w) A R Y n s₀ (.forLoop tg it body [] env) ((model prog w).den (.forLoop tg it body [] env)) fs s := by
  show Seg _ A R Y n s₀ _ ((forTurn tg it body [] env).onRaise (fun x => do noteFrame x env; theTreesLotGoes x)) fs s
  unfold forTurn
  rw [Sem.onRaise_eq_wrap]
  refine seg_bind_wrap (wpAny_standAt ?_)
  refine seg_bind_wrap (wpAny_onRaise (wpAny_mono h (fun r s1 h1 => ?_) fun _ _ h' => wpAny_standAt h'))
  cases r with
  | none => exact h1
  | some v =>
    refine seg_bind_wrap (wpAny_mono h1 (fun _ s2 h2 => ?_) fun _ _ z => z)
    refine seg_bind_wrap (wpAny_mono h2 (fun _ s3 h3 => ?_) fun _ _ z => z)
    rw [Sem.bind_eq_wrap', Sem.wrap_wrap]
    rw [Sem.wrap_congr (execs body env) _ _ (K' := fun f => match f with
            | .next | .cont => .pure (.again (.forLoop tg it body [] env))
            | .brk => .pure (.done .next)
            | .ret v => .pure (.done (.ret v))) (H' := noted env) (fun f => by cases f <;> rfl) (fun e => by rfl)]
    exact h3
theorem seg_blockNil {k : Result → Sem PySem.Fin} {hd : Option Value} {g : Bool} {l kp : List Value} {c : Code} {p : Pos} (h : Seg (model prog w) A R Y n s₀ c (k (.ok .next)) fs s) :
    Seg (model prog w) A R Y n s₀ (.block [] env) ((model prog w).den (.block [] env)) (.ret k hd g l c p kp :: fs) s := seg_leaf (.ok .next) h
end
section
variable {X : Cx} {rest : List Stmt}
theorem gi_unpin {S : Addr} {ip pl : List (Addr × Obj)} {ys : List V} {σ : L2.St} {H : Hp} {s : Shared} (h : GI X S (ip ++ pl) ys σ H s) : GI X S ip ys σ H s := by
  obtain ⟨acc, c, r, I⟩ := h
  exact ⟨acc, c, r, Inv.unpinned (pins := (S, lstObj acc c) :: ip) I⟩
def tGIf (t : TT) (u v : TGn) : TGn := fun D ys σ H => t σ H fun b H1 => if b = true then u D ys σ H1 else v D ys σ H1
theorem gs_if {test : Expr} {b1 b2 : List Stmt} {pos : Pos} {t : TT} {u v : TGn} (hc : PT X test t) (h1 : GSs X b1 u) (h2 : GSs X b2 v) : GS X (.If test b1 b2 pos) (tGIf t u v) := by
  refine ⟨fun A S ip R n ys s₀ c fs K J gd lv s σ H D g hn k hI ht => ?_⟩
  obtain ⟨acc, cc, r, I⟩ := hI
  refine seg_If ?_
  rw [g.over]
  refine wpAny_mono (hc.run _ s σ H _ I ht) (fun b s' ⟨H2, I2, q⟩ => ?_) fun x s' hx => k.exc n s₀ x s' hx
  cases b with
  | true => rw [if_pos rfl] at q ⊢; exact h1.run A S ip R n ys s₀ c fs K J gd lv s' σ H2 D g hn k ⟨acc, cc, r, I2⟩ q
  | false => rw [if_neg Bool.false_ne_true] at q ⊢; exact h2.run A S ip R n ys s₀ c fs K J gd lv s' σ H2 D g hn k ⟨acc, cc, r, I2⟩ q
def tGFor (wi : TI) (g : TG) (tb : TGn) : TGn := fun D ys σ H => wi σ H fun J H1 => ∃ W : Nat → Nat → List V → L2.St → Hp → Prop, (∃ m, W 0 m ys σ H1) ∧ ∀ i m ys σ H, W i m ys σ H →
  (J.stop i H ∧ D.nx ys σ H) ∨ (J.go i H ∧ ∃ N : List V → L2.St → Hp → Prop, (∀ ys' σ' H', N ys' σ' H' → ∃ m', m' < m ∧ W (i + 1) m' ys' σ' H') ∧ ∀ x H', J.yld i H x H' → g x σ H' fun σ2 H2 => tb { D with nx := N, ct := N, bk := D.nx } ys σ2 H2)
theorem gs_for {tg iter : Expr} {body : List Stmt} {wi : TI} {g : TG} {tb : TGn} {pos : Pos} (hp : PassesOwn (model X.prog X.w) X.A X.env X.xe) (hc : X.calm = true) (hi : PI X tg iter wi) (hg : PG X tg g) (hb : GSs X body tb)
    (hs : ∀ x, foldedSetIterable iter X.env x = pure x := by intro _; rfl) : GS X (.For tg iter body [] pos) (tGFor wi g tb) := by
  refine ⟨fun A S ip R n ys s₀ c fs K J gd lv s σ H D gc hn k hI ht => ?_⟩
  obtain ⟨acc0, cc0, r0, I0⟩ := hI
  refine seg_For hs ?_
  rw [gc.over]
  refine wpAny_mono (hi.run _ s σ H _ I0 ht) (fun v s1 h1 => wpAny_mono h1 (fun itv s2 h2 p => ?_) fun x s' hx => k.exc n s₀ x s' hx) fun x s' hx => k.exc n s₀ x s' hx
  obtain ⟨it, fp, tn, J2, H2, e, I2, T, st2, f2, W, ⟨m0, w0⟩, turn⟩ := h2
  subst e
  have gl := gc_loop (k := fun r => ((match r with | .ok f => (.pure f : Sem Flow) | .error e => .raise e).onRaise (cameBack X.env)).wrap K J gd lv) (c' := .forLoop tg (.ref it) body [] X.env) (l := lv []) (kp := []) (p := p) gc rfl rfl
  have stat : ∀ {acc : Array Value} {cc : Nat} {H' : Hp}, (∀ b ∈ fp, H' b = none) → ∀ b ∈ fp, FpOk X ((S, lstObj acc cc) :: ip) H' b := fun hn b hb => by
    obtain ⟨_, q1, q2, q3, q4, q5⟩ := f2 b hb
    refine ⟨hn b hb, q1, q2, q3, q4, fun z hz => ?_⟩
    rcases List.mem_append.mp hz with y | y
    · exact q5 z (List.mem_append_left _ y)
    · rcases List.mem_cons.mp y with y | y
      · rw [y]; exact q5 (S, lstObj acc0 cc0) (List.mem_append_right _ List.mem_cons_self)
      · exact q5 z (List.mem_append_right _ (List.mem_cons_of_mem _ y))
  have loop : ∀ (m i n : Nat) (ys : List V) (s₀ s : Shared) (σ : L2.St) (H : Hp), n + ys.length = sizeLine → W i m ys σ H → tn i s.heap → (∀ b ∈ fp, H b = none) → GI X S ip ys σ H s →
      Seg (model X.prog X.w) A R (GY X S) n s₀ (.forLoop tg (.ref it) body [] X.env) ((model X.prog X.w).den (.forLoop tg (.ref it) body [] X.env))
        (.ret (fun r => ((match r with | .ok f => (.pure f : Sem Flow) | .error e => .raise e).onRaise (cameBack X.env)).wrap K J gd lv) none (gd false) (lv []) c p [] :: fs) s := by
    intro m
    induction m using Nat.strongRecOn with
    | ind m ih =>
      intro i n ys s₀ s σ H hn w st fr hI
      have ee : ∀ (n : Nat) (s₀ : Shared) (x : Value) (s' : Shared), X.xe x s' → Seg (model X.prog X.w) A R (GY X S) n s₀ (.forLoop tg (.ref it) body [] X.env) (noted X.env x)
          (.ret (fun r => ((match r with | .ok f => (.pure f : Sem Flow) | .error e => .raise e).onRaise (cameBack X.env)).wrap K J gd lv) none (gd false) (lv []) c p [] :: fs) s' := fun n s₀ x s' hx => by
        unfold noted
        rw [Sem.bind_eq_wrap]
        refine seg_wrap ?_
        rw [gl.over]
        refine wpAny_bind (wpAny_mono (hp x s' hx) (fun _ s'' hcb => wpAny_theTreesLotGoes ?_) fun y s'' hcb => ?_)
        · exact seg_leaf (.error x) (seg_cameBack gc k hcb)
        · exact seg_leaf (.error y) (seg_cameBack gc k hcb)
      refine seg_forLoop ?_
      rw [gl.over]
      obtain ⟨acc, cc, r, I⟩ := hI
      rcases turn i m ys σ H w with ⟨stop, qn⟩ | ⟨go, N, hN, step⟩
      · refine wpAny_mono (T.done X rfl rfl rfl hc i _ s σ H X.xe I (stat fr) st stop) (fun r' s4 ⟨hr, I4⟩ => ?_) fun x s' hx => ee n s₀ x s' hx
        subst hr
        exact seg_again rfl (seg_blockNil (k.ok n ys s₀ s4 .next hn ⟨σ, H, ⟨acc, cc, r, I4⟩, qn⟩))
      · refine wpAny_mono (T.item X rfl rfl rfl hc i _ s σ H X.xe I (stat fr) st go) (fun r' s4 ⟨u, hr, h4⟩ => ?_) fun x s' hx => ee n s₀ x s' hx
        subst hr
        refine wpAny_mono h4 (fun _ s5 ⟨x, H5, I5, r5, y5, st5, fr5⟩ => ?_) fun x s' hx => ee n s₀ x s' hx
        have I5' := I5.pinned (stat fr5) (T.obj _ _ st5)
        refine wpAny_mono (hg.run _ s5 σ H5 x u _ I5' r5 (step x H5 y5)) (fun _ s6 ⟨σ6, H6, I6, q6⟩ => ?_) fun x s' hx => ee n s₀ x s' hx
        have ipS : ∀ z ∈ ip ++ pinsAt fp s5.heap, z.1 ≠ S := fun z hz => by
          rcases List.mem_append.mp hz with y | y
          · exact gc.ip z y
          · obtain ⟨hb, _⟩ := of_pinsAt y
            exact fun q => (stat (acc := acc) (cc := cc) fr5 z.1 hb).2.2.2.2.2 (S, lstObj acc cc) (List.mem_append_right _ List.mem_cons_self) q.symm
        have again : ∀ {n' : Nat} {ys' : List V} {s₀' s7 : Shared} {σ7 : L2.St} {H7 : Hp}, n' + ys'.length = sizeLine → GI X S (ip ++ pinsAt fp s5.heap) ys' σ7 H7 s7 → N ys' σ7 H7 → Seg (model X.prog X.w) A R (GY X S) n' s₀' (.forLoop tg (.ref it) body [] X.env) (.pure (.again (.forLoop tg (.ref it) body [] X.env)))
            (.ret (fun r => ((match r with | .ok f => (.pure f : Sem Flow) | .error e => .raise e).onRaise (cameBack X.env)).wrap K J gd lv) none (gd false) (lv []) c p [] :: fs) s7 := fun {n' ys' s₀' s7 σ7 H7} hn' G7 n7 => by
          obtain ⟨m', hm, w7⟩ := hN ys' σ7 H7 n7
          obtain ⟨acc7, cc7, r7, I7⟩ := id G7
          have pin7 : ∀ b o, b ∈ fp → s5.heap.get? b = some o → s7.heap.get? b = some o ∧ H7 b = none := fun b o hb e => by
            have q := I7.pin (b, o) (List.mem_append_right _ (List.mem_cons_of_mem _ (List.mem_append_right _ (mem_pinsAt hb e))))
            exact ⟨q.1, q.2.1⟩
          refine seg_again rfl (ih m' hm (i + 1) n' ys' s₀' s7 σ7 H7 hn' w7 (T.keep _ _ _ st5 fun b hb o e => (pin7 b o hb e).1) (fun b hb => ?_) (gi_unpin G7))
          obtain ⟨o, e, d⟩ := T.obj _ _ st5 b hb
          exact (pin7 b o hb e).2
        refine hb.run A S (ip ++ pinsAt fp s5.heap) R n ys s₀ _ _ _ _ id id s6 σ6 H6 { D with nx := N, ct := N, bk := D.nx } ⟨gl.pn, ipS, gl.apart, gl.over, gl.split, gl.guard, gl.gd⟩ hn ⟨fun n' ys' s₀' s7 f hn' hs => ?_, fun n' s₀' x s7 hx => ee n' s₀' x s7 hx⟩ ⟨acc, cc, r, I6⟩ q6
        cases f with
        | next => obtain ⟨σ7, H7, I7, n7⟩ := hs; exact again hn' I7 n7
        | cont => obtain ⟨σ7, H7, I7, n7⟩ := hs; exact again hn' I7 n7
        | brk => obtain ⟨σ7, H7, I7, q7⟩ := hs; exact seg_leaf (.ok .next) (k.ok n' ys' s₀' s7 .next hn' ⟨σ7, H7, gi_unpin I7, q7⟩)
        | ret v => obtain ⟨x7, σ7, H7, I7, r7, q7⟩ := hs; exact seg_leaf (.ok (.ret v)) (k.ok n' ys' s₀' s7 (.ret v) hn' ⟨x7, σ7, H7, gi_unpin I7, r7, q7⟩)
  exact loop m0 0 n ys s₀ s2 σ H2 hn w0 st2 (fun b hb => (f2 b hb).1) ⟨acc0, cc0, r0, I2⟩
end
end KA

/-! things with cells that are not said beforehand; own classes whose things change -/
namespace KA
open PySem PySem.Spec PyProof.Rows L2
section
variable {W : List Addr} {Hk0 H0 : Hp} {Γ Γ' : Ctx} {Ω Ω' Ω1 Ω2 Ω3 Ωa Ωb : List Cell} {T T' : Tm} {σ σ' : L2.St} {Hk H : Hp} {K : PySem.W.Frag}
variable {te ta tb td to : TE} {tt tu : TT} {D : Ends} {e e1 e2 e3 : En} {b b2 : Bool} {ts tz tbd : TS} {α β γ : Type} {A : Rp α} {B : Rp β} {xs : List α} {n j : Nat}
/-! ### not said beforehand -/
def EvR (te : TE) (Γ : Ctx) (Ω : List Cell) (R : En → List Cell → Prop) : Prop := ∀ W Hk0 H0 T σ H, At W Hk0 H0 Γ Ω T σ H → ∀ Q : VK, (∀ e Ω' v H', R e Ω' → At W Hk0 H0 Γ Ω' ((e, v) :: T) σ H' → Q v H') → te σ H Q
def EvRA (ta : TA) (Γ : Ctx) (Ω : List Cell) (R : List En → List Cell → Prop) : Prop := ∀ W Hk0 H0 T σ H, At W Hk0 H0 Γ Ω T σ H → ∀ Q : List V → Hp → Prop, (∀ es Ω' vs H', es.length = vs.length → R es Ω' → At W Hk0 H0 Γ Ω' (es.zip vs ++ T) σ H' → Q vs H') → ta σ H Q
theorem Ev.r (h : Ev te Γ Ω e Ω1) : EvR te Γ Ω fun e' Ω' => e' = e ∧ Ω' = Ω1 := fun W Hk0 H0 T σ H a Q q => h W Hk0 H0 T σ H a Q fun v H' a' => q e Ω1 v H' ⟨rfl, rfl⟩ a'
theorem EvR.imp {R R' : En → List Cell → Prop} (h : EvR te Γ Ω R) (k : ∀ e Ω', R e Ω' → R' e Ω') : EvR te Γ Ω R' := fun W Hk0 H0 T σ H a Q q => h W Hk0 H0 T σ H a Q fun e Ω' v H' r a' => q e Ω' v H' (k e Ω' r) a'
theorem era_nil : EvRA tNil Γ Ω fun es Ω' => es = [] ∧ Ω' = Ω := fun W Hk0 H0 T σ H a Q q => q [] Ω [] H rfl ⟨rfl, rfl⟩ a
theorem era_cons {tr : TA} {R1 : En → List Cell → Prop} {R : List En → List Cell → Prop} (h1 : EvR ta Γ Ω R1) (h2 : ∀ e Ω1, R1 e Ω1 → EvRA tr Γ Ω1 fun es Ω' => R (e :: es) Ω') : EvRA (tCons ta tr) Γ Ω R := fun W Hk0 H0 T σ H a Q q =>
  h1 W Hk0 H0 T σ H a _ fun e Ω1 x H1 r1 a1 => h2 e Ω1 r1 W Hk0 H0 _ σ H1 a1 _ fun es Ω' vs H2 hl r2 a2 => q (e :: es) Ω' (x :: vs) H2 (by simp [hl]) r2 (a2.sub fun p hp => by
    simp at hp ⊢
    rcases hp with rfl | hp | hp
    · simp
    · simp [hp]
    · simp [hp])
/-- [x, ..], one's own -/
theorem evr_lst {ta : TA} {es : List En} (xs : List α) (h : EvA ta Γ Ω es Ω1) (hx : es = xs.map (en A) := by rfl) (hl : xs.length ≤ 40000 := by simp) : EvR (tLst ta) Γ Ω fun e Ω' => ∃ p, e = en rVal (.ref p) ∧ Ω' = lc A p xs :: Ω1 := fun W Hk0 H0 T σ H a Q q =>
  h W Hk0 H0 T σ H a _ fun vs H1 hlv ⟨Hk1, a1⟩ => ⟨by rw [← hlv, hx, List.length_map]; exact Nat.le_trans hl (by decide), fun p hp => by
    have o : OkAll es vs Hk1 := .of_zip hlv fun z hz => a1.tp z (by simp [hz])
    have w := (a1.sub (T' := T) fun z hz => by simp [hz]).newCell (c := lc A p xs) (o := .lst vs) hp rfl ⟨vs, rfl, al_of xs hx o⟩
    exact q _ _ _ _ ⟨p, rfl, rfl⟩ ⟨Hk1, w.push rfl⟩⟩
theorem s_setR {i : Nat} {R : En → List Cell → Prop} (a : At W Hk0 H0 Γ Ω T σ H) (h : EvR te Γ Ω R) (k : ∀ e Ω' σ' H', R e Ω' → At W Hk0 H0 (Γ.set i (some e)) Ω' T σ' H' → D.nx σ' H') : tAsg te (gName i) D σ H :=
  h W Hk0 H0 T σ H a _ fun e Ω' v H' r ⟨Hk', a'⟩ => k e Ω' _ H' r ⟨Hk', a'.unpush.set i (a'.tp (e, v) (by simp))⟩
theorem q_setR {i : Nat} {R : En → List Cell → Prop} (a : At W Hk0 H0 Γ Ω T σ H) (h : EvR te Γ Ω R) (k : ∀ e Ω' σ' H', R e Ω' → At W Hk0 H0 (Γ.set i (some e)) Ω' T σ' H' → tz D σ' H') : tSeq (tAsg te (gName i)) tz D σ H := s_setR (D := { D with nx := tz D }) a h k
theorem q_parR {i j : Nat} {ta : TA} {R : List En → List Cell → Prop} (a : At W Hk0 H0 Γ Ω T σ H) (h : EvRA ta Γ Ω R) (hR : ∀ es Ω', R es Ω' → ∃ e1 e2, es = [e1, e2]) (k : ∀ e1 e2 Ω' σ' H', R [e1, e2] Ω' → At W Hk0 H0 ((Γ.set i (some e1)).set j (some e2)) Ω' T σ' H' → tz D σ' H') : tSeq (tPar i j ta) tz D σ H :=
  h W Hk0 H0 T σ H a _ fun es Ω' vs H' hl r ⟨Hk', a'⟩ => by
    obtain ⟨e1, e2, rfl⟩ := hR es Ω' r
    match vs, hl with
    | [x, y], _ => exact ⟨x, y, rfl, k e1 e2 Ω' _ H' r ⟨Hk', ((a'.sub (T' := T) fun z hz => by simp [hz]).set i (a'.tp (e1, x) (by simp))).set j (a'.tp (e2, y) (by simp))⟩⟩
theorem q_par3R {i j l : Nat} {ta : TA} {R : List En → List Cell → Prop} (a : At W Hk0 H0 Γ Ω T σ H) (h : EvRA ta Γ Ω R) (hR : ∀ es Ω', R es Ω' → ∃ e1 e2 e3, es = [e1, e2, e3]) (k : ∀ e1 e2 e3 Ω' σ' H', R [e1, e2, e3] Ω' → At W Hk0 H0 (((Γ.set i (some e1)).set j (some e2)).set l (some e3)) Ω' T σ' H' → tz D σ' H') : tSeq (tPar3 i j l ta) tz D σ H :=
  h W Hk0 H0 T σ H a _ fun es Ω' vs H' hl r ⟨Hk', a'⟩ => by
    obtain ⟨e1, e2, e3, rfl⟩ := hR es Ω' r
    match vs, hl with
    | [x, y, z], _ => exact ⟨x, y, z, rfl, k e1 e2 e3 Ω' _ H' r ⟨Hk', (((a'.sub (T' := T) fun z hz => by simp [hz]).set i (a'.tp (e1, x) (by simp))).set j (a'.tp (e2, y) (by simp))).set l (a'.tp (e3, z) (by simp))⟩⟩
/-! ### cells in another order -/
theorem ev_perm (p : Ω.Perm Ω1) (h : Ev te Γ Ω1 e Ω2) (p2 : Ω2.Perm Ω3) : Ev te Γ Ω e Ω3 := fun W Hk0 H0 T σ H a Q q => h W Hk0 H0 T σ H (a.perm p) Q fun v H' a' => q v H' (a'.perm p2)
theorem eb_perm (p : Ω.Perm Ω1) (h : EvB tt Γ Ω1 b Ω2) (p2 : Ω2.Perm Ω3) : EvB tt Γ Ω b Ω3 := fun W Hk0 H0 T σ H a Q q => h W Hk0 H0 T σ H (a.perm p) Q fun H' a' => q H' (a'.perm p2)
/-! ### defs that are called by an operator, cells lent -/
theorem AtH.callM {S : SigM} {es : List En} {vs : List V} {E : XK} {Q : VK} (a : AtH W Hk0 H0 Γ (Ω1 ++ Ω2) (es.zip vs ++ T) σ Hk H) (hl : es.length = vs.length) (hs : S es Ω1 e Ω') (q : ∀ v H', At W Hk0 H0 Γ (Ω' ++ Ω2) ((e, v) :: T) σ H' → Q v H') : spM S vs H Q E := by
  refine ⟨es, Ω1, e, Ω', Hk, hs, hl, ⟨Hk, { a.lend with tp := fun p hp => a.tp p (by simp [hp]) }⟩, a.gr.kh, fun v H' T' σ' ⟨Hk', b⟩ => ?_⟩
  have b' : AtH (adr Ω1) Hk H [] Ω' ((e, v) :: T') [] Hk' H' := { b with len := rfl, sl := fun i e q => by simp at q }
  refine q v H' ⟨Hk', (a.paid2 b').sub fun p hp => ?_⟩
  simp at hp ⊢
  rcases hp with hp | hp
  · exact .inl hp
  · simp [hp]
theorem AtH.callW {S : SigW} {es : List En} {vs : List V} {E : XK} {Q : VK} {R : En → List Cell → Prop} (a : AtH W Hk0 H0 Γ (Ω1 ++ Ω2) (es.zip vs ++ T) σ Hk H) (hl : es.length = vs.length) (hs : S es Ω1 R) (q : ∀ e Ω' v H', R e Ω' → At W Hk0 H0 Γ (Ω' ++ Ω2) ((e, v) :: T) σ H' → Q v H') : spW S vs H Q E := by
  refine ⟨es, Ω1, R, Hk, hs, hl, ⟨Hk, { a.lend with tp := fun p hp => a.tp p (by simp [hp]) }⟩, a.gr.kh, fun e Ω' v H' T' σ' hR ⟨Hk', b⟩ => ?_⟩
  have b' : AtH (adr Ω1) Hk H [] Ω' ((e, v) :: T') [] Hk' H' := { b with len := rfl, sl := fun i e q => by simp at q }
  refine q e Ω' v H' hR ⟨Hk', (a.paid2 b').sub fun p hp => ?_⟩
  simp at hp ⊢
  rcases hp with hp | hp
  · exact .inl hp
  · simp [hp]
/-- a cell that is an instance -/
def IsC (Cl : Addr) (c : Cell) : Prop := ∀ o H, c.p o H → ∃ dx fs, o = .ins Cl dx fs
theorem AtH.inst {Cl : Addr} {c : Cell} (a : AtH W Hk0 H0 Γ Ω T σ Hk H) (hc : c ∈ Ω) (hi : IsC Cl c) : ∃ dx fs, H c.a = some (.ins Cl dx fs) := by
  obtain ⟨_, ⟨o, h2, h3⟩, _⟩ := a.cl c hc
  obtain ⟨dx, fs, rfl⟩ := hi o Hk h3
  exact ⟨dx, fs, h2⟩
section
variable {S : SigM} {Cl : Addr} {E : XK} {c : Cell} {Ωr : List Cell} {ea : En}
theorem ev_propM (hi : IsC Cl c) (h : Ev ta Γ Ω (en rVal (.ref c.a)) ((c :: Ωr) ++ Ω2)) (hs : S [en rVal (.ref c.a)] (c :: Ωr) e Ω') : Ev (tProp Cl (spM S) [] E ta) Γ Ω e (Ω' ++ Ω2) := fun W Hk0 H0 T σ H a Q q =>
  h W Hk0 H0 T σ H a _ fun v H1 ⟨Hk1, a1⟩ => by
    have hv : v = .ref c.a := a1.tp (en rVal (.ref c.a), v) (by simp)
    subst hv
    obtain ⟨dx, fs, e1⟩ := a1.inst (by simp) hi
    exact ⟨c.a, dx, fs, rfl, e1, a1.callM (es := [en rVal (.ref c.a)]) (vs := [.ref c.a]) (Ω1 := c :: Ωr) rfl hs q⟩
theorem ev_ogetM (hi : IsC Cl c) (h : Ev ta Γ Ω (en rVal (.ref c.a)) Ω1) (hb : Ev tb Γ Ω1 ea ((c :: Ωr) ++ Ω2)) (hs : S [en rVal (.ref c.a), ea] (c :: Ωr) e Ω') : Ev (tOp (rOGet Cl (spM S) [] E) ta tb) Γ Ω e (Ω' ++ Ω2) := fun W Hk0 H0 T σ H a Q q =>
  h W Hk0 H0 T σ H a _ fun v H1 a1 => hb W Hk0 H0 _ σ H1 a1 _ fun u H2 ⟨Hk2, a2⟩ => by
    have hv : v = .ref c.a := a2.tp (en rVal (.ref c.a), v) (by simp)
    subst hv
    obtain ⟨dx, fs, e1⟩ := a2.inst (by simp) hi
    exact ⟨c.a, dx, fs, rfl, e1, AtH.callM (es := [en rVal (.ref c.a), ea]) (vs := [.ref c.a, u]) (Ω1 := c :: Ωr) (a2.sub fun z hz => by simp at hz ⊢; rcases hz with hz | hz | hz <;> simp [hz]) rfl hs q⟩
theorem ev_oinM {k : Bool} (hi : IsC Cl c) (h : Ev ta Γ Ω ea Ω1) (hb : Ev tb Γ Ω1 (en rVal (.ref c.a)) ((c :: Ωr) ++ Ω2)) (hs : S [en rVal (.ref c.a), ea] (c :: Ωr) (en rBool k) Ω') : Ev (tOp (rOIn Cl (spM S) [] E false) ta tb) Γ Ω (en rBool k) (Ω' ++ Ω2) := fun W Hk0 H0 T σ H a Q q =>
  h W Hk0 H0 T σ H a _ fun u H1 a1 => hb W Hk0 H0 _ σ H1 a1 _ fun v H2 ⟨Hk2, a2⟩ => by
    have hv : v = .ref c.a := a2.tp (en rVal (.ref c.a), v) (by simp)
    subst hv
    obtain ⟨dx, fs, e1⟩ := a2.inst (by simp) hi
    refine ⟨c.a, dx, fs, rfl, e1, AtH.callM (T := T) (es := [en rVal (.ref c.a), ea]) (vs := [.ref c.a, u]) (Ω1 := c :: Ωr) (a2.sub fun z hz => by simp at hz ⊢; rcases hz with hz | hz | hz <;> simp [hz]) rfl hs fun v H' ⟨Hk', a'⟩ => ?_⟩
    have e3 : v = .bl k := a'.tp (en rBool k, v) (by simp)
    subst e3
    exact ⟨k, rfl, q _ H' ⟨Hk', a'⟩⟩
theorem ev_olenM {m : Nat} (hi : IsC Cl c) (h : Ev ta Γ Ω (en rVal (.ref c.a)) ((c :: Ωr) ++ Ω2)) (hm : m ≤ 40000) (hs : S [en rVal (.ref c.a)] (c :: Ωr) (en rInt (m : Int)) Ω') : Ev (tCB (rOLen Cl (spM S) [] E) (tCons ta tNil)) Γ Ω (en rInt (m : Int)) (Ω' ++ Ω2) := fun W Hk0 H0 T σ H a Q q =>
  h W Hk0 H0 T σ H a _ fun v H1 ⟨Hk1, a1⟩ => by
    have hv : v = .ref c.a := a1.tp (en rVal (.ref c.a), v) (by simp)
    subst hv
    obtain ⟨dx, fs, e1⟩ := a1.inst (by simp) hi
    refine ⟨c.a, dx, fs, rfl, e1, a1.callM (T := T) (es := [en rVal (.ref c.a)]) (vs := [.ref c.a]) (Ω1 := c :: Ωr) rfl hs fun v H' ⟨Hk', a'⟩ => ?_⟩
    have e3 : v = .int (m : Int) := a'.tp (en rInt (m : Int), v) (by simp)
    subst e3
    exact ⟨_, rfl, by omega, by omega, q _ H' ⟨Hk', a'⟩⟩
theorem ev_oboolM {k : Bool} (hi : IsC Cl c) (h : Ev ta Γ Ω (en rVal (.ref c.a)) ((c :: Ωr) ++ Ω2)) (hs : S [en rVal (.ref c.a)] (c :: Ωr) (en rBool k) Ω') : Ev (tCB (rOBool Cl (spM S) [] E) (tCons ta tNil)) Γ Ω (en rBool k) (Ω' ++ Ω2) := fun W Hk0 H0 T σ H a Q q =>
  h W Hk0 H0 T σ H a _ fun v H1 ⟨Hk1, a1⟩ => by
    have hv : v = .ref c.a := a1.tp (en rVal (.ref c.a), v) (by simp)
    subst hv
    obtain ⟨dx, fs, e1⟩ := a1.inst (by simp) hi
    refine ⟨c.a, dx, fs, rfl, e1, a1.callM (T := T) (es := [en rVal (.ref c.a)]) (vs := [.ref c.a]) (Ω1 := c :: Ωr) rfl hs fun v H' ⟨Hk', a'⟩ => ?_⟩
    have e3 : v = .bl k := a'.tp (en rBool k, v) (by simp)
    subst e3
    exact ⟨k, rfl, q _ H' ⟨Hk', a'⟩⟩
theorem ev_methM {m : Str} {t : TA} {es : List En} (hi : ∀ o H, c.p o H → ∃ dx fs, o = .ins Cl dx fs ∧ fs.lookup m = none) (h : Ev ta Γ Ω (en rVal (.ref c.a)) ((c :: Ωr) ++ Ω2)) (ht : EvA t Γ ((c :: Ωr) ++ Ω2) es ((c :: Ωr) ++ Ω2)) (hs : S (en rVal (.ref c.a) :: es) (c :: Ωr) e Ω') : Ev (tMeth Cl m (spM S) [] E ta t) Γ Ω e (Ω' ++ Ω2) := fun W Hk0 H0 T σ H a Q q =>
  h W Hk0 H0 T σ H a _ fun v H1 a1 => by
    have hv : v = .ref c.a := let ⟨Hk1, a1⟩ := a1; a1.tp (en rVal (.ref c.a), v) (by simp)
    subst hv
    have : ∃ dx fs, H1 c.a = some (.ins Cl dx fs) ∧ fs.lookup m = none := by
      obtain ⟨Hk1, a1⟩ := a1
      obtain ⟨_, ⟨o, h2, h3⟩, _⟩ := a1.cl c (by simp)
      obtain ⟨dx, fs, rfl, hl⟩ := hi o Hk1 h3
      exact ⟨dx, fs, h2, hl⟩
    obtain ⟨dx, fs, e1, hl⟩ := this
    refine ⟨c.a, dx, fs, rfl, e1, hl, ht W Hk0 H0 _ σ H1 a1 _ fun vs H2 hlv ⟨Hk2, a2⟩ => ?_⟩
    rw [List.append_nil]
    exact AtH.callM (es := en rVal (.ref c.a) :: es) (vs := .ref c.a :: vs) (Ω1 := c :: Ωr) (a2.sub fun z hz => by simp at hz ⊢; rcases hz with hz | hz | hz <;> simp [hz]) (by simp [hlv]) hs q
/-- a field of a thing that changes -/
theorem ev_fldC {f : Str} {o' : Unit} (hc : c ∈ Ω1) (h : Ev ta Γ Ω (en rVal (.ref c.a)) Ω1) (hcl : Cls K Cl) (hn : NoAttr K Cl f) (hf : ∀ o H, c.p o H → ∃ dx fs v, o = .ins Cl dx fs ∧ fs.lookup f = some v ∧ e.ok v H) : Ev (tFld K ta f) Γ Ω e Ω1 := fun W Hk0 H0 T σ H a Q q =>
  h W Hk0 H0 T σ H a _ fun v H1 ⟨Hk1, a1⟩ => by
    have hv : v = .ref c.a := a1.tp (en rVal (.ref c.a), v) (by simp)
    subst hv
    obtain ⟨_, ⟨o, h2, h3⟩, _⟩ := a1.cl c hc
    obtain ⟨dx, fs, u, rfl, hl, hu⟩ := hf o Hk1 h3
    exact ⟨c.a, Cl, dx, fs, u, rfl, h2, hcl, hn, hl, q u H1 ⟨Hk1, a1.unpush.push hu⟩⟩
end
/-! ### new things with cells -/
theorem evr_makeW {S : SigW} {Cl : Addr} {E : XK} {t : TA} {es : List En} {R : En → List Cell → Prop} (h : EvA t Γ Ω es Ω1) (hs : ∀ x dx, ∃ R', S (en rVal (.ref x) :: es) [ic Cl x dx []] R' ∧ ∀ e Ω', R' e Ω' → e = en rNon () ∧ R (en rVal (.ref x)) (Ω' ++ Ω1)) : EvR (tMake Cl (spW S) [] E t) Γ Ω R := fun W Hk0 H0 T σ H a Q q =>
  h W Hk0 H0 T σ H a _ fun vs H1 hl ⟨Hk1, a1⟩ x dx hx hdx hne => by
    obtain ⟨R', hS, hR⟩ := hs x dx
    have hx' : upd H1 dx (.own x) x = none := by rw [upd_ne hne.symm]; exact hx
    have b := (a1.extra (o := .own x) hdx).newCell (c := ic Cl x dx []) (o := .ins Cl dx []) hx' rfl rfl
    have b : AtH W Hk0 H0 Γ ([ic Cl x dx []] ++ Ω1) ((en rVal (.ref x) :: es).zip (.ref x :: vs) ++ T) σ Hk1 (upd (upd H1 dx (.own x)) x (.ins Cl dx [])) := b.push rfl
    rw [List.append_nil]
    refine b.callW (by simp [hl]) hS fun e Ω' v H' r ⟨Hk', a'⟩ => ?_
    obtain ⟨rfl, r2⟩ := hR e Ω' r
    have e3 : v = .non := a'.tp (en rNon (), v) (by simp)
    exact ⟨e3, q _ _ _ _ r2 ⟨Hk', a'.unpush.push rfl⟩⟩
/-! ### lists of one's own, wherever they stand -/
theorem perm_mid (Ωa : List Cell) (c : Cell) (Ωb : List Cell) : (Ωa ++ c :: Ωb).Perm (c :: (Ωa ++ Ωb)) := List.perm_middle
theorem At.mid {c : Cell} (a : At W Hk0 H0 Γ (Ωa ++ c :: Ωb) T σ H) : At W Hk0 H0 Γ (c :: (Ωa ++ Ωb)) T σ H := a.perm (perm_mid ..)
theorem At.unmid {c : Cell} (a : At W Hk0 H0 Γ (c :: (Ωa ++ Ωb)) T σ H) : At W Hk0 H0 Γ (Ωa ++ c :: Ωb) T σ H := a.perm (perm_mid ..).symm
/-- o.append(e) -/
theorem s_appM {p : Addr} {xs : List α} {x : α} (a : At W Hk0 H0 Γ Ω T σ H) (ho : Ev to Γ Ω (en rVal (.ref p)) (Ωa ++ lc A p xs :: Ωb)) (hv : Ev te Γ (Ωa ++ lc A p xs :: Ωb) (en A x) (Ωa ++ lc A p xs :: Ωb)) (hl : xs.length ≤ 40000)
    (k : ∀ H', At W Hk0 H0 Γ (Ωa ++ lc A p (xs ++ [x]) :: Ωb) T σ H' → D.nx σ H') : tDrop (tBM K "list" rAppend to (tCons te tNil)) D σ H :=
  ho W Hk0 H0 T σ H a _ fun u H1 a0 => by
    have hu : u = .ref p := let ⟨_, a0⟩ := a0; a0.tp (en rVal (.ref p), u) (by simp)
    subst hu
    have : ∃ vs, H1 p = some (.lst vs) := by
      obtain ⟨Hk, a⟩ := a0
      obtain ⟨_, ⟨o, g2, vs, rfl, al⟩, _⟩ := a.cl (lc A p xs) (by simp)
      exact ⟨vs, g2⟩
    obtain ⟨vs, g2⟩ := this
    refine .inl ⟨rfl, vs, Evl.sq_of g2⟩ |> fun z => ⟨z, hv W Hk0 H0 _ σ H1 a0 _ fun v H2 a1 => ?_⟩
    obtain ⟨acc, e1, e2, a2⟩ := (a1.mid.sub (T' := (en A x, v) :: T) fun z hz => by simp at hz ⊢; rcases hz with hz | hz <;> simp [hz]).append
    exact ⟨p, acc, v, rfl, rfl, e1, by rw [e2]; exact Evl.sz_lt (by omega), k _ a2.unmid⟩
theorem q_appM {p : Addr} {xs : List α} {x : α} (a : At W Hk0 H0 Γ Ω T σ H) (ho : Ev to Γ Ω (en rVal (.ref p)) (Ωa ++ lc A p xs :: Ωb)) (hv : Ev te Γ (Ωa ++ lc A p xs :: Ωb) (en A x) (Ωa ++ lc A p xs :: Ωb)) (hl : xs.length ≤ 40000)
    (k : ∀ H', At W Hk0 H0 Γ (Ωa ++ lc A p (xs ++ [x]) :: Ωb) T σ H' → tz D σ H') : tSeq (tDrop (tBM K "list" rAppend to (tCons te tNil))) tz D σ H := s_appM (D := { D with nx := tz D }) a ho hv hl k
/-- o.pop() -/
theorem ev_popM {p : Addr} {ys : List α} {x : α} (ho : Ev to Γ Ω (en rVal (.ref p)) (Ωa ++ lc A p (ys ++ [x]) :: Ωb)) : Ev (tBM0 K "list" rPop to) Γ Ω (en A x) (Ωa ++ lc A p ys :: Ωb) := fun W Hk0 H0 T σ H a Q q =>
  ho W Hk0 H0 T σ H a _ fun u H1 a0 => by
    have hu : u = .ref p := let ⟨_, a0⟩ := a0; a0.tp (en rVal (.ref p), u) (by simp)
    subst hu
    obtain ⟨Hk, a0⟩ := a0.mid
    obtain ⟨_, ⟨o, g2, vs, rfl, al⟩, _⟩ := a0.cl _ (List.mem_cons_self ..)
    obtain ⟨w, hw, rw'⟩ := al.get (i := ys.length) (x := x) (by simp)
    have hlen : vs.length = ys.length + 1 := by rw [← al.len]; simp
    have al2 : Al A Hk ys vs.dropLast := by
      have := al.take ys.length
      rw [List.take_left] at this
      rw [List.dropLast_eq_take, hlen]
      exact this
    refine ⟨.inl ⟨rfl, vs, Evl.sq_of g2⟩, p, vs, w, rfl, rfl, g2, by rw [hlen]; exact hw, ?_⟩
    have wr := a0.write (c := lc A p (ys ++ [x])) (c' := lc A p ys) (o' := .lst vs.dropLast) rfl ⟨_, rfl, al2⟩
    exact q _ _ (At.unmid ⟨Hk, (wr.unpush).push rw'⟩)
/-- o[-1] -/
theorem ev_lastM {p : Addr} {ys : List α} {x : α} (ho : Ev to Γ Ω (en rVal (.ref p)) Ω1) (hb : Ev tb Γ Ω1 (en rInt (-1)) (Ωa ++ lc A p (ys ++ [x]) :: Ωb)) : Ev (tOp (rIxL K) to tb) Γ Ω (en A x) (Ωa ++ lc A p (ys ++ [x]) :: Ωb) := fun W Hk0 H0 T σ H a Q q =>
  ho W Hk0 H0 T σ H a _ fun u H1 a0 => hb W Hk0 H0 _ σ H1 a0 _ fun i H2 ⟨Hk, a1⟩ => by
    have hu : u = .ref p := a1.tp (en rVal (.ref p), u) (by simp)
    have hi : i = .int (-1) := a1.tp (en rInt (-1), i) (by simp)
    subst hu; subst hi
    obtain ⟨_, ⟨o, g2, vs, rfl, al⟩, _⟩ := a1.cl (lc A p (ys ++ [x])) (by simp)
    obtain ⟨w, hw, rw'⟩ := al.get (i := ys.length) (x := x) (by simp)
    have hlen : vs.length = ys.length + 1 := by rw [← al.len]; simp
    refine ⟨p, vs, -1, w, rfl, rfl, Evl.sq_of g2, ?_, q _ _ ⟨Hk, (a1.sub (T' := T) fun z hz => by simp [hz]).push rw'⟩⟩
    have : vs = vs.take ys.length ++ [w] := by
      apply List.ext_getElem?
      intro m
      by_cases h1 : m < ys.length
      · rw [List.getElem?_append_left (by rw [List.length_take]; omega), List.getElem?_take_of_lt h1]
      · by_cases h3 : m = ys.length
        · subst h3
          rw [List.getElem?_append_right (by rw [List.length_take]; omega), hw, List.length_take, hlen]
          simp
        · rw [List.getElem?_eq_none (by omega), List.getElem?_eq_none (by simp; omega)]
    rw [this]
    exact atI_last _ _
/-- o as a test -/
theorem eb_lstM {p : Addr} {xs : List α} (ho : Ev to Γ Ω (en rVal (.ref p)) (Ωa ++ lc A p xs :: Ωb)) : EvB (tTruK K to) Γ Ω (!xs.isEmpty) (Ωa ++ lc A p xs :: Ωb) := fun W Hk0 H0 T σ H a Q q =>
  ho W Hk0 H0 T σ H a _ fun u H1 ⟨Hk, a1⟩ => by
    have hu : u = .ref p := a1.tp (en rVal (.ref p), u) (by simp)
    subst hu
    obtain ⟨_, ⟨o, g2, vs, rfl, al⟩, _⟩ := a1.cl (lc A p xs) (by simp)
    refine ⟨!xs.isEmpty, .inl ⟨vs, Evl.sq_of g2, ?_⟩, q H1 ⟨Hk, a1.unpush⟩⟩
    cases al <;> rfl
end
/-! ### o.f as a target -/
def gFld (K : PySem.W.Frag) (ta : TE) (f : Str) : TG := fun v σ H Q => ta σ H fun x H2 => ∃ a C dx fs, x = .ref a ∧ H2 a = some (.ins C dx fs) ∧ Cls K C ∧ NoAttr K C f ∧ fs.length < 1000 ∧ Q σ (upd H2 a (.ins C dx (putF f v fs)))
theorem pg_fldT {X : Cx} {o : Expr} {f : Str} {pos : Pos} {ta : TE} (ho : PE X o ta) : PG X (.Attribute o f pos) (gFld X.K ta f) := by
  refine ⟨fun pins s σ H v u Q I r h => ?_⟩
  have core : wpAny (model X.prog X.w) X.A (eval o X.env) (fun ov s2 => wpAny (model X.prog X.w) X.A (setAttr ov f u) (fun _ s' => ∃ σ' H', Inv X pins σ' H' s' ∧ Q σ' H') X.xe s2) X.xe s :=
    wpAny_mono (ho.run pins s σ H _ I h) (fun ov s2 ⟨x, H2, I2, rx, a, C, dx, fs, ex, ea, c, n, l, q2⟩ => by
      subst ex
      obtain rfl : ov = Value.ref a := rx
      exact setattr_ok I2 ea c n l r fun s3 I3 => ⟨σ, _, I3, q2⟩) fun _ _ z => z
  intro Γ p hΓ
  simp only [assign_Attribute, Sem.wp_bind', Sem.wp_holding, Sem.wp_cmd_standAt, Sem.wp_release, Sem.wp_pure']
  exact Sem.wp_mono _ Γ _ (fun ov p₁ s₁ h₁ => h₁ Γ _ hΓ) (fun _ _ _ h' => h') _ _ (core Γ _ hΓ)
end KA

/-! defs that yield -/
namespace KA
open PySem PySem.Spec PyProof.Rows L2 GenW
abbrev SigG := List En → List Cell → List En → List Cell → Prop
def spG (S : SigG) : SpG := fun vs H Q _ => ∃ es Ω outs Ω' Hk, S es Ω outs Ω' ∧ es.length = vs.length ∧ At (adr Ω) Hk H [] Ω (es.zip vs) [] H ∧ Ex Hk H ∧ ∀ ys H' T σ, outs.length = ys.length → At (adr Ω) Hk H [] Ω' (outs.zip ys ++ T) σ H' → Q ys H'
section
variable {W : List Addr} {Hk0 H0 : Hp} {Γ Γ' : Ctx} {Ω Ω' Ω1 Ω2 Ω3 : List Cell} {T T' : Tm} {σ σ' : L2.St} {Hk H : Hp} {K : PySem.W.Frag}
variable {te ta tb td to : TE} {tt : TT} {e e1 e2 : En} {b : Bool} {α : Type} {A : Rp α} {xs : List α} {n : Nat} {D : GEnds} {tu tv tz : TGn} {outs es : List En} {ys : List V}
theorem AtH.callG {S : SigG} {vs : List V} {E : XK} {Q : List V → Hp → Prop} (a : AtH W Hk0 H0 Γ (Ω1 ++ Ω2) (es.zip vs ++ T) σ Hk H) (hl : es.length = vs.length) (hs : S es Ω1 outs Ω') (q : ∀ ys H', outs.length = ys.length → At W Hk0 H0 Γ (Ω' ++ Ω2) (outs.zip ys ++ T) σ H' → Q ys H') : spG S vs H Q E := by
  refine ⟨es, Ω1, outs, Ω', Hk, hs, hl, ⟨Hk, { a.lend with tp := fun p hp => a.tp p (by simp [hp]) }⟩, a.gr.kh, fun ys H' T' σ' hl2 ⟨Hk', b⟩ => ?_⟩
  have b' : AtH (adr Ω1) Hk H [] Ω' (outs.zip ys ++ T') [] Hk' H' := { b with len := rfl, sl := fun i e q => by simp at q }
  refine q ys H' hl2 ⟨Hk', (a.paid2 b').sub fun p hp => ?_⟩
  simp at hp ⊢
  rcases hp with hp | hp
  · exact .inl hp
  · simp [hp]
theorem list_of {xs : List α} {ys : List V} (ho : outs = xs.map (en A)) (hl : outs.length = ys.length) {Q : VK} (a : At W Hk0 H0 Γ Ω (outs.zip ys ++ T) σ H) (q : ∀ v H', At W Hk0 H0 Γ Ω ((en (rList A) xs, v) :: T) σ H' → Q v H') : ∀ p, H p = none → Q (.ref p) (upd H p (.lst ys)) := fun p hp => by
  obtain ⟨Hk, a⟩ := a
  have al : Al A Hk xs ys := al_of xs ho (.of_zip hl fun z hz => a.tp z (by simp [hz]))
  have g : Grow [] Hk H (upd Hk p (.lst ys)) (upd H p (.lst ys)) := Grow.new a.gr.kh hp
  exact q _ _ ⟨_, ((a.grow g).sub (T' := T) fun z hz => by simp [hz]).push (e := en (rList A) xs) ⟨p, ys, rfl, upd_same, al.mono g.kk⟩⟩
/-- list(f(..)) -/
theorem ev_listG {S : SigG} {t : TA} {E : XK} (h : EvA t Γ Ω es (Ω1 ++ Ω2)) (hs : S es Ω1 (xs.map (en A)) Ω') : Ev (tListG (tCallG (spG S) [] E t)) Γ Ω (en (rList A) xs) (Ω' ++ Ω2) := fun W Hk0 H0 T σ H a Q q =>
  h W Hk0 H0 T σ H a _ fun vs H1 hlv ⟨Hk1, a1⟩ => by
    rw [List.append_nil]
    exact a1.callG (Ω1 := Ω1) hlv hs fun ys H' hl a' => list_of rfl hl a' q
/-- list(o.m()) -/
theorem ev_listGM {S : SigG} {Cl : Addr} {m : Str} {E : XK} {c : Cell} {Ωr : List Cell} (hi : ∀ o H, c.p o H → ∃ dx fs, o = .ins Cl dx fs ∧ fs.lookup m = none) (h : Ev ta Γ Ω (en rVal (.ref c.a)) ((c :: Ωr) ++ Ω2)) (hs : S [en rVal (.ref c.a)] (c :: Ωr) (xs.map (en A)) Ω') :
    Ev (tListG (tMethG Cl m (spG S) [] E ta tNil)) Γ Ω (en (rList A) xs) (Ω' ++ Ω2) := fun W Hk0 H0 T σ H a Q q =>
  h W Hk0 H0 T σ H a _ fun v H1 ⟨Hk1, a1⟩ => by
    have hv : v = .ref c.a := a1.tp (en rVal (.ref c.a), v) (by simp)
    subst hv
    obtain ⟨_, ⟨o, h2, h3⟩, _⟩ := a1.cl c (by simp)
    obtain ⟨dx, fs, rfl, hl⟩ := hi o Hk1 h3
    refine ⟨c.a, dx, fs, rfl, h2, hl, (show spG S [.ref c.a] H1 _ E from a1.callG (es := [en rVal (.ref c.a)]) (vs := [.ref c.a]) (Ω1 := c :: Ωr) rfl hs fun ys H' hl a' => list_of rfl hl a' q)⟩
/-! ### the body -/
/-- what is out so far -/
def AtG (W : List Addr) (Hk0 H0 : Hp) (Γ : Ctx) (Ω : List Cell) (T : Tm) (outs : List En) (ys : List V) (σ : L2.St) (H : Hp) : Prop := outs.length = ys.length ∧ At W Hk0 H0 Γ Ω (outs.zip ys ++ T) σ H
theorem y_yield (a : AtG W Hk0 H0 Γ Ω T outs ys σ H) (h : Ev te Γ Ω e Ω1) (hn : outs.length ≤ 40000) (k : ∀ ys' H', AtG W Hk0 H0 Γ Ω1 T (outs ++ [e]) ys' σ H' → D.nx ys' σ H') : tGYield te D ys σ H := by
  obtain ⟨hl, a⟩ := a
  refine ⟨by rw [← hl]; exact Nat.lt_of_le_of_lt hn (by decide), h W Hk0 H0 _ σ H a _ fun v H1 a1 => k _ _ ⟨by simp [hl], a1.sub fun p hp => ?_⟩⟩
  rw [List.zip_append hl] at hp
  simp at hp ⊢
  rcases hp with hp | hp | hp <;> simp [hp]
theorem y_if (a : AtG W Hk0 H0 Γ Ω T outs ys σ H) (h : EvB tt Γ Ω b Ω1) (h1 : b = true → ∀ H', AtG W Hk0 H0 Γ Ω1 T outs ys σ H' → tu D ys σ H') (h2 : b = false → ∀ H', AtG W Hk0 H0 Γ Ω1 T outs ys σ H' → tv D ys σ H') : tGIf tt tu tv D ys σ H :=
  h W Hk0 H0 _ σ H a.2 _ fun H1 a1 => by
    cases b with
    | true => rw [if_pos rfl]; exact h1 rfl H1 ⟨a.1, a1⟩
    | false => rw [if_neg Bool.false_ne_true]; exact h2 rfl H1 ⟨a.1, a1⟩
/-- a loop: outs i u is out after i turns -/
theorem y_forW {ι : Type} {g : TG} {wi : TI} {esI : Nat → En} {vars : List Nat} (mod : List Nat) (cr : Nat → ι → List (Nat × En)) (Ωs : Nat → ι → List Cell) (os : Nat → ι → List En) (I : Nat → ι → Prop) (i0 : ι) (Γt : Nat → ι → Ctx) (a : AtG W Hk0 H0 Γ Ω T outs ys σ H) (h : EvI Any wi Γ Ω n esI Ω1) (hg : ∀ i u, i < n → TgE g (putC (wipeC Γ mod) (cr i u)) (esI i) (Γt i u) vars)
    (h0 : I 0 i0 ∧ outs = os 0 i0 ∧ ∀ T σ H, At W Hk0 H0 Γ Ω1 T σ H → At W Hk0 H0 (putC (wipeC Γ mod) (cr 0 i0)) (Ωs 0 i0) T σ H)
    (hs : ∀ T i u ys σ' H', i < n → I i u → AtG W Hk0 H0 (Γt i u) (Ωs i u) T (os i u) ys σ' H' → tu { D with nx := fun ys σ H => ∃ u', I (i + 1) u' ∧ AtG W Hk0 H0 (putC (wipeC Γ mod) (cr (i + 1) u')) (Ωs (i + 1) u') T (os (i + 1) u') ys σ H, ct := fun ys σ H => ∃ u', I (i + 1) u' ∧ AtG W Hk0 H0 (putC (wipeC Γ mod) (cr (i + 1) u')) (Ωs (i + 1) u') T (os (i + 1) u') ys σ H, bk := D.nx } ys σ' H')
    (hd : ∀ u, I n u → ∀ ys σ' H', AtG W Hk0 H0 (putC (wipeC Γ mod) (cr n u)) (Ωs n u) T (os n u) ys σ' H' → D.nx ys σ' H') : tGFor wi g tu D ys σ H := by
  obtain ⟨hl, a⟩ := a
  obtain ⟨h00, hos, h01⟩ := h0
  subst hos
  refine h W Hk0 H0 _ σ H True.intro a _ fun J T' H1 a1 ⟨G, Y, w, hg2, hy⟩ => ?_
  refine ⟨fun i m ys σ H => m + i = n ∧ ∃ u, I i u ∧ AtG W Hk0 H0 (putC (wipeC Γ mod) (cr i u)) (Ωs i u) (T' ++ T) (os i u) ys σ H, ⟨n, Nat.add_zero n, i0, h00, hl, (h01 _ _ _ a1).sub fun p hp => ?_⟩, ?_⟩
  · simp at hp ⊢
    rcases hp with hp | hp | hp <;> simp [hp]
  rintro i m ys σ H ⟨hm, u, hI, hl2, Hk2, a2⟩
  have hG : G H := hg2 Hk2 H (fun p hp => a2.tp p (by simp [hp])) a2.gr.kh a2.gr.hh
  by_cases hi : i < n
  · refine .inr ⟨w.goes i H hi hG, fun ys' σ' H' => ∃ u', I (i + 1) u' ∧ AtG W Hk0 H0 (putC (wipeC Γ mod) (cr (i + 1) u')) (Ωs (i + 1) u') (T' ++ T) (os (i + 1) u') ys' σ' H', fun ys' σ' H' q => ⟨m - 1, by omega, by omega, q⟩, fun x H3 y => ?_⟩
    obtain ⟨Hk3, g3, ok⟩ := hy i Hk2 H x H3 hi (fun p hp => a2.tp p (by simp [hp])) a2.gr.kh (w.yields i H x H3 hi hG y)
    refine hg i u hi W Hk0 H0 _ (os i u |>.zip ys |> (· ++ (T' ++ T))) σ H3 x ⟨Hk3, (a2.grow g3).push ok⟩ _ fun σ' a3 _ => ?_
    exact hs (T' ++ T) i u ys σ' H3 hi hI ⟨hl2, a3⟩
  · have e : i = n := by omega
    subst e
    exact .inl ⟨w.stops H hG, hd u hI ys σ H ⟨hl2, Hk2, a2.sub fun p hp => by simp at hp ⊢; rcases hp with hp | hp <;> simp [hp]⟩⟩
/-- a statement that yields nothing, then the others -/
theorem y_plain {t : TS} (h : t { nx := fun σ' H' => tz D ys σ' H', rt := D.rt ys, bk := D.bk ys, ct := D.ct ys } σ H) : tGThen (tPlain t) tz D ys σ H := h
end
section
variable {P : Program} {w : World} {K : PySem.W.Frag} {mg : Str → Option Value} {base : Heap}
/-- what a caller needs of a def that yields -/
def GdG (P : Program) (w : World) (K : PySem.W.Frag) (mg : Str → Option Value) (base : Heap) (k : Nat) (f : Addr) (ps : List Str) (sp : SpG) : Prop :=
  ∃ fd, GFn P w K mg base k f fd ps sp ∧ PySem.W.keepIn K (.ref f) = true ∧ Binds K fd ps []
theorem fun_okG {x qual : Str} {params : Arguments} {body : List Stmt} {scope : Scope} {dvs : List V} {kws : List (Str × V)} {f : Addr} {fd : FuncData} {N ps : List Str} {k : Nat} {S : SigG}
    (F : FunD K x qual params body scope dvs kws f fd) (sc : GScope N ps scope) (hl : ∀ es Ω outs Ω', S es Ω outs Ω' → es.length = ps.length)
    (hbody : ∀ (cdv : Value) (A : Around) (outer : List Env) (s : Shared) (H : Hp) (E : XK) (pn : List (Addr × Obj)), Room k (A.deeper (envOfC qual scope s.heap.objs.size f cdv)) →
      ∃ t, GSs (gcxOf P w K mg base N qual scope f cdv A outer s H E pn) body t ∧ ∀ (es : List En) (Ω : List Cell) (outs : List En) (Ω' : List Cell) (vs : List V) (Hk : Hp) (Q : List V → Hp → Prop), S es Ω outs Ω' → AtG (adr Ω) Hk H (es.map some ++ List.replicate (N.length - es.length) none) Ω [] [] [] (L2.start N vs) H →
        (∀ T Γ σ ys H', AtG (adr Ω) Hk H Γ Ω' T outs ys σ H' → Q ys H') → t { nx := fun ys _ H' => Q ys H', rt := fun ys v H' => v = .non ∧ Q ys H' } [] (L2.start N vs) H) :
    GFn P w K mg base (k + 1) f fd ps (spG S) := by
  obtain ⟨oc, od, dV, kV, doc, pm, an, cdv, ct, osl, rfl, lk, hcd, _, _⟩ := F.ex
  refine gfn_of lk hcd sc (fun vs H Q E h => ?_) fun A outer s H vs Q E pn hr h => ?_
  · obtain ⟨es, Ω, outs, Ω', Hk, hs, h1, _⟩ := h
    rw [← h1, hl es Ω outs Ω' hs]
  · obtain ⟨es, Ω, outs, Ω', Hk, hs, h1, a, hk, q⟩ := h
    obtain ⟨t, hp, ht⟩ := hbody cdv A outer s H E pn hr
    have hN : es.length ≤ N.length := by
      rw [hl es Ω outs Ω' hs]
      have := congrArg List.length sc.pre
      rw [List.length_take] at this
      omega
    exact ⟨t, hp, ht es Ω outs Ω' vs Hk Q hs ⟨rfl, at_startM a hk h1 hN⟩ fun T Γ σ ys H' ⟨hl2, Hk', a'⟩ => q ys H' T [] hl2 ⟨Hk', { a' with len := rfl, sl := fun i e z => by simp at z }⟩⟩
end
end KA

/-! desks -/
namespace KA
open PySem PySem.Spec PyProof.Rows L2 GenW
open He (ga ma)
abbrev noX : XK := fun _ _ _ => False
theorem passF {X : Cx} : Passes (CX X.prog X.w) X noX := fun _ _ _ _ _ _ _ h => by
  obtain ⟨a, B, H', cls, d, _, _, _, _, _, _, _, hW⟩ := h
  exact hW.elim
theorem nsF {K : PySem.W.Frag} : NoStop K noX := fun _ _ _ h => h.elim
section
variable {W : List Addr} {Hk0 H0 : Hp} {Γ Γ' : Ctx} {Ω Ω' Ω1 Ω2 Ω3 Ωr : List Cell} {T T' : Tm} {σ σ' : L2.St} {Hk H : Hp} {K : PySem.W.Frag}
variable {te ta tb td to : TE} {tt tu : TT} {D : Ends} {e e1 e2 e3 ea : En} {ts tz tbd : TS} {α β γ : Type} {A : Rp α} {B : Rp β} {xs : List α} {n j : Nat} {Cl : Addr} {E : XK} {c : Cell} {S : SigM}
/-! ### one cell, lent and left as it was -/
theorem ev_propC (hi : IsC Cl c) (h : Ev ta Γ Ω (en rVal (.ref c.a)) (c :: Ωr)) (hs : S [en rVal (.ref c.a)] [c] e [c]) : Ev (tProp Cl (spM S) [] E ta) Γ Ω e (c :: Ωr) := ev_propM (Ωr := []) (Ω2 := Ωr) hi h hs
theorem ev_ogetC (hi : IsC Cl c) (h : Ev ta Γ Ω (en rVal (.ref c.a)) Ω1) (hb : Ev tb Γ Ω1 ea (c :: Ωr)) (hs : S [en rVal (.ref c.a), ea] [c] e [c]) : Ev (tOp (rOGet Cl (spM S) [] E) ta tb) Γ Ω e (c :: Ωr) := ev_ogetM (Ωr := []) (Ω2 := Ωr) hi h hb hs
theorem ev_oinC {k : Bool} (hi : IsC Cl c) (h : Ev ta Γ Ω ea Ω1) (hb : Ev tb Γ Ω1 (en rVal (.ref c.a)) (c :: Ωr)) (hs : S [en rVal (.ref c.a), ea] [c] (en rBool k) [c]) : Ev (tOp (rOIn Cl (spM S) [] E false) ta tb) Γ Ω (en rBool k) (c :: Ωr) := ev_oinM (Ωr := []) (Ω2 := Ωr) hi h hb hs
theorem ev_olenC {m : Nat} (hi : IsC Cl c) (h : Ev ta Γ Ω (en rVal (.ref c.a)) (c :: Ωr)) (hm : m ≤ 40000) (hs : S [en rVal (.ref c.a)] [c] (en rInt (m : Int)) [c]) : Ev (tCB (rOLen Cl (spM S) [] E) (tCons ta tNil)) Γ Ω (en rInt (m : Int)) (c :: Ωr) := ev_olenM (Ωr := []) (Ω2 := Ωr) hi h hm hs
theorem ev_oboolC {k : Bool} (hi : IsC Cl c) (h : Ev ta Γ Ω (en rVal (.ref c.a)) (c :: Ωr)) (hs : S [en rVal (.ref c.a)] [c] (en rBool k) [c]) : Ev (tCB (rOBool Cl (spM S) [] E) (tCons ta tNil)) Γ Ω (en rBool k) (c :: Ωr) := ev_oboolM (Ωr := []) (Ω2 := Ωr) hi h hs
theorem ev_listGC {S : SigG} {m : Str} (hi : ∀ o H, c.p o H → ∃ dx fs, o = .ins Cl dx fs ∧ fs.lookup m = none) (h : Ev ta Γ Ω (en rVal (.ref c.a)) (c :: Ωr)) (hs : S [en rVal (.ref c.a)] [c] (xs.map (en A)) [c]) : Ev (tListG (tMethG Cl m (spG S) [] E ta tNil)) Γ Ω (en (rList A) xs) (c :: Ωr) := ev_listGM (Ωr := []) (Ω2 := Ωr) hi h hs
/-! ### a desk: its own cell; the steps stand in a list beside it -/
abbrev cD (K : PySem.W.Frag) : Addr := ga K "Desk"
abbrev rStep (K : PySem.W.Frag) : Rp (Str × List Int) := rPair K rStr (rTupL K rInt)
def dkC (K : PySem.W.Frag) (d dx p : Addr) (m : List (Str × Jb)) (xs : List Int) : Cell :=
  ⟨d, fun o H => ∃ v1 v2, o = .ins (cD K) dx [("_timetable", v1), ("_shifts", v2), ("_steps", .ref p)] ∧ (rTab K).r m v1 H ∧ (rTupL K rInt).r xs v2 H, fun k ⟨v1, v2, h1, h2, h3⟩ => ⟨v1, v2, h1, (rTab K).mono k h2, (rTupL K rInt).mono k h3⟩⟩
def dk1 (K : PySem.W.Frag) (d dx : Addr) (m : List (Str × Jb)) : Cell :=
  ⟨d, fun o H => ∃ v1, o = .ins (cD K) dx [("_timetable", v1)] ∧ (rTab K).r m v1 H, fun k ⟨v1, h1, h2⟩ => ⟨v1, h1, (rTab K).mono k h2⟩⟩
def dk2 (K : PySem.W.Frag) (d dx : Addr) (m : List (Str × Jb)) (xs : List Int) : Cell :=
  ⟨d, fun o H => ∃ v1 v2, o = .ins (cD K) dx [("_timetable", v1), ("_shifts", v2)] ∧ (rTab K).r m v1 H ∧ (rTupL K rInt).r xs v2 H, fun k ⟨v1, v2, h1, h2, h3⟩ => ⟨v1, v2, h1, (rTab K).mono k h2, (rTupL K rInt).mono k h3⟩⟩
variable {d dx p : Addr} {m : List (Str × Jb)} {zs : List Int}
theorem isDsk : IsC (cD K) (dkC K d dx p m zs) := fun o H ⟨v1, v2, h, _⟩ => ⟨dx, _, h⟩
theorem isDskM {x : Str} (h : (x == ("_timetable" : Str)) = false ∧ (x == ("_shifts" : Str)) = false ∧ (x == ("_steps" : Str)) = false := by decide) : ∀ o H, (dkC K d dx p m zs).p o H → ∃ dx fs, o = .ins (cD K) dx fs ∧ fs.lookup x = none := fun o H ⟨v1, v2, h2, _⟩ => by
  obtain ⟨q1, q2, q3⟩ := h
  refine ⟨dx, _, h2, ?_⟩
  simp only [List.lookup_cons, List.lookup_nil, q1, q2, q3]
theorem ev_dkT (h : Ev ta Γ Ω (en rVal (.ref d)) (dkC K d dx p m zs :: Ωr)) (hcl : Cls K (cD K)) (hn : NoAttr K (cD K) "_timetable") : Ev (tFld K ta "_timetable") Γ Ω (en (rTab K) m) (dkC K d dx p m zs :: Ωr) :=
  ev_fldC (o' := ()) (c := dkC K d dx p m zs) (by simp) h hcl hn fun o H ⟨v1, v2, h1, h2, h3⟩ => ⟨dx, _, v1, h1, rfl, h2⟩
theorem ev_dkS (h : Ev ta Γ Ω (en rVal (.ref d)) (dkC K d dx p m zs :: Ωr)) (hcl : Cls K (cD K)) (hn : NoAttr K (cD K) "_shifts") : Ev (tFld K ta "_shifts") Γ Ω (en (rTupL K rInt) zs) (dkC K d dx p m zs :: Ωr) :=
  ev_fldC (o' := ()) (c := dkC K d dx p m zs) (by simp) h hcl hn fun o H ⟨v1, v2, h1, h2, h3⟩ => ⟨dx, _, v2, h1, rfl, h3⟩
theorem ev_dkP (h : Ev ta Γ Ω (en rVal (.ref d)) (dkC K d dx p m zs :: Ωr)) (hcl : Cls K (cD K)) (hn : NoAttr K (cD K) "_steps") : Ev (tFld K ta "_steps") Γ Ω (en rVal (.ref p)) (dkC K d dx p m zs :: Ωr) :=
  ev_fldC (o' := ()) (c := dkC K d dx p m zs) (by simp) h hcl hn fun o H ⟨v1, v2, h1, h2, h3⟩ => ⟨dx, _, .ref p, h1, rfl, rfl⟩
/-- self._shifts = .. -/
theorem s_dkS {ys : List Int} {tv : TE} (a : At W Hk0 H0 Γ (dkC K d dx p m zs :: Ω) T σ H) (hv : Ev tv Γ (dkC K d dx p m zs :: Ω) (en (rTupL K rInt) ys) (dkC K d dx p m zs :: Ω)) (ho : Ev to Γ (dkC K d dx p m zs :: Ω) (en rVal (.ref d)) (dkC K d dx p m zs :: Ω)) (hcl : Cls K (cD K)) (hn : NoAttr K (cD K) "_shifts")
    (k : ∀ H', At W Hk0 H0 Γ (dkC K d dx p m ys :: Ω) T σ H' → D.nx σ H') : sFld K to tv "_shifts" D σ H :=
  s_fld (c' := dkC K d dx p m ys) (p := d) (dx := dx) (fs := []) a hv ho hcl hn rfl rfl (fun o Hk ⟨v1, v2, h1, h2, h3⟩ => ⟨_, h1, by simp, fun y hy => ⟨v1, y, rfl, h2, hy⟩⟩) k
theorem q_dkS {ys : List Int} {tv : TE} (a : At W Hk0 H0 Γ (dkC K d dx p m zs :: Ω) T σ H) (hv : Ev tv Γ (dkC K d dx p m zs :: Ω) (en (rTupL K rInt) ys) (dkC K d dx p m zs :: Ω)) (ho : Ev to Γ (dkC K d dx p m zs :: Ω) (en rVal (.ref d)) (dkC K d dx p m zs :: Ω)) (hcl : Cls K (cD K)) (hn : NoAttr K (cD K) "_shifts")
    (k : ∀ H', At W Hk0 H0 Γ (dkC K d dx p m ys :: Ω) T σ H' → tz D σ H') : tSeq (sFld K to tv "_shifts") tz D σ H := s_dkS (D := { D with nx := tz D }) a hv ho hcl hn k
/-- the first two fields of a new desk -/
theorem q_dk1 {tv : TE} (a : At W Hk0 H0 Γ (ic (cD K) d dx [] :: Ω) T σ H) (hv : Ev tv Γ (ic (cD K) d dx [] :: Ω) (en (rTab K) m) (ic (cD K) d dx [] :: Ω)) (ho : Ev to Γ (ic (cD K) d dx [] :: Ω) (en rVal (.ref d)) (ic (cD K) d dx [] :: Ω)) (hcl : Cls K (cD K)) (hn : NoAttr K (cD K) "_timetable")
    (k : ∀ H', At W Hk0 H0 Γ (dk1 K d dx m :: Ω) T σ H' → tz D σ H') : tSeq (sFld K to tv "_timetable") tz D σ H :=
  s_fld (D := { D with nx := tz D }) (c' := dk1 K d dx m) (p := d) (dx := dx) (fs := []) a hv ho hcl hn rfl rfl (fun o Hk h => ⟨_, h, by simp, fun y hy => ⟨y, rfl, hy⟩⟩) k
theorem q_dk2 {tv : TE} (a : At W Hk0 H0 Γ (dk1 K d dx m :: Ω) T σ H) (hv : Ev tv Γ (dk1 K d dx m :: Ω) (en (rTupL K rInt) zs) (dk1 K d dx m :: Ω)) (ho : Ev to Γ (dk1 K d dx m :: Ω) (en rVal (.ref d)) (dk1 K d dx m :: Ω)) (hcl : Cls K (cD K)) (hn : NoAttr K (cD K) "_shifts")
    (k : ∀ H', At W Hk0 H0 Γ (dk2 K d dx m zs :: Ω) T σ H' → tz D σ H') : tSeq (sFld K to tv "_shifts") tz D σ H :=
  s_fld (D := { D with nx := tz D }) (c' := dk2 K d dx m zs) (p := d) (dx := dx) (fs := []) a hv ho hcl hn rfl rfl (fun o Hk ⟨v1, h1, h2⟩ => ⟨_, h1, by simp, fun y hy => ⟨v1, y, rfl, h2, hy⟩⟩) k
/-- self._steps = [] -/
theorem s_dk3 (a : At W Hk0 H0 Γ (dk2 K d dx m zs :: Ω) T σ H) (ho : ∀ Ω, Ev to Γ Ω (en rVal (.ref d)) Ω) (hcl : Cls K (cD K)) (hn : NoAttr K (cD K) "_steps")
    (k : ∀ p H', At W Hk0 H0 Γ (dkC K d dx p m zs :: lc (rStep K) p [] :: Ω) T σ H' → D.nx σ H') : sFld K to (tLst tNil) "_steps" D σ H :=
  (evr_lst (A := rStep K) [] ea_nil) W Hk0 H0 T σ H a _ fun e Ω' v H1 ⟨p, e1, e2⟩ a1 => by
    subst e1; subst e2
    have hv : v = .ref p := let ⟨_, a1⟩ := a1; a1.tp (en rVal (.ref p), v) (by simp)
    subst hv
    refine ho _ W Hk0 H0 _ σ H1 a1 _ fun u H2 a2 => ?_
    obtain ⟨Hk2, a2⟩ := a2.swap
    have hu : u = .ref d := a2.tp (en rVal (.ref d), u) (by simp)
    subst hu
    obtain ⟨_, ⟨o, g2, g3⟩, _⟩ := a2.cl _ (List.mem_cons_self ..)
    obtain ⟨v1, v2, rfl, h2, h3⟩ := g3
    have w := (a2.sub (T' := T) fun z hz => by simp [hz]).write (c := dk2 K d dx m zs) (c' := dkC K d dx p m zs) (o' := .ins (cD K) dx [("_timetable", v1), ("_shifts", v2), ("_steps", .ref p)]) rfl ⟨v1, v2, rfl, h2, h3⟩
    exact ⟨d, cD K, dx, _, rfl, g2, hcl, hn, by simp, k p _ ⟨Hk2, w⟩⟩
/-- name, self._shifts = e -/
theorem q_popS {x : Str} {ys : List Int} {i : Nat} (a : At W Hk0 H0 Γ Ω T σ H) (h : Ev te Γ Ω (en (rStep K) (x, ys)) (dkC K d dx p m zs :: Ωr)) (ho : ∀ Ω, Ev to (Γ.set i (some (en rStr x))) Ω (en rVal (.ref d)) Ω) (hcl : Cls K (cD K)) (hn : NoAttr K (cD K) "_shifts")
    (k : ∀ σ' H', At W Hk0 H0 (Γ.set i (some (en rStr x))) (dkC K d dx p m ys :: Ωr) T σ' H' → tz D σ' H') : tSeq (tAsg te (gTup K 2 (gCons (gName i) (gCons (gFld K to "_shifts") gNil)))) tz D σ H :=
  h W Hk0 H0 T σ H a _ fun v H1 ⟨Hk1, a1⟩ => by
    obtain ⟨t, v1, v2, rfl, ht, h1, h2⟩ := (show (rStep K).r (x, ys) v Hk1 from a1.tp (en (rStep K) (x, ys), v) (by simp))
    refine ⟨t, [v1, v2], rfl, ex_t a1.gr.kh ht, rfl, v1, [v2], rfl, v2, [], rfl, ?_⟩
    have b := ((a1.unpush).push (e := en (rTupL K rInt) ys) h2).set (e := en rStr x) i h1
    refine ho _ W Hk0 H0 _ _ H1 ⟨Hk1, b⟩ _ fun u H2 ⟨Hk2, a2⟩ => ?_
    have hu : u = .ref d := a2.tp (en rVal (.ref d), u) (by simp)
    have hv2 : (rTupL K rInt).r ys v2 Hk2 := a2.tp (en (rTupL K rInt) ys, v2) (by simp)
    subst hu
    obtain ⟨_, ⟨o, g2, w1, w2, rfl, g3, g4⟩, _⟩ := a2.cl _ (List.mem_cons_self ..)
    have w := (a2.sub (T' := T) fun z hz => by simp [hz]).write (c := dkC K d dx p m zs) (c' := dkC K d dx p m ys) (o' := .ins (cD K) dx [("_timetable", w1), ("_shifts", v2), ("_steps", .ref p)]) rfl ⟨w1, v2, rfl, g3, hv2⟩
    exact ⟨d, cD K, dx, _, rfl, g2, hcl, hn, by simp, rfl, k _ _ ⟨Hk2, w⟩⟩
end
end KA

/-! names can be compared; shifted rows by their place -/
namespace KA
open PySem PySem.Spec PyProof.Rows L2 GenW
theorem nm_good {z : Str} (h : isNm z = true) : (PyData.str z).canLay0 = true := by
  unfold isNm at h
  rw [Bool.and_eq_true] at h
  have ha := h.2
  have hs : ∀ c ∈ letters.cps.toList, c < 1114112 := by decide +kernel
  show PyData.strOk z = true
  unfold PyData.strOk
  rw [← Array.all_toList, List.all_eq_true] at *
  intro c hc
  have h2 : c ∈ letters.cps.toList := of_decide_eq_true (ha c hc)
  exact decide_eq_true (hs c h2)
theorem nms_good {K : PySem.W.Frag} {m : List (Str × Jb)} (h : TbOk m) : (datL (datS (K := K))).good (m.map fun p : Str × Jb => p.1) = true := List.all_eq_true.mpr fun z hz => by
  obtain ⟨p, hp, rfl⟩ := List.mem_map.mp hz
  exact nm_good (h.nm p hp)
theorem runAt_good {K : PySem.W.Frag} {m : List (Str × Jb)} (h : TbOk m) (t : Int) : (datL (datS (K := K))).good (runAt m t) = true := List.all_eq_true.mpr fun z hz => by
  obtain ⟨p, hp, rfl⟩ := List.mem_map.mp hz
  exact nm_good (h.nm p (List.mem_filter.mp hp).1)
theorem ints_good {K : PySem.W.Frag} (xs : List Int) : (datT (datI (K := K))).good xs = true := List.all_eq_true.mpr fun _ _ => rfl
theorem intsL_good {K : PySem.W.Frag} (xs : List Int) : (datL (datI (K := K))).good xs = true := List.all_eq_true.mpr fun _ _ => rfl
theorem shiftT_getD {m : List (Str × Jb)} {xs : List Int} {i : Nat} (h : i < m.length) : (shiftT m xs).getD i default = ((m.getD i default).1, (m.getD i default).2.shift (xs.getD i default)) := by
  unfold shiftT
  rw [List.getD_eq_getElem?_getD, List.getElem?_map, List.getElem?_range h]
  rfl
theorem take_succD {α : Type} [Inhabited α] {xs : List α} {i : Nat} (h : i < xs.length) : xs.take (i + 1) = xs.take i ++ [xs.getD i default] := by
  rw [List.take_succ, KA.getD_at h]
  rfl
theorem pairsV_G (zs : List Str) : pairsV zs = pairsG zs := rfl
theorem rgc6 {hi : Int} (h : 1 ≤ hi ∧ hi ≤ 24) : RgC 0 hi 6 (Builtin.Range.rangeSize 0 hi 6).toNat := by
  have : ∀ n : Nat, n < 25 → 1 ≤ n → ((6 : Int) ≠ 0 ∧ (6 : Int).natAbs < 1073741824 ∧ Builtin.Range.small 0 (n : Int) 6 = true ∧ Builtin.Range.rangeSize 0 (n : Int) 6 = ((Builtin.Range.rangeSize 0 (n : Int) 6).toNat : Int)) := by decide
  have := this hi.toNat (by omega) (by omega)
  rw [Int.toNat_of_nonneg (by omega)] at this
  exact this
/-- a name not among the first i -/
theorem no_before {α : Type} [Inhabited α] {m : List (Str × α)} (nd : (m.map (·.1)).Nodup) {i : Nat} (hi : i < m.length) : (m.take i).lookup (m.getD i default).1 = none := lookup_no fun q hq e => by
  obtain ⟨k, hk, h2⟩ := List.getElem_of_mem hq
  rw [List.length_take] at hk
  have hki : k < i := by omega
  refine nodup_getD nd hki hi ?_
  rw [← e, ← h2, List.getElem_take, List.getD_eq_getElem?_getD, List.getElem?_eq_getElem (by omega)]
  rfl
section
variable {W : List Addr} {Hk0 H0 : Hp} {Γ Γ' : Ctx} {Ω Ω' Ω1 Ω2 Ω3 Ωa Ωb : List Cell} {T T' : Tm} {σ σ' : L2.St} {Hk H : Hp} {K : PySem.W.Frag}
variable {te ta tb td to : TE} {tt tu : TT} {D : Ends} {e e1 e2 e3 : En} {b b2 : Bool} {ts tz tbd : TS} {α β γ : Type} {A : Rp α} {B : Rp β} {xs : List α} {c0 c1 c2 c1' c2' : Cell}
/-- name = [..] over a dict -/
theorem s_setLS {m : List (Str × α)} {i : Nat} (a : At W Hk0 H0 Γ Ω T σ H) (hl : Dloc td Γ A m) (h : EvX (Lkd td A m) te Γ Ω e Ω1) (k : ∀ σ' H', At W Hk0 H0 (Γ.set i (some e)) Ω1 T σ' H' → D.nx σ' H') : tLockS (tAsg te (gName i)) D σ H := by
  obtain ⟨Hk, a⟩ := a
  obtain ⟨d, kvs, hd, al, ht⟩ := hl W Hk0 H0 Ω T σ Hk H a
  have hdH : Rd H d (.dK kvs) := a.gr.kh.dK hd
  have hk : Hk d ≠ none := by rcases hd with hd | ⟨_, hd⟩ <;> (rw [hd]; intro z; cases z)
  have hw : d ∉ wide W Ω := fun w => hk (a.here.ww d w).2
  rcases hdH with hdH | ⟨o, hdH⟩
  · refine .inl ⟨d, .dK kvs, hdH, True.intro, fun od => ?_⟩
    have b := a.lock (od := od) hdH True.intro hk
    refine h _ _ _ _ _ _ ⟨d, od, kvs, hw, upd_same, al, ht⟩ ⟨Hk, b⟩ _ fun v H' ⟨Hk', b'⟩ => ?_
    obtain ⟨e1, e2⟩ := a.unlock (od := od) hdH True.intro hk (b'.unpush.set i (b'.tp (e, v) (by simp)))
    exact ⟨e1, k _ _ ⟨Hk', e2⟩⟩
  · exact .inr (h _ _ _ _ _ _ ⟨d, o, kvs, hw, hdH, al, ht⟩ ⟨Hk, a.here⟩ _ fun v H' ⟨Hk', b'⟩ => k _ _ ⟨Hk', a.back (b'.unpush.set i (b'.tp (e, v) (by simp)))⟩)
theorem q_setLS {m : List (Str × α)} {i : Nat} (a : At W Hk0 H0 Γ Ω T σ H) (hl : Dloc td Γ A m) (h : EvX (Lkd td A m) te Γ Ω e Ω1) (k : ∀ σ' H', At W Hk0 H0 (Γ.set i (some e)) Ω1 T σ' H' → tz D σ' H') : tSeq (tLockS (tAsg te (gName i))) tz D σ H := s_setLS (D := { D with nx := tz D }) a hl h k
/-! ### behind another cell -/
theorem ev_sk1 (h : Ev te Γ (c1 :: c0 :: Ω) e Ω3) (hΩ : Ω3 = c1' :: c0 :: Ω' := by rfl) : Ev te Γ (c0 :: c1 :: Ω) e (c0 :: c1' :: Ω') := by subst hΩ; exact ev_perm (List.Perm.swap _ _ _) h (List.Perm.swap _ _ _)
theorem eb_sk1 (h : EvB tt Γ (c1 :: c0 :: Ω) b Ω3) (hΩ : Ω3 = c1' :: c0 :: Ω' := by rfl) : EvB tt Γ (c0 :: c1 :: Ω) b (c0 :: c1' :: Ω') := by subst hΩ; exact eb_perm (List.Perm.swap _ _ _) h (List.Perm.swap _ _ _)
theorem perm3 : (c0 :: c1 :: c2 :: Ω).Perm (c1 :: c2 :: c0 :: Ω) := (List.Perm.swap _ _ _).trans (.cons _ (List.Perm.swap _ _ _))
theorem ev_sk2 (h : Ev te Γ (c1 :: c2 :: c0 :: Ω) e Ω3) (hΩ : Ω3 = c1' :: c2' :: c0 :: Ω' := by rfl) : Ev te Γ (c0 :: c1 :: c2 :: Ω) e (c0 :: c1' :: c2' :: Ω') := by subst hΩ; exact ev_perm perm3 h perm3.symm
theorem eb_sk2 (h : EvB tt Γ (c1 :: c2 :: c0 :: Ω) b Ω3) (hΩ : Ω3 = c1' :: c2' :: c0 :: Ω' := by rfl) : EvB tt Γ (c0 :: c1 :: c2 :: Ω) b (c0 :: c1' :: c2' :: Ω') := by subst hΩ; exact eb_perm perm3 h perm3.symm
theorem era_end {R : List En → List Cell → Prop} (h : R [] Ω) : EvRA tNil Γ Ω R := fun W Hk0 H0 T σ H a Q q => q [] Ω [] H rfl h a
/-- a method that changes the thing and one cell of its own -/
theorem ev_meth2 {S : SigM} {Cl : Addr} {E : XK} {m : Str} {t : TA} {es : List En} (hi : ∀ o H, c1.p o H → ∃ dx fs, o = .ins Cl dx fs ∧ fs.lookup m = none) (h : Ev ta Γ Ω (en rVal (.ref c1.a)) (c1 :: c2 :: Ω2)) (ht : EvA t Γ (c1 :: c2 :: Ω2) es (c1 :: c2 :: Ω2)) (hs : S (en rVal (.ref c1.a) :: es) [c1, c2] e [c1', c2']) : Ev (tMeth Cl m (spM S) [] E ta t) Γ Ω e (c1' :: c2' :: Ω2) :=
  ev_methM (Ωr := [c2]) (Ω2 := Ω2) (Ω' := [c1', c2']) hi h ht hs
/-- o[i] of a list of one's own -/
theorem ev_ixM {p : Addr} {x : α} {i : Int} (hi0 : 0 ≤ i) (hx : xs[i.toNat]? = some x) (ho : Ev to Γ Ω (en rVal (.ref p)) Ω1) (hb : Ev tb Γ Ω1 (en rInt i) (Ωa ++ lc A p xs :: Ωb)) : Ev (tOp (rIxL K) to tb) Γ Ω (en A x) (Ωa ++ lc A p xs :: Ωb) := fun W Hk0 H0 T σ H a Q q =>
  ho W Hk0 H0 T σ H a _ fun u H1 a0 => hb W Hk0 H0 _ σ H1 a0 _ fun z H2 ⟨Hk, a1⟩ => by
    have hu : u = .ref p := a1.tp (en rVal (.ref p), u) (by simp)
    have hz : z = .int i := a1.tp (en rInt i, z) (by simp)
    subst hu; subst hz
    obtain ⟨_, ⟨o, g2, vs, rfl, al⟩, _⟩ := a1.cl (lc A p xs) (by simp)
    obtain ⟨w, hw, rw'⟩ := al.get hx
    refine ⟨p, vs, i, w, rfl, rfl, Evl.sq_of g2, ?_, q _ _ ⟨Hk, (a1.sub (T' := T) fun z hz => by simp [hz]).push rw'⟩⟩
    have := atI_nat (j := i.toNat) hw
    rwa [Int.toNat_of_nonneg hi0] at this
/-- o != [] -/
theorem ev_neM {p : Addr} [DecidableEq α] (d : Dat K A) (hg : (datL d).good xs = true) (hd : d.dep + 1 ≤ 64) (ho : Ev to Γ Ω (en rVal (.ref p)) (Ωa ++ lc A p xs :: Ωb)) : Ev (tOp (rNeD K) to (tLst tNil)) Γ Ω (en rBool (!decide (xs = []))) (Ωa ++ lc A p xs :: Ωb) := fun W Hk0 H0 T σ H a Q q =>
  ho W Hk0 H0 T σ H a _ fun u H1 ⟨Hk, a⟩ => by
    have hu : u = .ref p := a.tp (en rVal (.ref p), u) (by simp)
    subst hu
    obtain ⟨_, ⟨o, g2, vs, rfl, al⟩, _⟩ := a.cl (lc A p xs) (by simp)
    refine ⟨Nat.zero_le _, fun r hr => ?_⟩
    have hne : p ≠ r := ne_of_none g2 hr
    have hp : upd H1 r (.lst []) p = some (.lst vs) := by rw [upd_ne hne]; exact g2
    have e1 : Dp K (upd H1 r (.lst [])) (.ref p) (.list (xs.map d.enc)) := (datL (K := K) d).dp (x := xs) ⟨p, _, rfl, hp, al.mono (a.gr.kh.trans (Ex.new hr))⟩
    have e2 : Dp K (upd H1 r (.lst [])) (.ref r) (.list (([] : List α).map d.enc)) := (datL (K := K) d).dp (x := []) ⟨r, _, rfl, upd_same, .nil⟩
    have dep : ∀ xs : List α, (PyData.list (xs.map d.enc)).depth ≤ 64 := fun xs => Nat.le_trans ((datL (K := K) d).dle xs) hd
    refine ⟨_, _, e1, e2, Bool.and_eq_true_iff.mpr ⟨(datL (K := K) d).lay xs hg, decide_eq_true (dep _)⟩, Bool.and_eq_true_iff.mpr ⟨(datL (K := K) d).lay [] rfl, decide_eq_true (dep [])⟩, q _ _ ⟨_, (a.unpush.grow (Grow.new (W := []) (o := .lst []) a.gr.kh hr)).push (e := en rBool (!decide (xs = []))) (show V.bl _ = V.bl _ from ?_)⟩⟩
    congr 2
    rw [Bool.eq_iff_iff, decide_eq_true_eq]
    exact (datL (K := K) d).inj xs []
end
end KA

/-! exceptions -/
namespace KA
open PySem PySem.Spec PyProof.Rows L2 GenW
open He (ga ma eqO eqO_ok)
/-- an own class of exceptions without an __init__ of its own -/
structure ExO (K : PySem.W.Frag) (C : Addr) : Prop where
  q : PySem.W.excIn K C veL "ValueError.__new__" = true
  kp : PySem.W.keepIn K (.ref C) = true
  sb : PySem.W.subIn K (.ref C) (.type "BaseException") = some true
  ty : PySem.W.typeIn K (.ref C) = some (.type "type")
theorem exo_is {K : PySem.W.Frag} {x : Str} (c : fExO x K = true) : ExO K (ga K x) := by
  obtain ⟨c1, c⟩ := He.ba c
  obtain ⟨c2, c⟩ := He.ba c
  obtain ⟨c3, c4⟩ := He.ba c
  exact ⟨c1, c2, of_decide_eq_true c3, of_decide_eq_true c4⟩
theorem exm_is {K : PySem.W.Frag} {x y : Str} {b : Bool} (c : fExm x y b K = true) : PySem.W.exmOne K (.ref (ga K x)) (.ref (ga K y)) = some b := of_decide_eq_true c
/-! ### defs that raise -/
/-- it raises an exception of that class, without fields; the cells behind -/
abbrev SigR := List En → List Cell → Addr → List Cell → Prop
def spR (S : SigR) : Sp := fun vs H _ E => ∃ es Ω C Ω' Hk, S es Ω C Ω' ∧ es.length = vs.length ∧ At (adr Ω) Hk H [] Ω (es.zip vs) [] H ∧ Ex Hk H ∧ ∀ H' T σ, At (adr Ω) Hk H [] Ω' T σ H' → E (.ref C) none H'
def GdR (P : Program) (w : World) (K : PySem.W.Frag) (mg : Str → Option Value) (base : Heap) (k : Nat) (f : Addr) (ps : List Str) (sp : Sp) : Prop :=
  ∃ fd, FnOk P w K mg base (L2.CX P w) k f fd ps sp ∧ PySem.W.keepIn K (.ref f) = true ∧ Binds K fd ps []
section
variable {P : Program} {w : World} {K : PySem.W.Frag} {mg : Str → Option Value} {base : Heap}
theorem fun_okR {x qual : Str} {params : Arguments} {body : List Stmt} {scope : Scope} {dvs : List V} {kws : List (Str × V)} {f : Addr} {fd : FuncData} {N ps : List Str} {k : Nat} {S : SigR}
    (F : FunD K x qual params body scope dvs kws f fd) (sc : FnScope N ps scope) (hl : ∀ es Ω C Ω', S es Ω C Ω' → es.length = ps.length)
    (hbody : ∀ (cdv : Value) (A : Around) (outer : List Env) (s : Shared) (H : Hp) (E : XK), Room k (A.deeper (envOfC qual scope s.heap.objs.size f cdv)) →
      ∃ t, PSs (cxOf (L2.CX P w) P w K mg base N qual scope f cdv A outer s H E) body t ∧ ∀ (es : List En) (Ω : List Cell) (C : Addr) (Ω' : List Cell) (vs : List V) (Hk : Hp) (D : Ends), S es Ω C Ω' → At (adr Ω) Hk H (es.map some ++ List.replicate (N.length - es.length) none) Ω [] (L2.start N vs) H →
        (∀ H' T Γ σ, At (adr Ω) Hk H Γ Ω' T σ H' → E (.ref C) none H') → t D (L2.start N vs) H) :
    FnOk P w K mg base (L2.CX P w) (k + 1) f fd ps (spR S) := by
  refine F.ok sc (fun vs H Q E h => ?_) fun cdv A outer s H vs Q E hr h => ?_
  · obtain ⟨es, Ω, C, Ω', Hk, hs, h1, _⟩ := h
    rw [← h1, hl es Ω C Ω' hs]
  · obtain ⟨es, Ω, C, Ω', Hk, hs, h1, a, hk, q⟩ := h
    obtain ⟨t, hp, ht⟩ := hbody cdv A outer s H E hr
    have hN : es.length ≤ N.length := by
      rw [hl es Ω C Ω' hs]
      have := congrArg List.length sc.pre
      rw [List.length_take] at this
      omega
    exact ⟨t, hp, ht es Ω C Ω' vs Hk _ hs (at_startM a hk h1 hN) fun H' T Γ σ a' => q H' T [] a'.bare⟩
/-- in a def's own frame an exception leaves it -/
theorem tk_cx {N : List Str} {qual : Str} {scope : Scope} {f : Addr} {cd : Value} {A : Around} {outer : List Env} {s : Shared} {H : Hp} {E : XK} : Takes (cxOf (L2.CX P w) P w K mg base N qual scope f cd A outer s H E) (fun cls d _ H' => E cls d H') := takes_of rfl rfl rfl rfl
theorem own_cx {N : List Str} {qual : Str} {scope : Scope} {f : Addr} {cd : Value} {A : Around} {outer : List Env} {s : Shared} {H : Hp} {E : XK} : PassesOwn (model P w) (A.deeper (envOfC qual scope s.heap.objs.size f cd)) (envOfC qual scope s.heap.objs.size f cd) (cxOf (L2.CX P w) P w K mg base N qual scope f cd A outer s H E).xe := passes_of (X := cxOf (L2.CX P w) P w K mg base N qual scope f cd A outer s H E) (K := fun e s'' => L2.CX P w outer H s E e s'') rfl
end
section
variable {X : Cx} {st : List Stmt}
theorem pss_no : PSs X st (fun _ _ _ => False) := ⟨fun _ _ _ _ _ _ h => h.elim⟩
/-- raise C('..') -/
def tRz (C : Addr) (W : WX) : TS := fun _ σ H => W (.ref C) none σ H
theorem ps_rz {C : Addr} {W : WX} {x m : Str} {j : Nat} {p p2 pos pos2 : Pos} (hc : X.calm = true) (tk : Takes X W) (c : ExO X.K C) (gC : X.mg x = some (.ref C)) (hg : Gl X x := by rfl) (hdb : (x == ("__debug__" : Str)) = false := by decide) : PS X (.Raise (some (.Call (.Name x p) [.Constant (.str m) j p2] [] pos)) none pos2) (tRz C W) :=
  ps_raise hc tk (pmk_own PySem.F.excBase_ValueError c.q gC c.kp (raises_own c.sb c.ty) hg hdb)
end
/-! ### methods that may raise, inside a try -/
section
variable {X : Cx} {CX : CXT} {k : Nat} {f C : Addr} {fd : FuncData} {ps : List Str} {sp : Sp} {E : L2.St → XK} {m : Str} {pos apos : Pos} {o : Expr} {ta : TE}
def tMeth0A (C : Addr) (m : Str) (sp : Sp) (E : L2.St → XK) (ta : TE) : TE := fun σ H Q => ta σ H fun x H1 => ∃ a dx fs, x = .ref a ∧ H1 a = some (.ins C dx fs) ∧ fs.lookup m = none ∧ sp [x] H1 Q (E σ)
theorem pe_meth0A {pl : Sem Bool} (he : PE X o ta) (c : Cls X.K C) (hm : Meth X.K C m f) (F : FnOk X.prog X.w X.K X.mg X.base CX k f fd ps sp) (hr : Room k X.A) (hb : Binds X.K fd ps []) (hx : ∀ σ, PassesAt CX X σ (E σ))
    (ht : eval (.Call (.Attribute o m apos) [] [] pos) X.env = (eval o X.env >>= fun ov => standAt apos.atName >>= fun _ => holding [ov] (getMethod ov m pl) >>= fun z => callWith pos z.1 z.2 (backTo pos (starEach [] X.env)) (backToKw pos (keywordEach [] X.env))) := by rfl) :
    PE X (.Call (.Attribute o m apos) [] [] pos) (tMeth0A C m sp E ta) := by
  refine ⟨fun pins s σ H Q I h => PySem.W.methodCall_KW (pl := pl) (thn (he.run pins s σ H _ I h) fun u s1 ⟨x, H1, I1, rx, a, dx, fs, ex, ea, l, q⟩ => ?_) ht⟩
  subst ex
  have hu : u = Value.ref a := rx
  subst hu
  exact getmeth_ok I1 ea c hm l (PySem.W.callWith_K0 (first := [.ref a]) I1.kIn hm.kp (run_fnS (us := [.ref a]) (vs := [.ref a]) F hr hb (hx σ) I1 (.cons rfl .nil) q))
end
section
variable {W : List Addr} {Hk0 H0 : Hp} {Γ Γ' : Ctx} {Ω Ω' Ω1 Ω2 Ω3 Ωr : List Cell} {T T' : Tm} {σ σ' : L2.St} {Hk H : Hp} {K : PySem.W.Frag}
variable {te ta tb td to : TE} {tt tu : TT} {D : Ends} {e : En} {ts tz : TS} {c : Cell} {S : SigR} {Cl Cx' : Addr} {Wx : WX}
/-- what raises: what is wanted of it -/
def Rz (te : TE) (Γ : Ctx) (Ω : List Cell) (Wx : WX) (Cx' : Addr) (Ω' : List Cell) : Prop := ∀ W Hk0 H0 T σ H, At W Hk0 H0 Γ Ω T σ H → (∀ H', At W Hk0 H0 Γ Ω' T σ H' → Wx (.ref Cx') none σ H') → ∀ Q : VK, te σ H Q
theorem AtH.callR {es : List En} {vs : List V} {E : XK} {Q : VK} (a : AtH W Hk0 H0 Γ (Ω1 ++ Ω2) (es.zip vs ++ T) σ Hk H) (hl : es.length = vs.length) (hs : S es Ω1 Cx' Ω') (q : ∀ H', At W Hk0 H0 Γ (Ω' ++ Ω2) T σ H' → E (.ref Cx') none H') : spR S vs H Q E := by
  refine ⟨es, Ω1, Cx', Ω', Hk, hs, hl, ⟨Hk, { a.lend with tp := fun p hp => a.tp p (by simp [hp]) }⟩, a.gr.kh, fun H' T' σ' ⟨Hk', b⟩ => ?_⟩
  have b' : AtH (adr Ω1) Hk H [] Ω' T' [] Hk' H' := { b with len := rfl, sl := fun i e q => by simp at q }
  exact q H' ⟨Hk', (a.paid2 b').sub fun p hp => by simp [hp]⟩
theorem rz_meth0 {m : Str} (hi : ∀ o H, c.p o H → ∃ dx fs, o = .ins Cl dx fs ∧ fs.lookup m = none) (h : Ev ta Γ Ω (en rVal (.ref c.a)) ((c :: Ωr) ++ Ω2)) (hs : S [en rVal (.ref c.a)] (c :: Ωr) Cx' Ω') : Rz (tMeth0A Cl m (spR S) (WE Wx) ta) Γ Ω Wx Cx' (Ω' ++ Ω2) := fun W Hk0 H0 T σ H a q Q =>
  h W Hk0 H0 T σ H a _ fun v H1 ⟨Hk1, a1⟩ => by
    have hv : v = .ref c.a := a1.tp (en rVal (.ref c.a), v) (by simp)
    subst hv
    obtain ⟨_, ⟨o, h2, h3⟩, _⟩ := a1.cl c (by simp)
    obtain ⟨dx, fs, rfl, hl⟩ := hi o Hk1 h3
    exact ⟨c.a, dx, fs, rfl, h2, hl, a1.callR (es := [en rVal (.ref c.a)]) (vs := [.ref c.a]) (Ω1 := c :: Ωr) rfl hs fun H' ⟨Hk', a'⟩ => q H' ⟨Hk', a'⟩⟩
/-- try: e, which raises; except X: suite -/
theorem s_tryR {Cy : Addr} {su : Addr → Value → Option Addr → TS} {Wout : WX} (a : At W Hk0 H0 Γ Ω T σ H) (h : Rz te Γ Ω (wOnly K (.ref Cy) su Wout D) Cx' Ω') (hm : PySem.W.exmOne K (.ref Cx') (.ref Cy) = some true) (k : ∀ p H', At W Hk0 H0 Γ Ω' T σ H' → su p (.ref Cx') none D σ H') :
    tSeq (tDrop te) tz D σ H := h W Hk0 H0 T σ H a (fun H' a' => ⟨true, hm, fun _ p _ => k p H' a', fun z => by cases z⟩) _
end
end KA


/-! own exceptions whose __init__ asks super() and keeps one field -/
namespace KA
open PySem PySem.Spec PyProof.Rows L2 GenW
open He (ga ma eqO eqO_ok)
/-- its __init__, and what the written part says of the class -/
structure SupD (file0 : Str) (K : PySem.W.Frag) (C f : Addr) (name qual : Str) (params : Arguments) (body : List Stmt) (scope : Scope) (fd : FuncData) : Prop where
  ex : ∃ (oc : Value) (od : Option Addr) (dV kV doc pm : Value) (an : Option Addr) (cda cc : Addr) (ct : Value) (osl : Array (Option Value)), fd = PySem.W.ksFn name qual params body scope dV kV doc pm an (.ref cda) ct cc ∧ K.lookup f = some ⟨oc, od, .func fd, osl⟩ ∧
    PySem.W.codeIn K (.ref cda) qual = true ∧ (∃ ccl cdd vs ccs file tf, K.lookup cda = some ⟨ccl, cdd, .fields vs, ccs⟩ ∧ vs[2]? = some (.str file tf) ∧ (file0 == file) = true) ∧ ∃ cl cld csl, K.lookup cc = some ⟨cl, cld, .cell (some (.ref C)), csl⟩
  ob : OexC K C
  st : PySem.W.nsIn K cStatics "thirdparty.any" = some none
  su : PySem.W.ks_superIn K C C "__init__" = some (some (.builtin "ValueError.__init__"))
  mr : PySem.W.mroIn K C (.ref C) = some true
  sv : PySem.W.subIn K (.ref C) (.type "ValueError") = some true
  ei : PySem.W.excInitIn K C veL "ValueError.__new__" = true
/-- the field that it keeps -/
def spSup (C : Addr) (fld : Str) : Sp := fun vs H Q _ => ∃ a v, vs = [.ref a, v] ∧ H a = some (exo a C none) ∧ ∀ dx, H dx = none → dx ≠ a → Q .non (upd (upd H dx (exd dx [(fld, v)])) a (exo a C (some dx)))
theorem int_no (env : Env) (h : env.scope.kind = .function) : interactive env = false := by
  unfold interactive
  rw [h] <;> rfl
section
variable {P : Program} {w : World} {K : PySem.W.Frag} {mg : Str → Option Value} {base : Heap} {CX : CXT} {k : Nat} {C f : Addr} {name qual sf pt fld m file0 : Str} {params : Arguments} {body : List Stmt} {scope : Scope} {fd : FuncData} {p1 p2 p3 p4 p5 p6 p7 p8 p9 p10 : Pos} {ar : Arg} {kk : Nat}
theorem sup_run (D : SupD file0 K C f name qual params body scope fd) (hbd : body = [.Expr (.Call (.Attribute (.Call (.Name "super" p1) [] [] p2) "__init__" p3) [.Constant (.str m) kk p4] [] p5) p6, .Assign [.Attribute (.Name sf p7) fld p8] (.Name pt p9) p10])
    (hfi : P.main.file = file0) (hms : mg "super" = none) (hno : PySem.W.findIn K (.ref C) fld = some none) (htop : (P.main.scope.names.lookup ("super" : Str)).isSome = false)
    (hp : (params.posonlyargs ++ params.args).head? = some ar) (har : ar.arg = sf) (hsf : scope.names.lookup sf = some .local) (hpt : scope.names.lookup pt = some .local) (hks : scope.names.lookup ("super" : Str) = some .globalImplicit) (hkc : scope.names.lookup ("__class__" : Str) = some .free)
    (hev : ∀ env : Env, ∃ pl, eval (.Call (.Attribute (.Call (.Name "super" p1) [] [] p2) "__init__" p3) [.Constant (.str m) kk p4] [] p5) env = (do
      let ov ← attributeBase (.Call (.Name "super" p1) [] [] p2) "__init__" env (eval (.Call (.Name "super" p1) [] [] p2) env)
      standAt p3.atName
      let (f, first) ← holding [ov] (getMethod ov "__init__" pl)
      callWith p5 f first (backTo p5 (starEach [.Constant (.str m) kk p4] env)) []))
    (hs1 : ∀ env : Env, swapsWith (.Call (.Attribute (.Call (.Name "super" p1) [] [] p2) "__init__" p3) [.Constant (.str m) kk p4] [] p5) none p6.line env = pure false)
    (hs2 : ∀ env : Env, swapsWith (.Name pt p9) (some (.Attribute (.Name sf p7) fld p8)) p10.line env = pure false)
    (hne : pt ≠ sf) (hkd : scope.kind = .function) (hcell : ∀ x ∈ scope.names, x.2 ≠ .cell) (hco : scope.isCoroutine = false) (hgen : scope.isGenerator = false) (hd1 : (sf == ("__debug__" : Str)) = false) (hd2 : (pt == ("__debug__" : Str)) = false)
    (A : Around) (outer : List Env) (s : Shared) (H : Hp) (args : Args) (us : List Value) (vs : List V) (Q : VK) (E : XK) (hdp : A.depth < recursionLimit) (e0 : Env0 P w K mg base A outer s H) (hb : BindsTo s fd args ([sf, pt].zip us)) (r : Vals vs us) (hsp : spSup C fld vs H Q E) :
    codeAny (model P w) A (.call (.ref f) args) (CR CX outer P w H s Q E) s := by
  obtain ⟨a, v, hv, ha, q⟩ := hsp
  subst hv
  obtain ⟨oc, od, dV, kV, doc, pm, an, cda, cc, ct, osl, rfl, lk, hcd, ⟨ccl, cdd, vs, ccs, file, tf, hcda, hvs2, hfile⟩, ⟨cl, cld, csl, hcc⟩⟩ := D.ex
  subst hbd har
  rw [← hfi] at hfile
  have KX : K.In s.heap := e0.mod.kin.keeps fun b o e => (e0.bs b o e).1
  have lim : s.heap.NoLimit := e0.mod.nolimit.keeps fun b o e => (e0.bs b o e).1
  cases r with
  | @cons _ u0 _ ur ra rt =>
  cases rt with
  | @cons _ u _ ur2 ru rn =>
  cases rn
  obtain rfl : u0 = Value.ref a := ra
  obtain ⟨t1, hoa⟩ := exo_at e0.hok ha
  have nK : ∀ b o, K.lookup b = some o → b ≠ a := fun b o e z => by
    rw [z] at e
    have := (e0.bs a o (e0.mod.kin a o e)).2
    rw [ha] at this
    cases this
  obtain ⟨h₀, e₀⟩ : ∃ h₀, h₀ = PySem.W.hideAll s.heap [a] := ⟨_, rfl⟩
  have g1 : ∀ b o, h₀.get? b = some o → s.heap.get? b = some o := fun b o e => PySem.W.of_hideAll [a] (by rw [e₀] at e; exact e)
  have g2 : ∀ b o, s.heap.get? b = some o → b ≠ a → h₀.get? b = some o := fun b o e hb => by rw [e₀]; exact PySem.W.hideAll_get [a] e (by simpa using hb)
  have g3 : h₀.get? a = none := by rw [e₀]; exact PySem.W.hideAll_none [a] (by simp)
  have gz : h₀.objs.size = s.heap.objs.size := by rw [e₀]; exact PySem.W.hideAll_size _ _
  have K0 : K.In h₀ := fun b o e => g2 b o (KX b o e) (nK b o e)
  obtain ⟨mb, hb1, hb2⟩ := e0.mod.blt
  have bk : ∀ b o, base.get? b = some o → h₀.get? b = some o := fun b o e => g2 b o (e0.bs b o e).1 fun z => by
    have := (e0.bs b o e).2
    rw [z, ha] at this
    cases this
  refine ks_codeAny_call_defAt (fd := PySem.W.ksFn name qual params _ scope dV kV doc pm an (.ref cda) ct cc) hdp (KX _ _ lk) rfl lim (PySem.W.codeRec_of KX hcd) rfl hb hcell (fun y hy => ?_) (fun h₁ hns hk => ?_) hco hgen hkd
  · rcases List.mem_cons.mp hy with rfl | hy
    · exact hsf
    · rcases List.mem_cons.mp hy with rfl | hy
      · exact hpt
      · cases hy
  have F1 : Fr h₀ s.heap.objs.size h₁ _ := ⟨hns, fun b o e => hk b o (g1 b o e), Nat.le_of_eq gz⟩
  have N1 : News h₀ s.heap.objs.size h₁ [(a, PySem.W.excObj C t1 none .none)] := fun p hp => by
    obtain rfl := List.mem_singleton.mp hp
    exact ⟨hk _ _ hoa, Nat.ne_of_lt (Heap.lt_size hoa), g3⟩
  obtain ⟨cdD, hcls⟩ : ∃ cdD, PySem.W.clsIn K C = some cdD := by
    have := D.su
    unfold PySem.W.ks_superIn at this
    cases z : PySem.W.clsIn K C with
    | none => rw [z] at this; cases this
    | some cd => exact ⟨cd, rfl⟩
  obtain ⟨pl, he⟩ := hev (callEnv (PySem.W.ksFn name qual params [.Expr (.Call (.Attribute (.Call (.Name "super" p1) [] [] p2) "__init__" p3) [.Constant (.str m) kk p4] [] p5) p6, .Assign [.Attribute (.Name ar.arg p7) fld p8] (.Name pt p9) p10] scope dV kV doc pm an (.ref cda) ct cc) s.heap.objs.size f)
  have X1 : K.In h₁ := K0.keeps F1.keep
  have bk1 : ∀ b o, base.get? b = some o → h₁.get? b = some o := fun b o e => F1.keep b o (bk b o e)
  obtain ⟨oD, hD1, hD2⟩ : ∃ oD, h₁.get? C = some oD ∧ oD.data = .cls cdD := by
    unfold PySem.W.clsIn at hcls
    split at hcls
    · rename_i ho
      cases hcls
      exact ⟨_, X1 _ _ ho, rfl⟩
    · cases hcls
  have hma : List.lookup ar.arg ([ar.arg, pt].zip [Value.ref a, u]).reverse = some (.ref a) := by
    show List.lookup ar.arg [(pt, u), (ar.arg, Value.ref a)] = _
    have e : (ar.arg == pt) = false := by simpa using fun z => hne z.symm
    simp [List.lookup, e]
  have hmp : List.lookup pt ([ar.arg, pt].zip [Value.ref a, u]).reverse = some u := by
    show List.lookup pt [(pt, u), (ar.arg, Value.ref a)] = _
    simp [List.lookup]
  have len : s.heap.objs.size ≤ h₁.objs.size := by
    obtain ⟨oL, _, _, hL, _⟩ := hns
    exact Nat.le_of_lt (Heap.lt_size hL)
  refine ks_wpAt_execs_cons (ks_wpAt_Expr_any (ks_wpAt_MethodCall ?_ he) ?_ ?_)
  · refine ks_wpAt_super_base (f := f) (cc := cda) (ar := ar) (file := file) (tf := tf) hks hkc (by decide) rfl (X1 _ _ lk) rfl hp rfl (X1 _ _ hcda) rfl hvs2 hfile htop ?_
    refine PySem.W.ks_loadName_global hkd hks (Calls.loadGlobal_builtin (e0.mod.glob.keeps bk1) hms (hb1.keeps bk1) ((hb2 _ (by decide)).trans (by rfl)) ⟨rfl, ?_⟩)
    refine wpAny_loadName_free hkd hkc rfl ⟨_, X1 _ _ hcc, rfl⟩ ?_
    refine wpAny_loadName_local hkd hsf F1.ns hma ?_
    refine ks_wpAny_isType_cls hD1 hD2 ⟨rfl, ?_⟩
    refine ks_wpAny_call_super hD1 hD2 (N1 _ (.head _)).1 rfl (fun c e => by cases e) (PySem.W.looks_mroIn X1 D.mr) fun h₂ e2 k2 => ?_
    obtain ⟨F2, N2, _⟩ := PySem.W.ks_newsPush (s := ⟨h₁, s.gens, s.drawn, s.toks + 2, s.os⟩) (o := PySem.W.ks_superObj C a C) F1 N1 rfl e2 k2
    refine PySem.W.kxs_method PySem.W.kxs_ValueError F2 K0 N2 (.head _) (PySem.W.InstAt.of_exc0 (c2 := .none) N2 (.tail _ (.head _))) D.st D.su D.sv (by decide) fun q3 h₃ F3 N3 l3 => ?_
    refine PySem.W.kxs_callWith1 N3 (.head _) (spliced_more (wpAny_Constant_str (spliced_none ⟨PySem.W.kxs_at N3 (.head _), ?_⟩)))
    have ne3 : ∀ p ∈ (h₁.objs.size, PySem.W.ks_superObj C a C) :: [(a, PySem.W.excObj C t1 none Value.none)], p.1 ≠ q3 := fun p hp => Nat.ne_of_lt (l3 p hp)
    have nea : h₁.objs.size ≠ a := fun z => Nat.lt_irrefl a (Nat.lt_of_lt_of_le (Heap.lt_size hoa) (z ▸ len))
    have ne4 : q3 ≠ a := fun z => ne3 (a, PySem.W.excObj C t1 none Value.none) (.tail _ (.head _)) z.symm
    refine PySem.W.kxs_call (t := t1) (dv := none) (c2 := .none) F3 K0 N3 F.excBase_ValueError D.ei (.head _) (.tail ne4 (.tail nea (.head fun p hp => by cases hp))) (by show 1 ≤ sizeLine; rw [sizeLine_eq]; omega) fun t' h₄ F4 N4 l4 => ?_
    have hx4 : h₄.get? a = some (PySem.W.excObj C t' none Value.none) := (N4 _ (.tail _ (.tail _ (.tail _ (.head _))))).1
    show _root_.PySem.wpAt (model P w) _ _ (execs _ (callEnv (PySem.W.ksFn name qual params _ scope dV kV doc pm an (.ref cda) ct cc) s.heap.objs.size f)) _ _ _
    refine ks_wpAt_execs_cons (ks_wpAt_Assign_Attr ?_ ?_)
    · refine wpAt_of_wpAny (wpAny_Name (wpAny_loadName_local hkd hpt F4.ns hmp ?_) hd2)
      refine wpAny_Name (wpAny_loadName_local hkd hsf F4.ns hma ?_) hd1
      have X4 : K.In h₄ := K0.keeps F4.keep
      obtain ⟨nm, qn, N', bs, bm, sn, sub, ab, col, dd, k0, k1, k2', k3, k5, hC, hbm⟩ := D.ob.cls
      have hcl : PySem.W.clsIn K C = some { name := nm, bases := bs, mro := .ref C :: bm, ns := N', qualname := qn, hasDict := true, slotNames := sn, subclasses := sub, abstract := ab, collection := col, hasDel := false } := by unfold PySem.W.clsIn; rw [hC] <;> rfl
      refine PySem.W.set_plain X4 (PySem.W.InstAt.of_exc0 (c2 := .none) N4 (.tail _ (.tail _ (.tail _ (.head _))))) D.ob.sa ?_
      refine PySem.HandSPX.exc_osa X4 hx4 hcl (show PySem.HandSPX.refsVE (.ref C :: bm) = true from hbm) rfl hno fun h₅ tk' dx k5 dn dne hx5 hn5 => ?_
      have nd : s.heap.get? dx = none := by
        cases z : s.heap.get? dx with
        | none => rfl
        | some o =>
          have y := Heap.lt_size (F4.keep dx o (g2 dx o z dne))
          exact absurd y (Nat.not_lt.mpr dn)
      have hnd : H dx = none := e0.hok.gone nd
      have kp : ∀ b o, b ≠ a → s.heap.get? b = some o → h₅.get? b = some o := fun b o n e => k5 b o n (F4.keep b o (g2 b o e n))
      have un5 : Un (frs outer) [] H (upd (upd H dx (exd dx [(fld, v)])) a (exo a C (some dx))) s.heap h₅ := by
        have na : ∀ {b : Addr}, H b = none → b ≠ a := fun {b} n z => by rw [z, ha] at n; cases n
        have nx : ∀ {b : Addr} {o : Obj}, s.heap.get? b = some o → b ≠ dx := fun {b o} e z => by rw [z, nd] at e; cases e
        have up : ∀ {b : Addr} {x : HO}, H b = some x → (∀ d, x ≠ exo a C d) → upd (upd H dx (exd dx [(fld, v)])) a (exo a C (some dx)) b = some x := fun {b x} e n => by
          rw [upd_ne (fun z => by rw [z, ha] at e; exact n none (Option.some.inj e).symm), upd_ne (fun z => by rw [z, hnd] at e; cases e), e]
        exact { keep := fun b o e n _ _ => kp b o (na n) e, slot := fun b o e n _ _ => ⟨_, kp b o (na n) e⟩, free := fun b o e n _ => by (rw [upd_ne (na n), upd_ne (nx e)]; exact n), there := fun b o e _ => (Decidable.em (b = a)).elim (fun hb => ⟨_, (congrArg _ hb).trans hx5⟩) (fun hb => ⟨o, kp b o hb e⟩), tups := fun b xs e => up e fun d z => exo_tup z.symm, frzs := fun b o x e => up e fun d z => exo_frz z.symm, tbls := fun b ps e => ⟨#[], by (rw [up e fun d z => exo_tbl z.symm]; simp)⟩ }
      have ok5 : HOk P w (upd (upd H dx (exd dx [(fld, v)])) a (exo a C (some dx))) h₅ := fun b o e => by
        by_cases hb : b = a
        · subst hb
          rw [upd_same] at e
          cases e
          exact exo_ok (C := C) hx5
        · rw [upd_ne hb] at e
          by_cases hd : b = dx
          · subst hd
            rw [upd_same] at e
            cases e
            exact exd_ok hn5 (relO_put (fs := []) ru fun g => True.intro)
          · rw [upd_ne hd] at e
            have n1 : ∀ {c : Addr} {x : HO}, H c = some x → (∀ d, x ≠ exo a C d) → c ≠ a := fun {c x} e n z => n none (by rw [z, ha] at e; exact (Option.some.inj e).symm)
            have n2 : ∀ {c : Addr} {x : HO}, H c = some x → c ≠ dx := fun {c x} e z => by rw [z, hnd] at e; cases e
            exact (e0.hok b o e).stay (fun c v' hc z => kp c v' (hc.elim (fun y => y ▸ hb) fun y => n1 y fun d z => exo_own z.symm) z)
              (fun c hc => by (rw [upd_ne (n1 hc fun d z => exo_own z.symm), upd_ne (n2 hc)]; exact hc)) (fun c xs hc => by (rw [upd_ne (n1 hc fun d z => exo_tup z.symm), upd_ne (n2 hc)]; exact hc))
      refine wpAt_of_wpAny ?_
      rw [execs_nil]
      exact wpAny_pure ⟨.non, _, rfl, e0.bare, un5, ok5, rfl, q dx hnd dne⟩
    · exact hs2 _
  · exact int_no _ hkd
  · exact hs1 _
theorem fn_sup (D : SupD file0 K C f name qual params body scope fd) (hbd : body = [.Expr (.Call (.Attribute (.Call (.Name "super" p1) [] [] p2) "__init__" p3) [.Constant (.str m) kk p4] [] p5) p6, .Assign [.Attribute (.Name sf p7) fld p8] (.Name pt p9) p10])
    (hfi : P.main.file = file0) (hms : mg "super" = none) (hno : PySem.W.findIn K (.ref C) fld = some none) (htop : (P.main.scope.names.lookup ("super" : Str)).isSome = false)
    (hp : (params.posonlyargs ++ params.args).head? = some ar) (har : ar.arg = sf) (hsf : scope.names.lookup sf = some .local) (hpt : scope.names.lookup pt = some .local) (hks : scope.names.lookup ("super" : Str) = some .globalImplicit) (hkc : scope.names.lookup ("__class__" : Str) = some .free)
    (hev : ∀ env : Env, ∃ pl, eval (.Call (.Attribute (.Call (.Name "super" p1) [] [] p2) "__init__" p3) [.Constant (.str m) kk p4] [] p5) env = (do
      let ov ← attributeBase (.Call (.Name "super" p1) [] [] p2) "__init__" env (eval (.Call (.Name "super" p1) [] [] p2) env)
      standAt p3.atName
      let (f, first) ← holding [ov] (getMethod ov "__init__" pl)
      callWith p5 f first (backTo p5 (starEach [.Constant (.str m) kk p4] env)) []))
    (hs1 : ∀ env : Env, swapsWith (.Call (.Attribute (.Call (.Name "super" p1) [] [] p2) "__init__" p3) [.Constant (.str m) kk p4] [] p5) none p6.line env = pure false)
    (hs2 : ∀ env : Env, swapsWith (.Name pt p9) (some (.Attribute (.Name sf p7) fld p8)) p10.line env = pure false)
    (hne : pt ≠ sf) (hkd : scope.kind = .function) (hcell : ∀ x ∈ scope.names, x.2 ≠ .cell) (hco : scope.isCoroutine = false) (hgen : scope.isGenerator = false) (hd1 : (sf == ("__debug__" : Str)) = false) (hd2 : (pt == ("__debug__" : Str)) = false) :
    FnOk P w K mg base CX (k + 1) f fd [sf, pt] (spSup C fld) :=
  ⟨fun vs H Q E ⟨_, _, h, _⟩ => by (rw [h] <;> rfl), fun A outer s H args us vs Q E hr e0 hb r h => sup_run D hbd hfi hms hno htop hp har hsf hpt hks hkc hev hs1 hs2 hne hkd hcell hco hgen hd1 hd2 A outer s H args us vs Q E hr.depth e0 hb r h⟩
/-- .. while an exception is handled -/
theorem fn_supH (D : SupD file0 K C f name qual params body scope fd) (hbd : body = [.Expr (.Call (.Attribute (.Call (.Name "super" p1) [] [] p2) "__init__" p3) [.Constant (.str m) kk p4] [] p5) p6, .Assign [.Attribute (.Name sf p7) fld p8] (.Name pt p9) p10])
    (hfi : P.main.file = file0) (hms : mg "super" = none) (hno : PySem.W.findIn K (.ref C) fld = some none) (htop : (P.main.scope.names.lookup ("super" : Str)).isSome = false)
    (hp : (params.posonlyargs ++ params.args).head? = some ar) (har : ar.arg = sf) (hsf : scope.names.lookup sf = some .local) (hpt : scope.names.lookup pt = some .local) (hks : scope.names.lookup ("super" : Str) = some .globalImplicit) (hkc : scope.names.lookup ("__class__" : Str) = some .free)
    (hev : ∀ env : Env, ∃ pl, eval (.Call (.Attribute (.Call (.Name "super" p1) [] [] p2) "__init__" p3) [.Constant (.str m) kk p4] [] p5) env = (do
      let ov ← attributeBase (.Call (.Name "super" p1) [] [] p2) "__init__" env (eval (.Call (.Name "super" p1) [] [] p2) env)
      standAt p3.atName
      let (f, first) ← holding [ov] (getMethod ov "__init__" pl)
      callWith p5 f first (backTo p5 (starEach [.Constant (.str m) kk p4] env)) []))
    (hs1 : ∀ env : Env, swapsWith (.Call (.Attribute (.Call (.Name "super" p1) [] [] p2) "__init__" p3) [.Constant (.str m) kk p4] [] p5) none p6.line env = pure false)
    (hs2 : ∀ env : Env, swapsWith (.Name pt p9) (some (.Attribute (.Name sf p7) fld p8)) p10.line env = pure false)
    (hne : pt ≠ sf) (hkd : scope.kind = .function) (hcell : ∀ x ∈ scope.names, x.2 ≠ .cell) (hco : scope.isCoroutine = false) (hgen : scope.isGenerator = false) (hd1 : (sf == ("__debug__" : Str)) = false) (hd2 : (pt == ("__debug__" : Str)) = false) :
    L2H.FnH P w K mg base CX (k + 1) f fd [sf, pt] (spSup C fld) :=
  ⟨fun vs H Q E ⟨_, _, h, _⟩ => by (rw [h] <;> rfl), fun A outer s H args us vs Q E p hr hot hpin e0 hb r h => sup_run D hbd hfi hms hno htop hp har hsf hpt hks hkc hev hs1 hs2 hne hkd hcell hco hgen hd1 hd2 A outer s H args us vs Q E hr.depth e0 hb r h⟩
end
theorem oexB_ok {K : PySem.W.Frag} {C : Addr} (h : oexB K C = true) : OexC K C := by
  obtain ⟨h1, h⟩ := He.ba h
  obtain ⟨h2, h⟩ := He.ba h
  obtain ⟨h3, h⟩ := He.ba h
  obtain ⟨h4, h5⟩ := He.ba h
  refine ⟨?_, eqO_ok h2, of_decide_eq_true h3, of_decide_eq_true h4, h5⟩
  split at h1
  · rename_i e
    obtain ⟨e1, h6⟩ := He.ba h1
    obtain ⟨e2, h7⟩ := He.ba h6
    have e3 := eq_of_beq e1
    have e4 := eq_of_beq e2
    subst e3 e4
    exact ⟨_, _, _, _, _, _, _, _, _, _, _, _, _, _, _, e, h7⟩
  · cases h1
/-- what the top has left of such a class -/
structure SupA (file0 : Str) (K : PySem.W.Frag) (C f : Addr) (ps : List Str) (fld : Str) (d : DefE) : Prop where
  ex : ∃ fd, SupD file0 K C f d.name d.qual d.params d.body d.scope fd ∧ Binds K fd ps [] ∧ ∃ ds, Vals (d.dvs K) ds ∧ Binds K fd ps ds
  ini : PySem.W.findIn K (.ref C) "__init__" = some (some (.ref f))
  ty : PySem.W.typeIn K (.ref f) = some (.type "function")
  no : PySem.W.findIn K (.ref C) fld = some none
  xf : XfC K C
  ob : OexC K C
theorem sup_of {K : PySem.W.Frag} {d : DefE} {x fld file0 sf pt : Str} {dv1 : V} (ed : fnE K (d.ad K) = d.val) (cd : d.ok K = true) (cs : fSup x fld file0 K = true) (had : d.ad K = ma K (ga K x) "__init__") (hc : d.clo = [("__class__" : Str)]) (hdv : d.dvs K = [dv1])
    (hbind : ∀ (T cc : Addr) (kV doc pm : Value) (an : Option Addr) (cdv ct : Value) (us its : List Value), us.length = 2 → its.length = 1 → ∃ k, bindArgs (PySem.W.ksFn d.name d.qual d.params d.body d.scope (.ref T) kV doc pm an cdv ct cc) ⟨us, []⟩ = seqItems? (.ref T) >>= k ∧ k (some its.toArray) = pure ([sf, pt].zip us))
    (hbind1 : ∀ (T cc : Addr) (kV doc pm : Value) (an : Option Addr) (cdv ct : Value) (us its : List Value), us.length = 1 → its.length = 1 → ∃ k, bindArgs (PySem.W.ksFn d.name d.qual d.params d.body d.scope (.ref T) kV doc pm an cdv ct cc) ⟨us, []⟩ = seqItems? (.ref T) >>= k ∧ k (some its.toArray) = pure ([sf, pt].zip (us ++ its))) :
    SupA file0 K (ga K x) (ma K (ga K x) "__init__") [sf, pt] fld d := by
  obtain ⟨c1, cs⟩ := He.ba cs
  obtain ⟨c2, cs⟩ := He.ba cs
  obtain ⟨c3, cs⟩ := He.ba cs
  obtain ⟨c4, cs⟩ := He.ba cs
  obtain ⟨c5, cs⟩ := He.ba cs
  obtain ⟨c6, cs⟩ := He.ba cs
  obtain ⟨c7, cs⟩ := He.ba cs
  obtain ⟨c8, cs⟩ := He.ba cs
  obtain ⟨c9, cs⟩ := He.ba cs
  obtain ⟨c10, c11⟩ := He.ba cs
  obtain ⟨kp, cl, oc, od, dV, kV, doc, pm, an, cdv, ct, osl, h1, h2, h3, h4, h5⟩ := DefE.hasX ed cd
  rw [had] at h2
  rw [hc] at h1
  obtain ⟨cc, rfl⟩ : ∃ cc, cl = [(("__class__" : Str), cc)] := by
    match cl, h1 with
    | [(y, cc)], h1 => exact ⟨cc, by (obtain rfl : y = ("__class__" : Str) := by simpa using h1); rfl⟩
  unfold supB at c2
  rw [h2] at c2
  obtain ⟨c2, c2'⟩ := He.ba c2
  dsimp only at c2 c2'
  have hD : DflV K dV [dv1] := by rw [← hdv]; exact He.dflB_ok h4
  obtain ⟨cda, rfl⟩ : ∃ cda, cdv = .ref cda := by
    cases cdv with
    | ref c => exact ⟨c, rfl⟩
    | _ => cases c2
  dsimp only at c2
  refine ⟨⟨_, ⟨⟨oc, od, dV, kV, doc, pm, an, cda, cc, ct, osl, rfl, h2, h3, ?_, ?_⟩, oexB_ok c1, eqO_ok c3, eqO_ok c4, of_decide_eq_true c5, of_decide_eq_true c6, c7⟩, ?_, ?_⟩, eqO_ok c8, of_decide_eq_true c9, eqO_ok c10, xfB_ok c11, oexB_ok c1⟩
  · split at c2
    · rename_i e
      split at c2
      · rename_i e2
        exact ⟨_, _, _, _, _, _, e, e2, c2⟩
      · cases c2
    · cases c2
  · split at c2'
    · rename_i e
      obtain rfl := eq_of_beq c2'
      exact ⟨_, _, _, e⟩
    · cases c2'
  · rcases hD with ⟨e, _⟩ | ⟨_, T, o, its, m, rfl, lT, oT, rT⟩
    · cases e
    · intro s us X hlen
      have l1 : its.length = 1 := rT.length.symm
      have l2 : us.length = 2 := by simpa using hlen
      obtain ⟨k, e1, e2⟩ := hbind T cc kV doc pm an (.ref cda) ct us its l2 l1
      refine BindsTo.of_looks fun M => ?_
      rw [List.append_nil, e1]
      exact looks_items X lT oT (.of_pure e2)
  · rw [hdv]
    rcases hD with ⟨e, _⟩ | ⟨_, T, o, its, m, rfl, lT, oT, rT⟩
    · cases e
    · have l1 : its.length = 1 := rT.length.symm
      refine ⟨its, rT, fun s us X hlen => ?_⟩
      have l2 : us.length = 1 := by simp [l1] at hlen; omega
      obtain ⟨k, e1, e2⟩ := hbind1 T cc kV doc pm an (.ref cda) ct us its l2 l1
      refine BindsTo.of_looks fun M => ?_
      rw [e1]
      exact looks_items X lT oT (.of_pure e2)
/-! ### what raises such an exception, what catches it -/
/-- the dict of an exception with one field -/
def rXd {α : Type} (fld : Str) (A : Rp α) : Rp α := ⟨fun x v H => ∃ d y, v = .ref d ∧ H d = some (.xd [(fld, y)]) ∧ A.r x y H, fun {x v H H'} k ⟨d, y, h1, h2, h3⟩ => ⟨d, y, h1, k d (.xd [(fld, y)]) h2, A.mono k h3⟩⟩
abbrev SigF := List En → List Cell → Addr → En → List Cell → Prop
def spF (S : SigF) : Sp := fun vs H _ E => ∃ es Ω C e Ω' Hk, S es Ω C e Ω' ∧ es.length = vs.length ∧ At (adr Ω) Hk H [] Ω (es.zip vs) [] H ∧ Ex Hk H ∧ ∀ H' d T σ, At (adr Ω) Hk H [] Ω' ((e, .ref d) :: T) σ H' → E (.ref C) (some d) H'
def GdF (P : Program) (w : World) (K : PySem.W.Frag) (mg : Str → Option Value) (base : Heap) (k : Nat) (f : Addr) (ps : List Str) (sp : Sp) : Prop := GdR P w K mg base k f ps sp
section
variable {P : Program} {w : World} {K : PySem.W.Frag} {mg : Str → Option Value} {base : Heap}
theorem fun_okF {x qual : Str} {params : Arguments} {body : List Stmt} {scope : Scope} {dvs : List V} {kws : List (Str × V)} {f : Addr} {fd : FuncData} {N ps : List Str} {k : Nat} {S : SigF}
    (F : FunD K x qual params body scope dvs kws f fd) (sc : FnScope N ps scope) (hl : ∀ es Ω C e Ω', S es Ω C e Ω' → es.length = ps.length)
    (hbody : ∀ (cdv : Value) (A : Around) (outer : List Env) (s : Shared) (H : Hp) (E : XK), Room k (A.deeper (envOfC qual scope s.heap.objs.size f cdv)) →
      ∃ t, PSs (cxOf (L2.CX P w) P w K mg base N qual scope f cdv A outer s H E) body t ∧ ∀ (es : List En) (Ω : List Cell) (C : Addr) (e : En) (Ω' : List Cell) (vs : List V) (Hk : Hp) (D : Ends), S es Ω C e Ω' → At (adr Ω) Hk H (es.map some ++ List.replicate (N.length - es.length) none) Ω [] (L2.start N vs) H →
        (∀ H' d T Γ σ, At (adr Ω) Hk H Γ Ω' ((e, .ref d) :: T) σ H' → E (.ref C) (some d) H') → t D (L2.start N vs) H) :
    FnOk P w K mg base (L2.CX P w) (k + 1) f fd ps (spF S) := by
  refine F.ok sc (fun vs H Q E ⟨es, Ω, C, e, Ω', Hk, hs, h1, _⟩ => by rw [← h1, hl es Ω C e Ω' hs]) fun cdv A outer s H vs Q E hr h => ?_
  obtain ⟨es, Ω, C, e, Ω', Hk, hs, h1, a, hk, q⟩ := h
  obtain ⟨t, hp, ht⟩ := hbody cdv A outer s H E hr
  have hN : es.length ≤ N.length := by (rw [hl es Ω C e Ω' hs]; have := congrArg List.length sc.pre; rw [List.length_take] at this; omega)
  exact ⟨t, hp, ht es Ω C e Ω' vs Hk _ hs (at_startM a hk h1 hN) fun H' d T Γ σ a' => q H' d T [] a'.bare⟩
end
section
variable {X : Cx} {CX : CXT} {k : Nat} {f C fI : Addr} {fd : FuncData} {ps : List Str} {sp : Sp} {E : L2.St → XK} {x sf pt fld : Str} {p pos pos2 : Pos} {e l r : Expr} {ta tb te : TE} {W : WX} {op : Operator}
/-- raise C(e) -/
def tRzF (C : Addr) (fld : Str) (te : TE) (W : WX) : TS := fun _ σ H => tMkO C (spSup C fld) [] (tCons te tNil) σ H fun cls d H' => W cls d σ H'
theorem ps_rzF {file0 : Str} {d : DefE} (hc : X.calm = true) (tk : Takes X W) (T : SupA file0 X.K C fI [sf, pt] fld d) (G : ∃ fd, FnOk X.prog X.w X.K X.mg X.base (L2.CX X.prog X.w) k fI fd [sf, pt] (spSup C fld) ∧ Binds X.K fd [sf, pt] []) (ob : OexC X.K C) (hr : Room (k + 1) X.A) (hg : Gl X x) (hm : X.mg x = some (.ref C)) (he : PE X e te)
    (hdb : (x == ("__debug__" : Str)) = false := by decide) (hst : starEach (e :: []) X.env = (false, eval e X.env) :: starEach [] X.env := by rfl) (hpl : (backTo pos (starEach [] X.env)).any (·.1) = false := by rfl) : PS X (.Raise (some (.Call (.Name x p) [e] [] pos)) none pos2) (tRzF C fld te W) := by
  obtain ⟨fd, F1, hb⟩ := G
  exact ps_raise hc tk (pmk_oex (dvs := []) (ds := []) ob T.ini T.ty F1 hr hb .nil passL hg hm (pa_cons he pa_nil (hs := hst)) hdb hst hpl)
/-- a op b, by the def of their class, which may raise -/
def tBinF (C : Addr) (sp : Sp) (E : L2.St → XK) (ta tb : TE) : TE := fun σ H Q => ta σ H fun x H1 => tb σ H1 fun y H2 => ∃ a dx fs b dy gs, x = .ref a ∧ y = .ref b ∧ H2 a = some (.ins C dx fs) ∧ H2 b = some (.ins C dy gs) ∧ sp [.ref a, .ref b] H2 Q (E σ)
theorem pe_binF (c : BinO X.K C op f) (F : FnOk X.prog X.w X.K X.mg X.base CX k f fd ps sp) (hr : Room k X.A) (hb : Binds X.K fd ps []) (hx : ∀ σ, PassesAt CX X σ (E σ)) (hl : PE X l ta) (hr2 : PE X r tb) : PE X (.BinOp l op r pos) (tBinF C sp E ta tb) := by
  refine ⟨fun pins s σ H Q I h => wpAny_BinOp (binT hl hr2 I h fun v u s2 x y H2 I2 rx ry ⟨a, dx, fs, b, dy, gs, ex, ey, e1, e2, q⟩ => ?_)⟩
  subst ex ey
  cases rx
  cases ry
  obtain ⟨od, J⟩ := instAt I2 e1
  obtain ⟨od2, J2⟩ := instAt I2 e2
  obtain ⟨m, hF⟩ := I2.fr
  refine PySem.W.binop_K hF I2.ok.mod.kin J J2.type c.sf c.at_ c.fn (thn (run_fnS (us := [.ref a, .ref b]) (vs := [.ref a, .ref b]) F hr hb (hx σ) I2 (.cons rfl (.cons rfl .nil)) q) fun r s' z => ?_)
  obtain ⟨w, H', I', rw_, q'⟩ := z
  exact back_of I' rw_ q'
end
section
variable {W : List Addr} {Hk0 H0 : Hp} {Γ Γ' : Ctx} {Ω Ω' Ω1 Ω2 Ω3 Ωr : List Cell} {T T' : Tm} {σ σ' : L2.St} {Hk H : Hp} {K : PySem.W.Frag}
variable {te ta tb td to : TE} {tt tu : TT} {D : Ends} {e e1 e2 : En} {ts tz : TS} {c : Cell} {S : SigF} {Cl Cx' : Addr} {Wx : WX} {fld : Str} {α : Type} {A : Rp α} {x : α}
theorem s_rzF (a : At W Hk0 H0 Γ Ω T σ H) (h : Ev te Γ Ω (en A x) Ω') (k : ∀ d H', At W Hk0 H0 Γ Ω' ((en (rXd fld A) x, .ref d) :: T) σ H' → Wx (.ref Cl) (some d) σ H') : tRzF Cl fld te Wx D σ H :=
  h W Hk0 H0 T σ H a _ fun v H1 ⟨Hk1, a1⟩ => ⟨by simp, fun o ho => ⟨o, v, rfl, upd_same, fun dx hd hne => ⟨rfl, dx, [(fld, v)], upd_same, by rw [upd_ne hne, upd_same], by rw [upd_ne hne] at hd; exact hd, by
    rw [upd_ne hne] at hd
    have e : upd (del (upd (upd (upd H1 o (exo o Cl none)) dx (exd dx [(fld, v)])) o (exo o Cl (some dx))) o) dx (.xd [(fld, v)]) = upd H1 dx (.xd [(fld, v)]) := by
      funext b
      by_cases h1 : b = dx
      · rw [h1, upd_same, upd_same]
      · rw [upd_ne h1, upd_ne h1]
        by_cases h2 : b = o
        · rw [h2, del_same, ho]
        · rw [del_ne h2, upd_ne h2, upd_ne h1, upd_ne h2]
    rw [e]
    exact k dx _ ⟨_, ((a1.grow (Grow.new a1.gr.kh hd)).sub (T' := T) fun z hz => by simp [hz]).push (e := en (rXd fld A) x) ⟨dx, v, rfl, upd_same, A.mono (Ex.new (a1.gr.kh.back hd)) (a1.tp (en A x, v) (by simp))⟩⟩⟩⟩⟩
def RzF (te : TE) (Γ : Ctx) (Ω : List Cell) (Wx : WX) (Cx' : Addr) (e : En) (Ω' : List Cell) : Prop := ∀ W Hk0 H0 T σ H, At W Hk0 H0 Γ Ω T σ H → (∀ H' d, At W Hk0 H0 Γ Ω' ((e, .ref d) :: T) σ H' → Wx (.ref Cx') (some d) σ H') → ∀ Q : VK, te σ H Q
theorem AtH.callF {es : List En} {vs : List V} {E : XK} {Q : VK} (a : AtH W Hk0 H0 Γ (Ω1 ++ Ω2) (es.zip vs ++ T) σ Hk H) (hl : es.length = vs.length) (hs : S es Ω1 Cx' e Ω') (q : ∀ H' d, At W Hk0 H0 Γ (Ω' ++ Ω2) ((e, .ref d) :: T) σ H' → E (.ref Cx') (some d) H') : spF S vs H Q E := by
  refine ⟨es, Ω1, Cx', e, Ω', Hk, hs, hl, ⟨Hk, { a.lend with tp := fun p hp => a.tp p (by simp [hp]) }⟩, a.gr.kh, fun H' d T' σ' ⟨Hk', b⟩ => ?_⟩
  have b' : AtH (adr Ω1) Hk H [] Ω' ((e, .ref d) :: T') [] Hk' H' := { b with len := rfl, sl := fun i e q => by simp at q }
  exact q H' d ⟨Hk', (a.paid2 b').sub fun p hp => by
    rcases List.mem_cons.mp hp with z | z
    · simp [z]
    · simp [z]⟩
theorem rz_binF (h1 : Ev ta Γ Ω e1 Ω1) (h2 : Ev tb Γ Ω1 e2 Ω2) (i1 : IsIn Cl e1) (i2 : IsIn Cl e2) (hs : S [e1, e2] [] Cx' e []) : RzF (tBinF Cl (spF S) (WE Wx) ta tb) Γ Ω Wx Cx' e Ω2 := fun W Hk0 H0 T σ H a q Q =>
  h1 W Hk0 H0 T σ H a _ fun v H1 a1 => h2 W Hk0 H0 _ σ H1 a1 _ fun u H2 ⟨Hk2, a2⟩ => by
    obtain ⟨p, dx, fs, e1', h1'⟩ := i1 v Hk2 (a2.tp (e1, v) (by simp))
    obtain ⟨p', dx', fs', e2', h2'⟩ := i2 u Hk2 (a2.tp (e2, u) (by simp))
    subst e1' e2'
    have a3 : AtH W Hk0 H0 Γ ([] ++ Ω2) ([e1, e2].zip [.ref p, .ref p'] ++ T) σ Hk2 H2 := a2.sub fun z hz => by (simp at hz; simp; rcases hz with z | z | z <;> simp [z])
    exact ⟨p, dx, fs, p', dx', fs', rfl, rfl, a2.gr.kh.ins h1', a2.gr.kh.ins h2', a3.callF rfl hs fun H' d a' => q H' d a'⟩
/-- try: e, which raises; except C as n: suite -/
theorem s_tryAs {Cy : Addr} {i : Nat} {te : WX → TE} {su : Addr → Value → Option Addr → TS} {Wout : WX} (a : At W Hk0 H0 Γ Ω T σ H) (h : ∀ Wx : WX, RzF (te Wx) Γ Ω Wx Cx' e Ω') (hm : PySem.W.exmOne K (.ref Cx') (.ref Cy) = some true)
    (k : ∀ o d H', At W Hk0 H0 (Γ.set i (some (en rVal (.ref o)))) Ω' ((e, .ref d) :: T) (σ.set i (some (.ref o))) H' →
      su o (.ref Cx') (some d) { nx := fun σ' H' => D.nx (σ'.set i none) H', rt := D.rt, bk := fun σ' H' => D.bk (σ'.set i none) H', ct := fun σ' H' => D.ct (σ'.set i none) H' } (σ.set i (some (.ref o))) H') :
    tSeq (tDrop (te (wAs K (.ref Cy) i su Wout D))) tNext D σ H := h _ W Hk0 H0 T σ H a (fun H' d a' => ⟨true, hm, fun _ o ho => k o d H' (by
      obtain ⟨Hk', a'⟩ := a'
      exact ⟨Hk', (a'.push (e := en rVal (.ref o)) (v := .ref o) rfl).unpush.set i rfl⟩), fun z => by cases z⟩) _
/-- return error.field -/
theorem s_xf {o d : Addr} {i : Nat} (a : At W Hk0 H0 Γ Ω ((en (rXd fld A) x, .ref d) :: T) σ H) (hi : Γ[i]? = some (some (en rVal (.ref o)))) (k : Back W Hk0 H0 (en A x) Ω D.rt) : tRet (tXf o (.ref Cl) (some d) Cl fld (tVar i)) D σ H := by
  obtain ⟨Hk, a⟩ := a
  obtain ⟨v, h1, h2⟩ := a.sl i _ hi
  obtain rfl : v = .ref o := h2
  obtain ⟨d', y, e1, e2, e3⟩ := a.tp (en (rXd fld A) x, .ref d) (by simp)
  cases e1
  exact ⟨_, h1, rfl, rfl, d, [(fld, y)], y, rfl, a.gr.kh d (.xd [(fld, y)]) e2, by simp [List.lookup], k y H T [] (show At W Hk0 H0 [] Ω ((en A x, y) :: T) [] H from At.bare ⟨Hk, ((a.sub (T' := T) fun z hz => by simp [hz]).push (e := en A x) e3)⟩)⟩
end
end KA

/-! comprehensions over a locked dict whose items change cells; dict(pairs) -/
namespace KA
open PySem PySem.Spec PyProof.Rows L2
section
variable {W : List Addr} {Hk0 H0 : Hp} {Γ Γ' : Ctx} {Ω Ω' Ω1 Ω2 Ω3 : List Cell} {T T' : Tm} {σ σ' : L2.St} {Hk H : Hp} {K : PySem.W.Frag} {Bs : List Addr → Hp → Hp → L2.St → Prop}
variable {te ta tb td tf : TE} {tt tu : TT} {D : Ends} {e e1 e2 : En} {b b2 : Bool} {ts tz tbd : TS} {α β γ : Type} {A : Rp α} {B : Rp β} {xs : List α} {n j : Nat} {wi : TI} {es : Nat → En} {g : TG}
theorem ev_lcCX {vs : List Nat} (Γs : Nat → Ctx) (Ωs : Nat → List Cell) (v : Nat → β) (h : EvI Bs wi Γ Ω n es (Ωs 0)) (hn : n ≤ 40000)
    (hg : ∀ i, i < n → TgE g (wipeC Γ vs) (es i) (Γs i) vs) (he : ∀ i D, i < n → Ev te (Γs i) (Ωs i ++ [D]) (en B (v i)) (Ωs (i + 1) ++ [D])) :
    EvX Bs (tLc wi g tYes te vs) Γ Ω (en (rList B) ((List.range n).map v)) (Ωs n) := fun W Hk0 H0 T σ H hB a Q q =>
  h W Hk0 H0 T σ H hB a _ fun J T' H1 ⟨Hk1, a1⟩ ⟨G, Y, w, hGk, hY⟩ Dl hD => by
    have hsl := a1.sl
    have hlen := a1.len
    have hnw : Dl ∉ W := At.notW ⟨Hk1, a1⟩ hD
    have back : ∀ {Ω' : List Cell} {σ' : L2.St} {Γ' : Ctx} {H' : Hp}, At W Hk0 H0 Γ' Ω' (T' ++ (slT Γ σ ++ T)) σ' H' → At W Hk0 H0 (wipeC Γ vs) Ω' (T' ++ (slT Γ σ ++ T)) (wipe σ vs) H' := fun {Ω'} {σ'} {Γ'} {H'} z =>
      z.reslot (by rw [wipe_length, wipeC_len]; exact hlen) fun i e q => by
        obtain ⟨h1, h2⟩ := wipeC_in q
        obtain ⟨u, h3, h4⟩ := slT_in hsl i e h1
        exact ⟨u, by rw [wipe_at h2]; exact h3, by simp [h4]⟩
    have start : At W Hk0 H0 (wipeC Γ vs) (lc B Dl ((List.range 0).map v) :: Ωs 0) (T' ++ (slT Γ σ ++ T)) (wipe σ vs) (upd H1 Dl (.lst [])) := by
      refine ⟨Hk1, AtH.newCell (c := lc B Dl ((List.range 0).map v)) { a1.wipe vs with tp := fun p hp => ?_ } hD rfl ⟨[], rfl, .nil⟩⟩
      simp at hp
      rcases hp with hp | hp | hp
      · exact a1.tp p (by simp [hp])
      · exact slT_ok hlen hsl p hp
      · exact a1.tp p (by simp [hp])
    refine lc_it w (fun i H' => At W Hk0 H0 (wipeC Γ vs) (lc B Dl ((List.range i).map v) :: Ωs i) (T' ++ (slT Γ σ ++ T)) (wipe σ vs) H') start (fun i H' _ ⟨Hk', a'⟩ => hGk Hk' H' (fun p hp => a'.tp p (by simp [hp])) a'.gr.kh a'.gr.hh) ?_ ?_
    · rintro i x H2 H3 hi ⟨Hk', a'⟩ y
      obtain ⟨Hk3, g3, ok⟩ := hY i Hk' H2 x H3 hi (fun p hp => a'.tp p (by simp [hp])) a'.gr.kh y
      refine hg i hi W Hk0 H0 _ _ _ H3 x ⟨Hk3, (a'.grow g3).push ok⟩ _ fun σ2 a2 ⟨ps, hps, es⟩ => ⟨by rw [es, wipe_fold hps, wipe_wipe fun _ h => h], ?_⟩
      show te σ2 H3 _
      refine he i _ hi W Hk0 H0 _ σ2 H3 (a2.perm (List.perm_append_singleton _ _).symm) _ fun y H5 a5 => ?_
      obtain ⟨acc, h1, h2, a6⟩ := (a5.perm (List.perm_append_singleton _ _)).append
      refine ⟨acc, h1, ?_, ?_⟩
      · rw [h2, List.length_map, List.length_range]
        exact Evl.sz_lt (by omega)
      · rw [List.range_succ, List.map_append]
        exact back a6
    · intro H' a'
      refine q (.ref Dl) H' ((a'.freeL hnw).reslot (T := (en (rList B) ((List.range n).map v), .ref Dl) :: (T' ++ (slT Γ σ ++ T))) hlen (fun i e q => ?_) |>.sub fun p hp => ?_)
      · obtain ⟨u, h3, h4⟩ := slT_in hsl i e q
        exact ⟨u, h3, by simp [h4]⟩
      · simp at hp ⊢
        rcases hp with hp | hp
        · exact .inl hp
        · exact .inr (.inr (.inr hp))
theorem merge_all {m : List (Str × α)} {kvs : List (Key × V)} (h : AlD A H m kvs) : ∀ {m0 : List (Str × α)} {acc : List (Key × V)}, AlD A H m0 acc → ((m0 ++ m).map (·.1)).Nodup → mergeK acc kvs = acc ++ kvs := by
  induction h with
  | nil => intro m0 acc _ _; simp [mergeK]
  | @cons k x v m kvs hx _ ih =>
    intro m0 acc h0 nd
    have hn : m0.lookup k = none := lookup_no fun q hq z => by
      rw [List.map_append, List.nodup_append] at nd
      exact nd.2.2 q.1 (List.mem_map.mpr ⟨q, hq, rfl⟩) k (by simp) z
    obtain ⟨p1, p2⟩ := h0.put hn hx
    show mergeK (putK acc (Sum.inr k) v) kvs = _
    rw [p1, ih p2 (by rw [List.append_assoc]; exact nd), List.append_assoc]
    rfl
def rDictP (K : PySem.W.Frag) : List V → Hp → VK → Prop := fun xs H Q => ∃ (a : Addr) (ps : List Addr) (kvs : List (Key × V)), xs = [.ref a] ∧ SqL K H a (ps.map V.ref) ∧ Paired (fun p kv => SqT K H p [kV kv.1, kv.2]) ps kvs ∧ ∀ p, H p = none → Q (.ref p) (upd H p (.dK (mergeK [] kvs)))
/-- dict([(k, v), ..]) -/
theorem rc_dictP {m : List (Str × α)} (nd : (m.map (·.1)).Nodup) : RcE (rDictP K) [en (rList (rPair K rStr A)) m] (en (rDict A) m) := fun Hk H vs k o Q q => by
  obtain ⟨v, rfl, o1⟩ := ok1 o
  obtain ⟨p, ys, rfl, hp, al⟩ := (show (rList (rPair K rStr A)).r m v Hk from o1)
  have get : ∀ {m : List (Str × α)} {ys : List V}, Al (rPair K rStr A) Hk m ys → ∃ (ps : List Addr) (kvs : List (Key × V)), ys = ps.map V.ref ∧ Paired (fun p kv => SqT K H p [kV kv.1, kv.2]) ps kvs ∧ AlD A Hk m kvs := by
    intro m ys h
    induction h with
    | nil => exact ⟨[], [], rfl, .nil, .nil⟩
    | @cons x v xs vs hx _ ih =>
      obtain ⟨ps, kvs, e1, e2, e3⟩ := ih
      obtain ⟨a, y, z, h1, h2, h3, h4⟩ := hx
      obtain ⟨x1, x2⟩ := x
      have h3 : y = .str x1 := h3
      subst h1 h3
      exact ⟨a :: ps, (Sum.inr x1, z) :: kvs, by rw [e1]; rfl, .cons (ex_t k h2) e2, .cons h4 e3⟩
  obtain ⟨ps, kvs, e1, e2, e3⟩ := get al
  refine ⟨p, ps, kvs, rfl, .inl (.inl (by rw [← e1]; exact k.lst hp)), e2, fun d hd => ?_⟩
  rw [merge_all e3 (m0 := []) .nil nd]
  exact q _ _ _ (Grow.new k hd) ⟨d, kvs, rfl, .inl upd_same, e3.mono (Ex.new (k.back hd))⟩
/-- what is said beforehand, after all -/
theorem evr_of (h : Ev te Γ Ω e Ω1) : EvR te Γ Ω fun e' Ω' => e' = e ∧ Ω' = Ω1 := fun W Hk0 H0 T σ H a Q q => h W Hk0 H0 T σ H a Q fun v H' a' => q e Ω1 v H' ⟨rfl, rfl⟩ a'
theorem evr_callW {S : SigW} {E : XK} {t : TA} {es : List En} {R : En → List Cell → Prop} (h : EvA t Γ Ω es (Ω1 ++ Ω2)) (hs : S es Ω1 R) : EvR (tCall (spW S) [] E t) Γ Ω fun e Ω' => ∃ Ωx, R e Ωx ∧ Ω' = Ωx ++ Ω2 := fun W Hk0 H0 T σ H a Q q =>
  h W Hk0 H0 T σ H a _ fun vs H1 hl ⟨Hk1, a1⟩ => by
    rw [List.append_nil]
    exact a1.callW hl hs fun e Ω' v H' r a' => q e (Ω' ++ Ω2) v H' ⟨Ω', r, rfl⟩ a'
/-- x, y, z = a, {}, c -/
theorem q_parD3 {i j l : Nat} (a : At W Hk0 H0 Γ Ω T σ H) (A : Rp α) (h1 : Ev ta Γ Ω e1 Ω1) (h : ∀ p, Ev te Γ (dc A p [] :: Ω1) e (dc A p [] :: Ω2)) (k : ∀ p σ' H', p ∉ W → At W Hk0 H0 (((Γ.set i (some e1)).set j (some (en rVal (.ref p)))).set l (some e)) (dc A p [] :: Ω2) T σ' H' → tz D σ' H') :
    tSeq (tPar3 i j l (tCons ta (tCons tDNewK (tCons te tNil)))) tz D σ H := h1 W Hk0 H0 T σ H a _ fun u H1 ⟨Hk1, a1⟩ p hp => by
  have b := a1.newCell (c := dc A p []) (o := .dK []) hp rfl ⟨[], rfl, .nil⟩
  have hw := At.notW ⟨Hk1, a1⟩ hp
  refine h p W Hk0 H0 _ σ _ ⟨Hk1, b⟩ _ fun v H' ⟨Hk', a'⟩ => ?_
  exact ⟨u, .ref p, v, rfl, k p _ _ hw ⟨Hk', (((a'.sub (T' := T) fun z hz => by simp [hz]).set (e := e1) i (a'.tp (e1, u) (by simp))).set (e := en rVal (.ref p)) j rfl).set (e := e) l (a'.tp (e, v) (by simp))⟩⟩
/-- x, y = a, b, not said beforehand, by way of the tuple -/
theorem q_tup2R {ta : TA} {g : TG} {vars : List Nat} {i j : Nat} {R : List En → List Cell → Prop} (a : At W Hk0 H0 Γ Ω T σ H) (h : EvRA ta Γ Ω R) (hR : ∀ es Ω', R es Ω' → ∃ e1 e2, es = [e1, e2]) (hg : ∀ e1 e2 : En, TgE g Γ (en (rPair K e1.A e2.A) (e1.x, e2.x)) ((Γ.set i (some e1)).set j (some e2)) vars)
    (k : ∀ e1 e2 Ω' σ' H', R [e1, e2] Ω' → At W Hk0 H0 ((Γ.set i (some e1)).set j (some e2)) Ω' T σ' H' → tz D σ' H') : tSeq (tAsg (tTup ta) g) tz D σ H := h W Hk0 H0 T σ H a _ fun es Ω' vs H' hl r ⟨Hk1, a1⟩ => by
  obtain ⟨e1, e2, rfl⟩ := hR es Ω' r
  match vs, hl with
  | [v, w], _ =>
    refine ⟨by show (2 : Nat) ≤ _; decide, fun p hp => ?_⟩
    have g0 : Grow [] Hk1 H' (upd Hk1 p (.tup [v, w])) (upd H' p (.tup [v, w])) := Grow.new a1.gr.kh hp
    have b := ((a1.grow g0).sub (T' := T) fun z hz => by simp [hz]).push (e := en (rPair K e1.A e2.A) (e1.x, e2.x)) (v := .ref p) ⟨p, v, w, rfl, .inl (.inl upd_same), En.mono g0.kk (a1.tp (e1, v) (by simp)), En.mono g0.kk (a1.tp (e2, w) (by simp))⟩
    exact hg e1 e2 _ _ _ _ _ _ _ _ ⟨_, b⟩ _ fun σ' a' _ => k e1 e2 Ω' σ' _ r a'
/-- d[k], a dict of one's own -/
theorem ev_dgetC {p : Addr} {i : Nat} {m : List (Str × α)} {nm : Str} {x : α} (hi : Γ[i]? = some (some (en rVal (.ref p)))) (h2 : Ev ta Γ (dc A p m :: Ω) (en rStr nm) (dc A p m :: Ω)) (hm : m.lookup nm = some x) : Ev (tDGet (tVar i) ta) Γ (dc A p m :: Ω) (en A x) (dc A p m :: Ω) := fun W Hk0 H0 T σ H a Q q => by
  obtain ⟨Hk, a0⟩ := id a
  obtain ⟨v, g1, g2⟩ := a0.sl i _ hi
  obtain rfl : v = .ref p := g2
  refine ⟨_, g1, h2 W Hk0 H0 T σ H a _ fun y H2 ⟨Hk2, a2⟩ => ?_⟩
  obtain ⟨_, ⟨o, g3, kvs, rfl, al⟩, _⟩ := a2.cl _ (List.mem_cons_self ..)
  have hy : y = .str nm := a2.tp (en rStr nm, y) (by simp)
  obtain ⟨u, e1, e2⟩ := al.yes hm
  exact ⟨p, u, rfl, .inl ⟨kvs, Sum.inr nm, .inl g3, hy, e1.symm⟩, q u H2 ⟨Hk2, (a2.sub (T' := T) fun z hz => by simp [hz]).push e2⟩⟩
end
theorem laterT_len (m : List (Str × Jb)) (x : Int) : (laterT m x).length = m.length := by unfold laterT; rw [List.length_map]
theorem laterT_names (m : List (Str × Jb)) (x : Int) : (laterT m x).map (·.1) = m.map (·.1) := by unfold laterT; rw [List.map_map]; rfl
theorem laterT_getD {m : List (Str × Jb)} {x : Int} {i : Nat} (h : i < m.length) : (laterT m x).getD i default = ((m.getD i default).1, (m.getD i default).2.shift x) := by
  rw [List.getD_eq_getElem?_getD, laterT, List.getElem?_map, getD_at h]
  rfl
theorem TbOk.swap {m l : List (Str × Jb)} (h : TbOk (m ++ l)) : TbOk (l ++ m) := by
  have p : (l ++ m).Perm (m ++ l) := List.perm_append_comm
  refine ⟨by rw [p.length_eq]; exact h.n1, by rw [p.length_eq]; exact h.n4, (p.map _).nodup_iff.mpr h.nd, fun q hq => h.nm q (p.mem_iff.mp hq), ?_⟩
  rw [prodP_append, Int.mul_comm, ← prodP_append]
  exact h.pr
theorem lookup_mem {α : Type} {m : List (Str × α)} (nd : (m.map (·.1)).Nodup) {q : Str × α} (h : q ∈ m) : m.lookup q.1 = some q.2 := by
  obtain ⟨i, hi⟩ := List.mem_iff_getElem?.mp h
  exact lookup_get nd hi
/-- a plan that is cut, the parts in the other order: another plan -/
theorem cut_ne {m : List (Str × Jb)} (h : TbOk m) {n : Nat} (h1 : 1 ≤ n) (h2 : n < m.length) : decide (m = m.drop n ++ m.take n) = false := by
  rw [decide_eq_false_iff_not]
  intro e
  have e0 : m[0]? = (m.drop n ++ m.take n)[0]? := congrArg (fun z => z[0]?) e
  rw [List.getElem?_append_left (by rw [List.length_drop]; omega), List.getElem?_drop] at e0
  have g : (m.map (·.1))[0]? = (m.map (·.1))[n + 0]? := by rw [List.getElem?_map, List.getElem?_map, e0]
  have := (List.getElem?_inj (by rw [List.length_map]; omega) h.nd).mp g
  omega
end KA

/-! cycles, loads, stretches without a job -/
namespace KA
open PySem PySem.Spec PyProof.Rows L2
section
variable {W : List Addr} {Hk0 H0 : Hp} {Γ Γ' : Ctx} {Ω Ω' Ω1 Ω2 Ω3 : List Cell} {T T' : Tm} {σ σ' : L2.St} {Hk H : Hp} {K : PySem.W.Frag} {te ta tb td tf : TE} {tt tu : TT} {D : Ends} {tz : TS} {α : Type} {A : Rp α} {xs : List α}
/-- n += e -/
theorem s_augI {i : Nat} {x y : Int} (a : At W Hk0 H0 Γ Ω T σ H) (hi : Γ[i]? = some (some (en rInt x))) (h : Ev te Γ Ω (en rInt y) Ω1) (k : ∀ σ' H', At W Hk0 H0 (Γ.set i (some (en rInt (x + y)))) Ω1 T σ' H' → D.nx σ' H') : tAug i te (ipI fun i j => i + j) D σ H := by
  obtain ⟨Hk, a0⟩ := id a
  obtain ⟨v, h1, h2⟩ := a0.sl i _ hi
  obtain rfl : v = .int x := h2
  refine ⟨_, h1, h W Hk0 H0 T σ H a _ fun w H1 ⟨Hk1, a1⟩ => ?_⟩
  obtain rfl : w = .int y := a1.tp (en rInt y, w) (by simp)
  exact ⟨x, y, rfl, rfl, k _ H1 ⟨Hk1, (a1.unpush).set (e := en rInt (x + y)) i rfl⟩⟩
/-- xs[i], i from the end -/
theorem rv_ixLn {i : Int} {x : α} (hi : i < 0) (h0 : 0 ≤ (xs.length : Int) + i) (h : xs[((xs.length : Int) + i).toNat]? = some x) : RvE (rIxL K) (en (rList A) xs) (en rInt i) (en A x) := fun Hk H u y k h1 h2 Q q => by
  obtain ⟨p, vs, hu, hp, al⟩ := (show (rList A).r xs u Hk from h1)
  cases (show y = V.int i from h2)
  have hl := al.len
  obtain ⟨v, e1, e2⟩ := al.get h
  refine ⟨p, vs, i, v, hu, rfl, Evl.sq_of (k.lst hp), ?_, q v Hk H (.refl k) e2⟩
  have e : ixN vs.length i = some ((xs.length : Int) + i).toNat := by
    unfold ixN
    rw [if_neg (by omega), if_pos (by omega), hl, Int.add_comm]
  unfold atI
  rw [e]
  exact e1
end
/-- o(..), for places where the context is not fixed -/
def tCallI (C : Addr) (sp : Sp) (E : XK) (tf : TE) (t : TA) : TE := fun σ H Q => tf σ H fun y H1 => ∃ a, y = V.ref a ∧ t σ H1 fun vs H2 => ((∃ dx vs, SlX.Slt H2 a C dx vs) ∨ ∃ dx fs, H2 a = some (.ins C dx fs)) ∧ sp (V.ref a :: vs) H2 Q E
theorem pe_callI {X : Cx} {CX : CXT} {k : Nat} {C g : Addr} {sp : Sp} {E : XK} {fe e : Expr} {es : List Expr} {pos : Pos} {tf : TE} {t : TA} (hf : PE X fe tf) (c : StX.CallO X.K C g) (F : FnR X.prog X.w X.K X.mg X.base CX k g sp) (hr : Room k X.A) (hx : Passes CX X E) (ha : PA X (e :: es) t)
    (ht : eval (.Call fe (e :: es) [] pos) X.env = (do callWith pos (← eval fe X.env) [] (backTo pos (starEach (e :: es) X.env)) (backToKw pos (keywordEach [] X.env))) := by rfl)
    (hst : starEach (e :: es) X.env = (false, eval e X.env) :: starEach es X.env := by rfl) (hpp : (backTo pos (starEach es X.env)).any (·.1) = false := by rfl) : PE X (.Call fe (e :: es) [] pos) (tCallI C sp E tf t) := StX.pe_callO hf c F hr hx ha ht hst hpp
section
variable {W : List Addr} {Hk0 H0 : Hp} {Γ Γ' : Ctx} {Ω Ω' Ω1 Ω2 Ω3 : List Cell} {T T' : Tm} {σ σ' : L2.St} {Hk H : Hp} {te ta tb td tf : TE} {e e1 e2 : En}
/-- o(..) -/
theorem ev_callI {S : Sig} {Cl : Addr} {E : XK} {t : TA} {es : List En} (hi : IsIn Cl e1) (h : Ev tf Γ Ω e1 Ω1) (ha : EvA t Γ Ω1 es Ω2) (hs : S (e1 :: es) e) : Ev (tCallI Cl (fun vs H Q E => spS S (vs ++ []) H Q E) E tf t) Γ Ω e Ω2 := fun W Hk0 H0 T σ H a Q q =>
  h W Hk0 H0 T σ H a _ fun v H1 a1 => by
    have : ∃ p dx fs, v = .ref p ∧ H1 p = some (.ins Cl dx fs) := by
      obtain ⟨Hk1, a1⟩ := a1
      obtain ⟨p, dx, fs, hv, hp⟩ := hi v Hk1 (a1.tp (e1, v) (by simp))
      exact ⟨p, dx, fs, hv, a1.gr.kh.ins hp⟩
    obtain ⟨p, dx, fs, hv, hp⟩ := this
    refine ⟨p, hv, ha W Hk0 H0 _ σ H1 a1 _ fun vs H2 hlv ⟨Hk2, a2⟩ => ?_⟩
    have o1 : e1.ok v Hk2 := a2.tp (e1, v) (by simp)
    obtain ⟨p2, dx2, fs2, hv2, hp2⟩ := hi v Hk2 o1
    have ep : p2 = p := by rw [hv] at hv2; cases hv2; rfl
    subst ep
    have o : OkAll (e1 :: es) (.ref p2 :: vs ++ []) Hk2 := by rw [List.append_nil, ← hv]; exact ⟨o1, .of_zip hlv fun z hz => a2.tp z (by simp [hz])⟩
    exact ⟨.inr ⟨dx2, fs2, a2.gr.kh.ins hp2⟩, e1 :: es, e, Hk2, hs, a2.gr.kh, o, fun w Hk' H' g ok => q w H' ⟨Hk', ((a2.grow g).sub (T' := T) fun z hz => by simp [hz]).push ok⟩⟩
end
/-! ### cycles -/
def cycTo (m : List (Str × Jb)) (i : Nat) : Nat := (m.take i).foldl (fun a p => Nat.lcm a p.2.per.natAbs) 1
def cycT (m : List (Str × Jb)) : Nat := cycTo m m.length
theorem cycTo_succ {m : List (Str × Jb)} {i : Nat} (h : i < m.length) : cycTo m (i + 1) = Nat.lcm (cycTo m i) (m.getD i default).2.per.natAbs := by
  unfold cycTo
  rw [take_succD h, List.foldl_append]
  rfl
theorem cycTo_pos (m : List (Str × Jb)) : ∀ i, i ≤ m.length → 0 < cycTo m i
  | 0, _ => by unfold cycTo; simp
  | i + 1, h => by
    rw [cycTo_succ (by omega)]
    have hj := (m.getD i default).2.ok
    exact Nat.lcm_pos (cycTo_pos m i (by omega)) (by omega)
theorem cycTo_le (m : List (Str × Jb)) : ∀ i, i ≤ m.length → (cycTo m i : Int) ≤ prodP (m.take i)
  | 0, _ => by unfold cycTo prodP; simp
  | i + 1, h => by
    rw [cycTo_succ (by omega), ← prodP_take (by omega)]
    have hj := (m.getD i default).2.ok
    have h1 := cycTo_le m i (by omega)
    have h2 : Nat.lcm (cycTo m i) (m.getD i default).2.per.natAbs ≤ cycTo m i * (m.getD i default).2.per.natAbs := Nat.le_of_dvd (Nat.mul_pos (cycTo_pos m i (by omega)) (by omega)) (Nat.lcm_dvd_mul _ _)
    have h3 : ((cycTo m i * (m.getD i default).2.per.natAbs : Nat) : Int) = (cycTo m i : Int) * (m.getD i default).2.per := by
      rw [Int.natCast_mul, Int.natAbs_of_nonneg (by omega)]
    have h4 := Int.mul_le_mul_of_nonneg_right h1 (show 0 ≤ (m.getD i default).2.per by omega)
    omega
theorem cycTo_small {m : List (Str × Jb)} (h : TbOk m) {i : Nat} (hi : i ≤ m.length) : cycTo m i ≤ 2000 := by
  have h1 := cycTo_le m i hi
  have h2 := prodP_le (m := m) i
  have h3 := h.pr
  omega
theorem cycTo_least {m : List (Str × Jb)} {n : Nat} (h : ∀ p ∈ m, p.2.per.natAbs ∣ n) : ∀ i, i ≤ m.length → cycTo m i ∣ n
  | 0, _ => by unfold cycTo; simp
  | i + 1, hi => by
    rw [cycTo_succ (by omega)]
    exact Nat.lcm_dvd (cycTo_least h i (by omega)) (h _ (mem_getD (by omega)))
theorem cycTo_dvd {m : List (Str × Jb)} {k : Nat} : ∀ i, k < i → i ≤ m.length → (m.getD k default).2.per.natAbs ∣ cycTo m i
  | 0, h, _ => by omega
  | i + 1, h, hi => by
    rw [cycTo_succ (by omega)]
    by_cases z : k = i
    · rw [z]; exact Nat.dvd_lcm_right _ _
    · exact Nat.dvd_trans (cycTo_dvd i (by omega) (by omega)) (Nat.dvd_lcm_left _ _)
theorem cycT_pos (m : List (Str × Jb)) : 0 < cycT m := cycTo_pos m _ (Nat.le_refl _)
theorem cycT_small {m : List (Str × Jb)} (h : TbOk m) : cycT m ≤ 2000 := cycTo_small h (Nat.le_refl _)
/-- all periods go into n iff the cycle does -/
theorem cycT_iff (m : List (Str × Jb)) (n : Nat) : ((m.map fun p => decide ((n : Int) % p.2.per = 0)).all id = true) ↔ cycT m ∣ n := by
  rw [List.all_eq_true]
  constructor
  · intro h
    refine cycTo_least (fun p hp => ?_) _ (Nat.le_refl _)
    have := h _ (List.mem_map.mpr ⟨p, hp, rfl⟩)
    have hj := p.2.ok
    have e : (n : Int) % p.2.per = 0 := by simpa using this
    have : p.2.per ∣ (n : Int) := Int.dvd_of_emod_eq_zero e
    have := Int.natAbs_dvd_natAbs.mpr this
    simpa using this
  · intro h b hb
    obtain ⟨p, hp, rfl⟩ := List.mem_map.mp hb
    obtain ⟨k, hk⟩ := List.mem_iff_getElem?.mp hp
    have hkl := (List.getElem?_eq_some_iff.mp hk).1
    have hd := cycTo_dvd (m := m) (k := k) m.length hkl (Nat.le_refl _)
    have e : m.getD k default = p := by rw [List.getD_eq_getElem?_getD, hk]; rfl
    rw [e] at hd
    have hj := p.2.ok
    have : p.2.per ∣ (n : Int) := by
      have := Int.natCast_dvd_natCast.mpr (Nat.dvd_trans hd h)
      rwa [Int.natAbs_of_nonneg (by omega)] at this
    simpa using Int.emod_eq_zero_of_dvd this
def loadT (m : List (Str × Jb)) (t : Nat) : Int := ((runAt m (t : Int)).length : Int)
def loadsT (m : List (Str × Jb)) : List Int := (List.range (cycT m)).map (loadT m)
theorem loadsT_len (m : List (Str × Jb)) : (loadsT m).length = cycT m := by unfold loadsT; simp
theorem loadsT_nn {m : List (Str × Jb)} {x : Int} (h : x ∈ loadsT m) : 0 ≤ x := by
  obtain ⟨t, _, rfl⟩ := List.mem_map.mp h
  unfold loadT
  omega
/-! ### times without a job -/
/-- the k-th time behind t -/
def roundG (xs : List Int) (t k : Nat) : Int := xs.getD ((t + k) % xs.length) 0
def idleT (xs : List Int) (t : Nat) : Nat := (firstAt (fun k => !decide (roundG xs t k = 0)) xs.length).getD 0
theorem idle_spec {xs : List Int} {t : Nat} (h : ∃ k, k < xs.length ∧ roundG xs t k ≠ 0) : idleT xs t < xs.length ∧ roundG xs t (idleT xs t) ≠ 0 ∧ ∀ k, k < idleT xs t → roundG xs t k = 0 := by
  unfold idleT
  cases e : firstAt (fun k => !decide (roundG xs t k = 0)) xs.length with
  | none =>
    obtain ⟨k, hk, h2⟩ := h
    have := firstAt_none' e k hk
    simp at this
    exact (h2 this).elim
  | some i =>
    obtain ⟨h1, h2, h3⟩ := firstAt_spec e
    refine ⟨h1, by simpa using h2, fun k hk => ?_⟩
    have := h3 k hk
    simpa using this
/-! ### the greatest load, its first time -/
def maxI : List Int → Int
  | [] => 0
  | [x] => x
  | x :: y :: r => max x (maxI (y :: r))
theorem maxI_spec : ∀ {xs : List Int}, xs ≠ [] → maxI xs ∈ xs ∧ ∀ y ∈ xs, y ≤ maxI xs
  | [], h => (h rfl).elim
  | [x], _ => ⟨by simp [maxI], fun y hy => by rw [List.mem_singleton.mp hy]; exact Int.le_refl _⟩
  | x :: y :: r, _ => by
    obtain ⟨h1, h2⟩ := maxI_spec (xs := y :: r) (by simp)
    show max x (maxI (y :: r)) ∈ x :: y :: r ∧ ∀ z ∈ x :: y :: r, z ≤ max x (maxI (y :: r))
    refine ⟨?_, fun z hz => ?_⟩
    · by_cases c : x ≤ maxI (y :: r)
      · rw [Int.max_eq_right c]
        exact List.mem_cons_of_mem _ h1
      · rw [Int.max_eq_left (by omega)]
        exact List.mem_cons_self ..
    · rcases List.mem_cons.mp hz with rfl | hz
      · omega
      · have := h2 z hz
        omega
theorem maxI_eq {xs : List Int} {m : Int} (h1 : m ∈ xs) (h2 : ∀ y ∈ xs, y ≤ m) : maxI xs = m := by
  have hne : xs ≠ [] := fun e => by rw [e] at h1; cases h1
  obtain ⟨g1, g2⟩ := maxI_spec hne
  have := h2 _ g1
  have := g2 _ h1
  omega
/-- its first place -/
def topI (xs : List Int) : Nat := (firstAt (fun k => decide (xs.getD k 0 = maxI xs)) xs.length).getD 0
theorem topI_spec {xs : List Int} (h : xs ≠ []) : topI xs < xs.length ∧ xs.getD (topI xs) 0 = maxI xs ∧ ∀ k, k < topI xs → xs.getD k 0 ≠ maxI xs := by
  unfold topI
  cases e : firstAt (fun k => decide (xs.getD k 0 = maxI xs)) xs.length with
  | none =>
    obtain ⟨i, hi⟩ := List.mem_iff_getElem?.mp (maxI_spec h).1
    have hl := (List.getElem?_eq_some_iff.mp hi).1
    have := firstAt_none' e i hl
    rw [List.getD_eq_getElem?_getD, hi] at this
    simp at this
  | some i =>
    obtain ⟨h1, h2, h3⟩ := firstAt_spec e
    exact ⟨h1, by simpa using h2, fun k hk => by simpa using h3 k hk⟩
section
variable {W : List Addr} {Hk0 H0 : Hp} {Γ Γ' : Ctx} {Ω Ω' Ω1 Ω2 Ω3 : List Cell} {T T' : Tm} {σ σ' : L2.St} {Hk H : Hp} {K : PySem.W.Frag} {te ta tb td tf : TE} {xs : List Int}
theorem rc_max (h : xs ≠ []) : RcE (rMax K) [en (rList rInt) xs] (en rInt (maxI xs)) := fun Hk H vs k o Q q => by
  obtain ⟨v, rfl, o1⟩ := ok1 o
  obtain ⟨p, ws, hu, hp, al⟩ := (show (rList rInt).r xs v Hk from o1)
  refine ⟨p, xs, by rw [hu], by rw [← al.map_int]; exact Evl.sq_of (k.lst hp), by cases xs with | nil => exact (h rfl).elim | cons _ _ => simp, fun m h1 h2 => ?_⟩
  rw [← maxI_eq h1 h2] at *
  exact q _ Hk H (.refl k) rfl
/-- numbers.index(n) -/
theorem ev_indexI {z : Int} {j : Nat} (ho : Ev ta Γ Ω (en (rList rInt) xs) Ω1) (hz : Ev tb Γ Ω1 (en rInt z) Ω2) (hj : xs[j]? = some z) (hb : ∀ m x, m < j → xs[m]? = some x → x ≠ z) : Ev (tBM K "list" (rIndex K) ta (tCons tb tNil)) Γ Ω (en rInt (j : Int)) Ω2 := fun W Hk0 H0 T σ H a Q q =>
  ho W Hk0 H0 T σ H a _ fun x H1 a1 => by
    have : tyV K "list" x H1 := by
      obtain ⟨Hk1, a1⟩ := a1
      obtain ⟨p, vs, rfl, hp, al⟩ := (show (rList rInt).r xs x Hk1 from a1.tp (en (rList rInt) xs, x) (by simp))
      exact .inl ⟨rfl, vs, Evl.sq_of (a1.gr.kh.lst hp)⟩
    refine ⟨this, hz W Hk0 H0 _ σ H1 a1 _ fun y H2 ⟨Hk2, a2⟩ => ?_⟩
    obtain ⟨p, vs, hx, hp, al⟩ := (show (rList rInt).r xs x Hk2 from a2.tp (en (rList rInt) xs, x) (by simp))
    have hy : y = .int z := a2.tp (en rInt z, y) (by simp)
    have hv := al.map_int
    subst hv
    refine ⟨p, _, y, j, .int z, hx, rfl, Evl.sq_of (a2.gr.kh.lst hp), by rw [hy]; rfl, List.all_eq_true.mpr fun v hv => by (obtain ⟨s, _, rfl⟩ := List.mem_map.mp hv; rfl), by rw [List.getElem?_map, hj]; rfl, by rw [hy]; exact decide_eq_true rfl, fun m z' hm hz' => ?_, q _ H2 ⟨Hk2, (a2.sub (T' := T) fun w hw => by simp [hw]).push rfl⟩⟩
    rw [List.getElem?_map] at hz'
    obtain ⟨w, e1, rfl⟩ := Option.map_eq_some_iff.mp hz'
    rw [hy]
    exact decide_eq_false (hb m w hm e1)
end
/-! ### room -/
def conflictT (m : List (Str × Jb)) (j : Jb) : Option (Str × Int) := m.findSome? fun p => (commonT p.2 j).map fun t => (p.1, t)
theorem conflict_some {m : List (Str × Jb)} {j : Jb} {i : Nat} {t : Int} (hi : i < m.length) (ht : commonT (m.getD i default).2 j = some t) (hb : ∀ k, k < i → commonT (m.getD k default).2 j = none) : conflictT m j = some ((m.getD i default).1, t) := by
  unfold conflictT
  induction m generalizing i with
  | nil => simp at hi
  | cons p m ih =>
    rw [List.findSome?_cons]
    cases i with
    | zero =>
      have ht : commonT p.2 j = some t := ht
      rw [ht]
      rfl
    | succ i =>
      have h0 : commonT p.2 j = none := hb 0 (by omega)
      rw [h0]
      exact ih (i := i) (by simpa using hi) ht fun k hk => hb (k + 1) (by omega)
theorem conflict_none {m : List (Str × Jb)} {j : Jb} (hb : ∀ k, k < m.length → commonT (m.getD k default).2 j = none) : conflictT m j = none := by
  unfold conflictT
  rw [List.findSome?_eq_none_iff]
  intro p hp
  obtain ⟨k, hk⟩ := List.mem_iff_getElem?.mp hp
  have h := hb k (List.getElem?_eq_some_iff.mp hk).1
  rw [List.getD_eq_getElem?_getD, hk] at h
  rw [show commonT p.2 j = none from h]
  rfl
/-! ### stretches -/
def prevL (xs : List Int) (t : Nat) : Int := if t = 0 then xs.getD (xs.length - 1) 0 else xs.getD (t - 1) 0
def stAt (xs : List Int) (t : Nat) : Bool := decide (xs.getD t 0 = 0) && decide (0 < prevL xs t)
def stTo (xs : List Int) (n : Nat) : List (Int × Int) := ((List.range n).filter (stAt xs)).map fun t : Nat => ((t : Int), ((idleT xs t : Nat) : Int))
def stT (xs : List Int) : List (Int × Int) := stTo xs xs.length
theorem stTo_len (xs : List Int) (n : Nat) : (stTo xs n).length ≤ n := by
  unfold stTo
  rw [List.length_map]
  exact Nat.le_trans (List.length_filter_le _ _) (by simp)
theorem stTo_succ (xs : List Int) (n : Nat) : stTo xs (n + 1) = stTo xs n ++ (if stAt xs n = true then [((n : Int), ((idleT xs n : Nat) : Int))] else []) := by
  unfold stTo
  rw [List.range_succ, List.filter_append, List.map_append]
  congr 1
  by_cases h : stAt xs n = true
  · rw [if_pos h, List.filter_cons_of_pos h]
    rfl
  · rw [if_neg h, List.filter_cons_of_neg h]
    rfl
/-- a stretch ends -/
theorem st_ends {xs : List Int} {t : Nat} (ht : t < xs.length) (h : 0 < prevL xs t) : ∃ k, k < xs.length ∧ roundG xs t k ≠ 0 := by
  refine ⟨xs.length - 1, by omega, ?_⟩
  have e : (t + (xs.length - 1)) % xs.length = if t = 0 then xs.length - 1 else t - 1 := by
    by_cases z : t = 0
    · rw [if_pos z, z, Nat.zero_add, Nat.mod_eq_of_lt (by omega)]
    · rw [if_neg z, show t + (xs.length - 1) = (t - 1) + xs.length by omega, Nat.add_mod_right, Nat.mod_eq_of_lt (by omega)]
  unfold roundG
  rw [e]
  unfold prevL at h
  by_cases z : t = 0
  · rw [if_pos z] at h ⊢
    omega
  · rw [if_neg z] at h ⊢
    omega
section
variable {W : List Addr} {Hk0 H0 : Hp} {Γ Γ' : Ctx} {Ω Ω' Ω1 Ω2 Ω3 : List Cell} {T T' : Tm} {K : PySem.W.Frag} {te ta tb : TE} {xs : List Int}
/-- loads[time - 1] -/
theorem ev_prev {t : Nat} (ht : t < xs.length) (h1 : Ev ta Γ Ω (en (rList rInt) xs) Ω1) (h2 : Ev tb Γ Ω1 (en rInt ((t : Int) - 1)) Ω2) : Ev (tOp (rIxL K) ta tb) Γ Ω (en rInt (prevL xs t)) Ω2 := by
  unfold prevL
  by_cases z : t = 0
  · rw [if_pos z]
    refine ev_op h1 h2 (rv_ixLn (by omega) (by omega) ?_)
    rw [show ((xs.length : Int) + ((t : Int) - 1)).toNat = xs.length - 1 by omega, List.getD_eq_getElem?_getD, List.getElem?_eq_getElem (show xs.length - 1 < xs.length by omega)]
    rfl
  · rw [if_neg z]
    refine ev_op h1 h2 (rv_ixL (by omega) ?_)
    rw [show ((t : Int) - 1).toNat = t - 1 by omega, List.getD_eq_getElem?_getD, List.getElem?_eq_getElem (show t - 1 < xs.length by omega)]
    rfl
end
/-! ### values that may lack, as data -/
def datO {K : PySem.W.Frag} {α : Type} {A : Rp α} (d : Dat K A) (h1 : ∀ x, PyData.eqv .none (d.enc x) = false) (h2 : ∀ x, PyData.eqv (d.enc x) .none = false) : Dat K (rOpt A) where
  enc := fun o => match o with
    | none => .none
    | some x => d.enc x
  good := fun o => match o with
    | none => true
    | some x => d.good x
  dep := d.dep
  dp := fun {o v H} h => by
    cases o with
    | none => cases (show v = .non from h); exact .non
    | some x => exact d.dp h
  lay := fun o h => by
    cases o with
    | none => rfl
    | some x => exact d.lay x h
  dle := fun o => by
    cases o with
    | none => exact Nat.zero_le _
    | some x => exact d.dle x
  inj := fun a b => by
    cases a with
    | none => cases b with
      | none => simp [PyData.eqv]
      | some y => simp [h1]
    | some x => cases b with
      | none => simp [h2]
      | some y => simp [d.inj]
def datOI {K : PySem.W.Frag} : Dat K (rOpt (rPair K rInt rInt)) := datO (datP datI datI) (fun _ => rfl) (fun _ => rfl)
def datOS {K : PySem.W.Frag} : Dat K (rOpt (rPair K rStr rInt)) := datO (datP datS datI) (fun _ => rfl) (fun _ => rfl)
theorem room_good {K : PySem.W.Frag} {m : List (Str × Jb)} (h : TbOk m) (f : Nat → Jb) (n : Nat) : (datL (datOS (K := K))).good ((List.range n).map fun s => conflictT m (f s)) = true := by
  refine List.all_eq_true.mpr fun o ho => ?_
  obtain ⟨s, _, rfl⟩ := List.mem_map.mp ho
  unfold conflictT
  cases e : m.findSome? fun p => (commonT p.2 (f s)).map fun t => (p.1, t) with
  | none => rfl
  | some x =>
    obtain ⟨p, hp, e2⟩ := List.exists_of_findSome?_eq_some e
    obtain ⟨t, _, e3⟩ := Option.map_eq_some_iff.mp e2
    subst e3
    exact Bool.and_eq_true_iff.mpr ⟨nm_good (h.nm p hp), rfl⟩
theorem pairs_good {K : PySem.W.Frag} (xs : List (Int × Int)) : (datL (datP (datI (K := K)) datI)).good xs = true := List.all_eq_true.mpr fun _ _ => rfl
/-- the first of the longest -/
def bestL (l : List (Int × Int)) : Option (Int × Int) := l.foldl (fun b s => match b with
  | none => some s
  | some x => if x.2 < s.2 then some s else some x) none
theorem bestL_succ {l : List (Int × Int)} {i : Nat} (h : i < l.length) : bestL (l.take (i + 1)) = match bestL (l.take i) with
  | none => some (l.getD i default)
  | some x => if x.2 < (l.getD i default).2 then some (l.getD i default) else some x := by
  unfold bestL
  rw [take_succD h, List.foldl_append]
  rfl
theorem bestI_good {K : PySem.W.Frag} (o : Option (Int × Int)) : (datOI (K := K)).good o = true := by cases o <;> rfl
/-- what is greatest, and nothing before is -/
theorem top_is {xs : List Int} {u : Nat} (hu : u < xs.length) (h1 : ∀ k, k < xs.length → xs.getD k 0 ≤ xs.getD u 0) (h2 : ∀ k, k < u → xs.getD k 0 < xs.getD u 0) : xs.getD u 0 = maxI xs ∧ u = topI xs := by
  have hne : xs ≠ [] := fun e => by rw [e] at hu; simp at hu
  have hm : maxI xs = xs.getD u 0 := maxI_eq (by rw [List.getD_eq_getElem?_getD, List.getElem?_eq_getElem hu]; exact List.getElem_mem hu) fun y hy => by
    obtain ⟨k, hk⟩ := List.mem_iff_getElem?.mp hy
    have := h1 k (List.getElem?_eq_some_iff.mp hk).1
    rw [List.getD_eq_getElem?_getD (l := xs) (i := k), hk] at this
    exact this
  refine ⟨hm.symm, ?_⟩
  obtain ⟨t1, t2, t3⟩ := topI_spec hne
  rcases Nat.lt_trichotomy u (topI xs) with h | h | h
  · exact (t3 u h hm.symm).elim
  · exact h
  · have := h2 _ h
    rw [t2, hm] at this
    omega
theorem conflict_take {m : List (Str × Jb)} {j : Jb} {i : Nat} (h : i < m.length) : conflictT (m.take (i + 1)) j = match conflictT (m.take i) j with
  | some x => some x
  | none => (commonT (m.getD i default).2 j).map fun t => ((m.getD i default).1, t) := by
  unfold conflictT
  rw [take_succD h, List.findSome?_append]
  cases (m.take i).findSome? fun p => (commonT p.2 j).map fun t => (p.1, t) with
  | some x => rfl
  | none =>
    rw [List.findSome?_cons]
    cases (commonT (m.getD i default).2 j).map fun t => ((m.getD i default).1, t) <;> rfl
end KA

/-! max(pairs, key=lambda x: x[1], default=None) -/
namespace KA
open PySem PySem.Spec PyProof.Rows L2
section
variable {prog : Program} {w : World} {A : Around} {R : Result → Shared → Prop} {s : Shared}
/-- lambda x: x[1] on a pair -/
theorem lam_snd {f c' tp : Addr} {q a : Str} {params : Arguments} {scope : Scope} {cl : List (Str × Addr)} {pm ctv x y : Value} {p1 p2 p3 : Pos} {kk : Nat} (hroom : A.depth < recursionLimit) (lim : s.heap.NoLimit) (hrec : s.heap.CodeRec (.ref c') q)
    (hf : s.heap.get? f = some (PySem.W.kla_obj "<lambda>" q params (.Subscript (.Name a p1) (.Constant (.int 1) kk p2) p3) scope cl pm c' ctv))
    (hbind : bindArgs (PySem.W.kla_fn "<lambda>" q params (.Subscript (.Name a p1) (.Constant (.int 1) kk p2) p3) scope cl pm (.ref c') ctv) ⟨[.ref tp], []⟩ = pure [(a, .ref tp)])
    (ha : scope.names.lookup a = some .local) (hcell : ∀ y ∈ scope.names, y.2 ≠ .cell) (hkd : scope.kind = .function) (hco : scope.isCoroutine = false) (hgen : scope.isGenerator = false) (hd : (a == ("__debug__" : Str)) = false) (ht : IsTup s.heap tp #[x, y])
    (h : ∀ h' tk, (∀ b o, s.heap.get? b = some o → h'.get? b = some o) → s.toks ≤ tk → R (.ok (.ret y)) { s with heap := h', toks := tk }) : codeAny (model prog w) A (.call (.ref f) ⟨[.ref tp], []⟩) R s := by
  refine PySem.W.kla_callFunE hroom hf rfl hco hgen rfl hrec ?_
  rw [hbind]
  refine wpAny_pure (wpAny_newFunctionEnv hcell (fun z hz => by rw [List.mem_singleton.mp hz]; exact ha) (fun h₁ hns hsb => ⟨lim.fresh _ hsb, ?_⟩) hkd)
  have kp : ∀ b o, s.heap.get? b = some o → h₁.get? b = some o := fun b o e => hsb.extBut b o (Nat.ne_of_lt (Heap.lt_size e)) (Heap.get?_push_of_some _ e)
  refine PySem.W.kla_codeExpr (wpAny_Subscript_Constant_late (wpAny_Name (wpAny_loadName_local hkd ha hns (v := .ref tp) (by simp [List.lookup]) ?_) hd))
  refine wpAny_Constant_int ?_
  have ht' : IsTup h₁ tp #[x, y] := ht.keeps kp
  exact ⟨"tuple", _, slot_tuple_getitem.lookup, ht'.typeIs, getItem_tuple (j := 1) ht' (by decide) (by decide) rfl rfl (h h₁ _ kp (by show s.toks ≤ s.toks + _ + _; omega))⟩
/-- all that was is still there -/
structure Extd (s s' : Shared) : Prop where
  h : ∀ b o, s.heap.get? b = some o → s'.heap.get? b = some o
  g : s'.gens = s.gens
  d : s'.drawn = s.drawn
  o : s'.os = s.os
theorem max_snd {l f c' : Addr} {q a : Str} {params : Arguments} {scope : Scope} {cl : List (Str × Addr)} {pm ctv : Value} {p1 p2 p3 : Pos} {kk : Nat} {vs : List Value} {ys : Nat → Int} {Q : Value → Shared → Prop} {E : Value → Shared → Prop} (hh : A.handled = none) (hroom : A.in1.depth < recursionLimit) (lim : s.heap.NoLimit) (hrec : s.heap.CodeRec (.ref c') q)
    (hf : s.heap.get? f = some (PySem.W.kla_obj "<lambda>" q params (.Subscript (.Name a p1) (.Constant (.int 1) kk p2) p3) scope cl pm c' ctv))
    (hbind : ∀ u, bindArgs (PySem.W.kla_fn "<lambda>" q params (.Subscript (.Name a p1) (.Constant (.int 1) kk p2) p3) scope cl pm (.ref c') ctv) ⟨[u], []⟩ = pure [(a, u)])
    (ha : scope.names.lookup a = some .local) (hcell : ∀ y ∈ scope.names, y.2 ≠ .cell) (hkd : scope.kind = .function) (hco : scope.isCoroutine = false) (hgen : scope.isGenerator = false) (hd : (a == ("__debug__" : Str)) = false)
    (hl : s.heap.IsList l vs.toArray) (hv : ∀ i v, vs[i]? = some v → ∃ tp x t, v = .ref tp ∧ IsTup s.heap tp #[x, .int (ys i) t])
    (h0 : vs = [] → ∀ s', Extd s s' → Q .none s') (h1 : vs ≠ [] → ∀ v s', vs[argBest (fun i j => decide (ys i > ys j)) (vs.length - 1)]? = some v → Extd s s' → Q v s') :
    wpAny (model prog w) A (call (.builtin "max") [.ref l] [(Str.ofString "key", .ref f), (Str.ofString "default", .none)]) Q E s := by
  refine call_max_walkKD (PySem.W.iter_listW (A := A.in1) hh hl fun s₂ e W st hfp hwr hk => ?_)
  have hs2 : s₂.heap.objs.size = s.heap.objs.size + 1 := by rw [e]; exact Heap.size_push _ _
  have e1 : Extd s s₂ := ⟨hk, by rw [e], by rw [e], by rw [e]⟩
  refine ⟨_, _, _, _, _, _, _, fun s' => Extd s s', fun i k _ => ∃ t, k = .int (ys i) t, fun i j => decide (ys i > ys j), rfl, W, st, hfp, ⟨?_, ?_, ?_, ?_⟩, e1, ?_, ?_⟩
  · intro s1 s2 hJ hM
    refine ⟨fun b o hb => hM.heap b o ?_ (hJ.h b o hb), hM.gens.trans hJ.g, hM.drawn.trans hJ.d, hM.os.trans hJ.o⟩
    have hlt : b < s.heap.objs.size := Heap.lt_size hb
    intro z
    rcases List.mem_cons.mp z with z | z
    · rw [z, hs2] at hlt
      exact absurd hlt (Nat.not_lt.mpr (Nat.le_succ _))
    · rw [List.mem_singleton.mp z] at hlt
      exact Nat.lt_irrefl _ hlt
  · exact fun _ _ _ _ hV _ => hV
  · intro i v s1 o Q1 E1 hi hP hJ hSt hS hQ
    have hP : vs.toArray[i]? = some v := hP
    obtain ⟨tp, x, t, rfl, ht⟩ := hv i v (by simpa using hP)
    refine wpAny_call (lam_snd hroom (lim.keeps hJ.h) (hrec.keeps hJ.h) (hJ.h _ _ hf) (hbind _) ha hcell hkd hco hgen hd (ht.keeps hJ.h) fun h' tk hx _ => ?_)
    refine hQ _ _ ⟨fun b o hb => hx b o (hJ.h b o hb), hJ.g, hJ.d, hJ.o⟩ ?_ (hx _ _ hS) ⟨t, rfl⟩ (fun _ _ z => z)
    obtain ⟨⟨oi, g1, g2⟩, ⟨ol, g3, g4⟩⟩ := hSt
    exact ⟨⟨oi, hx _ _ g1, g2⟩, ⟨ol, hx _ _ g3, g4⟩⟩
  · intro i j ki kj s1 Q1 E1 _ hi hj hq
    exact CmpOf.ints_gt (prog := prog) (w := w) (A := A.in1) (P := fun i v => ∃ t, v = .int (ys i) t) ys (fun i v h => h) i j _ _ _ _ _ hi hj hq
  · intro hn s' hJ
    exact h0 (by simpa using hn) s' hJ
  · intro hn v s' hP hJ
    have hP : vs.toArray[argBest (fun i j => decide (ys i > ys j)) (vs.toArray.size - 1)]? = some v := hP
    exact h1 (fun z => by rw [z] at hn; simp at hn) v s' (by simpa using hP) hJ
end
/-! ### the first of the longest, as the walk finds it -/
def sndB (l : List (Int × Int)) (i j : Nat) : Bool := decide ((l.getD i default).2 > (l.getD j default).2)
theorem argBest_le' (bt : Nat → Nat → Bool) : ∀ k, argBest bt k ≤ k
  | 0 => Nat.le_refl 0
  | k + 1 => by
    have h := argBest_le' bt k
    show (if bt (k + 1) (argBest bt k) then k + 1 else argBest bt k) ≤ k + 1
    split <;> omega
theorem best_arg (l : List (Int × Int)) : ∀ k, k < l.length → bestL (l.take (k + 1)) = some (l.getD (argBest (sndB l) k) default)
  | 0, h => by
    rw [bestL_succ h]
    rfl
  | k + 1, h => by
    rw [bestL_succ h, best_arg l k (by omega)]
    show (if (l.getD (argBest (sndB l) k) default).2 < (l.getD (k + 1) default).2 then some (l.getD (k + 1) default) else some (l.getD (argBest (sndB l) k) default)) = some (l.getD (if sndB l (k + 1) (argBest (sndB l) k) then k + 1 else argBest (sndB l) k) default)
    by_cases c : (l.getD (argBest (sndB l) k) default).2 < (l.getD (k + 1) default).2
    · rw [if_pos c, if_pos (show sndB l (k + 1) (argBest (sndB l) k) = true from decide_eq_true c)]
    · rw [if_neg c, if_neg (show ¬ sndB l (k + 1) (argBest (sndB l) k) = true from fun z => c (of_decide_eq_true z))]
theorem best_all {l : List (Int × Int)} (h : l ≠ []) : bestL l = some (l.getD (argBest (sndB l) (l.length - 1)) default) := by
  have hl : 0 < l.length := by cases l with | nil => exact (h rfl).elim | cons _ _ => simp
  have e := best_arg l (l.length - 1) (by omega)
  rw [show l.length - 1 + 1 = l.length by omega, List.take_of_length_le (Nat.le_refl _)] at e
  exact e
/-! ### in a def's frame -/
section
open LamX
variable {X : Cx} {pins : List (Addr × Obj)} {σ : L2.St} {H : Hp} {s : Shared}
/-- a lambda is made, its code's place told -/
theorem lam_makeX {c P : Addr} {ps : Array Value} {params : Arguments} {body : Expr} {scope : Scope} {pos : Pos} {E : Value → Shared → Prop} {Q : Value → Shared → Prop} (I : Inv X pins σ H s) (TB : TabB X.base X.mg c P) (hcode : X.env.code = .ref c) (hP : H P = some (.tbl ps)) (ht : TriplesOk ps.toList)
    (hall : ∀ (pos : Pos) (cv : Value), codeAmong pos ps.toList = some cv → ∃ c, cv = .ref c ∧ H c = some (CodeO c (X.env.qual ++ "<lambda>"))) (hdef : defaultsOf params X.env = ([], [])) (hfree : ∀ y ∈ scope.names, y.2 = .free → ∃ c, X.env.cells.lookup y.1 = some c)
    (h1 : ∀ (f c' : Addr) (pm ctv : Value) (s' : Shared), Inv X pins σ H s' → s'.heap.get? f = some (PySem.W.kla_obj "<lambda>" (X.env.qual ++ "<lambda>") params body scope (cloFrom X.env.cells scope.names []) pm c' ctv) → H c' = some (CodeO c' (X.env.qual ++ "<lambda>")) → Q (.ref f) s')
    (h2 : ∀ (f c' : Addr) (pm ctv : Value) (more : Array Value) (s' : Shared), H c' = none → c' ≠ P → TriplesOk (ps ++ more).toList → (∀ (p' : Pos) (cv : Value), codeAmong p' (ps ++ more).toList = some cv → codeAmong p' ps.toList = some cv ∨ cv = .ref c') → Inv X pins σ (upd (upd H P (.tbl (ps ++ more))) c' (CodeO c' (X.env.qual ++ "<lambda>"))) s' →
      s'.heap.get? f = some (PySem.W.kla_obj "<lambda>" (X.env.qual ++ "<lambda>") params body scope (cloFrom X.env.cells scope.names []) pm c' ctv) → Q (.ref f) s') : wpAny (model X.prog X.w) X.A (eval (.Lambda params body scope pos) X.env) Q E s := by
  have bP : s.heap.BuiltinsAt X.mg P := TB.bm.keeps I.bk
  have hP' : s.heap.get? P = some { cls := .none, data := .fields ps } := I.hok P _ hP
  refine PySem.W.kla_eval hdef ?_
  cases hc : codeAmong pos ps.toList with
  | none =>
    refine PySem.W.kla_makeFunction (mg := X.mg) (c := c) (P := P) (ps := ps) (closure_ok hfree) I.ok.glob (I.mod.glob.keeps I.bk) hcode (TB.code.keeps I.bk) hP' ht hc TB.gP bP fun c' ctv h' tk hx hge hlt hrec htb => ?_
    obtain ⟨c2, oc, ws, t, e2, hoc, hd, hv⟩ := hrec
    cases e2
    have eL : (ps ++ #[rawInt pos.line, rawInt pos.col, .ref c']).toList = ps.toList ++ [rawInt pos.line, rawInt pos.col, .ref c'] := by simp
    refine h2 h'.objs.size c' ((X.mg "__name__").getD .none) ctv #[rawInt pos.line, rawInt pos.col, .ref c'] _ (I.hok.fresh hge) (fun z => ?_) (by rw [eL]; exact PySem.TriplesOk_snoc _ _ _ _ ht) (fun p' cv z => by rw [eL] at z; exact among_app _ ht z) (inv_table (t' := tk) I hP (fun b o hb e => Heap.get?_push_of_some _ (hx b o hb e)) (Heap.get?_push_of_some _ htb) hge ⟨oc, ws, t, Heap.get?_push_of_some _ hoc, hd, hv⟩) (Heap.get?_push_size _ rfl)
    rw [z] at hge
    exact Nat.lt_irrefl _ (Nat.lt_of_lt_of_le (Heap.lt_size hP') hge)
  | some cv =>
    obtain ⟨c', e, hco⟩ := hall pos cv hc
    subst e
    refine PySem.W.kla_makeFunctionHit (mg := X.mg) (c := c) (P := P) (ps := ps) (closure_ok hfree) I.ok.glob (I.mod.glob.keeps I.bk) hcode (TB.code.keeps I.bk) hP' ht hc bP fun ctv h' tk hx hsz => ?_
    exact h1 h'.objs.size c' ((X.mg "__name__").getD .none) ctv _ (I.kept fun b o e => Heap.get?_push_of_some _ (hx b o e)) (Heap.get?_push_size _ rfl) hco
theorem sqL_N {K : PySem.W.Frag} {H H' : Hp} {a : Addr} {xs : List V} (e : ExtN H H') (h : SqL K H a xs) : SqL K H' a xs := by
  rcases h with (h | ⟨o, h⟩) | h
  · exact .inl (.inl (e _ _ h fun _ z => by cases z))
  · exact .inl (.inr ⟨o, e _ _ h fun _ z => by cases z⟩)
  · exact .inr h
theorem sqT_N {K : PySem.W.Frag} {H H' : Hp} {a : Addr} {xs : List V} (e : ExtN H H') (h : SqT K H a xs) : SqT K H' a xs := by
  rcases h with (h | ⟨o, h⟩) | h
  · exact .inl (.inl (e _ _ h fun _ z => by cases z))
  · exact .inl (.inr ⟨o, e _ _ h fun _ z => by cases z⟩)
  · exact .inr h
theorem ext_tab {H : Hp} {P c' : Addr} {ps more : Array Value} {q : Str} (hP : H P = some (.tbl ps)) (hc : H c' = none) : ExtN H (upd (upd H P (.tbl (ps ++ more))) c' (CodeO c' q)) := fun b o e n => by
  rw [upd_ne (ne_of_none e hc), upd_ne (fun z => n ps (by rw [z, hP] at e; exact (Option.some.inj e).symm))]
  exact e
/-- the reading of max(.., key=lambda x: x[1], default=None) -/
def tMaxS (K : PySem.W.Frag) (P : Addr) (q : Str) (te : TE) : TE := fun σ H Q => te σ H fun y H1 => ∃ (l : Addr) (tps : List Addr) (zs : List (Int × Int)) (ps : Array Value), y = .ref l ∧ SqL K H1 l (tps.map V.ref) ∧ Paired (fun tp z => SqT K H1 tp [.int z.1, .int z.2]) tps zs ∧ H1 P = some (.tbl ps) ∧ TriplesOk ps.toList ∧
  (∀ (pos : Pos) (cv : Value), codeAmong pos ps.toList = some cv → ∃ c, cv = .ref c ∧ H1 c = some (CodeO c q)) ∧ ∀ H2, (H2 = H1 ∨ ∃ (c' : Addr) (more : Array Value), H1 c' = none ∧ c' ≠ P ∧ TriplesOk (ps ++ more).toList ∧ (∀ (p' : Pos) (cv : Value), codeAmong p' (ps ++ more).toList = some cv → codeAmong p' ps.toList = some cv ∨ cv = .ref c') ∧ H2 = upd (upd H1 P (.tbl (ps ++ more))) c' (CodeO c' q)) →
    (zs = [] → Q .non H2) ∧ (zs ≠ [] → ∀ tp, tps[argBest (sndB zs) (zs.length - 1)]? = some tp → Q (.ref tp) H2)
theorem paired_get {α β : Type} {F : α → β → Prop} {xs : List α} {ys : List β} (h : Paired F xs ys) : ∀ {i : Nat} {x : α}, xs[i]? = some x → ∃ y, ys[i]? = some y ∧ F x y := by
  induction h with
  | nil => intro i x e; simp at e
  | cons h0 _ ih =>
    intro i x e
    cases i with
    | zero => obtain rfl : _ = x := by simpa using e
              exact ⟨_, rfl, h0⟩
    | succ i => exact ih (i := i) (by simpa using e)
theorem run_maxS {f c' l : Addr} {q a : Str} {params : Arguments} {scope : Scope} {cl : List (Str × Addr)} {pm ctv : Value} {p1 p2 p3 : Pos} {kk k : Nat} {tps : List Addr} {zs : List (Int × Int)} {Q : VK} (hc : X.calm = true) (hr : Room (k + 1) X.A) (I : Inv X pins σ H s)
    (hf : s.heap.get? f = some (PySem.W.kla_obj "<lambda>" q params (.Subscript (.Name a p1) (.Constant (.int 1) kk p2) p3) scope cl pm c' ctv)) (hco : H c' = some (CodeO c' q))
    (hbind : ∀ u, bindArgs (PySem.W.kla_fn "<lambda>" q params (.Subscript (.Name a p1) (.Constant (.int 1) kk p2) p3) scope cl pm (.ref c') ctv) ⟨[u], []⟩ = pure [(a, u)])
    (ha : scope.names.lookup a = some .local) (hcell : ∀ y ∈ scope.names, y.2 ≠ .cell) (hkd : scope.kind = .function) (hgco : scope.isCoroutine = false) (hgen : scope.isGenerator = false) (hd : (a == ("__debug__" : Str)) = false)
    (hs : SqL X.K H l (tps.map V.ref)) (hp : Paired (fun tp z => SqT X.K H tp [.int z.1, .int z.2]) tps zs) (hq : (zs = [] → Q .non H) ∧ (zs ≠ [] → ∀ tp, tps[argBest (sndB zs) (zs.length - 1)]? = some tp → Q (.ref tp) H)) :
    wpAny (model X.prog X.w) X.A (call (.builtin "max") [.ref l] [(Str.ofString "key", .ref f), (Str.ofString "default", .none)]) (EP X pins σ Q) X.xe s := by
  obtain ⟨⟨oc, ws, t, h1, h2, h3⟩, _, _⟩ := I.hok c' _ hco
  obtain ⟨its, rv, pl, hz⟩ := I.list hs
  have ei := refs_at rv
  subst ei
  obtain ⟨ol, n, g1, g2, g3, g4⟩ := pl
  have hlen : tps.length = zs.length := hp.length
  have back : ∀ {s' : Shared} {v : V} {u : Value}, Extd s s' → RelV v u → Q v H → EP X pins σ Q u s' := fun {s' v u} e rv' q' => by
    obtain ⟨h', g', d', t', o'⟩ := s'
    obtain ⟨x1, x2, x3, x4⟩ := e
    obtain ⟨h0, g0, d0, t0, o0⟩ := s
    dsimp only at x1 x2 x3 x4
    subst x2 x3 x4
    exact ⟨v, H, I.kept x1, rv', q'⟩
  refine max_snd (vs := tps.map Value.ref) (ys := fun i => (zs.getD i default).2) (I.ok.hd hc) hr.in1.depth I.nolimit ⟨c', oc, ws, t, rfl, h1, h2, h3⟩ hf hbind ha hcell hkd hgco hgen hd ⟨ol, g1, g2, n, g4⟩ (fun i v hv => ?_) (fun hn s' e => ?_) (fun hn v s' hv e => ?_)
  · rw [List.getElem?_map] at hv
    obtain ⟨tp, e1, rfl⟩ := Option.map_eq_some_iff.mp hv
    obtain ⟨z, e2, ht⟩ := paired_get hp e1
    obtain ⟨its, rt, tt, _⟩ := I.tuple ht
    cases rt with
    | @cons _ u1 _ ur r1 rr =>
    cases rr with
    | @cons _ u2 _ ur2 r2 rn =>
    cases rn
    obtain ⟨t2, rfl⟩ := r2
    refine ⟨tp, u1, t2, rfl, ?_⟩
    rw [List.getD_eq_getElem?_getD, e2]
    exact tt
  · have hz0 : zs = [] := by
      have : tps = [] := by simpa using hn
      rw [this] at hlen
      exact List.eq_nil_of_length_eq_zero hlen.symm
    exact back (v := .non) e rfl (hq.1 hz0)
  · have hz0 : zs ≠ [] := fun z => by
      rw [z] at hlen
      have : tps = [] := List.eq_nil_of_length_eq_zero hlen
      exact hn (by rw [this]; rfl)
    rw [List.getElem?_map, List.length_map, hlen] at hv
    obtain ⟨tp, e1, rfl⟩ := Option.map_eq_some_iff.mp hv
    exact back (v := .ref tp) e rfl (hq.2 hz0 tp e1)
theorem pe_maxS {c P : Addr} {a : Str} {e : Expr} {te : TE} {params : Arguments} {scope : Scope} {p p1 p2 p3 k1 k2 lpos p5 pos : Pos} {kk k5 k : Nat} (hc : X.calm = true) (hr : Room (k + 1) X.A) (hg : Gl X "max") (hm : X.mg "max" = none) (TB : TabB X.base X.mg c P) (hcode : X.env.code = .ref c) (he : PE X e te)
    (hdef : defaultsOf params X.env = ([], [])) (hfree : ∀ y ∈ scope.names, y.2 = .free → ∃ c, X.env.cells.lookup y.1 = some c)
    (hbind : ∀ (q : Str) (cl : List (Str × Addr)) (pm ctv u : Value) (c' : Addr), bindArgs (PySem.W.kla_fn "<lambda>" q params (.Subscript (.Name a p1) (.Constant (.int 1) kk p2) p3) scope cl pm (.ref c') ctv) ⟨[u], []⟩ = pure [(a, u)])
    (ha : scope.names.lookup a = some .local) (hcell : ∀ y ∈ scope.names, y.2 ≠ .cell) (hkd : scope.kind = .function) (hgco : scope.isCoroutine = false) (hgen : scope.isGenerator = false) (hd : (a == ("__debug__" : Str)) = false)
    (hst : backTo pos (starEach (e :: []) X.env) = (false, eval e X.env) :: backTo pos (starEach [] X.env) := by rfl) (hs2 : starEach (e :: []) X.env = (false, eval e X.env) :: starEach [] X.env := by rfl) (hpl : (backTo pos (starEach (e :: []) X.env)).any (·.1) = false := by rfl) :
    PE X (.Call (.Name "max" p) [e] [⟨some "key", .Lambda params (.Subscript (.Name a p1) (.Constant (.int 1) kk p2) p3) scope lpos, k1⟩, ⟨some "default", .Constant .none k5 p5, k2⟩] pos) (tMaxS X.K P (X.env.qual ++ "<lambda>") te) := by
  refine ⟨fun pins s σ H Q I h => ?_⟩
  refine wpAny_Call_Name_kw (ld_blt I hg hm (u := .builtin "max") (by decide +kernel) ?_ (by decide) (by decide))
  refine callWith_kw ?_ hst hpl
  rw [hst]
  refine Calls.spliced_cons (thn (he.run pins s σ H _ I h) fun u s1 ⟨y, H1, I1, ry, l, tps, zs, ps, ey, hs, hp, hP, ht, hall, hq⟩ => ?_)
  subst ey
  obtain rfl : u = Value.ref l := ry
  refine Calls.spliced_nil (kwAll_cons (lam_makeX I1 TB hcode hP ht hall hdef hfree (fun f c' pm ctv s2 I2 hf hco => ?_) fun f c' pm ctv more s2 hn hne tr hcd I2 hf => ?_))
  · refine kwAll_cons (wpAny_Constant_none (kwAll_nil ?_))
    exact run_maxS hc hr I2 hf hco (fun u => hbind _ _ _ _ u _) ha hcell hkd hgco hgen hd hs hp (hq H1 (.inl rfl))
  · refine kwAll_cons (wpAny_Constant_none (kwAll_nil ?_))
    have eN := ext_tab (more := more) (q := X.env.qual ++ "<lambda>") hP hn
    exact run_maxS hc hr I2 hf upd_same (fun u => hbind _ _ _ _ u _) ha hcell hkd hgco hgen hd (sqL_N eN hs) (hp.mono fun _ _ z => sqT_N eN z) (hq _ (.inr ⟨c', more, hn, hne, tr, hcd, rfl⟩))
end
/-! ### the table as a cell that is lent -/
def tbC (P : Addr) (q : Str) : Cell := ⟨P, fun o H => ∃ ps : Array Value, o = .tbl ps ∧ TriplesOk ps.toList ∧ ∀ (pos : Pos) (cv : Value), codeAmong pos ps.toList = some cv → ∃ c, cv = .ref c ∧ H c = some (LamX.CodeO c q), fun k ⟨ps, h1, h2, h3⟩ => ⟨ps, h1, h2, fun pos cv z => by
  obtain ⟨c, e, h⟩ := h3 pos cv z
  exact ⟨c, e, k c (LamX.CodeO c q) h⟩⟩⟩
theorem upd_comm {H : Hp} {a b : Addr} {x y : HO} (h : a ≠ b) : upd (upd H a x) b y = upd (upd H b y) a x := by
  funext c
  by_cases h1 : c = b
  · rw [h1, upd_same, upd_ne h.symm, upd_same]
  · rw [upd_ne h1]
    by_cases h2 : c = a
    · rw [h2, upd_same, upd_same]
    · rw [upd_ne h2, upd_ne h2, upd_ne h1]
section
variable {W : List Addr} {Hk0 H0 : Hp} {Γ Γ' : Ctx} {Ω Ω' Ω1 Ω2 Ω3 : List Cell} {T T' : Tm} {σ σ' : L2.St} {Hk H : Hp} {K : PySem.W.Frag} {te : TE}
theorem al_pairs {H : Hp} : ∀ {zs : List (Int × Int)} {ys : List V}, Al (rPair K rInt rInt) H zs ys → ∃ tps : List Addr, ys = tps.map V.ref ∧ Paired (fun tp z => SqT K H tp [.int z.1, .int z.2]) tps zs
  | _, _, .nil => ⟨[], rfl, .nil⟩
  | _, _, .cons h t => by
    obtain ⟨tps, e, p⟩ := al_pairs t
    obtain ⟨a, x, y, h1, h2, h3, h4⟩ := h
    cases h3
    cases h4
    exact ⟨a :: tps, by rw [h1, e]; rfl, .cons h2 p⟩
theorem ev_maxS {P : Addr} {q : Str} {zs : List (Int × Int)} (h : Ev te Γ (tbC P q :: Ω) (en (rList (rPair K rInt rInt)) zs) (tbC P q :: Ω)) : Ev (tMaxS K P q te) Γ (tbC P q :: Ω) (en (rOpt (rPair K rInt rInt)) (bestL zs)) (tbC P q :: Ω) := fun W Hk0 H0 T σ H a Q qq =>
  h W Hk0 H0 T σ H a _ fun y H1 ⟨Hk1, a1⟩ => by
    obtain ⟨l, ys, rfl, hl, al⟩ := (show (rList (rPair K rInt rInt)).r zs y Hk1 from a1.tp (en (rList (rPair K rInt rInt)) zs, y) (by simp))
    obtain ⟨tps, ey, pp⟩ := al_pairs al
    obtain ⟨hkP, ⟨o, hP, ps, rfl, ht, hall⟩, _⟩ := a1.cl (tbC P q) (List.mem_cons_self ..)
    have hP : H1 P = some (.tbl ps) := hP
    have fin : ∀ {Hk2 H2 : Hp}, Ex Hk1 Hk2 → AtH W Hk0 H0 Γ (tbC P q :: Ω) T σ Hk2 H2 → (zs = [] → Q .non H2) ∧ (zs ≠ [] → ∀ tp, tps[argBest (sndB zs) (zs.length - 1)]? = some tp → Q (.ref tp) H2) := fun {Hk2 H2} kx b => by
      refine ⟨fun hz => ?_, fun hz tp htp => ?_⟩
      · rw [hz] at qq
        exact qq .non H2 ⟨Hk2, b.push (e := en (rOpt (rPair K rInt rInt)) (bestL [])) rfl⟩
      · obtain ⟨z, e2, hs⟩ := paired_get pp htp
        have eb : bestL zs = some z := by rw [best_all hz, List.getD_eq_getElem?_getD, e2]; rfl
        rw [eb] at qq
        exact qq (.ref tp) H2 ⟨Hk2, b.push (e := en (rOpt (rPair K rInt rInt)) (some z)) (show (rPair K rInt rInt).r z (.ref tp) Hk2 from ⟨tp, .int z.1, .int z.2, rfl, ex_t kx hs, rfl, rfl⟩)⟩
    refine ⟨l, tps, zs, ps, rfl, by rw [← ey]; exact Evl.sq_of (a1.gr.kh.lst hl), pp.mono fun _ _ z => ex_t a1.gr.kh z, hP, ht, fun pos cv z => ?_, fun H2 hH => ?_⟩
    · obtain ⟨c, e, hc⟩ := hall pos cv z
      exact ⟨c, e, a1.gr.kh c (LamX.CodeO c q) hc⟩
    · rcases hH with rfl | ⟨c', more, hn, hne, tr, hcd, rfl⟩
      · exact fin (Ex.refl _) (a1.sub fun z hz => by simp [hz])
      · have g := Grow.new (W := []) (o := LamX.CodeO c' q) a1.gr.kh hn
        have a2 := ((a1.grow g).sub (T' := T) fun z hz => by simp [hz]).write (c' := tbC P q) (o' := .tbl (ps ++ more)) rfl ⟨ps ++ more, rfl, tr, fun pos cv z => by
          rcases hcd pos cv z with z | z
          · obtain ⟨c, e, hc⟩ := hall pos cv z
            exact ⟨c, e, g.kk c (LamX.CodeO c q) hc⟩
          · exact ⟨c', z, upd_same⟩⟩
        have e : upd (upd H1 P (.tbl (ps ++ more))) c' (LamX.CodeO c' q) = upd (upd H1 c' (LamX.CodeO c' q)) P (.tbl (ps ++ more)) := upd_comm hne.symm
        rw [e]
        exact fin g.kk a2
end
/-! ### defs that make a lambda -/
section
variable {P : Program} {w : World} {K : PySem.W.Frag} {mg : Str → Option Value} {base : Heap}
/-- its code object is the one that the head told -/
theorem fun_okMc {CX : CXT} {x qual : Str} {params : Arguments} {body : List Stmt} {scope : Scope} {dvs : List V} {kws : List (Str × V)} {f : Addr} {fd : FuncData} {N ps : List Str} {k : Nat} {S : SigM}
    (F : FunD K x qual params body scope dvs kws f fd) (sc : FnScope N ps scope) (hl : ∀ es Ω res Ω', S es Ω res Ω' → es.length = ps.length)
    (hbody : ∀ (A : Around) (outer : List Env) (s : Shared) (H : Hp) (E : XK), Room k (A.deeper (envOfC qual scope s.heap.objs.size f (.ref (codeAt K f)))) →
      ∃ t, PSs (cxOf CX P w K mg base N qual scope f (.ref (codeAt K f)) A outer s H E) body t ∧ ∀ (es : List En) (Ω : List Cell) (res : En) (Ω' : List Cell) (vs : List V) (Hk : Hp) (Q : VK), S es Ω res Ω' → At (adr Ω) Hk H (es.map some ++ List.replicate (N.length - es.length) none) Ω [] (L2.start N vs) H →
        Back (adr Ω) Hk H res Ω' Q → t { nx := fun _ H' => Q .non H', rt := Q } (L2.start N vs) H) :
    FnOk P w K mg base CX (k + 1) f fd ps (spM S) := by
  obtain ⟨oc, od, dV, kV, doc, pm, an, cdv, ct, osl, rfl, lk, hcd, _, _⟩ := F.ex
  have hc : cdv = .ref (codeAt K f) := by
    unfold PySem.W.codeIn at hcd
    split at hcd
    · unfold codeAt
      rw [lk]
    · cases hcd
  subst hc
  refine fn_of lk hcd sc (fun vs H Q E h => ?_) fun A outer s H vs Q E hr h => ?_
  · obtain ⟨es, Ω, res, Ω', Hk, hs, h1, _⟩ := h
    rw [← h1, hl es Ω res Ω' hs]
  · obtain ⟨es, Ω, res, Ω', Hk, hs, h1, a, hk, q⟩ := h
    obtain ⟨t, hp, ht⟩ := hbody A outer s H E hr
    have hN : es.length ≤ N.length := by (rw [hl es Ω res Ω' hs]; have := congrArg List.length sc.pre; rw [List.length_take] at this; omega)
    exact ⟨t, hp, ht es Ω res Ω' vs Hk Q hs (at_startM a hk h1 hN) q⟩
end
section
variable {W : List Addr} {Hk0 H0 : Hp} {Γ Γ' : Ctx} {Ω Ω' Ω1 Ω2 Ω3 : List Cell} {T T' : Tm} {σ σ' : L2.St} {Hk H : Hp} {K : PySem.W.Frag} {ta : TA} {e : En}
/-- f([..]), the list lent with the cells in front -/
theorem ev_callLC {S : SigM} {es : List En} {E : XK} (h : EvA ta Γ Ω es (Ω1 ++ Ω2)) (hl : es.length ≤ 40000) (hs : ∀ p, S [en rVal (.ref p)] (lm p es :: Ω1) e Ω') : Ev (tCall (spM S) [] E (tCons (tLst ta) tNil)) Γ Ω e (Ω' ++ Ω2) := fun W Hk0 H0 T σ H a Q q =>
  h W Hk0 H0 T σ H a _ fun vs H1 hlv ⟨Hk1, a1⟩ => ⟨by rw [← hlv]; exact Nat.le_trans hl (by decide), fun p hp => by
    have o : OkAll es vs Hk1 := .of_zip hlv fun z hz => a1.tp z (by simp [hz])
    have b : AtH W Hk0 H0 Γ ((lm p es :: Ω1) ++ Ω2) ([en rVal (.ref p)].zip [.ref p] ++ T) σ Hk1 (upd H1 p (.lst vs)) := ((a1.sub (T' := T) fun z hz => by simp [hz]).newCell (c := lm p es) (o := .lst vs) hp rfl ⟨vs, rfl, o⟩).push rfl
    have r : spM S ([.ref p] ++ []) (upd H1 p (.lst vs)) Q E := b.callM (E := E) (vs := [.ref p] ++ []) rfl (hs p) fun v H' a' => q v H' a'
    exact r⟩
theorem lawT_ok {S : SigM} {P a : Addr} {q : Str} {ns : List Int} {E : XK} (hs : S [en (rScr K) ns] [tbC P q] (en rBool true) [tbC P q]) (hP : H P = some (.tbl #[])) (hS : SqL K H a (ns.map V.int)) : spM S [.ref a] H (fun v _ => v = .bl true) E := by
  obtain ⟨Hk, eK⟩ : ∃ Hk : Hp, Hk = fun b => if b = P then none else H b := ⟨_, rfl⟩
  have kn0 : Hk P = none := by rw [eK]; exact if_pos rfl
  have kn1 : ∀ {b : Addr}, b ≠ P → Hk b = H b := fun {b} h => by rw [eK]; exact if_neg h
  have ex : Ex Hk H := fun b u hu => by
    by_cases h : b = P
    · rw [h, kn0] at hu
      exact kn_any hu
    · rw [kn1 h] at hu
      exact hu
  have hS' : SqL K Hk a (ns.map V.int) := by
    rcases hS with (h | ⟨o, h⟩) | h
    · exact .inl (.inl (by rw [kn1 (fun z => by rw [z, hP] at h; cases h)]; exact h))
    · exact .inl (.inr ⟨o, by rw [kn1 (fun z => by rw [z, hP] at h; cases h)]; exact h⟩)
    · exact .inr h
  have hww : ∀ b ∈ adr [tbC P q], H b ≠ none ∧ Hk b = none := fun b hb => by
    have hb : b = P := by simpa [adr, tbC] using hb
    rw [hb]
    exact ⟨fun z => (by rw [hP] at z; cases z), kn0⟩
  refine ⟨[en (rScr K) ns], [tbC P q], en rBool true, [tbC P q], Hk, hs, rfl, ⟨Hk, ?_⟩, ex, fun v H' T σ ⟨Hk', b⟩ => b.tp (en rBool true, v) (by simp)⟩
  exact { len := rfl, sl := fun i e z => by simp at z, tp := fun p hp => by (obtain rfl := List.mem_singleton.mp hp; exact ⟨a, rfl, hS'⟩), nd := by simp, cl := fun c hc => by (obtain rfl := List.mem_singleton.mp hc; exact ⟨kn0, ⟨_, hP, #[], rfl, True.intro, fun pos cv z => by cases z⟩, .inl (by simp [adr])⟩), gr := Grow.refl ex, ww := hww }
end
end KA

/-! texts: what splits them, what joins them -/
namespace KA
open PySem PySem.Spec PyProof.Rows L2
/-! ### splitting at one sign -/
def jl (c : Nat) : List (List Nat) → List Nat
  | [] => []
  | [x] => x
  | x :: y :: r => x ++ c :: jl c (y :: r)
theorem str_ext {a b : Str} (h : a.cps.toList = b.cps.toList) : a = b := by
  obtain ⟨⟨a⟩⟩ := a
  obtain ⟨⟨b⟩⟩ := b
  have h : a = b := h
  rw [h]
theorem cps_app (a b : Str) : (a ++ b).cps.toList = a.cps.toList ++ b.cps.toList := by
  show (a.cps ++ b.cps).toList = _
  exact Array.toList_append
theorem jl_of (c : Nat) : ∀ ws : List Str, (Str.join ⟨#[c]⟩ ws).cps.toList = jl c (ws.map (·.cps.toList))
  | [] => rfl
  | [x] => rfl
  | x :: y :: r => by
    have ih := jl_of c (y :: r)
    show (x ++ ⟨#[c]⟩ ++ Str.join ⟨#[c]⟩ (y :: r)).cps.toList = _
    rw [cps_app, cps_app, ih]
    show x.cps.toList ++ [c] ++ _ = x.cps.toList ++ c :: _
    simp
theorem cut_one {c : Nat} : ∀ {a b r s : List Nat}, c ∉ a → c ∉ b → a ++ c :: r = b ++ c :: s → a = b ∧ r = s
  | [], [], r, s, _, _, h => by simpa using h
  | [], y :: b, r, s, _, hb, h => by
    simp at h
    exact (hb (by simp [h.1])).elim
  | x :: a, [], r, s, ha, _, h => by
    simp at h
    exact (ha (by simp [h.1])).elim
  | x :: a, y :: b, r, s, ha, hb, h => by
    simp at h ha hb
    obtain ⟨h1, h2⟩ := cut_one ha.2 hb.2 h.2
    exact ⟨by rw [h.1, h1], h2⟩
theorem cut_none {c : Nat} {a b s : List Nat} (ha : c ∉ a) (h : a = b ++ c :: s) : False := ha (by rw [h]; simp)
theorem jl_inj (c : Nat) : ∀ {ws vs : List (List Nat)}, ws ≠ [] → vs ≠ [] → (∀ w ∈ ws, c ∉ w) → (∀ v ∈ vs, c ∉ v) → jl c ws = jl c vs → ws = vs
  | [], _, h, _, _, _, _ => (h rfl).elim
  | _, [], _, h, _, _, _ => (h rfl).elim
  | [x], [y], _, _, _, _, h => by rw [show x = y from h]
  | [x], y :: z :: r, _, _, h1, _, h => (cut_none (h1 x (by simp)) h).elim
  | x :: w :: r, [y], _, _, _, h2, h => (cut_none (h2 y (by simp)) (Eq.symm h)).elim
  | x :: w :: r, y :: z :: t, _, _, h1, h2, h => by
    obtain ⟨e1, e2⟩ := cut_one (h1 x (by simp)) (h2 y (by simp)) h
    have := jl_inj c (ws := w :: r) (vs := z :: t) (by simp) (by simp) (fun q hq => h1 q (by simp [List.mem_cons.mp hq])) (fun q hq => h2 q (by simp [List.mem_cons.mp hq])) e2
    rw [e1, this]
theorem split_ne (x y : Str) : Txt.split x y ≠ [] := by
  unfold Txt.split
  split
  · simp
  · split
    · simp
    · rw [StrLaws.partsBetween_eq]
      obtain ⟨p, r, h⟩ := StrLaws.partsFrom_ne x y.length 0 (Builtin.Str.occurrences x y 0 x.length (x.length + 1))
      rw [h]
      simp
theorem map_cps_inj : ∀ {ws vs : List Str}, ws.map (·.cps.toList) = vs.map (·.cps.toList) → ws = vs
  | [], [], _ => rfl
  | [], _ :: _, h => by simp at h
  | _ :: _, [], h => by simp at h
  | x :: ws, y :: vs, h => by
    rw [List.map_cons, List.map_cons, List.cons.injEq] at h
    rw [str_ext h.1, map_cps_inj h.2]
/-- what is joined by a sign that stands in no part is split there -/
theorem split_of {c : Nat} {ws : List Str} (h : ws ≠ []) (hf : ∀ w ∈ ws, c ∉ w.cps.toList) : Txt.split (Str.join ⟨#[c]⟩ ws) ⟨#[c]⟩ = ws := by
  refine map_cps_inj (jl_inj c (by simpa using split_ne _ _) (by simpa using h) ?_ ?_ ?_)
  · intro w hw
    obtain ⟨p, hp, rfl⟩ := List.mem_map.mp hw
    exact StrLaws.split_free _ c p hp
  · intro w hw
    obtain ⟨p, hp, rfl⟩ := List.mem_map.mp hw
    exact hf p hp
  · rw [← jl_of, ← jl_of, StrLaws.join_split]
end KA

/-! texts as values -/
namespace KA
open PySem PySem.Spec PyProof.Rows L2
/-! ### *xs, x = a list -/
section
variable {prog : Program} {w : World} {A : Around} {E : Value → Shared → Prop} {s : Shared}
theorem star_two {l : Addr} {items : Array Value} {Q : List Value → Shared → Prop} (hh : A.handled = none) (hl : s.heap.IsList l items) (h1 : 1 ≤ items.size) (hz : items.size ≤ 16384)
    (q : ∀ (h₂ : Heap) (tk : Nat), (∀ b o, s.heap.get? b = some o → h₂.get? b = some o) → Q (Value.ref h₂.objs.size :: items.toList.drop (items.size - 1)) ⟨h₂.push { cls := .type "list", data := .seq (items.toList.take (items.size - 1)).toArray }, s.gens, s.drawn, tk, s.os⟩) :
    wpAny (model prog w) A (unpackItems (.ref l) 2 (some 0)) Q E s := by
  obtain ⟨ol, hol, hol2⟩ := id hl
  have hlt : l ≠ s.heap.objs.size := Nat.ne_of_lt (Heap.lt_size hol)
  unfold unpackItems notIterableAtAll
  refine wpAny_bind (wpAny_bind (wpAny_specialOf hl.typeIs slot_list_iter.lookup ?_))
  refine wpAny_pure ?_
  simp only [Bool.false_eq_true, if_false]
  refine wpAny_bind (wpAny_holding (wpAny_pyIter_list hl ?_))
  obtain ⟨hp, e⟩ : ∃ hp, hp = s.heap.push ({ cls := .type "list_iterator", data := .fields #[.ref l, .int 0 0] } : Obj) := ⟨_, rfl⟩
  rw [← e]
  have hit : hp.IsListIter s.heap.objs.size l 0 := by rw [e]; exact ⟨_, Heap.get?_push_size _ rfl, rfl, rfl⟩
  have hl2 : hp.IsList l items := by rw [e]; exact hl.push _
  have kp : ∀ b o, s.heap.get? b = some o → hp.get? b = some o := fun b o z => by rw [e]; exact Heap.get?_push_of_some _ z
  obtain ⟨oi, hoi, _⟩ := id hit
  obtain ⟨o2, ho2, _⟩ := id hl2
  refine wpAny_bind (wpAny_holding (wpAny_pure ?_))
  rw [if_neg (Nat.not_lt_zero _)]
  refine wpAny_bind (wpAny_holding (PySem.W.kun_collect (k := 0) (T := "list_iterator") (.inr (.inr (.inl rfl))) (Walks.list (A := A.in1) hh s.heap.objs.size l hlt items) (fun j u st => st.1.typeIs) (Nat.zero_le _) (show hp.IsListIter _ l 0 ∧ hp.IsList l items from ⟨hit, hl2⟩) (Heap.lt_size hoi) (Heap.lt_size ho2) (fun h₂ tk k => ?_) (Nat.le_trans hz (by rw [sizeLine_eq]; omega))))
  rw [List.drop_zero]
  have hn : items.toList.length = items.size := Array.length_toList
  show wpAny _ _ (if items.toList.length < 1 then _ else _) _ _ _
  rw [if_neg (by rw [hn]; omega)]
  refine wpAny_bind (wpAny_newList ?_ (by rw [List.length_take, sizeLine_eq]; omega))
  rw [hn]
  exact wpAny_pure (q h₂ tk fun b o z => k b o (Nat.ne_of_lt (Heap.lt_size z)) (kp b o z))
end
section
variable {X : Cx} {K : PySem.W.Frag} {pos : Pos}
/-- *a, b = v -/
def gStar (K : PySem.W.Frag) (t u : TG) : TG := fun v σ H Q => ∃ a xs x, v = .ref a ∧ SqL K H a (xs ++ [x]) ∧ xs.length < 16384 ∧ ∀ p, H p = none → t (.ref p) σ (upd H p (.lst xs)) fun σ' H' => u x σ' H' Q
theorem pg_star {e1 e2 : Expr} {k : Nat} {sp : Pos} {t u : TG} (hK : X.K = K) (hc : X.calm = true) (h1 : PG X e1 t) (h2 : PG X e2 u) (he : assignEach [.Starred e1 sp, e2] X.env = [(true, assign e1 X.env), (false, assign e2 X.env)] := by rfl) : PG X (.Tuple [.Starred e1 sp, e2] k pos) (gStar K t u) := by
  subst hK
  refine ⟨fun pins s σ H v w Q I r hw => ?_⟩
  obtain ⟨a, xs, x, rfl, hq, hn, hw⟩ := hw
  cases r
  obtain ⟨its, rv, pl, hz⟩ := I.list hq
  have hlen := rv.length
  rw [List.length_append, List.length_singleton] at hlen
  rw [PyProof.Rows.assign_Tuple]
  refine wpAny_bind (wpAny_standAt ?_)
  unfold unpack
  rw [he]
  have hi : its.toArray.size = xs.length + 1 := by simp [← hlen]
  refine wpAny_bind (wpAny_holding (star_two (I.ok.hd hc) pl.isList (by omega) (by omega) fun h₂ tk kp => ?_))
  have I2 : Inv X pins σ H { s with heap := h₂, toks := tk } := I.kept (t' := tk) kp
  obtain ⟨is, ix, ei, r1, r2⟩ : ∃ is ix, its = is ++ [ix] ∧ Vals xs is ∧ RelV x ix := by
    clear hw hi hlen pl hz hq
    induction xs generalizing its with
    | nil =>
      cases rv with
      | cons ra rb =>
        cases rb
        exact ⟨[], _, rfl, .nil, ra⟩
    | cons y ys ih =>
      cases rv with
      | cons ra rb =>
        obtain ⟨is, ix, e, r1, r2⟩ := ih (by simp at hn; omega) _ rb
        subst e
        exact ⟨_ :: is, ix, rfl, .cons ra r1, r2⟩
  subst ei
  have hil : is.length = xs.length := by simp at hlen; omega
  have e1 : (is ++ [ix]).toArray.toList.take ((is ++ [ix]).toArray.size - 1) = is := by rw [hi]; simp [← hil]
  have e2 : (is ++ [ix]).toArray.toList.drop ((is ++ [ix]).toArray.size - 1) = [ix] := by rw [hi]; simp [← hil]
  rw [e1, e2]
  have hp := I2.hok.fresh (Nat.le_refl _)
  have I3 : Inv X pins σ (upd H h₂.objs.size (.lst xs)) { s with heap := h₂.push { cls := .type "list", data := .seq is.toArray }, toks := tk } :=
    I2.laid (t' := tk) (fun b u q => Heap.get?_push_of_some _ q) (Nat.le_refl _) ⟨by rw [sizeLine_eq]; omega, is, _, r1, Heap.get?_push_size _ rfl⟩
  refine assignInOrder_cons (thn (h1.run pins _ σ _ _ _ _ I3 (show RelV (.ref h₂.objs.size) (.ref h₂.objs.size) from rfl) (hw _ hp)) fun _ s2 ⟨σ2, H2, I4, q⟩ => assignInOrder_cons (thn (h2.run pins s2 σ2 H2 x ix _ I4 r2 q) fun _ s3 z => assignInOrder_nil z))
theorem pg_lstK {es : List Expr} {k n : Nat} {t : TGs} (hK : X.K = K) (hc : X.calm = true) (h : PGs X es t) (hn : (assignEach es X.env).length = n := by rfl) (hst : (assignEach es X.env).findIdx? (·.1) = none := by rfl) : PG X (.Tuple es k pos) (gLst K n t) := hK ▸ pg_lst hc h hn hst
/-- z * n -/
def rRepS : R2 := fun x y H Q => ∃ (z : Str) (n : Nat), x = .str z ∧ y = .int n ∧ 2 ≤ n ∧ n ≤ 1000 ∧ z.length ≤ 1000 ∧ z.length ≠ 0 ∧ Q (.str ⟨(List.replicate n z.cps).foldl (· ++ ·) #[]⟩) H
theorem op_repS : OpR X (binaryOp .Mult) rRepS := by
  intro pins s σ H x y v u Q I rx ry h
  obtain ⟨z, n, rfl, rfl, h1, h2, h3, h4, q⟩ := h
  obtain ⟨t, rfl⟩ := rx
  obtain ⟨t', rfl⟩ := ry
  have hn : ¬ (n : Int) < 1 := by omega
  have hb : (((n : Int) == 1) || z.length == 0) = false := by
    rw [Bool.or_eq_false_iff]
    exact ⟨by simp; omega, by simpa using h4⟩
  have hm : z.length * n ≤ 1000 * 1000 := Nat.mul_le_mul h3 h2
  have hs : (⟨(List.replicate n z.cps).foldl (· ++ ·) #[]⟩ : Str).length ≤ sizeLine := by
    have : ∀ (n : Nat) (acc : Array Nat), ((List.replicate n z.cps).foldl (· ++ ·) acc).size = acc.size + n * z.length := by
      intro n
      induction n with
      | zero => intro acc; simp
      | succ n ih =>
        intro acc
        rw [List.replicate_succ, List.foldl_cons, ih, Array.size_append, Nat.succ_mul]
        show acc.size + z.length + _ = _
        omega
    show ((List.replicate n z.cps).foldl (· ++ ·) #[]).size ≤ _
    rw [this, Nat.mul_comm, sizeLine_eq]
    simp
    omega
  refine P.mul_str ?_ (fun _ _ => ?_) (fun _ _ => ?_) ?_
  · rw [decide_eq_false (by omega), decide_eq_false (by omega)]
    rfl
  · have : ((2 : Int) ^ 63 - 1) / (n : Int) ≥ (2 ^ 63 - 1) / 1000 := by
      refine (Int.le_ediv_iff_mul_le (by omega)).mpr ?_
      have := Int.mul_le_mul_of_nonneg_left (show (n : Int) ≤ 1000 by omega) (show (0 : Int) ≤ (2 ^ 63 - 1) / 1000 by decide)
      omega
    have e : ((2 : Int) ^ 63 - 1) / 1000 = 9223372036854775 := by decide
    omega
  · rw [Int.toNat_natCast]
    exact decide_eq_false (by have := sizeLine_eq; omega)
  · rw [if_neg hn, hb, Int.toNat_natCast]
    exact ⟨hs, .str _, H, I.tok _, ⟨_, rfl⟩, q⟩
end
end KA

/-! texts: what expressions of them give -/
namespace KA
open PySem PySem.Spec PyProof.Rows L2
open He (ga ma eqO eqO_ok)
abbrev numT (n : Int) : Str := (toString n : String)
/-- sep.join(l) -/
abbrev rJoinK (K : PySem.W.Frag) : V → List V → Hp → VK → Prop := fun x xs H Q => ∃ a p, ∃ ys : List Str, x = .str a ∧ xs = [.ref p] ∧ (SqL K H p (ys.map V.str) ∨ SqT K H p (ys.map V.str)) ∧ (ys.map (·.length)).sum + ys.length * a.length ≤ 16777216 ∧ Q (.str (Txt.join a ys)) H
section
variable {W : List Addr} {Hk0 H0 : Hp} {Γ Γ' : Ctx} {Ω Ω' Ω1 Ω2 Ω3 : List Cell} {T T' : Tm} {σ σ' : L2.St} {Hk H : Hp} {K : PySem.W.Frag}
variable {te ta tb td to : TE} {tt tu : TT} {D : Ends} {e e1 e2 : En} {b b2 : Bool} {ts tz tbd : TS} {α β γ : Type} {A : Rp α} {B : Rp β} {C : Rp γ} {xs : List α} {n j : Nat}
theorem al_strs {H : Hp} : ∀ ys : List Str, Al rStr H ys (ys.map V.str)
  | [] => .nil
  | _ :: ys => .cons rfl (al_strs ys)
theorem al_strs' {H : Hp} : ∀ {ys : List Str} {vs : List V}, Al rStr H ys vs → vs = ys.map V.str
  | [], _, .nil => rfl
  | _ :: _, _, .cons h t => by rw [al_strs' t]; rw [show _ = V.str _ from h]; rfl
/-- a value that comes back as e -/
theorem At.ans {Q : VK} {v : V} {Hk' H' : Hp} (a : AtH W Hk0 H0 Γ Ω T σ Hk H) (g : Grow [] Hk H Hk' H') (ok : e.ok v Hk') (hs : ∀ p ∈ T', p ∈ T) (q : ∀ v H', At W Hk0 H0 Γ Ω ((e, v) :: T') σ H' → Q v H') : Q v H' :=
  q v H' ⟨Hk', ((a.grow g).sub hs).push ok⟩
theorem ev_split {x y : Str} (h1 : Ev to Γ Ω (en rStr x) Ω1) (h2 : Ev te Γ Ω1 (en rStr y) Ω2) (hb : (y.length == 0) = false) (hz : x.length + 2 ≤ 40000) :
    Ev (tM1 (fun x xs H Q => ∃ a b, x = .str a ∧ xs = [.str b] ∧ (b.length == 0) = false ∧ a.length + 2 ≤ sizeLine ∧ rNewStrs (Txt.split a b) H Q) to te) Γ Ω (en (rList rStr) (Txt.split x y)) Ω2 := fun W Hk0 H0 T σ H a Q q =>
  h1 W Hk0 H0 T σ H a _ fun u H1 a1 => by
    obtain ⟨Hk1, b1⟩ := id a1
    obtain rfl : u = V.str x := b1.tp (en rStr x, u) (by simp)
    refine ⟨⟨x, rfl⟩, h2 W Hk0 H0 _ σ H1 a1 _ fun v H2 ⟨Hk2, a2⟩ => ?_⟩
    obtain rfl : v = V.str y := a2.tp (en rStr y, v) (by simp)
    refine ⟨x, y, rfl, rfl, hb, by rw [sizeLine_eq]; omega, fun p hp => ?_⟩
    exact At.ans (e := en (rList rStr) (Txt.split x y)) a2 (Grow.new a2.gr.kh hp) ⟨p, _, rfl, upd_same, al_strs _⟩ (fun p h => by simp [h]) q
theorem ev_join {x : Str} {ys : List Str} (h1 : Ev to Γ Ω (en rStr x) Ω1) (h2 : Ev te Γ Ω1 (en (rList rStr) ys) Ω2) (hz : (ys.map (·.length)).sum + ys.length * x.length ≤ 40000) :
    Ev (tM1 (fun x xs H Q => ∃ a p, ∃ ys : List Str, x = .str a ∧ xs = [.ref p] ∧ (SqL K H p (ys.map V.str) ∨ SqT K H p (ys.map V.str)) ∧ (ys.map (·.length)).sum + ys.length * a.length ≤ 16777216 ∧ Q (.str (Txt.join a ys)) H) to te) Γ Ω (en rStr (Str.join x ys)) Ω2 := fun W Hk0 H0 T σ H a Q q =>
  h1 W Hk0 H0 T σ H a _ fun u H1 a1 => by
    obtain ⟨Hk1, b1⟩ := id a1
    obtain rfl : u = V.str x := b1.tp (en rStr x, u) (by simp)
    refine ⟨⟨x, rfl⟩, h2 W Hk0 H0 _ σ H1 a1 _ fun v H2 ⟨Hk2, a2⟩ => ?_⟩
    obtain ⟨p, vs, rfl, hp, al⟩ := (show (rList rStr).r ys v Hk2 from a2.tp (en (rList rStr) ys, v) (by simp))
    obtain rfl := al_strs' al
    refine ⟨x, p, ys, rfl, rfl, .inl (Evl.sq_of (a2.gr.kh.lst hp)), Nat.le_trans hz (by decide), ?_⟩
    rw [show Txt.join x ys = Str.join x ys from StrLaws.glued_eq_join x ys]
    exact At.ans (e := en rStr (Str.join x ys)) a2 (Grow.refl a2.gr.kh) rfl (fun p h => by simp [h]) q
theorem rv_addS {x y : Str} (h : x.length + y.length ≤ 40000) : RvE (fun x y H Q => ∃ i j, x = .str i ∧ y = .str j ∧ i.length + j.length ≤ sizeLine ∧ Q (.str (i ++ j)) H) (en rStr x) (en rStr y) (en rStr (x ++ y)) := fun Hk H u v k h1 h2 Q q => by
  cases (show u = V.str x from h1)
  cases (show v = V.str y from h2)
  exact ⟨x, y, rfl, rfl, by rw [sizeLine_eq]; omega, q _ Hk H (.refl k) rfl⟩
theorem rv_repS {x : Str} {n : Nat} (h : 2 ≤ n ∧ n ≤ 1000 ∧ x.length ≤ 1000 ∧ x.length ≠ 0) : RvE rRepS (en rStr x) (en rInt (n : Int)) (en rStr ⟨(List.replicate n x.cps).foldl (· ++ ·) #[]⟩) := fun Hk H u v k h1 h2 Q q => by
  cases (show u = V.str x from h1)
  cases (show v = V.int n from h2)
  exact ⟨x, n, rfl, rfl, h.1, h.2.1, h.2.2.1, h.2.2.2, q _ Hk H (.refl k) rfl⟩
theorem num_small {n : Int} (h : -(2 ^ 40) ≤ n ∧ n ≤ 2 ^ 40) : n.natAbs.log2 < 1920 := by
  by_cases z : n.natAbs = 0
  · rw [z]; decide
  · refine Nat.lt_of_lt_of_le ((Nat.log2_lt z).mpr (show n.natAbs < 2 ^ 41 by omega)) (by decide)
theorem rc_str {n : Int} (h : -(2 ^ 40) ≤ n ∧ n ≤ 2 ^ 40) : RcE (fun xs H Q => ∃ i : Int, xs = [.int i] ∧ i.natAbs.log2 < 1920 ∧ Q (.str (toString i)) H) [en rInt n] (en rStr (numT n)) := fun Hk H vs k o Q q => by
  obtain ⟨v, rfl, o1⟩ := ok1 o
  obtain rfl : v = V.int n := o1
  exact ⟨n, rfl, num_small h, q _ Hk H (.refl k) rfl⟩
theorem ev_slS {x : Str} {hi : Int} (h : Ev ta Γ Ω (en rStr x) Ω1) (hl : Ev tb Γ Ω1 (en rInt hi) Ω2) (hz : x.length ≤ 40000) : Ev (tSl rSlS ta tNoPart (tPart tb)) Γ Ω (en rStr (cutS x none (some hi))) Ω2 := fun W Hk0 H0 T σ H a Q q =>
  h W Hk0 H0 T σ H a _ fun u H1 a1 => by
    refine hl W Hk0 H0 _ σ H1 a1 _ fun v H2 ⟨Hk2, a2⟩ => ?_
    obtain rfl : u = V.str x := a2.tp (en rStr x, u) (by simp)
    obtain rfl : v = V.int hi := a2.tp (en rInt hi, v) (by simp)
    exact ⟨hi, rfl, x, rfl, by rw [sizeLine_eq]; omega, At.ans (e := en rStr (cutS x none (some hi))) a2 (Grow.refl a2.gr.kh) rfl (fun p h => by simp [h]) q⟩
/-! ### f'..' -/
def EvJ (ts : List TE) (Γ : Ctx) (Ω : List Cell) (acc out : Str) : Prop := ∀ W Hk0 H0 T σ H, At W Hk0 H0 Γ Ω T σ H → ∀ Q : Str → Hp → Prop, (∀ H', At W Hk0 H0 Γ Ω T σ H' → Q out H') → tJs ts acc σ H Q
theorem evj_nil {acc : Str} : EvJ [] Γ Ω acc acc := fun W Hk0 H0 T σ H a Q q => q H a
theorem evj_cons {t : TE} {ts : List TE} {acc y out : Str} (h : Ev t Γ Ω (en rStr y) Ω) (hz : (acc ++ y).length ≤ 40000) (r : EvJ ts Γ Ω (acc ++ y) out) : EvJ (t :: ts) Γ Ω acc out := fun W Hk0 H0 T σ H a Q q =>
  h W Hk0 H0 T σ H a _ fun v H1 a1 => by
    obtain ⟨Hk1, b1⟩ := id a1
    exact ⟨y, b1.tp (en rStr y, v) (by simp), by rw [sizeLine_eq]; omega, r W Hk0 H0 T σ H1 (a1.sub fun p h => by simp [h]) Q q⟩
theorem ev_fs {ts : List TE} {out : Str} (h : EvJ ts Γ Ω Str.empty out) : Ev (fun σ H Q => tJs ts Str.empty σ H fun out H1 => Q (.str out) H1) Γ Ω (en rStr out) Ω := fun W Hk0 H0 T σ H a Q q =>
  h W Hk0 H0 T σ H a _ fun H1 a1 => q _ H1 (let ⟨Hk1, a1⟩ := a1; ⟨Hk1, a1.push (e := en rStr out) rfl⟩)
theorem ev_fmtS {y : Str} (h : Ev te Γ Ω (en rStr y) Ω1) (hz : y.length ≤ 40000) : Ev (tFmt te) Γ Ω (en rStr y) Ω1 := fun W Hk0 H0 T σ H a Q q =>
  h W Hk0 H0 T σ H a _ fun v H1 a1 => by
    obtain ⟨Hk1, b1⟩ := id a1
    obtain rfl : v = V.str y := b1.tp (en rStr y, v) (by simp)
    exact .inl ⟨y, rfl, by rw [sizeLine_eq]; omega, q _ H1 a1⟩
theorem ev_fmtI {n : Int} (h : Ev te Γ Ω (en rInt n) Ω1) (hz : -(2 ^ 40) ≤ n ∧ n ≤ 2 ^ 40) : Ev (tFmt te) Γ Ω (en rStr (numT n)) Ω1 := fun W Hk0 H0 T σ H a Q q =>
  h W Hk0 H0 T σ H a _ fun v H1 ⟨Hk1, b1⟩ => by
    obtain rfl : v = V.int n := b1.tp (en rInt n, v) (by simp)
    exact .inr ⟨n, rfl, num_small hz, At.ans (e := en rStr (numT n)) b1 (Grow.refl b1.gr.kh) rfl (fun p h => by simp [h]) q⟩
/-! ### targets -/
theorem tg_lst4 {i1 i2 i3 i4 : Nat} {x1 x2 x3 x4 : α} {vars : List Nat} (h1 : i1 ∈ vars) (h2 : i2 ∈ vars) (h3 : i3 ∈ vars) (h4 : i4 ∈ vars) : TgE (gLst K 4 (gCons (gName i1) (gCons (gName i2) (gCons (gName i3) (gCons (gName i4) gNil))))) Γ (en (rList A) [x1, x2, x3, x4])
    ((((Γ.set i1 (some (en A x1))).set i2 (some (en A x2))).set i3 (some (en A x3))).set i4 (some (en A x4))) vars := fun W Hk0 H0 Ω T σ H v ⟨Hk, a⟩ Q q => by
  obtain ⟨p, vs, rfl, hp, al⟩ := (show (rList A).r [x1, x2, x3, x4] v Hk from a.tp (en (rList A) [x1, x2, x3, x4], v) (by simp))
  cases al with
  | cons g1 al =>
  cases al with
  | cons g2 al =>
  cases al with
  | cons g3 al =>
  cases al with
  | cons g4 al =>
  cases al
  refine ⟨p, _, rfl, Evl.sq_of (a.gr.kh.lst hp), rfl, _, _, rfl, _, _, rfl, _, _, rfl, _, _, rfl, rfl, q _ ⟨Hk, (((a.unpush.set (e := en A x1) i1 g1).set (e := en A x2) i2 g2).set (e := en A x3) i3 g3).set (e := en A x4) i4 g4⟩ ⟨[(i1, _), (i2, _), (i3, _), (i4, _)], ?_, rfl⟩⟩
  intro z hz
  simp at hz
  rcases hz with rfl | rfl | rfl | rfl <;> assumption
theorem al_snoc {Hk : Hp} {x : α} : ∀ {xs : List α} {vs : List V}, Al A Hk (xs ++ [x]) vs → ∃ us u, vs = us ++ [u] ∧ Al A Hk xs us ∧ A.r x u Hk
  | [], _, .cons h .nil => ⟨[], _, rfl, .nil, h⟩
  | y :: ys, _, .cons h t => by
    obtain ⟨us, u, e, r1, r2⟩ := al_snoc (xs := ys) t
    subst e
    exact ⟨_ :: us, u, rfl, .cons h r1, r2⟩
/-- *xs, x = e -/
theorem s_star {i1 i2 : Nat} {xs : List α} {x : α} (a : At W Hk0 H0 Γ Ω T σ H) (h : Ev te Γ Ω (en (rList A) (xs ++ [x])) Ω1) (hn : xs.length < 16384) (k : ∀ σ' H', At W Hk0 H0 ((Γ.set i1 (some (en (rList A) xs))).set i2 (some (en A x))) Ω1 T σ' H' → D.nx σ' H') : tAsg te (gStar K (gName i1) (gName i2)) D σ H :=
  h W Hk0 H0 T σ H a _ fun v H' ⟨Hk', a'⟩ => by
    obtain ⟨p, vs, rfl, hp, al⟩ := (show (rList A).r (xs ++ [x]) v Hk' from a'.tp (en (rList A) (xs ++ [x]), v) (by simp))
    obtain ⟨us, u, rfl, al1, hu⟩ := al_snoc al
    refine ⟨p, us, u, rfl, Evl.sq_of (a'.gr.kh.lst hp), by rw [← al1.len]; exact hn, fun r hr => ?_⟩
    have g := Grow.new (W := []) (o := .lst us) a'.gr.kh hr
    have b := (a'.grow g).unpush
    have e1 : (en (rList A) xs).ok (.ref r) (upd Hk' r (.lst us)) := ⟨r, us, rfl, upd_same, al1.mono g.kk⟩
    have e2 : (en A x).ok u (upd Hk' r (.lst us)) := A.mono g.kk hu
    exact k _ _ ⟨_, (b.set (e := en (rList A) xs) i1 e1).set (e := en A x) i2 e2⟩
theorem q_star {i1 i2 : Nat} {xs : List α} {x : α} (a : At W Hk0 H0 Γ Ω T σ H) (h : Ev te Γ Ω (en (rList A) (xs ++ [x])) Ω1) (hn : xs.length < 16384) (k : ∀ σ' H', At W Hk0 H0 ((Γ.set i1 (some (en (rList A) xs))).set i2 (some (en A x))) Ω1 T σ' H' → tz D σ' H') : tSeq (tAsg te (gStar K (gName i1) (gName i2))) tz D σ H :=
  s_star (D := { D with nx := tz D }) a h hn k
/-! ### dicts of keys that may come again -/
def putL (m : List (Str × α)) (nm : Str) (x : α) : List (Str × α) := if m.any (fun p => decide (p.1 = nm)) then m.map (fun p => if p.1 = nm then (nm, x) else p) else m ++ [(nm, x)]
theorem AlD.any {m : List (Str × α)} {kvs : List (Key × V)} (h : AlD A H m kvs) (nm : Str) : (kvs.any fun kv => decide (kv.1 = (Sum.inr nm : Key))) = m.any fun p => decide (p.1 = nm) := by
  induction h with
  | nil => rfl
  | @cons k x v m kvs hx _ ih =>
    rw [List.any_cons, List.any_cons, ih]
    congr 1
    by_cases e : k = nm
    · simp [e]
    · rw [decide_eq_false e, decide_eq_false fun z => e (Sum.inr.inj z)]
theorem AlD.putL {m : List (Str × α)} {kvs : List (Key × V)} (h : AlD A H m kvs) {nm : Str} {x : α} {v : V} (hx : A.r x v H) : AlD A H (KA.putL m nm x) (putK kvs (Sum.inr nm) v) := by
  unfold KA.putL putK
  rw [h.any nm]
  by_cases e : (m.any fun p => decide (p.1 = nm)) = true
  · rw [if_pos e, if_pos e]
    clear e
    induction h with
    | nil => exact .nil
    | @cons k y w m kvs hy _ ih =>
      rw [List.map_cons, List.map_cons]
      by_cases z : k = nm
      · subst z
        rw [if_pos rfl, if_pos rfl]
        exact .cons hx ih
      · rw [if_neg z, if_neg fun q => z (Sum.inr.inj q)]
        exact .cons hy ih
  · rw [if_neg e, if_neg e]
    exact h.append (.cons hx .nil)
theorem putL_len (m : List (Str × α)) (nm : Str) (x : α) : (putL m nm x).length ≤ m.length + 1 := by
  unfold putL
  split <;> simp
def dictL (m : List (Str × α)) : List (Str × α) := m.foldl (fun d p => putL d p.1 p.2) []
theorem dictL_snoc (m : List (Str × α)) (p : Str × α) : dictL (m ++ [p]) = putL (dictL m) p.1 p.2 := by
  unfold dictL
  rw [List.foldl_append]
  rfl
theorem dictL_len : ∀ m : List (Str × α), (dictL m).length ≤ m.length := by
  intro m
  have : ∀ (m d : List (Str × α)), (m.foldl (fun d p => putL d p.1 p.2) d).length ≤ d.length + m.length := by
    intro m
    induction m with
    | nil => intro d; simp
    | cons p m ih =>
      intro d
      rw [List.foldl_cons]
      have := ih (putL d p.1 p.2)
      have h2 := putL_len d p.1 p.2
      rw [List.length_cons]
      omega
  have h := this m []
  rw [List.length_nil, Nat.zero_add] at h
  exact h
theorem putL_keys (m : List (Str × α)) (nm : Str) (x : α) : (putL m nm x).map (·.1) = if nm ∈ m.map (·.1) then m.map (·.1) else m.map (·.1) ++ [nm] := by
  unfold putL
  by_cases e : nm ∈ m.map (·.1)
  · rw [if_pos e, if_pos]
    · rw [List.map_map]
      refine List.map_congr_left fun p hp => ?_
      show (if p.1 = nm then (nm, x) else p).1 = p.1
      split
      · rename_i h; exact h.symm
      · rfl
    · obtain ⟨p, hp, rfl⟩ := List.mem_map.mp e
      exact List.any_eq_true.mpr ⟨p, hp, by simp⟩
  · rw [if_neg e, if_neg]
    · simp
    · intro h
      obtain ⟨p, hp, h2⟩ := List.any_eq_true.mp h
      exact e (List.mem_map.mpr ⟨p, hp, by simpa using h2⟩)
theorem putL_new {m : List (Str × α)} {nm : Str} {x : α} (h : nm ∉ m.map (·.1)) : putL m nm x = m ++ [(nm, x)] := by
  unfold putL
  rw [if_neg]
  intro g
  obtain ⟨p, hp, h2⟩ := List.any_eq_true.mp g
  exact h (List.mem_map.mpr ⟨p, hp, by simpa using h2⟩)
theorem dictL_keys (m : List (Str × α)) : ∀ k, k ∈ (dictL m).map (·.1) ↔ k ∈ m.map (·.1) := by
  have : ∀ (m d : List (Str × α)) k, k ∈ (m.foldl (fun d p => putL d p.1 p.2) d).map (·.1) ↔ k ∈ d.map (·.1) ∨ k ∈ m.map (·.1) := by
    intro m
    induction m with
    | nil => intro d k; simp
    | cons p m ih =>
      intro d k
      rw [List.foldl_cons, ih, putL_keys]
      by_cases e : p.1 ∈ d.map (·.1)
      · rw [if_pos e]
        constructor
        · rintro (h | h)
          · exact .inl h
          · exact .inr (List.mem_cons_of_mem _ h)
        · rintro (h | h)
          · exact .inl h
          · rcases List.mem_cons.mp h with h | h
            · exact .inl (by rw [h]; exact e)
            · exact .inr h
      · rw [if_neg e]
        rw [List.mem_append, List.map_cons, List.mem_cons, List.mem_cons, show (k ∈ ([] : List Str)) = False from by simp, or_false]
        constructor
        · rintro ((h | h) | h)
          · exact .inl h
          · exact .inr (.inl h)
          · exact .inr (.inr h)
        · rintro (h | h | h)
          · exact .inl (.inl h)
          · exact .inl (.inr h)
          · exact .inr h
  intro k
  have h := this m [] k
  rw [show k ∈ (dictL m).map (·.1) ↔ _ from h]
  simp
theorem dictL_nd : ∀ {m : List (Str × α)}, (m.map (·.1)).Nodup → dictL m = m := by
  have : ∀ (m d : List (Str × α)), ((d ++ m).map (·.1)).Nodup → m.foldl (fun d p => putL d p.1 p.2) d = d ++ m := by
    intro m
    induction m with
    | nil => intro d _; simp
    | cons p m ih =>
      intro d h
      rw [List.foldl_cons, putL_new, ih]
      · simp
      · simpa using h
      · intro z
        rw [List.map_append, List.nodup_append] at h
        exact h.2.2 _ z p.1 (by simp) rfl
  intro m h
  exact this m [] (by simpa using h)
theorem dictL_dup {m : List (Str × α)} (h : ¬ (m.map (·.1)).Nodup) : (dictL m).length < m.length := by
  refine Nat.lt_of_le_of_ne (dictL_len m) fun e => h ?_
  have : ∀ (m d : List (Str × α)), (d.map (·.1)).Nodup → (m.foldl (fun d p => putL d p.1 p.2) d).length = d.length + m.length → ((d ++ m).map (·.1)).Nodup := by
    intro m
    induction m with
    | nil => intro d h _; simpa using h
    | cons p m ih =>
      intro d h e
      rw [List.foldl_cons] at e
      have hl := putL_len d p.1 p.2
      have hb : (m.foldl (fun d p => putL d p.1 p.2) (putL d p.1 p.2)).length ≤ (putL d p.1 p.2).length + m.length := by
        have : ∀ (m d : List (Str × α)), (m.foldl (fun d p => putL d p.1 p.2) d).length ≤ d.length + m.length := by
          intro m
          induction m with
          | nil => intro d; simp
          | cons p m ih =>
            intro d
            rw [List.foldl_cons]
            have := ih (putL d p.1 p.2)
            have h2 := putL_len d p.1 p.2
            rw [List.length_cons]
            omega
        exact this m _
      rw [List.length_cons] at e
      have e2 : (putL d p.1 p.2).length = d.length + 1 := by omega
      have hno : p.1 ∉ d.map (·.1) := fun z => by
        have := congrArg List.length (putL_keys d p.1 p.2)
        rw [if_pos z, List.length_map, List.length_map, e2] at this
        omega
      rw [putL_new hno] at e
      have := ih (d ++ [(p.1, p.2)]) (by rw [List.map_append]; simp; exact List.nodup_append.mpr ⟨h, by simp, fun a ha b hb => by simp at hb; rw [hb]; exact fun z => hno (z ▸ ha)⟩) (by rw [e, List.length_append, List.length_singleton]; omega)
      simpa using this
  have h2 := this m [] (by simp) (by rw [List.length_nil, Nat.zero_add]; exact e)
  simpa using h2
end
end KA

/-! dict comprehensions whose keys may come again; defs that answer or raise; try -/
namespace KA
open PySem PySem.Spec PyProof.Rows L2 GenW
open He (ga ma eqO eqO_ok)
section
variable {W : List Addr} {Hk0 H0 : Hp} {Γ Γ' : Ctx} {Ω Ω1 Ω2 Ω3 : List Cell} {T T' : Tm} {σ σ' : L2.St} {Hk H : Hp}
variable {te ta tb td : TE} {tt tu : TT} {D : Ends} {e e1 e2 : En} {b b2 : Bool}
variable {K : PySem.W.Frag} {α β γ δ ε : Type} {A : Rp α} {B : Rp β} {C : Rp γ} {xs : List α} {wi : TI} {n j : Nat} {es : Nat → En} {g : TG}
theorem ev_dcD {Bs : List Addr → Hp → Hp → L2.St → Prop} {tk tv : TE} {vs : List Nat} (Γs : Nat → Ctx) (ks : Nat → Str) (v : Nat → β) (h : EvI Bs wi Γ Ω n es Ω1) (hn : n ≤ 40000)
    (hg : ∀ i, i < n → TgE g (wipeC Γ vs) (es i) (Γs i) vs) (hk : ∀ i Ω, i < n → Ev tk (Γs i) Ω (en rStr (ks i)) Ω) (he : ∀ i Ω, i < n → Ev tv (Γs i) Ω (en B (v i)) Ω) :
    EvX Bs (tDc wi g tYes tk tv vs) Γ Ω (en (rDict B) (dictL ((List.range n).map fun i => (ks i, v i)))) Ω1 := fun W Hk0 H0 T σ H hB a Q q =>
  h W Hk0 H0 T σ H hB a _ fun J T' H1 ⟨Hk1, a1⟩ ⟨G, Y, w, hGk, hY⟩ Dl hD => by
    have hsl := a1.sl
    have hlen := a1.len
    have hnw : Dl ∉ W := At.notW ⟨Hk1, a1⟩ hD
    have back : ∀ {Ω' : List Cell} {σ' : L2.St} {Γ' : Ctx} {H' : Hp}, At W Hk0 H0 Γ' Ω' (T' ++ (slT Γ σ ++ T)) σ' H' → At W Hk0 H0 (wipeC Γ vs) Ω' (T' ++ (slT Γ σ ++ T)) (wipe σ vs) H' := fun {Ω'} {σ'} {Γ'} {H'} z =>
      z.reslot (by rw [wipe_length, wipeC_len]; exact hlen) fun i e q => by
        obtain ⟨h1, h2⟩ := wipeC_in q
        obtain ⟨u, h3, h4⟩ := slT_in hsl i e h1
        exact ⟨u, by rw [wipe_at h2]; exact h3, by simp [h4]⟩
    have start : At W Hk0 H0 (wipeC Γ vs) (dc B Dl (dictL ((List.range 0).map fun i => (ks i, v i))) :: Ω1) (T' ++ (slT Γ σ ++ T)) (wipe σ vs) (upd H1 Dl (.dK [])) := by
      refine ⟨Hk1, AtH.newCell (c := dc B Dl (dictL ((List.range 0).map fun i => (ks i, v i)))) ?_ hD rfl ⟨[], rfl, .nil⟩⟩
      refine { a1.wipe vs with tp := fun p hp => ?_ }
      simp at hp
      rcases hp with hp | hp | hp
      · exact a1.tp p (by simp [hp])
      · exact slT_ok hlen hsl p hp
      · exact a1.tp p (by simp [hp])
    refine dc_it w (fun i H' => At W Hk0 H0 (wipeC Γ vs) (dc B Dl (dictL ((List.range i).map fun i => (ks i, v i))) :: Ω1) (T' ++ (slT Γ σ ++ T)) (wipe σ vs) H') start (fun i H' _ ⟨Hk', a'⟩ => hGk Hk' H' (fun p hp => a'.tp p (by simp [hp])) a'.gr.kh a'.gr.hh) ?_ ?_
    · rintro i x H2 H3 hi ⟨Hk', a'⟩ y
      obtain ⟨Hk3, g3, ok⟩ := hY i Hk' H2 x H3 hi (fun p hp => a'.tp p (by simp [hp])) a'.gr.kh y
      refine hg i hi W Hk0 H0 _ _ _ H3 x ⟨Hk3, (a'.grow g3).push ok⟩ _ fun σ2 a2 ⟨ps, hps, es⟩ => ⟨by rw [es, wipe_fold hps, wipe_wipe fun _ h => h], ?_⟩
      show tk σ2 H3 _
      refine hk i _ hi W Hk0 H0 _ σ2 H3 a2 _ fun y H4 a4 => ?_
      refine he i _ hi W Hk0 H0 _ σ2 H4 a4 _ fun z H5 ⟨Hk5, a5⟩ => ?_
      have hy : y = .str (ks i) := a5.tp (en rStr (ks i), y) (by simp)
      have hz : B.r (v i) z Hk5 := a5.tp (en B (v i), z) (by simp)
      obtain ⟨_, ⟨o, g2, kvs, rfl, al⟩, _⟩ := a5.cl _ (List.mem_cons_self ..)
      have e2 := al.putL (nm := ks i) hz
      have hl := al.len
      have hl2 := dictL_len ((List.range i).map fun i => (ks i, v i))
      rw [List.length_map, List.length_range] at hl2
      refine ⟨kvs, Sum.inr (ks i), hy, g2, Evl.sz_lt (by omega), ?_⟩
      rw [List.range_succ, List.map_append, List.map_cons, List.map_nil, dictL_snoc]
      refine back ⟨Hk5, (a5.sub (T' := T' ++ (slT Γ σ ++ T)) fun p hp => ?_).write (c := dc B Dl (dictL ((List.range i).map fun i => (ks i, v i)))) (c' := dc B Dl (KA.putL (dictL ((List.range i).map fun i => (ks i, v i))) (ks i) (v i))) rfl ⟨_, rfl, e2⟩⟩
      simp at hp ⊢
      rcases hp with hp | hp | hp <;> simp [hp]
    · intro H' a'
      refine q (.ref Dl) H' ((a'.freeD hnw).reslot (T := (en (rDict B) (dictL ((List.range n).map fun i => (ks i, v i))), .ref Dl) :: (T' ++ (slT Γ σ ++ T))) hlen (fun i e q => ?_) |>.sub fun p hp => ?_)
      · obtain ⟨u, h3, h4⟩ := slT_in hsl i e q
        exact ⟨u, h3, by simp [h4]⟩
      · simp at hp ⊢
        rcases hp with hp | hp
        · exact .inl hp
        · exact .inr (.inr (.inr hp))
end
end KA

/-! defs that answer or raise, constructors that raise, raise .. from None -/
namespace KA
open PySem PySem.Spec PyProof.Rows L2 GenW
open He (ga ma eqO eqO_ok)
section
variable {P : Program} {w : World} {K : PySem.W.Frag} {mg : Str → Option Value} {base : Heap}
theorem fn_orS {CX : CXT} {k : Nat} {f : Addr} {fd : FuncData} {ps : List Str} {S1 S2 : Sig} (F : FnOk P w K mg base CX k f fd ps (spS S1)) (G : FnOk P w K mg base CX k f fd ps (spS S2)) : FnOk P w K mg base CX k f fd ps (spS fun es res => S1 es res ∨ S2 es res) :=
  ⟨fun vs H Q E ⟨es, res, Hk, hs, r⟩ => hs.elim (fun h => F.len vs H Q E ⟨es, res, Hk, h, r⟩) fun h => G.len vs H Q E ⟨es, res, Hk, h, r⟩,
   fun A outer s H args us vs Q E hr e0 hb hv ⟨es, res, Hk, hs, r⟩ => hs.elim (fun h => F.run A outer s H args us vs Q E hr e0 hb hv ⟨es, res, Hk, h, r⟩) fun h => G.run A outer s H args us vs Q E hr e0 hb hv ⟨es, res, Hk, h, r⟩⟩
/-- raising defs whose exceptions have no context -/
theorem fun_okFN {x qual : Str} {params : Arguments} {body : List Stmt} {scope : Scope} {dvs : List V} {kws : List (Str × V)} {f : Addr} {fd : FuncData} {N ps : List Str} {k : Nat} {S : SigF}
    (F : FunD K x qual params body scope dvs kws f fd) (sc : FnScope N ps scope) (hl : ∀ es Ω C e Ω', S es Ω C e Ω' → es.length = ps.length)
    (hbody : ∀ (cdv : Value) (A : Around) (outer : List Env) (s : Shared) (H : Hp) (E : XK), Room k (A.deeper (envOfC qual scope s.heap.objs.size f cdv)) →
      ∃ t, PSs (cxOf (L2N.CX P w) P w K mg base N qual scope f cdv A outer s H E) body t ∧ ∀ (es : List En) (Ω : List Cell) (C : Addr) (e : En) (Ω' : List Cell) (vs : List V) (Hk : Hp) (D : Ends), S es Ω C e Ω' → At (adr Ω) Hk H (es.map some ++ List.replicate (N.length - es.length) none) Ω [] (L2.start N vs) H →
        (∀ H' d T Γ σ, At (adr Ω) Hk H Γ Ω' ((e, .ref d) :: T) σ H' → E (.ref C) (some d) H') → t D (L2.start N vs) H) :
    FnOk P w K mg base (L2N.CX P w) (k + 1) f fd ps (spF S) := by
  refine F.ok sc (fun vs H Q E ⟨es, Ω, C, e, Ω', Hk, hs, h1, _⟩ => by rw [← h1, hl es Ω C e Ω' hs]) fun cdv A outer s H vs Q E hr h => ?_
  obtain ⟨es, Ω, C, e, Ω', Hk, hs, h1, a, hk, q⟩ := h
  obtain ⟨t, hp, ht⟩ := hbody cdv A outer s H E hr
  have hN : es.length ≤ N.length := by (rw [hl es Ω C e Ω' hs]; have := congrArg List.length sc.pre; rw [List.length_take] at this; omega)
  exact ⟨t, hp, ht es Ω C e Ω' vs Hk _ hs (at_startM a hk h1 hN) fun H' d T Γ σ a' => q H' d T [] a'.bare⟩
def GdFN (P : Program) (w : World) (K : PySem.W.Frag) (mg : Str → Option Value) (base : Heap) (k : Nat) (f : Addr) (ps : List Str) (sp : Sp) : Prop :=
  ∃ fd, FnOk P w K mg base (L2N.CX P w) k f fd ps sp ∧ PySem.W.keepIn K (.ref f) = true ∧ Binds K fd ps []
def GdKR (P : Program) (w : World) (K : PySem.W.Frag) (mg : Str → Option Value) (base : Heap) (k : Nat) (f : Addr) (ps : List Str) (sp : Sp) (n : Nat) (ks : List Str) : Prop :=
  ∃ fd, FnOk P w K mg base (L2.CX P w) k f fd ps sp ∧ PySem.W.keepIn K (.ref f) = true ∧ KBn K fd ps n ks (fun us ws => us ++ ws) (fun vs zs => vs ++ zs)
theorem tk_cxN {N : List Str} {qual : Str} {scope : Scope} {f : Addr} {cd : Value} {A : Around} {outer : List Env} {s : Shared} {H : Hp} {E : XK} : L2N.Takes (cxOf (L2N.CX P w) P w K mg base N qual scope f cd A outer s H E) (fun cls d _ H' => E cls d H') := L2N.takes_of rfl rfl rfl rfl
theorem own_cxN {N : List Str} {qual : Str} {scope : Scope} {f : Addr} {cd : Value} {A : Around} {outer : List Env} {s : Shared} {H : Hp} {E : XK} : PassesOwn (model P w) (A.deeper (envOfC qual scope s.heap.objs.size f cd)) (envOfC qual scope s.heap.objs.size f cd) (cxOf (L2N.CX P w) P w K mg base N qual scope f cd A outer s H E).xe := passes_of (X := cxOf (L2N.CX P w) P w K mg base N qual scope f cd A outer s H E) (K := fun e s'' => L2N.CX P w outer H s E e s'') rfl
end
/-! ### what raises whatever the slots are -/
def WU (Wx : WX) : XK := fun cls d H => ∀ σ, Wx cls d σ H
theorem passU {X : Cx} {W : WX} (tk : L2.Takes X W) : Passes (L2.CX X.prog X.w) X (WU W) := L2.passes_call tk fun _ _ σ _ h => h σ
theorem passUN {X : Cx} {W : WX} (tk : L2N.Takes X W) : Passes (L2N.CX X.prog X.w) X (WU W) := L2N.passes_call tk fun _ _ σ _ h => h σ
section
variable {W : List Addr} {Hk0 H0 : Hp} {Γ Γ' : Ctx} {Ω Ω' Ω1 Ω2 Ω3 Ωr : List Cell} {T T' : Tm} {σ σ' : L2.St} {Hk H : Hp} {K : PySem.W.Frag}
variable {te ta tb td to : TE} {tt tu : TT} {D : Ends} {e e1 e2 : En} {ts tz : TS} {c : Cell} {Cl Cx' : Addr} {Wx : WX} {fld : Str} {α : Type} {A : Rp α} {x : α}
def RzU (te : TE) (Γ : Ctx) (Ω : List Cell) (Wx : WX) (Cx' : Addr) (Ω' : List Cell) : Prop := ∀ W Hk0 H0 T σ H, At W Hk0 H0 Γ Ω T σ H → (∀ H' d, At W Hk0 H0 Γ Ω' T σ H' → WU Wx (.ref Cx') d H') → ∀ Q : VK, te σ H Q
theorem made_at {es : List En} {vs : List V} {H1 Hk1 : Hp} (a1 : AtH W Hk0 H0 Γ Ω1 T σ Hk1 H1) (o : OkAll es vs Hk1) {x dx : Addr} (hx : H1 x = none) (hdx : H1 dx = none) (hne : dx ≠ x) :
    AtH W Hk0 H0 Γ ([ic Cl x dx []] ++ Ω1) ((en rVal (.ref x) :: es).zip (.ref x :: vs) ++ T) σ Hk1 (upd (upd H1 dx (.own x)) x (.ins Cl dx [])) := by
  have hx' : upd H1 dx (.own x) x = none := by rw [upd_ne hne.symm]; exact hx
  have b : AtH W Hk0 H0 Γ ([ic Cl x dx []] ++ Ω1) T σ Hk1 (upd (upd H1 dx (.own x)) x (.ins Cl dx [])) := (a1.extra (o := .own x) hdx).newCell (c := ic Cl x dx []) (o := .ins Cl dx []) hx' rfl rfl
  refine { b with tp := fun p hp => ?_ }
  rcases List.mem_append.mp hp with hp | hp
  · rw [List.zip_cons_cons] at hp
    rcases List.mem_cons.mp hp with rfl | hp
    · exact rfl
    · have : ∀ {ds : List En} {dvs : List V}, OkAll ds dvs Hk1 → ∀ p ∈ ds.zip dvs, En.ok p.1 p.2 Hk1 := by
        intro ds
        induction ds with
        | nil => intro dvs _ p hp; simp at hp
        | cons d ds ih =>
          intro dvs o p hp
          cases dvs with
          | nil => simp at hp
          | cons v dvs =>
            simp at hp
            rcases hp with rfl | hp
            · exact o.1
            · exact ih o.2 p hp
      exact this o p hp
  · exact b.tp p hp
/-- C(e, .., k=f, ..) whose __init__ raises -/
theorem rz_makeN {S : SigR} {n m : Nat} {gV : List V → List V → List V} {t tk : TA} {es zs es' : List En} (h : EvA t Γ Ω es Ω1) (hk : EvA tk Γ Ω1 zs Ω2) (hn : es.length = n) (hm : zs.length = m)
    (hg : ∀ vs ws x Hk, OkAll es vs Hk → OkAll zs ws Hk → ∃ us, gV (.ref x :: vs) ws = .ref x :: us ∧ OkAll es' us Hk)
    (hs : ∀ x dx, S (en rVal (.ref x) :: es') [ic Cl x dx []] Cx' []) : RzU (tMakeN Cl n m (spR S) gV (WU Wx) t tk) Γ Ω Wx Cx' Ω2 := fun W Hk0 H0 T σ H a q Q =>
  h W Hk0 H0 T σ H a _ fun vs H1 hl a1 => hk W Hk0 H0 _ σ H1 a1 _ fun ws H2 hlw ⟨Hk2, a2⟩ => by
    refine ⟨by rw [← hl, hn], by rw [← hlw, hm], fun x dx hx hdx hne => ?_⟩
    have o1 : OkAll es vs Hk2 := .of_zip hl fun p hp => a2.tp p (by simp [hp])
    have o2 : OkAll zs ws Hk2 := .of_zip hlw fun p hp => a2.tp p (by simp [hp])
    obtain ⟨us, e1, o3⟩ := hg vs ws x Hk2 o1 o2
    rw [e1]
    exact (made_at (Cl := Cl) (a2.sub (T' := T) fun p hp => by simp [hp]) o3 hx hdx hne).callR (by simp [o3.len]) (hs x dx) fun H' a' => q H' _ a'
/-- C(e, ..) whose __init__ raises what keeps a field -/
theorem rz_make {S : SigF} {t : TA} {es : List En} (h : EvA t Γ Ω es Ω1) (hs : ∀ x dx, S (en rVal (.ref x) :: es) [ic Cl x dx []] Cx' e []) : RzU (tMake Cl (spF S) [] (WU Wx) t) Γ Ω Wx Cx' Ω1 := fun W Hk0 H0 T σ H a q Q =>
  h W Hk0 H0 T σ H a _ fun vs H1 hl ⟨Hk1, a1⟩ x dx hx hdx hne => by
    have o1 : OkAll es vs Hk1 := .of_zip hl fun p hp => a1.tp p (by simp [hp])
    rw [List.append_nil]
    exact (made_at (Cl := Cl) (a1.sub (T' := T) fun p hp => by simp [hp]) o1 hx hdx hne).callF (by simp [o1.len]) (hs x dx) fun H' d a' => q H' _ (a'.sub fun p hp => by simp at hp ⊢; simp [hp])
theorem rz_tup2 (h1 : Ev ta Γ Ω e1 Ω1) (h2 : RzU tb Γ Ω1 Wx Cx' Ω2) : RzU (tTup (tCons ta (tCons tb tNil))) Γ Ω Wx Cx' Ω2 := fun W Hk0 H0 T σ H a q Q =>
  h1 W Hk0 H0 T σ H a _ fun v H1 a1 => h2 W Hk0 H0 _ σ H1 a1 (fun H' d a' => q H' d (a'.sub fun p hp => by simp [hp])) _
/-- try: return e, which raises; except X: suite -/
theorem s_tryU {Cy : Addr} {su : Addr → Value → Option Addr → TS} {Wout : WX} (a : At W Hk0 H0 Γ Ω T σ H) (h : RzU te Γ Ω (wOnly K (.ref Cy) su Wout D) Cx' Ω') (hm : PySem.W.exmOne K (.ref Cx') (.ref Cy) = some true) (k : ∀ p d σ' H', At W Hk0 H0 Γ Ω' T σ H' → su p (.ref Cx') d D σ' H') :
    tRet te D σ H := h W Hk0 H0 T σ H a (fun H' d a' σ' => ⟨true, hm, fun _ p _ => k p d σ' H' a', fun z => by cases z⟩) _
/-- f(..) that raises, at the slots -/
theorem rz_callS {S : SigF} {t : TA} {es : List En} (h : EvA t Γ Ω es (Ω1 ++ Ω2)) (hs : S es Ω1 Cx' e Ω') : RzF (tCallS (spF S) (WE Wx) t) Γ Ω Wx Cx' e (Ω' ++ Ω2) := fun W Hk0 H0 T σ H a q Q =>
  h W Hk0 H0 T σ H a _ fun vs H1 hl ⟨Hk1, a1⟩ => a1.callF hl hs fun H' d a' => q H' d a'
/-- a statement whose expression raises -/
theorem s_retF {Wx : WX} (a : At W Hk0 H0 Γ Ω T σ H) (h : RzF te Γ Ω Wx Cx' e Ω') (k : ∀ H' d, At W Hk0 H0 Γ Ω' ((e, .ref d) :: T) σ H' → Wx (.ref Cx') (some d) σ H') : tRet te D σ H := h W Hk0 H0 T σ H a k _
theorem s_dropF {Wx : WX} (a : At W Hk0 H0 Γ Ω T σ H) (h : RzF te Γ Ω Wx Cx' e Ω') (k : ∀ H' d, At W Hk0 H0 Γ Ω' ((e, .ref d) :: T) σ H' → Wx (.ref Cx') (some d) σ H') : tDrop te D σ H := h W Hk0 H0 T σ H a k _
/-- try: x = e, which raises; except C as n: suite -/
theorem s_tryAsg {Cy : Addr} {i : Nat} {te : WX → TE} {g : TG} {su : Addr → Value → Option Addr → TS} {Wout : WX} (a : At W Hk0 H0 Γ Ω T σ H) (h : ∀ Wx : WX, RzF (te Wx) Γ Ω Wx Cx' e Ω') (hm : PySem.W.exmOne K (.ref Cx') (.ref Cy) = some true)
    (k : ∀ o d H', At W Hk0 H0 (Γ.set i (some (en rVal (.ref o)))) Ω' ((e, .ref d) :: T) (σ.set i (some (.ref o))) H' →
      su o (.ref Cx') (some d) { nx := fun σ' H' => D.nx (σ'.set i none) H', rt := D.rt, bk := fun σ' H' => D.bk (σ'.set i none) H', ct := fun σ' H' => D.ct (σ'.set i none) H' } (σ.set i (some (.ref o))) H') :
    tAsg (te (wAs K (.ref Cy) i su Wout D)) g D σ H := h _ W Hk0 H0 T σ H a (fun H' d a' => ⟨true, hm, fun _ o ho => k o d H' (by
      obtain ⟨Hk', a'⟩ := a'
      exact ⟨Hk', (a'.push (e := en rVal (.ref o)) (v := .ref o) rfl).unpush.set i rfl⟩), fun z => by cases z⟩) _
end
/-! ### C() of an own class with a field, where nothing is handled; C(e) from None, where something is -/
section
variable {X : Cx} {CX : CXT} {k : Nat} {f C fI : Addr} {fd : FuncData} {ps : List Str} {sp : Sp} {x sf pt fld : Str} {p pos pos2 : Pos} {e : Expr} {te : TE} {W : WX} {ds : List Value} {dvs : List V}
theorem pmkN0 (T : OexC X.K C) (iC : PySem.W.findIn X.K (.ref C) "__init__" = some (some (.ref fI))) (tI : PySem.W.typeIn X.K (.ref fI) = some (.type "function")) (F1 : FnOk X.prog X.w X.K X.mg X.base CX k fI fd ps sp) (hr : Room (k + 1) X.A) (hb : Binds X.K fd ps ds) (hd : Vals dvs ds)
    (hx : Passes CX X (fun _ _ _ => False)) (hg : Gl X x) (hm : X.mg x = some (.ref C)) (hdb : (x == ("__debug__" : Str)) = false := by decide) : L2N.PMk X (.Call (.Name x p) [] [] pos) (tMkO C sp dvs tNil) := by
  intro pins s σ H Q I ⟨_, q1⟩
  obtain ⟨nm, qn, N, bs, bm, sn, sub, ab, col, dd, k0, k1, k2, k3, k5, hC, hbm⟩ := T.cls
  refine wpAny_Call_Name_kw (ld_glob I hg hm ?_ hdb)
  refine PySem.W.callWith_K0 (first := []) I.kIn T.kC ?_
  show wpAny _ _ (call (.ref C) []) _ _ _
  obtain ⟨h1, gn, dw, tn, os⟩ := s
  have le1 : h1.objs.size ≤ h1.objs.size + 1 := Nat.le_succ _
  have fr1 : H (h1.objs.size + 1) = none := I.hok.fresh le1
  have q2 := q1 _ fr1
  obtain ⟨h3, e3⟩ : ∃ h3, h3 = (h1.push (PySem.W.kdv_tup [])).push (PySem.HandSPX.excO C h1.objs.size) := ⟨_, rfl⟩
  have k3' : ∀ b o, h1.get? b = some o → h3.get? b = some o := fun b o z => by rw [e3]; exact Heap.get?_push_of_some _ (Heap.get?_push_of_some _ z)
  have g3 : h3.get? (h1.objs.size + 1) = some (PySem.HandSPX.excO C h1.objs.size) := by rw [e3]; heap_get
  have J : Inv X pins σ (upd H (h1.objs.size + 1) (exo (h1.objs.size + 1) C none)) ⟨h3, gn, dw, tn, os⟩ := I.laid (t' := tn) k3' le1 (exo_ok g3)
  have rv : Vals (V.ref (h1.objs.size + 1) :: ([] ++ dvs)) (Value.ref (h1.objs.size + 1) :: ([] ++ ds)) := .cons rfl (by simpa using hd)
  have ln : ([Value.ref (h1.objs.size + 1)] ++ ds).length = ps.length := (rv.length.symm.trans (F1.len _ _ _ _ q2) : (Value.ref (h1.objs.size + 1) :: ([] ++ ds)).length = ps.length)
  have z0 : ([] : List Value).length ≤ sizeLine := Nat.zero_le _
  rw [e3] at J
  refine wpAny_call (PySem.HandSPX.call_own F.excBase_ValueError (fun Y => PySem.HandSPX.refsVE_contains Y bm hbm) (I.kIn _ _ hC) (PySem.W.looks_findIn I.kIn iC) (fun self => PySem.W.bind_fn I.kIn self tI) z0
    (codeAny_mono (F1.run _ X.stack _ _ ⟨[Value.ref (h1.objs.size + 1)], []⟩ _ _ _ (fun _ _ _ => False) (hr.make C [] []) (J.env0.make C [] []) (hb _ [Value.ref (h1.objs.size + 1)] J.kIn ln) rv q2) fun r s2 hq => ?_))
  match r, hq with
  | .error er, hq => exact hx pins σ _ _ er s2 J hq
  | .ok (.ret u), hq =>
    obtain ⟨v, H2, os2, bare2, un2, hok2, ru, ev, d, fs, ea, ed, hd1, q3⟩ := hq
    subst ev
    obtain ⟨h4, g4, d4, t4, o4⟩ := s2
    obtain ⟨t0, G, L, kG, ge, hoe, na⟩ := mk_end0 (d2 := d4) (t2 := t4) I le1 (fun b o z => e3 ▸ k3' b o z) un2 hok2 os2 bare2 ea ed hd1
    exact ⟨ru, h1.objs.size + 1, _, _, ⟨G, g4, d4, t4, o4⟩, _, .ref C, some d, rfl, L, kG, ge, hoe, ⟨rfl, rfl, fun vs hv => by cases hv; rfl⟩, rfl, rfl, na, rfl, bare2, raises_own T.exC T.tyC, q3⟩
  | .ok .next, hq => exact hq.elim
  | .ok .brk, hq => exact hq.elim
  | .ok .cont, hq => exact hq.elim
/-- raise C() -/
def tRz0 (C : Addr) (fld : Str) (dvs : List V) (W : WX) : TS := fun _ σ H => tMkO C (spSup C fld) dvs tNil σ H fun cls d H' => W cls d σ H'
theorem ps_rz0 {file0 : Str} {d : DefE} (hc : X.calm = true) (tk : L2N.Takes X W) (T : SupA file0 X.K C fI [sf, pt] fld d) (G : ∃ fd, FnOk X.prog X.w X.K X.mg X.base (L2.CX X.prog X.w) k fI fd [sf, pt] (spSup C fld) ∧ ∃ ds, Vals dvs ds ∧ Binds X.K fd [sf, pt] ds) (hr : Room (k + 1) X.A) (hg : Gl X x) (hm : X.mg x = some (.ref C))
    (hdb : (x == ("__debug__" : Str)) = false := by decide) : PS X (.Raise (some (.Call (.Name x p) [] [] pos)) none pos2) (tRz0 C fld dvs W) := by
  obtain ⟨fd, F1, ds, hd, hb⟩ := G
  exact L2N.ps_raise hc tk (pmkN0 T.ob T.ini T.ty F1 hr hb hd passL hg hm hdb)
/-- raise C(e) from None -/
theorem ps_rzHN {file0 : Str} {d : DefE} {j : Nat} {cpos : Pos} (hc : L2H.HotC X) (tk : L2.Takes X W) (T : SupA file0 X.K C fI [sf, pt] fld d) (G : ∃ fd, L2H.FnH X.prog X.w X.K X.mg X.base (L2.CX X.prog X.w) k fI fd [sf, pt] (spSup C fld) ∧ Binds X.K fd [sf, pt] []) (hr : L2H.RoomH (k + 1) X.A) (hg : Gl X x) (hm : X.mg x = some (.ref C)) (he : PE X e te)
    (hdb : (x == ("__debug__" : Str)) = false := by decide) (hst : starEach (e :: []) X.env = (false, eval e X.env) :: starEach [] X.env := by rfl) (hpl : (backTo pos (starEach [] X.env)).any (·.1) = false := by rfl) : PS X (.Raise (some (.Call (.Name x p) [e] [] pos)) (some (.Constant .none j cpos)) pos2) (tRzF C fld te W) := by
  obtain ⟨fd, F1, hb⟩ := G
  exact L2H.ps_raiseHN hc tk (L2H.pmk5_oexH T.ob T.ini T.ty F1 hr hc hb passL hg hm (pa_cons he pa_nil (hs := hst)) hdb hst hpl)
end
section
variable {W : List Addr} {Hk0 H0 : Hp} {Γ : Ctx} {Ω : List Cell} {T : Tm} {σ : L2.St} {H : Hp} {K : PySem.W.Frag} {D : Ends} {Cl : Addr} {Wx : WX} {fld : Str}
theorem s_rz0 {α : Type} {A : Rp α} {x : α} {dv : V} (a : At W Hk0 H0 Γ Ω T σ H) (hd : ∀ H, A.r x dv H) (k : ∀ d H', At W Hk0 H0 Γ Ω ((en (rXd fld A) x, .ref d) :: T) σ H' → Wx (.ref Cl) (some d) σ H') : tRz0 Cl fld [dv] Wx D σ H := by
  obtain ⟨_, h⟩ := s_rzF (te := tC dv) (Ω' := Ω) (A := A) (x := x) (Wx := Wx) (D := D) (fld := fld) (Cl := Cl) a (ev_c hd) k
  exact ⟨Nat.zero_le _, h⟩
end
end KA

/-! timetables as texts: what is read, what is written -/
namespace KA
open PySem PySem.Spec PyProof.Rows L2
abbrev spT : Str := " "
abbrev nlT : Str := "\n"
theorem spT_eq : spT = ⟨#[32]⟩ := by decide +kernel
theorem nlT_eq : nlT = ⟨#[10]⟩ := by decide +kernel
theorem emT_eq : ("" : Str) = ⟨#[]⟩ := by decide +kernel
/-- the number that a word tells -/
def readNum (w : Str) : Option Int := ((List.range 13).find? fun n : Nat => decide (w = numT (n : Int))).map fun n : Nat => (n : Int)
def jobW : Option Int → Option Int → Option Int → Option Int → Option Jb
  | some p, some l, some s, some k => if h : (1 ≤ p ∧ p ≤ 12) ∧ (1 ≤ l ∧ l ≤ p) ∧ (0 ≤ s ∧ s < p) ∧ (1 ≤ k ∧ k ≤ 9) then some (mkJ p l s k h) else none
  | _, _, _, _ => none
def readWs : List Str → Option (Str × Jb)
  | [w, a, b, c, d] => if isNm w = true then (jobW (readNum a) (readNum b) (readNum c) (readNum d)).map fun j => (w, j) else none
  | _ => none
def readLine (l : Str) : Option (Str × Jb) := readWs (Txt.split l spT)
/-- its words are five, a name the first, and no job takes the others -/
def badWs : List Str → Bool
  | [w, a, b, c, d] => isNm w && (jobW (readNum a) (readNum b) (readNum c) (readNum d)).isNone
  | _ => false
def firstBad : List Str → Nat → Option Nat
  | [], _ => none
  | l :: ls, i => if (readLine l).isNone = true then some i else firstBad ls (i + 1)
def tbB (m : List (Str × Jb)) : Bool := decide (m.map (·.1)).Nodup && decide (m.length ≤ 4) && decide (prodP m ≤ 2000)
def readLs (ls : List Str) (rest : Str) : Except Int (List (Str × Jb)) :=
  match firstBad ls 0 with
  | some i => .error i
  | none => if ls = [] ∨ rest ≠ "" then .error ls.length else if tbB (ls.filterMap readLine) = true then .ok (ls.filterMap readLine) else .error 0
def readT (t : Str) : Except Int (List (Str × Jb)) := readLs (Txt.split t nlT).dropLast ((Txt.split t nlT).getLastD "")
def lineB (p : Str × Jb) : Str := Str.join spT [p.1, numT p.2.per, numT p.2.dur, numT p.2.st, numT p.2.co]
def lineOf (p : Str × Jb) : Str := lineB p ++ nlT
def textOf (m : List (Str × Jb)) : Str := Str.join "" (m.map lineOf)
/-! ### numbers -/
theorem nat13 {n : Int} (h : 0 ≤ n ∧ n ≤ 12) : ∃ k : Nat, k < 13 ∧ n = (k : Int) := ⟨n.toNat, by omega, by omega⟩
theorem num_free {n : Int} (h : 0 ≤ n ∧ n ≤ 12) : (32 ∉ (numT n).cps.toList) ∧ (10 ∉ (numT n).cps.toList) ∧ (numT n).length ≤ 2 := by
  obtain ⟨k, hk, rfl⟩ := nat13 h
  have : ∀ k : Nat, k < 13 → (32 ∉ (numT (k : Int)).cps.toList) ∧ (10 ∉ (numT (k : Int)).cps.toList) ∧ (numT (k : Int)).length ≤ 2 := by decide +kernel
  exact this k hk
theorem readNum_num {n : Int} (h : 0 ≤ n ∧ n ≤ 12) : readNum (numT n) = some n := by
  obtain ⟨k, hk, rfl⟩ := nat13 h
  have : ∀ k : Nat, k < 13 → readNum (numT (k : Int)) = some (k : Int) := by decide +kernel
  exact this k hk
theorem readNum_at {w : Str} {i : Nat} (hi : i < 13) (e : w = numT (i : Int)) (h : ∀ j : Nat, j < i → w ≠ numT (j : Int)) : readNum w = some (i : Int) := by
  unfold readNum
  rw [List.find?_range_eq_some.mpr ⟨by simpa using e, by simpa using hi, fun j hj => by simpa using h j hj⟩]
  rfl
theorem readNum_no {w : Str} (h : ∀ j : Nat, j < 13 → w ≠ numT (j : Int)) : readNum w = none := by
  unfold readNum
  rw [List.find?_eq_none.mpr fun j hj => by simpa using h j (List.mem_range.mp hj)]
  rfl
/-! ### names -/
theorem nm_free {z : Str} (h : isNm z = true) : (32 ∉ z.cps.toList) ∧ (10 ∉ z.cps.toList) ∧ z.length ≤ 8 ∧ 1 ≤ z.length := by
  unfold isNm at h
  rw [Bool.and_eq_true] at h
  have h1 := of_decide_eq_true h.1
  have h2 := List.all_eq_true.mp h.2
  refine ⟨fun hm => ?_, fun hm => ?_, h1.2, h1.1⟩
  · exact absurd (of_decide_eq_true (h2 _ hm)) (by decide +kernel)
  · exact absurd (of_decide_eq_true (h2 _ hm)) (by decide +kernel)
/-! ### joining -/
theorem join_em : ∀ ys : List Str, (Str.join "" ys).cps.toList = (ys.map (·.cps.toList)).flatten
  | [] => rfl
  | [x] => by simp [Str.join]
  | x :: y :: r => by
    have ih := join_em (y :: r)
    show (x ++ "" ++ Str.join "" (y :: r)).cps.toList = _
    rw [cps_app, cps_app, ih, emT_eq]
    simp
theorem join_cons (x : Str) (ys : List Str) : Str.join "" (x :: ys) = x ++ Str.join "" ys := str_ext (by rw [cps_app, join_em, join_em]; simp)
theorem join_snoc (ys : List Str) (x : Str) : Str.join "" (ys ++ [x]) = Str.join "" ys ++ x := str_ext (by rw [cps_app, join_em, join_em]; simp)
theorem app_em (x : Str) : x ++ ("" : Str) = x := str_ext (by rw [cps_app, emT_eq]; simp)
/-- lines, each with its end, and what is behind them -/
theorem lines_join (rest : Str) : ∀ bs : List Str, Str.join "" (bs.map (· ++ nlT)) ++ rest = Str.join ⟨#[10]⟩ (bs ++ [rest])
  | [] => str_ext (by rw [cps_app]; rfl)
  | b :: bs => by
    have ih := lines_join rest bs
    rw [List.map_cons, join_cons, List.cons_append]
    have e : Str.join ⟨#[10]⟩ (b :: (bs ++ [rest])) = b ++ ⟨#[10]⟩ ++ Str.join ⟨#[10]⟩ (bs ++ [rest]) := by
      cases h : bs ++ [rest] with
      | nil => simp at h
      | cons y r => rfl
    rw [e, ← ih, nlT_eq]
    refine str_ext ?_
    simp only [cps_app, List.append_assoc]
theorem split_lines {bs : List Str} {rest : Str} (h : ∀ b ∈ bs, 10 ∉ b.cps.toList) (hr : 10 ∉ rest.cps.toList) : Txt.split (Str.join "" (bs.map (· ++ nlT)) ++ rest) nlT = bs ++ [rest] := by
  rw [lines_join, nlT_eq]
  refine split_of (by simp) fun w hw => ?_
  rcases List.mem_append.mp hw with hw | hw
  · exact h w hw
  · rw [List.mem_singleton.mp hw]; exact hr
theorem readT_lines {bs : List Str} {rest : Str} (h : ∀ b ∈ bs, 10 ∉ b.cps.toList) (hr : 10 ∉ rest.cps.toList) : readT (Str.join "" (bs.map (· ++ nlT)) ++ rest) = readLs bs rest := by
  unfold readT
  rw [split_lines h hr, List.dropLast_concat]
  simp
/-! ### lines of jobs -/
theorem job_free {p : Str × Jb} (h : isNm p.1 = true) : ∀ w ∈ [p.1, numT p.2.per, numT p.2.dur, numT p.2.st, numT p.2.co], (32 ∉ w.cps.toList) ∧ (10 ∉ w.cps.toList) := by
  have hj := p.2.ok
  intro w hw
  have f := @num_free
  simp only [List.mem_cons, List.mem_nil_iff, or_false] at hw
  rcases hw with rfl | rfl | rfl | rfl | rfl
  · exact ⟨(nm_free h).1, (nm_free h).2.1⟩
  · exact ⟨(f (by omega)).1, (f (by omega)).2.1⟩
  · exact ⟨(f (by omega)).1, (f (by omega)).2.1⟩
  · exact ⟨(f (by omega)).1, (f (by omega)).2.1⟩
  · exact ⟨(f (by omega)).1, (f (by omega)).2.1⟩
theorem mem_jl {c x : Nat} : ∀ {ws : List (List Nat)}, x ∈ jl c ws → x = c ∨ ∃ w ∈ ws, x ∈ w
  | [], h => by simp [jl] at h
  | [w], h => .inr ⟨w, by simp, h⟩
  | w :: y :: r, h => by
    unfold jl at h
    rcases List.mem_append.mp h with h | h
    · exact .inr ⟨w, by simp, h⟩
    · rcases List.mem_cons.mp h with h | h
      · exact .inl h
      · rcases mem_jl (ws := y :: r) h with h | ⟨v, hv, h⟩
        · exact .inl h
        · exact .inr ⟨v, List.mem_cons_of_mem _ hv, h⟩
theorem lineB_free {p : Str × Jb} (h : isNm p.1 = true) : 10 ∉ (lineB p).cps.toList := by
  unfold lineB
  rw [spT_eq, jl_of]
  intro hm
  rcases mem_jl hm with hm | ⟨w, hw, hm⟩
  · omega
  · obtain ⟨v, hv, rfl⟩ := List.mem_map.mp hw
    exact (job_free h v hv).2 hm
theorem split_lineB {p : Str × Jb} (h : isNm p.1 = true) : Txt.split (lineB p) spT = [p.1, numT p.2.per, numT p.2.dur, numT p.2.st, numT p.2.co] := by
  unfold lineB
  rw [spT_eq]
  exact split_of (by simp) fun w hw => (job_free h w hw).1
theorem readLine_lineB {p : Str × Jb} (h : isNm p.1 = true) : readLine (lineB p) = some p := by
  have hj := p.2.ok
  unfold readLine
  rw [split_lineB h]
  show (if isNm p.1 = true then _ else _) = _
  rw [if_pos h, readNum_num (by omega), readNum_num (by omega), readNum_num (by omega), readNum_num (by omega)]
  show (dite ((1 ≤ p.2.per ∧ p.2.per ≤ 12) ∧ (1 ≤ p.2.dur ∧ p.2.dur ≤ p.2.per) ∧ (0 ≤ p.2.st ∧ p.2.st < p.2.per) ∧ (1 ≤ p.2.co ∧ p.2.co ≤ 9)) (fun h => some (mkJ p.2.per p.2.dur p.2.st p.2.co h)) fun _ => none).map (fun j => (p.1, j)) = _
  rw [dif_pos hj]
  rfl
theorem lineB_len {p : Str × Jb} (h : isNm p.1 = true) : (lineB p).length ≤ 24 := by
  have hj := p.2.ok
  have f := @num_free
  have := StrLaws.join_length_le spT [p.1, numT p.2.per, numT p.2.dur, numT p.2.st, numT p.2.co]
  have h1 := (nm_free h).2.2.1
  have h2 := (f (n := p.2.per) (by omega)).2.2
  have h3 := (f (n := p.2.dur) (by omega)).2.2
  have h4 := (f (n := p.2.st) (by omega)).2.2
  have h5 := (f (n := p.2.co) (by omega)).2.2
  have hs : spT.length = 1 := by rw [spT_eq]; rfl
  simp only [List.map_cons, List.map_nil, List.sum_cons, List.sum_nil, List.length_cons, List.length_nil, hs] at this
  unfold lineB
  omega
theorem lineB_ne {p : Str × Jb} (h : isNm p.1 = true) : lineB p ≠ "" := by
  intro e
  have h1 := readLine_lineB h
  rw [e] at h1
  have : readLine "" = none := by kernel_rfl
  rw [this] at h1
  cases h1
theorem len_app (a b : Str) : (a ++ b).length = a.length + b.length := Str.length_append a b
theorem nlT_len : nlT.length = 1 := by rw [nlT_eq]; rfl
theorem lineOf_len {p : Str × Jb} (h : isNm p.1 = true) : (lineOf p).length ≤ 25 := by
  have := lineB_len h
  unfold lineOf
  rw [len_app, nlT_len]
  omega
theorem lines_len {ys : List Str} {n : Nat} (h : ∀ y ∈ ys, y.length ≤ n) : (ys.map (·.length)).sum ≤ ys.length * n := by
  induction ys with
  | nil => simp
  | cons y ys ih =>
    have h1 := h y (by simp)
    have h2 := ih fun z hz => h z (by simp [hz])
    rw [List.map_cons, List.sum_cons, List.length_cons, Nat.succ_mul]
    omega
theorem join_len {ys : List Str} {n : Nat} (h : ∀ y ∈ ys, y.length ≤ n) : (Str.join "" ys).length ≤ ys.length * n := by
  have h1 := StrLaws.join_length_le "" ys
  have h2 := lines_len h
  have h3 : ("" : Str).length = 0 := by rw [emT_eq]; rfl
  rw [h3, Nat.mul_zero] at h1
  omega
theorem textOf_len {m : List (Str × Jb)} (h : TbOk m) : (textOf m).length ≤ 100 := by
  have h4 := h.n4
  have := join_len (ys := m.map lineOf) (n := 25) fun y hy => by
    obtain ⟨p, hp, rfl⟩ := List.mem_map.mp hy
    exact lineOf_len (h.nm p hp)
  unfold textOf
  rw [List.length_map] at this
  omega
theorem textOf_eq (m : List (Str × Jb)) : textOf m = Str.join "" ((m.map lineB).map (· ++ nlT)) := by
  unfold textOf
  rw [List.map_map]
  rfl
/-! ### what is read of them -/
theorem firstBad_no : ∀ {ls : List Str} {i : Nat}, (∀ l ∈ ls, (readLine l).isSome = true) → firstBad ls i = none
  | [], _, _ => rfl
  | l :: ls, i, h => by
    unfold firstBad
    have h1 := h l (by simp)
    rw [if_neg (by cases e : readLine l <;> simp_all)]
    exact firstBad_no fun x hx => h x (by simp [hx])
theorem firstBad_at : ∀ {ls : List Str} {r : Str} {ms : List Str} {i : Nat}, (∀ l ∈ ls, (readLine l).isSome = true) → readLine r = none → firstBad (ls ++ r :: ms) i = some (i + ls.length)
  | [], r, ms, i, _, hr => by
    show firstBad (r :: ms) i = _
    unfold firstBad
    rw [if_pos (by rw [hr]; rfl)]
    rfl
  | l :: ls, r, ms, i, h, hr => by
    rw [List.cons_append]
    unfold firstBad
    have h1 := h l (by simp)
    rw [if_neg (by cases e : readLine l <;> simp_all), firstBad_at (fun x hx => h x (by simp [hx])) hr, List.length_cons]
    congr 1
    omega
theorem lineB_some {m : List (Str × Jb)} (h : ∀ p ∈ m, isNm p.1 = true) : ∀ l ∈ m.map lineB, (readLine l).isSome = true := fun l hl => by
  obtain ⟨p, hp, rfl⟩ := List.mem_map.mp hl
  rw [readLine_lineB (h p hp)]
  rfl
theorem lineB_frees {m : List (Str × Jb)} (h : ∀ p ∈ m, isNm p.1 = true) : ∀ l ∈ m.map lineB, 10 ∉ l.cps.toList := fun l hl => by
  obtain ⟨p, hp, rfl⟩ := List.mem_map.mp hl
  exact lineB_free (h p hp)
theorem read_all : ∀ {m : List (Str × Jb)}, (∀ p ∈ m, isNm p.1 = true) → (m.map lineB).filterMap readLine = m
  | [], _ => rfl
  | p :: m, h => by
    rw [List.map_cons, List.filterMap_cons, readLine_lineB (h p (by simp)), read_all fun q hq => h q (by simp [hq])]
theorem readT_ok {m : List (Str × Jb)} (h : TbOk m) : readT (textOf m) = .ok m := by
  have h1 := h.n1
  rw [← app_em (textOf m), textOf_eq, readT_lines (lineB_frees h.nm) (by rw [emT_eq]; simp)]
  unfold readLs
  rw [firstBad_no (lineB_some h.nm)]
  show (if _ then _ else _) = _
  rw [if_neg (by simp; intro z; simp [z] at h1), read_all h.nm, if_pos]
  unfold tbB
  rw [decide_eq_true h.nd, decide_eq_true h.n4, decide_eq_true h.pr]
  rfl
theorem readT_wrong {m : List (Str × Jb)} {at_ : Nat} {r : Str} (h : ∀ p ∈ m, isNm p.1 = true) (ha : at_ ≤ m.length) (hr : readLine r = none) (hf : 10 ∉ r.cps.toList) :
    readT (Str.join "" ((m.map lineOf).take at_ ++ [r ++ nlT] ++ (m.map lineOf).drop at_)) = .error at_ := by
  have e : (m.map lineOf).take at_ ++ [r ++ nlT] ++ (m.map lineOf).drop at_ = (((m.take at_).map lineB) ++ r :: ((m.drop at_).map lineB)).map (· ++ nlT) := by
    rw [← List.map_take, ← List.map_drop, List.map_append, List.map_cons, List.map_map, List.map_map, List.append_assoc]
    rfl
  rw [e, ← app_em (Str.join "" _), readT_lines (fun b hb => ?_) (by rw [emT_eq]; simp)]
  · unfold readLs
    rw [firstBad_at (lineB_some fun p hp => h p (List.mem_of_mem_take hp)) hr, List.length_map, List.length_take, Nat.min_eq_left ha, Nat.zero_add]
  · rcases List.mem_append.mp hb with hb | hb
    · exact lineB_frees (fun p hp => h p (List.mem_of_mem_take hp)) b hb
    · rcases List.mem_cons.mp hb with rfl | hb
      · exact hf
      · exact lineB_frees (fun p hp => h p (List.mem_of_mem_drop hp)) b hb
theorem readT_rest {m : List (Str × Jb)} {r : Str} (h : ∀ p ∈ m, isNm p.1 = true) (hr : r ≠ "") (hf : 10 ∉ r.cps.toList) : readT (textOf m ++ r) = .error m.length := by
  rw [textOf_eq, readT_lines (lineB_frees h) hf]
  unfold readLs
  rw [firstBad_no (lineB_some h)]
  show (if _ then _ else _) = _
  rw [if_pos (.inr hr), List.length_map]
theorem textOf_snoc (m : List (Str × Jb)) (p : Str × Jb) : textOf (m ++ [p]) = textOf m ++ lineOf p := by
  unfold textOf
  rw [List.map_append]
  exact join_snoc _ _
theorem cut_nl (t : Str) : cutS (t ++ nlT) none (some (-1)) = t := by
  refine str_ext ?_
  have hl : (t ++ nlT).length = t.length + 1 := by rw [len_app, nlT_len]
  have hs : HT.sIx (t.length + 1) (t.length + 1) (some (-1)) = t.length := by
    unfold HT.sIx
    simp
    omega
  have hz : HT.sIx (t.length + 1) 0 none = 0 := HT.sIx_none ..
  show (((t ++ nlT).cps.toList.drop _).take _) = _
  rw [hl, hs, hz, cps_app, List.drop_zero, Nat.sub_zero]
  have : t.length = t.cps.toList.length := Array.length_toList.symm
  rw [this, List.take_left]
theorem readT_cut {m : List (Str × Jb)} (h : ∀ p ∈ m, isNm p.1 = true) (h1 : 1 ≤ m.length) : readT (cutS (textOf m) none (some (-1))) = .error ((m.length : Int) - 1) := by
  obtain ⟨m0, p, rfl⟩ : ∃ m0 p, m = m0 ++ [p] := ⟨m.dropLast, m.getLast (by intro z; simp [z] at h1), (List.dropLast_concat_getLast _).symm⟩
  have e : textOf (m0 ++ [p]) = (textOf m0 ++ lineB p) ++ nlT := by
    rw [textOf_snoc]
    unfold lineOf
    exact str_ext (by simp only [cps_app, List.append_assoc])
  have hp := h p (by simp)
  rw [e, cut_nl, readT_rest (fun q hq => h q (by simp [hq])) (lineB_ne hp) (lineB_free hp), List.length_append, List.length_singleton]
  congr 1
  omega
theorem readT_dup {m : List (Str × Jb)} {k : Nat} (h : ∀ p ∈ m, isNm p.1 = true) (hk : k < m.length) : readT (textOf m ++ lineOf (m.getD k default)) = .error 0 := by
  have hm : m.getD k default ∈ m := mem_getD hk
  have h2 : ∀ p ∈ m ++ [m.getD k default], isNm p.1 = true := fun p hp => by
    rcases List.mem_append.mp hp with hp | hp
    · exact h p hp
    · rw [List.mem_singleton.mp hp]; exact h _ hm
  rw [← textOf_snoc, ← app_em (textOf _), textOf_eq, readT_lines (lineB_frees h2) (by rw [emT_eq]; simp)]
  unfold readLs
  rw [firstBad_no (lineB_some h2)]
  show (if _ then _ else _) = _
  rw [if_neg (by simp), read_all h2, if_neg]
  unfold tbB
  have : ¬ ((m ++ [m.getD k default]).map (·.1)).Nodup := by
    rw [List.map_append, List.nodup_append]
    intro z
    exact z.2.2 _ (List.mem_map_of_mem hm) (m.getD k default).1 (by simp) rfl
  rw [decide_eq_false this]
  simp
end KA

namespace KA
open PySem PySem.Spec PyProof.Rows L2
open He (ga ma eqO eqO_ok)
section
variable {W : List Addr} {Hk0 H0 : Hp} {Γ Γ' : Ctx} {Ω Ω' Ω1 Ω2 Ω3 : List Cell} {T T' : Tm} {σ σ' : L2.St} {Hk H : Hp} {K : PySem.W.Frag}
variable {te ta tb td to : TE} {tt tu : TT} {D : Ends} {e e1 e2 : En} {b b2 : Bool} {ts tz tbd : TS} {α β γ : Type} {A : Rp α} {B : Rp β} {C : Rp γ} {xs : List α} {n j : Nat}
/-- a number or None -/
def oI : Option Int → En
  | none => en rNon ()
  | some n => en rInt n
theorem oI_opt {o : Option Int} : ∀ v H, (en (rOpt rInt) o).ok v H → (oI o).ok v H := fun v H h => by
  cases o with
  | none => exact h
  | some n => exact h
theorem ii_intN : RcE (rIsi K) [en rNon (), en rVal (.ty "int")] (en rBool false) := rc_isi (t := .type "NoneType") (.ty _) (fun v H h => by cases (show v = V.non from h); exact .base .non) (kit_ty (by decide +kernel))
/-- what is no text -/
def NoStr (K : PySem.W.Frag) (e : En) : Prop := RcE (rIsi K) [e, en rVal (.ty "str")] (en rBool false)
theorem ns_non : NoStr K (en rNon ()) := rc_isi (t := .type "NoneType") (.ty _) (fun v H h => by cases (show v = V.non from h); exact .base .non) (kit_ty (by decide +kernel))
theorem ns_bool {b : Bool} : NoStr K (en rBool b) := rc_isi (t := .type "bool") (.ty _) (fun v H h => by cases (show v = V.bl b from h); exact .base (.bl b)) (kit_ty (by decide +kernel))
theorem ns_list {xs : List α} : NoStr K (en (rList A) xs) := rc_isi (t := .type "list") (.ty _) (fun v H h => by
  obtain ⟨p, vs, rfl, hp, _⟩ := (show (rList A).r xs v H from h)
  exact .base (.lst hp)) (kit_ty (by decide +kernel))
theorem At.dropC {c : Cell} (a : At W Hk0 H0 Γ (c :: Ω) T σ H) : At W Hk0 H0 Γ Ω T σ H := by
  obtain ⟨Hk, a⟩ := a
  exact ⟨Hk, { a with nd := (List.nodup_cons.mp a.nd).2, cl := fun d h => a.cl d (List.mem_cons_of_mem _ h) }⟩
/-- a slot read as something else -/
theorem At.as {i : Nat} (a : At W Hk0 H0 Γ Ω T σ H) (h : Γ[i]? = some (some e)) (hk : ∀ v H, e.ok v H → e1.ok v H) : At W Hk0 H0 (Γ.set i (some e1)) Ω T σ H := by
  obtain ⟨Hk, a⟩ := a
  obtain ⟨v, h1, h2⟩ := a.sl i _ h
  have b := a.set (e := e1) (v := v) i (hk v Hk h2)
  have hs : σ.set i (some v) = σ := by
    apply List.ext_getElem?
    intro j
    by_cases z : i = j
    · subst z
      have := (List.getElem?_eq_some_iff.mp h1).1
      rw [List.getElem?_set_self this, h1]
    · rw [List.getElem?_set_ne z]
  rw [hs] at b
  exact ⟨Hk, b⟩
end
theorem word_len {s : Str} : ∀ {ws : List Str}, ∀ w ∈ ws, w.length ≤ (Str.join s ws).length
  | [], w, h => by simp at h
  | [x], w, h => by rw [List.mem_singleton.mp h]; exact Nat.le_refl _
  | x :: y :: r, w, h => by
    have ih := word_len (s := s) (ws := y :: r)
    show _ ≤ (x ++ s ++ Str.join s (y :: r)).length
    rw [len_app, len_app]
    rcases List.mem_cons.mp h with rfl | h
    · omega
    · have := ih w h
      omega
theorem split_len {x y : Str} : ∀ w ∈ Txt.split x y, w.length ≤ x.length := fun w hw => by
  have := word_len (s := y) w hw
  rw [StrLaws.join_split] at this
  exact this
theorem ws5 {ws : List Str} (h : ws.length = 5) : ∃ a b c d e, ws = [a, b, c, d, e] := by
  match ws, h with
  | [a, b, c, d, e], _ => exact ⟨a, b, c, d, e, rfl⟩
theorem readWs_no {ws : List Str} (h : ws.length ≠ 5) : readWs ws = none := by
  unfold readWs
  split
  · simp at h
  · rfl
theorem badWs_no {ws : List Str} (h : ws.length ≠ 5) : badWs ws = false := by
  unfold badWs
  split
  · simp at h
  · rfl
theorem jobW_some {a b c d : Option Int} {j : Jb} (h : jobW a b c d = some j) : a = some j.per ∧ b = some j.dur ∧ c = some j.st ∧ d = some j.co := by
  unfold jobW at h
  split at h
  · split at h
    · cases h
      exact ⟨rfl, rfl, rfl, rfl⟩
    · cases h
  · cases h
theorem jobW_no {p l s k : Int} (h : jobW (some p) (some l) (some s) (some k) = none) : ¬ ((1 ≤ p ∧ p ≤ 12) ∧ (1 ≤ l ∧ l ≤ p) ∧ (0 ≤ s ∧ s < p) ∧ (1 ≤ k ∧ k ≤ 9)) := fun z => by
  have : jobW (some p) (some l) (some s) (some k) = some (mkJ p l s k z) := dif_pos z
  rw [this] at h
  cases h
theorem all_get {z : Str} (f : Nat → Bool) : ((List.range z.cps.size).map fun i => f (z.cps.getD i 0)).all id = z.cps.toList.all f := by
  have : (List.range z.cps.size).map (fun i => f (z.cps.getD i 0)) = z.cps.toList.map f := by
    refine List.ext_getElem? fun i => ?_
    have e : z.cps.toList[i]? = z.cps[i]? := by simp
    rw [List.getElem?_map, List.getElem?_map, e]
    by_cases h : i < z.cps.size
    · rw [show (List.range z.cps.size)[i]? = some i from List.getElem?_range h, Option.map_some, Array.getD_eq_getD_getElem?, Array.getElem?_eq_getElem h]
      rfl
    · rw [show (List.range z.cps.size)[i]? = none from List.getElem?_eq_none (by simpa using h), Array.getElem?_eq_none (by omega)]
      rfl
  rw [this, List.all_map]
  rfl
theorem tbB_ok {m : List (Str × Jb)} (h : tbB m = true) (h1 : 1 ≤ m.length) (hn : ∀ p ∈ m, isNm p.1 = true) : TbOk m := by
  unfold tbB at h
  simp only [Bool.and_eq_true, decide_eq_true_eq] at h
  exact ⟨h1, h.1.2, h.1.1, hn, h.2⟩
theorem readLine_nm {l : Str} {p : Str × Jb} (h : readLine l = some p) : isNm p.1 = true := by
  unfold readLine readWs at h
  split at h
  · split at h
    · rename_i hn
      obtain ⟨j, _, e⟩ := Option.map_eq_some_iff.mp h
      rw [← e]
      exact hn
    · cases h
  · cases h
end KA

namespace KA
open PySem PySem.Spec PyProof.Rows L2
theorem last_of {ls : List Str} (h : ls ≠ []) : ls = ls.dropLast ++ [ls.getLastD ""] := by
  rw [List.getLastD_eq_getLast?, List.getLast?_eq_some_getLast h]
  exact (List.dropLast_concat_getLast h).symm
theorem firstBad_all : ∀ {ls : List Str} {i : Nat}, firstBad ls i = none → ∀ l ∈ ls, (readLine l).isSome = true
  | [], _, _, l, hl => by simp at hl
  | x :: ls, i, h, l, hl => by
    unfold firstBad at h
    split at h
    · cases h
    · rename_i hx
      rcases List.mem_cons.mp hl with rfl | hl
      · cases e : readLine l with
        | none => rw [e] at hx; exact (hx rfl).elim
        | some q => rfl
      · exact firstBad_all h l hl
theorem firstBad_is : ∀ {ls : List Str} {i k : Nat}, firstBad ls i = some k → ∃ j, k = i + j ∧ j < ls.length ∧ readLine (ls.getD j default) = none ∧ ∀ r, r < j → (readLine (ls.getD r default)).isSome = true
  | [], _, _, h => by simp [firstBad] at h
  | x :: ls, i, k, h => by
    unfold firstBad at h
    split at h
    · rename_i hx
      cases h
      exact ⟨0, rfl, by simp, by simpa using hx, fun r hr => by omega⟩
    · rename_i hx
      obtain ⟨j, e1, e2, e3, e4⟩ := firstBad_is h
      refine ⟨j + 1, by omega, by simp; omega, by simpa using e3, fun r hr => ?_⟩
      cases r with
      | zero =>
        cases e : readLine x with
        | none => rw [e] at hx; exact (hx rfl).elim
        | some q => simp [e]
      | succ r => simpa using e4 r (by omega)
theorem fm_succ {ls : List Str} {i : Nat} {q : Str × Jb} (hi : i < ls.length) (h : readLine (ls.getD i default) = some q) : (ls.take (i + 1)).filterMap readLine = (ls.take i).filterMap readLine ++ [q] := by
  rw [take_succD hi, List.filterMap_append, List.filterMap_cons, h]
  rfl
theorem fm_len {ls : List Str} (h : ∀ l ∈ ls, (readLine l).isSome = true) : (ls.filterMap readLine).length = ls.length := by
  induction ls with
  | nil => rfl
  | cons l ls ih =>
    obtain ⟨q, hq⟩ := Option.isSome_iff_exists.mp (h l (by simp))
    rw [List.filterMap_cons, hq, List.length_cons, List.length_cons, ih fun x hx => h x (by simp [hx])]
theorem fm_le {ls : List Str} {n : Nat} : ((ls.take n).filterMap readLine).length ≤ ls.length := by
  refine Nat.le_trans (List.length_filterMap_le _ _) ?_
  rw [List.length_take]
  omega
theorem fm_nm {ls : List Str} : ∀ p ∈ ls.filterMap readLine, isNm p.1 = true := fun p hp => by
  obtain ⟨l, _, hl⟩ := List.mem_filterMap.mp hp
  exact readLine_nm hl
theorem readLs_ok {ls : List Str} {rest : Str} {m : List (Str × Jb)} (h : readLs ls rest = .ok m) : (∀ l ∈ ls, (readLine l).isSome = true) ∧ ls ≠ [] ∧ rest = "" ∧ m = ls.filterMap readLine ∧ TbOk m := by
  unfold readLs at h
  split at h
  · cases h
  · rename_i hf
    have ha := firstBad_all hf
    split at h
    · cases h
    · rename_i hx
      split at h
      · rename_i hb
        cases h
        have hx : ¬ ls = [] ∧ rest = "" := by
          constructor
          · exact fun z => hx (.inl z)
          · exact Decidable.byContradiction fun z => hx (.inr z)
        refine ⟨ha, hx.1, hx.2, rfl, tbB_ok hb ?_ fm_nm⟩
        rw [fm_len ha]
        exact List.length_pos_iff.mpr hx.1
      · cases h
/-- how it is told that a text is none of a timetable -/
theorem readLs_no {ls : List Str} {rest : Str} {n : Int} (h : readLs ls rest = .error n) :
    (∃ j : Nat, n = j ∧ j < ls.length ∧ readLine (ls.getD j default) = none ∧ ∀ r, r < j → (readLine (ls.getD r default)).isSome = true) ∨
    ((∀ l ∈ ls, (readLine l).isSome = true) ∧ (((ls = [] ∨ rest ≠ "") ∧ n = ls.length) ∨ (ls ≠ [] ∧ rest = "" ∧ n = 0 ∧ tbB (ls.filterMap readLine) = false))) := by
  unfold readLs at h
  split at h
  · rename_i i hf
    cases h
    obtain ⟨j, e1, e2, e3, e4⟩ := firstBad_is hf
    exact .inl ⟨j, by omega, e2, e3, e4⟩
  · rename_i hf
    refine .inr ⟨firstBad_all hf, ?_⟩
    split at h
    · rename_i hx
      cases h
      exact .inl ⟨hx, rfl⟩
    · rename_i hx
      split at h
      · cases h
      · rename_i hb
        cases h
        exact .inr ⟨fun z => hx (.inl z), Decidable.byContradiction fun z => hx (.inr z), rfl, by simpa using hb⟩
theorem getD_some {ls : List Str} {i : Nat} (h : ∀ l ∈ ls, (readLine l).isSome = true) (hi : i < ls.length) : (readLine (ls.getD i default)).isSome = true := h _ (mem_getD hi)
end KA

/-! what the law of texts asks -/
namespace KA
open PySem PySem.Spec PyProof.Rows L2
def odd1 : List Str := ["", "z", "z 4", "z 4 2 0", "z 4 2 0 1 1", "Z 4 2 0 1", "z 0 1 0 1"]
def odd2 : List Str := ["z 13 1 0 1", "z 4 0 0 1", "z 4 5 0 1", "z 4 2 4 1", "z 4 2 -1 1"]
def odd3 : List Str := ["z 4 2 0 0", "z 4 2 0 10", "z 04 2 0 1", "z 4 02 0 1", "z 4 2 00 1"]
def odd4 : List Str := ["z 4 2 0 01"]
def odd5 : List Str := ["z  4 2 0 1", " z 4 2 0 1", "z 4 2 0 1 ", "z 4 x 0 1", "4 2 0 1 z"]
def odd6 : List Str := ["abcdefghi 4 2 0 1", "z 4 2 0 +1", "z 4.0 2 0 1", "z 99999 1 0 1"]
def odd7 : List Str := ["z1 4 2 0 1"]
def oddL : List Str := (((((odd1 ++ odd2) ++ odd3) ++ odd4) ++ odd5) ++ odd6) ++ odd7
theorem oddL_ok : ∀ w ∈ oddL, (readLine w).isNone = true ∧ (10 ∉ w.cps.toList) ∧ w.length ≤ 40 := by decide +kernel
theorem lineOf_rev (m : List (Str × Jb)) : (m.map lineOf).reverse = m.reverse.map lineOf := (List.map_reverse).symm
theorem lineOf_drop (m : List (Str × Jb)) (n : Nat) : (m.map lineOf).drop n = (m.drop n).map lineOf := (List.map_drop).symm
theorem lineOf_get {m : List (Str × Jb)} {k : Nat} (h : k < m.length) : (m.map lineOf)[k]? = some (lineOf (m.getD k default)) := by
  rw [List.getElem?_map, getD_at h]
  rfl
end KA
namespace KA
open PySem PySem.Spec PyProof.Rows L2
theorem EvX.conv {α : Type} {A : Rp α} {x y : α} {Bs : List Addr → Hp → Hp → L2.St → Prop} {te : TE} {Γ : Ctx} {Ω Ω1 : List Cell} (h : EvX Bs te Γ Ω (en A x) Ω1) (e : x = y) : EvX Bs te Γ Ω (en A y) Ω1 := e ▸ h
end KA
namespace KA
open PySem PySem.Spec PyProof.Rows L2
def okB (t : Str) : Bool := match readT t with | .ok m => decide (textOf m = t) | .error _ => false
def errB (t : Str) (n : Int) : Bool := match readT t with | .error k => decide (k = n) | .ok _ => false
theorem okB_is {t : Str} (h : okB t = true) : ∃ m, readT t = .ok m ∧ textOf m = t := by
  unfold okB at h
  split at h
  · rename_i m e
    exact ⟨m, e, of_decide_eq_true h⟩
  · cases h
theorem errB_is {t : Str} {n : Int} (h : errB t n = true) : readT t = .error n := by
  unfold errB at h
  split at h
  · rename_i k e
    rw [e, of_decide_eq_true h]
  · cases h
/-- things that are no texts -/
def rOdd : Rp Unit := ⟨fun _ v H => v = .non ∨ (∃ n, v = .int n) ∨ (∃ b, v = .bl b) ∨ (rList rStr).r [] v H, fun {_ _ _ _} k h => by
  rcases h with h | h | h | h
  · exact .inl h
  · exact .inr (.inl h)
  · exact .inr (.inr (.inl h))
  · exact .inr (.inr (.inr ((rList rStr).mono k h)))⟩
theorem ns_int {K : PySem.W.Frag} {n : Int} : NoStr K (en rInt n) := ii_strI
theorem ns_odd {K : PySem.W.Frag} {u : Unit} : NoStr K (en rOdd u) := fun Hk H vs k o => by
  match vs, o with
  | [v, c], o =>
    obtain ⟨h, o2⟩ := o
    rcases (show rOdd.r u v Hk from h) with rfl | ⟨n, rfl⟩ | ⟨b, rfl⟩ | h
    · exact ns_non Hk H _ k ⟨rfl, o2⟩
    · exact ns_int (n := n) Hk H _ k ⟨rfl, o2⟩
    · exact ns_bool (b := b) Hk H _ k ⟨rfl, o2⟩
    · exact ns_list (A := rStr) (xs := []) Hk H _ k ⟨h, o2⟩
theorem oddTup {K : PySem.W.Frag} {Γ : Ctx} {Ω Ω1 : List Cell} {ta : TA} {n : Int} {b : Bool} (h : EvA ta Γ Ω [en rNon (), en rInt n, en (rList rStr) [], en rBool b] Ω1) : Ev (tTup ta) Γ Ω (en (rTupL K rOdd) [(), (), (), ()]) Ω1 :=
  ev_to (ev_tupN (K := K) h) fun v H h => by
    obtain ⟨p, vs, rfl, hp, o⟩ := h
    match vs, o with
    | [x1, x2, x3, x4], ⟨o1, o2, o3, o4, _⟩ => exact ⟨p, _, rfl, hp, .cons (.inl o1) (.cons (.inr (.inl ⟨_, o2⟩)) (.cons (.inr (.inr (.inr o3))) (.cons (.inr (.inr (.inl ⟨_, o4⟩))) .nil)))⟩
end KA
namespace KA
open PySem PySem.Spec PyProof.Rows L2
def case1 : List Str := ["a 12 12 11 9\n"]
def case2 : List Str := ["a 1 1 0 1\nb 12 1 0 1\nc 12 1 10 1\nabcdefgh 12 10 0 1\n"]
def case3 : List Str := ["a 10 10 9 1\nb 8 1 0 1\nc 5 1 0 1\nd 5 1 0 1\n"]
def caseL : List Str := (case1 ++ case2) ++ case3
def some1 : Str := "a 12 1 0 1\nb 12 1 0 1\nc 12 1 0 1\nd 2 1 0 1\n"
def some2 : Str := "a 1 1 0 1\n"
def some22 : Str := ⟨(List.replicate 2 some2.cps).foldl (· ++ ·) #[]⟩
def some3 : Str := Str.join "" ((List.range 5).map fun i => (⟨#[("abcde" : Str).cps.getD i 0]⟩ : Str) ++ " 1 1 0 1\n")
def rows1 : List (Str × Int) := [("", 0), ("a 4 2 0 1", 0), ("\n", 0), ("a 4 2 0 1\n\n", 1)]
def rows2 : List (Str × Int) := [("a 4 2 0 1\na 4 2 0 1\nb\n", 2), ("a 4 2 0 1\nx", 1)]
theorem case_ok : ∀ t ∈ caseL, okB t = true ∧ t.length ≤ 1000 := by decide +kernel
theorem some_ok : ∀ t ∈ [some1, some22, some3], errB t 0 = true ∧ t.length ≤ 1000 := by decide +kernel
theorem rows_ok : ∀ q ∈ rows1 ++ rows2, errB q.1 q.2 = true ∧ q.1.length ≤ 1000 := by decide +kernel
end KA

namespace KL
open PySem PySem.Spec PyProof.Rows L2 KA
open He (ga ma)
/-- what the top has left -/
structure Tx (K : PySem.W.Frag) (mg : Str → Option Value) : Prop where
  ValueError : mg "ValueError" = none
  all : mg "all" = none
  bool : mg "bool" = none
  dict : mg "dict" = none
  enumerate : mg "enumerate" = none
  int : mg "int" = none
  isinstance : mg "isinstance" = none
  len : mg "len" = none
  list : mg "list" = none
  max : mg "max" = none
  min : mg "min" = none
  range : mg "range" = none
  str : mg "str" = none
  super : mg "super" = none
  gcd : mg "gcd" = some (.builtin "math.gcd")
  g_LETTERS : ∃ t, mg "LETTERS" = some (.str "abcdefghijklmnopqrstuvwxyz" t)
  g_LONGEST_NAME : ∃ t, mg "LONGEST_NAME" = some (.int 8 t)
  g_LONGEST_PERIOD : ∃ t, mg "LONGEST_PERIOD" = some (.int 12 t)
  g_HIGHEST_COST : ∃ t, mg "HIGHEST_COST" = some (.int 9 t)
  g_MOST_JOBS : ∃ t, mg "MOST_JOBS" = some (.int 4 t)
  g_LARGEST_PRODUCT : ∃ t, mg "LARGEST_PRODUCT" = some (.int 2000 t)
  g_WORDS : ∃ t, mg "WORDS" = some (.int 5 t)
  mis_at_least : mg "is_at_least" = some (.ref (ga K "is_at_least"))
  mis_between : mg "is_between" = some (.ref (ga K "is_between"))
  mis_name : mg "is_name" = some (.ref (ga K "is_name"))
  mall_pairs : mg "all_pairs" = some (.ref (ga K "all_pairs"))
  mcheck_jobs : mg "check_jobs" = some (.ref (ga K "check_jobs"))
  mcheck_timetable : mg "check_timetable" = some (.ref (ga K "check_timetable"))
  mkeep_apart : mg "keep_apart" = some (.ref (ga K "keep_apart"))
  mdistance_within : mg "distance_within" = some (.ref (ga K "distance_within"))
  mare_jobs_apart : mg "are_jobs_apart" = some (.ref (ga K "are_jobs_apart"))
  mtimetable_text : mg "timetable_text" = some (.ref (ga K "timetable_text"))
  mline_of : mg "line_of" = some (.ref (ga K "line_of"))
  mread_timetable : mg "read_timetable" = some (.ref (ga K "read_timetable"))
  mread_line : mg "read_line" = some (.ref (ga K "read_line"))
  mread_number : mg "read_number" = some (.ref (ga K "read_number"))
  mtable_of : mg "table_of" = some (.ref (ga K "table_of"))
  m_law_cell_at : mg "_law_cell_at" = some (.ref (ga K "_law_cell_at"))
  m_law_draw : mg "_law_draw" = some (.ref (ga K "_law_draw"))
  m_law_number : mg "_law_number" = some (.ref (ga K "_law_number"))
  m_law_next : mg "_law_next" = some (.ref (ga K "_law_next"))
  m_law_pick : mg "_law_pick" = some (.ref (ga K "_law_pick"))
  m_law_drawn : mg "_law_drawn" = some (.ref (ga K "_law_drawn"))
  m_law_job : mg "_law_job" = some (.ref (ga K "_law_job"))
  m_law_table : mg "_law_table" = some (.ref (ga K "_law_table"))
  m_law_row : mg "_law_row" = some (.ref (ga K "_law_row"))
  m_law_one_right : mg "_law_one_right" = some (.ref (ga K "_law_one_right"))
  m_law_fixed_right : mg "_law_fixed_right" = some (.ref (ga K "_law_fixed_right"))
  mlaw : mg "law" = some (.ref (ga K "law"))
  xApartError : ExO K (ga K "ApartError")
  xBadJob : ExO K (ga K "BadJob")
  xBadName : ExO K (ga K "BadName")
  xBadTime : ExO K (ga K "BadTime")
  xm_ApartError_BadJob : PySem.W.exmOne K (.ref (ga K "ApartError")) (.ref (ga K "BadJob")) = some false
  xm_BadJob_BadJob : PySem.W.exmOne K (.ref (ga K "BadJob")) (.ref (ga K "BadJob")) = some true
  xm_BadTimetable_BadJob : PySem.W.exmOne K (.ref (ga K "BadTimetable")) (.ref (ga K "BadJob")) = some false
  xm_BadName_BadJob : PySem.W.exmOne K (.ref (ga K "BadName")) (.ref (ga K "BadJob")) = some false
  xm_BadTime_BadJob : PySem.W.exmOne K (.ref (ga K "BadTime")) (.ref (ga K "BadJob")) = some false
  xm_BadText_BadJob : PySem.W.exmOne K (.ref (ga K "BadText")) (.ref (ga K "BadJob")) = some false
  xm_ApartError_BadTimetable : PySem.W.exmOne K (.ref (ga K "ApartError")) (.ref (ga K "BadTimetable")) = some false
  xm_BadJob_BadTimetable : PySem.W.exmOne K (.ref (ga K "BadJob")) (.ref (ga K "BadTimetable")) = some false
  xm_BadTimetable_BadTimetable : PySem.W.exmOne K (.ref (ga K "BadTimetable")) (.ref (ga K "BadTimetable")) = some true
  xm_BadName_BadTimetable : PySem.W.exmOne K (.ref (ga K "BadName")) (.ref (ga K "BadTimetable")) = some false
  xm_BadTime_BadTimetable : PySem.W.exmOne K (.ref (ga K "BadTime")) (.ref (ga K "BadTimetable")) = some false
  xm_BadText_BadTimetable : PySem.W.exmOne K (.ref (ga K "BadText")) (.ref (ga K "BadTimetable")) = some false
  xm_ApartError_BadText : PySem.W.exmOne K (.ref (ga K "ApartError")) (.ref (ga K "BadText")) = some false
  xm_BadJob_BadText : PySem.W.exmOne K (.ref (ga K "BadJob")) (.ref (ga K "BadText")) = some false
  xm_BadTimetable_BadText : PySem.W.exmOne K (.ref (ga K "BadTimetable")) (.ref (ga K "BadText")) = some false
  xm_BadName_BadText : PySem.W.exmOne K (.ref (ga K "BadName")) (.ref (ga K "BadText")) = some false
  xm_BadTime_BadText : PySem.W.exmOne K (.ref (ga K "BadTime")) (.ref (ga K "BadText")) = some false
  xm_BadText_BadText : PySem.W.exmOne K (.ref (ga K "BadText")) (.ref (ga K "BadText")) = some true
  sBadTimetable : SupA file0 K (ga K "BadTimetable") (ma K (ga K "BadTimetable") "__init__") ["self", "part"] "part" e_BadTimetable_init
  sBadText : SupA file0 K (ga K "BadText") (ma K (ga K "BadText") "__init__") ["self", "row"] "row" e_BadText_init
  mApartError : mg "ApartError" = some (.ref (ga K "ApartError"))
  mBadJob : mg "BadJob" = some (.ref (ga K "BadJob"))
  mBadTimetable : mg "BadTimetable" = some (.ref (ga K "BadTimetable"))
  mBadName : mg "BadName" = some (.ref (ga K "BadName"))
  mBadTime : mg "BadTime" = some (.ref (ga K "BadTime"))
  mBadText : mg "BadText" = some (.ref (ga K "BadText"))
  mJob : mg "Job" = some (.ref (ga K "Job"))
  cJob : Cls K (ga K "Job")
  kJob : Mk K (ga K "Job") (ma K (ga K "Job") "__init__")
  iJob : Isi K (ga K "Job")
  nJob_period : NoAttr K (ga K "Job") "_period"
  nJob_duration : NoAttr K (ga K "Job") "_duration"
  nJob_start : NoAttr K (ga K "Job") "_start"
  nJob_cost : NoAttr K (ga K "Job") "_cost"
  pJob_period : PropOf K (ga K "Job") "period" (ma K (ga K "Job") "period") (pg K "Job" "period")
  pJob_duration : PropOf K (ga K "Job") "duration" (ma K (ga K "Job") "duration") (pg K "Job" "duration")
  pJob_start : PropOf K (ga K "Job") "start" (ma K (ga K "Job") "start") (pg K "Job" "start")
  pJob_cost : PropOf K (ga K "Job") "cost" (ma K (ga K "Job") "cost") (pg K "Job" "cost")
  dJob_eq : Dun K (ga K "Job") "__eq__" (ma K (ga K "Job") "__eq__")
  eJob : DunNe K (ga K "Job")
  dJob_rshift : Dun K (ga K "Job") "__rshift__" (ma K (ga K "Job") "__rshift__")
  bJob_rshift : BinT K (ga K "Job") .RShift "int" (ma K (ga K "Job") "__rshift__")
  dJob_contains : Dun K (ga K "Job") "__contains__" (ma K (ga K "Job") "__contains__")
  dJob_len : Dun K (ga K "Job") "__len__" (ma K (ga K "Job") "__len__")
  mTimetable : mg "Timetable" = some (.ref (ga K "Timetable"))
  cTimetable : Cls K (ga K "Timetable")
  kTimetable : Mk K (ga K "Timetable") (ma K (ga K "Timetable") "__init__")
  iTimetable : Isi K (ga K "Timetable")
  nTimetable_jobs : NoAttr K (ga K "Timetable") "_jobs"
  pTimetable_names : PropOf K (ga K "Timetable") "names" (ma K (ga K "Timetable") "names") (pg K "Timetable" "names")
  dTimetable_getitem : Dun K (ga K "Timetable") "__getitem__" (ma K (ga K "Timetable") "__getitem__")
  xTimetable_getitem : IxO K (ga K "Timetable") (ma K (ga K "Timetable") "__getitem__")
  dTimetable_iter : Dun K (ga K "Timetable") "__iter__" (ma K (ga K "Timetable") "__iter__")
  dTimetable_contains : Dun K (ga K "Timetable") "__contains__" (ma K (ga K "Timetable") "__contains__")
  dTimetable_len : Dun K (ga K "Timetable") "__len__" (ma K (ga K "Timetable") "__len__")
  dTimetable_bool : Dun K (ga K "Timetable") "__bool__" (ma K (ga K "Timetable") "__bool__")
  dTimetable_call : Dun K (ga K "Timetable") "__call__" (ma K (ga K "Timetable") "__call__")
  xTimetable_call : StX.CallO K (ga K "Timetable") (ma K (ga K "Timetable") "__call__")
  dTimetable_or : Dun K (ga K "Timetable") "__or__" (ma K (ga K "Timetable") "__or__")
  bTimetable_or : BinO K (ga K "Timetable") .BitOr (ma K (ga K "Timetable") "__or__")
  dTimetable_rshift : Dun K (ga K "Timetable") "__rshift__" (ma K (ga K "Timetable") "__rshift__")
  bTimetable_rshift : BinT K (ga K "Timetable") .RShift "int" (ma K (ga K "Timetable") "__rshift__")
  dTimetable_eq : Dun K (ga K "Timetable") "__eq__" (ma K (ga K "Timetable") "__eq__")
  eTimetable : DunNe K (ga K "Timetable")
  h_is_at_least : Has K e_is_at_least
  h_is_between : Has K e_is_between
  h_is_name : Has K e_is_name
  h_all_pairs : Has K e_all_pairs
  h_Job_init : Has K e_Job_init
  h_Job_period : Has K e_Job_period
  h_Job_duration : Has K e_Job_duration
  h_Job_start : Has K e_Job_start
  h_Job_cost : Has K e_Job_cost
  h_Job_eq : Has K e_Job_eq
  h_Job_rshift : Has K e_Job_rshift
  h_Job_contains : Has K e_Job_contains
  h_Job_len : Has K e_Job_len
  h_Timetable_init : Has K e_Timetable_init
  h_Timetable_names : Has K e_Timetable_names
  h_Timetable_getitem : Has K e_Timetable_getitem
  h_Timetable_contains : Has K e_Timetable_contains
  h_Timetable_len : Has K e_Timetable_len
  h_Timetable_bool : Has K e_Timetable_bool
  h_Timetable_call : Has K e_Timetable_call
  h_Timetable_or : Has K e_Timetable_or
  h_Timetable_rshift : Has K e_Timetable_rshift
  h_Timetable_eq : Has K e_Timetable_eq
  h_check_jobs : Has K e_check_jobs
  h_check_timetable : Has K e_check_timetable
  h_keep_apart : Has K e_keep_apart
  h_distance_within : Has K e_distance_within
  h_are_jobs_apart : Has K e_are_jobs_apart
  h_timetable_text : Has K e_timetable_text
  h_line_of : Has K e_line_of
  h_read_timetable : Has K e_read_timetable
  h_read_line : Has K e_read_line
  h_read_number : Has K e_read_number
  h_table_of : Has K e_table_of
  h__law_cell_at : Has K e__law_cell_at
  h__law_draw : Has K e__law_draw
  h__law_number : Has K e__law_number
  h__law_next : Has K e__law_next
  h__law_pick : Has K e__law_pick
  h__law_drawn : Has K e__law_drawn
  h__law_job : Has K e__law_job
  h__law_table : Has K e__law_table
  h__law_row : Has K e__law_row
  h__law_one_right : Has K e__law_one_right
  h__law_fixed_right : Has K e__law_fixed_right
  h_law : Has K e_law
theorem sc_is_at_least : FnScope N_is_at_least ["value", "low"] (defScope s_is_at_least) := ⟨rfl, rfl, rfl, by decide +kernel, rfl, by decide +kernel, by decide +kernel⟩
theorem sc_is_between : FnScope N_is_between ["value", "low", "high"] (defScope s_is_between) := ⟨rfl, rfl, rfl, by decide +kernel, rfl, by decide +kernel, by decide +kernel⟩
theorem sc_is_name : FnScope N_is_name ["value"] (defScope s_is_name) := ⟨rfl, rfl, rfl, by decide +kernel, rfl, by decide +kernel, by decide +kernel⟩
theorem sc_all_pairs : FnScope N_all_pairs ["items"] (defScope s_all_pairs) := ⟨rfl, rfl, rfl, by decide +kernel, rfl, by decide +kernel, by decide +kernel⟩
theorem sc_Job_init : FnScope N_Job_init ["self", "period", "duration", "start", "cost"] (defScope s_Job_init) := ⟨rfl, rfl, rfl, by decide +kernel, rfl, by decide +kernel, by decide +kernel⟩
theorem sc_Job_period : FnScope N_Job_period ["self"] (defScope s_Job_period) := ⟨rfl, rfl, rfl, by decide +kernel, rfl, by decide +kernel, by decide +kernel⟩
theorem sc_Job_duration : FnScope N_Job_duration ["self"] (defScope s_Job_duration) := ⟨rfl, rfl, rfl, by decide +kernel, rfl, by decide +kernel, by decide +kernel⟩
theorem sc_Job_start : FnScope N_Job_start ["self"] (defScope s_Job_start) := ⟨rfl, rfl, rfl, by decide +kernel, rfl, by decide +kernel, by decide +kernel⟩
theorem sc_Job_cost : FnScope N_Job_cost ["self"] (defScope s_Job_cost) := ⟨rfl, rfl, rfl, by decide +kernel, rfl, by decide +kernel, by decide +kernel⟩
theorem sc_Job_eq : FnScope N_Job_eq ["self", "other"] (defScope s_Job_eq) := ⟨rfl, rfl, rfl, by decide +kernel, rfl, by decide +kernel, by decide +kernel⟩
theorem sc_Job_rshift : FnScope N_Job_rshift ["self", "other"] (defScope s_Job_rshift) := ⟨rfl, rfl, rfl, by decide +kernel, rfl, by decide +kernel, by decide +kernel⟩
theorem sc_Job_contains : FnScope N_Job_contains ["self", "x"] (defScope s_Job_contains) := ⟨rfl, rfl, rfl, by decide +kernel, rfl, by decide +kernel, by decide +kernel⟩
theorem sc_Job_len : FnScope N_Job_len ["self"] (defScope s_Job_len) := ⟨rfl, rfl, rfl, by decide +kernel, rfl, by decide +kernel, by decide +kernel⟩
theorem sc_Timetable_init : FnScope N_Timetable_init ["self", "jobs"] (defScope s_Timetable_init) := ⟨rfl, rfl, rfl, by decide +kernel, rfl, by decide +kernel, by decide +kernel⟩
theorem sc_Timetable_names : FnScope N_Timetable_names ["self"] (defScope s_Timetable_names) := ⟨rfl, rfl, rfl, by decide +kernel, rfl, by decide +kernel, by decide +kernel⟩
theorem sc_Timetable_getitem : FnScope N_Timetable_getitem ["self", "at"] (defScope s_Timetable_getitem) := ⟨rfl, rfl, rfl, by decide +kernel, rfl, by decide +kernel, by decide +kernel⟩
theorem sc_Timetable_contains : FnScope N_Timetable_contains ["self", "x"] (defScope s_Timetable_contains) := ⟨rfl, rfl, rfl, by decide +kernel, rfl, by decide +kernel, by decide +kernel⟩
theorem sc_Timetable_len : FnScope N_Timetable_len ["self"] (defScope s_Timetable_len) := ⟨rfl, rfl, rfl, by decide +kernel, rfl, by decide +kernel, by decide +kernel⟩
theorem sc_Timetable_bool : FnScope N_Timetable_bool ["self"] (defScope s_Timetable_bool) := ⟨rfl, rfl, rfl, by decide +kernel, rfl, by decide +kernel, by decide +kernel⟩
theorem sc_Timetable_call : FnScope N_Timetable_call ["self", "time"] (defScope s_Timetable_call) := ⟨rfl, rfl, rfl, by decide +kernel, rfl, by decide +kernel, by decide +kernel⟩
theorem sc_Timetable_or : FnScope N_Timetable_or ["self", "other"] (defScope s_Timetable_or) := ⟨rfl, rfl, rfl, by decide +kernel, rfl, by decide +kernel, by decide +kernel⟩
theorem sc_Timetable_rshift : FnScope N_Timetable_rshift ["self", "other"] (defScope s_Timetable_rshift) := ⟨rfl, rfl, rfl, by decide +kernel, rfl, by decide +kernel, by decide +kernel⟩
theorem sc_Timetable_eq : FnScope N_Timetable_eq ["self", "other"] (defScope s_Timetable_eq) := ⟨rfl, rfl, rfl, by decide +kernel, rfl, by decide +kernel, by decide +kernel⟩
theorem sc_check_jobs : FnScope N_check_jobs ["jobs"] (defScope s_check_jobs) := ⟨rfl, rfl, rfl, by decide +kernel, rfl, by decide +kernel, by decide +kernel⟩
theorem sc_check_timetable : FnScope N_check_timetable ["timetable"] (defScope s_check_timetable) := ⟨rfl, rfl, rfl, by decide +kernel, rfl, by decide +kernel, by decide +kernel⟩
theorem sc_keep_apart : FnScope N_keep_apart ["first", "second", "divisor"] (defScope s_keep_apart) := ⟨rfl, rfl, rfl, by decide +kernel, rfl, by decide +kernel, by decide +kernel⟩
theorem sc_distance_within : FnScope N_distance_within ["first", "second", "divisor"] (defScope s_distance_within) := ⟨rfl, rfl, rfl, by decide +kernel, rfl, by decide +kernel, by decide +kernel⟩
theorem sc_are_jobs_apart : FnScope N_are_jobs_apart ["first", "second"] (defScope s_are_jobs_apart) := ⟨rfl, rfl, rfl, by decide +kernel, rfl, by decide +kernel, by decide +kernel⟩
theorem sc_timetable_text : FnScope N_timetable_text ["timetable"] (defScope s_timetable_text) := ⟨rfl, rfl, rfl, by decide +kernel, rfl, by decide +kernel, by decide +kernel⟩
theorem sc_line_of : FnScope N_line_of ["name", "job"] (defScope s_line_of) := ⟨rfl, rfl, rfl, by decide +kernel, rfl, by decide +kernel, by decide +kernel⟩
theorem sc_read_timetable : FnScope N_read_timetable ["text"] (defScope s_read_timetable) := ⟨rfl, rfl, rfl, by decide +kernel, rfl, by decide +kernel, by decide +kernel⟩
theorem sc_read_line : FnScope N_read_line ["line"] (defScope s_read_line) := ⟨rfl, rfl, rfl, by decide +kernel, rfl, by decide +kernel, by decide +kernel⟩
theorem sc_read_number : FnScope N_read_number ["word"] (defScope s_read_number) := ⟨rfl, rfl, rfl, by decide +kernel, rfl, by decide +kernel, by decide +kernel⟩
theorem sc_table_of : FnScope N_table_of ["named"] (defScope s_table_of) := ⟨rfl, rfl, rfl, by decide +kernel, rfl, by decide +kernel, by decide +kernel⟩
theorem sc__law_cell_at : FnScope N__law_cell_at ["_law_script", "_law_k"] (defScope s__law_cell_at) := ⟨rfl, rfl, rfl, by decide +kernel, rfl, by decide +kernel, by decide +kernel⟩
theorem sc__law_draw : FnScope N__law_draw ["_law_cell", "_law_k", "_law_below"] (defScope s__law_draw) := ⟨rfl, rfl, rfl, by decide +kernel, rfl, by decide +kernel, by decide +kernel⟩
theorem sc__law_number : FnScope N__law_number ["_law_cell", "_law_k", "_law_below"] (defScope s__law_number) := ⟨rfl, rfl, rfl, by decide +kernel, rfl, by decide +kernel, by decide +kernel⟩
theorem sc__law_next : FnScope N__law_next ["_law_state", "_law_below"] (defScope s__law_next) := ⟨rfl, rfl, rfl, by decide +kernel, rfl, by decide +kernel, by decide +kernel⟩
theorem sc__law_pick : FnScope N__law_pick ["_law_state", "_law_things"] (defScope s__law_pick) := ⟨rfl, rfl, rfl, by decide +kernel, rfl, by decide +kernel, by decide +kernel⟩
theorem sc__law_drawn : FnScope N__law_drawn ["_law_state", "_law_most"] (defScope s__law_drawn) := ⟨rfl, rfl, rfl, by decide +kernel, rfl, by decide +kernel, by decide +kernel⟩
theorem sc__law_job : FnScope N__law_job ["_law_row_here"] (defScope s__law_job) := ⟨rfl, rfl, rfl, by decide +kernel, rfl, by decide +kernel, by decide +kernel⟩
theorem sc__law_table : FnScope N__law_table ["_law_drawn_here"] (defScope s__law_table) := ⟨rfl, rfl, rfl, by decide +kernel, rfl, by decide +kernel, by decide +kernel⟩
theorem sc__law_row : FnScope N__law_row ["_law_text"] (defScope s__law_row) := ⟨rfl, rfl, rfl, by decide +kernel, rfl, by decide +kernel, by decide +kernel⟩
theorem sc__law_one_right : FnScope N__law_one_right ["_law_state"] (defScope s__law_one_right) := ⟨rfl, rfl, rfl, by decide +kernel, rfl, by decide +kernel, by decide +kernel⟩
theorem sc__law_fixed_right : FnScope N__law_fixed_right [] (defScope s__law_fixed_right) := ⟨rfl, rfl, rfl, by decide +kernel, rfl, by decide +kernel, by decide +kernel⟩
theorem sc_law : FnScope N_law ["_law_script"] (defScope s_law) := ⟨rfl, rfl, rfl, by decide +kernel, rfl, by decide +kernel, by decide +kernel⟩
theorem fact {K : PySem.W.Frag} (c : chk K = true) (i : Nat) {f : PySem.W.Frag → Bool} (h : facts[i]? = some f := by rfl) : f K = true := List.all_eq_true.mp c f (List.mem_of_getElem? h)
theorem tx_of {K : PySem.W.Frag} {h : Heap} {mg : Str → Option Value} (X : K.In h) (G : h.Ns mainGlobals mg) (c : SaysE chk fns K) : Tx K mg where
  ValueError := free_ok X G (fact c.chk 0)
  all := free_ok X G (fact c.chk 1)
  bool := free_ok X G (fact c.chk 2)
  dict := free_ok X G (fact c.chk 3)
  enumerate := free_ok X G (fact c.chk 4)
  int := free_ok X G (fact c.chk 5)
  isinstance := free_ok X G (fact c.chk 6)
  len := free_ok X G (fact c.chk 7)
  list := free_ok X G (fact c.chk 8)
  max := free_ok X G (fact c.chk 9)
  min := free_ok X G (fact c.chk 10)
  range := free_ok X G (fact c.chk 11)
  str := free_ok X G (fact c.chk 12)
  super := free_ok X G (fact c.chk 13)
  gcd := blt_ok X G (fact c.chk 14)
  g_LETTERS := str_ok X G (fact c.chk 15)
  g_LONGEST_NAME := int_ok X G (fact c.chk 16)
  g_LONGEST_PERIOD := int_ok X G (fact c.chk 17)
  g_HIGHEST_COST := int_ok X G (fact c.chk 18)
  g_MOST_JOBS := int_ok X G (fact c.chk 19)
  g_LARGEST_PRODUCT := int_ok X G (fact c.chk 20)
  g_WORDS := int_ok X G (fact c.chk 21)
  mis_at_least := glo_ok X G (fact c.chk 22)
  mis_between := glo_ok X G (fact c.chk 23)
  mis_name := glo_ok X G (fact c.chk 24)
  mall_pairs := glo_ok X G (fact c.chk 25)
  mcheck_jobs := glo_ok X G (fact c.chk 26)
  mcheck_timetable := glo_ok X G (fact c.chk 27)
  mkeep_apart := glo_ok X G (fact c.chk 28)
  mdistance_within := glo_ok X G (fact c.chk 29)
  mare_jobs_apart := glo_ok X G (fact c.chk 30)
  mtimetable_text := glo_ok X G (fact c.chk 31)
  mline_of := glo_ok X G (fact c.chk 32)
  mread_timetable := glo_ok X G (fact c.chk 33)
  mread_line := glo_ok X G (fact c.chk 34)
  mread_number := glo_ok X G (fact c.chk 35)
  mtable_of := glo_ok X G (fact c.chk 36)
  m_law_cell_at := glo_ok X G (fact c.chk 37)
  m_law_draw := glo_ok X G (fact c.chk 38)
  m_law_number := glo_ok X G (fact c.chk 39)
  m_law_next := glo_ok X G (fact c.chk 40)
  m_law_pick := glo_ok X G (fact c.chk 41)
  m_law_drawn := glo_ok X G (fact c.chk 42)
  m_law_job := glo_ok X G (fact c.chk 43)
  m_law_table := glo_ok X G (fact c.chk 44)
  m_law_row := glo_ok X G (fact c.chk 45)
  m_law_one_right := glo_ok X G (fact c.chk 46)
  m_law_fixed_right := glo_ok X G (fact c.chk 47)
  mlaw := glo_ok X G (fact c.chk 48)
  xApartError := exo_is (fact c.chk 49)
  xBadJob := exo_is (fact c.chk 50)
  xBadName := exo_is (fact c.chk 51)
  xBadTime := exo_is (fact c.chk 52)
  xm_ApartError_BadJob := exm_is (fact c.chk 53)
  xm_BadJob_BadJob := exm_is (fact c.chk 54)
  xm_BadTimetable_BadJob := exm_is (fact c.chk 55)
  xm_BadName_BadJob := exm_is (fact c.chk 56)
  xm_BadTime_BadJob := exm_is (fact c.chk 57)
  xm_BadText_BadJob := exm_is (fact c.chk 58)
  xm_ApartError_BadTimetable := exm_is (fact c.chk 59)
  xm_BadJob_BadTimetable := exm_is (fact c.chk 60)
  xm_BadTimetable_BadTimetable := exm_is (fact c.chk 61)
  xm_BadName_BadTimetable := exm_is (fact c.chk 62)
  xm_BadTime_BadTimetable := exm_is (fact c.chk 63)
  xm_BadText_BadTimetable := exm_is (fact c.chk 64)
  xm_ApartError_BadText := exm_is (fact c.chk 65)
  xm_BadJob_BadText := exm_is (fact c.chk 66)
  xm_BadTimetable_BadText := exm_is (fact c.chk 67)
  xm_BadName_BadText := exm_is (fact c.chk 68)
  xm_BadTime_BadText := exm_is (fact c.chk 69)
  xm_BadText_BadText := exm_is (fact c.chk 70)
  sBadTimetable := sup_of (c.both 4 (by rfl)).1 (c.both 4 (by rfl)).2 (fact c.chk 71) rfl rfl rfl (fun T cc kV doc pm an cdv ct us its h1 h2 => match us, h1, its, h2 with | [_, _], _, [_], _ => ⟨_, rfl, rfl⟩) (fun T cc kV doc pm an cdv ct us its h1 h2 => match us, h1, its, h2 with | [_], _, [_], _ => ⟨_, rfl, rfl⟩)
  sBadText := sup_of (c.both 5 (by rfl)).1 (c.both 5 (by rfl)).2 (fact c.chk 72) rfl rfl rfl (fun T cc kV doc pm an cdv ct us its h1 h2 => match us, h1, its, h2 with | [_, _], _, [_], _ => ⟨_, rfl, rfl⟩) (fun T cc kV doc pm an cdv ct us its h1 h2 => match us, h1, its, h2 with | [_], _, [_], _ => ⟨_, rfl, rfl⟩)
  mApartError := glo_ok X G (fact c.chk 73)
  mBadJob := glo_ok X G (fact c.chk 74)
  mBadTimetable := glo_ok X G (fact c.chk 75)
  mBadName := glo_ok X G (fact c.chk 76)
  mBadTime := glo_ok X G (fact c.chk 77)
  mBadText := glo_ok X G (fact c.chk 78)
  mJob := glo_ok X G (fact c.chk 79)
  cJob := cls_ok (fact c.chk 80)
  kJob := mkr_ok (fact c.chk 81)
  iJob := isi_ok (fact c.chk 82)
  nJob_period := noat_ok (fact c.chk 83)
  nJob_duration := noat_ok (fact c.chk 84)
  nJob_start := noat_ok (fact c.chk 85)
  nJob_cost := noat_ok (fact c.chk 86)
  pJob_period := prop_ok (fact c.chk 87)
  pJob_duration := prop_ok (fact c.chk 88)
  pJob_start := prop_ok (fact c.chk 89)
  pJob_cost := prop_ok (fact c.chk 90)
  dJob_eq := dun_ok (fact c.chk 91)
  eJob := ne_ok (fact c.chk 92)
  dJob_rshift := dun_ok (fact c.chk 93)
  bJob_rshift := (bini_ok (op := .RShift) (He.ba (fact c.chk 94)).1 (He.ba (fact c.chk 94)).2)
  dJob_contains := dun_ok (fact c.chk 95)
  dJob_len := dun_ok (fact c.chk 96)
  mTimetable := glo_ok X G (fact c.chk 97)
  cTimetable := cls_ok (fact c.chk 98)
  kTimetable := mkr_ok (fact c.chk 99)
  iTimetable := isi_ok (fact c.chk 100)
  nTimetable_jobs := noat_ok (fact c.chk 101)
  pTimetable_names := prop_ok (fact c.chk 102)
  dTimetable_getitem := dun_ok (fact c.chk 103)
  xTimetable_getitem := ixo_ok (fact c.chk 104)
  dTimetable_iter := dun_ok (fact c.chk 105)
  dTimetable_contains := dun_ok (fact c.chk 106)
  dTimetable_len := dun_ok (fact c.chk 107)
  dTimetable_bool := dun_ok (fact c.chk 108)
  dTimetable_call := dun_ok (fact c.chk 109)
  xTimetable_call := callo_ok (fact c.chk 110)
  dTimetable_or := dun_ok (fact c.chk 111)
  bTimetable_or := (bino_ok (op := .BitOr) (He.ba (fact c.chk 112)).1 (He.ba (fact c.chk 112)).2)
  dTimetable_rshift := dun_ok (fact c.chk 113)
  bTimetable_rshift := (bini_ok (op := .RShift) (He.ba (fact c.chk 114)).1 (He.ba (fact c.chk 114)).2)
  dTimetable_eq := dun_ok (fact c.chk 115)
  eTimetable := ne_ok (fact c.chk 116)
  h_is_at_least := c.has 0
  h_is_between := c.has 1
  h_is_name := c.has 2
  h_all_pairs := c.has 3
  h_Job_init := c.has 6
  h_Job_period := c.has 7
  h_Job_duration := c.has 8
  h_Job_start := c.has 9
  h_Job_cost := c.has 10
  h_Job_eq := c.has 11
  h_Job_rshift := c.has 12
  h_Job_contains := c.has 13
  h_Job_len := c.has 14
  h_Timetable_init := c.has 15
  h_Timetable_names := c.has 16
  h_Timetable_getitem := c.has 17
  h_Timetable_contains := c.has 18
  h_Timetable_len := c.has 19
  h_Timetable_bool := c.has 20
  h_Timetable_call := c.has 21
  h_Timetable_or := c.has 22
  h_Timetable_rshift := c.has 23
  h_Timetable_eq := c.has 24
  h_check_jobs := c.has 25
  h_check_timetable := c.has 26
  h_keep_apart := c.has 27
  h_distance_within := c.has 28
  h_are_jobs_apart := c.has 29
  h_timetable_text := c.has 30
  h_line_of := c.has 31
  h_read_timetable := c.has 32
  h_read_line := c.has 33
  h_read_number := c.has 34
  h_table_of := c.has 35
  h__law_cell_at := c.has 36
  h__law_draw := c.has 37
  h__law_number := c.has 38
  h__law_next := c.has 39
  h__law_pick := c.has 40
  h__law_drawn := c.has 41
  h__law_job := c.has 42
  h__law_table := c.has 43
  h__law_row := c.has 44
  h__law_one_right := c.has 45
  h__law_fixed_right := c.has 46
  h_law := c.has 47
/-- BadTimetable(..) -/
theorem ok_sBadTimetable {P : Program} {w : World} {K : PySem.W.Frag} {mg : Str → Option Value} {base : Heap} (T : Tx K mg) (hP : FileOk P) : ∃ fd, FnOk P w K mg base (L2.CX P w) 1 (ma K (ga K "BadTimetable") "__init__") fd ["self", "part"] (spSup (ga K "BadTimetable") "part") ∧ Binds K fd ["self", "part"] [] := by
  obtain ⟨fd, D, b, _⟩ := T.sBadTimetable.ex
  exact ⟨fd, fn_sup D rfl hP.1 T.super T.sBadTimetable.no hP.2 rfl rfl rfl rfl rfl rfl (fun env => ⟨_, rfl⟩) (fun _ => rfl) (fun _ => rfl) (by decide) rfl (by decide +kernel) rfl rfl rfl rfl, b⟩
theorem ok_sBadTimetable0 {P : Program} {w : World} {K : PySem.W.Frag} {mg : Str → Option Value} {base : Heap} (T : Tx K mg) (hP : FileOk P) : ∃ fd, FnOk P w K mg base (L2.CX P w) 1 (ma K (ga K "BadTimetable") "__init__") fd ["self", "part"] (spSup (ga K "BadTimetable") "part") ∧ ∃ ds, Vals [.non] ds ∧ Binds K fd ["self", "part"] ds := by
  obtain ⟨fd, D, _, ds, hd, hb⟩ := T.sBadTimetable.ex
  exact ⟨fd, fn_sup D rfl hP.1 T.super T.sBadTimetable.no hP.2 rfl rfl rfl rfl rfl rfl (fun env => ⟨_, rfl⟩) (fun _ => rfl) (fun _ => rfl) (by decide) rfl (by decide +kernel) rfl rfl rfl rfl, ds, hd, hb⟩
theorem ok_sBadTimetableH {P : Program} {w : World} {K : PySem.W.Frag} {mg : Str → Option Value} {base : Heap} (T : Tx K mg) (hP : FileOk P) : ∃ fd, L2H.FnH P w K mg base (L2.CX P w) 1 (ma K (ga K "BadTimetable") "__init__") fd ["self", "part"] (spSup (ga K "BadTimetable") "part") ∧ Binds K fd ["self", "part"] [] := by
  obtain ⟨fd, D, b, _⟩ := T.sBadTimetable.ex
  exact ⟨fd, fn_supH D rfl hP.1 T.super T.sBadTimetable.no hP.2 rfl rfl rfl rfl rfl rfl (fun env => ⟨_, rfl⟩) (fun _ => rfl) (fun _ => rfl) (by decide) rfl (by decide +kernel) rfl rfl rfl rfl, b⟩
/-- BadText(..) -/
theorem ok_sBadText {P : Program} {w : World} {K : PySem.W.Frag} {mg : Str → Option Value} {base : Heap} (T : Tx K mg) (hP : FileOk P) : ∃ fd, FnOk P w K mg base (L2.CX P w) 1 (ma K (ga K "BadText") "__init__") fd ["self", "row"] (spSup (ga K "BadText") "row") ∧ Binds K fd ["self", "row"] [] := by
  obtain ⟨fd, D, b, _⟩ := T.sBadText.ex
  exact ⟨fd, fn_sup D rfl hP.1 T.super T.sBadText.no hP.2 rfl rfl rfl rfl rfl rfl (fun env => ⟨_, rfl⟩) (fun _ => rfl) (fun _ => rfl) (by decide) rfl (by decide +kernel) rfl rfl rfl rfl, b⟩
theorem ok_sBadText0 {P : Program} {w : World} {K : PySem.W.Frag} {mg : Str → Option Value} {base : Heap} (T : Tx K mg) (hP : FileOk P) : ∃ fd, FnOk P w K mg base (L2.CX P w) 1 (ma K (ga K "BadText") "__init__") fd ["self", "row"] (spSup (ga K "BadText") "row") ∧ ∃ ds, Vals [.int 0] ds ∧ Binds K fd ["self", "row"] ds := by
  obtain ⟨fd, D, _, ds, hd, hb⟩ := T.sBadText.ex
  exact ⟨fd, fn_sup D rfl hP.1 T.super T.sBadText.no hP.2 rfl rfl rfl rfl rfl rfl (fun env => ⟨_, rfl⟩) (fun _ => rfl) (fun _ => rfl) (by decide) rfl (by decide +kernel) rfl rfl rfl rfl, ds, hd, hb⟩
theorem ok_sBadTextH {P : Program} {w : World} {K : PySem.W.Frag} {mg : Str → Option Value} {base : Heap} (T : Tx K mg) (hP : FileOk P) : ∃ fd, L2H.FnH P w K mg base (L2.CX P w) 1 (ma K (ga K "BadText") "__init__") fd ["self", "row"] (spSup (ga K "BadText") "row") ∧ Binds K fd ["self", "row"] [] := by
  obtain ⟨fd, D, b, _⟩ := T.sBadText.ex
  exact ⟨fd, fn_supH D rfl hP.1 T.super T.sBadText.no hP.2 rfl rfl rfl rfl rfl rfl (fun env => ⟨_, rfl⟩) (fun _ => rfl) (fun _ => rfl) (by decide) rfl (by decide +kernel) rfl rfl rfl rfl, b⟩
end KL

namespace KL
open PySem PySem.Spec PyProof.Rows L2 KA
open He (ga ma)
def S_is_at_least (K : PySem.W.Frag) : Sig := fun es res => ∃ v l : Int, es = [en rInt v, en rInt l] ∧ res = en rBool (decide (l ≤ v))
theorem ok_is_at_least {P : Program} {w : World} {K : PySem.W.Frag} {mg : Str → Option Value} {base : Heap} (T : Tx K mg) : Gd P w K mg base 1 (ga K "is_at_least") ["value", "low"] (spS (S_is_at_least K)) := by
  obtain ⟨fd, F⟩ := T.h_is_at_least
  refine ⟨fd, ?_, F.kp, F.bindsN fun _ _ _ _ _ _ us hl => match us, hl with | [_, _], _ => rfl⟩
  refine fun_ok F sc_is_at_least (fun es res h => ?l) fun cdv A outer s H E hr => ?b
  case l =>
    obtain ⟨v, l, rfl, rfl⟩ := h
    all_goals rfl
  case b =>
    have nd : N_is_at_least.Nodup := sc_is_at_least.nd
    exact ⟨_, PSs.nox (pss_one (ps_ret (pe_and (pe_callB (call_isi : CallR _ _ (rIsi K)) (by rfl) T.isinstance (by decide +kernel) (pa_cons (pv 0) (pa_cons (pe_bltn (v := .ty "int") (by rfl) T.int (by decide +kernel) rfl) pa_nil))) (pe_and (pe_not (pe_callB (call_isi : CallR _ _ (rIsi K)) (by rfl) T.isinstance (by decide +kernel) (pa_cons (pv 0) (pa_cons (pe_bltn (v := .ty "bool") (by rfl) T.bool (by decide +kernel) rfl) pa_nil)))) (pe_one (pe_cmpR op_ge (pv 0) (pv 1) (nomark _))))))), fun es res vs Hk Q hS a kk => by
      obtain ⟨v, l, rfl, rfl⟩ := hS
      exact s_ret a (ev_is (ev_and (ev_cb (ea_cons (ev_var rfl) (ea_cons ev_val ea_nil)) (ii_int)) (fun h_ => (ev_and (ev_not (ev_cb (ea_cons (ev_var rfl) (ea_cons ev_val ea_nil)) (ii_bool))) (fun h_ => (ev_op (ev_var rfl) (ev_var rfl) rv_ge))))) (by simp)) kk⟩
def S_is_between (K : PySem.W.Frag) : Sig := fun es res => ∃ v l h : Int, es = [en rInt v, en rInt l, en rInt h] ∧ res = en rBool (decide (l ≤ v ∧ v ≤ h))
theorem ok_is_between {P : Program} {w : World} {K : PySem.W.Frag} {mg : Str → Option Value} {base : Heap} (T : Tx K mg) : Gd P w K mg base 2 (ga K "is_between") ["value", "low", "high"] (spS (S_is_between K)) := by
  obtain ⟨fd, F⟩ := T.h_is_between
  obtain ⟨_, G_is_at_least, k_is_at_least, b_is_at_least⟩ := ok_is_at_least (P := P) (w := w) (base := base) T
  refine ⟨fd, ?_, F.kp, F.bindsN fun _ _ _ _ _ _ us hl => match us, hl with | [_, _, _], _ => rfl⟩
  refine fun_ok F sc_is_between (fun es res h => ?l) fun cdv A outer s H E hr => ?b
  case l =>
    obtain ⟨v, l, h, rfl, rfl⟩ := h
    all_goals rfl
  case b =>
    have nd : N_is_between.Nodup := sc_is_between.nd
    exact ⟨_, PSs.nox (pss_one (ps_ret (pe_and (pe_call G_is_at_least (hr.mono (by decide)) (by rfl) T.mis_at_least k_is_at_least b_is_at_least .nil pass0 (pa_cons (pv 0) (pa_cons (pv 1) pa_nil))) (pe_one (pe_cmpR op_le (pv 0) (pv 2) (nomark _)))))), fun es res vs Hk Q hS a kk => by
      obtain ⟨v, l, h, rfl, rfl⟩ := hS
      exact s_ret a (ev_is (ev_and (ev_call (ea_cons (ev_var rfl) (ea_cons (ev_var rfl) ea_nil)) ⟨_, _, rfl, rfl⟩) (fun h_ => (ev_op (ev_var rfl) (ev_var rfl) rv_le))) (by simp)) kk⟩
theorem isNm_len {z : Str} (h : isNm z = true) : 1 ≤ z.length ∧ z.length ≤ 8 := by
  unfold isNm at h
  rw [Bool.and_eq_true] at h
  exact of_decide_eq_true h.1
theorem isNm_all {z : Str} (h : isNm z = true) {c : Nat} (hc : c ∈ z.cps.toList) : c ∈ letters.cps.toList := by
  unfold isNm at h
  rw [Bool.and_eq_true] at h
  exact of_decide_eq_true (List.all_eq_true.mp h.2 c hc)
def S_is_name (K : PySem.W.Frag) : Sig := fun es res => ∃ z : Str, es = [en rStr z] ∧ res = en rBool true ∧ isNm z = true
theorem ok_is_name {P : Program} {w : World} {K : PySem.W.Frag} {mg : Str → Option Value} {base : Heap} (T : Tx K mg) : Gd P w K mg base 3 (ga K "is_name") ["value"] (spS (S_is_name K)) := by
  obtain ⟨fd, F⟩ := T.h_is_name
  obtain ⟨_, G_is_between, k_is_between, b_is_between⟩ := ok_is_between (P := P) (w := w) (base := base) T
  refine ⟨fd, ?_, F.kp, F.bindsN fun _ _ _ _ _ _ us hl => match us, hl with | [_], _ => rfl⟩
  refine fun_ok F sc_is_name (fun es res h => ?l) fun cdv A outer s H E hr => ?b
  case l =>
    obtain ⟨z, rfl, rfl, hz⟩ := h
    all_goals rfl
  case b =>
    have nd : N_is_name.Nodup := sc_is_name.nd
    exact ⟨_, PSs.nox (pss_cons (ps_if (PW.pt (pw_or (pt_not (pt_val (pe_callB (call_isi : CallR _ _ (rIsi K)) (by rfl) T.isinstance (by decide +kernel) (pa_cons (pv 0) (pa_cons (pe_bltn (v := .ty "str") (by rfl) T.str (by decide +kernel) rfl) pa_nil))))) (pw_or1 (pt_not (pt_val (pe_call G_is_between (hr.mono (by decide)) (by rfl) T.mis_between k_is_between b_is_between .nil pass0 (pa_cons (pe_callB call_len_str (by rfl) T.len boot_len (pa_cons (pv 0) pa_nil)) (pa_cons pe_int (pa_cons (pe_glob (v := .int 8) (by rfl) (T.g_LONGEST_NAME).choose_spec ⟨_, rfl⟩) pa_nil))))))))) (pss_one (ps_ret pe_bl)) pss_nil)
    (pss_one (ps_ret (pe_callB (cr_all rfl : CallR _ _ (rAll K)) (by rfl) T.all (by decide +kernel) (pa_cons (pe_lc (own := [("letter", 1)]) (by rfl) nd (pi_str (pv 0)) (blkOk_by (own := [("letter", 1)]) (N := N_is_name) (sc := defScope s_is_name) (by decide +kernel)) (fun _ _ _ _ _ => (pg_name (i := 1) nd rfl (by first | exact Or.inl rfl | exact Or.inr rfl))) (fun _ _ _ _ _ => pts_nil) (fun _ _ _ _ _ => (pe_cmpR op_in_sign (pv 1) (pe_glob (v := .str letters) (by rfl) (T.g_LETTERS).choose_spec ⟨_, rfl⟩) rfl))) pa_nil))))), fun es res vs Hk Q hS a kk => by
      obtain ⟨z, rfl, rfl, hz⟩ := hS
      have hl := isNm_len hz
      have hl2 : z.length ≤ 40000 := by omega
      have hs : z.cps.size ≤ 40000 := hl2
      refine q_not a (eb_or (eb_not (eb_val (ev_cb (ea_cons (ev_var rfl) (ea_cons ev_val ea_nil)) (ii_str)))) (fun h_ => (eb_not (eb_val (ev_call (ea_cons (ev_cb (ea_cons (ev_var rfl) ea_nil) (rc_lenS (by first | omega | decide | assumption | (have h__ := ‹decide (_ < _) = false›; simp at h__; omega) | (dsimp only; omega) | (simp only [decide_eq_false_iff_not, decide_eq_true_eq, Bool.and_eq_true, Bool.or_eq_false_iff, Bool.not_eq_true] at *; omega)))) (ea_cons ev_int (ea_cons ev_int ea_nil))) ⟨_, _, _, rfl, rfl⟩))))) (by simp; omega) fun H1 a1 => ?_
      refine s_ret a1 (ev_is (ev_cb (ea_cons (ev_lc _ _ _ (ei_str (ev_var rfl)) (by first | omega | decide | assumption | (have h__ := ‹decide (_ < _) = false›; simp at h__; omega) | (dsimp only; omega) | (simp only [decide_eq_false_iff_not, decide_eq_true_eq, Bool.and_eq_true, Bool.or_eq_false_iff, Bool.not_eq_true] at *; omega)) (fun i_ hi_ => tg_name (by simp)) (fun i_ Ω_ hi_ => eb_yes) (fun i_ Ω_ hi_ h_ => (ev_op (ev_var rfl) ev_str rv_inS))) ea_nil) rc_all) ?_) kk
      rw [given_all]
      refine congrArg (en rBool) (List.all_eq_true.mpr fun x hx => ?_)
      obtain ⟨i, hi, rfl⟩ := List.mem_map.mp hx
      have hi := List.mem_range.mp hi
      refine decide_eq_true (isNm_all hz ?_)
      rw [Array.getD_eq_getD_getElem?, Array.getElem?_eq_getElem hi]
      simp⟩
def S_Job_period (K : PySem.W.Frag) : Sig := fun es res => ∃ j : Jb, es = [en (rJob K) j] ∧ res = en rInt j.per
theorem ok_Job_period {P : Program} {w : World} {K : PySem.W.Frag} {mg : Str → Option Value} {base : Heap} (T : Tx K mg) : Gd P w K mg base 1 (pg K "Job" "period") ["self"] (spS (S_Job_period K)) := by
  obtain ⟨fd, F⟩ := T.h_Job_period
  refine ⟨fd, ?_, F.kp, F.bindsN fun _ _ _ _ _ _ us hl => match us, hl with | [_], _ => rfl⟩
  refine fun_ok F sc_Job_period (fun es res h => ?l) fun cdv A outer s H E hr => ?b
  case l =>
    obtain ⟨j, rfl, rfl⟩ := h
    all_goals rfl
  case b =>
    have nd : N_Job_period.Nodup := sc_Job_period.nd
    exact ⟨_, PSs.nox (pss_one (ps_ret (pe_fld (pv 0) rfl : PE _ _ (tFld K _ _)))), fun es res vs Hk Q hS a kk => by
      obtain ⟨j, rfl, rfl⟩ := hS
      exact s_ret a (ev_jobF (ev_var rfl) rfl T.cJob T.nJob_period) kk⟩
def S_Job_duration (K : PySem.W.Frag) : Sig := fun es res => ∃ j : Jb, es = [en (rJob K) j] ∧ res = en rInt j.dur
theorem ok_Job_duration {P : Program} {w : World} {K : PySem.W.Frag} {mg : Str → Option Value} {base : Heap} (T : Tx K mg) : Gd P w K mg base 1 (pg K "Job" "duration") ["self"] (spS (S_Job_duration K)) := by
  obtain ⟨fd, F⟩ := T.h_Job_duration
  refine ⟨fd, ?_, F.kp, F.bindsN fun _ _ _ _ _ _ us hl => match us, hl with | [_], _ => rfl⟩
  refine fun_ok F sc_Job_duration (fun es res h => ?l) fun cdv A outer s H E hr => ?b
  case l =>
    obtain ⟨j, rfl, rfl⟩ := h
    all_goals rfl
  case b =>
    have nd : N_Job_duration.Nodup := sc_Job_duration.nd
    exact ⟨_, PSs.nox (pss_one (ps_ret (pe_fld (pv 0) rfl : PE _ _ (tFld K _ _)))), fun es res vs Hk Q hS a kk => by
      obtain ⟨j, rfl, rfl⟩ := hS
      exact s_ret a (ev_jobF (ev_var rfl) rfl T.cJob T.nJob_duration) kk⟩
def S_Job_start (K : PySem.W.Frag) : Sig := fun es res => ∃ j : Jb, es = [en (rJob K) j] ∧ res = en rInt j.st
theorem ok_Job_start {P : Program} {w : World} {K : PySem.W.Frag} {mg : Str → Option Value} {base : Heap} (T : Tx K mg) : Gd P w K mg base 1 (pg K "Job" "start") ["self"] (spS (S_Job_start K)) := by
  obtain ⟨fd, F⟩ := T.h_Job_start
  refine ⟨fd, ?_, F.kp, F.bindsN fun _ _ _ _ _ _ us hl => match us, hl with | [_], _ => rfl⟩
  refine fun_ok F sc_Job_start (fun es res h => ?l) fun cdv A outer s H E hr => ?b
  case l =>
    obtain ⟨j, rfl, rfl⟩ := h
    all_goals rfl
  case b =>
    have nd : N_Job_start.Nodup := sc_Job_start.nd
    exact ⟨_, PSs.nox (pss_one (ps_ret (pe_fld (pv 0) rfl : PE _ _ (tFld K _ _)))), fun es res vs Hk Q hS a kk => by
      obtain ⟨j, rfl, rfl⟩ := hS
      exact s_ret a (ev_jobF (ev_var rfl) rfl T.cJob T.nJob_start) kk⟩
def S_Job_cost (K : PySem.W.Frag) : Sig := fun es res => ∃ j : Jb, es = [en (rJob K) j] ∧ res = en rInt j.co
theorem ok_Job_cost {P : Program} {w : World} {K : PySem.W.Frag} {mg : Str → Option Value} {base : Heap} (T : Tx K mg) : Gd P w K mg base 1 (pg K "Job" "cost") ["self"] (spS (S_Job_cost K)) := by
  obtain ⟨fd, F⟩ := T.h_Job_cost
  refine ⟨fd, ?_, F.kp, F.bindsN fun _ _ _ _ _ _ us hl => match us, hl with | [_], _ => rfl⟩
  refine fun_ok F sc_Job_cost (fun es res h => ?l) fun cdv A outer s H E hr => ?b
  case l =>
    obtain ⟨j, rfl, rfl⟩ := h
    all_goals rfl
  case b =>
    have nd : N_Job_cost.Nodup := sc_Job_cost.nd
    exact ⟨_, PSs.nox (pss_one (ps_ret (pe_fld (pv 0) rfl : PE _ _ (tFld K _ _)))), fun es res vs Hk Q hS a kk => by
      obtain ⟨j, rfl, rfl⟩ := hS
      exact s_ret a (ev_jobF (ev_var rfl) rfl T.cJob T.nJob_cost) kk⟩
def S_Job_contains (K : PySem.W.Frag) : Sig := fun es res => ∃ (j : Jb) (x : Int), es = [en (rJob K) j, en rInt x] ∧ res = en rBool (decide ((x - j.st) % j.per < j.dur)) ∧ 0 ≤ x
theorem ok_Job_contains {P : Program} {w : World} {K : PySem.W.Frag} {mg : Str → Option Value} {base : Heap} (T : Tx K mg) : Gd P w K mg base 2 (ma K (ga K "Job") "__contains__") ["self", "x"] (spS (S_Job_contains K)) := by
  obtain ⟨fd, F⟩ := T.h_Job_contains
  obtain ⟨_, G_is_at_least, k_is_at_least, b_is_at_least⟩ := ok_is_at_least (P := P) (w := w) (base := base) T
  refine ⟨fd, ?_, F.kp, F.bindsN fun _ _ _ _ _ _ us hl => match us, hl with | [_, _], _ => rfl⟩
  refine fun_ok F sc_Job_contains (fun es res h => ?l) fun cdv A outer s H E hr => ?b
  case l =>
    obtain ⟨j, x, rfl, rfl, hx⟩ := h
    all_goals rfl
  case b =>
    have nd : N_Job_contains.Nodup := sc_Job_contains.nd
    exact ⟨_, PSs.nox (pss_cons (ps_if (pt_not (pt_val (pe_call G_is_at_least (hr.mono (by decide)) (by rfl) T.mis_at_least k_is_at_least b_is_at_least .nil pass0 (pa_cons (pv 1) (pa_cons pe_int pa_nil))))) (pss_one ps_never) pss_nil)
    (pss_one (ps_ret (pe_cmpR op_lt (pe_op op_mod (pe_op op_sub (pv 1) (pe_fld (pv 0) rfl : PE _ _ (tFld K _ _))) (pe_fld (pv 0) rfl : PE _ _ (tFld K _ _))) (pe_fld (pv 0) rfl : PE _ _ (tFld K _ _)) (nomark _))))), fun es res vs Hk Q hS a kk => by
      obtain ⟨j, x, rfl, rfl, hx⟩ := hS
      have hj := j.ok
      refine q_not a (eb_not (eb_val (ev_call (ea_cons (ev_var rfl) (ea_cons ev_int ea_nil)) ⟨_, _, rfl, rfl⟩))) (by simp; omega) fun H1 a1 => ?_
      exact s_ret a1 (ev_op (ev_op (ev_op (ev_var rfl) (ev_jobF (ev_var rfl) rfl T.cJob T.nJob_start) rv_sub) (ev_jobF (ev_var rfl) rfl T.cJob T.nJob_period) (rv_mod (by first | omega | decide | assumption | (have h__ := ‹decide (_ < _) = false›; simp at h__; omega) | (dsimp only; omega) | (simp only [decide_eq_false_iff_not, decide_eq_true_eq, Bool.and_eq_true, Bool.or_eq_false_iff, Bool.not_eq_true] at *; omega)))) (ev_jobF (ev_var rfl) rfl T.cJob T.nJob_duration) rv_lt) kk⟩
def S_Job_init (K : PySem.W.Frag) : SigM := fun es Ω res Ω' => ∃ (x dx : Addr) (j : Jb), es = [en rVal (.ref x), en rInt j.per, en rInt j.dur, en rInt j.st, en rInt j.co] ∧ Ω = [ic (cJ K) x dx []] ∧ res = en rNon () ∧ Ω' = [ic (cJ K) x dx (jobFs j)]
theorem ok_Job_init {P : Program} {w : World} {K : PySem.W.Frag} {mg : Str → Option Value} {base : Heap} (T : Tx K mg) : GdK P w K mg base 3 (ma K (ga K "Job") "__init__") ["self", "period", "duration", "start", "cost"] (spM (S_Job_init K)) 3 ["start", "cost"] := by
  obtain ⟨fd, F⟩ := T.h_Job_init
  obtain ⟨_, G_is_between, k_is_between, b_is_between⟩ := ok_is_between (P := P) (w := w) (base := base) T
  refine ⟨fd, ?_, F.kp, by
    obtain ⟨_, h⟩ := F.kbindsD 3 ["start", "cost"] (fun us _ ws => us ++ ws) (List.cons_ne_nil _ _) (fun r1 _ r2 => r1.append r2) (fun T kV doc pm an cdv ct us its ws l1 l2 l3 => match us, its, ws, l1, l2, l3 with | [_, _, _], [_], [_, _], _, _, _ => ⟨_, rfl, by kernel_rfl⟩)
    exact h⟩
  refine fun_okM F sc_Job_init (fun es Ω res Ω' h => ?l) fun cdv A outer s H E hr => ?b
  case l =>
    obtain ⟨x, dx, j, rfl, rfl, rfl, rfl⟩ := h
    all_goals rfl
  case b =>
    have nd : N_Job_init.Nodup := sc_Job_init.nd
    exact ⟨_, PSs.nox (pss_cons (ps_if (pt_not (pt_val (pe_call G_is_between (hr.mono (by decide)) (by rfl) T.mis_between k_is_between b_is_between .nil pass0 (pa_cons (pv 1) (pa_cons pe_int (pa_cons (pe_glob (v := .int 12) (by rfl) (T.g_LONGEST_PERIOD).choose_spec ⟨_, rfl⟩) pa_nil)))))) (pss_one ps_never) pss_nil)
    (pss_cons (ps_if (pt_not (pt_val (pe_call G_is_between (hr.mono (by decide)) (by rfl) T.mis_between k_is_between b_is_between .nil pass0 (pa_cons (pv 2) (pa_cons pe_int (pa_cons (pv 1) pa_nil)))))) (pss_one ps_never) pss_nil)
    (pss_cons (ps_if (pt_not (pt_val (pe_call G_is_between (hr.mono (by decide)) (by rfl) T.mis_between k_is_between b_is_between .nil pass0 (pa_cons (pv 3) (pa_cons pe_int (pa_cons (pe_op op_sub (pv 1) pe_int) pa_nil)))))) (pss_one ps_never) pss_nil)
    (pss_cons (ps_if (pt_not (pt_val (pe_call G_is_between (hr.mono (by decide)) (by rfl) T.mis_between k_is_between b_is_between .nil pass0 (pa_cons (pv 4) (pa_cons pe_int (pa_cons (pe_glob (v := .int 9) (by rfl) (T.g_HIGHEST_COST).choose_spec ⟨_, rfl⟩) pa_nil)))))) (pss_one ps_never) pss_nil)
    (pss_cons (ps_fld (pv 0) (pv 1) rfl)
    (pss_cons (ps_fld (pv 0) (pv 2) rfl)
    (pss_cons (ps_fld (pv 0) (pv 3) rfl)
    (pss_one (ps_fld (pv 0) (pv 4) rfl))))))))), fun es Ω res Ω' vs Hk Q hS a kk => by
      obtain ⟨x, dx, j, rfl, rfl, rfl, rfl⟩ := hS
      have hj := j.ok
      refine q_not a (eb_not (eb_val (ev_call (ea_cons (ev_var rfl) (ea_cons ev_int (ea_cons ev_int ea_nil))) ⟨_, _, _, rfl, rfl⟩))) (by simp; omega) fun H1 a => ?_
      refine q_not a (eb_not (eb_val (ev_call (ea_cons (ev_var rfl) (ea_cons ev_int (ea_cons (ev_var rfl) ea_nil))) ⟨_, _, _, rfl, rfl⟩))) (by simp; omega) fun H1 a => ?_
      refine q_not a (eb_not (eb_val (ev_call (ea_cons (ev_var rfl) (ea_cons ev_int (ea_cons (ev_op (ev_var rfl) ev_int rv_sub) ea_nil))) ⟨_, _, _, rfl, rfl⟩))) (by simp; omega) fun H1 a => ?_
      refine q_not a (eb_not (eb_val (ev_call (ea_cons (ev_var rfl) (ea_cons ev_int (ea_cons ev_int ea_nil))) ⟨_, _, _, rfl, rfl⟩))) (by simp; omega) fun H1 a => ?_
      refine q_fld (c' := ic (cJ K) x dx [("_period", .int j.per)]) a (ev_var rfl) (ev_var rfl) T.cJob T.nJob_period rfl rfl (fun o Hk h => ⟨_, h, (by decide), fun y hy => by cases (show y = V.int _ from hy); rfl⟩) fun H1 a => ?_
      refine q_fld (c' := ic (cJ K) x dx [("_period", .int j.per), ("_duration", .int j.dur)]) a (ev_var rfl) (ev_var rfl) T.cJob T.nJob_duration rfl rfl (fun o Hk h => ⟨_, h, (by simp), fun y hy => by cases (show y = V.int _ from hy); rfl⟩) fun H1 a => ?_
      refine q_fld (c' := ic (cJ K) x dx [("_period", .int j.per), ("_duration", .int j.dur), ("_start", .int j.st)]) a (ev_var rfl) (ev_var rfl) T.cJob T.nJob_start rfl rfl (fun o Hk h => ⟨_, h, (by simp), fun y hy => by cases (show y = V.int _ from hy); rfl⟩) fun H1 a => ?_
      refine s_fld (fs := []) (c' := ic (cJ K) x dx (jobFs j)) a (ev_var rfl) (ev_var rfl) T.cJob T.nJob_cost rfl rfl (fun o Hk h => ⟨_, h, (by simp), fun y hy => by cases (show y = V.int _ from hy); rfl⟩) fun H1 a => ?_
      exact s_end a kk⟩
theorem mk_job {K : PySem.W.Frag} (j : Jb) : ∀ x dx, ∃ c' : Cell, c'.a = x ∧ S_Job_init K (en rVal (.ref x) :: ([en rInt j.per, en rInt j.dur] ++ [en rInt j.st, en rInt j.co])) [ic (cJ K) x dx []] (en rNon ()) [c'] ∧ ∀ o Hk, Hk x = none → c'.p o Hk → (en (rJob K) j).ok (.ref x) (upd Hk x o) := fun x dx =>
  ⟨ic (cJ K) x dx (jobFs j), rfl, ⟨x, dx, j, rfl, rfl, rfl, rfl⟩, fun o Hk _ h => by
    have h : o = .ins (cJ K) dx (jobFs j) := h
    subst h
    exact ⟨x, dx, rfl, upd_same⟩⟩
def S_check_jobs (K : PySem.W.Frag) : Sig := fun es res => ∃ m : List (Str × Jb), es = [en (rDict (rJob K)) m] ∧ res = en rNon () ∧ TbOk m
theorem ok_check_jobs {P : Program} {w : World} {K : PySem.W.Frag} {mg : Str → Option Value} {base : Heap} (T : Tx K mg) : Gd P w K mg base 4 (ga K "check_jobs") ["jobs"] (spS (S_check_jobs K)) := by
  obtain ⟨fd, F⟩ := T.h_check_jobs
  obtain ⟨_, G_is_between, k_is_between, b_is_between⟩ := ok_is_between (P := P) (w := w) (base := base) T
  obtain ⟨_, G_is_name, k_is_name, b_is_name⟩ := ok_is_name (P := P) (w := w) (base := base) T
  obtain ⟨_, G_Job_period, k_Job_period, b_Job_period⟩ := ok_Job_period (P := P) (w := w) (base := base) T
  refine ⟨fd, ?_, F.kp, F.bindsN fun _ _ _ _ _ _ us hl => match us, hl with | [_], _ => rfl⟩
  refine fun_ok F sc_check_jobs (fun es res h => ?l) fun cdv A outer s H E hr => ?b
  case l =>
    obtain ⟨m, rfl, rfl, hm⟩ := h
    all_goals rfl
  case b =>
    have nd : N_check_jobs.Nodup := sc_check_jobs.nd
    exact ⟨_, PSs.nox (pss_cons (ps_if (PW.pt (pw_or (pt_not (pt_val (pe_callB (call_isi : CallR _ _ (rIsi K)) (by rfl) T.isinstance (by decide +kernel) (pa_cons (pv 0) (pa_cons (pe_bltn (v := .ty "dict") (by rfl) T.dict (by decide +kernel) rfl) pa_nil))))) (pw_or1 (pt_not (pt_val (pe_call G_is_between (hr.mono (by decide)) (by rfl) T.mis_between k_is_between b_is_between .nil pass0 (pa_cons (pe_callB call_lenR (by rfl) T.len boot_len (pa_cons (pv 0) pa_nil)) (pa_cons pe_int (pa_cons (pe_glob (v := .int 4) (by rfl) (T.g_MOST_JOBS).choose_spec ⟨_, rfl⟩) pa_nil))))))))) (pss_one ps_never) pss_nil)
    (pss_cons (ps_lk (ps_for PassesOwn.never rfl (pi_items (pv 0)) (pg_tup rfl (pgs_cons (pg_name (i := 1) nd rfl (by first | exact Or.inl rfl | exact Or.inr rfl)) (pgs_cons (pg_name (i := 2) nd rfl (by first | exact Or.inl rfl | exact Or.inr rfl)) pgs_nil)))
    (pss_one (ps_if (PW.pt (pw_or (pt_not (pt_val (pe_call G_is_name (hr.mono (by decide)) (by rfl) T.mis_name k_is_name b_is_name .nil pass0 (pa_cons (pv 1) pa_nil)))) (pw_or1 (pt_not (pt_val (pe_callB (call_isi : CallR _ _ (rIsi K)) (by rfl) T.isinstance (by decide +kernel) (pa_cons (pv 2) (pa_cons (pe_glob (v := .ref (ga K "Job")) (by rfl) T.mJob rfl) pa_nil)))))))) (pss_one ps_never) pss_nil))))
    (pss_cons (ps_set (i := 3) nd rfl (by first | exact Or.inl rfl | exact Or.inr rfl) pe_int)
    (pss_cons (ps_lk (ps_for PassesOwn.never rfl (pi_keys (pv 0)) (pg_name (i := 1) nd rfl (by first | exact Or.inl rfl | exact Or.inr rfl))
    (pss_one (ps_set (i := 3) nd rfl (by first | exact Or.inl rfl | exact Or.inr rfl) (pe_op op_mul (pv 3) (pe_prop (pe_dget (runits1 hr) (pv 0) (pv 1) (fun _ _ => rfl)) T.cJob T.pJob_period G_Job_period (hr.mono (by decide)) b_Job_period .nil pass0 rfl))))))
    (pss_one (ps_if (pt_cmpR op_gt (pv 3) (pe_glob (v := .int 2000) (by rfl) (T.g_LARGEST_PRODUCT).choose_spec ⟨_, rfl⟩) (nomark _)) (pss_one ps_never) pss_nil)))))), fun es res vs Hk Q hS a kk => by
      obtain ⟨m, rfl, rfl, hm⟩ := hS
      have h1 := hm.n1
      have h4 := hm.n4
      refine q_not a (eb_or (eb_not (eb_val (ev_cb (ea_cons (ev_var rfl) (ea_cons ev_val ea_nil)) (ii_dict)))) (fun h_ => (eb_not (eb_val (ev_call (ea_cons (ev_cb (ea_cons (ev_var rfl) ea_nil) rc_lenD) (ea_cons ev_int (ea_cons ev_int ea_nil))) ⟨_, _, _, rfl, rfl⟩))))) (by simp; omega) fun H1 a => ?_
      refine q_lk (Γn := [some (en (rDict (rJob K)) m), none, none, none]) (Ωn := []) (Tn := []) a (dloc_var (i := 0) rfl) (fun σ1 H1 a => ?_) fun W' Hk' H' D' lk a nx _ => ?l1
      case l1 =>
        refine s_forB (fun _ => [some (en (rDict (rJob K)) m), none, none, none]) (fun _ => []) (fun _ => True) lk a (ei_gd (ei_items (K := K))) ⟨True.intro, fun _ _ _ a => a⟩ (fun T1 i x σ1 H1 hi _ a => ?_) (fun _ σ1 H1 a => nx _ _ (a.sub (by simp)))
        refine (tg_pairD (vs := [1, 2]) (by simp) (by simp)) _ _ _ _ _ _ _ _ a _ fun σ1 a _ => ?_
        have hn := hm.nm _ (mem_getD hi)
        exact s_not a (eb_or (eb_not (eb_val (ev_call (ea_cons (ev_var rfl) ea_nil) ⟨_, rfl, rfl, by assumption⟩))) (fun h_ => (eb_not (eb_val (ev_cb (ea_cons (ev_var rfl) (ea_cons ev_val ea_nil)) (ty_own isJob T.cJob T.iJob)))))) (by simp) fun H1 a => ⟨True.intro, (a.off 1).off 2⟩
      refine q_set a ev_int fun σ1 H1 a => ?_
      refine q_lk (Γn := [some (en (rDict (rJob K)) m), none, none, some (en rInt (prodP m))]) (Ωn := []) (Tn := []) a (dloc_var (i := 0) rfl) (fun σ1 H1 a => ?_) fun W' Hk' H' D' lk a nx _ => ?l2
      case l2 =>
        refine s_forB (fun i => [some (en (rDict (rJob K)) m), none, none, some (en rInt (prodP (m.take i)))]) (fun _ => []) (fun _ => True) lk a (ei_gdK ei_keys) ⟨True.intro, fun _ _ _ a => a⟩ (fun T1 i x σ1 H1 hi _ a => ?_) (fun _ σ1 H1 a => nx _ _ ((by rw [List.take_of_length_le (Nat.le_refl _)] at a; exact a : At _ _ _ _ _ _ _ _).sub (by simp)))
        refine (tg_nameD (vs := [1]) (by simp)) _ _ _ _ _ _ _ _ a _ fun σ1 a _ => ?_
        have hl := lookup_getD hm.nd hi
        have hj := (m.getD i default).2.ok
        refine s_set a (ev_eq (ev_op (ev_var rfl) (ev_prop isJob (ev_dget (ev_var rfl) (ev_var rfl) (by first | omega | decide | assumption | (have h__ := ‹decide (_ < _) = false›; simp at h__; omega) | (dsimp only; omega) | (simp only [decide_eq_false_iff_not, decide_eq_true_eq, Bool.and_eq_true, Bool.or_eq_false_iff, Bool.not_eq_true] at *; omega))) ⟨_, rfl, rfl⟩) (rv_mul (by first | exact Or.inl ⟨by omega, by omega⟩ | exact Or.inr ⟨by omega, by omega⟩))) (prodP_take hi)) fun σ2 H2 a => ⟨True.intro, a.off 1⟩
      refine s_not a (eb_cmp (ev_op (ev_var rfl) ev_int rv_gt)) (by have := hm.pr; simp; omega) fun H1 a => ?_
      exact s_end a kk⟩
def S_check_timetable (K : PySem.W.Frag) : Sig := fun es res => ∃ m : List (Str × Jb), es = [en (rTab K) m] ∧ res = en rNon ()
theorem ok_check_timetable {P : Program} {w : World} {K : PySem.W.Frag} {mg : Str → Option Value} {base : Heap} (T : Tx K mg) : Gd P w K mg base 1 (ga K "check_timetable") ["timetable"] (spS (S_check_timetable K)) := by
  obtain ⟨fd, F⟩ := T.h_check_timetable
  refine ⟨fd, ?_, F.kp, F.bindsN fun _ _ _ _ _ _ us hl => match us, hl with | [_], _ => rfl⟩
  refine fun_ok F sc_check_timetable (fun es res h => ?l) fun cdv A outer s H E hr => ?b
  case l =>
    obtain ⟨m, rfl, rfl⟩ := h
    all_goals rfl
  case b =>
    have nd : N_check_timetable.Nodup := sc_check_timetable.nd
    exact ⟨_, PSs.nox (pss_one (ps_if (pt_not (pt_val (pe_callB (call_isi : CallR _ _ (rIsi K)) (by rfl) T.isinstance (by decide +kernel) (pa_cons (pv 0) (pa_cons (pe_glob (v := .ref (ga K "Timetable")) (by rfl) T.mTimetable rfl) pa_nil))))) (pss_one ps_never) pss_nil)), fun es res vs Hk Q hS a kk => by
      obtain ⟨m, rfl, rfl⟩ := hS
      refine s_not a (eb_not (eb_val (ev_cb (ea_cons (ev_var rfl) (ea_cons ev_val ea_nil)) (ty_own isTab T.cTimetable T.iTimetable)))) (by simp) fun H1 a => ?_
      exact s_end a kk⟩
def S_Timetable_init (K : PySem.W.Frag) : SigM := fun es Ω res Ω' => ∃ (x dx : Addr) (m : List (Str × Jb)), es = [en rVal (.ref x), en (rDict (rJob K)) m] ∧ Ω = [ic (cT K) x dx []] ∧ res = en rNon () ∧ Ω' = [tcT K x dx m] ∧ TbOk m
theorem ok_Timetable_init {P : Program} {w : World} {K : PySem.W.Frag} {mg : Str → Option Value} {base : Heap} (T : Tx K mg) : Gd P w K mg base 5 (ma K (ga K "Timetable") "__init__") ["self", "jobs"] (spM (S_Timetable_init K)) := by
  obtain ⟨fd, F⟩ := T.h_Timetable_init
  obtain ⟨_, G_check_jobs, k_check_jobs, b_check_jobs⟩ := ok_check_jobs (P := P) (w := w) (base := base) T
  refine ⟨fd, ?_, F.kp, F.bindsN fun _ _ _ _ _ _ us hl => match us, hl with | [_, _], _ => rfl⟩
  refine fun_okM F sc_Timetable_init (fun es Ω res Ω' h => ?l) fun cdv A outer s H E hr => ?b
  case l =>
    obtain ⟨x, dx, m, rfl, rfl, rfl, rfl, hm⟩ := h
    all_goals rfl
  case b =>
    have nd : N_Timetable_init.Nodup := sc_Timetable_init.nd
    exact ⟨_, PSs.nox (pss_cons (ps_expr (pe_call G_check_jobs (hr.mono (by decide)) (by rfl) T.mcheck_jobs k_check_jobs b_check_jobs .nil pass0 (pa_cons (pv 1) pa_nil)))
    (pss_one (ps_fld (pv 0) (pe_lk (pe_dc (own := [("name", 2)]) (by rfl) nd (pi_keys (pv 1)) (blkOk_by (own := [("name", 2)]) (N := N_Timetable_init) (sc := defScope s_Timetable_init) (by decide +kernel)) (fun _ _ _ _ _ => (pg_name (i := 2) nd rfl (by first | exact Or.inl rfl | exact Or.inr rfl))) (fun _ _ _ _ _ => pts_nil) (fun _ _ _ _ _ => (pv 2)) (fun _ _ _ _ _ => (pe_dget (runits1 hr) (pv 1) (pv 2) (fun _ _ => rfl))))) rfl))), fun es Ω res Ω' vs Hk Q hS a kk => by
      obtain ⟨x, dx, m, rfl, rfl, rfl, rfl, hm⟩ := hS
      have h4 := hm.n4
      refine q_drop a (ev_call (ea_cons (ev_var rfl) ea_nil) ⟨_, rfl, rfl, by assumption⟩) fun H1 a => ?_
      refine s_fld (fs := []) (c' := tcT K x dx m) a (ev_eq (ev_lk (dloc_var (i := 1) rfl) (ev_dcX _ (fun i => (m.getD i default).1) (fun i => (m.getD i default).2) (ei_gdK ei_keys) (by omega) (fun i j h hj => nodup_getD hm.nd h hj) (fun i hi => tg_name (by simp)) (fun i Ω hi => ev_var rfl) (fun i Ω hi => ev_dget (ev_var rfl) (ev_var rfl) (lookup_getD hm.nd hi)))) (range_getD (fun p => p) m |>.trans (List.map_id m))) (ev_var rfl) T.cTimetable T.nTimetable_jobs rfl rfl (fun o Hk h => ⟨_, h, (by decide), fun y hy => ?_⟩) fun H1 a => ?_
      · obtain ⟨d, kvs, rfl, h1, h2⟩ := hy
        exact ⟨d, rfl, d, kvs, rfl, h1, h2⟩
      · exact s_end a kk⟩
theorem mk_tab {K : PySem.W.Frag} {m : List (Str × Jb)} (hm : TbOk m) : ∀ x dx, ∃ c' : Cell, c'.a = x ∧ S_Timetable_init K (en rVal (.ref x) :: ([en (rDict (rJob K)) m] ++ [])) [ic (cT K) x dx []] (en rNon ()) [c'] ∧ ∀ o Hk, Hk x = none → c'.p o Hk → (en (rTab K) m).ok (.ref x) (upd Hk x o) := fun x dx =>
  ⟨tcT K x dx m, rfl, ⟨x, dx, m, rfl, rfl, rfl, rfl, hm⟩, fun o Hk hn h => by
    obtain ⟨d, h1, h2⟩ := (show ∃ d, o = .ins (cT K) dx [("_jobs", .ref d)] ∧ (rDict (rJob K)).r m (.ref d) Hk from h)
    subst h1
    exact ⟨hm, x, dx, d, rfl, upd_same, (rDict (rJob K)).mono (Ex.new hn) h2⟩⟩
def S_Timetable_names (K : PySem.W.Frag) : Sig := fun es res => ∃ m : List (Str × Jb), es = [en (rTab K) m] ∧ res = en (rList rStr) (m.map (·.1))
theorem ok_Timetable_names {P : Program} {w : World} {K : PySem.W.Frag} {mg : Str → Option Value} {base : Heap} (T : Tx K mg) : Gd P w K mg base 1 (pg K "Timetable" "names") ["self"] (spS (S_Timetable_names K)) := by
  obtain ⟨fd, F⟩ := T.h_Timetable_names
  refine ⟨fd, ?_, F.kp, F.bindsN fun _ _ _ _ _ _ us hl => match us, hl with | [_], _ => rfl⟩
  refine fun_ok F sc_Timetable_names (fun es res h => ?l) fun cdv A outer s H E hr => ?b
  case l =>
    obtain ⟨m, rfl, rfl⟩ := h
    all_goals rfl
  case b =>
    have nd : N_Timetable_names.Nodup := sc_Timetable_names.nd
    exact ⟨_, PSs.nox (pss_one (ps_ret (pe_callTy (call_listD rfl) (by rfl) T.list (by decide +kernel) (pa_cons (pe_fld (pv 0) rfl : PE _ _ (tFld K _ _)) pa_nil)))), fun es res vs Hk Q hS a kk => by
      obtain ⟨m, rfl, rfl⟩ := hS
      exact s_ret a (ev_cb (ea_cons (ev_tabF (ev_var rfl) T.cTimetable T.nTimetable_jobs) ea_nil) rc_listD) kk⟩
def S_Timetable_contains (K : PySem.W.Frag) : Sig := fun es res => ∃ (m : List (Str × Jb)), (∃ z : Str, es = [en (rTab K) m, en rStr z] ∧ res = en rBool (m.lookup z).isSome) ∨ (∃ i : Int, es = [en (rTab K) m, en rInt i] ∧ res = en rBool false)
theorem ok_Timetable_contains {P : Program} {w : World} {K : PySem.W.Frag} {mg : Str → Option Value} {base : Heap} (T : Tx K mg) : Gd P w K mg base 1 (ma K (ga K "Timetable") "__contains__") ["self", "x"] (spS (S_Timetable_contains K)) := by
  obtain ⟨fd, F⟩ := T.h_Timetable_contains
  refine ⟨fd, ?_, F.kp, F.bindsN fun _ _ _ _ _ _ us hl => match us, hl with | [_, _], _ => rfl⟩
  refine fun_ok F sc_Timetable_contains (fun es res h => ?l) fun cdv A outer s H E hr => ?b
  case l =>
    obtain ⟨m, ⟨z, rfl, rfl⟩ | ⟨i, rfl, rfl⟩⟩ := h
    all_goals rfl
  case b =>
    have nd : N_Timetable_contains.Nodup := sc_Timetable_contains.nd
    exact ⟨_, PSs.nox (pss_one (ps_ret (pe_and (pe_callB (call_isi : CallR _ _ (rIsi K)) (by rfl) T.isinstance (by decide +kernel) (pa_cons (pv 1) (pa_cons (pe_bltn (v := .ty "str") (by rfl) T.str (by decide +kernel) rfl) pa_nil))) (pe_one (pe_cmp (pc_din (runits1 hr) (pv 1) (pe_fld (pv 0) rfl : PE _ _ (tFld K _ _))) rfl))))), fun es res vs Hk Q hS a kk => by
      obtain ⟨m, ⟨z, rfl, rfl⟩ | ⟨i, rfl, rfl⟩⟩ := hS
      · exact s_ret a (ev_is (ev_and (ev_cb (ea_cons (ev_var rfl) (ea_cons ev_val ea_nil)) (ii_str)) (fun h_ => (ev_din (ev_var rfl) (ev_tabF (ev_var rfl) T.cTimetable T.nTimetable_jobs)))) (by simp)) kk
      · exact s_ret a (ev_and (d := false) (ev_cb (ea_cons (ev_var rfl) (ea_cons ev_val ea_nil)) ii_strI) (fun h => by cases h)) kk⟩
def S_Timetable_getitem (K : PySem.W.Frag) : Sig := fun es res => ∃ (m : List (Str × Jb)) (z : Str) (j : Jb), es = [en (rTab K) m, en rStr z] ∧ res = en (rJob K) j ∧ m.lookup z = some j
theorem ok_Timetable_getitem {P : Program} {w : World} {K : PySem.W.Frag} {mg : Str → Option Value} {base : Heap} (T : Tx K mg) : Gd P w K mg base 3 (ma K (ga K "Timetable") "__getitem__") ["self", "at"] (spS (S_Timetable_getitem K)) := by
  obtain ⟨fd, F⟩ := T.h_Timetable_getitem
  obtain ⟨_, G_Timetable_contains, k_Timetable_contains, b_Timetable_contains⟩ := ok_Timetable_contains (P := P) (w := w) (base := base) T
  refine ⟨fd, ?_, F.kp, F.bindsN fun _ _ _ _ _ _ us hl => match us, hl with | [_, _], _ => rfl⟩
  refine fun_ok F sc_Timetable_getitem (fun es res h => ?l) fun cdv A outer s H E hr => ?b
  case l =>
    obtain ⟨m, z, j, rfl, rfl, hl⟩ := h
    all_goals rfl
  case b =>
    have nd : N_Timetable_getitem.Nodup := sc_Timetable_getitem.nd
    exact ⟨_, PSs.nox (pss_cons (ps_if (pt_cmpR (op_onin T.dTimetable_contains G_Timetable_contains (hr.mono (by decide)) b_Timetable_contains .nil pass0) (pv 1) (pv 0) rfl) (pss_one ps_never) pss_nil)
    (pss_one (ps_ret (pe_dget (runits1 hr) (pe_fld (pv 0) rfl : PE _ _ (tFld K _ _)) (pv 1) (fun _ _ => rfl))))), fun es res vs Hk Q hS a kk => by
      obtain ⟨m, z, j, rfl, rfl, hl⟩ := hS
      refine q_not a (eb_cmp (ev_op (ev_var rfl) (ev_var rfl) (rv_onin isTab ⟨_, .inl ⟨_, rfl, rfl⟩⟩))) (by rw [hl]; rfl) fun H1 a => ?_
      exact s_ret a (ev_dget (ev_tabF (ev_var rfl) T.cTimetable T.nTimetable_jobs) (ev_var rfl) (by first | omega | decide | assumption | (have h__ := ‹decide (_ < _) = false›; simp at h__; omega) | (dsimp only; omega) | (simp only [decide_eq_false_iff_not, decide_eq_true_eq, Bool.and_eq_true, Bool.or_eq_false_iff, Bool.not_eq_true] at *; omega))) kk⟩
def S_Timetable_len (K : PySem.W.Frag) : Sig := fun es res => ∃ m : List (Str × Jb), es = [en (rTab K) m] ∧ res = en rInt (m.length : Int)
theorem ok_Timetable_len {P : Program} {w : World} {K : PySem.W.Frag} {mg : Str → Option Value} {base : Heap} (T : Tx K mg) : Gd P w K mg base 1 (ma K (ga K "Timetable") "__len__") ["self"] (spS (S_Timetable_len K)) := by
  obtain ⟨fd, F⟩ := T.h_Timetable_len
  refine ⟨fd, ?_, F.kp, F.bindsN fun _ _ _ _ _ _ us hl => match us, hl with | [_], _ => rfl⟩
  refine fun_ok F sc_Timetable_len (fun es res h => ?l) fun cdv A outer s H E hr => ?b
  case l =>
    obtain ⟨m, rfl, rfl⟩ := h
    all_goals rfl
  case b =>
    have nd : N_Timetable_len.Nodup := sc_Timetable_len.nd
    exact ⟨_, PSs.nox (pss_one (ps_ret (pe_callB call_lenR (by rfl) T.len boot_len (pa_cons (pe_fld (pv 0) rfl : PE _ _ (tFld K _ _)) pa_nil)))), fun es res vs Hk Q hS a kk => by
      obtain ⟨m, rfl, rfl⟩ := hS
      exact s_ret a (ev_cb (ea_cons (ev_tabF (ev_var rfl) T.cTimetable T.nTimetable_jobs) ea_nil) rc_lenD) kk⟩
def S_distance_within (K : PySem.W.Frag) : Sig := fun es res => ∃ (i j : Jb) (d : Int), es = [en (rJob K) i, en (rJob K) j, en rInt d] ∧ res = en rInt ((j.st - i.st) % d) ∧ 0 < d
theorem ok_distance_within {P : Program} {w : World} {K : PySem.W.Frag} {mg : Str → Option Value} {base : Heap} (T : Tx K mg) : Gd P w K mg base 3 (ga K "distance_within") ["first", "second", "divisor"] (spS (S_distance_within K)) := by
  obtain ⟨fd, F⟩ := T.h_distance_within
  obtain ⟨_, G_Job_start, k_Job_start, b_Job_start⟩ := ok_Job_start (P := P) (w := w) (base := base) T
  refine ⟨fd, ?_, F.kp, F.bindsN fun _ _ _ _ _ _ us hl => match us, hl with | [_, _, _], _ => rfl⟩
  refine fun_ok F sc_distance_within (fun es res h => ?l) fun cdv A outer s H E hr => ?b
  case l =>
    obtain ⟨i, j, d, rfl, rfl, hd⟩ := h
    all_goals rfl
  case b =>
    have nd : N_distance_within.Nodup := sc_distance_within.nd
    exact ⟨_, PSs.nox (pss_one (ps_ret (pe_op op_mod (pe_op op_sub (pe_prop (pv 1) T.cJob T.pJob_start G_Job_start (hr.mono (by decide)) b_Job_start .nil pass0 rfl) (pe_prop (pv 0) T.cJob T.pJob_start G_Job_start (hr.mono (by decide)) b_Job_start .nil pass0 rfl)) (pv 2)))), fun es res vs Hk Q hS a kk => by
      obtain ⟨i, j, d, rfl, rfl, hd⟩ := hS
      exact s_ret a (ev_op (ev_op (ev_prop isJob (ev_var rfl) ⟨_, rfl, rfl⟩) (ev_prop isJob (ev_var rfl) ⟨_, rfl, rfl⟩) rv_sub) (ev_var rfl) (rv_mod (by first | omega | decide | assumption | (have h__ := ‹decide (_ < _) = false›; simp at h__; omega) | (dsimp only; omega) | (simp only [decide_eq_false_iff_not, decide_eq_true_eq, Bool.and_eq_true, Bool.or_eq_false_iff, Bool.not_eq_true] at *; omega)))) kk⟩
def S_keep_apart (K : PySem.W.Frag) : Sig := fun es res => ∃ (i j : Jb) (d : Int), es = [en (rJob K) i, en (rJob K) j, en rInt d] ∧ res = en rBool (keepA i j d) ∧ 0 < d
theorem ok_keep_apart {P : Program} {w : World} {K : PySem.W.Frag} {mg : Str → Option Value} {base : Heap} (T : Tx K mg) : Gd P w K mg base 4 (ga K "keep_apart") ["first", "second", "divisor"] (spS (S_keep_apart K)) := by
  obtain ⟨fd, F⟩ := T.h_keep_apart
  obtain ⟨_, G_distance_within, k_distance_within, b_distance_within⟩ := ok_distance_within (P := P) (w := w) (base := base) T
  obtain ⟨_, G_Job_duration, k_Job_duration, b_Job_duration⟩ := ok_Job_duration (P := P) (w := w) (base := base) T
  refine ⟨fd, ?_, F.kp, F.bindsN fun _ _ _ _ _ _ us hl => match us, hl with | [_, _, _], _ => rfl⟩
  refine fun_ok F sc_keep_apart (fun es res h => ?l) fun cdv A outer s H E hr => ?b
  case l =>
    obtain ⟨i, j, d, rfl, rfl, hd⟩ := h
    all_goals rfl
  case b =>
    have nd : N_keep_apart.Nodup := sc_keep_apart.nd
    exact ⟨_, PSs.nox (pss_cons (ps_set (i := 3) nd rfl (by first | exact Or.inl rfl | exact Or.inr rfl) (pe_call G_distance_within (hr.mono (by decide)) (by rfl) T.mdistance_within k_distance_within b_distance_within .nil pass0 (pa_cons (pv 0) (pa_cons (pv 1) (pa_cons (pv 2) pa_nil)))))
    (pss_one (ps_ret (pe_and (pe_cmpR op_le (pe_prop (pv 0) T.cJob T.pJob_duration G_Job_duration (hr.mono (by decide)) b_Job_duration .nil pass0 rfl) (pv 3) (nomark _)) (pe_one (pe_cmpR op_le (pe_op op_add (pv 3) (pe_prop (pv 1) T.cJob T.pJob_duration G_Job_duration (hr.mono (by decide)) b_Job_duration .nil pass0 rfl)) (pv 2) (nomark _))))))), fun es res vs Hk Q hS a kk => by
      obtain ⟨i, j, d, rfl, rfl, hd⟩ := hS
      refine q_set a (ev_call (ea_cons (ev_var rfl) (ea_cons (ev_var rfl) (ea_cons (ev_var rfl) ea_nil))) ⟨_, _, _, rfl, rfl, by first | omega | decide | assumption | (have h__ := ‹decide (_ < _) = false›; simp at h__; omega) | (dsimp only; omega) | (simp only [decide_eq_false_iff_not, decide_eq_true_eq, Bool.and_eq_true, Bool.or_eq_false_iff, Bool.not_eq_true] at *; omega)⟩) fun σ1 H1 a => ?_
      exact s_ret a (ev_is (ev_and (ev_op (ev_prop isJob (ev_var rfl) ⟨_, rfl, rfl⟩) (ev_var rfl) rv_le) (fun h_ => (ev_op (ev_op (ev_var rfl) (ev_prop isJob (ev_var rfl) ⟨_, rfl, rfl⟩) rv_add) (ev_var rfl) rv_le))) (by simp [keepA])) kk⟩
def S_are_jobs_apart (K : PySem.W.Frag) : Sig := fun es res => ∃ (i j : Jb), es = [en (rJob K) i, en (rJob K) j] ∧ res = en rBool (apartJ i j)
theorem ok_are_jobs_apart {P : Program} {w : World} {K : PySem.W.Frag} {mg : Str → Option Value} {base : Heap} (T : Tx K mg) : Gd P w K mg base 5 (ga K "are_jobs_apart") ["first", "second"] (spS (S_are_jobs_apart K)) := by
  obtain ⟨fd, F⟩ := T.h_are_jobs_apart
  obtain ⟨_, G_Job_period, k_Job_period, b_Job_period⟩ := ok_Job_period (P := P) (w := w) (base := base) T
  obtain ⟨_, G_keep_apart, k_keep_apart, b_keep_apart⟩ := ok_keep_apart (P := P) (w := w) (base := base) T
  refine ⟨fd, ?_, F.kp, F.bindsN fun _ _ _ _ _ _ us hl => match us, hl with | [_, _], _ => rfl⟩
  refine fun_ok F sc_are_jobs_apart (fun es res h => ?l) fun cdv A outer s H E hr => ?b
  case l =>
    obtain ⟨i, j, rfl, rfl⟩ := h
    all_goals rfl
  case b =>
    have nd : N_are_jobs_apart.Nodup := sc_are_jobs_apart.nd
    exact ⟨_, PSs.nox (pss_one (ps_ret (pe_call G_keep_apart (hr.mono (by decide)) (by rfl) T.mkeep_apart k_keep_apart b_keep_apart .nil pass0 (pa_cons (pv 0) (pa_cons (pv 1) (pa_cons (pe_callBfun cr_gcd (by rfl) T.gcd (pa_cons (pe_prop (pv 0) T.cJob T.pJob_period G_Job_period (hr.mono (by decide)) b_Job_period .nil pass0 rfl) (pa_cons (pe_prop (pv 1) T.cJob T.pJob_period G_Job_period (hr.mono (by decide)) b_Job_period .nil pass0 rfl) pa_nil))) pa_nil)))))), fun es res vs Hk Q hS a kk => by
      obtain ⟨i, j, rfl, rfl⟩ := hS
      have hp := gcd_pos i j
      exact s_ret a (ev_call (ea_cons (ev_var rfl) (ea_cons (ev_var rfl) (ea_cons (ev_cb (ea_cons (ev_prop isJob (ev_var rfl) ⟨_, rfl, rfl⟩) (ea_cons (ev_prop isJob (ev_var rfl) ⟨_, rfl, rfl⟩) ea_nil)) rc_gcd) ea_nil))) ⟨_, _, _, rfl, rfl, by first | omega | decide | assumption | (have h__ := ‹decide (_ < _) = false›; simp at h__; omega) | (dsimp only; omega) | (simp only [decide_eq_false_iff_not, decide_eq_true_eq, Bool.and_eq_true, Bool.or_eq_false_iff, Bool.not_eq_true] at *; omega)⟩) kk⟩
def S_Job_rshift (K : PySem.W.Frag) : Sig := fun es res => ∃ (j : Jb) (x : Int) (hx : 0 ≤ x), es = [en (rJob K) j, en rInt x] ∧ res = en (rJob K) (j.shift x)
theorem ok_Job_rshift {P : Program} {w : World} {K : PySem.W.Frag} {mg : Str → Option Value} {base : Heap} (T : Tx K mg) : Gd P w K mg base 5 (ma K (ga K "Job") "__rshift__") ["self", "other"] (spS (S_Job_rshift K)) := by
  obtain ⟨fd, F⟩ := T.h_Job_rshift
  obtain ⟨_, G_is_at_least, k_is_at_least, b_is_at_least⟩ := ok_is_at_least (P := P) (w := w) (base := base) T
  obtain ⟨_, G_Job_init, k_Job_init, b_Job_init⟩ := ok_Job_init (P := P) (w := w) (base := base) T
  refine ⟨fd, ?_, F.kp, F.bindsN fun _ _ _ _ _ _ us hl => match us, hl with | [_, _], _ => rfl⟩
  refine fun_ok F sc_Job_rshift (fun es res h => ?l) fun cdv A outer s H E hr => ?b
  case l =>
    obtain ⟨j, x, hx, rfl, rfl⟩ := h
    all_goals rfl
  case b =>
    have nd : N_Job_rshift.Nodup := sc_Job_rshift.nd
    exact ⟨_, PSs.nox (pss_cons (ps_if (pt_not (pt_val (pe_call G_is_at_least (hr.mono (by decide)) (by rfl) T.mis_at_least k_is_at_least b_is_at_least .nil pass0 (pa_cons (pv 1) (pa_cons pe_int pa_nil))))) (pss_one ps_never) pss_nil)
    (pss_cons (ps_set (i := 2) nd rfl (by first | exact Or.inl rfl | exact Or.inr rfl) (pe_op op_mod (pe_op op_add (pe_fld (pv 0) rfl : PE _ _ (tFld K _ _)) (pv 1)) (pe_fld (pv 0) rfl : PE _ _ (tFld K _ _))))
    (pss_one (ps_ret (pe_makeN T.kJob G_Job_init (hr.mono (by decide)) (by rfl) T.mJob b_Job_init pass0 (pa_cons (pe_fld (pv 0) rfl : PE _ _ (tFld K _ _)) (pa_cons (pe_fld (pv 0) rfl : PE _ _ (tFld K _ _)) pa_nil)) (pk_cons (pv 2) (pk_cons (pe_fld (pv 0) rfl : PE _ _ (tFld K _ _)) pk_nil))))))), fun es res vs Hk Q hS a kk => by
      obtain ⟨j, x, hx, rfl, rfl⟩ := hS
      have hj := j.ok
      refine q_not a (eb_not (eb_val (ev_call (ea_cons (ev_var rfl) (ea_cons ev_int ea_nil)) ⟨_, _, rfl, rfl⟩))) (by simp; omega) fun H1 a => ?_
      refine q_set a (ev_op (ev_op (ev_jobF (ev_var rfl) rfl T.cJob T.nJob_start) (ev_var rfl) rv_add) (ev_jobF (ev_var rfl) rfl T.cJob T.nJob_period) (rv_mod (by first | omega | decide | assumption | (have h__ := ‹decide (_ < _) = false›; simp at h__; omega) | (dsimp only; omega) | (simp only [decide_eq_false_iff_not, decide_eq_true_eq, Bool.and_eq_true, Bool.or_eq_false_iff, Bool.not_eq_true] at *; omega)))) fun σ1 H1 a => ?_
      refine s_ret a (ev_makeN (ea_cons (ev_jobF (ev_var rfl) rfl T.cJob T.nJob_period) (ea_cons (ev_jobF (ev_var rfl) rfl T.cJob T.nJob_duration) ea_nil)) (ea_cons (ev_var rfl) (ea_cons (ev_jobF (ev_var rfl) rfl T.cJob T.nJob_cost) ea_nil)) rfl rfl kgJob ?_) kk
      exact mk_job (j.shift x)⟩
def S_Job_eq (K : PySem.W.Frag) : Sig := fun es res => ∃ (i j : Jb), es = [en (rJob K) i, en (rJob K) j] ∧ res = en rBool (decide (i = j))
theorem ok_Job_eq {P : Program} {w : World} {K : PySem.W.Frag} {mg : Str → Option Value} {base : Heap} (T : Tx K mg) : Gd P w K mg base 1 (ma K (ga K "Job") "__eq__") ["self", "other"] (spS (S_Job_eq K)) := by
  obtain ⟨fd, F⟩ := T.h_Job_eq
  refine ⟨fd, ?_, F.kp, F.bindsN fun _ _ _ _ _ _ us hl => match us, hl with | [_, _], _ => rfl⟩
  refine fun_ok F sc_Job_eq (fun es res h => ?l) fun cdv A outer s H E hr => ?b
  case l =>
    obtain ⟨i, j, rfl, rfl⟩ := h
    all_goals rfl
  case b =>
    have nd : N_Job_eq.Nodup := sc_Job_eq.nd
    exact ⟨_, PSs.nox (pss_one (ps_ret (pe_and (pe_callB (call_isi : CallR _ _ (rIsi K)) (by rfl) T.isinstance (by decide +kernel) (pa_cons (pv 1) (pa_cons (pe_glob (v := .ref (ga K "Job")) (by rfl) T.mJob rfl) pa_nil))) (pe_and (pe_cmpR op_eq (pe_fld (pv 0) rfl : PE _ _ (tFld K _ _)) (pe_fld (pv 1) rfl : PE _ _ (tFld K _ _)) (nomark _)) (pe_and (pe_cmpR op_eq (pe_fld (pv 0) rfl : PE _ _ (tFld K _ _)) (pe_fld (pv 1) rfl : PE _ _ (tFld K _ _)) (nomark _)) (pe_and (pe_cmpR op_eq (pe_fld (pv 0) rfl : PE _ _ (tFld K _ _)) (pe_fld (pv 1) rfl : PE _ _ (tFld K _ _)) (nomark _)) (pe_one (pe_cmpR op_eq (pe_fld (pv 0) rfl : PE _ _ (tFld K _ _)) (pe_fld (pv 1) rfl : PE _ _ (tFld K _ _)) (nomark _))))))))), fun es res vs Hk Q hS a kk => by
      obtain ⟨i, j, rfl, rfl⟩ := hS
      exact s_ret a (ev_eq (ev_and (ev_cb (ea_cons (ev_var rfl) (ea_cons ev_val ea_nil)) (ty_own isJob T.cJob T.iJob)) (fun h_ => (ev_and (ev_op (ev_jobF (ev_var rfl) rfl T.cJob T.nJob_period) (ev_jobF (ev_var rfl) rfl T.cJob T.nJob_period) rv_eqI) (fun h_ => (ev_and (ev_op (ev_jobF (ev_var rfl) rfl T.cJob T.nJob_duration) (ev_jobF (ev_var rfl) rfl T.cJob T.nJob_duration) rv_eqI) (fun h_ => (ev_and (ev_op (ev_jobF (ev_var rfl) rfl T.cJob T.nJob_start) (ev_jobF (ev_var rfl) rfl T.cJob T.nJob_start) rv_eqI) (fun h_ => (ev_op (ev_jobF (ev_var rfl) rfl T.cJob T.nJob_cost) (ev_jobF (ev_var rfl) rfl T.cJob T.nJob_cost) rv_eqI))))))))) (by rw [Bool.true_and]; exact jb_eq i j)) kk⟩
def S_Timetable_rshift (K : PySem.W.Frag) : Sig := fun es res => ∃ (m : List (Str × Jb)) (x : Int), es = [en (rTab K) m, en rInt x] ∧ res = en (rTab K) (laterT m x) ∧ 0 ≤ x
theorem ok_Timetable_rshift {P : Program} {w : World} {K : PySem.W.Frag} {mg : Str → Option Value} {base : Heap} (T : Tx K mg) : Gd P w K mg base 7 (ma K (ga K "Timetable") "__rshift__") ["self", "other"] (spS (S_Timetable_rshift K)) := by
  obtain ⟨fd, F⟩ := T.h_Timetable_rshift
  obtain ⟨_, G_Job_rshift, k_Job_rshift, b_Job_rshift⟩ := ok_Job_rshift (P := P) (w := w) (base := base) T
  obtain ⟨_, G_Timetable_init, k_Timetable_init, b_Timetable_init⟩ := ok_Timetable_init (P := P) (w := w) (base := base) T
  refine ⟨fd, ?_, F.kp, F.bindsN fun _ _ _ _ _ _ us hl => match us, hl with | [_, _], _ => rfl⟩
  refine fun_ok F sc_Timetable_rshift (fun es res h => ?l) fun cdv A outer s H E hr => ?b
  case l =>
    obtain ⟨m, x, rfl, rfl, hx⟩ := h
    all_goals rfl
  case b =>
    have nd : N_Timetable_rshift.Nodup := sc_Timetable_rshift.nd
    exact ⟨_, PSs.nox (pss_one (ps_ret (pe_make T.kTimetable G_Timetable_init (hr.mono (by decide)) (by rfl) T.mTimetable b_Timetable_init .nil pass0 (pa_cons (pe_lk (pe_dc (own := [("name", 2), ("job", 3)]) (by rfl) nd (pi_items (pe_fld (pv 0) rfl : PE _ _ (tFld K _ _))) (blkOk_by (own := [("name", 2), ("job", 3)]) (N := N_Timetable_rshift) (sc := defScope s_Timetable_rshift) (by decide +kernel)) (fun _ _ _ _ _ => (pg_tupK (K := K) (n := 2) rfl rfl (pgs_cons (pg_name (i := 2) nd rfl (by first | exact Or.inl rfl | exact Or.inr rfl)) (pgs_cons (pg_name (i := 3) nd rfl (by first | exact Or.inl rfl | exact Or.inr rfl)) pgs_nil)))) (fun _ _ _ _ _ => pts_nil) (fun _ _ _ _ _ => (pv 2)) (fun _ _ _ _ _ => (pe_op (op_obinI T.bJob_rshift G_Job_rshift (hr.mono (by decide)) b_Job_rshift .nil pass0) (pv 3) (pv 1))))) pa_nil)))), fun es res vs Hk Q hS a kk => by
      obtain ⟨m, x, rfl, rfl, hx⟩ := hS
      have hm := a.tab 0
      have h4 := hm.n4
      refine s_ret a (ev_make (ds := []) (ea_cons (ev_eq (ev_lk (dloc_tabF (i := 0) rfl T.cTimetable T.nTimetable_jobs) (ev_dcX (B := rJob K) _ (fun i => (m.getD i default).1) (fun i => (m.getD i default).2.shift x) (ei_gd (ei_items (K := K))) (by omega) (fun i j h hj => nodup_getD hm.nd h hj) (fun i hi => tg_pairD (by simp) (by simp)) (fun i Ω hi => ev_var rfl) (fun i Ω hi => (ev_op (ev_var rfl) (ev_var rfl) (rv_obinI isJob ⟨_, _, by first | omega | decide | assumption | (have h__ := ‹decide (_ < _) = false›; simp at h__; omega) | (dsimp only; omega) | (simp only [decide_eq_false_iff_not, decide_eq_true_eq, Bool.and_eq_true, Bool.or_eq_false_iff, Bool.not_eq_true] at *; omega), rfl, rfl⟩))))) (y := laterT m x) (range_getD (fun p : Str × Jb => (p.1, p.2.shift x)) m)) ea_nil) ?_) kk
      exact mk_tab (laterT_ok hm)⟩
def S_Timetable_call (K : PySem.W.Frag) : Sig := fun es res => ∃ (m : List (Str × Jb)) (x : Int), es = [en (rTab K) m, en rInt x] ∧ res = en (rList rStr) (runAt m x) ∧ 0 ≤ x
theorem ok_Timetable_call {P : Program} {w : World} {K : PySem.W.Frag} {mg : Str → Option Value} {base : Heap} (T : Tx K mg) : Gd P w K mg base 4 (ma K (ga K "Timetable") "__call__") ["self", "time"] (spS (S_Timetable_call K)) := by
  obtain ⟨fd, F⟩ := T.h_Timetable_call
  obtain ⟨_, G_Job_contains, k_Job_contains, b_Job_contains⟩ := ok_Job_contains (P := P) (w := w) (base := base) T
  refine ⟨fd, ?_, F.kp, F.bindsN fun _ _ _ _ _ _ us hl => match us, hl with | [_, _], _ => rfl⟩
  refine fun_ok F sc_Timetable_call (fun es res h => ?l) fun cdv A outer s H E hr => ?b
  case l =>
    obtain ⟨m, x, rfl, rfl, hx⟩ := h
    all_goals rfl
  case b =>
    have nd : N_Timetable_call.Nodup := sc_Timetable_call.nd
    exact ⟨_, PSs.nox (pss_one (ps_ret (pe_lk (pe_lc (own := [("name", 2), ("job", 3)]) (by rfl) nd (pi_items (pe_fld (pv 0) rfl : PE _ _ (tFld K _ _))) (blkOk_by (own := [("name", 2), ("job", 3)]) (N := N_Timetable_call) (sc := defScope s_Timetable_call) (by decide +kernel)) (fun _ _ _ _ _ => (pg_tupK (K := K) (n := 2) rfl rfl (pgs_cons (pg_name (i := 2) nd rfl (by first | exact Or.inl rfl | exact Or.inr rfl)) (pgs_cons (pg_name (i := 3) nd rfl (by first | exact Or.inl rfl | exact Or.inr rfl)) pgs_nil)))) (fun _ _ _ _ _ => pts_one (pt_cmpR (op_oin T.dJob_contains G_Job_contains (hr.mono (by decide)) b_Job_contains .nil pass0) (pv 1) (pv 3) rfl)) (fun _ _ _ _ _ => (pv 2)))))), fun es res vs Hk Q hS a kk => by
      obtain ⟨m, x, rfl, rfl, hx⟩ := hS
      have hm := a.tab 0
      have h4 := hm.n4
      exact s_ret a (ev_eq (ev_lk (dloc_tabF (i := 0) rfl T.cTimetable T.nTimetable_jobs) (ev_lcX (B := rStr) _ (fun i => runs (m.getD i default).2 x) (fun i => (m.getD i default).1) (ei_gd (ei_items (K := K))) (by omega) (fun i hi => tg_pairD (by simp) (by simp)) (fun i Ω hi => (eb_cmp (ev_op (ev_var rfl) (ev_var rfl) (rv_oin isJob ⟨_, _, rfl, rfl, by first | omega | decide | assumption | (have h__ := ‹decide (_ < _) = false›; simp at h__; omega) | (dsimp only; omega) | (simp only [decide_eq_false_iff_not, decide_eq_true_eq, Bool.and_eq_true, Bool.or_eq_false_iff, Bool.not_eq_true] at *; omega)⟩)))) (fun i Ω hi _ => ev_var rfl))) (given_getD (fun p : Str × Jb => runs p.2 x) (fun p => p.1) m)) kk⟩
def S_Timetable_eq (K : PySem.W.Frag) : Sig := fun es res => ∃ (m l : List (Str × Jb)), es = [en (rTab K) m, en (rTab K) l] ∧ res = en rBool (decide (m = l))
theorem ok_Timetable_eq {P : Program} {w : World} {K : PySem.W.Frag} {mg : Str → Option Value} {base : Heap} (T : Tx K mg) : Gd P w K mg base 5 (ma K (ga K "Timetable") "__eq__") ["self", "other"] (spS (S_Timetable_eq K)) := by
  obtain ⟨fd, F⟩ := T.h_Timetable_eq
  obtain ⟨_, G_Job_eq, k_Job_eq, b_Job_eq⟩ := ok_Job_eq (P := P) (w := w) (base := base) T
  refine ⟨fd, ?_, F.kp, F.bindsN fun _ _ _ _ _ _ us hl => match us, hl with | [_, _], _ => rfl⟩
  refine fun_ok F sc_Timetable_eq (fun es res h => ?l) fun cdv A outer s H E hr => ?b
  case l =>
    obtain ⟨m, l, rfl, rfl⟩ := h
    all_goals rfl
  case b =>
    have nd : N_Timetable_eq.Nodup := sc_Timetable_eq.nd
    exact ⟨_, PSs.nox (pss_one (ps_ret (pe_and (pe_callB (call_isi : CallR _ _ (rIsi K)) (by rfl) T.isinstance (by decide +kernel) (pa_cons (pv 1) (pa_cons (pe_glob (v := .ref (ga K "Timetable")) (by rfl) T.mTimetable rfl) pa_nil))) (pe_one (pe_cmpR (op_eqK (rcK_list ((rcK_pair rfl ((eqK_str (X := _)).mono (Nat.zero_le _)) ((rcK_own (fun _ => isJob) job_fn T.dJob_eq G_Job_eq (fun i j => ⟨i, j, rfl, rfl⟩) b_Job_eq pass0).eqK)).eqK)) (hr.mono (by decide)) : OpR _ _ (rEqK _)) (pe_listIts (by rfl) (pe_fld (pv 0) rfl : PE _ _ (tFld K _ _)) (by rfl) T.list) (pe_listIts (by rfl) (pe_fld (pv 1) rfl : PE _ _ (tFld K _ _)) (by rfl) T.list) (nomark _)))))), fun es res vs Hk Q hS a kk => by
      obtain ⟨m, l, rfl, rfl⟩ := hS
      exact s_ret a (ev_eq (ev_and (ev_cb (ea_cons (ev_var rfl) (ea_cons ev_val ea_nil)) (ty_own isTab T.cTimetable T.iTimetable)) (fun h_ => (ev_op (ev_listIts (K := K) (ev_tabF (ev_var rfl) T.cTimetable T.nTimetable_jobs)) (ev_listIts (K := K) (ev_tabF (ev_var rfl) T.cTimetable T.nTimetable_jobs)) rv_eqK))) (by simp)) kk⟩
def S__law_cell_at (K : PySem.W.Frag) : Sig := fun es res => ∃ (ns : List Int) (k : Int), es = [en (rScr K) ns, en rInt k] ∧ res = en rInt (cellAt ns k) ∧ 0 ≤ k
theorem ok__law_cell_at {P : Program} {w : World} {K : PySem.W.Frag} {mg : Str → Option Value} {base : Heap} (T : Tx K mg) : Gd P w K mg base 1 (ga K "_law_cell_at") ["_law_script", "_law_k"] (spS (S__law_cell_at K)) := by
  obtain ⟨fd, F⟩ := T.h__law_cell_at
  refine ⟨fd, ?_, F.kp, F.bindsN fun _ _ _ _ _ _ us hl => match us, hl with | [_, _], _ => rfl⟩
  refine fun_ok F sc__law_cell_at (fun es res h => ?l) fun cdv A outer s H E hr => ?b
  case l =>
    obtain ⟨ns, k, rfl, rfl, hk⟩ := h
    all_goals rfl
  case b =>
    have nd : N__law_cell_at.Nodup := sc__law_cell_at.nd
    exact ⟨_, PSs.nox (pss_cons (ps_if (pt_cmpR op_lt (pv 1) (pe_callB (call_len_seq : CallR _ _ (rLenQ K)) (by rfl) T.len boot_len (pa_cons (pv 0) pa_nil)) (nomark _)) (pss_one (ps_ret (pe_ix (ix_list : IxR _ (rIxL K)) (pv 0) (pv 1) (fun _ _ => rfl)))) pss_nil)
    (pss_one (ps_ret pe_int))), fun es res vs Hk Q hS a kk => by
      obtain ⟨ns, k, rfl, rfl, hk⟩ := hS
      refine q_when a (eb_cmp (ev_op (ev_var rfl) (ev_cb (ea_cons (ev_var rfl) ea_nil) rc_lenScr) rv_lt)) (fun h H1 a => ?_) (fun h H1 a => ?_)
      · have h : k.toNat < ns.length := by simp at h; omega
        exact s_ret a (ev_op (ev_var rfl) (ev_var rfl) (rv_ixScr hk (by unfold cellAt; rw [List.getD_eq_getElem?_getD, List.getElem?_eq_getElem h]; rfl))) kk
      · refine s_ret a (ev_eq ev_int ?_) kk
        unfold cellAt
        simp at h
        rw [List.getD_eq_getElem?_getD, List.getElem?_eq_none (by omega)]
        rfl⟩
def S__law_draw (K : PySem.W.Frag) : Sig := fun es res => ∃ (c k b : Int), es = [en rInt c, en rInt k, en rInt b] ∧ res = en rInt (drawV c k b) ∧ 0 < b
theorem ok__law_draw {P : Program} {w : World} {K : PySem.W.Frag} {mg : Str → Option Value} {base : Heap} (T : Tx K mg) : Gd P w K mg base 1 (ga K "_law_draw") ["_law_cell", "_law_k", "_law_below"] (spS (S__law_draw K)) := by
  obtain ⟨fd, F⟩ := T.h__law_draw
  refine ⟨fd, ?_, F.kp, F.bindsN fun _ _ _ _ _ _ us hl => match us, hl with | [_, _, _], _ => rfl⟩
  refine fun_ok F sc__law_draw (fun es res h => ?l) fun cdv A outer s H E hr => ?b
  case l =>
    obtain ⟨c, k, b, rfl, rfl, hb⟩ := h
    all_goals rfl
  case b =>
    have nd : N__law_draw.Nodup := sc__law_draw.nd
    exact ⟨_, PSs.nox (pss_cons (ps_set (i := 3) nd rfl (by first | exact Or.inl rfl | exact Or.inr rfl) (pe_tup (pa_cons pe_int (pa_cons pe_int (pa_cons pe_int (pa_cons pe_int (pa_cons pe_int (pa_cons pe_int (pa_cons pe_int (pa_cons pe_int (pa_cons pe_int (pa_cons pe_int (pa_cons pe_int (pa_cons pe_int (pa_cons pe_int (pa_cons pe_int (pa_cons pe_int (pa_cons pe_int pa_nil))))))))))))))))))
    (pss_one (ps_ret (pe_op op_mod (pe_op op_mod (pe_op op_add (pe_op op_mul (pv 0) pe_int) (pe_op op_mul (pv 1) pe_int)) (pe_ix (ix_tup : IxR _ (rIxT K)) (pv 3) (pe_op op_mod (pv 1) pe_int) (fun _ _ => rfl))) (pv 2))))), fun es res vs Hk Q hS a kk => by
      obtain ⟨c, k, b, rfl, rfl, hb⟩ := hS
      have hk : (k % 16).toNat < 16 := by omega
      have hk0 : 0 ≤ k % 16 := by omega
      have hp := prime_pos _ hk
      refine q_set a (ev_tupl (K := K) primesV (ea_cons ev_int (ea_cons ev_int (ea_cons ev_int (ea_cons ev_int (ea_cons ev_int (ea_cons ev_int (ea_cons ev_int (ea_cons ev_int (ea_cons ev_int (ea_cons ev_int (ea_cons ev_int (ea_cons ev_int (ea_cons ev_int (ea_cons ev_int (ea_cons ev_int (ea_cons ev_int ea_nil))))))))))))))))) fun σ1 H1 a => ?_
      exact s_ret a (ev_op (ev_op (ev_op (ev_op (ev_var rfl) ev_int (rv_mul (.inr ⟨by omega, by omega⟩))) (ev_op (ev_var rfl) ev_int (rv_mul (.inr ⟨by omega, by omega⟩))) rv_add) (ev_op (ev_var rfl) (ev_op (ev_var rfl) ev_int (rv_mod (by omega))) (rv_ixT hk0 (x := primesV.getD (k % 16).toNat 1) (by rw [List.getD_eq_getElem?_getD, List.getElem?_eq_getElem (show (k % 16).toNat < primesV.length from hk)]; rfl))) (rv_mod hp)) (ev_var rfl) (rv_mod hb)) kk⟩
def S__law_number (K : PySem.W.Frag) : Sig := fun es res => ∃ (c k b : Int), es = [en rInt c, en rInt k, en rInt b] ∧ res = en rInt (numV c k b) ∧ 0 < b ∧ 0 ≤ k ∧ k ≤ 1000
theorem ok__law_number {P : Program} {w : World} {K : PySem.W.Frag} {mg : Str → Option Value} {base : Heap} (T : Tx K mg) : Gd P w K mg base 2 (ga K "_law_number") ["_law_cell", "_law_k", "_law_below"] (spS (S__law_number K)) := by
  obtain ⟨fd, F⟩ := T.h__law_number
  obtain ⟨_, G__law_draw, k__law_draw, b__law_draw⟩ := ok__law_draw (P := P) (w := w) (base := base) T
  refine ⟨fd, ?_, F.kp, F.bindsN fun _ _ _ _ _ _ us hl => match us, hl with | [_, _, _], _ => rfl⟩
  refine fun_ok F sc__law_number (fun es res h => ?l) fun cdv A outer s H E hr => ?b
  case l =>
    obtain ⟨c, k, b, rfl, rfl, hb, hk0, hk1⟩ := h
    all_goals rfl
  case b =>
    have nd : N__law_number.Nodup := sc__law_number.nd
    exact ⟨_, PSs.nox (pss_cons (ps_set (i := 3) nd rfl (by first | exact Or.inl rfl | exact Or.inr rfl) pe_int)
    (pss_cons (ps_for PassesOwn.never rfl (pi_range1 (by rfl) T.range (pa_cons (pe_op op_mod (pv 1) pe_int) pa_nil)) (pg_name (i := 4) nd rfl (by first | exact Or.inl rfl | exact Or.inr rfl))
    (pss_one (ps_set (i := 3) nd rfl (by first | exact Or.inl rfl | exact Or.inr rfl) (pe_op op_mul (pv 3) pe_int))))
    (pss_cons (ps_set (i := 5) nd rfl (by first | exact Or.inl rfl | exact Or.inr rfl) (pe_op op_fdivW (pe_op op_sub (pv 0) (pe_op op_pow pe_int pe_int)) (pv 3)))
    (pss_cons (ps_if (pt_cmpR op_gt (pv 5) pe_int (nomark _)) (pss_one (ps_ret (pe_op op_mod (pe_op op_mod (pv 5) pe_int) (pv 2)))) pss_nil)
    (pss_cons (ps_set (i := 6) nd rfl (by first | exact Or.inl rfl | exact Or.inr rfl) (pe_op op_mod (pv 0) pe_int))
    (pss_one (ps_ret (pe_op op_mod (pe_call G__law_draw (hr.mono (by decide)) (by rfl) T.m_law_draw k__law_draw b__law_draw .nil pass0 (pa_cons (pe_op op_mul (pe_op op_add (pv 6) (pe_op op_mul pe_int (pv 1))) (pe_op op_add (pe_op op_add (pv 6) (pe_op op_mul pe_int (pv 1))) pe_int)) (pa_cons (pe_op op_add (pe_op op_mod (pv 1) pe_int) pe_int) (pa_cons pe_int pa_nil)))) (pv 2))))))))), fun es res vs Hk Q hS a kk => by
      obtain ⟨c, k, b, rfl, rfl, hb, hk0, hk1⟩ := hS
      refine q_set a ev_int fun σ1 H1 a => ?_
      have hn : (k % 24).toNat < 24 := by omega
      refine q_for (fun i => [some (en rInt c), some (en rInt k), some (en rInt b), some (en rInt (1009 ^ i)), none, none, none]) (fun _ => []) (fun _ => True) a (ei_rng1 (k := k % 24) (ea_cons (ev_op (ev_var rfl) ev_int (rv_mod (by first | omega | decide | assumption | (have h__ := ‹decide (_ < _) = false›; simp at h__; omega) | (dsimp only; omega) | (simp only [decide_eq_false_iff_not, decide_eq_true_eq, Bool.and_eq_true, Bool.or_eq_false_iff, Bool.not_eq_true] at *; omega)))) ea_nil) (by omega)) ⟨True.intro, fun _ _ _ a => a⟩ (fun T1 t σ1 H1 ht hb a => ?_) (fun _ σ1 H1 a => ?_)
      · exact s_set a (ev_eq (ev_op (ev_var rfl) ev_int (rv_mul (by first | exact Or.inl ⟨by omega, by omega⟩ | exact Or.inr ⟨by omega, by omega⟩))) (Int.pow_succ ..).symm) fun σ2 H2 a => ⟨True.intro, a.off 4⟩
      have hw := pow_log _ hn
      refine q_set a (ev_eq (ev_op (ev_op (ev_var rfl) (ev_op ev_int ev_int (rv_pow ⟨by decide, by decide, by decide⟩)) rv_sub) (ev_var rfl) (rv_divW ⟨hw.1, hw.2⟩)) (y := (c - 1000000000000000000) / 1009 ^ (k % 24).toNat) rfl) fun σ1 H1 a => ?_
      refine q_when a (eb_cmp (ev_op (ev_var rfl) ev_int rv_gt)) (fun h H1 a => ?_) (fun h H1 a => ?_)
      · refine s_ret a (ev_eq (ev_op (ev_op (ev_var rfl) ev_int (rv_mod (by first | omega | decide | assumption | (have h__ := ‹decide (_ < _) = false›; simp at h__; omega) | (dsimp only; omega) | (simp only [decide_eq_false_iff_not, decide_eq_true_eq, Bool.and_eq_true, Bool.or_eq_false_iff, Bool.not_eq_true] at *; omega)))) (ev_var rfl) (rv_mod (by first | omega | decide | assumption | (have h__ := ‹decide (_ < _) = false›; simp at h__; omega) | (dsimp only; omega) | (simp only [decide_eq_false_iff_not, decide_eq_true_eq, Bool.and_eq_true, Bool.or_eq_false_iff, Bool.not_eq_true] at *; omega)))) ?_) kk
        unfold numV
        rw [if_pos (by simpa using h)]
      refine q_set a (ev_op (ev_var rfl) ev_int (rv_mod (by first | omega | decide | assumption | (have h__ := ‹decide (_ < _) = false›; simp at h__; omega) | (dsimp only; omega) | (simp only [decide_eq_false_iff_not, decide_eq_true_eq, Bool.and_eq_true, Bool.or_eq_false_iff, Bool.not_eq_true] at *; omega)))) fun σ1 H1 a => ?_
      have h3 : 0 ≤ c % 1000003 ∧ c % 1000003 < 1000003 := ⟨Int.emod_nonneg _ (by decide), Int.emod_lt_of_pos _ (by decide)⟩
      have h4 : 0 ≤ k % 9 := Int.emod_nonneg _ (by decide)
      refine s_ret a (ev_eq (ev_op (ev_call (ea_cons (ev_op (ev_op (ev_var rfl) (ev_op ev_int (ev_var rfl) (rv_mul (by first | exact Or.inl ⟨by omega, by omega⟩ | exact Or.inr ⟨by omega, by omega⟩))) rv_add) (ev_op (ev_op (ev_var rfl) (ev_op ev_int (ev_var rfl) (rv_mul (by first | exact Or.inl ⟨by omega, by omega⟩ | exact Or.inr ⟨by omega, by omega⟩))) rv_add) ev_int rv_add) (rv_mul (by first | exact Or.inl ⟨by omega, by omega⟩ | exact Or.inr ⟨by omega, by omega⟩))) (ea_cons (ev_op (ev_op (ev_var rfl) ev_int (rv_mod (by first | omega | decide | assumption | (have h__ := ‹decide (_ < _) = false›; simp at h__; omega) | (dsimp only; omega) | (simp only [decide_eq_false_iff_not, decide_eq_true_eq, Bool.and_eq_true, Bool.or_eq_false_iff, Bool.not_eq_true] at *; omega)))) ev_int rv_add) (ea_cons ev_int ea_nil))) ⟨_, _, _, rfl, rfl, by first | omega | decide | assumption | (have h__ := ‹decide (_ < _) = false›; simp at h__; omega) | (dsimp only; omega) | (simp only [decide_eq_false_iff_not, decide_eq_true_eq, Bool.and_eq_true, Bool.or_eq_false_iff, Bool.not_eq_true] at *; omega)⟩) (ev_var rfl) (rv_mod (by first | omega | decide | assumption | (have h__ := ‹decide (_ < _) = false›; simp at h__; omega) | (dsimp only; omega) | (simp only [decide_eq_false_iff_not, decide_eq_true_eq, Bool.and_eq_true, Bool.or_eq_false_iff, Bool.not_eq_true] at *; omega)))) ?_) kk
      unfold numV
      rw [if_neg (by simpa using h)]⟩
def S__law_next (K : PySem.W.Frag) : SigM := fun es Ω res Ω' => ∃ (p : Addr) (ns : List Int) (y c b : Int), es = [en rVal (.ref p), en rInt b] ∧ Ω = [stq K p ns y c] ∧ res = en rInt (nextV ns y c b) ∧ Ω' = [stq K p ns y (c + 1)] ∧ 0 < b ∧ 0 ≤ y ∧ 0 ≤ c
theorem ok__law_next {P : Program} {w : World} {K : PySem.W.Frag} {mg : Str → Option Value} {base : Heap} (T : Tx K mg) : Gd P w K mg base 3 (ga K "_law_next") ["_law_state", "_law_below"] (spM (S__law_next K)) := by
  obtain ⟨fd, F⟩ := T.h__law_next
  obtain ⟨_, G__law_cell_at, k__law_cell_at, b__law_cell_at⟩ := ok__law_cell_at (P := P) (w := w) (base := base) T
  obtain ⟨_, G__law_number, k__law_number, b__law_number⟩ := ok__law_number (P := P) (w := w) (base := base) T
  refine ⟨fd, ?_, F.kp, F.bindsN fun _ _ _ _ _ _ us hl => match us, hl with | [_, _], _ => rfl⟩
  refine fun_okM F sc__law_next (fun es Ω res Ω' h => ?l) fun cdv A outer s H E hr => ?b
  case l =>
    obtain ⟨p, ns, y, c, b, rfl, rfl, rfl, rfl, hb, hy, hc⟩ := h
    all_goals rfl
  case b =>
    have nd : N__law_next.Nodup := sc__law_next.nd
    exact ⟨_, PSs.nox (pss_cons (ps_asg (pe_op op_add (pe_ix (ix_list : IxR _ (rIxL K)) (pv 0) pe_int (fun _ _ => rfl)) pe_int) (pg_sub (pv 0) pe_int set_list))
    (pss_cons (ps_set (i := 2) nd rfl (by first | exact Or.inl rfl | exact Or.inr rfl) (pe_op op_fdiv (pe_ix (ix_list : IxR _ (rIxL K)) (pv 0) pe_int (fun _ _ => rfl)) pe_int))
    (pss_cons (ps_set (i := 3) nd rfl (by first | exact Or.inl rfl | exact Or.inr rfl) (pe_op op_add (pe_call G__law_cell_at (hr.mono (by decide)) (by rfl) T.m_law_cell_at k__law_cell_at b__law_cell_at .nil pass0 (pa_cons (pe_ix (ix_list : IxR _ (rIxL K)) (pv 0) pe_int (fun _ _ => rfl)) (pa_cons (pe_op op_add (pe_ix (ix_list : IxR _ (rIxL K)) (pv 0) pe_int (fun _ _ => rfl)) (pv 2)) pa_nil))) (pe_op op_mul pe_int (pv 2))))
    (pss_one (ps_ret (pe_call G__law_number (hr.mono (by decide)) (by rfl) T.m_law_number k__law_number b__law_number .nil pass0 (pa_cons (pv 3) (pa_cons (pe_op op_add (pe_op op_mod (pe_ix (ix_list : IxR _ (rIxL K)) (pv 0) pe_int (fun _ _ => rfl)) pe_int) pe_int) (pa_cons (pv 1) pa_nil))))))))), fun es Ω res Ω' vs Hk Q hS a kk => by
      obtain ⟨p, ns, y, c, b, rfl, rfl, rfl, rfl, hb, hy, hc⟩ := hS
      refine q_setC a rfl (ev_op (ev_ixC rfl ev_int (by decide) rfl) ev_int rv_add) ev_int (by decide) (show 2 < 3 by decide) fun H1 a => ?_
      have a : At (adr [stq K p ns y c]) Hk H _ [stq K p ns y (c + 1)] [] _ H1 := a
      have hm : 0 ≤ (c + 1) % 12 ∧ (c + 1) % 12 < 12 := ⟨Int.emod_nonneg _ (by decide), Int.emod_lt_of_pos _ (by decide)⟩
      refine q_set a (ev_op (ev_ixC rfl ev_int (by decide) rfl) ev_int (rv_div (by first | omega | decide | assumption | (have h__ := ‹decide (_ < _) = false›; simp at h__; omega) | (dsimp only; omega) | (simp only [decide_eq_false_iff_not, decide_eq_true_eq, Bool.and_eq_true, Bool.or_eq_false_iff, Bool.not_eq_true] at *; omega)))) fun σ1 H1 a => ?_
      refine q_set a (ev_op (ev_call (ea_cons (ev_ixC rfl ev_int (by decide) rfl) (ea_cons (ev_op (ev_ixC rfl ev_int (by decide) rfl) (ev_var rfl) rv_add) ea_nil)) ⟨_, _, rfl, rfl, by first | omega | decide | assumption | (have h__ := ‹decide (_ < _) = false›; simp at h__; omega) | (dsimp only; omega) | (simp only [decide_eq_false_iff_not, decide_eq_true_eq, Bool.and_eq_true, Bool.or_eq_false_iff, Bool.not_eq_true] at *; omega)⟩) (ev_op ev_int (ev_var rfl) (rv_mul (by first | exact Or.inl ⟨by omega, by omega⟩ | exact Or.inr ⟨by omega, by omega⟩))) rv_add) fun σ1 H1 a => ?_
      exact s_ret a (ev_call (ea_cons (ev_var rfl) (ea_cons (ev_op (ev_op (ev_ixC rfl ev_int (by decide) rfl) ev_int (rv_mod (by first | omega | decide | assumption | (have h__ := ‹decide (_ < _) = false›; simp at h__; omega) | (dsimp only; omega) | (simp only [decide_eq_false_iff_not, decide_eq_true_eq, Bool.and_eq_true, Bool.or_eq_false_iff, Bool.not_eq_true] at *; omega)))) ev_int rv_add) (ea_cons (ev_var rfl) ea_nil))) ⟨_, _, _, rfl, rfl, by first | omega | decide | assumption | (have h__ := ‹decide (_ < _) = false›; simp at h__; omega) | (dsimp only; omega) | (simp only [decide_eq_false_iff_not, decide_eq_true_eq, Bool.and_eq_true, Bool.or_eq_false_iff, Bool.not_eq_true] at *; omega), by first | omega | decide | assumption | (have h__ := ‹decide (_ < _) = false›; simp at h__; omega) | (dsimp only; omega) | (simp only [decide_eq_false_iff_not, decide_eq_true_eq, Bool.and_eq_true, Bool.or_eq_false_iff, Bool.not_eq_true] at *; omega), by first | omega | decide | assumption | (have h__ := ‹decide (_ < _) = false›; simp at h__; omega) | (dsimp only; omega) | (simp only [decide_eq_false_iff_not, decide_eq_true_eq, Bool.and_eq_true, Bool.or_eq_false_iff, Bool.not_eq_true] at *; omega)⟩) kk⟩
def S__law_pick (K : PySem.W.Frag) : SigM := fun es Ω res Ω' => ∃ (p : Addr) (ns : List Int) (y c : Int) (α : Type) (d : α) (A : Rp α) (xs : List α), es = [en rVal (.ref p), en (rList A) xs] ∧ Ω = [stq K p ns y c] ∧ res = en A (xs.getD (nextV ns y c xs.length).toNat d) ∧ Ω' = [stq K p ns y (c + 1)] ∧ 0 < xs.length ∧ 0 ≤ y ∧ 0 ≤ c
theorem ok__law_pick {P : Program} {w : World} {K : PySem.W.Frag} {mg : Str → Option Value} {base : Heap} (T : Tx K mg) : Gd P w K mg base 4 (ga K "_law_pick") ["_law_state", "_law_things"] (spM (S__law_pick K)) := by
  obtain ⟨fd, F⟩ := T.h__law_pick
  obtain ⟨_, G__law_next, k__law_next, b__law_next⟩ := ok__law_next (P := P) (w := w) (base := base) T
  refine ⟨fd, ?_, F.kp, F.bindsN fun _ _ _ _ _ _ us hl => match us, hl with | [_, _], _ => rfl⟩
  refine fun_okM F sc__law_pick (fun es Ω res Ω' h => ?l) fun cdv A outer s H E hr => ?b
  case l =>
    obtain ⟨p, ns, y, c, α, d, A, xs, rfl, rfl, rfl, rfl, hb, hy, hc⟩ := h
    all_goals rfl
  case b =>
    have nd : N__law_pick.Nodup := sc__law_pick.nd
    exact ⟨_, PSs.nox (pss_one (ps_ret (pe_ix (ix_list : IxR _ (rIxL K)) (pv 1) (pe_call G__law_next (hr.mono (by decide)) (by rfl) T.m_law_next k__law_next b__law_next .nil pass0 (pa_cons (pv 0) (pa_cons (pe_callB (call_len_seq : CallR _ _ (rLenQ K)) (by rfl) T.len boot_len (pa_cons (pv 1) pa_nil)) pa_nil))) (fun _ _ => rfl)))), fun es Ω res Ω' vs Hk Q hS a kk => by
      obtain ⟨p, ns, y, c, α, d, A, xs, rfl, rfl, rfl, rfl, hb, hy, hc⟩ := hS
      have hz : (0 : Int) < (xs.length : Int) := by omega
      have hn := nextV_bd (ns := ns) (y := y) (c := c) hz
      exact s_ret a (ev_op (ev_var rfl) (ev_callM (Ω1 := [stq K _ _ _ _]) (ea_cons (ev_var rfl) (ea_cons (ev_cb (ea_cons (ev_var rfl) ea_nil) rc_lenL) ea_nil)) ⟨_, _, _, _, _, rfl, rfl, rfl, rfl, by first | omega | decide | assumption | (have h__ := ‹decide (_ < _) = false›; simp at h__; omega) | (dsimp only; omega) | (simp only [decide_eq_false_iff_not, decide_eq_true_eq, Bool.and_eq_true, Bool.or_eq_false_iff, Bool.not_eq_true] at *; omega), by first | omega | decide | assumption | (have h__ := ‹decide (_ < _) = false›; simp at h__; omega) | (dsimp only; omega) | (simp only [decide_eq_false_iff_not, decide_eq_true_eq, Bool.and_eq_true, Bool.or_eq_false_iff, Bool.not_eq_true] at *; omega), by first | omega | decide | assumption | (have h__ := ‹decide (_ < _) = false›; simp at h__; omega) | (dsimp only; omega) | (simp only [decide_eq_false_iff_not, decide_eq_true_eq, Bool.and_eq_true, Bool.or_eq_false_iff, Bool.not_eq_true] at *; omega)⟩ (by simp [adr, stq, lm, lc])) (rv_ixL hn.1 (by rw [List.getD_eq_getElem?_getD, List.getElem?_eq_getElem (show (nextV ns y c xs.length).toNat < xs.length by omega)]; rfl))) kk⟩
def S__law_drawn (K : PySem.W.Frag) : SigW := fun es Ω R => ∃ (p : Addr) (ns : List Int) (y c most : Int), es = [en rVal (.ref p), en rInt most] ∧ Ω = [stq K p ns y c] ∧ R = (fun e Ω' => ∃ (m : List (Str × Jb)) (c' : Int), e = en (rDict (rRow K)) m ∧ Ω' = [stq K p ns y c'] ∧ 0 ≤ c' ∧ TbOk m) ∧ 0 ≤ y ∧ 0 ≤ c ∧ 1 ≤ most ∧ most ≤ 2000
theorem ok__law_drawn {P : Program} {w : World} {K : PySem.W.Frag} {mg : Str → Option Value} {base : Heap} (T : Tx K mg) : Gd P w K mg base 5 (ga K "_law_drawn") ["_law_state", "_law_most"] (spW (S__law_drawn K)) := by
  obtain ⟨fd, F⟩ := T.h__law_drawn
  obtain ⟨_, G__law_next, k__law_next, b__law_next⟩ := ok__law_next (P := P) (w := w) (base := base) T
  obtain ⟨_, G__law_pick, k__law_pick, b__law_pick⟩ := ok__law_pick (P := P) (w := w) (base := base) T
  refine ⟨fd, ?_, F.kp, F.bindsN fun _ _ _ _ _ _ us hl => match us, hl with | [_, _], _ => rfl⟩
  refine fun_okW F sc__law_drawn (fun es Ω R h => ?l) fun cdv A outer s H E hr => ?b
  case l =>
    obtain ⟨p, ns, y, c, most, rfl, rfl, rfl, hy, hc, hm1, hm2⟩ := h
    all_goals rfl
  case b =>
    have nd : N__law_drawn.Nodup := sc__law_drawn.nd
    exact ⟨_, PSs.nox (pss_cons (ps_par (i := 2) (j := 3) (by rfl) nd rfl rfl (by decide) rfl rfl (pa_cons pe_dnewK (pa_cons pe_int pa_nil)) (by rfl))
    (pss_cons (ps_for PassesOwn.never rfl (pi_list (pe_slice (sl_list : SlR _ (rSlL K)) (pe_lst (pa_cons pe_str (pa_cons pe_str (pa_cons pe_str (pa_cons pe_str pa_nil))))) po_none (po_some (pe_op op_add pe_int (pe_call G__law_next (hr.mono (by decide)) (by rfl) T.m_law_next k__law_next b__law_next .nil pass0 (pa_cons (pv 0) (pa_cons pe_int pa_nil)))))) : PI _ _ _ (iList K _)) (pg_name (i := 4) nd rfl (by first | exact Or.inl rfl | exact Or.inr rfl))
    (pss_cons (ps_set (i := 5) nd rfl (by first | exact Or.inl rfl | exact Or.inr rfl) (pe_call G__law_pick (hr.mono (by decide)) (by rfl) T.m_law_pick k__law_pick b__law_pick .nil pass0 (pa_cons (pv 0) (pa_cons (pe_lst (pa_cons pe_int (pa_cons pe_int (pa_cons pe_int (pa_cons pe_int (pa_cons pe_int (pa_cons pe_int (pa_cons pe_int (pa_cons (pe_op op_add pe_int (pe_call G__law_next (hr.mono (by decide)) (by rfl) T.m_law_next k__law_next b__law_next .nil pass0 (pa_cons (pv 0) (pa_cons pe_int pa_nil)))) (pa_cons pe_int (pa_cons pe_int pa_nil))))))))))) pa_nil))))
    (pss_cons (ps_while PassesOwn.never (pt_cmpR op_gt (pe_op op_mul (pv 3) (pv 5)) (pv 1) (nomark _)) (pss_cons (ps_set (i := 5) nd rfl (by first | exact Or.inl rfl | exact Or.inr rfl) (pe_ifExp (pt_cmpR op_gt (pv 5) pe_int (nomark _)) (pe_op op_add pe_int (pe_op op_fdiv (pv 5) pe_int)) pe_int))
    (pss_one (ps_if (pt_cmpR op_gt (pe_op op_mul (pv 3) (pv 5)) (pv 1) (nomark _)) (pss_one (ps_set (i := 5) nd rfl (by first | exact Or.inl rfl | exact Or.inr rfl) pe_int)) pss_nil))))
    (pss_cons (ps_set (i := 3) nd rfl (by first | exact Or.inl rfl | exact Or.inr rfl) (pe_op op_mul (pv 3) (pv 5)))
    (pss_cons (ps_set (i := 6) nd rfl (by first | exact Or.inl rfl | exact Or.inr rfl) (pe_op op_add pe_int (pe_ifExp (pt_cmpR op_eq (pe_call G__law_next (hr.mono (by decide)) (by rfl) T.m_law_next k__law_next b__law_next .nil pass0 (pa_cons (pv 0) (pa_cons pe_int pa_nil))) pe_int (nomark _)) (pe_call G__law_next (hr.mono (by decide)) (by rfl) T.m_law_next k__law_next b__law_next .nil pass0 (pa_cons (pv 0) (pa_cons (pv 5) pa_nil))) pe_int)))
    (pss_one (ps_dput (runits1 hr) (pv 2) (pv 4) (pe_tup (pa_cons (pv 5) (pa_cons (pv 6) (pa_cons (pe_call G__law_next (hr.mono (by decide)) (by rfl) T.m_law_next k__law_next b__law_next .nil pass0 (pa_cons (pv 0) (pa_cons (pv 5) pa_nil))) (pa_cons (pe_op op_add pe_int (pe_call G__law_next (hr.mono (by decide)) (by rfl) T.m_law_next k__law_next b__law_next .nil pass0 (pa_cons (pv 0) (pa_cons pe_int pa_nil)))) pa_nil))))) rfl)))))))
    (pss_one (ps_ret (pv 2))))), fun es Ω R vs Hk Q hS a kk => by
      obtain ⟨p, ns, y, c, most, rfl, rfl, rfl, hy, hc, hm1, hm2⟩ := hS
      refine q_parD a (rRow K) (fun Ω => ev_int) fun d σ1 H1 hd a => ?_
      have a := a.swap
      have hn4 := nextV_bd (ns := ns) (y := y) (c := c) (below := 4) (by decide)
      have hnl : (nms4.take (1 + nextV ns y c 4).toNat).length = (1 + nextV ns y c 4).toNat := by rw [List.length_take, show nms4.length = 4 from rfl]; omega
      refine q_forG (ι := DrI) (vars := [4]) (fun i u => [some (en rVal (.ref p)), some (en rInt most), some (en rVal (.ref d)), some (en rInt (prodP u.rows)), none, none, none]) (fun i u => [stq K p ns y u.c, dc (rRow K) d u.rows]) (fun i u => DrOk most (1 + nextV ns y c 4).toNat i u) ⟨c + 1, []⟩
        (fun i u => [some (en rVal (.ref p)), some (en rInt most), some (en rVal (.ref d)), some (en rInt (prodP u.rows)), some (en rStr ((nms4.take (1 + nextV ns y c 4).toNat).getD i default)), none, none]) a
        (ei_gd (ei_list (ev_slTo (ev_lst nms4 (ea_cons ev_str (ea_cons ev_str (ea_cons ev_str (ea_cons ev_str ea_nil))))) (ev_op ev_int (ev_callM (Ω1 := [stq K _ _ _ _]) (ea_cons (ev_var rfl) (ea_cons ev_int ea_nil)) ⟨_, _, _, _, _, rfl, rfl, rfl, rfl, by first | omega | decide | assumption | (have h__ := ‹decide (_ < _) = false›; simp at h__; omega) | (dsimp only; omega) | (simp only [decide_eq_false_iff_not, decide_eq_true_eq, Bool.and_eq_true, Bool.or_eq_false_iff, Bool.not_eq_true] at *; omega), by first | omega | decide | assumption | (have h__ := ‹decide (_ < _) = false›; simp at h__; omega) | (dsimp only; omega) | (simp only [decide_eq_false_iff_not, decide_eq_true_eq, Bool.and_eq_true, Bool.or_eq_false_iff, Bool.not_eq_true] at *; omega), by first | omega | decide | assumption | (have h__ := ‹decide (_ < _) = false›; simp at h__; omega) | (dsimp only; omega) | (simp only [decide_eq_false_iff_not, decide_eq_true_eq, Bool.and_eq_true, Bool.or_eq_false_iff, Bool.not_eq_true] at *; omega)⟩ (by simp [adr, stq, lm, lc])) rv_add) (by omega)))) (fun i u hi => tg_name (by simp)) ⟨⟨by show (0:Int) ≤ c + 1; omega, rfl, Int.le_refl 1, hm1⟩, fun _ _ _ a => a⟩ (fun T1 i u σ1 H1 hi I a => ?_) (fun u I σ1 H1 a => ?_)
      · have hc := I.c0
        have hn12 := nextV_bd (ns := ns) (y := y) (c := u.c) (below := 12) (by decide)
        have hn10 := nextV_bd (ns := ns) (y := y) (c := u.c + 1) (below := 10) (by decide)
        refine q_set a (ev_callM (Ω1 := [stq K p ns y (u.c + 1)]) (ea_cons (ev_var rfl) (ea_cons (ev_lst [2, 3, 4, 6, 8, 9, 12, 1 + nextV ns y u.c 12, 4, 6] (ea_cons ev_int (ea_cons ev_int (ea_cons ev_int (ea_cons ev_int (ea_cons ev_int (ea_cons ev_int (ea_cons ev_int (ea_cons (ev_op ev_int (ev_callM (Ω1 := [stq K _ _ _ _]) (ea_cons (ev_var rfl) (ea_cons ev_int ea_nil)) ⟨_, _, _, _, _, rfl, rfl, rfl, rfl, by first | omega | decide | assumption | (have h__ := ‹decide (_ < _) = false›; simp at h__; omega) | (dsimp only; omega) | (simp only [decide_eq_false_iff_not, decide_eq_true_eq, Bool.and_eq_true, Bool.or_eq_false_iff, Bool.not_eq_true] at *; omega), by first | omega | decide | assumption | (have h__ := ‹decide (_ < _) = false›; simp at h__; omega) | (dsimp only; omega) | (simp only [decide_eq_false_iff_not, decide_eq_true_eq, Bool.and_eq_true, Bool.or_eq_false_iff, Bool.not_eq_true] at *; omega), by first | omega | decide | assumption | (have h__ := ‹decide (_ < _) = false›; simp at h__; omega) | (dsimp only; omega) | (simp only [decide_eq_false_iff_not, decide_eq_true_eq, Bool.and_eq_true, Bool.or_eq_false_iff, Bool.not_eq_true] at *; omega)⟩ (by simp [adr, stq, lm, lc])) rv_add) (ea_cons ev_int (ea_cons ev_int ea_nil)))))))))) rfl (by simp)) ea_nil)) ⟨_, _, _, _, Int, 0, rInt, _, rfl, rfl, rfl, rfl, by simp, hy, by omega⟩ (by simp [adr, stq, lm])) fun σ1 H1 a => ?_
        have hx0 : 1 ≤ ([2, 3, 4, 6, 8, 9, 12, 1 + nextV ns y u.c 12, 4, 6] : List Int).getD (nextV ns y (u.c + 1) (([2, 3, 4, 6, 8, 9, 12, 1 + nextV ns y u.c 12, 4, 6] : List Int).length : Int)).toNat 0 ∧ ([2, 3, 4, 6, 8, 9, 12, 1 + nextV ns y u.c 12, 4, 6] : List Int).getD (nextV ns y (u.c + 1) (([2, 3, 4, 6, 8, 9, 12, 1 + nextV ns y u.c 12, 4, 6] : List Int).length : Int)).toNat 0 ≤ 12 :=
          getD_all (P := fun x => 1 ≤ x ∧ x ≤ 12) (by simp; omega) (by show (nextV ns y (u.c + 1) 10).toNat < 10; omega)
        revert a hx0
        generalize ([2, 3, 4, 6, 8, 9, 12, 1 + nextV ns y u.c 12, 4, 6] : List Int).getD (nextV ns y (u.c + 1) (([2, 3, 4, 6, 8, 9, 12, 1 + nextV ns y u.c 12, 4, 6] : List Int).length : Int)).toNat 0 = x0
        intro a hx0
        have hp1 := I.p1
        have hp2 := I.p2
        refine q_while (ι := Per) (fun x => [some (en rVal (.ref p)), some (en rInt most), some (en rVal (.ref d)), some (en rInt (prodP u.rows)), some (en rStr ((nms4.take (1 + nextV ns y c 4).toNat).getD i default)), some (en rInt x.1), none]) (fun _ => [stq K p ns y (u.c + 1 + 1), dc (rRow K) d u.rows]) (fun x => if most < prodP u.rows * x.1 then 1 else 0) (fun x => decide (most < prodP u.rows * x.1)) ⟨x0, hx0⟩ a (fun x => eb_cmp (ev_op (ev_op (ev_var rfl) (ev_var rfl) (rv_mul (.inl ⟨by omega, by omega⟩))) (ev_var rfl) rv_gt)) (fun x σ1 H1 hx a => ?_) (fun x σ1 H1 hx a => ?_)
        · have hx2 := x.2
          refine q_set a (ev_if (e := en rInt (if 2 < x.1 then 1 + x.1 / 2 else 1)) (eb_cmp (ev_op (ev_var rfl) ev_int rv_gt)) (fun h => by rw [if_pos (by simpa using h)]; exact ev_op ev_int (ev_op (ev_var rfl) ev_int (rv_div (by decide))) rv_add) (fun h => by rw [if_neg (by simpa using h)]; exact ev_int)) fun σ1 H1 a => ?_
          have hx3 : 1 ≤ (if 2 < x.1 then 1 + x.1 / 2 else 1) ∧ (if 2 < x.1 then 1 + x.1 / 2 else 1) ≤ 12 := by split <;> omega
          revert a hx3
          generalize (if 2 < x.1 then 1 + x.1 / 2 else 1) = x3
          intro a hx3
          have hm : most < prodP u.rows * x.1 := by simpa using hx
          refine s_if a (eb_cmp (ev_op (ev_op (ev_var rfl) (ev_var rfl) (rv_mul (.inl ⟨by omega, by omega⟩))) (ev_var rfl) rv_gt)) (fun h H1 a => ?_) (fun h H1 a => ?_)
          · refine s_set a ev_int fun σ2 H2 a => ⟨⟨1, by decide⟩, ?_, a⟩
            show (if most < prodP u.rows * 1 then 1 else 0) < (if most < prodP u.rows * x.1 then 1 else 0)
            rw [if_neg (by omega), if_pos hm]
            decide
          · refine ⟨⟨x3, hx3⟩, ?_, a⟩
            show (if most < prodP u.rows * x3 then 1 else 0) < (if most < prodP u.rows * x.1 then 1 else 0)
            rw [if_neg (by simpa using h), if_pos hm]
            decide
        obtain ⟨x, hx2⟩ := x
        have a : At _ _ _ [_, _, _, _, _, some (en rInt x), _] _ _ _ _ := a
        have hm : prodP u.rows * x ≤ most := by simpa using hx
        have hn3 := nextV_bd (ns := ns) (y := y) (c := u.c + 1 + 1) (below := 3) (by decide)
        have hnx := nextV_bd (ns := ns) (y := y) (c := u.c + 1 + 1 + 1) (below := x) (by omega)
        refine q_set a (ev_op (ev_var rfl) (ev_var rfl) (rv_mul (.inl ⟨by omega, by omega⟩))) fun σ1 H1 a => ?_
        refine q_set a (ev_op ev_int (ev_ifC (e := en rInt (if nextV ns y (u.c + 1 + 1) 3 = 0 then nextV ns y (u.c + 1 + 1 + 1) x else 0)) (Ω2 := [stq K p ns y (u.c + 1 + 1 + 1 + (if nextV ns y (u.c + 1 + 1) 3 = 0 then 1 else 0)), dc (rRow K) d u.rows]) (eb_cmp (ev_op (ev_callM (Ω1 := [stq K _ _ _ _]) (ea_cons (ev_var rfl) (ea_cons ev_int ea_nil)) ⟨_, _, _, _, _, rfl, rfl, rfl, rfl, by first | omega | decide | assumption | (have h__ := ‹decide (_ < _) = false›; simp at h__; omega) | (dsimp only; omega) | (simp only [decide_eq_false_iff_not, decide_eq_true_eq, Bool.and_eq_true, Bool.or_eq_false_iff, Bool.not_eq_true] at *; omega), by first | omega | decide | assumption | (have h__ := ‹decide (_ < _) = false›; simp at h__; omega) | (dsimp only; omega) | (simp only [decide_eq_false_iff_not, decide_eq_true_eq, Bool.and_eq_true, Bool.or_eq_false_iff, Bool.not_eq_true] at *; omega), by first | omega | decide | assumption | (have h__ := ‹decide (_ < _) = false›; simp at h__; omega) | (dsimp only; omega) | (simp only [decide_eq_false_iff_not, decide_eq_true_eq, Bool.and_eq_true, Bool.or_eq_false_iff, Bool.not_eq_true] at *; omega)⟩ (by simp [adr, stq, lm, lc])) ev_int rv_eqI)) (ev_callM (Ω1 := [stq K _ _ _ _]) (ea_cons (ev_var rfl) (ea_cons (ev_var rfl) ea_nil)) ⟨_, _, _, _, _, rfl, rfl, rfl, rfl, by first | omega | decide | assumption | (have h__ := ‹decide (_ < _) = false›; simp at h__; omega) | (dsimp only; omega) | (simp only [decide_eq_false_iff_not, decide_eq_true_eq, Bool.and_eq_true, Bool.or_eq_false_iff, Bool.not_eq_true] at *; omega), by first | omega | decide | assumption | (have h__ := ‹decide (_ < _) = false›; simp at h__; omega) | (dsimp only; omega) | (simp only [decide_eq_false_iff_not, decide_eq_true_eq, Bool.and_eq_true, Bool.or_eq_false_iff, Bool.not_eq_true] at *; omega), by first | omega | decide | assumption | (have h__ := ‹decide (_ < _) = false›; simp at h__; omega) | (dsimp only; omega) | (simp only [decide_eq_false_iff_not, decide_eq_true_eq, Bool.and_eq_true, Bool.or_eq_false_iff, Bool.not_eq_true] at *; omega)⟩ (by simp [adr, stq, lm, lc])) ev_int (fun h => ?_) (fun h => ?_)) rv_add) fun σ1 H1 a => ?_
        · have h : nextV ns y (u.c + 1 + 1) 3 = 0 := by simpa using h
          rw [if_pos h, if_pos h]
          exact ⟨rfl, rfl⟩
        · have h : ¬ nextV ns y (u.c + 1 + 1) 3 = 0 := by simpa using h
          rw [if_neg h, if_neg h, Int.add_zero]
          exact ⟨rfl, rfl⟩
        have hl : 0 ≤ (if nextV ns y (u.c + 1 + 1) 3 = 0 then nextV ns y (u.c + 1 + 1 + 1) x else 0) ∧ (if nextV ns y (u.c + 1 + 1) 3 = 0 then nextV ns y (u.c + 1 + 1 + 1) x else 0) < x := by split <;> omega
        have hq : 0 ≤ u.c + 1 + 1 + 1 + (if nextV ns y (u.c + 1 + 1) 3 = 0 then (1 : Int) else 0) := by split <;> omega
        revert a hl hq
        generalize (if nextV ns y (u.c + 1 + 1) 3 = 0 then nextV ns y (u.c + 1 + 1 + 1) x else 0) = l
        generalize u.c + 1 + 1 + 1 + (if nextV ns y (u.c + 1 + 1) 3 = 0 then (1 : Int) else 0) = q
        intro a hl hq
        have hs := nextV_bd (ns := ns) (y := y) (c := q) (below := x) (by omega)
        have h4 := nextV_bd (ns := ns) (y := y) (c := q + 1) (below := 4) (by decide)
        refine s_dputP (p := d) (A := rRow K) (m := u.rows) (Ω2 := [stq K p ns y (q + 1 + 1)]) a rfl (ev_row (mkJ x (1 + l) (nextV ns y q x) (1 + nextV ns y (q + 1) 4) ⟨hx2, by omega, hs, by omega⟩) (ea_cons (ev_var rfl) (ea_cons (ev_var rfl) (ea_cons (ev_callM (Ω1 := [stq K _ _ _ _]) (ea_cons (ev_var rfl) (ea_cons (ev_var rfl) ea_nil)) ⟨_, _, _, _, _, rfl, rfl, rfl, rfl, by first | omega | decide | assumption | (have h__ := ‹decide (_ < _) = false›; simp at h__; omega) | (dsimp only; omega) | (simp only [decide_eq_false_iff_not, decide_eq_true_eq, Bool.and_eq_true, Bool.or_eq_false_iff, Bool.not_eq_true] at *; omega), by first | omega | decide | assumption | (have h__ := ‹decide (_ < _) = false›; simp at h__; omega) | (dsimp only; omega) | (simp only [decide_eq_false_iff_not, decide_eq_true_eq, Bool.and_eq_true, Bool.or_eq_false_iff, Bool.not_eq_true] at *; omega), by first | omega | decide | assumption | (have h__ := ‹decide (_ < _) = false›; simp at h__; omega) | (dsimp only; omega) | (simp only [decide_eq_false_iff_not, decide_eq_true_eq, Bool.and_eq_true, Bool.or_eq_false_iff, Bool.not_eq_true] at *; omega)⟩ (by simp [adr, stq, lm, lc])) (ea_cons (ev_op ev_int (ev_callM (Ω1 := [stq K _ _ _ _]) (ea_cons (ev_var rfl) (ea_cons ev_int ea_nil)) ⟨_, _, _, _, _, rfl, rfl, rfl, rfl, by first | omega | decide | assumption | (have h__ := ‹decide (_ < _) = false›; simp at h__; omega) | (dsimp only; omega) | (simp only [decide_eq_false_iff_not, decide_eq_true_eq, Bool.and_eq_true, Bool.or_eq_false_iff, Bool.not_eq_true] at *; omega), by first | omega | decide | assumption | (have h__ := ‹decide (_ < _) = false›; simp at h__; omega) | (dsimp only; omega) | (simp only [decide_eq_false_iff_not, decide_eq_true_eq, Bool.and_eq_true, Bool.or_eq_false_iff, Bool.not_eq_true] at *; omega), by first | omega | decide | assumption | (have h__ := ‹decide (_ < _) = false›; simp at h__; omega) | (dsimp only; omega) | (simp only [decide_eq_false_iff_not, decide_eq_true_eq, Bool.and_eq_true, Bool.or_eq_false_iff, Bool.not_eq_true] at *; omega)⟩ (by simp [adr, stq, lm, lc])) rv_add) ea_nil)))) rfl rfl rfl rfl) (ev_var rfl) (fun _ _ _ _ _ _ a => a.swap) (I.fresh hi) ?_ fun H1 a => ⟨⟨q + 1 + 1, u.rows ++ [((nms4.take (1 + nextV ns y c 4).toNat).getD i default, mkJ x (1 + l) (nextV ns y q x) (1 + nextV ns y (q + 1) 4) ⟨hx2, by omega, hs, by omega⟩)]⟩, I.step hi _ _ (by omega) hm, ?_⟩
        · have := congrArg List.length I.ks
          rw [List.length_map, List.length_take] at this
          omega
        · have a := (((a.swap).off 4).off 5).off 6
          show At _ _ _ [_, _, _, some (en rInt (prodP (u.rows ++ [((nms4.take (1 + nextV ns y c 4).toNat).getD i default, mkJ x (1 + l) (nextV ns y q x) (1 + nextV ns y (q + 1) 4) ⟨hx2, by omega, hs, by omega⟩)]))), _, _, _] _ _ _ _
          rw [prodP_app]
          exact a
      rw [hnl] at I
      have a := (a.swap.freeD hd).give (i := 2) rfl
      exact s_ret a (ev_var rfl) (kk _ _ ⟨u.rows, u.c, rfl, rfl, I.c0, I.tb hm2 (by omega) (by omega)⟩)⟩
def S__law_job (K : PySem.W.Frag) : Sig := fun es res => ∃ r : Jb, es = [en (rRow K) r] ∧ res = en (rJob K) r
theorem ok__law_job {P : Program} {w : World} {K : PySem.W.Frag} {mg : Str → Option Value} {base : Heap} (T : Tx K mg) : Gd P w K mg base 5 (ga K "_law_job") ["_law_row_here"] (spS (S__law_job K)) := by
  obtain ⟨fd, F⟩ := T.h__law_job
  obtain ⟨_, G_Job_init, k_Job_init, b_Job_init⟩ := ok_Job_init (P := P) (w := w) (base := base) T
  refine ⟨fd, ?_, F.kp, F.bindsN fun _ _ _ _ _ _ us hl => match us, hl with | [_], _ => rfl⟩
  refine fun_ok F sc__law_job (fun es res h => ?l) fun cdv A outer s H E hr => ?b
  case l =>
    obtain ⟨r, rfl, rfl⟩ := h
    all_goals rfl
  case b =>
    have nd : N__law_job.Nodup := sc__law_job.nd
    exact ⟨_, PSs.nox (pss_one (ps_ret (pe_makeN T.kJob G_Job_init (hr.mono (by decide)) (by rfl) T.mJob b_Job_init pass0 (pa_cons (pe_ix (ix_tup : IxR _ (rIxT K)) (pv 0) pe_int (fun _ _ => rfl)) (pa_cons (pe_ix (ix_tup : IxR _ (rIxT K)) (pv 0) pe_int (fun _ _ => rfl)) pa_nil)) (pk_cons (pe_ix (ix_tup : IxR _ (rIxT K)) (pv 0) pe_int (fun _ _ => rfl)) (pk_cons (pe_ix (ix_tup : IxR _ (rIxT K)) (pv 0) pe_int (fun _ _ => rfl)) pk_nil))))), fun es res vs Hk Q hS a kk => by
      obtain ⟨r, rfl, rfl⟩ := hS
      refine s_ret a (ev_makeN (ea_cons (ev_op (ev_var rfl) ev_int rv_row0) (ea_cons (ev_op (ev_var rfl) ev_int rv_row1) ea_nil)) (ea_cons (ev_op (ev_var rfl) ev_int rv_row2) (ea_cons (ev_op (ev_var rfl) ev_int rv_row3) ea_nil)) rfl rfl kgJob ?_) kk
      exact mk_job r⟩
def S__law_table (K : PySem.W.Frag) : Sig := fun es res => ∃ m : List (Str × Jb), es = [en (rDict (rRow K)) m] ∧ res = en (rTab K) m ∧ TbOk m
theorem ok__law_table {P : Program} {w : World} {K : PySem.W.Frag} {mg : Str → Option Value} {base : Heap} (T : Tx K mg) : Gd P w K mg base 7 (ga K "_law_table") ["_law_drawn_here"] (spS (S__law_table K)) := by
  obtain ⟨fd, F⟩ := T.h__law_table
  obtain ⟨_, G__law_job, k__law_job, b__law_job⟩ := ok__law_job (P := P) (w := w) (base := base) T
  obtain ⟨_, G_Timetable_init, k_Timetable_init, b_Timetable_init⟩ := ok_Timetable_init (P := P) (w := w) (base := base) T
  refine ⟨fd, ?_, F.kp, F.bindsN fun _ _ _ _ _ _ us hl => match us, hl with | [_], _ => rfl⟩
  refine fun_ok F sc__law_table (fun es res h => ?l) fun cdv A outer s H E hr => ?b
  case l =>
    obtain ⟨m, rfl, rfl, hm⟩ := h
    all_goals rfl
  case b =>
    have nd : N__law_table.Nodup := sc__law_table.nd
    exact ⟨_, PSs.nox (pss_cons (ps_set (i := 1) nd rfl (by first | exact Or.inl rfl | exact Or.inr rfl) pe_dnewK)
    (pss_cons (ps_lk (ps_for PassesOwn.never rfl (pi_keys (pv 0)) (pg_name (i := 2) nd rfl (by first | exact Or.inl rfl | exact Or.inr rfl))
    (pss_one (ps_dput (runits1 hr) (pv 1) (pv 2) (pe_call G__law_job (hr.mono (by decide)) (by rfl) T.m_law_job k__law_job b__law_job .nil pass0 (pa_cons (pe_dget (runits1 hr) (pv 0) (pv 2) (fun _ _ => rfl)) pa_nil)) rfl))))
    (pss_one (ps_ret (pe_make T.kTimetable G_Timetable_init (hr.mono (by decide)) (by rfl) T.mTimetable b_Timetable_init .nil pass0 (pa_cons (pv 1) pa_nil)))))), fun es res vs Hk Q hS a kk => by
      obtain ⟨m, rfl, rfl, hm⟩ := hS
      have h4 := hm.n4
      refine q_newD a (rJob K) fun d σ1 H1 hd a => ?_
      refine q_lk (Γn := [some (en (rDict (rRow K)) m), some (en rVal (.ref d)), none]) (Ωn := [dc (rJob K) d m]) (Tn := []) a (dloc_var (i := 0) rfl) (fun σ1 H1 a => ?_) fun W' Hk' H' D' lk a nx _ => ?l1
      case l1 =>
        refine s_forB (fun _ => [some (en (rDict (rRow K)) m), some (en rVal (.ref d)), none]) (fun i => [dc (rJob K) d (m.take i)]) (fun _ => True) lk a (ei_gdK ei_keys) ⟨True.intro, fun _ _ _ a => a⟩ (fun T1 i x σ1 H1 hi _ a => ?_) (fun _ σ1 H1 a => nx _ _ ((by rw [List.take_of_length_le (Nat.le_refl _)] at a; exact a : At _ _ _ _ _ _ _ _).sub (by simp)))
        refine (tg_nameD (vs := [2]) (by simp)) _ _ _ _ _ _ _ _ a _ fun σ1 a _ => ?_
        have hl := lookup_getD hm.nd hi
        refine s_dput a rfl (ev_call (ea_cons (ev_dget (ev_var rfl) (ev_var rfl) (by first | omega | decide | assumption | (have h__ := ‹decide (_ < _) = false›; simp at h__; omega) | (dsimp only; omega) | (simp only [decide_eq_false_iff_not, decide_eq_true_eq, Bool.and_eq_true, Bool.or_eq_false_iff, Bool.not_eq_true] at *; omega))) ea_nil) ⟨_, rfl, rfl⟩) (ev_var rfl) (lookup_no fun q hq e => ?_) (by rw [List.length_take]; omega) fun H2 a => ⟨True.intro, ?_⟩
        · obtain ⟨k, hk, h2⟩ := List.getElem_of_mem hq
          rw [List.length_take] at hk
          have hki : k < i := by omega
          refine nodup_getD hm.nd hki hi ?_
          rw [← e, ← h2, List.getElem_take, List.getD_eq_getElem?_getD, List.getElem?_eq_getElem (by omega)]
          rfl
        · rw [List.take_succ, getD_at hi]
          exact a.off 2
      have a := (a.freeD hd).give (i := 1) rfl
      refine s_ret a (ev_make (ds := []) (ea_cons (ev_var rfl) ea_nil) ?_) kk
      exact mk_tab hm⟩
def S_is_nameX (K : PySem.W.Frag) : Sig := fun es res => ∃ z : Str, es = [en rStr z] ∧ res = en rBool (isNm z) ∧ z.length ≤ 40000
theorem ok_is_nameX {P : Program} {w : World} {K : PySem.W.Frag} {mg : Str → Option Value} {base : Heap} (T : Tx K mg) : Gd P w K mg base 3 (ga K "is_name") ["value"] (spS (S_is_nameX K)) := by
  obtain ⟨fd, F⟩ := T.h_is_name
  obtain ⟨_, G_is_between, k_is_between, b_is_between⟩ := ok_is_between (P := P) (w := w) (base := base) T
  refine ⟨fd, ?_, F.kp, F.bindsN fun _ _ _ _ _ _ us hl => match us, hl with | [_], _ => rfl⟩
  refine fun_ok F sc_is_name (fun es res h => ?l) fun cdv A outer s H E hr => ?b
  case l =>
    obtain ⟨z, rfl, rfl, hz⟩ := h
    all_goals rfl
  case b =>
    have nd : N_is_name.Nodup := sc_is_name.nd
    exact ⟨_, PSs.nox (pss_cons (ps_if (PW.pt (pw_or (pt_not (pt_val (pe_callB (call_isi : CallR _ _ (rIsi K)) (by rfl) T.isinstance (by decide +kernel) (pa_cons (pv 0) (pa_cons (pe_bltn (v := .ty "str") (by rfl) T.str (by decide +kernel) rfl) pa_nil))))) (pw_or1 (pt_not (pt_val (pe_call G_is_between (hr.mono (by decide)) (by rfl) T.mis_between k_is_between b_is_between .nil pass0 (pa_cons (pe_callB call_len_str (by rfl) T.len boot_len (pa_cons (pv 0) pa_nil)) (pa_cons pe_int (pa_cons (pe_glob (v := .int 8) (by rfl) (T.g_LONGEST_NAME).choose_spec ⟨_, rfl⟩) pa_nil))))))))) (pss_one (ps_ret pe_bl)) pss_nil)
    (pss_one (ps_ret (pe_callB (cr_all rfl : CallR _ _ (rAll K)) (by rfl) T.all (by decide +kernel) (pa_cons (pe_lc (own := [("letter", 1)]) (by rfl) nd (pi_str (pv 0)) (blkOk_by (own := [("letter", 1)]) (N := N_is_name) (sc := defScope s_is_name) (by decide +kernel)) (fun _ _ _ _ _ => (pg_name (i := 1) nd rfl (by first | exact Or.inl rfl | exact Or.inr rfl))) (fun _ _ _ _ _ => pts_nil) (fun _ _ _ _ _ => (pe_cmpR op_in_sign (pv 1) (pe_glob (v := .str letters) (by rfl) (T.g_LETTERS).choose_spec ⟨_, rfl⟩) rfl))) pa_nil))))), fun es res vs Hk Q hS a kk => by
      obtain ⟨z, rfl, rfl, hz⟩ := hS
      have hs : z.cps.size ≤ 40000 := hz
      refine q_when a (eb_or (eb_not (eb_val (ev_cb (ea_cons (ev_var rfl) (ea_cons ev_val ea_nil)) (ii_str)))) (fun h_ => (eb_not (eb_val (ev_call (ea_cons (ev_cb (ea_cons (ev_var rfl) ea_nil) (rc_lenS (by first | omega | decide | assumption | (have h__ := ‹decide (_ < _) = false›; simp at h__; omega) | (dsimp only; omega) | (simp only [decide_eq_false_iff_not, decide_eq_true_eq, Bool.and_eq_true, Bool.or_eq_false_iff, Bool.not_eq_true] at *; omega)))) (ea_cons ev_int (ea_cons ev_int ea_nil))) ⟨_, _, _, rfl, rfl⟩))))) (fun h H1 a => ?_) (fun h H1 a => ?_)
      · refine s_ret a (ev_eq ev_bl ?_) kk
        unfold isNm
        simp at h
        rw [decide_eq_false (by omega)]
        rfl
      · refine s_ret a (ev_eq (ev_cb (ea_cons (ev_lc _ _ _ (ei_str (ev_var rfl)) (by first | omega | decide | assumption | (have h__ := ‹decide (_ < _) = false›; simp at h__; omega) | (dsimp only; omega) | (simp only [decide_eq_false_iff_not, decide_eq_true_eq, Bool.and_eq_true, Bool.or_eq_false_iff, Bool.not_eq_true] at *; omega)) (fun i_ hi_ => tg_name (by simp)) (fun i_ Ω_ hi_ => eb_yes) (fun i_ Ω_ hi_ h_ => (ev_op (ev_var rfl) ev_str rv_inS))) ea_nil) rc_all) ?_) kk
        rw [given_all]
        unfold isNm
        simp at h
        rw [decide_eq_true (by omega), Bool.true_and]
        exact all_get fun c => decide (c ∈ letters.cps.toList)⟩
def S_is_at_leastO (K : PySem.W.Frag) : Sig := fun es res => ∃ (o : Option Int) (l : Int), es = [oI o, en rInt l] ∧ res = en rBool (match o with | none => false | some v => decide (l ≤ v))
theorem ok_is_at_leastO {P : Program} {w : World} {K : PySem.W.Frag} {mg : Str → Option Value} {base : Heap} (T : Tx K mg) : Gd P w K mg base 1 (ga K "is_at_least") ["value", "low"] (spS (S_is_at_leastO K)) := by
  obtain ⟨fd, F⟩ := T.h_is_at_least
  refine ⟨fd, ?_, F.kp, F.bindsN fun _ _ _ _ _ _ us hl => match us, hl with | [_, _], _ => rfl⟩
  refine fun_ok F sc_is_at_least (fun es res h => ?l) fun cdv A outer s H E hr => ?b
  case l =>
    obtain ⟨o, l, rfl, rfl⟩ := h
    all_goals rfl
  case b =>
    have nd : N_is_at_least.Nodup := sc_is_at_least.nd
    exact ⟨_, PSs.nox (pss_one (ps_ret (pe_and (pe_callB (call_isi : CallR _ _ (rIsi K)) (by rfl) T.isinstance (by decide +kernel) (pa_cons (pv 0) (pa_cons (pe_bltn (v := .ty "int") (by rfl) T.int (by decide +kernel) rfl) pa_nil))) (pe_and (pe_not (pe_callB (call_isi : CallR _ _ (rIsi K)) (by rfl) T.isinstance (by decide +kernel) (pa_cons (pv 0) (pa_cons (pe_bltn (v := .ty "bool") (by rfl) T.bool (by decide +kernel) rfl) pa_nil)))) (pe_one (pe_cmpR op_ge (pv 0) (pv 1) (nomark _))))))), fun es res vs Hk Q hS a kk => by
      obtain ⟨o, l, rfl, rfl⟩ := hS
      cases o with
      | none => exact s_ret a (ev_and (d := false) (ev_cb (ea_cons (ev_var rfl) (ea_cons ev_val ea_nil)) ii_intN) (fun h => by cases h)) kk
      | some v => exact s_ret a (ev_is (ev_and (ev_cb (ea_cons (ev_var rfl) (ea_cons ev_val ea_nil)) (ii_int)) (fun h_ => (ev_and (ev_not (ev_cb (ea_cons (ev_var rfl) (ea_cons ev_val ea_nil)) (ii_bool))) (fun h_ => (ev_op (ev_var rfl) (ev_var rfl) rv_ge))))) (by simp)) kk⟩
def S_is_betweenO (K : PySem.W.Frag) : Sig := fun es res => ∃ (o : Option Int) (l h : Int), es = [oI o, en rInt l, en rInt h] ∧ res = en rBool (match o with | none => false | some v => decide (l ≤ v ∧ v ≤ h))
theorem ok_is_betweenO {P : Program} {w : World} {K : PySem.W.Frag} {mg : Str → Option Value} {base : Heap} (T : Tx K mg) : Gd P w K mg base 2 (ga K "is_between") ["value", "low", "high"] (spS (S_is_betweenO K)) := by
  obtain ⟨fd, F⟩ := T.h_is_between
  obtain ⟨_, G_is_at_leastO, k_is_at_leastO, b_is_at_leastO⟩ := ok_is_at_leastO (P := P) (w := w) (base := base) T
  refine ⟨fd, ?_, F.kp, F.bindsN fun _ _ _ _ _ _ us hl => match us, hl with | [_, _, _], _ => rfl⟩
  refine fun_ok F sc_is_between (fun es res h => ?l) fun cdv A outer s H E hr => ?b
  case l =>
    obtain ⟨o, l, h, rfl, rfl⟩ := h
    all_goals rfl
  case b =>
    have nd : N_is_between.Nodup := sc_is_between.nd
    exact ⟨_, PSs.nox (pss_one (ps_ret (pe_and (pe_call G_is_at_leastO (hr.mono (by decide)) (by rfl) T.mis_at_least k_is_at_leastO b_is_at_leastO .nil pass0 (pa_cons (pv 0) (pa_cons (pv 1) pa_nil))) (pe_one (pe_cmpR op_le (pv 0) (pv 2) (nomark _)))))), fun es res vs Hk Q hS a kk => by
      obtain ⟨o, l, h, rfl, rfl⟩ := hS
      cases o with
      | none => exact s_ret a (ev_and (d := false) (ev_call (ea_cons (ev_var rfl) (ea_cons (ev_var rfl) ea_nil)) ⟨none, _, rfl, rfl⟩) (fun h => by cases h)) kk
      | some v => exact s_ret a (ev_is (ev_and (ev_call (ea_cons (ev_var rfl) (ea_cons (ev_var rfl) ea_nil)) ⟨some _, _, rfl, rfl⟩) (fun h_ => (ev_op (ev_var rfl) (ev_var rfl) rv_le))) (by simp)) kk⟩
def S_Job_initR (K : PySem.W.Frag) : SigR := fun es Ω C Ω' => ∃ (x dx : Addr) (o1 o2 o3 o4 : Option Int), es = [en rVal (.ref x), oI o1, oI o2, oI o3, oI o4] ∧ Ω = [ic (cJ K) x dx []] ∧ C = ga K "BadJob" ∧ Ω' = [] ∧ jobW o1 o2 o3 o4 = none
theorem ok_Job_initR {P : Program} {w : World} {K : PySem.W.Frag} {mg : Str → Option Value} {base : Heap} (T : Tx K mg) : GdKR P w K mg base 3 (ma K (ga K "Job") "__init__") ["self", "period", "duration", "start", "cost"] (spR (S_Job_initR K)) 3 ["start", "cost"] := by
  obtain ⟨fd, F⟩ := T.h_Job_init
  obtain ⟨_, G_is_betweenO, k_is_betweenO, b_is_betweenO⟩ := ok_is_betweenO (P := P) (w := w) (base := base) T
  refine ⟨fd, ?_, F.kp, by
    obtain ⟨_, h⟩ := F.kbindsD 3 ["start", "cost"] (fun us _ ws => us ++ ws) (List.cons_ne_nil _ _) (fun r1 _ r2 => r1.append r2) (fun T kV doc pm an cdv ct us its ws l1 l2 l3 => match us, its, ws, l1, l2, l3 with | [_, _, _], [_], [_, _], _, _, _ => ⟨_, rfl, by kernel_rfl⟩)
    exact h⟩
  refine fun_okR F sc_Job_init (fun es Ω C Ω' h => ?l) fun cdv A outer s H E hr => ?b
  case l =>
    obtain ⟨x, dx, o1, o2, o3, o4, rfl, rfl, rfl, rfl, hj⟩ := h
    all_goals rfl
  case b =>
    have nd : N_Job_init.Nodup := sc_Job_init.nd
    exact ⟨_, (pss_cons (ps_if (pt_not (pt_val (pe_call G_is_betweenO (hr.mono (by decide)) (by rfl) T.mis_between k_is_betweenO b_is_betweenO .nil pass0 (pa_cons (pv 1) (pa_cons pe_int (pa_cons (pe_glob (v := .int 12) (by rfl) (T.g_LONGEST_PERIOD).choose_spec ⟨_, rfl⟩) pa_nil)))))) (pss_one (ps_rz (by rfl) tk_cx T.xBadJob T.mBadJob)) pss_nil)
    (pss_cons (ps_if (pt_not (pt_val (pe_call G_is_betweenO (hr.mono (by decide)) (by rfl) T.mis_between k_is_betweenO b_is_betweenO .nil pass0 (pa_cons (pv 2) (pa_cons pe_int (pa_cons (pv 1) pa_nil)))))) (pss_one (ps_rz (by rfl) tk_cx T.xBadJob T.mBadJob)) pss_nil)
    (pss_cons (ps_if (pt_not (pt_val (pe_call G_is_betweenO (hr.mono (by decide)) (by rfl) T.mis_between k_is_betweenO b_is_betweenO .nil pass0 (pa_cons (pv 3) (pa_cons pe_int (pa_cons (pe_op op_sub (pv 1) pe_int) pa_nil)))))) (pss_one (ps_rz (by rfl) tk_cx T.xBadJob T.mBadJob)) pss_nil)
    (pss_cons (ps_if (pt_not (pt_val (pe_call G_is_betweenO (hr.mono (by decide)) (by rfl) T.mis_between k_is_betweenO b_is_betweenO .nil pass0 (pa_cons (pv 4) (pa_cons pe_int (pa_cons (pe_glob (v := .int 9) (by rfl) (T.g_HIGHEST_COST).choose_spec ⟨_, rfl⟩) pa_nil)))))) (pss_one (ps_rz (by rfl) tk_cx T.xBadJob T.mBadJob)) pss_nil)
    (pss_cons (ps_fld (pv 0) (pv 1) rfl)
    (pss_cons (ps_fld (pv 0) (pv 2) rfl)
    (pss_cons (ps_fld (pv 0) (pv 3) rfl)
    (pss_one (ps_fld (pv 0) (pv 4) rfl))))))))), fun es Ω C Ω' vs Hk D hS a kk => by
      obtain ⟨x, dx, o1, o2, o3, o4, rfl, rfl, rfl, rfl, hj⟩ := hS
      refine q_when a (eb_not (eb_val (ev_call (ea_cons (ev_var rfl) (ea_cons ev_int (ea_cons ev_int ea_nil))) ⟨_, _, _, rfl, rfl⟩))) (fun h H1 a => kk _ _ _ _ a.dropC) (fun h H1 a => ?_)
      cases o1 with
      | none => cases h
      | some p => ?_
      refine q_when a (eb_not (eb_val (ev_call (ea_cons (ev_var rfl) (ea_cons ev_int (ea_cons (ev_var rfl) ea_nil))) ⟨_, _, _, rfl, rfl⟩))) (fun h H1 a => kk _ _ _ _ a.dropC) (fun h H1 a => ?_)
      cases o2 with
      | none => cases h
      | some l => ?_
      refine q_when a (eb_not (eb_val (ev_call (ea_cons (ev_var rfl) (ea_cons ev_int (ea_cons (ev_op (ev_var rfl) ev_int rv_sub) ea_nil))) ⟨_, _, _, rfl, rfl⟩))) (fun h H1 a => kk _ _ _ _ a.dropC) (fun h H1 a => ?_)
      cases o3 with
      | none => cases h
      | some s => ?_
      refine q_when a (eb_not (eb_val (ev_call (ea_cons (ev_var rfl) (ea_cons ev_int (ea_cons ev_int ea_nil))) ⟨_, _, _, rfl, rfl⟩))) (fun h H1 a => kk _ _ _ _ a.dropC) (fun h H1 a => ?_)
      cases o4 with
      | none => cases h
      | some k => ?_
      refine (jobW_no hj ?_).elim
      simp at *
      omega⟩
def S_read_number (K : PySem.W.Frag) : Sig := fun es res => ∃ w : Str, es = [en rStr w] ∧ res = en (rOpt rInt) (readNum w)
theorem ok_read_number {P : Program} {w : World} {K : PySem.W.Frag} {mg : Str → Option Value} {base : Heap} (T : Tx K mg) : Gd P w K mg base 1 (ga K "read_number") ["word"] (spS (S_read_number K)) := by
  obtain ⟨fd, F⟩ := T.h_read_number
  refine ⟨fd, ?_, F.kp, F.bindsN fun _ _ _ _ _ _ us hl => match us, hl with | [_], _ => rfl⟩
  refine fun_ok F sc_read_number (fun es res h => ?l) fun cdv A outer s H E hr => ?b
  case l =>
    obtain ⟨w, rfl, rfl⟩ := h
    all_goals rfl
  case b =>
    have nd : N_read_number.Nodup := sc_read_number.nd
    exact ⟨_, PSs.nox (pss_cons (ps_for PassesOwn.never rfl (pi_range1 (by rfl) T.range (pa_cons (pe_op op_add (pe_glob (v := .int 12) (by rfl) (T.g_LONGEST_PERIOD).choose_spec ⟨_, rfl⟩) pe_int) pa_nil)) (pg_name (i := 1) nd rfl (by first | exact Or.inl rfl | exact Or.inr rfl))
    (pss_one (ps_if (pt_cmpR op_eq (pv 0) (pe_callTy call_str_int (by rfl) T.str (by decide +kernel) (pa_cons (pv 1) pa_nil)) (nomark _)) (pss_one (ps_ret (pv 1))) pss_nil)))
    (pss_one (ps_ret pe_non))), fun es res vs Hk Q hS a kk => by
      obtain ⟨w, rfl, rfl⟩ := hS
      refine q_for (fun _ => [some (en rStr w), none]) (fun _ => []) (fun i => ∀ j : Nat, j < i → w ≠ numT (j : Int)) a (ei_rng1 (k := 12 + 1) (ea_cons (ev_op ev_int ev_int rv_add) ea_nil) (by omega)) ⟨fun j hj => by omega, fun _ _ _ a => a⟩ (fun T1 i σ1 H1 hi hb a => ?_) (fun hb σ1 H1 a => ?_)
      · have hi : i < 13 := hi
        refine s_if a (eb_cmp (ev_op (ev_var rfl) (ev_cb (ea_cons (ev_var rfl) ea_nil) (rc_str (by first | omega | decide | assumption | (have h__ := ‹decide (_ < _) = false›; simp at h__; omega) | (dsimp only; omega) | (simp only [decide_eq_false_iff_not, decide_eq_true_eq, Bool.and_eq_true, Bool.or_eq_false_iff, Bool.not_eq_true] at *; omega)))) rv_eqS)) (fun h H1 a => ?_) (fun h H1 a => ⟨fun k hk => ?_, a.off 1⟩)
        · refine s_ret (e := en (rOpt rInt) (readNum w)) a (ev_eq (ev_some (ev_var rfl)) ?_) kk
          rw [readNum_at hi (by simpa using h) hb]
        · by_cases z : k < i
          · exact hb k z
          · have z : k = i := by omega
            rw [z]
            simpa using h
      · refine s_ret (e := en (rOpt rInt) (readNum w)) a (ev_eq ev_non ?_) kk
        rw [readNum_no hb]⟩
def S_read_lineA (K : PySem.W.Frag) : Sig := fun es res => ∃ l : Str, es = [en rStr l] ∧ res = en (rOpt (rPair K rStr (rJob K))) (readLine l) ∧ l.length ≤ 10000 ∧ badWs (Txt.split l spT) = false
theorem okg_read_lineA {P : Program} {w : World} {K : PySem.W.Frag} {mg : Str → Option Value} {base : Heap} (T : Tx K mg) {fd : FuncData} (F : FunD K e_read_line.name e_read_line.qual e_read_line.params e_read_line.body e_read_line.scope (e_read_line.dvs K) (e_read_line.kws K) (e_read_line.ad K) fd) : FnOk P w K mg base CX0 5 (ga K "read_line") fd ["line"] (spS (S_read_lineA K)) := by
  obtain ⟨_, G_is_nameX, k_is_nameX, b_is_nameX⟩ := ok_is_nameX (P := P) (w := w) (base := base) T
  obtain ⟨_, G_read_number, k_read_number, b_read_number⟩ := ok_read_number (P := P) (w := w) (base := base) T
  obtain ⟨_, G_Job_init, k_Job_init, b_Job_init⟩ := ok_Job_init (P := P) (w := w) (base := base) T
  refine fun_ok F sc_read_line (fun es res h => ?l) fun cdv A outer s H E hr => ?b
  case l =>
    obtain ⟨l, rfl, rfl, hl, hb⟩ := h
    all_goals rfl
  case b =>
    have nd : N_read_line.Nodup := sc_read_line.nd
    exact ⟨_, PSs.nox (pss_cons (ps_set (i := 1) nd rfl (by first | exact Or.inl rfl | exact Or.inr rfl) (pe_split (pv 0) pe_str))
    (pss_cons (ps_if (PW.pt (pw_or (pt_cmpR op_ne (pe_callB (call_len_seq : CallR _ _ (rLenQ K)) (by rfl) T.len boot_len (pa_cons (pv 1) pa_nil)) (pe_glob (v := .int 5) (by rfl) (T.g_WORDS).choose_spec ⟨_, rfl⟩) (nomark _)) (pw_or1 (pt_not (pt_val (pe_call G_is_nameX (hr.mono (by decide)) (by rfl) T.mis_name k_is_nameX b_is_nameX .nil pass0 (pa_cons (pe_ix (ix_list : IxR _ (rIxL K)) (pv 1) pe_int (fun _ _ => rfl)) pa_nil))))))) (pss_one (ps_ret pe_non)) pss_nil)
    (pss_cons (ps_asg (pe_lc (own := [("word", 6)]) (by rfl) nd (pi_list (pe_slice (sl_list : SlR _ (rSlL K)) (pv 1) (po_some pe_int) po_none) : PI _ _ _ (iList K _)) (blkOk_by (own := [("word", 6)]) (N := N_read_line) (sc := defScope s_read_line) (by decide +kernel)) (fun _ _ _ _ _ => (pg_name (i := 6) nd rfl (by first | exact Or.inl rfl | exact Or.inr rfl))) (fun _ _ _ _ _ => pts_nil) (fun _ _ _ _ _ => (pe_call G_read_number (hr.mono (by decide)) (by rfl) T.mread_number k_read_number b_read_number .nil pass0 (pa_cons (pv 6) pa_nil)))) (pg_lstK (K := K) (n := 4) rfl rfl (pgs_cons (pg_name (i := 2) nd rfl (by first | exact Or.inl rfl | exact Or.inr rfl)) (pgs_cons (pg_name (i := 3) nd rfl (by first | exact Or.inl rfl | exact Or.inr rfl)) (pgs_cons (pg_name (i := 4) nd rfl (by first | exact Or.inl rfl | exact Or.inr rfl)) (pgs_cons (pg_name (i := 5) nd rfl (by first | exact Or.inl rfl | exact Or.inr rfl)) pgs_nil))))))
    (pss_one (ps_try_thru0 (pss_one (ps_ret (pe_tup (pa_cons (pe_ix (ix_list : IxR _ (rIxL K)) (pv 1) pe_int (fun _ _ => rfl)) (pa_cons (pe_makeN T.kJob G_Job_init (hr.mono (by decide)) (by rfl) T.mJob b_Job_init pass0 (pa_cons (pv 2) (pa_cons (pv 3) pa_nil)) (pk_cons (pv 4) (pk_cons (pv 5) pk_nil))) pa_nil)))))))))), fun es res vs Hk Q hS a kk => by
      obtain ⟨l, rfl, rfl, hl, hb⟩ := hS
      have hsl := PyProof.Rows.split_le l spT
      have hwl : ∀ w ∈ Txt.split l spT, w.length ≤ 40000 := fun w hw => Nat.le_trans (split_len w hw) (by omega)
      refine q_set a (ev_split (ev_var rfl) ev_str (by decide +kernel) (by first | omega | decide | assumption | (have h__ := ‹decide (_ < _) = false›; simp at h__; omega) | (dsimp only; omega) | (simp only [decide_eq_false_iff_not, decide_eq_true_eq, Bool.and_eq_true, Bool.or_eq_false_iff, Bool.not_eq_true] at *; omega))) fun σ1 H1 a => ?_
      unfold readLine at kk
      revert a hb kk hsl hwl
      generalize Txt.split l spT = ws
      intro kk hb hsl hwl a
      simp only [putC, wipeC, List.set_cons_zero, List.set_cons_succ, List.map_cons, List.map_nil, List.cons_append, List.nil_append, List.length_cons, List.length_nil, List.replicate_succ, List.replicate_zero, Nat.reduceAdd, Nat.reduceSub, N_read_line] at a
      by_cases h5 : ws.length = 5
      case neg =>
        refine q_when a (eb_or (d := false) (eb_cmp (ev_op (ev_cb (ea_cons (ev_var rfl) ea_nil) rc_lenL) ev_int rv_neI)) (fun h => by simp at h; omega)) (fun h H1 a => ?_) (fun h H1 a => by simp at h; omega)
        refine s_ret (e := en (rOpt (rPair K rStr (rJob K))) (readWs ws)) a (ev_eq ev_non ?_) kk
        rw [readWs_no h5]
      obtain ⟨w, x1, x2, x3, x4, rfl⟩ := ws5 h5
      have hw := hwl w (by simp)
      refine q_when a (eb_or (eb_cmp (ev_op (ev_cb (ea_cons (ev_var rfl) ea_nil) rc_lenL) ev_int rv_neI)) (fun h_ => (eb_not (eb_val (ev_call (ea_cons (ev_op (ev_var rfl) ev_int (rv_ixL (by decide) rfl)) ea_nil) ⟨_, rfl, rfl, by first | omega | decide | assumption | (have h__ := ‹decide (_ < _) = false›; simp at h__; omega) | (dsimp only; omega) | (simp only [decide_eq_false_iff_not, decide_eq_true_eq, Bool.and_eq_true, Bool.or_eq_false_iff, Bool.not_eq_true] at *; omega)⟩))))) (fun h H1 a => ?_) (fun h H1 a => ?_)
      · have hn : isNm w = false := by simpa using h
        refine s_ret (e := en (rOpt (rPair K rStr (rJob K))) (readWs [w, x1, x2, x3, x4])) a (ev_eq ev_non ?_) kk
        show none = (if isNm w = true then _ else none)
        rw [hn]
        rfl
      have hn : isNm w = true := by simpa using h
      refine q_tg (vars := [2, 3, 4, 5]) a (ev_eq (y := [readNum x1, readNum x2, readNum x3, readNum x4]) (ev_lc (B := rOpt rInt) _ (fun _ => true) (fun i => readNum (([w, x1, x2, x3, x4] : List Str).drop (1 : Int).toNat |>.getD i default)) (ei_gd (ei_list (ev_slFrom (ev_var rfl) ev_int (by first | omega | decide | assumption | (have h__ := ‹decide (_ < _) = false›; simp at h__; omega) | (dsimp only; omega) | (simp only [decide_eq_false_iff_not, decide_eq_true_eq, Bool.and_eq_true, Bool.or_eq_false_iff, Bool.not_eq_true] at *; omega))))) (by simp) (fun i hi => tg_name (by simp)) (fun i Ω hi => eb_yes) (fun i Ω hi _ => (ev_call (ea_cons (ev_var rfl) ea_nil) ⟨_, rfl, rfl⟩))) (by rfl)) (tg_lst4 (by simp) (by simp) (by simp) (by simp)) fun σ1 H1 a => ?_
      simp only [putC, wipeC, List.set_cons_zero, List.set_cons_succ, List.map_cons, List.map_nil, List.cons_append, List.nil_append, List.length_cons, List.length_nil, List.replicate_succ, List.replicate_zero, Nat.reduceAdd, Nat.reduceSub, N_read_line] at a
      have hb : (isNm w && (jobW (readNum x1) (readNum x2) (readNum x3) (readNum x4)).isNone) = false := hb
      rw [hn, Bool.true_and] at hb
      rw [show readWs [w, x1, x2, x3, x4] = (jobW (readNum x1) (readNum x2) (readNum x3) (readNum x4)).map fun j => (w, j) from if_pos hn] at kk
      revert a hb kk
      generalize readNum x1 = o1
      generalize readNum x2 = o2
      generalize readNum x3 = o3
      generalize readNum x4 = o4
      intro kk a hb
      cases hj : jobW o1 o2 o3 o4 with
      | none => rw [hj] at hb; cases hb
      | some j => ?_
      obtain ⟨rfl, rfl, rfl, rfl⟩ := jobW_some hj
      rw [hj] at kk
      refine s_ret a (ev_some (ev_tup2 (ea_cons (ev_op (ev_var rfl) ev_int (rv_ixL (by decide) rfl)) (ea_cons (ev_makeN (ea_cons (ev_to (e2 := en rInt j.per) (ev_var rfl) fun v H h => h) (ea_cons (ev_to (e2 := en rInt j.dur) (ev_var rfl) fun v H h => h) ea_nil)) (ea_cons (ev_to (e2 := en rInt j.st) (ev_var rfl) fun v H h => h) (ea_cons (ev_to (e2 := en rInt j.co) (ev_var rfl) fun v H h => h) ea_nil)) rfl rfl kgJob (mk_job j)) ea_nil)))) kk⟩
def S_read_lineB (K : PySem.W.Frag) : Sig := fun es res => ∃ l : Str, es = [en rStr l] ∧ res = en (rOpt (rPair K rStr (rJob K))) (readLine l) ∧ l.length ≤ 10000 ∧ badWs (Txt.split l spT) = true
theorem okg_read_lineB {P : Program} {w : World} {K : PySem.W.Frag} {mg : Str → Option Value} {base : Heap} (T : Tx K mg) {fd : FuncData} (F : FunD K e_read_line.name e_read_line.qual e_read_line.params e_read_line.body e_read_line.scope (e_read_line.dvs K) (e_read_line.kws K) (e_read_line.ad K) fd) : FnOk P w K mg base CX0 5 (ga K "read_line") fd ["line"] (spS (S_read_lineB K)) := by
  obtain ⟨_, G_is_nameX, k_is_nameX, b_is_nameX⟩ := ok_is_nameX (P := P) (w := w) (base := base) T
  obtain ⟨_, G_read_number, k_read_number, b_read_number⟩ := ok_read_number (P := P) (w := w) (base := base) T
  obtain ⟨_, G_Job_initR, k_Job_initR, b_Job_initR⟩ := ok_Job_initR (P := P) (w := w) (base := base) T
  refine fun_ok F sc_read_line (fun es res h => ?l) fun cdv A outer s H E hr => ?b
  case l =>
    obtain ⟨l, rfl, rfl, hl, hb⟩ := h
    all_goals rfl
  case b =>
    have nd : N_read_line.Nodup := sc_read_line.nd
    exact ⟨_, PSs.nox (pss_cons (ps_set (i := 1) nd rfl (by first | exact Or.inl rfl | exact Or.inr rfl) (pe_split (pv 0) pe_str))
    (pss_cons (ps_if (PW.pt (pw_or (pt_cmpR op_ne (pe_callB (call_len_seq : CallR _ _ (rLenQ K)) (by rfl) T.len boot_len (pa_cons (pv 1) pa_nil)) (pe_glob (v := .int 5) (by rfl) (T.g_WORDS).choose_spec ⟨_, rfl⟩) (nomark _)) (pw_or1 (pt_not (pt_val (pe_call G_is_nameX (hr.mono (by decide)) (by rfl) T.mis_name k_is_nameX b_is_nameX .nil pass0 (pa_cons (pe_ix (ix_list : IxR _ (rIxL K)) (pv 1) pe_int (fun _ _ => rfl)) pa_nil))))))) (pss_one (ps_ret pe_non)) pss_nil)
    (pss_cons (ps_asg (pe_lc (own := [("word", 6)]) (by rfl) nd (pi_list (pe_slice (sl_list : SlR _ (rSlL K)) (pv 1) (po_some pe_int) po_none) : PI _ _ _ (iList K _)) (blkOk_by (own := [("word", 6)]) (N := N_read_line) (sc := defScope s_read_line) (by decide +kernel)) (fun _ _ _ _ _ => (pg_name (i := 6) nd rfl (by first | exact Or.inl rfl | exact Or.inr rfl))) (fun _ _ _ _ _ => pts_nil) (fun _ _ _ _ _ => (pe_call G_read_number (hr.mono (by decide)) (by rfl) T.mread_number k_read_number b_read_number .nil pass0 (pa_cons (pv 6) pa_nil)))) (pg_lstK (K := K) (n := 4) rfl rfl (pgs_cons (pg_name (i := 2) nd rfl (by first | exact Or.inl rfl | exact Or.inr rfl)) (pgs_cons (pg_name (i := 3) nd rfl (by first | exact Or.inl rfl | exact Or.inr rfl)) (pgs_cons (pg_name (i := 4) nd rfl (by first | exact Or.inl rfl | exact Or.inr rfl)) (pgs_cons (pg_name (i := 5) nd rfl (by first | exact Or.inl rfl | exact Or.inr rfl)) pgs_nil))))))
    (pss_one (ps_try_only rfl rfl ⟨by rfl, by decide, Or.inl T.mBadJob⟩ takes0 (fun Wx pn xe tk po => pss_one (ps_ret (pe_tup (pa_cons (pe_ix (ix_list : IxR _ (rIxL K)) (pv 1) pe_int (fun _ _ => rfl)) (pa_cons (pe_makeN T.kJob G_Job_initR (hr.mono (by decide)) (by rfl) T.mJob b_Job_initR (passU tk) (pa_cons (pv 2) (pa_cons (pv 3) pa_nil)) (pk_cons (pv 4) (pk_cons (pv 5) pk_nil))) pa_nil))))) (fun a oe cls d pn hz hf => pss_one (ps_ret pe_non))))))), fun es res vs Hk Q hS a kk => by
      obtain ⟨l, rfl, rfl, hl, hb⟩ := hS
      have hsl := PyProof.Rows.split_le l spT
      have hwl : ∀ w ∈ Txt.split l spT, w.length ≤ 40000 := fun w hw => Nat.le_trans (split_len w hw) (by omega)
      refine q_set a (ev_split (ev_var rfl) ev_str (by decide +kernel) (by first | omega | decide | assumption | (have h__ := ‹decide (_ < _) = false›; simp at h__; omega) | (dsimp only; omega) | (simp only [decide_eq_false_iff_not, decide_eq_true_eq, Bool.and_eq_true, Bool.or_eq_false_iff, Bool.not_eq_true] at *; omega))) fun σ1 H1 a => ?_
      unfold readLine at kk
      revert a hb kk hsl hwl
      generalize Txt.split l spT = ws
      intro kk hb hsl hwl a
      simp only [putC, wipeC, List.set_cons_zero, List.set_cons_succ, List.map_cons, List.map_nil, List.cons_append, List.nil_append, List.length_cons, List.length_nil, List.replicate_succ, List.replicate_zero, Nat.reduceAdd, Nat.reduceSub, N_read_line] at a
      by_cases h5 : ws.length = 5
      case neg => rw [badWs_no h5] at hb; cases hb
      obtain ⟨w, x1, x2, x3, x4, rfl⟩ := ws5 h5
      have hw := hwl w (by simp)
      refine q_when a (eb_or (eb_cmp (ev_op (ev_cb (ea_cons (ev_var rfl) ea_nil) rc_lenL) ev_int rv_neI)) (fun h_ => (eb_not (eb_val (ev_call (ea_cons (ev_op (ev_var rfl) ev_int (rv_ixL (by decide) rfl)) ea_nil) ⟨_, rfl, rfl, by first | omega | decide | assumption | (have h__ := ‹decide (_ < _) = false›; simp at h__; omega) | (dsimp only; omega) | (simp only [decide_eq_false_iff_not, decide_eq_true_eq, Bool.and_eq_true, Bool.or_eq_false_iff, Bool.not_eq_true] at *; omega)⟩))))) (fun h H1 a => ?_) (fun h H1 a => ?_)
      · have hn : isNm w = false := by simpa using h
        refine s_ret (e := en (rOpt (rPair K rStr (rJob K))) (readWs [w, x1, x2, x3, x4])) a (ev_eq ev_non ?_) kk
        show none = (if isNm w = true then _ else none)
        rw [hn]
        rfl
      have hn : isNm w = true := by simpa using h
      refine q_tg (vars := [2, 3, 4, 5]) a (ev_eq (y := [readNum x1, readNum x2, readNum x3, readNum x4]) (ev_lc (B := rOpt rInt) _ (fun _ => true) (fun i => readNum (([w, x1, x2, x3, x4] : List Str).drop (1 : Int).toNat |>.getD i default)) (ei_gd (ei_list (ev_slFrom (ev_var rfl) ev_int (by first | omega | decide | assumption | (have h__ := ‹decide (_ < _) = false›; simp at h__; omega) | (dsimp only; omega) | (simp only [decide_eq_false_iff_not, decide_eq_true_eq, Bool.and_eq_true, Bool.or_eq_false_iff, Bool.not_eq_true] at *; omega))))) (by simp) (fun i hi => tg_name (by simp)) (fun i Ω hi => eb_yes) (fun i Ω hi _ => (ev_call (ea_cons (ev_var rfl) ea_nil) ⟨_, rfl, rfl⟩))) (by rfl)) (tg_lst4 (by simp) (by simp) (by simp) (by simp)) fun σ1 H1 a => ?_
      simp only [putC, wipeC, List.set_cons_zero, List.set_cons_succ, List.map_cons, List.map_nil, List.cons_append, List.nil_append, List.length_cons, List.length_nil, List.replicate_succ, List.replicate_zero, Nat.reduceAdd, Nat.reduceSub, N_read_line] at a
      have hb : (isNm w && (jobW (readNum x1) (readNum x2) (readNum x3) (readNum x4)).isNone) = true := hb
      rw [hn, Bool.true_and] at hb
      rw [show readWs [w, x1, x2, x3, x4] = (jobW (readNum x1) (readNum x2) (readNum x3) (readNum x4)).map fun j => (w, j) from if_pos hn] at kk
      revert a hb kk
      generalize readNum x1 = o1
      generalize readNum x2 = o2
      generalize readNum x3 = o3
      generalize readNum x4 = o4
      intro kk a hb
      cases hj : jobW o1 o2 o3 o4 with
      | some j => rw [hj] at hb; cases hb
      | none => ?_
      rw [hj] at kk
      refine s_tryU a (rz_tup2 (ev_op (ev_var rfl) ev_int (rv_ixL (by decide) rfl)) (rz_makeN (Cx' := ga K "BadJob") (ea_cons (ev_to (ev_var rfl) oI_opt) (ea_cons (ev_to (ev_var rfl) oI_opt) ea_nil)) (ea_cons (ev_to (ev_var rfl) oI_opt) (ea_cons (ev_to (ev_var rfl) oI_opt) ea_nil)) rfl rfl kgJob (fun x dx => ⟨x, dx, o1, o2, o3, o4, rfl, rfl, rfl, rfl, hj⟩))) T.xm_BadJob_BadJob fun p d σ2 H2 a => ?_
      obtain ⟨Hk2, a⟩ := a.bare
      exact kk .non H2 _ [] ⟨Hk2, a.push (e := en (rOpt (rPair K rStr (rJob K))) none) rfl⟩⟩
def S_read_line (K : PySem.W.Frag) : Sig := fun es res => ∃ l : Str, es = [en rStr l] ∧ res = en (rOpt (rPair K rStr (rJob K))) (readLine l) ∧ l.length ≤ 10000
theorem ok_read_line {P : Program} {w : World} {K : PySem.W.Frag} {mg : Str → Option Value} {base : Heap} (T : Tx K mg) : Gd P w K mg base 5 (ga K "read_line") ["line"] (spS (S_read_line K)) := by
  obtain ⟨fd, F⟩ := T.h_read_line
  refine ⟨fd, ((fn_orS ((okg_read_lineA T F).mono (by decide)) ((okg_read_lineB T F).mono (by decide))).imp fun vs H Q E ⟨es, res, Hk, hs, r⟩ => ⟨es, res, Hk, ?_, r⟩), F.kp, F.bindsN fun _ _ _ _ _ _ us hl => match us, hl with | [_], _ => rfl⟩
  obtain ⟨l, h1, h2, h3⟩ := hs
  cases hb : badWs (Txt.split l spT) with
  | false => exact .inl ⟨l, h1, h2, h3, hb⟩
  | true => exact .inr ⟨l, h1, h2, h3, hb⟩

def S_line_of (K : PySem.W.Frag) : Sig := fun es res => ∃ p : Str × Jb, es = [en rStr p.1, en (rJob K) p.2] ∧ res = en rStr (lineOf p) ∧ p.1.length ≤ 40
theorem ok_line_of {P : Program} {w : World} {K : PySem.W.Frag} {mg : Str → Option Value} {base : Heap} (T : Tx K mg) : Gd P w K mg base 3 (ga K "line_of") ["name", "job"] (spS (S_line_of K)) := by
  obtain ⟨fd, F⟩ := T.h_line_of
  obtain ⟨_, G_Job_cost, k_Job_cost, b_Job_cost⟩ := ok_Job_cost (P := P) (w := w) (base := base) T
  obtain ⟨_, G_Job_start, k_Job_start, b_Job_start⟩ := ok_Job_start (P := P) (w := w) (base := base) T
  obtain ⟨_, G_Job_duration, k_Job_duration, b_Job_duration⟩ := ok_Job_duration (P := P) (w := w) (base := base) T
  obtain ⟨_, G_Job_period, k_Job_period, b_Job_period⟩ := ok_Job_period (P := P) (w := w) (base := base) T
  refine ⟨fd, ?_, F.kp, F.bindsN fun _ _ _ _ _ _ us hl => match us, hl with | [_, _], _ => rfl⟩
  refine fun_ok F sc_line_of (fun es res h => ?l) fun cdv A outer s H E hr => ?b
  case l =>
    obtain ⟨p, rfl, rfl, hz⟩ := h
    all_goals rfl
  case b =>
    have nd : N_line_of.Nodup := sc_line_of.nd
    exact ⟨_, PSs.nox (pss_one (ps_ret (pe_joined (.cons (pe_fmt (pv 0)) (.cons pe_str (.cons (pe_fmt (pe_prop (pv 1) T.cJob T.pJob_period G_Job_period (hr.mono (by decide)) b_Job_period .nil pass0 rfl)) (.cons pe_str (.cons (pe_fmt (pe_prop (pv 1) T.cJob T.pJob_duration G_Job_duration (hr.mono (by decide)) b_Job_duration .nil pass0 rfl)) (.cons pe_str (.cons (pe_fmt (pe_prop (pv 1) T.cJob T.pJob_start G_Job_start (hr.mono (by decide)) b_Job_start .nil pass0 rfl)) (.cons pe_str (.cons (pe_fmt (pe_prop (pv 1) T.cJob T.pJob_cost G_Job_cost (hr.mono (by decide)) b_Job_cost .nil pass0 rfl)) (.cons pe_str .nil))))))))))))), fun es res vs Hk Q hS a kk => by
      obtain ⟨p, rfl, rfl, hz⟩ := hS
      have hj := p.2.ok
      have f := @num_free
      have h2 := (f (n := p.2.per) (by omega)).2.2
      have h3 := (f (n := p.2.dur) (by omega)).2.2
      have h4 := (f (n := p.2.st) (by omega)).2.2
      have h5 := (f (n := p.2.co) (by omega)).2.2
      have hs2 : (" " : Str).length = 1 := by decide +kernel
      have hs3 : ("\n" : Str).length = 1 := by decide +kernel
      have he : Str.empty.length = 0 := rfl
      refine s_ret a (ev_eq (ev_fs (evj_cons (ev_fmtS (ev_var rfl) (by first | omega | decide | assumption | (have h__ := ‹decide (_ < _) = false›; simp at h__; omega) | (dsimp only; omega) | (simp only [decide_eq_false_iff_not, decide_eq_true_eq, Bool.and_eq_true, Bool.or_eq_false_iff, Bool.not_eq_true] at *; omega))) ?_ (evj_cons ev_str ?_ (evj_cons (ev_fmtI (ev_prop isJob (ev_var rfl) ⟨_, rfl, rfl⟩) (by first | omega | decide | assumption | (have h__ := ‹decide (_ < _) = false›; simp at h__; omega) | (dsimp only; omega) | (simp only [decide_eq_false_iff_not, decide_eq_true_eq, Bool.and_eq_true, Bool.or_eq_false_iff, Bool.not_eq_true] at *; omega))) ?_ (evj_cons ev_str ?_ (evj_cons (ev_fmtI (ev_prop isJob (ev_var rfl) ⟨_, rfl, rfl⟩) (by first | omega | decide | assumption | (have h__ := ‹decide (_ < _) = false›; simp at h__; omega) | (dsimp only; omega) | (simp only [decide_eq_false_iff_not, decide_eq_true_eq, Bool.and_eq_true, Bool.or_eq_false_iff, Bool.not_eq_true] at *; omega))) ?_ (evj_cons ev_str ?_ (evj_cons (ev_fmtI (ev_prop isJob (ev_var rfl) ⟨_, rfl, rfl⟩) (by first | omega | decide | assumption | (have h__ := ‹decide (_ < _) = false›; simp at h__; omega) | (dsimp only; omega) | (simp only [decide_eq_false_iff_not, decide_eq_true_eq, Bool.and_eq_true, Bool.or_eq_false_iff, Bool.not_eq_true] at *; omega))) ?_ (evj_cons ev_str ?_ (evj_cons (ev_fmtI (ev_prop isJob (ev_var rfl) ⟨_, rfl, rfl⟩) (by first | omega | decide | assumption | (have h__ := ‹decide (_ < _) = false›; simp at h__; omega) | (dsimp only; omega) | (simp only [decide_eq_false_iff_not, decide_eq_true_eq, Bool.and_eq_true, Bool.or_eq_false_iff, Bool.not_eq_true] at *; omega))) ?_ (evj_cons ev_str ?_ evj_nil))))))))))) ?eq) kk
      case eq =>
        unfold lineOf lineB
        refine str_ext ?_
        simp only [Str.join, cps_app, List.append_assoc, show Str.empty.cps.toList = [] from rfl, List.nil_append]
      all_goals (simp only [len_app]; omega)⟩
def S_timetable_text (K : PySem.W.Frag) : Sig := fun es res => ∃ m : List (Str × Jb), es = [en (rTab K) m] ∧ res = en rStr (textOf m)
theorem ok_timetable_text {P : Program} {w : World} {K : PySem.W.Frag} {mg : Str → Option Value} {base : Heap} (T : Tx K mg) : Gd P w K mg base 5 (ga K "timetable_text") ["timetable"] (spS (S_timetable_text K)) := by
  obtain ⟨fd, F⟩ := T.h_timetable_text
  obtain ⟨_, G_check_timetable, k_check_timetable, b_check_timetable⟩ := ok_check_timetable (P := P) (w := w) (base := base) T
  obtain ⟨_, G_Timetable_names, k_Timetable_names, b_Timetable_names⟩ := ok_Timetable_names (P := P) (w := w) (base := base) T
  obtain ⟨_, G_Timetable_getitem, k_Timetable_getitem, b_Timetable_getitem⟩ := ok_Timetable_getitem (P := P) (w := w) (base := base) T
  obtain ⟨_, G_line_of, k_line_of, b_line_of⟩ := ok_line_of (P := P) (w := w) (base := base) T
  refine ⟨fd, ?_, F.kp, F.bindsN fun _ _ _ _ _ _ us hl => match us, hl with | [_], _ => rfl⟩
  refine fun_ok F sc_timetable_text (fun es res h => ?l) fun cdv A outer s H E hr => ?b
  case l =>
    obtain ⟨m, rfl, rfl⟩ := h
    all_goals rfl
  case b =>
    have nd : N_timetable_text.Nodup := sc_timetable_text.nd
    exact ⟨_, PSs.nox (pss_cons (ps_expr (pe_call G_check_timetable (hr.mono (by decide)) (by rfl) T.mcheck_timetable k_check_timetable b_check_timetable .nil pass0 (pa_cons (pv 0) pa_nil)))
    (pss_one (ps_ret (pe_join pe_str (pe_lc (own := [("name", 1)]) (by rfl) nd (pi_list (pe_prop (pv 0) T.cTimetable T.pTimetable_names G_Timetable_names (hr.mono (by decide)) b_Timetable_names .nil pass0 rfl) : PI _ _ _ (iList K _)) (blkOk_by (own := [("name", 1)]) (N := N_timetable_text) (sc := defScope s_timetable_text) (by decide +kernel)) (fun _ _ _ _ _ => (pg_name (i := 1) nd rfl (by first | exact Or.inl rfl | exact Or.inr rfl))) (fun _ _ _ _ _ => pts_nil) (fun _ _ _ _ _ => (pe_call G_line_of (hr.mono (by decide)) (by rfl) T.mline_of k_line_of b_line_of .nil pass0 (pa_cons (pv 1) (pa_cons (pe_ixO T.xTimetable_getitem G_Timetable_getitem (hr.mono (by decide)) b_Timetable_getitem .nil pass0 (pv 0) (pv 1) (fun _ _ => rfl)) pa_nil))))) : PE _ _ (tM1 (rJoinK K) _ _))))), fun es res vs Hk Q hS a kk => by
      obtain ⟨m, rfl, rfl⟩ := hS
      simp only [putC, wipeC, List.set_cons_zero, List.set_cons_succ, List.map_cons, List.map_nil, List.cons_append, List.nil_append, List.length_cons, List.length_nil, List.replicate_succ, List.replicate_zero, Nat.reduceAdd, Nat.reduceSub, N_timetable_text] at a
      have hm := a.tab 0
      have h4 := hm.n4
      refine q_drop a (ev_call (ea_cons (ev_var rfl) ea_nil) ⟨_, rfl, rfl⟩) fun H1 a => ?_
      refine s_ret a (ev_eq (ev_join (K := K) (ys := m.map lineOf) ev_str (ev_eq (ev_lc (B := rStr) _ (fun _ => true) (fun i => lineOf (m.getD i default)) (ei_is (ei_gd (ei_list (ev_prop isTab (ev_var rfl) ⟨_, rfl, rfl⟩))) (es' := fun i => en rStr (m.getD i default).1) fun i hi => ?wa) (by rw [List.length_map]; omega) (fun i hi => tg_name (by simp)) (fun i Ω hi => eb_yes) (fun i Ω hi _ => ?wb)) ?wc) ?wd) (show Str.join "" _ = textOf m from rfl)) kk
      case wa => rw [names_getD _ (by rw [List.length_map] at hi; exact hi)]
      case wb =>
        rw [List.length_map] at hi
        have hl := lookup_getD hm.nd hi
        have hn := hm.nm _ (mem_getD hi)
        have hz := (nm_free hn).2.2.1
        exact (ev_call (ea_cons (ev_var rfl) (ea_cons (ev_op (ev_var rfl) (ev_var rfl) (rv_oget isTab ⟨_, _, _, rfl, rfl, by assumption⟩)) ea_nil)) ⟨_, rfl, rfl, by first | omega | decide | assumption | (have h__ := ‹decide (_ < _) = false›; simp at h__; omega) | (dsimp only; omega) | (simp only [decide_eq_false_iff_not, decide_eq_true_eq, Bool.and_eq_true, Bool.or_eq_false_iff, Bool.not_eq_true] at *; omega)⟩)
      case wc => rw [List.length_map]; exact given_getDT lineOf m
      case wd =>
        have h1 := lines_len (ys := m.map lineOf) (n := 25) fun y hy => by
          obtain ⟨p, hp, rfl⟩ := List.mem_map.mp hy
          exact lineOf_len (hm.nm p hp)
        have h2 : ("" : Str).length = 0 := by rw [emT_eq]; rfl
        rw [List.length_map] at h1 ⊢
        rw [h2]
        omega⟩
def S_check_jobsN (K : PySem.W.Frag) : SigF := fun es Ω C e Ω' => ∃ m : List (Str × Jb), es = [en (rDict (rJob K)) m] ∧ Ω = [] ∧ C = ga K "BadTimetable" ∧ e = en (rXd "part" rNon) () ∧ Ω' = [] ∧ (m.map (·.1)).Nodup ∧ (∀ p ∈ m, isNm p.1 = true) ∧ (4 < m.length ∨ 2000 < prodP m) ∧ 1 ≤ m.length ∧ m.length ≤ 30000
theorem ok_check_jobsN {P : Program} {w : World} {K : PySem.W.Frag} {mg : Str → Option Value} {base : Heap} (T : Tx K mg) (hP : FileOk P) : GdFN P w K mg base 4 (ga K "check_jobs") ["jobs"] (spF (S_check_jobsN K)) := by
  obtain ⟨fd, F⟩ := T.h_check_jobs
  obtain ⟨_, G_is_between, k_is_between, b_is_between⟩ := ok_is_between (P := P) (w := w) (base := base) T
  obtain ⟨_, G_is_name, k_is_name, b_is_name⟩ := ok_is_name (P := P) (w := w) (base := base) T
  obtain ⟨_, G_Job_period, k_Job_period, b_Job_period⟩ := ok_Job_period (P := P) (w := w) (base := base) T
  refine ⟨fd, ?_, F.kp, F.bindsN fun _ _ _ _ _ _ us hl => match us, hl with | [_], _ => rfl⟩
  refine fun_okFN F sc_check_jobs (fun es Ω C e Ω' h => ?l) fun cdv A outer s H E hr => ?b
  case l =>
    obtain ⟨m, rfl, rfl, rfl, rfl, rfl, hnd, hnm, hbad, h1, h3⟩ := h
    all_goals rfl
  case b =>
    have nd : N_check_jobs.Nodup := sc_check_jobs.nd
    exact ⟨_, (pss_cons (ps_if (PW.pt (pw_or (pt_not (pt_val (pe_callB (call_isi : CallR _ _ (rIsi K)) (by rfl) T.isinstance (by decide +kernel) (pa_cons (pv 0) (pa_cons (pe_bltn (v := .ty "dict") (by rfl) T.dict (by decide +kernel) rfl) pa_nil))))) (pw_or1 (pt_not (pt_val (pe_call G_is_between (hr.mono (by decide)) (by rfl) T.mis_between k_is_between b_is_between .nil pass0 (pa_cons (pe_callB call_lenR (by rfl) T.len boot_len (pa_cons (pv 0) pa_nil)) (pa_cons pe_int (pa_cons (pe_glob (v := .int 4) (by rfl) (T.g_MOST_JOBS).choose_spec ⟨_, rfl⟩) pa_nil))))))))) (pss_one (ps_rz0 (by rfl) tk_cxN T.sBadTimetable (ok_sBadTimetable0 (P := P) (w := w) (base := base) T hP) (hr.mono (by decide)) (by rfl) T.mBadTimetable)) pss_nil)
    (pss_cons (ps_lk (ps_for own_cxN rfl (pi_items (pv 0)) (pg_tup rfl (pgs_cons (pg_name (i := 1) nd rfl (by first | exact Or.inl rfl | exact Or.inr rfl)) (pgs_cons (pg_name (i := 2) nd rfl (by first | exact Or.inl rfl | exact Or.inr rfl)) pgs_nil)))
    (pss_one (ps_if (PW.pt (pw_or (pt_not (pt_val (pe_call G_is_name (hr.mono (by decide)) (by rfl) T.mis_name k_is_name b_is_name .nil pass0 (pa_cons (pv 1) pa_nil)))) (pw_or1 (pt_not (pt_val (pe_callB (call_isi : CallR _ _ (rIsi K)) (by rfl) T.isinstance (by decide +kernel) (pa_cons (pv 2) (pa_cons (pe_glob (v := .ref (ga K "Job")) (by rfl) T.mJob rfl) pa_nil)))))))) (pss_one ps_never) pss_nil))))
    (pss_cons (ps_set (i := 3) nd rfl (by first | exact Or.inl rfl | exact Or.inr rfl) pe_int)
    (pss_cons (ps_lk (ps_for own_cxN rfl (pi_keys (pv 0)) (pg_name (i := 1) nd rfl (by first | exact Or.inl rfl | exact Or.inr rfl))
    (pss_one (ps_set (i := 3) nd rfl (by first | exact Or.inl rfl | exact Or.inr rfl) (pe_op op_mul (pv 3) (pe_prop (pe_dget (runits1 hr) (pv 0) (pv 1) (fun _ _ => rfl)) T.cJob T.pJob_period G_Job_period (hr.mono (by decide)) b_Job_period .nil pass0 rfl))))))
    (pss_one (ps_if (pt_cmpR op_gt (pv 3) (pe_glob (v := .int 2000) (by rfl) (T.g_LARGEST_PRODUCT).choose_spec ⟨_, rfl⟩) (nomark _)) (pss_one (ps_rz0 (by rfl) tk_cxN T.sBadTimetable (ok_sBadTimetable0 (P := P) (w := w) (base := base) T hP) (hr.mono (by decide)) (by rfl) T.mBadTimetable)) pss_nil)))))), fun es Ω C e Ω' vs Hk D hS a kk => by
      obtain ⟨m, rfl, rfl, rfl, rfl, rfl, hnd, hnm, hbad, h1, h3⟩ := hS
      refine q_when a (eb_or (eb_not (eb_val (ev_cb (ea_cons (ev_var rfl) (ea_cons ev_val ea_nil)) (ii_dict)))) (fun h_ => (eb_not (eb_val (ev_call (ea_cons (ev_cb (ea_cons (ev_var rfl) ea_nil) rc_lenD) (ea_cons ev_int (ea_cons ev_int ea_nil))) ⟨_, _, _, rfl, rfl⟩))))) (fun h H1 a => s_rz0 (A := rNon) (x := ()) a (fun _ => rfl) fun d H' a' => kk H' d _ _ _ a') (fun h H1 a => ?_)
      have h4 : m.length ≤ 4 := by simp at h; omega
      have hbad : 2000 < prodP m := by omega
      refine q_lk (Γn := [some (en (rDict (rJob K)) m), none, none, none]) (Ωn := []) (Tn := []) a (dloc_var (i := 0) rfl) (fun σ1 H1 a => ?_) fun W' Hk' H' D' lk a nx _ => ?l1
      case l1 =>
        refine s_forB (fun _ => [some (en (rDict (rJob K)) m), none, none, none]) (fun _ => []) (fun _ => True) lk a (ei_gd (ei_items (K := K))) ⟨True.intro, fun _ _ _ a => a⟩ (fun T1 i x σ1 H1 hi _ a => ?_) (fun _ σ1 H1 a => nx _ _ (a.sub (by simp)))
        refine (tg_pairD (vs := [1, 2]) (by simp) (by simp)) _ _ _ _ _ _ _ _ a _ fun σ1 a _ => ?_
        have hn := hnm _ (mem_getD hi)
        exact s_not a (eb_or (eb_not (eb_val (ev_call (ea_cons (ev_var rfl) ea_nil) ⟨_, rfl, rfl, by assumption⟩))) (fun h_ => (eb_not (eb_val (ev_cb (ea_cons (ev_var rfl) (ea_cons ev_val ea_nil)) (ty_own isJob T.cJob T.iJob)))))) (by simp) fun H1 a => ⟨True.intro, (a.off 1).off 2⟩
      refine q_set a ev_int fun σ1 H1 a => ?_
      refine q_lk (Γn := [some (en (rDict (rJob K)) m), none, none, some (en rInt (prodP m))]) (Ωn := []) (Tn := []) a (dloc_var (i := 0) rfl) (fun σ1 H1 a => ?_) fun W' Hk' H' D' lk a nx _ => ?l2
      case l2 =>
        refine s_forB (fun i => [some (en (rDict (rJob K)) m), none, none, some (en rInt (prodP (m.take i)))]) (fun _ => []) (fun _ => True) lk a (ei_gdK ei_keys) ⟨True.intro, fun _ _ _ a => a⟩ (fun T1 i x σ1 H1 hi _ a => ?_) (fun _ σ1 H1 a => nx _ _ ((by rw [List.take_of_length_le (Nat.le_refl _)] at a; exact a : At _ _ _ _ _ _ _ _).sub (by simp)))
        refine (tg_nameD (vs := [1]) (by simp)) _ _ _ _ _ _ _ _ a _ fun σ1 a _ => ?_
        have hl := lookup_getD hnd hi
        have hj := (m.getD i default).2.ok
        refine s_set a (ev_eq (ev_op (ev_var rfl) (ev_prop isJob (ev_dget (ev_var rfl) (ev_var rfl) (by first | omega | decide | assumption | (have h__ := ‹decide (_ < _) = false›; simp at h__; omega) | (dsimp only; omega) | (simp only [decide_eq_false_iff_not, decide_eq_true_eq, Bool.and_eq_true, Bool.or_eq_false_iff, Bool.not_eq_true] at *; omega))) ⟨_, rfl, rfl⟩) (rv_mul (by first | exact Or.inl ⟨by omega, by omega⟩ | exact Or.inr ⟨by omega, by omega⟩))) (prodP_take hi)) fun σ2 H2 a => ⟨True.intro, a.off 1⟩
      refine s_if a (eb_cmp (ev_op (ev_var rfl) ev_int rv_gt)) (fun h H1 a => s_rz0 (A := rNon) (x := ()) a (fun _ => rfl) fun d H' a' => kk H' d _ _ _ a') (fun h H1 a => ?_)
      simp at h
      omega⟩
def S_Timetable_initN (K : PySem.W.Frag) : SigF := fun es Ω C e Ω' => ∃ (x dx : Addr) (m : List (Str × Jb)), es = [en rVal (.ref x), en (rDict (rJob K)) m] ∧ Ω = [ic (cT K) x dx []] ∧ C = ga K "BadTimetable" ∧ e = en (rXd "part" rNon) () ∧ Ω' = [] ∧ (m.map (·.1)).Nodup ∧ (∀ p ∈ m, isNm p.1 = true) ∧ (4 < m.length ∨ 2000 < prodP m) ∧ 1 ≤ m.length ∧ m.length ≤ 30000
theorem ok_Timetable_initN {P : Program} {w : World} {K : PySem.W.Frag} {mg : Str → Option Value} {base : Heap} (T : Tx K mg) (hP : FileOk P) : GdFN P w K mg base 5 (ma K (ga K "Timetable") "__init__") ["self", "jobs"] (spF (S_Timetable_initN K)) := by
  obtain ⟨fd, F⟩ := T.h_Timetable_init
  obtain ⟨_, G_check_jobsN, k_check_jobsN, b_check_jobsN⟩ := ok_check_jobsN (P := P) (w := w) (base := base) T hP
  refine ⟨fd, ?_, F.kp, F.bindsN fun _ _ _ _ _ _ us hl => match us, hl with | [_, _], _ => rfl⟩
  refine fun_okFN F sc_Timetable_init (fun es Ω C e Ω' h => ?l) fun cdv A outer s H E hr => ?b
  case l =>
    obtain ⟨x, dx, m, rfl, rfl, rfl, rfl, rfl, hnd, hnm, hbad, h1, h3⟩ := h
    all_goals rfl
  case b =>
    have nd : N_Timetable_init.Nodup := sc_Timetable_init.nd
    exact ⟨_, (pss_cons (ps_expr (pe_callS G_check_jobsN (hr.mono (by decide)) (by rfl) T.mcheck_jobs k_check_jobsN b_check_jobsN (fun σ => L2N.passAt tk_cxN σ) (pa_cons (pv 1) pa_nil)))
    (pss_one (ps_fld (pv 0) (pe_lk (pe_dc (own := [("name", 2)]) (by rfl) nd (pi_keys (pv 1)) (blkOk_by (own := [("name", 2)]) (N := N_Timetable_init) (sc := defScope s_Timetable_init) (by decide +kernel)) (fun _ _ _ _ _ => (pg_name (i := 2) nd rfl (by first | exact Or.inl rfl | exact Or.inr rfl))) (fun _ _ _ _ _ => pts_nil) (fun _ _ _ _ _ => (pv 2)) (fun _ _ _ _ _ => (pe_dget (runits1 hr) (pv 1) (pv 2) (fun _ _ => rfl))))) rfl))), fun es Ω C e Ω' vs Hk D hS a kk => by
      obtain ⟨x, dx, m, rfl, rfl, rfl, rfl, rfl, hnd, hnm, hbad, h1, h3⟩ := hS
      refine s_dropF (Wx := fun cls d _ H' => E cls d H') (D := { D with nx := _ }) a (rz_callS (Ω1 := []) (Ω2 := [ic (cT K) x dx []]) (ea_cons (ev_var rfl) ea_nil) ⟨m, rfl, rfl, rfl, rfl, rfl, hnd, hnm, hbad, h1, h3⟩) fun H' d a' => kk H' d _ _ _ a'.dropC⟩
def S_table_of (K : PySem.W.Frag) : Sig := fun es res => ∃ m : List (Str × Jb), es = [en (rList (rPair K rStr (rJob K))) m] ∧ res = en (rTab K) m ∧ TbOk m
theorem ok_table_of {P : Program} {w : World} {K : PySem.W.Frag} {mg : Str → Option Value} {base : Heap} (T : Tx K mg) : Gd P w K mg base 7 (ga K "table_of") ["named"] (spS (S_table_of K)) := by
  obtain ⟨fd, F⟩ := T.h_table_of
  obtain ⟨_, G_Timetable_init, k_Timetable_init, b_Timetable_init⟩ := ok_Timetable_init (P := P) (w := w) (base := base) T
  refine ⟨fd, ?_, F.kp, F.bindsN fun _ _ _ _ _ _ us hl => match us, hl with | [_], _ => rfl⟩
  refine fun_ok F sc_table_of (fun es res h => ?l) fun cdv A outer s H E hr => ?b
  case l =>
    obtain ⟨m, rfl, rfl, hm⟩ := h
    all_goals rfl
  case b =>
    have nd : N_table_of.Nodup := sc_table_of.nd
    exact ⟨_, PSs.nox (pss_cons (ps_setDc (i := 1) (own := [("name", 2), ("job", 3)]) rfl nd rfl rfl (swD_true rfl rfl rfl (by decide +kernel)) (pi_list (pv 0) : PI _ _ _ (iList K _)) (blkOk_by (own := [("name", 2), ("job", 3)]) (N := N_table_of) (sc := defScope s_table_of) (by decide +kernel)) (fun _ _ _ _ _ => (pg_tupK (K := K) (n := 2) rfl rfl (pgs_cons (pg_name (i := 2) nd rfl (by first | exact Or.inl rfl | exact Or.inr rfl)) (pgs_cons (pg_name (i := 3) nd rfl (by first | exact Or.inl rfl | exact Or.inr rfl)) pgs_nil)))) (fun _ _ _ _ _ => pts_nil) (fun _ _ _ _ _ => (pv 2)) (fun _ _ _ _ _ => (pv 3)))
    (pss_cons (ps_if (pt_cmpR op_ne (pe_callB call_lenR (by rfl) T.len boot_len (pa_cons (pv 1) pa_nil)) (pe_callB (call_len_seq : CallR _ _ (rLenQ K)) (by rfl) T.len boot_len (pa_cons (pv 0) pa_nil)) (nomark _)) (pss_one ps_never) pss_nil)
    (pss_one (ps_try_thru0 (pss_one (ps_ret (pe_make T.kTimetable G_Timetable_init (hr.mono (by decide)) (by rfl) T.mTimetable b_Timetable_init .nil pass0 (pa_cons (pv 1) pa_nil)))))))), fun es res vs Hk Q hS a kk => by
      obtain ⟨m, rfl, rfl, hm⟩ := hS
      have h4 := hm.n4
      refine q_set a (ev_eq (EvX.ev (ev_dcD (B := rJob K) _ (fun i => (m.getD i default).1) (fun i => (m.getD i default).2) (ei_gd (ei_list (ev_var rfl))) (by omega) (fun i hi => tg_pairD (by simp) (by simp)) (fun i Ω hi => ev_var rfl) (fun i Ω hi => ev_var rfl))) (y := dictL m) (congrArg dictL ((range_getD (fun p => p) m).trans (List.map_id m)))) fun σ1 H1 a => ?_
      rw [dictL_nd hm.nd] at a
      refine q_not a (eb_cmp (ev_op (ev_cb (ea_cons (ev_var rfl) ea_nil) rc_lenD) (ev_cb (ea_cons (ev_var rfl) ea_nil) rc_lenL) rv_neI)) (by simp) fun H1 a => ?_
      refine s_ret a (ev_make (ds := []) (ea_cons (ev_var rfl) ea_nil) ?_) kk
      exact mk_tab hm⟩
def S_table_ofF (K : PySem.W.Frag) : SigF := fun es Ω C e Ω' => ∃ m : List (Str × Jb), es = [en (rList (rPair K rStr (rJob K))) m] ∧ Ω = [] ∧ C = ga K "BadText" ∧ e = en (rXd "row" rInt) 0 ∧ Ω' = [] ∧ tbB m = false ∧ (∀ p ∈ m, isNm p.1 = true) ∧ 1 ≤ m.length ∧ m.length ≤ 30000
theorem ok_table_ofF {P : Program} {w : World} {K : PySem.W.Frag} {mg : Str → Option Value} {base : Heap} (T : Tx K mg) (hP : FileOk P) : GdF P w K mg base 7 (ga K "table_of") ["named"] (spF (S_table_ofF K)) := by
  obtain ⟨fd, F⟩ := T.h_table_of
  obtain ⟨_, G_Timetable_initN, k_Timetable_initN, b_Timetable_initN⟩ := ok_Timetable_initN (P := P) (w := w) (base := base) T hP
  refine ⟨fd, ?_, F.kp, F.bindsN fun _ _ _ _ _ _ us hl => match us, hl with | [_], _ => rfl⟩
  refine fun_okF F sc_table_of (fun es Ω C e Ω' h => ?l) fun cdv A outer s H E hr => ?b
  case l =>
    obtain ⟨m, rfl, rfl, rfl, rfl, rfl, hb, hnm, h1, h3⟩ := h
    all_goals rfl
  case b =>
    have nd : N_table_of.Nodup := sc_table_of.nd
    exact ⟨_, (pss_cons (ps_setDc (i := 1) (own := [("name", 2), ("job", 3)]) rfl nd rfl rfl (swD_true rfl rfl rfl (by decide +kernel)) (pi_list (pv 0) : PI _ _ _ (iList K _)) (blkOk_by (own := [("name", 2), ("job", 3)]) (N := N_table_of) (sc := defScope s_table_of) (by decide +kernel)) (fun _ _ _ _ _ => (pg_tupK (K := K) (n := 2) rfl rfl (pgs_cons (pg_name (i := 2) nd rfl (by first | exact Or.inl rfl | exact Or.inr rfl)) (pgs_cons (pg_name (i := 3) nd rfl (by first | exact Or.inl rfl | exact Or.inr rfl)) pgs_nil)))) (fun _ _ _ _ _ => pts_nil) (fun _ _ _ _ _ => (pv 2)) (fun _ _ _ _ _ => (pv 3)))
    (pss_cons (ps_if (pt_cmpR op_ne (pe_callB call_lenR (by rfl) T.len boot_len (pa_cons (pv 1) pa_nil)) (pe_callB (call_len_seq : CallR _ _ (rLenQ K)) (by rfl) T.len boot_len (pa_cons (pv 0) pa_nil)) (nomark _)) (pss_one (ps_rzF (by rfl) tk_cx T.sBadText (ok_sBadText (P := P) (w := w) (base := base) T hP) T.sBadText.ob (hr.mono (by decide)) (by rfl) T.mBadText pe_int)) pss_nil)
    (pss_one (L2H.ps_try_onlyX rfl rfl ⟨by rfl, by decide, Or.inl T.mBadTimetable⟩ (fun hd => L2H.passesAt_of rfl hd) tk_cx (fun Wx pn xe tk _ po => pss_one (ps_ret (pe_make T.kTimetable G_Timetable_initN (hr.mono (by decide)) (by rfl) T.mTimetable b_Timetable_initN .nil (passUN tk) (pa_cons (pv 1) pa_nil)))) (fun a oe cls d pn hz hf tk hc => pss_one (ps_rzHN hc tk T.sBadText (ok_sBadTextH (P := P) (w := w) (base := base) T hP) (L2H.roomH_mark (hr.mono (by decide)) _) (by rfl) T.mBadText pe_int)))))), fun es Ω C e Ω' vs Hk D hS a kk => by
      obtain ⟨m, rfl, rfl, rfl, rfl, rfl, hb, hnm, h1, h3⟩ := hS
      have hdl := dictL_len m
      refine q_set a (ev_eq (EvX.ev (ev_dcD (B := rJob K) _ (fun i => (m.getD i default).1) (fun i => (m.getD i default).2) (ei_gd (ei_list (ev_var rfl))) (by omega) (fun i hi => tg_pairD (by simp) (by simp)) (fun i Ω hi => ev_var rfl) (fun i Ω hi => ev_var rfl))) (y := dictL m) (congrArg dictL ((range_getD (fun p => p) m).trans (List.map_id m)))) fun σ1 H1 a => ?_
      by_cases hnd : (m.map (·.1)).Nodup
      case neg =>
        have hlt := dictL_dup hnd
        refine q_when a (eb_cmp (ev_op (ev_cb (ea_cons (ev_var rfl) ea_nil) rc_lenD) (ev_cb (ea_cons (ev_var rfl) ea_nil) rc_lenL) rv_neI)) (fun h H1 a => ?_) (fun h H1 a => ?_)
        · exact s_rzF a (ev_eq (x := (0 : Int)) ev_int rfl) fun d H' a' => kk H' d _ _ _ a'
        · simp at h
          omega
      rw [dictL_nd hnd] at a
      refine q_not a (eb_cmp (ev_op (ev_cb (ea_cons (ev_var rfl) ea_nil) rc_lenD) (ev_cb (ea_cons (ev_var rfl) ea_nil) rc_lenL) rv_neI)) (by simp) fun H1 a => ?_
      have hbad : 4 < m.length ∨ 2000 < prodP m := by
        unfold tbB at hb
        rw [decide_eq_true hnd, Bool.true_and, Bool.and_eq_false_iff, decide_eq_false_iff_not, decide_eq_false_iff_not] at hb
        omega
      refine s_tryU a (rz_make (Cx' := ga K "BadTimetable") (ea_cons (ev_var rfl) ea_nil) (fun x dx => ⟨x, dx, m, rfl, rfl, rfl, rfl, rfl, hnd, hnm, hbad, h1, h3⟩)) T.xm_BadTimetable_BadTimetable fun p d σ2 H2 a => ?_
      have a0 := a.bare
      show tRzF (ga K "BadText") "row" (tC (.int 0)) (fun cls d _ H' => E cls d H') D [] H2
      exact s_rzF (A := rInt) (x := 0) a0 (ev_c fun _ => rfl) fun d H' a' => kk H' d _ _ _ a'⟩
def S_read_timetable (K : PySem.W.Frag) : Sig := fun es res => ∃ (t : Str) (m : List (Str × Jb)), es = [en rStr t] ∧ res = en (rTab K) m ∧ readT t = .ok m ∧ t.length ≤ 10000
theorem ok_read_timetable {P : Program} {w : World} {K : PySem.W.Frag} {mg : Str → Option Value} {base : Heap} (T : Tx K mg) : Gd P w K mg base 8 (ga K "read_timetable") ["text"] (spS (S_read_timetable K)) := by
  obtain ⟨fd, F⟩ := T.h_read_timetable
  obtain ⟨_, G_read_line, k_read_line, b_read_line⟩ := ok_read_line (P := P) (w := w) (base := base) T
  obtain ⟨_, G_table_of, k_table_of, b_table_of⟩ := ok_table_of (P := P) (w := w) (base := base) T
  refine ⟨fd, ?_, F.kp, F.bindsN fun _ _ _ _ _ _ us hl => match us, hl with | [_], _ => rfl⟩
  refine fun_ok F sc_read_timetable (fun es res h => ?l) fun cdv A outer s H E hr => ?b
  case l =>
    obtain ⟨t, m, rfl, rfl, hr, ht⟩ := h
    all_goals rfl
  case b =>
    have nd : N_read_timetable.Nodup := sc_read_timetable.nd
    exact ⟨_, PSs.nox (pss_cons (ps_if (pt_not (pt_val (pe_callB (call_isi : CallR _ _ (rIsi K)) (by rfl) T.isinstance (by decide +kernel) (pa_cons (pv 0) (pa_cons (pe_bltn (v := .ty "str") (by rfl) T.str (by decide +kernel) rfl) pa_nil))))) (pss_one ps_never) pss_nil)
    (pss_cons (ps_asg (pe_split (pv 0) pe_str) (pg_star (K := K) rfl rfl (pg_name (i := 1) nd rfl (by first | exact Or.inl rfl | exact Or.inr rfl)) (pg_name (i := 2) nd rfl (by first | exact Or.inl rfl | exact Or.inr rfl))))
    (pss_cons (ps_set (i := 3) nd rfl (by first | exact Or.inl rfl | exact Or.inr rfl) (pe_lst pa_nil))
    (pss_cons (ps_for PassesOwn.never rfl (pi_enum (by rfl) T.enumerate (pa_cons (pv 1) pa_nil) : PI _ _ _ (iEnum K _)) (pg_tup rfl (pgs_cons (pg_name (i := 4) nd rfl (by first | exact Or.inl rfl | exact Or.inr rfl)) (pgs_cons (pg_name (i := 5) nd rfl (by first | exact Or.inl rfl | exact Or.inr rfl)) pgs_nil)))
    (pss_cons (ps_set (i := 6) nd rfl (by first | exact Or.inl rfl | exact Or.inr rfl) (pe_call G_read_line (hr.mono (by decide)) (by rfl) T.mread_line k_read_line b_read_line .nil pass0 (pa_cons (pv 5) pa_nil)))
    (pss_cons (ps_if (pt_cmp (pc_isN (pv 6)) rfl) (pss_one ps_never) pss_nil)
    (pss_one (ps_expr (pe_bm PySem.F.plainAttrs_list PySem.F.slot_list_append PySem.F.type_list_append mt_append (pv 3) (pa_cons (pv 6) pa_nil)))))))
    (pss_cons (ps_if (PW.pt (pw_or (pt_not (pt_truthR (pv 1) tru_ok (fun _ => rfl) : PT _ _ (tTruK K _))) (pw_or1 (pt_cmpR op_ne (pv 2) pe_str (nomark _))))) (pss_one ps_never) pss_nil)
    (pss_one (ps_ret (pe_call G_table_of (hr.mono (by decide)) (by rfl) T.mtable_of k_table_of b_table_of .nil pass0 (pa_cons (pv 3) pa_nil))))))))), fun es res vs Hk Q hS a kk => by
      obtain ⟨t, m, rfl, rfl, hr, ht⟩ := hS
      have hsl := PyProof.Rows.split_le t nlT
      have hne := split_ne t nlT
      have hwl : ∀ w ∈ Txt.split t nlT, w.length ≤ 10000 := fun w hw => Nat.le_trans (split_len w hw) (by omega)
      have hsp : Txt.split t nlT = (Txt.split t nlT).dropLast ++ [(Txt.split t nlT).getLastD ""] := last_of hne
      unfold readT at hr
      have hll : (Txt.split t nlT).dropLast.length < 10010 := by rw [List.length_dropLast]; omega
      have hlw : ∀ w ∈ (Txt.split t nlT).dropLast, w.length ≤ 10000 := fun w hw => hwl w (List.dropLast_subset _ hw)
      refine q_not a (eb_not (eb_val (ev_cb (ea_cons (ev_var rfl) (ea_cons ev_val ea_nil)) (ii_str)))) (by simp) fun H1 a => ?_
      refine q_star a (ev_eq (ev_split (ev_var rfl) ev_str (by decide +kernel) (by first | omega | decide | assumption | (have h__ := ‹decide (_ < _) = false›; simp at h__; omega) | (dsimp only; omega) | (simp only [decide_eq_false_iff_not, decide_eq_true_eq, Bool.and_eq_true, Bool.or_eq_false_iff, Bool.not_eq_true] at *; omega))) hsp) (by omega) fun σ1 H1 a => ?_
      revert a hr hll hlw
      generalize (Txt.split t nlT).dropLast = ls
      generalize (Txt.split t nlT).getLastD "" = rest
      intro hr hll hlw a
      simp only [putC, wipeC, List.set_cons_zero, List.set_cons_succ, List.map_cons, List.map_nil, List.cons_append, List.nil_append, List.length_cons, List.length_nil, List.replicate_succ, List.replicate_zero, Nat.reduceAdd, Nat.reduceSub, N_read_timetable] at a
      clear hsp hwl hne hsl
      refine q_newL a (rPair K rStr (rJob K)) fun p σ1 H1 hp a => ?_
      obtain ⟨hall, hnil, rfl, rfl, hm⟩ := readLs_ok hr
      refine q_forW (ι := Unit) (vars := [4, 5]) [4, 5, 6] (fun _ _ => []) (fun i _ => [lc (rPair K rStr (rJob K)) p ((ls.take i).filterMap readLine)]) (fun i _ => ∀ r, r < i → (readLine (ls.getD r default)).isSome = true) () (fun i u => _) a (ei_gdI (K := K) (ei_enum (ea_cons (ev_var rfl) ea_nil))) (fun i u hi => tg_pairD (by simp) (by simp)) ⟨fun r hr => by omega, fun _ _ _ a => a.fit (by repeat first | exact Fit.nil | refine Fit.off ?_ | refine Fit.keep ?_)⟩ (fun T1 i u σ1 H1 hi hI a => ?_) (fun u hI σ1 H1 a => ?_)
      case refine_1 =>
        simp only [putC, wipeC, List.set_cons_zero, List.set_cons_succ, List.map_cons, List.map_nil, List.cons_append, List.nil_append, List.length_cons, List.length_nil, List.replicate_succ, List.replicate_zero, Nat.reduceAdd, Nat.reduceSub, N_read_timetable] at a
        have hw := hlw _ (mem_getD hi)
        have hfl := fm_le (ls := ls) (n := i)
        refine q_set a (ev_call (ea_cons (ev_var rfl) ea_nil) ⟨_, rfl, rfl, by first | omega | decide | assumption | (have h__ := ‹decide (_ < _) = false›; simp at h__; omega) | (dsimp only; omega) | (simp only [decide_eq_false_iff_not, decide_eq_true_eq, Bool.and_eq_true, Bool.or_eq_false_iff, Bool.not_eq_true] at *; omega)⟩) fun σ1 H1 a => ?_
        have hs := getD_some hall hi
        obtain ⟨q, hq⟩ := Option.isSome_iff_exists.mp hs
        rw [hq] at a
        refine q_not a (eb_val (ev_isN nn_pair (ev_var rfl))) (by rfl) fun H1 a => ?_
        refine s_app a rfl (ev_to (e2 := en (rPair K rStr (rJob K)) q) (ev_var rfl) fun v H h => h) (by omega) fun H1 a => ⟨(), fun r hr => ?_, ?_⟩
        · by_cases z : r < i
          · exact hI r z
          · have z : r = i := by omega
            rw [z]
            exact hs
        · rw [← fm_succ hi hq] at a
          exact a.fit (by repeat first | exact Fit.nil | refine Fit.off ?_ | refine Fit.keep ?_)
      rw [List.take_of_length_le (Nat.le_refl _)] at a
      have a := (a.freeL hp).give (i := 3) rfl
      simp only [putC, wipeC, List.set_cons_zero, List.set_cons_succ, List.map_cons, List.map_nil, List.cons_append, List.nil_append, List.length_cons, List.length_nil, List.replicate_succ, List.replicate_zero, Nat.reduceAdd, Nat.reduceSub, N_read_timetable] at a
      refine q_not a (eb_or (eb_not (eb_lst (ev_var rfl))) (fun _ => (eb_cmp (ev_op (ev_var rfl) ev_str rv_neS)))) (by cases ls with | nil => exact (hnil rfl).elim | cons l ls => simp) fun H1 a => ?_
      exact s_ret a (ev_call (ea_cons (ev_var rfl) ea_nil) ⟨_, rfl, rfl, by assumption⟩) kk⟩
def S_read_timetableF (K : PySem.W.Frag) : SigF := fun es Ω C e Ω' => ∃ (e1 : En) (n : Int), es = [e1] ∧ Ω = [] ∧ C = ga K "BadText" ∧ e = en (rXd "row" rInt) n ∧ Ω' = [] ∧ ((∃ t, e1 = en rStr t ∧ readT t = .error n ∧ t.length ≤ 10000) ∨ (NoStr K e1 ∧ n = 0))
theorem ok_read_timetableF {P : Program} {w : World} {K : PySem.W.Frag} {mg : Str → Option Value} {base : Heap} (T : Tx K mg) (hP : FileOk P) : GdF P w K mg base 8 (ga K "read_timetable") ["text"] (spF (S_read_timetableF K)) := by
  obtain ⟨fd, F⟩ := T.h_read_timetable
  obtain ⟨_, G_read_line, k_read_line, b_read_line⟩ := ok_read_line (P := P) (w := w) (base := base) T
  obtain ⟨_, G_table_ofF, k_table_ofF, b_table_ofF⟩ := ok_table_ofF (P := P) (w := w) (base := base) T hP
  refine ⟨fd, ?_, F.kp, F.bindsN fun _ _ _ _ _ _ us hl => match us, hl with | [_], _ => rfl⟩
  refine fun_okF F sc_read_timetable (fun es Ω C e Ω' h => ?l) fun cdv A outer s H E hr => ?b
  case l =>
    obtain ⟨e1, n, rfl, rfl, rfl, rfl, rfl, ⟨t, rfl, hr, ht⟩ | ⟨hns, rfl⟩⟩ := h
    all_goals rfl
  case b =>
    have nd : N_read_timetable.Nodup := sc_read_timetable.nd
    exact ⟨_, (pss_cons (ps_if (pt_not (pt_val (pe_callB (call_isi : CallR _ _ (rIsi K)) (by rfl) T.isinstance (by decide +kernel) (pa_cons (pv 0) (pa_cons (pe_bltn (v := .ty "str") (by rfl) T.str (by decide +kernel) rfl) pa_nil))))) (pss_one (ps_rzF (by rfl) tk_cx T.sBadText (ok_sBadText (P := P) (w := w) (base := base) T hP) T.sBadText.ob (hr.mono (by decide)) (by rfl) T.mBadText pe_int)) pss_nil)
    (pss_cons (ps_asg (pe_split (pv 0) pe_str) (pg_star (K := K) rfl rfl (pg_name (i := 1) nd rfl (by first | exact Or.inl rfl | exact Or.inr rfl)) (pg_name (i := 2) nd rfl (by first | exact Or.inl rfl | exact Or.inr rfl))))
    (pss_cons (ps_set (i := 3) nd rfl (by first | exact Or.inl rfl | exact Or.inr rfl) (pe_lst pa_nil))
    (pss_cons (ps_for own_cx rfl (pi_enum (by rfl) T.enumerate (pa_cons (pv 1) pa_nil) : PI _ _ _ (iEnum K _)) (pg_tup rfl (pgs_cons (pg_name (i := 4) nd rfl (by first | exact Or.inl rfl | exact Or.inr rfl)) (pgs_cons (pg_name (i := 5) nd rfl (by first | exact Or.inl rfl | exact Or.inr rfl)) pgs_nil)))
    (pss_cons (ps_set (i := 6) nd rfl (by first | exact Or.inl rfl | exact Or.inr rfl) (pe_call G_read_line (hr.mono (by decide)) (by rfl) T.mread_line k_read_line b_read_line .nil pass0 (pa_cons (pv 5) pa_nil)))
    (pss_cons (ps_if (pt_cmp (pc_isN (pv 6)) rfl) (pss_one (ps_rzF (by rfl) tk_cx T.sBadText (ok_sBadText (P := P) (w := w) (base := base) T hP) T.sBadText.ob (hr.mono (by decide)) (by rfl) T.mBadText (pv 4))) pss_nil)
    (pss_one (ps_expr (pe_bm PySem.F.plainAttrs_list PySem.F.slot_list_append PySem.F.type_list_append mt_append (pv 3) (pa_cons (pv 6) pa_nil)))))))
    (pss_cons (ps_if (PW.pt (pw_or (pt_not (pt_truthR (pv 1) tru_ok (fun _ => rfl) : PT _ _ (tTruK K _))) (pw_or1 (pt_cmpR op_ne (pv 2) pe_str (nomark _))))) (pss_one (ps_rzF (by rfl) tk_cx T.sBadText (ok_sBadText (P := P) (w := w) (base := base) T hP) T.sBadText.ob (hr.mono (by decide)) (by rfl) T.mBadText (pe_callB (call_len_seq : CallR _ _ (rLenQ K)) (by rfl) T.len boot_len (pa_cons (pv 1) pa_nil)))) pss_nil)
    (pss_one (ps_ret (pe_callS G_table_ofF (hr.mono (by decide)) (by rfl) T.mtable_of k_table_ofF b_table_ofF (fun σ => passAt tk_cx σ) (pa_cons (pv 3) pa_nil))))))))), fun es Ω C e Ω' vs Hk D hS a kk => by
      obtain ⟨e1, n, rfl, rfl, rfl, rfl, rfl, ⟨t, rfl, hr, ht⟩ | ⟨hns, rfl⟩⟩ := hS
      case inr =>
        refine q_when a (eb_not (eb_val (ev_cb (ea_cons (ev_var rfl) (ea_cons ev_val ea_nil)) hns))) (fun h H1 a => ?_) (fun h H1 a => by cases h)
        exact s_rzF a (ev_eq (x := (0 : Int)) ev_int rfl) fun d H' a' => kk H' d _ _ _ a'
      have hsl := PyProof.Rows.split_le t nlT
      have hne := split_ne t nlT
      have hwl : ∀ w ∈ Txt.split t nlT, w.length ≤ 10000 := fun w hw => Nat.le_trans (split_len w hw) (by omega)
      have hsp : Txt.split t nlT = (Txt.split t nlT).dropLast ++ [(Txt.split t nlT).getLastD ""] := last_of hne
      unfold readT at hr
      have hll : (Txt.split t nlT).dropLast.length < 10010 := by rw [List.length_dropLast]; omega
      have hlw : ∀ w ∈ (Txt.split t nlT).dropLast, w.length ≤ 10000 := fun w hw => hwl w (List.dropLast_subset _ hw)
      refine q_not a (eb_not (eb_val (ev_cb (ea_cons (ev_var rfl) (ea_cons ev_val ea_nil)) (ii_str)))) (by simp) fun H1 a => ?_
      refine q_star a (ev_eq (ev_split (ev_var rfl) ev_str (by decide +kernel) (by first | omega | decide | assumption | (have h__ := ‹decide (_ < _) = false›; simp at h__; omega) | (dsimp only; omega) | (simp only [decide_eq_false_iff_not, decide_eq_true_eq, Bool.and_eq_true, Bool.or_eq_false_iff, Bool.not_eq_true] at *; omega))) hsp) (by omega) fun σ1 H1 a => ?_
      revert a hr hll hlw
      generalize (Txt.split t nlT).dropLast = ls
      generalize (Txt.split t nlT).getLastD "" = rest
      intro hr hll hlw a
      simp only [putC, wipeC, List.set_cons_zero, List.set_cons_succ, List.map_cons, List.map_nil, List.cons_append, List.nil_append, List.length_cons, List.length_nil, List.replicate_succ, List.replicate_zero, Nat.reduceAdd, Nat.reduceSub, N_read_timetable] at a
      clear hsp hwl hne hsl
      refine q_newL a (rPair K rStr (rJob K)) fun p σ1 H1 hp a => ?_
      have hcase := readLs_no hr
      refine q_forW (ι := Unit) (vars := [4, 5]) [4, 5, 6] (fun _ _ => []) (fun i _ => [lc (rPair K rStr (rJob K)) p ((ls.take i).filterMap readLine)]) (fun i _ => ∀ r, r < i → (readLine (ls.getD r default)).isSome = true) () (fun i u => _) a (ei_gdI (K := K) (ei_enum (ea_cons (ev_var rfl) ea_nil))) (fun i u hi => tg_pairD (by simp) (by simp)) ⟨fun r hr => by omega, fun _ _ _ a => a.fit (by repeat first | exact Fit.nil | refine Fit.off ?_ | refine Fit.keep ?_)⟩ (fun T1 i u σ1 H1 hi hI a => ?_) (fun u hI σ1 H1 a => ?_)
      case refine_1 =>
        simp only [putC, wipeC, List.set_cons_zero, List.set_cons_succ, List.map_cons, List.map_nil, List.cons_append, List.nil_append, List.length_cons, List.length_nil, List.replicate_succ, List.replicate_zero, Nat.reduceAdd, Nat.reduceSub, N_read_timetable] at a
        have hw := hlw _ (mem_getD hi)
        have hfl := fm_le (ls := ls) (n := i)
        refine q_set a (ev_call (ea_cons (ev_var rfl) ea_nil) ⟨_, rfl, rfl, by first | omega | decide | assumption | (have h__ := ‹decide (_ < _) = false›; simp at h__; omega) | (dsimp only; omega) | (simp only [decide_eq_false_iff_not, decide_eq_true_eq, Bool.and_eq_true, Bool.or_eq_false_iff, Bool.not_eq_true] at *; omega)⟩) fun σ1 H1 a => ?_
        cases hq0 : readLine (ls.getD i default) with
        | none =>
          rw [hq0] at a
          refine q_when a (eb_val (ev_isN nn_pair (ev_var rfl))) (fun h H1 a => ?_) (fun h H1 a => by cases h)
          have hn : n = (i : Int) := by
            rcases hcase with ⟨j, rfl, h2, h3, h4⟩ | ⟨hall, _⟩
            · have h5 : ¬ i < j := fun z => by
                have := h4 i z
                rw [hq0] at this
                cases this
              have h6 : ¬ j < i := fun z => by
                have := hI j z
                rw [h3] at this
                cases this
              omega
            · have := getD_some hall hi
              rw [hq0] at this
              cases this
          rw [hn] at kk
          exact s_rzF a (ev_var rfl) fun d H' a' => kk H' d _ _ _ a'.dropC
        | some q0 =>
          have hs : (readLine (ls.getD i default)).isSome = true := by rw [hq0]; rfl
          obtain ⟨q, hq⟩ := Option.isSome_iff_exists.mp hs
          rw [hq] at a
          refine q_not a (eb_val (ev_isN nn_pair (ev_var rfl))) (by rfl) fun H1 a => ?_
          refine s_app a rfl (ev_to (e2 := en (rPair K rStr (rJob K)) q) (ev_var rfl) fun v H h => h) (by omega) fun H1 a => ⟨(), fun r hr => ?_, ?_⟩
          · by_cases z : r < i
            · exact hI r z
            · have z : r = i := by omega
              rw [z]
              exact hs
          · rw [← fm_succ hi hq] at a
            exact a.fit (by repeat first | exact Fit.nil | refine Fit.off ?_ | refine Fit.keep ?_)
      rw [List.take_of_length_le (Nat.le_refl _)] at a
      have a := (a.freeL hp).give (i := 3) rfl
      simp only [putC, wipeC, List.set_cons_zero, List.set_cons_succ, List.map_cons, List.map_nil, List.cons_append, List.nil_append, List.length_cons, List.length_nil, List.replicate_succ, List.replicate_zero, Nat.reduceAdd, Nat.reduceSub, N_read_timetable] at a
      have hall : ∀ l ∈ ls, (readLine l).isSome = true := fun l hl => by
        obtain ⟨r, hr, rfl⟩ := List.getElem_of_mem hl
        have := hI r hr
        rw [List.getD_eq_getElem?_getD, List.getElem?_eq_getElem hr] at this
        exact this
      have hfm := fm_len hall
      have hca : ((ls = [] ∨ rest ≠ "") ∧ n = ls.length) ∨ (ls ≠ [] ∧ rest = "" ∧ n = 0 ∧ tbB (ls.filterMap readLine) = false) := by
        rcases hcase with ⟨j, rfl, h2, h3, h4⟩ | ⟨_, h⟩
        · have := getD_some hall h2
          rw [h3] at this
          cases this
        · exact h
      refine q_when a (eb_or (eb_not (eb_lst (ev_var rfl))) (fun _ => (eb_cmp (ev_op (ev_var rfl) ev_str rv_neS)))) (fun h H1 a => ?_) (fun h H1 a => ?_)
      · rcases hca with ⟨_, rfl⟩ | ⟨h1, h2, _⟩
        · exact s_rzF a (ev_cb (ea_cons (ev_var rfl) ea_nil) rc_lenL) fun d H' a' => kk H' d _ _ _ a'
        · subst h2
          cases ls with
          | nil => exact (h1 rfl).elim
          | cons l ls => simp at h
      · rcases hca with ⟨h1, _⟩ | ⟨h1, h2, rfl, hb⟩
        · rcases h1 with rfl | h1
          · simp at h
          · simp [h1] at h
        · exact s_retF (Wx := fun cls d _ H' => E cls d H') a (rz_callS (Ω1 := []) (Ω2 := []) (ea_cons (ev_var rfl) ea_nil) ⟨_, rfl, rfl, rfl, rfl, rfl, hb, fm_nm, by rw [hfm]; exact List.length_pos_iff.mpr h1, by omega⟩) fun H' d a' => kk H' d _ _ _ a'⟩
def S__law_row (K : PySem.W.Frag) : Sig := fun es res => ∃ (t : Str) (m : List (Str × Jb)), es = [en rStr t] ∧ res = en rInt (if textOf m = t then -1 else -2) ∧ readT t = .ok m ∧ t.length ≤ 10000
theorem ok__law_row {P : Program} {w : World} {K : PySem.W.Frag} {mg : Str → Option Value} {base : Heap} (T : Tx K mg) : Gd P w K mg base 9 (ga K "_law_row") ["_law_text"] (spS (S__law_row K)) := by
  obtain ⟨fd, F⟩ := T.h__law_row
  obtain ⟨_, G_read_timetable, k_read_timetable, b_read_timetable⟩ := ok_read_timetable (P := P) (w := w) (base := base) T
  obtain ⟨_, G_timetable_text, k_timetable_text, b_timetable_text⟩ := ok_timetable_text (P := P) (w := w) (base := base) T
  refine ⟨fd, ?_, F.kp, F.bindsN fun _ _ _ _ _ _ us hl => match us, hl with | [_], _ => rfl⟩
  refine fun_ok F sc__law_row (fun es res h => ?l) fun cdv A outer s H E hr => ?b
  case l =>
    obtain ⟨t, m, rfl, rfl, hr, ht⟩ := h
    all_goals rfl
  case b =>
    have nd : N__law_row.Nodup := sc__law_row.nd
    exact ⟨_, PSs.nox (pss_cons (ps_try_thru0 (pss_one (ps_set (i := 1) nd rfl (by first | exact Or.inl rfl | exact Or.inr rfl) (pe_call G_read_timetable (hr.mono (by decide)) (by rfl) T.mread_timetable k_read_timetable b_read_timetable .nil pass0 (pa_cons (pv 0) pa_nil)))))
    (pss_one (ps_ret (pe_ifExp (pt_cmpR op_eq (pe_call G_timetable_text (hr.mono (by decide)) (by rfl) T.mtimetable_text k_timetable_text b_timetable_text .nil pass0 (pa_cons (pv 1) pa_nil)) (pv 0) (nomark _)) (pe_un un_neg pe_int) (pe_un un_neg pe_int))))), fun es res vs Hk Q hS a kk => by
      obtain ⟨t, m, rfl, rfl, hr, ht⟩ := hS
      refine q_set a (ev_call (ea_cons (ev_var rfl) ea_nil) ⟨_, _, rfl, rfl, by assumption, by first | omega | decide | assumption | (have h__ := ‹decide (_ < _) = false›; simp at h__; omega) | (dsimp only; omega) | (simp only [decide_eq_false_iff_not, decide_eq_true_eq, Bool.and_eq_true, Bool.or_eq_false_iff, Bool.not_eq_true] at *; omega)⟩) fun σ1 H1 a => ?_
      exact s_ret a (ev_if (eb_cmp (ev_op (ev_call (ea_cons (ev_var rfl) ea_nil) ⟨_, rfl, rfl⟩) (ev_var rfl) rv_eqS)) (fun h => by rw [if_pos (by simpa using h)]; exact (ev_un ev_int ru_neg)) (fun h => by rw [if_neg (by simpa using h)]; exact (ev_un ev_int ru_neg))) kk⟩
def S__law_rowX (K : PySem.W.Frag) : Sig := fun es res => ∃ (e1 : En) (n : Int), es = [e1] ∧ res = en rInt n ∧ ((∃ t, e1 = en rStr t ∧ readT t = .error n ∧ t.length ≤ 10000) ∨ (NoStr K e1 ∧ n = 0))
theorem ok__law_rowX {P : Program} {w : World} {K : PySem.W.Frag} {mg : Str → Option Value} {base : Heap} (T : Tx K mg) (hP : FileOk P) : Gd P w K mg base 9 (ga K "_law_row") ["_law_text"] (spS (S__law_rowX K)) := by
  obtain ⟨fd, F⟩ := T.h__law_row
  obtain ⟨_, G_read_timetableF, k_read_timetableF, b_read_timetableF⟩ := ok_read_timetableF (P := P) (w := w) (base := base) T hP
  obtain ⟨_, G_timetable_text, k_timetable_text, b_timetable_text⟩ := ok_timetable_text (P := P) (w := w) (base := base) T
  refine ⟨fd, ?_, F.kp, F.bindsN fun _ _ _ _ _ _ us hl => match us, hl with | [_], _ => rfl⟩
  refine fun_ok F sc__law_row (fun es res h => ?l) fun cdv A outer s H E hr => ?b
  case l =>
    obtain ⟨e1, n, rfl, rfl, hn⟩ := h
    all_goals rfl
  case b =>
    have nd : N__law_row.Nodup := sc__law_row.nd
    exact ⟨_, PSs.nox (pss_cons (ps_try_as (i := 2) rfl rfl nd (by rfl) (by rfl) ⟨by rfl, by decide, Or.inl T.mBadText⟩ takes0 (fun Wx pn xe tk po => pss_one (ps_set (i := 1) nd rfl (by first | exact Or.inl rfl | exact Or.inr rfl) (pe_callS G_read_timetableF (hr.mono (by decide)) (by rfl) T.mread_timetable k_read_timetableF b_read_timetableF (fun σ => passAt tk σ) (pa_cons (pv 0) pa_nil)))) (fun o oe cls d pn hz hf => pss_one (ps_ret (pe_xf T.sBadText.xf T.sBadText.no hz hf (pv 2)))))
    (pss_one (ps_ret (pe_ifExp (pt_cmpR op_eq (pe_call G_timetable_text (hr.mono (by decide)) (by rfl) T.mtimetable_text k_timetable_text b_timetable_text .nil pass0 (pa_cons (pv 1) pa_nil)) (pv 0) (nomark _)) (pe_un un_neg pe_int) (pe_un un_neg pe_int))))), fun es res vs Hk Q hS a kk => by
      obtain ⟨e1, n, rfl, rfl, hn⟩ := hS
      refine s_tryAsg (te := fun Wx => tCallS (spF (S_read_timetableF K)) (WE Wx) (tCons (tVar 0) tNil)) a (fun Wx => rz_callS (Ω1 := []) (Ω2 := []) (ea_cons (ev_var rfl) ea_nil) ⟨e1, n, rfl, rfl, rfl, rfl, rfl, hn⟩) T.xm_BadText_BadText fun o d H1 a => ?_
      exact s_xf a rfl kk⟩
def S__law_one_right (K : PySem.W.Frag) : SigM := fun es Ω res Ω' => ∃ (p : Addr) (ns : List Int) (y c : Int), es = [en rVal (.ref p)] ∧ Ω = [stq K p ns y c] ∧ res = en rBool true ∧ Ω' = [] ∧ 0 ≤ y ∧ 0 ≤ c
theorem ok__law_one_right {P : Program} {w : World} {K : PySem.W.Frag} {mg : Str → Option Value} {base : Heap} (T : Tx K mg) (hP : FileOk P) : Gd P w K mg base 10 (ga K "_law_one_right") ["_law_state"] (spM (S__law_one_right K)) := by
  obtain ⟨fd, F⟩ := T.h__law_one_right
  obtain ⟨_, G__law_drawn, k__law_drawn, b__law_drawn⟩ := ok__law_drawn (P := P) (w := w) (base := base) T
  obtain ⟨_, G__law_table, k__law_table, b__law_table⟩ := ok__law_table (P := P) (w := w) (base := base) T
  obtain ⟨_, G_timetable_text, k_timetable_text, b_timetable_text⟩ := ok_timetable_text (P := P) (w := w) (base := base) T
  obtain ⟨_, G_read_timetable, k_read_timetable, b_read_timetable⟩ := ok_read_timetable (P := P) (w := w) (base := base) T
  obtain ⟨_, G_Timetable_eq, k_Timetable_eq, b_Timetable_eq⟩ := ok_Timetable_eq (P := P) (w := w) (base := base) T
  obtain ⟨_, G__law_pick, k__law_pick, b__law_pick⟩ := ok__law_pick (P := P) (w := w) (base := base) T
  obtain ⟨_, G__law_next, k__law_next, b__law_next⟩ := ok__law_next (P := P) (w := w) (base := base) T
  obtain ⟨_, G__law_rowX, k__law_rowX, b__law_rowX⟩ := ok__law_rowX (P := P) (w := w) (base := base) T hP
  obtain ⟨_, G__law_row, k__law_row, b__law_row⟩ := ok__law_row (P := P) (w := w) (base := base) T
  refine ⟨fd, ?_, F.kp, F.bindsN fun _ _ _ _ _ _ us hl => match us, hl with | [_], _ => rfl⟩
  refine fun_okM F sc__law_one_right (fun es Ω res Ω' h => ?l) fun cdv A outer s H E hr => ?b
  case l =>
    obtain ⟨p, ns, y, c, rfl, rfl, rfl, rfl, hy, hc⟩ := h
    all_goals rfl
  case b =>
    have nd : N__law_one_right.Nodup := sc__law_one_right.nd
    exact ⟨_, PSs.nox (pss_cons (ps_set (i := 1) nd rfl (by first | exact Or.inl rfl | exact Or.inr rfl) (pe_call G__law_drawn (hr.mono (by decide)) (by rfl) T.m_law_drawn k__law_drawn b__law_drawn .nil pass0 (pa_cons (pv 0) (pa_cons pe_int pa_nil))))
    (pss_cons (ps_lk (ps_setLc (i := 2) (own := [("_law_name", 4)]) rfl nd rfl rfl (sw_true rfl rfl rfl (by decide +kernel)) (pi_keys (pv 1)) (blkOk_by (own := [("_law_name", 4)]) (N := N__law_one_right) (sc := defScope s__law_one_right) (by decide +kernel)) (fun _ _ _ _ _ => (pg_name (i := 4) nd rfl (by first | exact Or.inl rfl | exact Or.inr rfl))) (fun _ _ _ _ _ => pts_nil) (fun _ _ _ _ _ => (pe_op op_add_str (pe_join pe_str (pe_op op_cat (pe_lst (pa_cons (pv 4) pa_nil)) (pe_lc (own := [("_law_number_here", 3)]) (by rfl) nd (pi_tup (pe_dget (runits1 hr) (pv 1) (pv 4) (fun _ _ => rfl)) : PI _ _ _ (iTup K _)) (blkOk_by (own := [("_law_number_here", 3)]) (by first | kernel_rfl | rfl)) (fun _ _ _ _ _ => (pg_name (i := 3) nd rfl (by first | exact Or.inl rfl | exact Or.inr rfl))) (fun _ _ _ _ _ => pts_nil) (fun _ _ _ _ _ => (pe_callTy call_str_int (by rfl) T.str (by decide +kernel) (pa_cons (pv 3) pa_nil))))) : PE _ _ (tM1 (rJoinK K) _ _)) pe_str))))
    (pss_cons (ps_set (i := 5) nd rfl (by first | exact Or.inl rfl | exact Or.inr rfl) (pe_join pe_str (pv 2) : PE _ _ (tM1 (rJoinK K) _ _)))
    (pss_cons (ps_if (PW.pt (pw_or (pt_cmpR op_ne (pe_call G_timetable_text (hr.mono (by decide)) (by rfl) T.mtimetable_text k_timetable_text b_timetable_text .nil pass0 (pa_cons (pe_call G__law_table (hr.mono (by decide)) (by rfl) T.m_law_table k__law_table b__law_table .nil pass0 (pa_cons (pv 1) pa_nil)) pa_nil)) (pv 5) (nomark _)) (pw_or1 (pt_not (pt_cmpR (op_oeq T.dTimetable_eq G_Timetable_eq (hr.mono (by decide)) b_Timetable_eq .nil pass0) (pe_call G_read_timetable (hr.mono (by decide)) (by rfl) T.mread_timetable k_read_timetable b_read_timetable .nil pass0 (pa_cons (pv 5) pa_nil)) (pe_call G__law_table (hr.mono (by decide)) (by rfl) T.m_law_table k__law_table b__law_table .nil pass0 (pa_cons (pv 1) pa_nil)) (nomark _)))))) (pss_one (ps_ret pe_bl)) pss_nil)
    (pss_cons (ps_set (i := 6) nd rfl (by first | exact Or.inl rfl | exact Or.inr rfl) (pe_lst (pa_cons pe_str (pa_cons pe_str (pa_cons pe_str (pa_cons pe_str (pa_cons pe_str (pa_cons pe_str (pa_cons pe_str pa_nil)))))))))
    (pss_cons (ps_set (i := 6) nd rfl (by first | exact Or.inl rfl | exact Or.inr rfl) (pe_op op_cat (pv 6) (pe_lst (pa_cons pe_str (pa_cons pe_str (pa_cons pe_str (pa_cons pe_str (pa_cons pe_str pa_nil))))))))
    (pss_cons (ps_set (i := 6) nd rfl (by first | exact Or.inl rfl | exact Or.inr rfl) (pe_op op_cat (pv 6) (pe_lst (pa_cons pe_str (pa_cons pe_str (pa_cons pe_str (pa_cons pe_str (pa_cons pe_str pa_nil))))))))
    (pss_cons (ps_set (i := 6) nd rfl (by first | exact Or.inl rfl | exact Or.inr rfl) (pe_op op_cat (pv 6) (pe_lst (pa_cons pe_str pa_nil))))
    (pss_cons (ps_set (i := 6) nd rfl (by first | exact Or.inl rfl | exact Or.inr rfl) (pe_op op_cat (pv 6) (pe_lst (pa_cons pe_str (pa_cons pe_str (pa_cons pe_str (pa_cons pe_str (pa_cons pe_str pa_nil))))))))
    (pss_cons (ps_set (i := 6) nd rfl (by first | exact Or.inl rfl | exact Or.inr rfl) (pe_op op_cat (pv 6) (pe_lst (pa_cons pe_str (pa_cons pe_str (pa_cons pe_str (pa_cons pe_str pa_nil)))))))
    (pss_cons (ps_set (i := 6) nd rfl (by first | exact Or.inl rfl | exact Or.inr rfl) (pe_op op_cat (pv 6) (pe_lst (pa_cons pe_str pa_nil))))
    (pss_cons (ps_par (i := 7) (j := 8) (by rfl) nd rfl rfl (by decide) rfl rfl (pa_cons (pe_call G__law_next (hr.mono (by decide)) (by rfl) T.m_law_next k__law_next b__law_next .nil pass0 (pa_cons (pv 0) (pa_cons (pe_op op_add (pe_callB (call_len_seq : CallR _ _ (rLenQ K)) (by rfl) T.len boot_len (pa_cons (pv 2) pa_nil)) pe_int) pa_nil))) (pa_cons (pe_call G__law_pick (hr.mono (by decide)) (by rfl) T.m_law_pick k__law_pick b__law_pick .nil pass0 (pa_cons (pv 0) (pa_cons (pv 6) pa_nil))) pa_nil)) (by rfl))
    (pss_cons (ps_if (pt_cmpR op_ne (pe_call G__law_rowX (hr.mono (by decide)) (by rfl) T.m_law_row k__law_rowX b__law_rowX .nil pass0 (pa_cons (pe_join pe_str (pe_op op_cat (pe_op op_cat (pe_slice (sl_list : SlR _ (rSlL K)) (pv 2) po_none (po_some (pv 7))) (pe_lst (pa_cons (pe_op op_add_str (pv 8) pe_str) pa_nil))) (pe_slice (sl_list : SlR _ (rSlL K)) (pv 2) (po_some (pv 7)) po_none)) : PE _ _ (tM1 (rJoinK K) _ _)) pa_nil)) (pv 7) (nomark _)) (pss_one (ps_ret pe_bl)) pss_nil)
    (pss_cons (ps_if (PW.pt (pw_or (pt_cmpR op_ne (pe_call G__law_rowX (hr.mono (by decide)) (by rfl) T.m_law_row k__law_rowX b__law_rowX .nil pass0 (pa_cons (pe_op op_add_str (pv 5) pe_str) pa_nil)) (pe_callB (call_len_seq : CallR _ _ (rLenQ K)) (by rfl) T.len boot_len (pa_cons (pv 2) pa_nil)) (nomark _)) (pw_or1 (pt_cmpR op_ne (pe_call G__law_rowX (hr.mono (by decide)) (by rfl) T.m_law_row k__law_rowX b__law_rowX .nil pass0 (pa_cons (pe_slice sl_str (pv 5) po_none (po_some (pe_un un_neg pe_int))) pa_nil)) (pe_op op_sub (pe_callB (call_len_seq : CallR _ _ (rLenQ K)) (by rfl) T.len boot_len (pa_cons (pv 2) pa_nil)) pe_int) (nomark _))))) (pss_one (ps_ret pe_bl)) pss_nil)
    (pss_cons (ps_if (pt_cmpR op_ne (pe_call G__law_row (hr.mono (by decide)) (by rfl) T.m_law_row k__law_row b__law_row .nil pass0 (pa_cons (pe_join pe_str (pe_revL (pv 2)) : PE _ _ (tM1 (rJoinK K) _ _)) pa_nil)) (pe_un un_neg pe_int) (nomark _)) (pss_one (ps_ret pe_bl)) pss_nil)
    (pss_cons (ps_if (pt_cmpR op_ne (pe_call G__law_rowX (hr.mono (by decide)) (by rfl) T.m_law_row k__law_rowX b__law_rowX .nil pass0 (pa_cons (pe_op op_add_str (pv 5) (pe_ix (ix_list : IxR _ (rIxL K)) (pv 2) (pe_call G__law_next (hr.mono (by decide)) (by rfl) T.m_law_next k__law_next b__law_next .nil pass0 (pa_cons (pv 0) (pa_cons (pe_callB (call_len_seq : CallR _ _ (rLenQ K)) (by rfl) T.len boot_len (pa_cons (pv 2) pa_nil)) pa_nil))) (fun _ _ => rfl))) pa_nil)) pe_int (nomark _)) (pss_one (ps_ret pe_bl)) pss_nil)
    (pss_one (ps_ret (pe_or (pe_cmpR op_lt (pe_callB (call_len_seq : CallR _ _ (rLenQ K)) (by rfl) T.len boot_len (pa_cons (pv 2) pa_nil)) pe_int (nomark _)) (pe_one (pe_cmpR op_eq (pe_call G__law_row (hr.mono (by decide)) (by rfl) T.m_law_row k__law_row b__law_row .nil pass0 (pa_cons (pe_join pe_str (pe_slice (sl_list : SlR _ (rSlL K)) (pv 2) (po_some pe_int) po_none) : PE _ _ (tM1 (rJoinK K) _ _)) pa_nil)) (pe_un un_neg pe_int) (nomark _)))))))))))))))))))))), fun es Ω res Ω' vs Hk Q hS a kk => by
      obtain ⟨p, ns, y, c, rfl, rfl, rfl, rfl, hy, hc⟩ := hS
      refine q_setW (Ω1 := [stq K p ns y c]) a (ea_cons (ev_var rfl) (ea_cons ev_int ea_nil)) ⟨p, ns, y, c, 2000, rfl, rfl, rfl, hy, hc, by decide, by decide⟩ (by rintro e Ω' ⟨m, c1, rfl, rfl, _, _⟩ c hc; simp at hc; subst hc; simp [adr, stq, lm]) fun e Ω' σ1 H1 hR a => ?_
      obtain ⟨m, c1, rfl, rfl, hc1, hm⟩ := hR
      have h4 := hm.n4
      have h1 := hm.n1
      simp only [putC, wipeC, List.set_cons_zero, List.set_cons_succ, List.map_cons, List.map_nil, List.cons_append, List.nil_append, List.length_cons, List.length_nil, List.replicate_succ, List.replicate_zero, Nat.reduceAdd, Nat.reduceSub, N__law_one_right] at a
      refine q_setLS a (dloc_var (i := 1) rfl) (e := en (rList rStr) (m.map lineOf)) (EvX.conv (ev_lcX (B := rStr) _ (fun _ => true) (fun i => lineOf (m.getD i default)) (ei_gdK ei_keys) (by omega) (fun i hi => tg_name (by simp)) (fun i Ω hi => eb_yes) (fun i Ω hi _ => ?wl)) (given_getDT lineOf m)) fun σ1 H1 a => ?_
      case wl =>
        have hl := lookup_getD hm.nd hi
        have hn := hm.nm _ (mem_getD hi)
        revert hl hn
        generalize m.getD i default = r
        intro hl hn
        have hj := r.2.ok
        have hb := lineB_len hn
        refine ev_op (ev_join (K := K) (ys := [r.1, numT r.2.per, numT r.2.dur, numT r.2.st, numT r.2.co]) ev_str (ev_op (ev_lst1 (ea_cons (ev_var rfl) ea_nil)) (ev_eq (y := [numT r.2.per, numT r.2.dur, numT r.2.st, numT r.2.co]) (ev_lc (B := rStr) _ (fun _ => true) (fun i => numT (([r.2.per, r.2.dur, r.2.st, r.2.co] : List Int).getD i default)) (ei_gd (ei_tup (ev_to (e2 := en (rTupL K rInt) [r.2.per, r.2.dur, r.2.st, r.2.co]) (ev_dget (ev_var rfl) (ev_var rfl) (by first | omega | decide | assumption | (have h__ := ‹decide (_ < _) = false›; simp at h__; omega) | (dsimp only; omega) | (simp only [decide_eq_false_iff_not, decide_eq_true_eq, Bool.and_eq_true, Bool.or_eq_false_iff, Bool.not_eq_true] at *; omega))) fun v H h => h))) (by simp) (fun i hi => tg_name (by simp)) (fun i Ω hi => eb_yes) (fun i Ω hi _ => ev_cb (ea_cons (ev_var rfl) ea_nil) (rc_str ?wn))) rfl) (rv_cat (by simp))) ?wj) ev_str (rv_addS ?wk)
        case wn =>
          have : i < 4 := hi
          match i, this with
          | 0, _ => show -(2 ^ 40) ≤ r.2.per ∧ r.2.per ≤ 2 ^ 40; omega
          | 1, _ => show -(2 ^ 40) ≤ r.2.dur ∧ r.2.dur ≤ 2 ^ 40; omega
          | 2, _ => show -(2 ^ 40) ≤ r.2.st ∧ r.2.st ≤ 2 ^ 40; omega
          | 3, _ => show -(2 ^ 40) ≤ r.2.co ∧ r.2.co ≤ 2 ^ 40; omega
        case wj =>
          have f := @num_free
          have h2 := (f (n := r.2.per) (by omega)).2.2
          have h3 := (f (n := r.2.dur) (by omega)).2.2
          have h4 := (f (n := r.2.st) (by omega)).2.2
          have h5 := (f (n := r.2.co) (by omega)).2.2
          have h6 := (nm_free hn).2.2.1
          have hs : (" " : Str).length = 1 := by decide +kernel
          simp only [List.map_cons, List.map_nil, List.sum_cons, List.sum_nil, List.length_cons, List.length_nil, hs]
          omega
        case wk =>
          have h7 := nlT_len
          show (lineB r).length + nlT.length ≤ 40000
          omega
      simp only [putC, wipeC, List.set_cons_zero, List.set_cons_succ, List.map_cons, List.map_nil, List.cons_append, List.nil_append, List.length_cons, List.length_nil, List.replicate_succ, List.replicate_zero, Nat.reduceAdd, Nat.reduceSub, N__law_one_right] at a
      have hll : ∀ l ∈ m.map lineOf, l.length ≤ 25 := fun l hl => by
        obtain ⟨q, hq, rfl⟩ := List.mem_map.mp hl
        exact lineOf_len (hm.nm q hq)
      have hem : ("" : Str).length = 0 := by decide +kernel
      have htl := textOf_len hm
      refine q_set a (ev_join (K := K) (ys := m.map lineOf) ev_str (ev_var rfl) (by have := lines_len hll; rw [List.length_map] at this ⊢; rw [hem]; omega)) fun σ1 H1 a => ?_
      rw [show Str.join "" (m.map lineOf) = textOf m from rfl] at a
      have hr := readT_ok hm
      refine q_not a (eb_or (eb_cmp (ev_op (ev_call (ea_cons (ev_call (ea_cons (ev_var rfl) ea_nil) ⟨_, rfl, rfl, by assumption⟩) ea_nil) ⟨_, rfl, rfl⟩) (ev_var rfl) rv_neS)) (fun h_ => (eb_not (eb_cmp (ev_op (ev_call (ea_cons (ev_var rfl) ea_nil) ⟨_, _, rfl, rfl, by assumption, by first | omega | decide | assumption | (have h__ := ‹decide (_ < _) = false›; simp at h__; omega) | (dsimp only; omega) | (simp only [decide_eq_false_iff_not, decide_eq_true_eq, Bool.and_eq_true, Bool.or_eq_false_iff, Bool.not_eq_true] at *; omega)⟩) (ev_call (ea_cons (ev_var rfl) ea_nil) ⟨_, rfl, rfl, by assumption⟩) (rv_oeq isTab isTab ⟨_, _, rfl, rfl⟩)))))) (by simp) fun H1 a => ?_
      refine q_set a (ev_lst (A := rStr) odd1 (ea_cons ev_str (ea_cons ev_str (ea_cons ev_str (ea_cons ev_str (ea_cons ev_str (ea_cons ev_str (ea_cons ev_str ea_nil))))))) rfl (by decide)) fun σ1 H1 a => ?_
      refine q_set a (ev_op (ev_var rfl) (ev_lst (A := rStr) odd2 (ea_cons ev_str (ea_cons ev_str (ea_cons ev_str (ea_cons ev_str (ea_cons ev_str ea_nil))))) rfl (by decide)) (rv_cat (by decide))) fun σ1 H1 a => ?_
      refine q_set a (ev_op (ev_var rfl) (ev_lst (A := rStr) odd3 (ea_cons ev_str (ea_cons ev_str (ea_cons ev_str (ea_cons ev_str (ea_cons ev_str ea_nil))))) rfl (by decide)) (rv_cat (by decide))) fun σ1 H1 a => ?_
      refine q_set a (ev_op (ev_var rfl) (ev_lst (A := rStr) odd4 (ea_cons ev_str ea_nil) rfl (by decide)) (rv_cat (by decide))) fun σ1 H1 a => ?_
      refine q_set a (ev_op (ev_var rfl) (ev_lst (A := rStr) odd5 (ea_cons ev_str (ea_cons ev_str (ea_cons ev_str (ea_cons ev_str (ea_cons ev_str ea_nil))))) rfl (by decide)) (rv_cat (by decide))) fun σ1 H1 a => ?_
      refine q_set a (ev_op (ev_var rfl) (ev_lst (A := rStr) odd6 (ea_cons ev_str (ea_cons ev_str (ea_cons ev_str (ea_cons ev_str ea_nil)))) rfl (by decide)) (rv_cat (by decide))) fun σ1 H1 a => ?_
      refine q_set a (ev_op (ev_var rfl) (ev_lst (A := rStr) odd7 (ea_cons ev_str ea_nil) rfl (by decide)) (rv_cat (by decide))) fun σ1 H1 a => ?_
      simp only [putC, wipeC, List.set_cons_zero, List.set_cons_succ, List.map_cons, List.map_nil, List.cons_append, List.nil_append, List.length_cons, List.length_nil, List.replicate_succ, List.replicate_zero, Nat.reduceAdd, Nat.reduceSub, N__law_one_right] at a
      rw [show (((((odd1 ++ odd2) ++ odd3) ++ odd4) ++ odd5) ++ odd6) ++ odd7 = oddL from rfl] at a
      have hol : oddL.length = 28 := by decide
      refine q_par a (ea_cons (ev_callM (Ω1 := [stq K _ _ _ _]) (ea_cons (ev_var rfl) (ea_cons (ev_op (ev_cb (ea_cons (ev_var rfl) ea_nil) rc_lenL) ev_int rv_add) ea_nil)) ⟨_, _, _, _, _, rfl, rfl, rfl, rfl, by first | omega | decide | assumption | (have h__ := ‹decide (_ < _) = false›; simp at h__; omega) | (dsimp only; omega) | (simp only [decide_eq_false_iff_not, decide_eq_true_eq, Bool.and_eq_true, Bool.or_eq_false_iff, Bool.not_eq_true] at *; omega), by first | omega | decide | assumption | (have h__ := ‹decide (_ < _) = false›; simp at h__; omega) | (dsimp only; omega) | (simp only [decide_eq_false_iff_not, decide_eq_true_eq, Bool.and_eq_true, Bool.or_eq_false_iff, Bool.not_eq_true] at *; omega), by first | omega | decide | assumption | (have h__ := ‹decide (_ < _) = false›; simp at h__; omega) | (dsimp only; omega) | (simp only [decide_eq_false_iff_not, decide_eq_true_eq, Bool.and_eq_true, Bool.or_eq_false_iff, Bool.not_eq_true] at *; omega)⟩ (by simp [adr, stq, lm, lc])) (ea_cons (ev_callM (Ω1 := [stq K _ _ _ _]) (ea_cons (ev_var rfl) (ea_cons (ev_var rfl) ea_nil)) ⟨_, _, _, _, _, default, _, _, rfl, rfl, rfl, rfl, by first | omega | decide | assumption | (have h__ := ‹decide (_ < _) = false›; simp at h__; omega) | (dsimp only; omega) | (simp only [decide_eq_false_iff_not, decide_eq_true_eq, Bool.and_eq_true, Bool.or_eq_false_iff, Bool.not_eq_true] at *; omega), by first | omega | decide | assumption | (have h__ := ‹decide (_ < _) = false›; simp at h__; omega) | (dsimp only; omega) | (simp only [decide_eq_false_iff_not, decide_eq_true_eq, Bool.and_eq_true, Bool.or_eq_false_iff, Bool.not_eq_true] at *; omega), by first | omega | decide | assumption | (have h__ := ‹decide (_ < _) = false›; simp at h__; omega) | (dsimp only; omega) | (simp only [decide_eq_false_iff_not, decide_eq_true_eq, Bool.and_eq_true, Bool.or_eq_false_iff, Bool.not_eq_true] at *; omega)⟩ (by simp [adr, stq, lm, lc])) ea_nil)) fun σ1 H1 a => ?_
      simp only [putC, wipeC, List.set_cons_zero, List.set_cons_succ, List.map_cons, List.map_nil, List.cons_append, List.nil_append, List.length_cons, List.length_nil, List.replicate_succ, List.replicate_zero, Nat.reduceAdd, Nat.reduceSub, N__law_one_right] at a
      rw [List.length_map] at a
      have n1 := nextV_bd (ns := ns) (y := y) (c := c1) (below := (m.length : Int) + 1) (by omega)
      have n2 := nextV_bd (ns := ns) (y := y) (c := c1 + 1) (below := (oddL.length : Int)) (by omega)
      have hw := oddL_ok _ (mem_getD (xs := oddL) (i := (nextV ns y (c1 + 1) (oddL.length : Int)).toNat) (by omega))
      revert a n1 hw
      generalize oddL.getD (nextV ns y (c1 + 1) (oddL.length : Int)).toNat default = w
      generalize nextV ns y c1 ((m.length : Int) + 1) = at_
      intro a n1 hw
      obtain ⟨hw1, hw2, hw3⟩ := hw
      have hw0 : readLine w = none := by cases e : readLine w with | none => rfl | some q => rw [e] at hw1; cases hw1
      have hnl : ("\n" : Str).length = 1 := by decide +kernel
      have hwl : (w ++ nlT).length ≤ 41 := by rw [len_app, nlT_len]; omega
      have hL : ∀ l ∈ (m.map lineOf).take at_.toNat ++ [w ++ nlT] ++ (m.map lineOf).drop at_.toNat, l.length ≤ 41 := fun l hl => by
        rcases List.mem_append.mp hl with hl | hl
        · rcases List.mem_append.mp hl with hl | hl
          · exact Nat.le_trans (hll l (List.mem_of_mem_take hl)) (by omega)
          · rw [List.mem_singleton.mp hl]; exact hwl
        · exact Nat.le_trans (hll l (List.mem_of_mem_drop hl)) (by omega)
      have hLn : ((m.map lineOf).take at_.toNat ++ [w ++ nlT] ++ (m.map lineOf).drop at_.toNat).length ≤ 9 := by
        rw [List.length_append, List.length_append, List.length_take, List.length_drop, List.length_map, List.length_singleton]
        omega
      have hLs := lines_len hL
      have hLj := join_len hL
      refine q_not a (eb_cmp (ev_op (ev_call (ea_cons (ev_join (K := K) ev_str (ev_op (ev_op (ev_slTo (ev_var rfl) (ev_var rfl) n1.1) (ev_lst1 (ea_cons (ev_op (ev_var rfl) ev_str (rv_addS (by rw [hnl]; omega))) ea_nil)) (rv_cat (by rw [List.length_take, List.length_map, List.length_singleton]; omega))) (ev_slFrom (ev_var rfl) (ev_var rfl) n1.1) (rv_cat (by rw [List.length_append, List.length_take, List.length_drop, List.length_map, List.length_singleton]; omega))) (by rw [hem]; exact Nat.le_trans (Nat.add_le_add hLs (Nat.le_of_eq (Nat.mul_zero _))) (by omega))) ea_nil) ⟨_, _, rfl, rfl, .inl ⟨_, rfl, readT_wrong hm.nm (at_ := at_.toNat) (by omega) hw0 hw2, Nat.le_trans hLj (by omega)⟩⟩) (ev_var rfl) rv_neI)) (by simp; omega) fun H1 a => ?_
      have hx : ("x" : Str) ≠ "" := by decide +kernel
      have hxf : 10 ∉ ("x" : Str).cps.toList := by decide +kernel
      have hx1 : ("x" : Str).length = 1 := by decide +kernel
      have hct := cutS_length (textOf m) none (some (-1))
      refine q_not a (eb_or (eb_cmp (ev_op (ev_call (ea_cons (ev_op (ev_var rfl) ev_str (rv_addS (by rw [hx1]; omega))) ea_nil) ⟨_, _, rfl, rfl, .inl ⟨_, rfl, readT_rest hm.nm hx hxf, by rw [len_app, hx1]; omega⟩⟩) (ev_cb (ea_cons (ev_var rfl) ea_nil) rc_lenL) rv_neI)) (fun _ => eb_cmp (ev_op (ev_call (ea_cons (ev_slS (ev_var rfl) (ev_un ev_int ru_neg) (by omega)) ea_nil) ⟨_, _, rfl, rfl, .inl ⟨_, rfl, readT_cut hm.nm h1, by omega⟩⟩) (ev_op (ev_cb (ea_cons (ev_var rfl) ea_nil) rc_lenL) ev_int rv_sub) rv_neI))) (by simp) fun H1 a => ?_
      have hmr := hm.rev (prodP_rev m)
      have hlr : ∀ l ∈ m.reverse.map lineOf, l.length ≤ 25 := fun l hl => by
        obtain ⟨q, hq, rfl⟩ := List.mem_map.mp hl
        exact lineOf_len (hmr.nm q hq)
      have hlrs := lines_len hlr
      have htr := textOf_len hmr
      rw [List.length_map, List.length_reverse] at hlrs
      refine q_not a (eb_cmp (ev_op (ev_call (ea_cons (ev_join (K := K) (ys := m.reverse.map lineOf) ev_str (ev_eq (ev_rev (ev_var rfl)) (lineOf_rev m)) (by rw [hem]; omega)) ea_nil) ⟨textOf m.reverse, m.reverse, rfl, rfl, readT_ok hmr, by omega⟩) (ev_un ev_int ru_neg) rv_neI)) (by rw [if_pos rfl]; rfl) fun H1 a => ?_
      have n3 := nextV_bd (ns := ns) (y := y) (c := c1 + 1 + 1) (below := ((m.map lineOf).length : Int)) (by rw [List.length_map]; omega)
      have hk3 : (nextV ns y (c1 + 1 + 1) ((m.map lineOf).length : Int)).toNat < m.length := by rw [List.length_map] at n3 ⊢; omega
      have hlk := lineOf_len (hm.nm _ (mem_getD hk3))
      refine q_not a (eb_cmp (ev_op (ev_call (ea_cons (ev_op (ev_var rfl) (ev_op (ev_var rfl) (ev_callM (Ω1 := [stq K _ _ _ _]) (ea_cons (ev_var rfl) (ea_cons (ev_cb (ea_cons (ev_var rfl) ea_nil) rc_lenL) ea_nil)) ⟨_, _, _, _, _, rfl, rfl, rfl, rfl, by first | omega | decide | assumption | (have h__ := ‹decide (_ < _) = false›; simp at h__; omega) | (dsimp only; omega) | (simp only [decide_eq_false_iff_not, decide_eq_true_eq, Bool.and_eq_true, Bool.or_eq_false_iff, Bool.not_eq_true] at *; omega), by first | omega | decide | assumption | (have h__ := ‹decide (_ < _) = false›; simp at h__; omega) | (dsimp only; omega) | (simp only [decide_eq_false_iff_not, decide_eq_true_eq, Bool.and_eq_true, Bool.or_eq_false_iff, Bool.not_eq_true] at *; omega), by first | omega | decide | assumption | (have h__ := ‹decide (_ < _) = false›; simp at h__; omega) | (dsimp only; omega) | (simp only [decide_eq_false_iff_not, decide_eq_true_eq, Bool.and_eq_true, Bool.or_eq_false_iff, Bool.not_eq_true] at *; omega)⟩ (by simp [adr, stq, lm, lc])) (rv_ixL n3.1 (lineOf_get hk3))) (rv_addS (by omega))) ea_nil) ⟨_, _, rfl, rfl, .inl ⟨_, rfl, readT_dup hm.nm hk3, by rw [len_app]; omega⟩⟩) ev_int rv_neI)) (by rfl) fun H1 a => ?_
      refine s_ret a (ev_eq (ev_or (d := decide ((if textOf (m.drop 1) = textOf (m.drop 1) then (-1 : Int) else -2) = -1)) (ev_op (ev_cb (ea_cons (ev_var rfl) ea_nil) rc_lenL) ev_int rv_lt) (fun h => ?wr)) ?ws) kk.forget
      case wr =>
        have h2 : 2 ≤ m.length := by simp at h; omega
        have hmd : TbOk (m.drop 1) := by
          have e := List.take_append_drop 1 m
          exact TbOk.part (m := m.take 1) (l := m.drop 1) (by rw [e]; exact hm) |>.2 (by rw [List.length_drop]; omega)
        have htd := textOf_len hmd
        have hld : ∀ l ∈ (m.drop 1).map lineOf, l.length ≤ 25 := fun l hl => by
          obtain ⟨q, hq, rfl⟩ := List.mem_map.mp hl
          exact lineOf_len (hmd.nm q hq)
        have hlds := lines_len hld
        rw [List.length_map, List.length_drop] at hlds
        exact ev_op (ev_call (ea_cons (ev_join (K := K) (ys := (m.drop 1).map lineOf) ev_str (ev_eq (ev_slFrom (ev_var rfl) ev_int (by decide)) (lineOf_drop m 1)) (by rw [hem]; omega)) ea_nil) ⟨textOf (m.drop 1), m.drop 1, rfl, rfl, readT_ok hmd, by omega⟩) (ev_un ev_int ru_neg) rv_eqI
      case ws => simp⟩
def S__law_fixed_right (K : PySem.W.Frag) : Sig := fun es res => es = [] ∧ res = en rBool true
theorem ok__law_fixed_right {P : Program} {w : World} {K : PySem.W.Frag} {mg : Str → Option Value} {base : Heap} (T : Tx K mg) (hP : FileOk P) : Gd P w K mg base 10 (ga K "_law_fixed_right") [] (spS (S__law_fixed_right K)) := by
  obtain ⟨fd, F⟩ := T.h__law_fixed_right
  obtain ⟨_, G__law_rowX, k__law_rowX, b__law_rowX⟩ := ok__law_rowX (P := P) (w := w) (base := base) T hP
  obtain ⟨_, G__law_row, k__law_row, b__law_row⟩ := ok__law_row (P := P) (w := w) (base := base) T
  refine ⟨fd, ?_, F.kp, F.bindsN fun _ _ _ _ _ _ us hl => match us, hl with | [], _ => rfl⟩
  refine fun_ok F sc__law_fixed_right (fun es res h => ?l) fun cdv A outer s H E hr => ?b
  case l =>
    obtain ⟨rfl, rfl⟩ := h
    all_goals rfl
  case b =>
    have nd : N__law_fixed_right.Nodup := sc__law_fixed_right.nd
    exact ⟨_, PSs.nox (pss_cons (ps_for PassesOwn.never rfl (pi_tup (pe_tup (pa_cons pe_non (pa_cons pe_int (pa_cons (pe_lst pa_nil) (pa_cons pe_bl pa_nil))))) : PI _ _ _ (iTup K _)) (pg_name (i := 0) nd rfl (by first | exact Or.inl rfl | exact Or.inr rfl))
    (pss_one (ps_if (pt_cmpR op_ne (pe_call G__law_rowX (hr.mono (by decide)) (by rfl) T.m_law_row k__law_rowX b__law_rowX .nil pass0 (pa_cons (pv 0) pa_nil)) pe_int (nomark _)) (pss_one (ps_ret pe_bl)) pss_nil)))
    (pss_cons (ps_set (i := 1) nd rfl (by first | exact Or.inl rfl | exact Or.inr rfl) (pe_lst (pa_cons pe_str pa_nil)))
    (pss_cons (ps_set (i := 1) nd rfl (by first | exact Or.inl rfl | exact Or.inr rfl) (pe_op op_cat (pv 1) (pe_lst (pa_cons pe_str pa_nil))))
    (pss_cons (ps_set (i := 1) nd rfl (by first | exact Or.inl rfl | exact Or.inr rfl) (pe_op op_cat (pv 1) (pe_lst (pa_cons pe_str pa_nil))))
    (pss_cons (ps_for PassesOwn.never rfl (pi_list (pv 1) : PI _ _ _ (iList K _)) (pg_name (i := 2) nd rfl (by first | exact Or.inl rfl | exact Or.inr rfl))
    (pss_one (ps_if (pt_cmpR op_ne (pe_call G__law_row (hr.mono (by decide)) (by rfl) T.m_law_row k__law_row b__law_row .nil pass0 (pa_cons (pv 2) pa_nil)) (pe_un un_neg pe_int) (nomark _)) (pss_one (ps_ret pe_bl)) pss_nil)))
    (pss_cons (ps_set (i := 3) nd rfl (by first | exact Or.inl rfl | exact Or.inr rfl) (pe_lst (pa_cons pe_str (pa_cons (pe_op op_repS pe_str pe_int) pa_nil))))
    (pss_cons (ps_expr (pe_bm PySem.F.plainAttrs_list PySem.F.slot_list_append PySem.F.type_list_append mt_append (pv 3) (pa_cons (pe_join pe_str (pe_lc (own := [("_law_name", 4)]) (by rfl) nd (pi_str pe_str) (blkOk_by (own := [("_law_name", 4)]) (N := N__law_fixed_right) (sc := defScope s__law_fixed_right) (by decide +kernel)) (fun _ _ _ _ _ => (pg_name (i := 4) nd rfl (by first | exact Or.inl rfl | exact Or.inr rfl))) (fun _ _ _ _ _ => pts_nil) (fun _ _ _ _ _ => (pe_op op_add_str (pv 4) pe_str))) : PE _ _ (tM1 (rJoinK K) _ _)) pa_nil)))
    (pss_cons (ps_for PassesOwn.never rfl (pi_list (pv 3) : PI _ _ _ (iList K _)) (pg_name (i := 2) nd rfl (by first | exact Or.inl rfl | exact Or.inr rfl))
    (pss_one (ps_if (pt_cmpR op_ne (pe_call G__law_rowX (hr.mono (by decide)) (by rfl) T.m_law_row k__law_rowX b__law_rowX .nil pass0 (pa_cons (pv 2) pa_nil)) pe_int (nomark _)) (pss_one (ps_ret pe_bl)) pss_nil)))
    (pss_cons (ps_set (i := 5) nd rfl (by first | exact Or.inl rfl | exact Or.inr rfl) (pe_lst (pa_cons (pe_tup (pa_cons pe_str (pa_cons pe_int pa_nil))) (pa_cons (pe_tup (pa_cons pe_str (pa_cons pe_int pa_nil))) (pa_cons (pe_tup (pa_cons pe_str (pa_cons pe_int pa_nil))) (pa_cons (pe_tup (pa_cons pe_str (pa_cons pe_int pa_nil))) pa_nil))))))
    (pss_cons (ps_set (i := 5) nd rfl (by first | exact Or.inl rfl | exact Or.inr rfl) (pe_op op_cat (pv 5) (pe_lst (pa_cons (pe_tup (pa_cons pe_str (pa_cons pe_int pa_nil))) (pa_cons (pe_tup (pa_cons pe_str (pa_cons pe_int pa_nil))) pa_nil)))))
    (pss_cons (ps_for PassesOwn.never rfl (pi_list (pv 5) : PI _ _ _ (iList K _)) (pg_tup rfl (pgs_cons (pg_name (i := 2) nd rfl (by first | exact Or.inl rfl | exact Or.inr rfl)) (pgs_cons (pg_name (i := 6) nd rfl (by first | exact Or.inl rfl | exact Or.inr rfl)) pgs_nil)))
    (pss_one (ps_if (pt_cmpR op_ne (pe_call G__law_rowX (hr.mono (by decide)) (by rfl) T.m_law_row k__law_rowX b__law_rowX .nil pass0 (pa_cons (pv 2) pa_nil)) (pv 6) (nomark _)) (pss_one (ps_ret pe_bl)) pss_nil)))
    (pss_one (ps_ret pe_bl))))))))))))), fun es res vs Hk Q hS a kk => by
      obtain ⟨rfl, rfl⟩ := hS
      simp only [putC, wipeC, List.set_cons_zero, List.set_cons_succ, List.map_cons, List.map_nil, List.cons_append, List.nil_append, List.length_cons, List.length_nil, List.replicate_succ, List.replicate_zero, Nat.reduceAdd, Nat.reduceSub, N__law_fixed_right] at a
      refine q_forW (ι := Unit) (vars := [0]) [0] (fun _ _ => []) (fun _ _ => []) (fun _ _ => True) () (fun i u => _) a (ei_gd (ei_tup (oddTup (K := K) (ea_cons (ev_c fun _ => rfl) (ea_cons ev_int (ea_cons (ev_lst (A := rStr) [] ea_nil rfl (by simp)) (ea_cons ev_bl ea_nil))))))) (fun i u hi => tg_nameW (by simp)) ⟨True.intro, fun _ _ _ a => a.fit (by repeat first | exact Fit.nil | refine Fit.off ?_ | refine Fit.keep ?_)⟩ (fun T1 i u σ1 H1 hi _ a => ?_) (fun u _ σ1 H1 a => ?_)
      · simp only [putC, wipeC, List.set_cons_zero, List.set_cons_succ, List.map_cons, List.map_nil, List.cons_append, List.nil_append, List.length_cons, List.length_nil, List.replicate_succ, List.replicate_zero, Nat.reduceAdd, Nat.reduceSub, N__law_fixed_right] at a
        exact s_not a (eb_cmp (ev_op (ev_call (ea_cons (ev_var rfl) ea_nil) ⟨_, 0, rfl, rfl, .inr ⟨ns_odd, rfl⟩⟩) ev_int rv_neI)) (by rfl) fun H1 a => ⟨(), True.intro, a.fit (by repeat first | exact Fit.nil | refine Fit.off ?_ | refine Fit.keep ?_)⟩
      simp only [putC, wipeC, List.set_cons_zero, List.set_cons_succ, List.map_cons, List.map_nil, List.cons_append, List.nil_append, List.length_cons, List.length_nil, List.replicate_succ, List.replicate_zero, Nat.reduceAdd, Nat.reduceSub, N__law_fixed_right] at a
      refine q_set a (ev_lst (A := rStr) case1 (ea_cons ev_str ea_nil) rfl (by decide)) fun σ1 H1 a => ?_
      refine q_set a (ev_op (ev_var rfl) (ev_lst (A := rStr) case2 (ea_cons ev_str ea_nil) rfl (by decide)) (rv_cat (by decide))) fun σ1 H1 a => ?_
      refine q_set a (ev_op (ev_var rfl) (ev_lst (A := rStr) case3 (ea_cons ev_str ea_nil) rfl (by decide)) (rv_cat (by decide))) fun σ1 H1 a => ?_
      simp only [putC, wipeC, List.set_cons_zero, List.set_cons_succ, List.map_cons, List.map_nil, List.cons_append, List.nil_append, List.length_cons, List.length_nil, List.replicate_succ, List.replicate_zero, Nat.reduceAdd, Nat.reduceSub, N__law_fixed_right] at a
      rw [show (case1 ++ case2) ++ case3 = caseL from rfl] at a
      refine q_forW (ι := Unit) (vars := [2]) [2] (fun _ _ => []) (fun _ _ => []) (fun _ _ => True) () (fun i u => _) a (ei_gd (ei_list (ev_var rfl))) (fun i u hi => tg_nameW (by simp)) ⟨True.intro, fun _ _ _ a => a.fit (by repeat first | exact Fit.nil | refine Fit.off ?_ | refine Fit.keep ?_)⟩ (fun T1 i u σ1 H1 hi _ a => ?_) (fun u _ σ1 H1 a => ?_)
      · simp only [putC, wipeC, List.set_cons_zero, List.set_cons_succ, List.map_cons, List.map_nil, List.cons_append, List.nil_append, List.length_cons, List.length_nil, List.replicate_succ, List.replicate_zero, Nat.reduceAdd, Nat.reduceSub, N__law_fixed_right] at a
        obtain ⟨h1, h2⟩ := case_ok _ (mem_getD hi)
        obtain ⟨m, h3, h4⟩ := okB_is h1
        revert a h2 h3 h4
        generalize caseL.getD i default = t
        intro a h2 h3 h4
        exact s_not a (eb_cmp (ev_op (ev_call (ea_cons (ev_var rfl) ea_nil) ⟨t, m, rfl, rfl, h3, by omega⟩) (ev_un ev_int ru_neg) rv_neI)) (by rw [if_pos h4]; rfl) fun H1 a => ⟨(), True.intro, a.fit (by repeat first | exact Fit.nil | refine Fit.off ?_ | refine Fit.keep ?_)⟩
      simp only [putC, wipeC, List.set_cons_zero, List.set_cons_succ, List.map_cons, List.map_nil, List.cons_append, List.nil_append, List.length_cons, List.length_nil, List.replicate_succ, List.replicate_zero, Nat.reduceAdd, Nat.reduceSub, N__law_fixed_right] at a
      refine q_setR a (evr_lst (A := rStr) [some1, some22] (ea_cons ev_str (ea_cons (ev_op (ev_str (z := some2)) (ev_eq (y := ((2 : Nat) : Int)) ev_int rfl) (rv_repS (by decide +kernel))) ea_nil)) rfl (by simp)) fun e Ω' σ1 H1 hR a => ?_
      obtain ⟨p, rfl, rfl⟩ := hR
      refine q_app a rfl (ev_join (K := K) (ys := (List.range 5).map fun i => (⟨#[("abcde" : Str).cps.getD i 0]⟩ : Str) ++ (" 1 1 0 1\n" : Str)) ev_str (ev_eq (ev_lc (B := rStr) _ (fun _ => true) (fun i => (⟨#[("abcde" : Str).cps.getD i 0]⟩ : Str) ++ (" 1 1 0 1\n" : Str)) (ei_str ev_str) (by decide) (fun i hi => tg_name (by simp)) (fun i Ω hi => eb_yes) (fun i Ω hi _ => ev_op (ev_var rfl) ev_str (rv_addS ?wl))) (by rfl)) (by decide +kernel)) (by decide) fun H1 a => ?_
      case wl =>
        have : (" 1 1 0 1\n" : Str).length = 9 := by decide +kernel
        rw [this]
        show 1 + 9 ≤ 40000
        decide
      have a := (a.freeL (by simp)).give (i := 3) rfl
      simp only [putC, wipeC, List.set_cons_zero, List.set_cons_succ, List.map_cons, List.map_nil, List.cons_append, List.nil_append, List.length_cons, List.length_nil, List.replicate_succ, List.replicate_zero, Nat.reduceAdd, Nat.reduceSub, N__law_fixed_right] at a
      rw [show Str.join "" ((List.range 5).map fun i => (⟨#[("abcde" : Str).cps.getD i 0]⟩ : Str) ++ (" 1 1 0 1\n" : Str)) = some3 from rfl] at a
      refine q_forW (ι := Unit) (vars := [2]) [2] (fun _ _ => []) (fun _ _ => []) (fun _ _ => True) () (fun i u => _) a (ei_gd (ei_list (ev_var rfl))) (fun i u hi => tg_nameW (by simp)) ⟨True.intro, fun _ _ _ a => a.fit (by repeat first | exact Fit.nil | refine Fit.off ?_ | refine Fit.keep ?_)⟩ (fun T1 i u σ1 H1 hi _ a => ?_) (fun u _ σ1 H1 a => ?_)
      · simp only [putC, wipeC, List.set_cons_zero, List.set_cons_succ, List.map_cons, List.map_nil, List.cons_append, List.nil_append, List.length_cons, List.length_nil, List.replicate_succ, List.replicate_zero, Nat.reduceAdd, Nat.reduceSub, N__law_fixed_right] at a
        obtain ⟨h1, h2⟩ := some_ok _ (mem_getD hi)
        have h3 := errB_is h1
        revert a h2 h3
        generalize ([some1, some22, some3] : List Str).getD i default = t
        intro a h2 h3
        exact s_not a (eb_cmp (ev_op (ev_call (ea_cons (ev_var rfl) ea_nil) ⟨_, 0, rfl, rfl, .inl ⟨t, rfl, h3, by omega⟩⟩) ev_int rv_neI)) (by rfl) fun H1 a => ⟨(), True.intro, a.fit (by repeat first | exact Fit.nil | refine Fit.off ?_ | refine Fit.keep ?_)⟩
      simp only [putC, wipeC, List.set_cons_zero, List.set_cons_succ, List.map_cons, List.map_nil, List.cons_append, List.nil_append, List.length_cons, List.length_nil, List.replicate_succ, List.replicate_zero, Nat.reduceAdd, Nat.reduceSub, N__law_fixed_right] at a
      refine q_set a (ev_lst (A := rPair K rStr rInt) rows1 (ea_cons (ev_tup2 (ea_cons ev_str (ea_cons ev_int ea_nil))) (ea_cons (ev_tup2 (ea_cons ev_str (ea_cons ev_int ea_nil))) (ea_cons (ev_tup2 (ea_cons ev_str (ea_cons ev_int ea_nil))) (ea_cons (ev_tup2 (ea_cons ev_str (ea_cons ev_int ea_nil))) ea_nil)))) rfl (by decide)) fun σ1 H1 a => ?_
      refine q_set a (ev_op (ev_var rfl) (ev_lst (A := rPair K rStr rInt) rows2 (ea_cons (ev_tup2 (ea_cons ev_str (ea_cons ev_int ea_nil))) (ea_cons (ev_tup2 (ea_cons ev_str (ea_cons ev_int ea_nil))) ea_nil)) rfl (by decide)) (rv_cat (by decide))) fun σ1 H1 a => ?_
      simp only [putC, wipeC, List.set_cons_zero, List.set_cons_succ, List.map_cons, List.map_nil, List.cons_append, List.nil_append, List.length_cons, List.length_nil, List.replicate_succ, List.replicate_zero, Nat.reduceAdd, Nat.reduceSub, N__law_fixed_right] at a
      refine q_forW (ι := Unit) (vars := [2, 6]) [2, 6] (fun _ _ => []) (fun _ _ => []) (fun _ _ => True) () (fun i u => _) a (ei_gd (ei_list (ev_var rfl))) (fun i u hi => tg_pairD (by simp) (by simp)) ⟨True.intro, fun _ _ _ a => a.fit (by repeat first | exact Fit.nil | refine Fit.off ?_ | refine Fit.keep ?_)⟩ (fun T1 i u σ1 H1 hi _ a => ?_) (fun u _ σ1 H1 a => ?_)
      · simp only [putC, wipeC, List.set_cons_zero, List.set_cons_succ, List.map_cons, List.map_nil, List.cons_append, List.nil_append, List.length_cons, List.length_nil, List.replicate_succ, List.replicate_zero, Nat.reduceAdd, Nat.reduceSub, N__law_fixed_right] at a
        obtain ⟨h1, h2⟩ := rows_ok _ (mem_getD hi)
        have h3 := errB_is h1
        revert a h2 h3
        generalize (rows1 ++ rows2).getD i default = t
        intro a h2 h3
        exact s_not a (eb_cmp (ev_op (ev_call (ea_cons (ev_var rfl) ea_nil) ⟨_, t.2, rfl, rfl, .inl ⟨t.1, rfl, h3, by omega⟩⟩) (ev_var rfl) rv_neI)) (by simp) fun H1 a => ⟨(), True.intro, a.fit (by repeat first | exact Fit.nil | refine Fit.off ?_ | refine Fit.keep ?_)⟩
      exact s_ret a ev_bl kk⟩
def S_law (K : PySem.W.Frag) : Sig := fun es res => S_lawV K es res
theorem ok_law {P : Program} {w : World} {K : PySem.W.Frag} {mg : Str → Option Value} {base : Heap} (T : Tx K mg) (hP : FileOk P) {fd : FuncData} (F : FunD K e_law.name e_law.qual e_law.params e_law.body e_law.scope (e_law.dvs K) (e_law.kws K) (e_law.ad K) fd) : FnOk P w K mg base CX0 11 (ga K "law") fd ["_law_script"] (spS (S_law K)) := by
  obtain ⟨_, G__law_one_right, k__law_one_right, b__law_one_right⟩ := ok__law_one_right (P := P) (w := w) (base := base) T hP
  obtain ⟨_, G__law_fixed_right, k__law_fixed_right, b__law_fixed_right⟩ := ok__law_fixed_right (P := P) (w := w) (base := base) T hP
  refine fun_ok F sc_law (fun es res h => ?l) fun cdv A outer s H E hr => ?b
  case l =>
    obtain ⟨ns, rfl, rfl⟩ := h
    all_goals rfl
  case b =>
    have nd : N_law.Nodup := sc_law.nd
    exact ⟨_, PSs.nox (pss_cons (ps_for PassesOwn.never rfl (pi_range3 (by rfl) T.range (pa_cons pe_int (pa_cons (pe_callB (call_max2 rfl) (by rfl) T.max (by decide +kernel) (pa_cons pe_int (pa_cons (pe_callB (call_min2 rfl) (by rfl) T.min (by decide +kernel) (pa_cons pe_int (pa_cons (pe_callB (call_len_seq : CallR _ _ (rLenQ K)) (by rfl) T.len boot_len (pa_cons (pv 0) pa_nil)) pa_nil))) pa_nil))) (pa_cons pe_int pa_nil)))) (pg_name (i := 1) nd rfl (by first | exact Or.inl rfl | exact Or.inr rfl))
    (pss_one (ps_if (pt_not (pt_val (pe_call G__law_one_right (hr.mono (by decide)) (by rfl) T.m_law_one_right k__law_one_right b__law_one_right .nil pass0 (pa_cons (pe_lst (pa_cons (pv 0) (pa_cons (pv 1) (pa_cons pe_int pa_nil)))) pa_nil)))) (pss_one (ps_ret pe_bl)) pss_nil)))
    (pss_one (ps_ret (pe_call0 G__law_fixed_right (hr.mono (by decide)) (by rfl) T.m_law_fixed_right k__law_fixed_right b__law_fixed_right .nil pass0)))), fun es res vs Hk Q hS a kk => by
      obtain ⟨ns, rfl, rfl⟩ := hS
      have hh : 1 ≤ max 1 (min 24 (ns.length : Int)) ∧ max 1 (min 24 (ns.length : Int)) ≤ 24 := by omega
      refine q_for (fun _ => [some (en (rScr K) ns), none]) (fun _ => []) (fun _ => True) a (ei_rng3 (ea_cons ev_int (ea_cons (ev_cb (ea_cons ev_int (ea_cons (ev_cb (ea_cons ev_int (ea_cons (ev_cb (ea_cons (ev_var rfl) ea_nil) rc_lenScr) ea_nil)) rc_min2) ea_nil)) rc_max2) (ea_cons ev_int ea_nil))) (rgc3 hh)) ⟨True.intro, fun _ _ _ a => a⟩ (fun T1 k σ1 H1 hk _ a => ?_) (fun _ σ1 H1 a => ?_)
      · refine s_not a (eb_not (eb_val (ev_callL (e := en rBool true) (ea_cons (ev_var rfl) (ea_cons (ev_var rfl) (ea_cons ev_int ea_nil))) (by simp) (fun p => ⟨[], ⟨p, ns, _, 0, rfl, rfl, rfl, rfl, by omega, by omega⟩, by simp⟩)))) rfl fun H1 a => ⟨True.intro, a.off 1⟩
      · exact s_ret a (ev_call ea_nil ⟨rfl, rfl⟩) kk⟩

end KL
open PySem PySem.W PySem.Calls PyProof.Rows
theorem PySem.Challenge.cw_keepapart_k13_whole_texts_holds : PySem.Challenge.rw_keepapart_k13_whole_texts.Holds := by
  w_on; o_law
  refine HandSHeadRun.head_imp (r := OpenLaw.row PySem.Challenge.rw_keepapart_k13_whole_texts) (q := view (OpenLaw.row PySem.Challenge.rw_keepapart_k13_whole_texts).prog [0, 48]) (H := KL.hk) (ob := KL.ob) (M := 8000) (loose := KL.names) (d := HandSHeadRun.topDef (OpenLaw.row PySem.Challenge.rw_keepapart_k13_whole_texts).prog 48) (kwd := []) KL.ob_eq
    KL.run (by kernel_rfl) (by kernel_rfl) (by kernel_rfl) (by rfl) (by first | assumption | decide +kernel) (by decide +kernel) ⟨rfl, rfl, rfl, rfl, rfl, by decide +kernel⟩ ?hw ?hc
  case hw => w_witness2
  case hc =>
    refine L2.walk_ofE (l := PySem.Challenge.rw_keepapart_k13_whole_texts) (n := 63) (k := 11) (x := "_law_script") (CX := L2.CX0) rfl (by decide) (by kernel_rfl) ⟨rfl, by decide, by decide⟩ ?F (fun _ _ _ _ z => z)
    intro w mg fa h Y G hmg0
    obtain ⟨K, KX, c⟩ := Y
    have hmg : mg ("law" : PySem.Str) = some (.ref fa) := by
      have e : (HandSHeadRun.topDef (OpenLaw.row PySem.Challenge.rw_keepapart_k13_whole_texts).prog 48).name = ("law" : PySem.Str) := by kernel_rfl
      rw [← e]
      exact hmg0
    have T := KL.tx_of KX G c
    have e := hmg.symm.trans T.mlaw
    cases e
    obtain ⟨fd, F⟩ := T.h_law
    have b := L2.FunD.bindsA (ps := ["_law_script"]) F fun _ _ _ _ _ _ us hl => match us, hl with | [_], _ => rfl
    exact ⟨K, fd, KA.spS (KL.S_law K), KX, fun s v => b s [v] rfl, fun H a ns hl _ hS => KA.lawV_ok hS, fun base _ _ => KL.ok_law T ⟨by rfl, by kernel_rfl⟩ F⟩
