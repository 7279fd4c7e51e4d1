import PyProof.Rows.All
import Wide.All
import OpenK.AllK
import Wide.FinOn
import HandS.ForMost
import HandS.ForExc
import HandS.Flow
import HandS.TupAny
import HandS.Wide
import HandS.Deep
import HandS.ExcInit
import HandS.ExcValue
import HandS.CallSlots
import HandS.IsInst
import HandS.ExcIs
import HandS.ExcField
import HandS.WordsExc
import KE.KIsAll
import KE.KTryMore
import HandS.DictComp
import HandS.DeepEq
import HandS.OwnEq
import HandS.Dict
import KE.GoesEnum
import KE.GoesMore
import HandS.Head0
import HandS.Head1
import HandS.Head2
import HandS.Head3
import HandS.HeadEnd
import HandS.HeadHook4
import HandS.Words
import HandS.StrMore
import HandS.HeadWalk
import HandS.Small
import HandS.Style
import HandS.SortKw
import HandS.TupSets
import HandS.Defaults
import HandS.More
import KE.IntBitsLaws
import HandS.EndBits
import PySem.Challenge.RW_unmissed_k00_errors
set_option Elab.async false
set_option linter.all false
set_option maxRecDepth 100000
set_option maxHeartbeats 8000000
namespace Mi
open PySem PySem.Spec L2
inductive Cl where | ty (n : String) | own (c : Nat)
structure CI where
  ini : Nat
  ms : List (Nat × Nat)
  at_ : List Nat
  exc : Bool
instance decCl : DecidableEq Cl := fun a b => match a, b with
  | .ty x, .ty y => if h : x = y then isTrue (congrArg Cl.ty h) else isFalse fun e => h (Cl.ty.inj e)
  | .own i, .own j => if h : i = j then isTrue (congrArg Cl.own h) else isFalse fun e => h (Cl.own.inj e)
  | .ty _, .own _ => isFalse fun e => nomatch e
  | .own _, .ty _ => isFalse fun e => nomatch e
section
variable (K : PySem.W.Frag)
def oexB (C : Addr) : Bool := (match K.lookup C with
  | some ⟨cl, _, .cls cd, sl⟩ => decide (cl = .type "type") && (match cd.mro, sl.toList with
    | .ref C' :: bm, [_, _, _, _, some n, _] => decide (C' = C) && (decide (n = .builtin "ValueError.__new__") && (decide (cd.hasDel = false) && (decide (cd.hasDict = true) && PySem.HandSPX.refsVE bm)))
    | _, _ => false)
  | _ => false) && (He.eqO (PySem.W.findIn K (.ref C) "__setattr__") (some (some (.builtin "object.__setattr__"))) && (decide (PySem.W.subIn K (.ref C) (.type "BaseException") = some true) && (decide (PySem.W.typeIn K (.ref C) = some (.type "type")) && PySem.W.keepIn K (.ref C))))
def excCB (D : Addr) : Bool := He.eqO (PySem.W.findIn K (.ref D) "__getattribute__") (some (some (.builtin "BaseException.__getattribute__"))) && (He.eqO (PySem.W.findIn K (.ref D) "__getattr__") (some none) && (decide (PySem.W.subIn K (.ref D) (.type "BaseException") = some true) && (PySem.W.hasDictIn K D &&
  (He.eqO (PySem.W.findIn K (.ref D) "__class__") (some (some (.builtin "object.__class__"))) && (He.eqO (PySem.W.specialIn K (.builtin "object.__class__") "__get__") (some (some (.builtin "getset_descriptor.__get__"))) && (decide (PySem.W.takesIn K (.builtin "object.__class__") = some true) && decide (PySem.W.mroIn K D (.type "object") = some true)))))))
end
def freeNames : List Str := ["len", "abs", "any", "all", "isinstance", "enumerate", "zip", "range", "int", "str", "tuple", "list", "bool", "dict", "ValueError", "sorted", "set", "max", "min"]
/-! ## what the head's run is asked, by names and numbers alone -/
structure Te where
  cls : List Str
  NM : List Str
  cs : List CI
  ats : List (Str × Option Str)
  ok : Nat → Bool
  isa : Cl → Cl → Option Bool
  tyI : List Cl
  tyC : List Cl
  fns : List (Option Str)
  cons : List (Str × (Int ⊕ Str))
section
variable (t : Te) (K : PySem.W.Frag)
def Te.at_ (f : Nat) : Str × Option Str := t.ats.getD f (Str.empty, none)
def Te.A (f : Nat) : Addr := He.fAd K (t.at_ f)
def Te.nmC (c : Nat) : Str := t.cls.getD c Str.empty
def Te.ownB (x : Str) (C : CI) : Bool := (He.Fa.cls x).ok K && (He.eqO (PySem.W.findIn K (.ref (He.ga K x)) "__class__") (some (some (.builtin "object.__class__"))) && (He.eqO (PySem.W.specialIn K (.builtin "object.__class__") "__get__") (some (some (.builtin "getset_descriptor.__get__"))) && (decide (PySem.W.takesIn K (.builtin "object.__class__") = some true) &&
  (decide (PySem.W.mroIn K (He.ga K x) (.type "object") = some true) && ((C.at_.all fun f => match t.NM[f]? with
    | some nm => He.eqO (PySem.W.findIn K (.ref (He.ga K x)) nm) (some none)
    | none => false) && ((C.ms.all fun q => match t.NM[q.1]? with
    | some nm => t.ok q.2 && (He.eqO (PySem.W.findIn K (.ref (He.ga K x)) nm) (some (some (.ref (t.A K q.2)))) && (PySem.W.isFn K (.ref (t.A K q.2)) && PySem.W.keepIn K (.ref (t.A K q.2))))
    | none => false) && (t.ok C.ini && (PySem.W.makesIn K (He.ga K x) && (He.eqO (PySem.W.findIn K (.ref (He.ga K x)) "__init__") (some (some (.ref (t.A K C.ini)))) && (PySem.W.isFn K (.ref (t.A K C.ini)) && PySem.W.keepIn K (.ref (He.ga K x))))))))))))
def Te.excB (x : Str) (C : CI) : Bool := oexB K (He.ga K x) && (He.eqO (PySem.W.findIn K (.ref (He.ga K x)) "value") (some none) && (xfB K (He.ga K x) && (excCB K (He.ga K x) && (He.eqO (PySem.W.findIn K (.ref (He.ga K x)) "__init__") (some (some (.ref (t.A K C.ini)))) && decide (PySem.W.typeIn K (.ref (t.A K C.ini)) = some (.type "function"))))))
def Te.clsB (c : Nat) : Bool := match t.cs[c]? with
  | some C => (He.Fa.glo (t.nmC c)).ok K && (if C.exc = true then t.excB K (t.nmC c) C else t.ownB K (t.nmC c) C)
  | none => false
def Te.conB (q : Str × (Int ⊕ Str)) : Bool := match q.2 with
  | .inl i => (He.Fa.int q.1 i).ok K
  | .inr z => (He.Fa.str q.1 z).ok K
def Te.clU (c : Cl) : Value := match c with | .ty n => .type n | .own i => .ref (He.ga K (t.nmC i))
def Te.isaB (a b : Cl) : Bool := match t.isa a b with
  | some r => decide (PySem.W.kitOne K (t.clU K a) (t.clU K b) = some r)
  | none => true
def Te.fnB (f : Nat) : Bool := match t.fns[f]? with
  | some (some x) => t.ok f && (decide (t.at_ f = (x, none)) && (He.Fa.glo x).ok K)
  | _ => true
def Te.ex1 : Bool := (freeNames.all fun x => (He.Fa.free x).ok K) && ((List.range t.cs.length).all fun c => t.clsB K c)
def Te.ex2 : Bool := (t.cons.all fun q => Te.conB K q) && ((t.tyI.all fun a => t.tyC.all fun b => t.isaB K a b) && ((List.range t.fns.length).all fun f => t.fnB K f))
end
/-! ## the head's facts at addresses told -/
def hookL (as : List Addr) (fn : List He.DefD) (ex : PySem.W.Frag → Bool) : PySem.W.Hook where
  α := He.AlD × Bool
  obs := fun s => (He.obsD [] fn (He.frT s.heap.get? as), ex (He.frT s.heap.get? as))
  val := fun _ => (He.valD fn, true)
  says := fun _ h => ∃ K : PySem.W.Frag, K.In h ∧ He.SaysD [] fn K ∧ ex K = true
  of := fun _ _ e => ⟨_, He.frT_in, congrArg Prod.fst e, congrArg Prod.snd e⟩
  keeps := fun _ _ _ ⟨K, hK, c⟩ k => ⟨K, PySem.W.Frag.In.keeps hK k, c⟩
def obL (as : List Addr) (fn : List He.DefD) (ex : PySem.W.Frag → Bool) (g : Addr → Option Obj) : He.AlD × Bool := (He.obsD [] fn (He.frT g as), ex (He.frT g as))
theorem obL_eq {as : List Addr} {fn : List He.DefD} {ex : PySem.W.Frag → Bool} {g : Addr → Option Obj} {s : Shared} (h : ∀ a, g a = s.heap.get? a) : obL as fn ex g = (hookL as fn ex).obs s := by
  have e : g = s.heap.get? := funext h
  rw [e]
  rfl
/-! ## the head's run, told in parts -/
section
variable (r : PySem.W.OpenRow) (q : Program) (M : Nat) (loose : List Str) (w : World) (as : List Addr) (fn : List He.DefD) (e : PySem.W.Frag → Bool)
noncomputable def runQ : Option (Shared × PySem.W.SharedT) := HandSHeadRun.wholeF (fun p => HandSHeadRun.stepQ (HandSHeadRun.denQ HandSHeadRun.tabQ) p w) HandSHeadRun.fenceQ M r.prog
def RunA : Prop := (runQ r M w).map (fun x => HandSHeadRun.looksF r.prog x.1.heap x.2.abs) = some true
def RunB : Prop := (runQ r M w).map (fun x => HandSHeadRun.seenQ q loose (importedModules r.prog.main.body) (fun s => PySem.W.xlAt q [] s && PySem.W.recOk r.toRowW.records s) x.2.abs) = some (PySem.W.openGood q loose)
def RunC : Prop := (runQ r M w).map (fun x => He.obsD [] fn (He.frT (HandSHeadRun.getT x.2) as)) = some (He.valD fn)
def RunD : Prop := (runQ r M w).map (fun x => e (He.frT (HandSHeadRun.getT x.2) as)) = some true
end
theorem run_parts {r : PySem.W.OpenRow} {q : Program} {M : Nat} {loose : List Str} {w : World} {as : List Addr} {fn : List He.DefD} {e1 e2 : PySem.W.Frag → Bool}
    (a : RunA r M w) (b : RunB r q M loose w) (c : RunC r M w as fn) (d1 : RunD r M w as e1) (d2 : RunD r M w as e2) :
    HandSHeadRun.RunEqI r q (hookL as fn fun K => e1 K && e2 K) (fun s => obL as fn (fun K => e1 K && e2 K) (HandSHeadRun.getT s)) M loose w := by
  unfold RunA at a
  unfold RunB at b
  unfold RunC at c
  unfold RunD at d1 d2
  show (runQ r M w).map _ = _
  cases e : runQ r M w with
  | none => rw [e] at a; cases a
  | some x =>
    rw [e] at a b c d1 d2
    have a := Option.some.inj a
    have b := Option.some.inj b
    have c := Option.some.inj c
    have d1 : e1 (He.frT (HandSHeadRun.getT x.2) as) = true := Option.some.inj d1
    have d2 : e2 (He.frT (HandSHeadRun.getT x.2) as) = true := Option.some.inj d2
    refine congrArg some (Prod.ext a (Prod.ext b (Prod.ext c ?_)))
    show (e1 (He.frT (HandSHeadRun.getT x.2) as) && e2 (He.frT (HandSHeadRun.getT x.2) as)) = true
    rw [d1, d2]
    rfl
end Mi
set_option maxHeartbeats 0
namespace Mi.k00
open PySem PySem.Spec L2 Mi
def top (i : Nat) : Stmt := PySem.Challenge.pw_unmissed_k00_errors.main.body.getD i (.Pass ⟨0, 0, 0, 0⟩)
def NM : List Str := [("__contains__" : Str), ("__eq__" : Str), ("__getitem__" : Str), ("__init__" : Str), ("__iter__" : Str), ("__len__" : Str), ("_members" : Str), ("append" : Str), ("asks" : Str), ("at" : Str), ("begins" : Str), ("book" : Str), ("calendars" : Str), ("cells" : Str), ("clients" : Str), ("count" : Str), ("day" : Str), ("doors" : Str), ("endswith" : Str), ("extend" : Str), ("is_done" : Str), ("is_one" : Str), ("join" : Str), ("lines" : Str), ("lives" : Str), ("lstrip" : Str), ("many" : Str), ("moment" : Str), ("name" : Str), ("names" : Str), ("page" : Str), ("partition" : Str), ("read_block" : Str), ("read_blocks" : Str), ("read_else" : Str), ("read_statement" : Str), ("rounds" : Str), ("scope" : Str), ("settled" : Str), ("sleeps" : Str), ("split" : Str), ("take" : Str), ("text" : Str), ("users" : Str), ("value" : Str), ("words" : Str), ("worth" : Str)]
def clss : List CI := [(⟨1, [], [], true⟩ : CI), (⟨1, [], [], true⟩ : CI), (⟨1, [], [], true⟩ : CI), (⟨1, [], [], true⟩ : CI), (⟨1, [], [], true⟩ : CI), (⟨1, [], [], true⟩ : CI), (⟨1, [], [], true⟩ : CI), (⟨1, [], [], true⟩ : CI), (⟨1, [], [], true⟩ : CI), (⟨1, [], [], true⟩ : CI), (⟨1, [], [], true⟩ : CI), (⟨1, [], [], true⟩ : CI), (⟨1, [], [], true⟩ : CI), (⟨1, [], [], true⟩ : CI), (⟨1, [], [], true⟩ : CI), (⟨1, [], [], true⟩ : CI), (⟨1, [], [], true⟩ : CI), (⟨1, [], [], true⟩ : CI), (⟨1, [], [], true⟩ : CI), (⟨1, [], [], true⟩ : CI), (⟨1, [], [], true⟩ : CI), (⟨1, [], [], true⟩ : CI), (⟨1, [], [], true⟩ : CI), (⟨1, [], [], true⟩ : CI), (⟨1, [], [], true⟩ : CI), (⟨1, [], [], true⟩ : CI), (⟨1, [], [], true⟩ : CI), (⟨1, [], [], true⟩ : CI), (⟨1, [], [], true⟩ : CI), (⟨19, [(20, 20), (45, 21), (41, 22)], [9, 23], false⟩ : CI), (⟨26, [], [13, 17, 29], false⟩ : CI), (⟨32, [(32, 33), (35, 34), (33, 35), (34, 36)], [26, 30, 37], false⟩ : CI), (⟨39, [(1, 40)], [8, 10, 11, 13, 16, 21, 24, 28, 39, 42, 43], false⟩ : CI), (⟨42, [(46, 43), (27, 44), (1, 45), (5, 46), (0, 47), (2, 48), (4, 49)], [6, 12, 14, 17, 36, 38, 42], false⟩ : CI)]
def excL : List Bool := [true, true, true, true, true, true, true, true, true, true, true, true, true, true, true, true, true, true, true, true, true, true, true, true, true, true, true, true, true, false, false, false, false, false]
def isExc (i : Nat) : Bool := excL.getD i false
def tyI : List Cl := [.ty "NoneType", .ty "bool", .ty "int", .ty "str", .ty "tuple", .ty "list", .ty "dict", .own 0, .own 1, .own 2, .own 3, .own 4, .own 5, .own 6, .own 7, .own 8, .own 9, .own 10, .own 11, .own 12, .own 13, .own 14, .own 15, .own 16, .own 17, .own 18, .own 19, .own 20, .own 21, .own 22, .own 23, .own 24, .own 25, .own 26, .own 27, .own 28, .own 29, .own 30, .own 31, .own 32, .own 33]
def tyC : List Cl := [.ty "str", .ty "ValueError", .own 0, .own 1, .own 2, .own 3, .own 4, .own 5, .own 6, .own 7, .own 8, .own 9, .own 10, .own 11, .own 12, .own 13, .own 14, .own 15, .own 16, .own 17, .own 18, .own 19, .own 20, .own 21, .own 22, .own 23, .own 24, .own 25, .own 26, .own 27, .own 28, .own 32, .own 33]
def usedL : List Bool := [true, true, true, true, true, true, true, true, true, true, true, true, true, true, true, true, true, true, true, true, true, true, true, true, true, true, true, true, true, false, false, false, true, true]
def isaO (i j : Nat) : Option Bool := match Nat.blt i 34 && usedL.getD j false with
  | true => some (Nat.beq i j || (Nat.beq j 0 && isExc i))
  | false => none
def isaS (i : Nat) (b : String) : Option Bool := if Nat.blt i 34 = true ∧ b ∈ (["str", "ValueError"] : List String) then some (decide (b = "ValueError") && isExc i) else none
def isaT : Cl → Cl → Option Bool
  | .own i, .own j => isaO i j
  | .own i, .ty b => isaS i b
  | .ty a, .own j => if a ∈ (["NoneType", "bool", "int", "str", "tuple", "list", "dict"] : List String) ∧ usedL.getD j false = true then some false else none
  | .ty a, .ty b => if a ∈ (["NoneType", "bool", "int", "str", "tuple", "list", "dict"] : List String) ∧ b ∈ (["str", "ValueError"] : List String) then some (decide (a = b) || (decide (a = "bool") && decide (b = "int"))) else none
def d0 : He.DefD := ⟨(("_wall" : Str), none), ("_wall" : Str), ("_wall" : Str), defArgs (top 1), defBody (top 1), defScope (top 1), [], []⟩
def d1 : He.DefD := ⟨(("UnmissedError" : Str), some ("__init__" : Str)), ("__init__" : Str), ("UnmissedError.__init__" : Str), defArgs (inClass (top 3) 0), defBody (inClass (top 3) 0), defScope (inClass (top 3) 0), [], []⟩
def d2 : He.DefD := ⟨(("names_of" : Str), none), ("names_of" : Str), ("names_of" : Str), defArgs (top 33), defBody (top 33), defScope (top 33), [], []⟩
def d3 : He.DefD := ⟨(("is_made_of" : Str), none), ("is_made_of" : Str), ("is_made_of" : Str), defArgs (top 38), defBody (top 38), defScope (top 38), [], []⟩
def d4 : He.DefD := ⟨(("is_name" : Str), none), ("is_name" : Str), ("is_name" : Str), defArgs (top 39), defBody (top 39), defScope (top 39), [], []⟩
def d5 : He.DefD := ⟨(("read_figure" : Str), none), ("read_figure" : Str), ("read_figure" : Str), defArgs (top 40), defBody (top 40), defScope (top 40), [], []⟩
def d6 : He.DefD := ⟨(("read_sized" : Str), none), ("read_sized" : Str), ("read_sized" : Str), defArgs (top 49), defBody (top 49), defScope (top 49), [], []⟩
def d7 : He.DefD := ⟨(("rounds_of" : Str), none), ("rounds_of" : Str), ("rounds_of" : Str), defArgs (top 50), defBody (top 50), defScope (top 50), [], []⟩
def d8 : He.DefD := ⟨(("read_calendars" : Str), none), ("read_calendars" : Str), ("read_calendars" : Str), defArgs (top 51), defBody (top 51), defScope (top 51), [], []⟩
def d9 : He.DefD := ⟨(("read_doors" : Str), none), ("read_doors" : Str), ("read_doors" : Str), defArgs (top 52), defBody (top 52), defScope (top 52), [], []⟩
def d10 : He.DefD := ⟨(("read_client_name" : Str), none), ("read_client_name" : Str), ("read_client_name" : Str), defArgs (top 53), defBody (top 53), defScope (top 53), [], []⟩
def d11 : He.DefD := ⟨(("read_bound" : Str), none), ("read_bound" : Str), ("read_bound" : Str), defArgs (top 54), defBody (top 54), defScope (top 54), [], []⟩
def d12 : He.DefD := ⟨(("read_span" : Str), none), ("read_span" : Str), ("read_span" : Str), defArgs (top 55), defBody (top 55), defScope (top 55), [], []⟩
def d13 : He.DefD := ⟨(("read_sleeps" : Str), none), ("read_sleeps" : Str), ("read_sleeps" : Str), defArgs (top 56), defBody (top 56), defScope (top 56), [], []⟩
def d14 : He.DefD := ⟨(("read_cells" : Str), none), ("read_cells" : Str), ("read_cells" : Str), defArgs (top 57), defBody (top 57), defScope (top 57), [], []⟩
def d15 : He.DefD := ⟨(("read_within" : Str), none), ("read_within" : Str), ("read_within" : Str), defArgs (top 58), defBody (top 58), defScope (top 58), [], []⟩
def d16 : He.DefD := ⟨(("read_user" : Str), none), ("read_user" : Str), ("read_user" : Str), defArgs (top 59), defBody (top 59), defScope (top 59), [], []⟩
def d17 : He.DefD := ⟨(("read_users" : Str), none), ("read_users" : Str), ("read_users" : Str), defArgs (top 60), defBody (top 60), defScope (top 60), [], []⟩
def d18 : He.DefD := ⟨(("blanks_ahead" : Str), none), ("blanks_ahead" : Str), ("blanks_ahead" : Str), defArgs (top 63), defBody (top 63), defScope (top 63), [], []⟩
def d19 : He.DefD := ⟨(("Page" : Str), some ("__init__" : Str)), ("__init__" : Str), ("Page.__init__" : Str), defArgs (inClass (top 64) 0), defBody (inClass (top 64) 0), defScope (inClass (top 64) 0), [], []⟩
def d20 : He.DefD := ⟨(("Page" : Str), some ("is_done" : Str)), ("is_done" : Str), ("Page.is_done" : Str), defArgs (inClass (top 64) 1), defBody (inClass (top 64) 1), defScope (inClass (top 64) 1), [], []⟩
def d21 : He.DefD := ⟨(("Page" : Str), some ("words" : Str)), ("words" : Str), ("Page.words" : Str), defArgs (inClass (top 64) 2), defBody (inClass (top 64) 2), defScope (inClass (top 64) 2), [], []⟩
def d22 : He.DefD := ⟨(("Page" : Str), some ("take" : Str)), ("take" : Str), ("Page.take" : Str), defArgs (inClass (top 64) 3), defBody (inClass (top 64) 3), defScope (inClass (top 64) 3), [], []⟩
def d23 : He.DefD := ⟨(("split_parts" : Str), none), ("split_parts" : Str), ("split_parts" : Str), defArgs (top 69), defBody (top 69), defScope (top 69), [], []⟩
def d24 : He.DefD := ⟨(("read_expression" : Str), none), ("read_expression" : Str), ("read_expression" : Str), defArgs (top 70), defBody (top 70), defScope (top 70), [.int 4], []⟩
def d25 : He.DefD := ⟨(("read_call" : Str), none), ("read_call" : Str), ("read_call" : Str), defArgs (top 71), defBody (top 71), defScope (top 71), [], []⟩
def d26 : He.DefD := ⟨(("Scope" : Str), some ("__init__" : Str)), ("__init__" : Str), ("Scope.__init__" : Str), defArgs (inClass (top 76) 0), defBody (inClass (top 76) 0), defScope (inClass (top 76) 0), [], []⟩
def d27 : He.DefD := ⟨(("read_set" : Str), none), ("read_set" : Str), ("read_set" : Str), defArgs (top 77), defBody (top 77), defScope (top 77), [], []⟩
def d28 : He.DefD := ⟨(("read_worth" : Str), none), ("read_worth" : Str), ("read_worth" : Str), defArgs (top 78), defBody (top 78), defScope (top 78), [], []⟩
def d29 : He.DefD := ⟨(("read_ask" : Str), none), ("read_ask" : Str), ("read_ask" : Str), defArgs (top 79), defBody (top 79), defScope (top 79), [], []⟩
def d30 : He.DefD := ⟨(("read_repeat" : Str), none), ("read_repeat" : Str), ("read_repeat" : Str), defArgs (top 80), defBody (top 80), defScope (top 80), [], []⟩
def d31 : He.DefD := ⟨(("read_facts" : Str), none), ("read_facts" : Str), ("read_facts" : Str), defArgs (top 81), defBody (top 81), defScope (top 81), [], []⟩
def d32 : He.DefD := ⟨(("DayReader" : Str), some ("__init__" : Str)), ("__init__" : Str), ("DayReader.__init__" : Str), defArgs (inClass (top 82) 0), defBody (inClass (top 82) 0), defScope (inClass (top 82) 0), [], []⟩
def d33 : He.DefD := ⟨(("DayReader" : Str), some ("read_block" : Str)), ("read_block" : Str), ("DayReader.read_block" : Str), defArgs (inClass (top 82) 1), defBody (inClass (top 82) 1), defScope (inClass (top 82) 1), [], []⟩
def d34 : He.DefD := ⟨(("DayReader" : Str), some ("read_statement" : Str)), ("read_statement" : Str), ("DayReader.read_statement" : Str), defArgs (inClass (top 82) 2), defBody (inClass (top 82) 2), defScope (inClass (top 82) 2), [], []⟩
def d35 : He.DefD := ⟨(("DayReader" : Str), some ("read_blocks" : Str)), ("read_blocks" : Str), ("DayReader.read_blocks" : Str), defArgs (inClass (top 82) 3), defBody (inClass (top 82) 3), defScope (inClass (top 82) 3), [], []⟩
def d36 : He.DefD := ⟨(("DayReader" : Str), some ("read_else" : Str)), ("read_else" : Str), ("DayReader.read_else" : Str), defArgs (inClass (top 82) 4), defBody (inClass (top 82) 4), defScope (inClass (top 82) 4), [], []⟩
def d37 : He.DefD := ⟨(("read_day" : Str), none), ("read_day" : Str), ("read_day" : Str), defArgs (top 83), defBody (top 83), defScope (top 83), [], []⟩
def d38 : He.DefD := ⟨(("asked_doors" : Str), none), ("asked_doors" : Str), ("asked_doors" : Str), defArgs (top 84), defBody (top 84), defScope (top 84), [], []⟩
def d39 : He.DefD := ⟨(("Client" : Str), some ("__init__" : Str)), ("__init__" : Str), ("Client.__init__" : Str), defArgs (inClass (top 86) 0), defBody (inClass (top 86) 0), defScope (inClass (top 86) 0), [], []⟩
def d40 : He.DefD := ⟨(("Client" : Str), some ("__eq__" : Str)), ("__eq__" : Str), ("Client.__eq__" : Str), defArgs (inClass (top 86) 1), defBody (inClass (top 86) 1), defScope (inClass (top 86) 1), [], []⟩
def d41 : He.DefD := ⟨(("read_clients" : Str), none), ("read_clients" : Str), ("read_clients" : Str), defArgs (top 87), defBody (top 87), defScope (top 87), [], []⟩
def d42 : He.DefD := ⟨(("Book" : Str), some ("__init__" : Str)), ("__init__" : Str), ("Book.__init__" : Str), defArgs (inClass (top 88) 0), defBody (inClass (top 88) 0), defScope (inClass (top 88) 0), [], []⟩
def d43 : He.DefD := ⟨(("Book" : Str), some ("worth" : Str)), ("worth" : Str), ("Book.worth" : Str), defArgs (inClass (top 88) 1), defBody (inClass (top 88) 1), defScope (inClass (top 88) 1), [], []⟩
def d44 : He.DefD := ⟨(("Book" : Str), some ("moment" : Str)), ("moment" : Str), ("Book.moment" : Str), defArgs (inClass (top 88) 2), defBody (inClass (top 88) 2), defScope (inClass (top 88) 2), [], []⟩
def d45 : He.DefD := ⟨(("Book" : Str), some ("__eq__" : Str)), ("__eq__" : Str), ("Book.__eq__" : Str), defArgs (inClass (top 88) 3), defBody (inClass (top 88) 3), defScope (inClass (top 88) 3), [], []⟩
def d46 : He.DefD := ⟨(("Book" : Str), some ("__len__" : Str)), ("__len__" : Str), ("Book.__len__" : Str), defArgs (inClass (top 88) 4), defBody (inClass (top 88) 4), defScope (inClass (top 88) 4), [], []⟩
def d47 : He.DefD := ⟨(("Book" : Str), some ("__contains__" : Str)), ("__contains__" : Str), ("Book.__contains__" : Str), defArgs (inClass (top 88) 5), defBody (inClass (top 88) 5), defScope (inClass (top 88) 5), [], []⟩
def d48 : He.DefD := ⟨(("Book" : Str), some ("__getitem__" : Str)), ("__getitem__" : Str), ("Book.__getitem__" : Str), defArgs (inClass (top 88) 6), defBody (inClass (top 88) 6), defScope (inClass (top 88) 6), [], []⟩
def d49 : He.DefD := ⟨(("Book" : Str), some ("__iter__" : Str)), ("__iter__" : Str), ("Book.__iter__" : Str), defArgs (inClass (top 88) 7), defBody (inClass (top 88) 7), defScope (inClass (top 88) 7), [], []⟩
def d50 : He.DefD := ⟨(("_law_pot" : Str), none), ("_law_pot" : Str), ("_law_pot" : Str), defArgs (top 90), defBody (top 90), defScope (top 90), [], []⟩
def d51 : He.DefD := ⟨(("_law_take" : Str), none), ("_law_take" : Str), ("_law_take" : Str), defArgs (top 91), defBody (top 91), defScope (top 91), [], []⟩
def d52 : He.DefD := ⟨(("_law_of" : Str), none), ("_law_of" : Str), ("_law_of" : Str), defArgs (top 92), defBody (top 92), defScope (top 92), [], []⟩
def d53 : He.DefD := ⟨(("_law_odd" : Str), none), ("_law_odd" : Str), ("_law_odd" : Str), defArgs (top 93), defBody (top 93), defScope (top 93), [], []⟩
def d54 : He.DefD := ⟨(("_law_thing" : Str), none), ("_law_thing" : Str), ("_law_thing" : Str), defArgs (top 94), defBody (top 94), defScope (top 94), [], []⟩
def d55 : He.DefD := ⟨(("_law_errors" : Str), none), ("_law_errors" : Str), ("_law_errors" : Str), defArgs (top 95), defBody (top 95), defScope (top 95), [], []⟩
def d56 : He.DefD := ⟨(("_law_marks" : Str), none), ("_law_marks" : Str), ("_law_marks" : Str), defArgs (top 96), defBody (top 96), defScope (top 96), [], []⟩
def d57 : He.DefD := ⟨(("_law_right" : Str), none), ("_law_right" : Str), ("_law_right" : Str), defArgs (top 97), defBody (top 97), defScope (top 97), [], []⟩
def d58 : He.DefD := ⟨(("law" : Str), none), ("law" : Str), ("law" : Str), defArgs (top 98), defBody (top 98), defScope (top 98), [], []⟩
def ds : List He.DefD := [d0, d1, d2, d3, d4, d5, d6, d7, d8, d9, d10, d11, d12, d13, d14, d15, d16, d17, d18, d19, d20, d21, d22, d23, d24, d25, d26, d27, d28, d29, d30, d31, d32, d33, d34, d35, d36, d37, d38, d39, d40, d41, d42, d43, d44, d45, d46, d47, d48, d49, d50, d51, d52, d53, d54, d55, d56, d57, d58]
def te : Te := ⟨[("UnmissedError" : Str), ("BadBook" : Str), ("BadName" : Str), ("BadDay" : Str), ("NoClient" : Str), ("LastClient" : Str), ("Unlike" : Str), ("Clash" : Str), ("TooMany" : Str), ("BadDoor" : Str), ("BadStand" : Str), ("BadState" : Str), ("BadTurn" : Str), ("BadLife" : Str), ("BadHistory" : Str), ("BadReport" : Str), ("CannotBe" : Str), ("BadPlan" : Str), ("BadOffers" : Str), ("BadTruth" : Str), ("UnlikeClients" : Str), ("BadEyes" : Str), ("NoDay" : Str), ("NothingToUndo" : Str), ("NothingToRedo" : Str), ("NoTrial" : Str), ("BadText" : Str), ("BadLines" : Str), ("BadLine" : Str), ("Page" : Str), ("Scope" : Str), ("DayReader" : Str), ("Client" : Str), ("Book" : Str)], NM, clss, [((("_wall" : Str), none) : Str × Option Str), ((("UnmissedError" : Str), some ("__init__" : Str)) : Str × Option Str), ((("names_of" : Str), none) : Str × Option Str), ((("is_made_of" : Str), none) : Str × Option Str), ((("is_name" : Str), none) : Str × Option Str), ((("read_figure" : Str), none) : Str × Option Str), ((("read_sized" : Str), none) : Str × Option Str), ((("rounds_of" : Str), none) : Str × Option Str), ((("read_calendars" : Str), none) : Str × Option Str), ((("read_doors" : Str), none) : Str × Option Str), ((("read_client_name" : Str), none) : Str × Option Str), ((("read_bound" : Str), none) : Str × Option Str), ((("read_span" : Str), none) : Str × Option Str), ((("read_sleeps" : Str), none) : Str × Option Str), ((("read_cells" : Str), none) : Str × Option Str), ((("read_within" : Str), none) : Str × Option Str), ((("read_user" : Str), none) : Str × Option Str), ((("read_users" : Str), none) : Str × Option Str), ((("blanks_ahead" : Str), none) : Str × Option Str), ((("Page" : Str), some ("__init__" : Str)) : Str × Option Str), ((("Page" : Str), some ("is_done" : Str)) : Str × Option Str), ((("Page" : Str), some ("words" : Str)) : Str × Option Str), ((("Page" : Str), some ("take" : Str)) : Str × Option Str), ((("split_parts" : Str), none) : Str × Option Str), ((("read_expression" : Str), none) : Str × Option Str), ((("read_call" : Str), none) : Str × Option Str), ((("Scope" : Str), some ("__init__" : Str)) : Str × Option Str), ((("read_set" : Str), none) : Str × Option Str), ((("read_worth" : Str), none) : Str × Option Str), ((("read_ask" : Str), none) : Str × Option Str), ((("read_repeat" : Str), none) : Str × Option Str), ((("read_facts" : Str), none) : Str × Option Str), ((("DayReader" : Str), some ("__init__" : Str)) : Str × Option Str), ((("DayReader" : Str), some ("read_block" : Str)) : Str × Option Str), ((("DayReader" : Str), some ("read_statement" : Str)) : Str × Option Str), ((("DayReader" : Str), some ("read_blocks" : Str)) : Str × Option Str), ((("DayReader" : Str), some ("read_else" : Str)) : Str × Option Str), ((("read_day" : Str), none) : Str × Option Str), ((("asked_doors" : Str), none) : Str × Option Str), ((("Client" : Str), some ("__init__" : Str)) : Str × Option Str), ((("Client" : Str), some ("__eq__" : Str)) : Str × Option Str), ((("read_clients" : Str), none) : Str × Option Str), ((("Book" : Str), some ("__init__" : Str)) : Str × Option Str), ((("Book" : Str), some ("worth" : Str)) : Str × Option Str), ((("Book" : Str), some ("moment" : Str)) : Str × Option Str), ((("Book" : Str), some ("__eq__" : Str)) : Str × Option Str), ((("Book" : Str), some ("__len__" : Str)) : Str × Option Str), ((("Book" : Str), some ("__contains__" : Str)) : Str × Option Str), ((("Book" : Str), some ("__getitem__" : Str)) : Str × Option Str), ((("Book" : Str), some ("__iter__" : Str)) : Str × Option Str), ((("_law_pot" : Str), none) : Str × Option Str), ((("_law_take" : Str), none) : Str × Option Str), ((("_law_of" : Str), none) : Str × Option Str), ((("_law_odd" : Str), none) : Str × Option Str), ((("_law_thing" : Str), none) : Str × Option Str), ((("_law_errors" : Str), none) : Str × Option Str), ((("_law_marks" : Str), none) : Str × Option Str), ((("_law_right" : Str), none) : Str × Option Str), ((("law" : Str), none) : Str × Option Str)], fun f => Nat.blt f 59, isaT, tyI, tyC, [(some ("_wall" : Str) : Option Str), (none : Option Str), (some ("names_of" : Str) : Option Str), (some ("is_made_of" : Str) : Option Str), (some ("is_name" : Str) : Option Str), (some ("read_figure" : Str) : Option Str), (some ("read_sized" : Str) : Option Str), (some ("rounds_of" : Str) : Option Str), (some ("read_calendars" : Str) : Option Str), (some ("read_doors" : Str) : Option Str), (some ("read_client_name" : Str) : Option Str), (some ("read_bound" : Str) : Option Str), (some ("read_span" : Str) : Option Str), (some ("read_sleeps" : Str) : Option Str), (some ("read_cells" : Str) : Option Str), (some ("read_within" : Str) : Option Str), (some ("read_user" : Str) : Option Str), (some ("read_users" : Str) : Option Str), (some ("blanks_ahead" : Str) : Option Str), (none : Option Str), (none : Option Str), (none : Option Str), (none : Option Str), (some ("split_parts" : Str) : Option Str), (some ("read_expression" : Str) : Option Str), (some ("read_call" : Str) : Option Str), (none : Option Str), (some ("read_set" : Str) : Option Str), (some ("read_worth" : Str) : Option Str), (some ("read_ask" : Str) : Option Str), (some ("read_repeat" : Str) : Option Str), (some ("read_facts" : Str) : Option Str), (none : Option Str), (none : Option Str), (none : Option Str), (none : Option Str), (none : Option Str), (some ("read_day" : Str) : Option Str), (some ("asked_doors" : Str) : Option Str), (none : Option Str), (none : Option Str), (some ("read_clients" : Str) : Option Str), (none : Option Str), (none : Option Str), (none : Option Str), (none : Option Str), (none : Option Str), (none : Option Str), (none : Option Str), (none : Option Str), (some ("_law_pot" : Str) : Option Str), (some ("_law_take" : Str) : Option Str), (some ("_law_of" : Str) : Option Str), (some ("_law_odd" : Str) : Option Str), (some ("_law_thing" : Str) : Option Str), (some ("_law_errors" : Str) : Option Str), (some ("_law_marks" : Str) : Option Str), (some ("_law_right" : Str) : Option Str), (some ("law" : Str) : Option Str)], [(("LETTERS" : Str), .inr ("abcdefghijklmnopqrstuvwxyz" : Str)), (("FIGURES" : Str), .inr ("0123456789" : Str)), (("LONGEST_NAME" : Str), .inl 8), (("MOST_CALENDARS" : Str), .inl 2), (("MOST_DOORS" : Str), .inl 2), (("MOST_CLIENTS" : Str), .inl 3), (("MOST_CELLS" : Str), .inl 3), (("MOST_USERS" : Str), .inl 2), (("MOST_ROUNDS" : Str), .inl 30), (("MOST_CELL_STANDS" : Str), .inl 60), (("STEP" : Str), .inl 2), (("DEEPEST_expressions" : Str), .inl 4), (("GREATEST_FIGURE" : Str), .inl 30), (("MOST_STATEMENTS" : Str), .inl 14), (("DEEPEST_statements" : Str), .inl 4), (("STEPS_AHEAD" : Str), .inl 1)]⟩
def loose : List Str := [("_wall" : Str), ("__name__" : Str), ("UnmissedError" : Str), ("BadBook" : Str), ("BadName" : Str), ("BadDay" : Str), ("NoClient" : Str), ("LastClient" : Str), ("Unlike" : Str), ("Clash" : Str), ("TooMany" : Str), ("BadDoor" : Str), ("BadStand" : Str), ("BadState" : Str), ("BadTurn" : Str), ("BadLife" : Str), ("BadHistory" : Str), ("BadReport" : Str), ("CannotBe" : Str), ("BadPlan" : Str), ("BadOffers" : Str), ("BadTruth" : Str), ("UnlikeClients" : Str), ("BadEyes" : Str), ("NoDay" : Str), ("NothingToUndo" : Str), ("NothingToRedo" : Str), ("NoTrial" : Str), ("BadText" : Str), ("BadLines" : Str), ("BadLine" : Str), ("names_of" : Str), ("LETTERS" : Str), ("FIGURES" : Str), ("LONGEST_NAME" : Str), ("is_made_of" : Str), ("is_name" : Str), ("read_figure" : Str), ("MOST_CALENDARS" : Str), ("MOST_DOORS" : Str), ("MOST_CLIENTS" : Str), ("MOST_CELLS" : Str), ("MOST_USERS" : Str), ("MOST_ROUNDS" : Str), ("MOST_CELL_STANDS" : Str), ("read_sized" : Str), ("rounds_of" : Str), ("read_calendars" : Str), ("read_doors" : Str), ("read_client_name" : Str), ("read_bound" : Str), ("read_span" : Str), ("read_sleeps" : Str), ("read_cells" : Str), ("read_within" : Str), ("read_user" : Str), ("read_users" : Str), ("STEP" : Str), ("blanks_ahead" : Str), ("Page" : Str), ("DEEPEST_expressions" : Str), ("GREATEST_FIGURE" : Str), ("MANY_PARTS" : Str), ("split_parts" : Str), ("read_expression" : Str), ("read_call" : Str), ("MOST_STATEMENTS" : Str), ("DEEPEST_statements" : Str), ("STEPS_AHEAD" : Str), ("Scope" : Str), ("read_set" : Str), ("read_worth" : Str), ("read_ask" : Str), ("read_repeat" : Str), ("read_facts" : Str), ("DayReader" : Str), ("read_day" : Str), ("asked_doors" : Str), ("Client" : Str), ("read_clients" : Str), ("Book" : Str), ("_law_pot" : Str), ("_law_take" : Str), ("_law_of" : Str), ("_law_odd" : Str), ("_law_thing" : Str), ("_law_errors" : Str), ("_law_marks" : Str), ("_law_right" : Str)]
end Mi.k00
set_option maxHeartbeats 0
namespace Mi.k00
open PySem PySem.W PySem.Calls PyProof.Rows HandSHeadRun Mi
abbrev Rw : OpenRow := OpenLaw.row PySem.Challenge.rw_unmissed_k00_errors
abbrev qv : Program := view Rw.prog [0, 98]
def ads : List Addr := [3, 6, 4, 49, 66, 79, 91, 103, 115, 127, 139, 151, 163, 175, 187, 199, 211, 223, 235, 247, 259, 271, 283, 295, 307, 319, 331, 343, 355, 367, 379, 391, 403, 410, 415, 422, 429, 436, 443, 450, 457, 464, 471, 478, 485, 492, 499, 506, 513, 520, 558, 563, 570, 578, 583, 598, 609, 616, 623, 630, 637, 682, 693, 700, 722, 733, 797, 808, 815, 822, 829, 836, 843, 850, 855, 860, 0, 48, 65, 78, 90, 102, 114, 126, 138, 150, 162, 174, 186, 198, 210, 222, 234, 246, 258, 270, 282, 294, 306, 318, 330, 342, 354, 366, 378, 390, 402, 409, 414, 421, 428, 435, 442, 449, 456, 463, 470, 477, 484, 491, 498, 505, 512, 519, 557, 569, 577, 571, 582, 597, 608, 615, 622, 629, 636, 681, 692, 699, 721, 732, 796, 807, 814, 821, 828, 835, 842, 849, 854, 859, 43, 45, 46, 47, 63, 64, 67, 77, 89, 101, 113, 125, 137, 149, 161, 173, 185, 197, 209, 221, 233, 245, 257, 269, 281, 293, 305, 317, 329, 341, 353, 365, 377, 389, 401, 406, 408, 411, 413, 416, 418, 419, 420, 423, 425, 426, 427, 430, 432, 433, 434, 437, 439, 440, 441, 444, 446, 447, 448, 451, 453, 454, 455, 458, 460, 461, 462, 465, 467, 468, 469, 472, 474, 475, 476, 479, 481, 482, 483, 486, 488, 489, 490, 493, 495, 496, 497, 500, 502, 503, 504, 507, 509, 510, 511, 514, 516, 517, 518, 534, 541, 548, 555, 556, 559, 560, 564, 566, 567, 568, 572, 574, 575, 576, 579, 581, 595, 596, 599, 600, 603, 605, 606, 607, 610, 612, 613, 614, 617, 619, 620, 621, 624, 626, 627, 628, 631, 633, 634, 635, 651, 658, 665, 672, 679, 680, 683, 684, 687, 689, 690, 691, 694, 696, 697, 698, 712, 719, 720, 723, 724, 727, 729, 730, 731, 745, 752, 759, 766, 773, 780, 787, 794, 795, 798, 799, 802, 804, 805, 806, 809, 811, 812, 813, 816, 818, 819, 820, 823, 825, 826, 827, 830, 832, 833, 834, 837, 839, 840, 841, 844, 846, 847, 848, 851, 853, 856, 858, 62, 533, 540, 547, 554, 594, 650, 657, 664, 671, 678, 711, 718, 744, 751, 758, 765, 772, 779, 786, 793]
def exE (K : Frag) : Bool := (He.eqO (findIn K (.ref (He.ga K (te.nmC 0))) "__eq__") (some (some (.builtin "object.__eq__"))) && He.eqO (findIn K (.ref (He.ga K (te.nmC 22))) "__eq__") (some (some (.builtin "object.__eq__"))))
def ex1 (K : Frag) : Bool := te.ex1 K
def ex2 (K : Frag) : Bool := te.ex2 K && exE K
abbrev exK (K : Frag) : Bool := ex1 K && ex2 K
theorem exK_ok {K : Frag} (h : exK K = true) : te.ex1 K = true ∧ te.ex2 K = true ∧ exE K = true := by
  obtain ⟨h1, h2⟩ := He.ba h
  obtain ⟨h3, h4⟩ := He.ba h2
  exact ⟨h1, h3, h4⟩
abbrev hk : Hook := hookL ads ds exK
abbrev ob (s : SharedT) : He.AlD × Bool := obL ads ds exK (getT s)
theorem ob_eq (s : SharedT) : ob s = hk.obs s.abs := obL_eq (getT_eq s)
theorem runaf (w : World) : RunA Rw 10000 (w.withFollow "special-get-raises" false) := by
  unfold RunA runQ
  kernel_rfl
theorem runbf (w : World) : RunB Rw qv 10000 loose (w.withFollow "special-get-raises" false) := by
  unfold RunB runQ
  kernel_rfl
theorem runcf (w : World) : RunC Rw 10000 (w.withFollow "special-get-raises" false) ads ds := by
  unfold RunC runQ
  kernel_rfl
theorem rundf (w : World) : RunD Rw 10000 (w.withFollow "special-get-raises" false) ads ex1 := by
  unfold RunD runQ
  kernel_rfl
theorem runef (w : World) : RunD Rw 10000 (w.withFollow "special-get-raises" false) ads ex2 := by
  unfold RunD runQ
  kernel_rfl
theorem runf (w : World) : RunEqI Rw qv hk ob 10000 loose (w.withFollow "special-get-raises" false) :=
  run_parts (runaf w) (runbf w) (runcf w) (rundf w) (runef w)
theorem runat (w : World) : RunA Rw 10000 (w.withFollow "special-get-raises" true) := by
  unfold RunA runQ
  kernel_rfl
theorem runbt (w : World) : RunB Rw qv 10000 loose (w.withFollow "special-get-raises" true) := by
  unfold RunB runQ
  kernel_rfl
theorem runct (w : World) : RunC Rw 10000 (w.withFollow "special-get-raises" true) ads ds := by
  unfold RunC runQ
  kernel_rfl
theorem rundt (w : World) : RunD Rw 10000 (w.withFollow "special-get-raises" true) ads ex1 := by
  unfold RunD runQ
  kernel_rfl
theorem runet (w : World) : RunD Rw 10000 (w.withFollow "special-get-raises" true) ads ex2 := by
  unfold RunD runQ
  kernel_rfl
theorem runt (w : World) : RunEqI Rw qv hk ob 10000 loose (w.withFollow "special-get-raises" true) :=
  run_parts (runat w) (runbt w) (runct w) (rundt w) (runet w)
theorem run (w : World) : RunEqI Rw qv hk ob 10000 loose w := byRow2 "special-get-raises" runf runt w
end Mi.k00
set_option maxHeartbeats 8000000
namespace Mi
open PySem PySem.Spec L2

/-! ## errors held as values -/
/-- an error of the class C with its dict, at a -/
def exv (a : Addr) (cls : Value) (d : Option Addr) : HO := .ext fun h => ∃ (oe : Obj) (vs : Array Value), h.get? a = some oe ∧ Zc cls d oe ∧ oe.data = .fields vs
theorem exv_ok {P : Program} {w : World} {H : Hp} {h : Heap} {a : Addr} {cls : Value} {d : Option Addr} {oe : Obj} {vs : Array Value} (e : h.get? a = some oe) (z : Zc cls d oe) (q : oe.data = .fields vs) : ObjOk P w H h a (exv a cls d) :=
  ⟨⟨oe, vs, e, z, q⟩, ⟨oe, e⟩, fun _ _ ⟨o, v, q, r⟩ k => ⟨o, v, k o q, r⟩⟩
/-- what makes an error, as a value -/
theorem pe_mke {X : Cx} {e : Expr} {t : L2.St → Hp → XK → Prop} (h : PMk X e t) : PE X e (fun σ H Q => t σ H fun cls d H' => ∀ a, H' a = none → Q (.ref a) (upd H' a (exv a cls d))) := by
  refine ⟨fun pins s σ H Q I q => ?_⟩
  refine wpAny_mono (h pins s σ H _ I q) (fun u s1 hu => ?_) fun _ _ x => x
  obtain ⟨a, oe, vs, sI, H', cls, d, rfl, J, k, hne, ha, hz, hd, h1, na, os, ag, r, q⟩ := hu
  refine ⟨.ref a, upd H' a (exv a cls d), ?_, rfl, q a na⟩
  have J2 := J.laidN (h' := s1.heap) (t' := s1.toks) k hne na (exv_ok (P := X.prog) (w := X.w) ha hz hd)
  exact ⟨J2.ok, os.trans J2.os, ag, J2.base, J2.loc, J2.cell, J2.free, J2.freeC, J2.pin, J2.hok, J2.len⟩
/-- a field of an error that is held -/
def tXv (K : PySem.W.Frag) (f : Str) (te : TE) : TE := fun σ H Q => te σ H fun x H1 => ∃ (a C dd : Addr) (fs : List (Str × V)) (v : V), x = .ref a ∧ H1 a = some (exv a (.ref C) (some dd)) ∧ XfC K C ∧ PySem.W.findIn K (.ref C) f = some none ∧ H1 dd = some (.xd fs) ∧ fs.lookup f = some v ∧ Q v H1
theorem pe_xv {X : Cx} {e : Expr} {te : TE} {pos : Pos} {n : Str} (he : PE X e te) (hb : attributeBase e n X.env (eval e X.env) = eval e X.env := by rfl) : PE X (.Attribute e n pos) (tXv X.K n te) := by
  refine ⟨fun pins s σ H Q I h => ?_⟩
  refine attr_of hb (thn (he.run pins s σ H _ I h) fun u s1 hh => ?_)
  obtain ⟨x, H1, I1, rx, a, C, dd, fs, v, ex, ea, T, hno, ed, l, q⟩ := hh
  subst ex
  obtain rfl : u = Value.ref a := rx
  obtain ⟨⟨oe, vs, ha, hz, hd⟩, _, _⟩ := I1.hok a _ ea
  have hx : ObjOk X.prog X.w H1 s1.heap dd (.xd fs) := I1.hok dd _ ed
  obtain ⟨mA, hns, hr⟩ := hx
  obtain ⟨od, ho, hl⟩ := lookIn_ns hns
  obtain ⟨u, hu, ru⟩ := RelO.some_of (v := v) (o := mA n) (by rw [← l]; exact hr n)
  have J : PySem.W.InstAt s1.heap a oe C (some od) := ⟨ha, hz.1, by unfold PySem.W.notCls; rw [hd] <;> rfl, by rw [hz.2]; exact ho⟩
  exact HandSPX.exc_get I1.kIn J T.ga T.gg T.exC (PySem.W.findObj_own T.hdC hno rfl (by rw [hl, hu])) (handed_of ru) ⟨v, H1, I1.tok _, ru, q⟩
/-- a field of an instance or of an error -/
def tFx (K : PySem.W.Frag) (f : Str) (te : TE) : TE := fun σ H Q => te σ H fun x H1 =>
  (∃ a C dx fs v, x = .ref a ∧ H1 a = some (.ins C dx fs) ∧ Cls K C ∧ NoAttr K C f ∧ fs.lookup f = some v ∧ Q v H1) ∨
  (∃ (a C dd : Addr) (fs : List (Str × V)) (v : V), x = .ref a ∧ H1 a = some (exv a (.ref C) (some dd)) ∧ XfC K C ∧ PySem.W.findIn K (.ref C) f = some none ∧ H1 dd = some (.xd fs) ∧ fs.lookup f = some v ∧ Q v H1)
theorem pe_fx {X : Cx} {e : Expr} {te : TE} {pos : Pos} {n : Str} (he : PE X e te) (hb : attributeBase e n X.env (eval e X.env) = eval e X.env) : PE X (.Attribute e n pos) (tFx X.K n te) := by
  refine ⟨fun pins s σ H Q I h => ?_⟩
  refine attr_of hb (thn (he.run pins s σ H _ I h) fun u s1 hh => ?_)
  obtain ⟨x, H1, I1, rx, hh⟩ := hh
  rcases hh with ⟨a, C, dx, fs, v, ex, ea, c, nn, l, q⟩ | ⟨a, C, dd, fs, v, ex, ea, T, hno, ed, l, q⟩
  · subst ex
    obtain rfl : u = Value.ref a := rx
    exact getattr_ok I1 ea c nn l fun u' s2 I2 ru => ⟨v, H1, I2, ru, q⟩
  · subst ex
    obtain rfl : u = Value.ref a := rx
    obtain ⟨⟨oe, vs, ha, hz, hd⟩, _, _⟩ := I1.hok a _ ea
    have hx : ObjOk X.prog X.w H1 s1.heap dd (.xd fs) := I1.hok dd _ ed
    obtain ⟨mA, hns, hr⟩ := hx
    obtain ⟨od, ho, hl⟩ := lookIn_ns hns
    obtain ⟨u, hu, ru⟩ := RelO.some_of (v := v) (o := mA n) (by rw [← l]; exact hr n)
    have J : PySem.W.InstAt s1.heap a oe C (some od) := ⟨ha, hz.1, by unfold PySem.W.notCls; rw [hd] <;> rfl, by rw [hz.2]; exact ho⟩
    exact HandSPX.exc_get I1.kIn J T.ga T.gg T.exC (PySem.W.findObj_own T.hdC hno rfl (by rw [hl, hu])) (handed_of ru) ⟨v, H1, I1.tok _, ru, q⟩
end Mi
namespace Mi
open PySem PySem.Spec PySem.Calls PySem.W PyProof.Rows
section
variable {prog : Program} {w : World} {A : Around} {E : Value → Shared → Prop} {s : Shared} {K : Frag} {x D : Addr} {ox od : Obj}
/-- __class__ of an error that has a dict -/
theorem cls_of_err {Q : Option Value → Shared → Prop} (hga : findIn K (.ref D) "__getattribute__" = some (some (.builtin "BaseException.__getattribute__"))) (hgt : findIn K (.ref D) "__getattr__" = some none) (hsub : subIn K (.ref D) (.type "BaseException") = some true)
    (hf : findObj K D (some od) "__class__" = some (.bind (.builtin "getset_descriptor.__get__") (.builtin "object.__class__"))) (hm : mroIn K D (.type "object") = some true)
    (X : K.In s.heap) (I : InstAt s.heap x ox D (some od)) (h : Q (some (.ref D)) { s with toks := s.toks + 1 }) : wpAny (model prog w) A (getAttr? (.ref x) "__class__") Q E s := by
  obtain ⟨hp, g, d, t, os⟩ := s
  have T0 := I.type (M := model prog w)
  have sub : Looks (model prog w) hp (isInstance (.ref x) (.type "BaseException")) true := T0.andThen (looks_subIn X hsub)
  have n1 : (false && onTheHeap (Value.builtin "BaseException.__getattribute__")) = false := rfl
  have n3 : (Value.builtin "BaseException.__getattribute__" == Value.builtin "object.__getattribute__") = false := by decide +kernel
  have n2 : (onTheHeap (Value.ref D) && Value.builtin "BaseException.__getattribute__" == Value.builtin "object.__getattribute__") = false := by rw [n3]; rfl
  unfold getAttr? getAttrBy? getAttrBy
  refine wpAny_bind (wpAny_mkText (wpAny_bind (wpAny_attempt (wpAny_holding (wpAny_bind (T0.at (wpAny_bind ((looks_findIn (M := model prog w) X hga).at ?_))))))))
  refine (show wpAny (model prog w) _ (if (onTheHeap (Value.ref D) && Value.builtin "BaseException.__getattribute__" == Value.builtin "object.__getattribute__") = true then _ else _) _ _ _ from ?_)
  rw [n2, if_neg Bool.false_ne_true]
  unfold getAttrByItsOwn hookBefore
  refine wpAny_bind ?_
  rw [if_pos (show onTheHeap (Value.ref D) = true from rfl)]
  refine (looks_findIn (M := model prog w) X hgt).at (wpAny_bind (wpAny_attempt (wpAny_holding ?_)))
  unfold callGetattribute
  rw [n1, if_neg Bool.false_ne_true]
  unfold boundAndCalled
  rw [PySem.F.excAttr_ValueError.ga.bind (.ref x)]
  refine wpAny_bind (wpAny_pure (show wpAny _ _ (call (.builtin "BaseException.__getattribute__") [.ref x, .str "__class__" t]) _ _ _ from ?_))
  refine wpAny_call (codeAny_call_builtin PySem.F.excAttr_ValueError.ga.plain PySem.F.entry_bexc_ga ?_)
  refine @check_slot (model prog w) _ _ ⟨hp, g, d, t + 1, os⟩ "BaseException.__getattribute__" "BaseException" "__getattribute__" (.ref x) [.str "__class__" t] [] _ (by decide +kernel) (by decide +kernel) sub (PySem.F.args_bexc_ga (.ref x) (.str "__class__" t)) ?_
  unfold Builtin.«object.__getattribute__»
  refine wpAny_bind (wpAny_of_eq (a := ((Value.ref x : Value), [Value.str "__class__" t])) (by first | rfl | (simp only [slotArgs]; rfl)) ?_)
  refine wpAny_bind (wpAny_pure (wpAny_bind (T0.at (wpAny_bind ((looks_find (M := model prog w) X I hf).at ?_)))))
  refine (show wpAny _ _ (holding [Value.builtin "object.__class__"] (call (.builtin "getset_descriptor.__get__") [.builtin "object.__class__", .ref x, .ref D]) >>= ret) _ _ _ from ?_)
  refine wpAny_bind (wpAny_holding (wpAny_call (class_get (s := ⟨hp, g, d, t + 1, os⟩) (ox := ox) (od := some od) X I hm ?_)))
  refine wpAny_pure ?_
  refine (show wpAny _ _ (handedOut (.ref D)) _ _ _ from ?_)
  rw [handedOut_of (v := .ref D) rfl]
  first
    | exact wpAny_pure (wpAny_pure h)
    | exact wpAny_pure h
    | exact wpAny_pure (wpAny_bind (wpAny_pure (wpAny_pure h)))
theorem kit_err (hga : findIn K (.ref D) "__getattribute__" = some (some (.builtin "BaseException.__getattribute__"))) (hgt : findIn K (.ref D) "__getattr__" = some none) (hsub : subIn K (.ref D) (.type "BaseException") = some true) (hdct : hasDictIn K D = true) (ha : findIn K (.ref D) "__class__" = some (some (.builtin "object.__class__")))
    (hn : specialIn K (.builtin "object.__class__") "__get__" = some (some (.builtin "getset_descriptor.__get__"))) (htk : takesIn K (.builtin "object.__class__") = some true) (hm : mroIn K D (.type "object") = some true) :
    KitX K (.ref x) (.ref D) (fun h => InstAt h x ox D (some od)) := by
  obtain ⟨cdD, hcD, _⟩ := any_some hdct
  have hf : findObj K D (some od) "__class__" = some (.bind (.builtin "getset_descriptor.__get__") (.builtin "object.__class__")) := findObj_data (by rw [hcD]; rfl) ha hn htk
  have hK : ∃ o, K.lookup D = some o ∧ ∃ cd, o.data = .cls cd := by
    unfold clsIn at hcD
    split at hcD
    · rename_i ho
      exact ⟨_, ho, _, rfl⟩
    · cases hcD
  obtain ⟨o, ho, cd, hcd⟩ := hK
  refine ⟨fun _ _ _ I => I.type, fun M h X _ => ?_, fun h tp dd its n sl X htp => ?_, fun X I k => cls_of_err hga hgt hsub hf hm X I k⟩
  · intro A' Q' E' s' k q
    obtain ⟨c1, c2, c3, c4⟩ := o
    dsimp only at hcd
    subst hcd
    unfold isType loadHead
    exact wpAny_bind (wpAny_loadPart (k _ _ (X _ _ ho)) (wpAny_pure q))
  · refine Bool.eq_false_iff.mpr fun q => ?_
    obtain rfl : D = tp := Value.ref.inj (beq_iff_eq.mp q)
    have z := (X _ _ ho).symm.trans htp
    cases z
    cases hcd
end
end Mi
namespace Mi
open PySem PySem.Spec L2
/-- isinstance of an error that is held -/
def rIsV (K : PySem.W.Frag) : List V → Hp → VK → Prop := fun xs H Q => ∃ (a D dd : Addr) (fs : List (Str × V)) (c : V) (cv : Value) (b : Bool), xs = [.ref a, c] ∧ H a = some (exv a (.ref D) (some dd)) ∧ H dd = some (.xd fs) ∧ ExcC K D ∧ ClsV c cv ∧ PySem.W.kitOne K (.ref D) cv = some b ∧ Q (.bl b) H
theorem call_isV {X : Cx} : CallR X (.builtin "isinstance") (rIsV X.K) := by
  intro pins s σ H xs us Q I r h
  obtain ⟨a, D, dd, fs, c, cv, b, rfl, ea, ed, C, hc, e, q⟩ := h
  cases r with
  | cons rx rr =>
    cases rr with
    | cons rt rr =>
      cases rr
      cases rx
      obtain ⟨⟨oe, vs, hget, hz, hv⟩, _, _⟩ := I.hok a _ ea
      have hx : ObjOk X.prog X.w H s.heap dd (.xd fs) := I.hok dd _ ed
      obtain ⟨mA, hns, hr⟩ := hx
      obtain ⟨od, ho, hl⟩ := lookIn_ns hns
      have J : PySem.W.InstAt s.heap a oe D (some od) := ⟨hget, hz.1, by unfold PySem.W.notCls; rw [hv] <;> rfl, by rw [hz.2]; exact ho⟩
      have ec := hc.eq rt
      subst ec
      exact PySem.W.kia_one (kit_err C.hg C.hk C.hs C.hd C.ha C.hn C.ht C.hm) I.kIn J e (fun z => nomatch z) fun tk => ⟨.bl b, H, I.tok tk, rfl, q⟩
end Mi
namespace Mi
open PySem PySem.Spec L2
set_option maxHeartbeats 4000000 in
theorem meets_enum1 {v : Value} {o : Obj} {G : Heap → Prop} (B : PySem.Begins v o G) :
    Meets (Builtin.«enumerate.__new__» ⟨[.type "enumerate", v], []⟩) (fun _ R s => G s.heap ∧
      R (.ok (.ret (.ref (s.heap.push o).objs.size))) { s with heap := (s.heap.push o).push { cls := .type "enumerate", data := .fields #[.none, .bool false, .ref s.heap.objs.size, rawInt 0, .none, .none] } }) :=
  .of_wp fun prog w A R s h => by
    obtain ⟨hp, g, d, tk, os⟩ := s
    obtain ⟨h1, h⟩ := h
    have hsub := sub_enumerate
    have q1 : ∀ {A' : Around} {E : Value → Shared → Prop} {Q : Value → Shared → Prop}, Q (.ref hp.objs.size) ⟨hp.push o, g, d, tk, os⟩ → wpAny (model prog w) A' (pyIter v) Q E ⟨hp, g, d, tk, os⟩ :=
      fun q => B.iter prog w _ _ ⟨hp, g, d, tk, os⟩ _ h1 q
    wp_walk using q1
    refine wpAny_stack_any fun st => wpAny_pure ?_
    split
    · rename_i c _ _ _ _ _
      cases (c == Value.type "enumerate") <;>
      · wp_walk using q1
        exact ⟨_, rfl, h⟩
    · wp_walk using q1
      exact ⟨_, rfl, h⟩
/-- enumerate of a tuple: its items as they stand, each in a new pair -/
def IteT (K : PySem.W.Frag) (a : Addr) (n : Nat) : It :=
  ⟨fun i H => ∃ (xs : List V) (x : V), SqT K H a xs ∧ xs.length = n ∧ xs[i]? = some x, fun i H v H' => ∃ T x, v = .ref T ∧ H T = none ∧ H' = upd H T (.tup [.int (i : Nat), x]) ∧ ∀ xs, SqT K H a xs → xs[i]? = some x, fun i H => ∃ xs : List V, SqT K H a xs ∧ xs.length = n ∧ n ≤ i⟩
theorem turn_enumT {P : Program} {w : World} {K : PySem.W.Frag} {elts : List Expr} {kk : Nat} {tpos : Pos} (a e it : Addr) (n : Nat) :
    Turn P w K (.Tuple elts kk tpos) (IteT K a n) [e, it] e (fun i h => (∃ old, IsEnum h e it ((i : Nat) : Int) old) ∧ h.IsTupleIter it a i ∧ e ≠ it ∧ i ≤ n) where
  mem := by simp
  obj := fun i h st b hb => by
    obtain ⟨⟨old, he⟩, ⟨o, ho, hc, hd⟩, _⟩ := st
    have e' : b = e ∨ b = it := by simpa using hb
    rcases e' with z | z
    · rw [z]; exact ⟨_, he, fun v q => nomatch q⟩
    · rw [z]; exact ⟨o, ho, fun v q => by rw [hd] at q; cases q⟩
  keep := fun i h h' st k => let ⟨⟨old, he⟩, hi, hne, hle⟩ := st; ⟨⟨old, k e (by simp) _ he⟩, hi.at fun o q => k it (by simp) o q, hne, hle⟩
  item := by
    intro X hP hw hK hc i pins s σ H E I hf st hg
    subst hP hw hK
    obtain ⟨⟨old, he⟩, hit, hne, hle⟩ := st
    obtain ⟨xs, x, hq, hn, hx⟩ := hg
    obtain ⟨its, rv, p, hz⟩ := I.tuple hq
    obtain ⟨u, hu, ru⟩ := rv.get hx
    have hel : e < s.heap.objs.size := Heap.lt_size he
    have hil : it < s.heap.objs.size := by obtain ⟨_, q, _⟩ := hit; exact Heap.lt_size q
    have pT : s.heap.IsTuple a its.toArray := by
      obtain ⟨o, h1, h2, h3⟩ := p
      exact ⟨o, h1, h2, h3⟩
    have nat : a ≠ it := fun z => by
      obtain ⟨o, h1, h2, _⟩ := p
      obtain ⟨o', h1', h2', _⟩ := hit
      rw [z, h1'] at h1
      cases h1
      rw [h2'] at h2
      injection h2 with q
      exact absurd q (by decide)
    have nae : a ≠ e := fun z => by
      obtain ⟨o, h1, h2, _⟩ := p
      rw [z] at h1
      have := he.symm.trans h1
      cases this
      injection h2 with q
      exact absurd q (by decide)
    have il : i < its.toArray.size := by
      have := (List.getElem?_eq_some_iff.mp hu).1
      simpa using this
    refine wpAny_pyNext_enum_itemD (Draws.tuple (A := X.A.in1) (I.ok.hd hc) it a nat its.toArray) he ⟨hit, pT⟩ il hne (fun z => by
        rcases List.mem_cons.mp z with z | z
        · exact hne z
        · exact nae (List.mem_singleton.mp z).symm) fun y h' tk hy ho hst' hT hsz hk => ?_
    have ey : y = u := by
      have hy' : its.toArray[i]? = some y := hy
      rw [List.getElem?_toArray, hu] at hy'
      exact (Option.some.inj hy').symm
    subst ey
    refine ⟨_, rfl, wpAny_letOwnedTupleGo_enum (s := { s with heap := h', toks := tk + 1 }) ho fun h'' he' sb => ?_⟩
    have hT2 : h''.get? s.heap.objs.size = some { cls := .type "tuple", data := .seq #[.int i tk, y] } := (sb.2 _ (Nat.ne_of_gt hel)).trans hT
    have new : ObjOk X.prog X.w (upd H s.heap.objs.size (.tup [.int (i : Nat), x])) h'' s.heap.objs.size (.tup [.int (i : Nat), x]) :=
      ⟨by show 2 ≤ sizeLine; decide, [.int i tk, y], .cons ⟨_, rfl⟩ (.cons ru .nil), ⟨_, hT2, rfl, _, rfl⟩⟩
    have I1 : Inv X pins σ (upd H s.heap.objs.size (.tup [.int (i : Nat), x])) { s with heap := h'', toks := tk + 1 } :=
      I.turnedNew (ch := [e, it]) (fun b ob hb q => (sb.2 b (fun z => hb (by simp [z]))).trans (hk b ob (fun z => hb (by simp [z])) (fun z => hb (by simp [z])) q)) hf (Nat.le_refl _) new
    refine ⟨.ref s.heap.objs.size, _, I1, rfl, ⟨_, x, rfl, I.hok.fresh (Nat.le_refl _), rfl, fun ys hy => ?_⟩, ⟨⟨y, ?_⟩, hst'.1.at fun o q => (sb.2 it (Ne.symm hne)).trans q, hne, by
      have := (List.getElem?_eq_some_iff.mp hx).1
      omega⟩, fun b hb => ?_⟩
    · rw [I.tuple_inj hy hq]; exact hx
    · have e1 : ((i + 1 : Nat) : Int) = (i : Int) + 1 := by omega
      rw [e1]; exact he'
    · have hb' : b < s.heap.objs.size := by
        have e' : b = e ∨ b = it := by simpa using hb
        rcases e' with z | z
        · rw [z]; exact hel
        · rw [z]; exact hil
      rw [upd_ne (Nat.ne_of_lt hb')]
      exact (hf b hb).1
  done := by
    intro X hP hw hK hc i pins s σ H E I hf st hg
    subst hP hw hK
    obtain ⟨⟨old, he⟩, hit, hne, hle⟩ := st
    obtain ⟨xs, hq, hn, hx⟩ := hg
    obtain ⟨its, rv, p, hz⟩ := I.tuple hq
    obtain ⟨f0, f1, f2, f3, f4, f5⟩ := hf it (by simp)
    have hl := rv.length
    have pT : s.heap.IsTuple a its.toArray := by
      obtain ⟨o, h1, h2, h3⟩ := p
      exact ⟨o, h1, h2, h3⟩
    have nat : a ≠ it := fun z => by
      obtain ⟨o, h1, h2, _⟩ := p
      obtain ⟨o', h1', h2', _⟩ := hit
      rw [z, h1'] at h1
      cases h1
      rw [h2'] at h2
      injection h2 with q
      exact absurd q (by decide)
    have ei : i = its.toArray.size := by simp; omega
    refine wpAny_pyNext_enum_endD (Draws.tuple (A := X.A.in1) (I.ok.hd hc) it a nat its.toArray) he ⟨by rw [← ei]; exact hit, pT⟩ fun h' eb => ⟨rfl, I.turned (t' := s.toks) (fun b o hb q => eb b o hb q) f0 f1 f3 f4 f5⟩
  self := fun A i s Q E st h => let ⟨⟨_, he⟩, _⟩ := st; wpAny_pyIter_enum he h
section
variable {prog : Program} {w : World} {A : Around} {E : Value → Shared → Prop} {s : Shared}
/-- enumerate(v): its two new objects -/
theorem call_enum1 {v : Value} {o : Obj} {G : Heap → Prop} {Q : Value → Shared → Prop} (B : PySem.Begins v o G) (h1 : G s.heap)
    (h : ∀ h', IsEnum h' (s.heap.objs.size + 1) s.heap.objs.size 0 .none → h'.get? s.heap.objs.size = some o → h'.objs.size = s.heap.objs.size + 2 →
      (∀ b o, s.heap.get? b = some o → h'.get? b = some o) → Q (.ref (s.heap.objs.size + 1)) { s with heap := h' }) :
    wpAny (model prog w) A (call (.type "enumerate") [v]) Q E s := by
  refine callType_new F.called_enumerate (by decide) (F.typeCall_enumerate_1 _) (F.newCall_enumerate_1 _) (fun obj => F.args_object_init_2 obj _) F.entry_enumerate_new (meets_enum1 B) ⟨h1, ?_⟩
  have hz : (s.heap.push o).objs.size = s.heap.objs.size + 1 := Heap.size_push ..
  show _ ∧ _
  rw [hz]
  have he := Heap.get?_push_size (s.heap.push o) (o := { cls := .type "enumerate", data := .fields #[.none, .bool false, .ref s.heap.objs.size, rawInt 0, .none, .none] }) rfl
  rw [hz] at he
  exact ⟨⟨_, he, rfl⟩, h _ he (Heap.get?_push_of_some _ (Heap.get?_push_size _ B.free)) (by rw [Heap.size_push, hz]) fun b o x => Heap.get?_push_of_some _ (Heap.get?_push_of_some _ x)⟩
end
def iEnumA (K : PySem.W.Frag) (ta : TA) : TI := fun σ H R => ta σ H fun vs H1 => (∃ a xs, vs = [.ref a] ∧ SqL K H1 a xs ∧ R (Ite K a) H1) ∨ ∃ a xs, vs = [.ref a] ∧ SqT K H1 a xs ∧ R (IteT K a xs.length) H1
theorem pi_enumA {X : Cx} {e : Expr} {ta : TA} {p pos tpos : Pos} {elts : List Expr} {kk : Nat} (hg : Gl X "enumerate") (hm : X.mg "enumerate" = none) (ha : PA X [e] ta) (hs : starEach [e] X.env = [(false, eval e X.env)] := by rfl) :
    PI X (.Tuple elts kk tpos) (.Call (.Name "enumerate" p) [e] [] pos) (iEnumA X.K ta) := by
  refine ⟨fun pins s σ H R I h => ?_⟩
  refine PyProof.Rows.Call_ (ld_blt I hg hm PyProof.Rows.boot_enumerate (PyProof.Rows.callWith_type1 (thn (ha.run pos pins s σ H _ I h) fun us s1 ⟨vs, H1, I1, r1, q1⟩ => ?_) hs rfl))
  have fin : ∀ {h' : Heap} {J : It} {tn : Nat → Heap → Prop}, (∀ b o, s1.heap.get? b = some o → h'.get? b = some o) → Turn X.prog X.w X.K (.Tuple elts kk tpos) J [s1.heap.objs.size + 1, s1.heap.objs.size] (s1.heap.objs.size + 1) tn → tn 0 h' → R J H1 →
      PIE X pins σ (.Tuple elts kk tpos) R (.ref (s1.heap.objs.size + 1)) { s1 with heap := h' } := fun {h' J tn} hk T st q => by
    have I2 : Inv X pins σ H1 { s1 with heap := h' } := I1.kept (t' := s1.toks) hk
    refine ⟨s1.heap.objs.size + 1, [s1.heap.objs.size + 1, s1.heap.objs.size], _, _, H1, rfl, I2, T, st, fun b hb => ?_, q⟩
    have e' : b = s1.heap.objs.size + 1 ∨ b = s1.heap.objs.size := by simpa using hb
    have hle : s1.heap.objs.size ≤ b := by
      rcases e' with z | z
      · rw [z]; exact Nat.le_add_right _ _
      · rw [z]; exact Nat.le_refl _
    exact I1.fpOk hle (I1.hok.fresh hle)
  rcases q1 with ⟨a, xs, ex, hq, q⟩ | ⟨a, xs, ex, hq, q⟩
  · subst ex
    cases r1 with
    | cons r rr =>
      cases rr
      cases r
      obtain ⟨its, rv, p', hz⟩ := I1.list hq
      exact call_enumerate_list p'.isList fun h' he hit hsz hk => wpAny_pyIter_enum he (fin hk (turn_enum a _ _) ⟨⟨.none, he⟩, hit, Nat.succ_ne_self _⟩ q)
  · subst ex
    cases r1 with
    | cons r rr =>
      cases rr
      cases r
      obtain ⟨its, rv, p', hz⟩ := I1.tuple hq
      have pT : s1.heap.IsTuple a its.toArray := by
        obtain ⟨o, h1, h2, h3⟩ := p'
        exact ⟨o, h1, h2, h3⟩
      exact call_enum1 (PySem.begins_tuple a its.toArray) pT fun h' he hit hsz hk => wpAny_pyIter_enum he (fin hk (turn_enumT a _ _ xs.length) ⟨⟨.none, he⟩, ⟨_, hit, rfl, rfl⟩, Nat.succ_ne_self _, Nat.zero_le _⟩ q)
end Mi
set_option maxHeartbeats 4000000
namespace Mi
open PySem PySem.Spec L2 PySem.StrLaws
open PySem.Builtin PySem.Builtin.Str

/-! ## texts as lists: the same, but quick in the kernel -/
def mkS (l : List Nat) : Str := ⟨⟨l⟩⟩
theorem str_ext {a b : Str} (h : a.cps.toList = b.cps.toList) : a = b := by
  obtain ⟨⟨x⟩⟩ := a
  obtain ⟨⟨y⟩⟩ := b
  exact congrArg mkS h
def lenF (s : Str) : Nat := s.cps.toList.length
theorem lenF_eq (s : Str) : lenF s = s.length := rfl
def appF (a b : Str) : Str := mkS (a.cps.toList ++ b.cps.toList)
theorem appF_eq (a b : Str) : appF a b = a ++ b := str_ext (by show a.cps.toList ++ b.cps.toList = (a.cps ++ b.cps).toList; rw [Array.toList_append])
def eqLF : List Nat → List Nat → Bool
  | [], [] => true
  | a :: x, b :: y => match Nat.beq a b with
    | true => eqLF x y
    | false => false
  | [], _ :: _ => false
  | _ :: _, [] => false
theorem eqLF_eq : ∀ (x y : List Nat), eqLF x y = decide (x = y)
  | [], [] => rfl
  | [], _ :: _ => rfl
  | _ :: _, [] => rfl
  | a :: x, b :: y => by
    unfold eqLF
    cases h : Nat.beq a b with
    | true =>
      have := Nat.eq_of_beq_eq_true h
      subst this
      show eqLF x y = _
      rw [eqLF_eq x y]
      by_cases z : x = y
      · rw [z]; simp
      · rw [decide_eq_false z, decide_eq_false (fun q => z (List.cons.inj q).2)]
    | false =>
      show false = _
      rw [decide_eq_false]
      intro q
      rw [(List.cons.inj q).1] at h
      simp at h
def eqSF (a b : Str) : Bool := eqLF a.cps.toList b.cps.toList
theorem eqSF_dec (a b : Str) : eqSF a b = decide (a = b) := by
  unfold eqSF
  rw [eqLF_eq]
  by_cases z : a = b
  · rw [z]; simp
  · rw [decide_eq_false z, decide_eq_false fun q => z (str_ext q)]
theorem eqSF_eq (a b : Str) : eqSF a b = (a == b) := eqSF_dec a b
mutual
def eqvF : PyData → PyData → Bool
  | .str x, .str y => eqSF x y
  | .list xs, .list ys => eqvFs xs ys
  | .tuple xs, .tuple ys => eqvFs xs ys
  | d, e => PyData.eqv d e
def eqvFs : List PyData → List PyData → Bool
  | [], [] => true
  | x :: xs, y :: ys => match eqvF x y with
    | true => eqvFs xs ys
    | false => false
  | [], _ :: _ => false
  | _ :: _, [] => false
end
mutual
theorem eqvF_eq : ∀ (d e : PyData), eqvF d e = PyData.eqv d e := fun d e => by
  unfold eqvF
  split
  · rename_i x y
    rw [eqSF_eq]; unfold PyData.eqv; rfl
  · rename_i xs ys
    rw [eqvFs_eq xs ys]; unfold PyData.eqv; rfl
  · rename_i xs ys
    rw [eqvFs_eq xs ys]; unfold PyData.eqv; rfl
  · rfl
termination_by d e => sizeOf d
theorem eqvFs_eq : ∀ (xs ys : List PyData), eqvFs xs ys = PyData.eqvAll xs ys
  | [], [] => by unfold eqvFs PyData.eqvAll; rfl
  | [], _ :: _ => by unfold eqvFs PyData.eqvAll; rfl
  | _ :: _, [] => by unfold eqvFs PyData.eqvAll; rfl
  | x :: xs, y :: ys => by
    unfold eqvFs PyData.eqvAll
    rw [eqvF_eq x y]
    cases PyData.eqv x y with
    | true => rw [eqvFs_eq xs ys]; rfl
    | false => rfl
termination_by xs ys => sizeOf xs
end

/-! ### where a text stands in another -/
def occF (sub : List Nat) (w : Nat) : Nat → Nat → Nat → List Nat → List Nat
  | lim, free, i, [] => match Nat.blt 0 lim && (Nat.ble free i && sub.isPrefixOf []) with
    | true => [i]
    | false => []
  | lim, free, i, c :: r => match Nat.blt 0 lim && (Nat.ble free i && sub.isPrefixOf (c :: r)) with
    | true => i :: occF sub w (lim - 1) (i + w) (i + 1) r
    | false => occF sub w lim free (i + 1) r
theorem pre_take {sub l : List Nat} : sub.isPrefixOf l = true ↔ l.take sub.length = sub := by
  rw [List.isPrefixOf_iff_prefix]
  exact ⟨fun h => (List.prefix_iff_eq_take.mp h).symm, fun h => List.prefix_iff_eq_take.mpr h.symm⟩
theorem occ_cond {x y : Str} {i : Nat} {l : List Nat} (hl : l = x.cps.toList.drop i) : (i + y.length ≤ x.length ∧ subAt x y i = true) ↔ y.cps.toList.isPrefixOf l = true ∧ i + y.length ≤ x.length := by
  rw [pre_take, subAt_eq, ← hl, beq_iff_eq]
  exact ⟨fun h => ⟨h.2, h.1⟩, fun h => ⟨h.2, h.1⟩⟩
theorem pre_len {x y : Str} {i : Nat} {l : List Nat} (hl : l = x.cps.toList.drop i) (hi : i ≤ x.length) (h : y.cps.toList.isPrefixOf l = true) : i + y.length ≤ x.length := by
  have := (List.isPrefixOf_iff_prefix.mp h).length_le
  rw [hl, List.length_drop] at this
  have e1 : y.cps.toList.length = y.length := rfl
  have e2 : x.cps.toList.length = x.length := rfl
  omega
theorem occF_run (x y : Str) (lim : Nat) : ∀ (l : List Nat) (i : Nat) (st : Array Nat × Nat), l = x.cps.toList.drop i → i + l.length = x.length → st.1.size ≤ lim →
    (forIn (List.range' i (l.length + 1)) st (occBody x y x.length lim)).run.fst.toList = st.1.toList ++ occF y.cps.toList y.length (lim - st.1.size) st.2 i l := by
  intro l
  induction l with
  | nil =>
    intro i st hl hi hs
    rw [show List.range' i ([] : List Nat).length.succ = [i] from rfl, List.forIn_cons]
    unfold occBody occF
    by_cases c : ((st.fst.size < lim ∧ st.snd ≤ i) ∧ i + y.length ≤ x.length) ∧ subAt x y i = true
    · rw [if_pos c]
      have p := (occ_cond hl).mp ⟨c.1.2, c.2⟩
      have e : (Nat.blt 0 (lim - st.1.size) && (Nat.ble st.2 i && y.cps.toList.isPrefixOf [])) = true := by
        rw [p.1, Nat.ble_eq_true_of_le c.1.1.2]
        have : Nat.blt 0 (lim - st.1.size) = true := Nat.ble_eq_true_of_le (show 1 ≤ lim - st.1.size by have := c.1.1.1; omega)
        rw [this]; rfl
      rw [e]
      simp
    · rw [if_neg c]
      have e : (Nat.blt 0 (lim - st.1.size) && (Nat.ble st.2 i && y.cps.toList.isPrefixOf [])) = false := by
        cases h : (Nat.blt 0 (lim - st.1.size) && (Nat.ble st.2 i && y.cps.toList.isPrefixOf [])) with
        | false => rfl
        | true =>
          exfalso
          obtain ⟨h1, h2⟩ := Bool.and_eq_true_iff.mp h
          obtain ⟨h2, h3⟩ := Bool.and_eq_true_iff.mp h2
          have h1 : 1 ≤ lim - st.1.size := Nat.le_of_ble_eq_true h1
          have h2 := Nat.le_of_ble_eq_true h2
          have h4 := pre_len hl (by rw [← hi]; exact Nat.le_add_right _ _) h3
          have h5 := (occ_cond hl).mpr ⟨h3, h4⟩
          exact c ⟨⟨⟨by omega, h2⟩, h4⟩, h5.2⟩
      rw [e]
      simp
  | cons a r ih =>
    intro i st hl hi hs
    rw [show List.range' i ((a :: r).length + 1) = i :: List.range' (i + 1) (r.length + 1) from rfl, List.forIn_cons]
    have hl2 : r = x.cps.toList.drop (i + 1) := by
      rw [← List.drop_drop, ← hl]; rfl
    have hi2 : i + 1 + r.length = x.length := by rw [← hi]; simp only [List.length_cons]; omega
    unfold occF
    by_cases c : ((st.fst.size < lim ∧ st.snd ≤ i) ∧ i + y.length ≤ x.length) ∧ subAt x y i = true
    · have eb : occBody x y x.length lim i st = pure (ForInStep.yield (st.fst.push i, i + y.length)) := by unfold occBody; rw [if_pos c]
      rw [eb]
      have p := (occ_cond hl).mp ⟨c.1.2, c.2⟩
      have e : (Nat.blt 0 (lim - st.1.size) && (Nat.ble st.2 i && y.cps.toList.isPrefixOf (a :: r))) = true := by
        rw [p.1, Nat.ble_eq_true_of_le c.1.1.2]
        have : Nat.blt 0 (lim - st.1.size) = true := Nat.ble_eq_true_of_le (show 1 ≤ lim - st.1.size by have := c.1.1.1; omega)
        rw [this]; rfl
      rw [e]
      have z := ih (i + 1) (st.fst.push i, i + y.length) hl2 hi2 (by rw [Array.size_push]; exact c.1.1.1)
      rw [Array.size_push] at z
      refine z.trans ?_
      rw [Array.toList_push, List.append_assoc, Nat.sub_sub]
      rfl
    · have eb : occBody x y x.length lim i st = pure (ForInStep.yield (st.fst, st.snd)) := by unfold occBody; rw [if_neg c]
      rw [eb]
      have e : (Nat.blt 0 (lim - st.1.size) && (Nat.ble st.2 i && y.cps.toList.isPrefixOf (a :: r))) = false := by
        cases h : (Nat.blt 0 (lim - st.1.size) && (Nat.ble st.2 i && y.cps.toList.isPrefixOf (a :: r))) with
        | false => rfl
        | true =>
          exfalso
          obtain ⟨h1, h2⟩ := Bool.and_eq_true_iff.mp h
          obtain ⟨h2, h3⟩ := Bool.and_eq_true_iff.mp h2
          have h1 : 1 ≤ lim - st.1.size := Nat.le_of_ble_eq_true h1
          have h2 := Nat.le_of_ble_eq_true h2
          have h4 := pre_len hl (by rw [← hi]; exact Nat.le_add_right _ _) h3
          have h5 := (occ_cond hl).mpr ⟨h3, h4⟩
          exact c ⟨⟨⟨by omega, h2⟩, h4⟩, h5.2⟩
      rw [e]
      exact ih (i + 1) st hl2 hi2 hs
def occS (x y : Str) (lim : Nat) : List Nat := occF y.cps.toList (lenF y) lim 0 0 x.cps.toList
theorem occS_eq (x y : Str) (lim : Nat) : occS x y lim = occurrences x y 0 x.length lim := by
  rw [occ_eq]
  have z := occF_run x y lim x.cps.toList 0 (#[], 0) rfl (by rw [Nat.zero_add]; rfl) (Nat.zero_le _)
  have e : x.length + 1 - 0 = x.cps.toList.length + 1 := rfl
  rw [e, z]
  rfl

/-! ### cut, counted, put together -/
theorem tl_len (x : Str) : x.cps.toList.length = x.length := rfl
def cutF (w : Nat) : Nat → List Nat → List Nat → List Str
  | _, [], l => [mkS l]
  | a, c :: r, l => mkS (l.take (c - a)) :: cutF w (c + w) r (l.drop (c - a + w))
theorem cutF_eq (x y : Str) : ∀ (cuts : List Nat) (a f : Nat) (l : List Nat), l = x.cps.toList.drop a → ChainTo x y x.length a cuts f → cutF y.length a cuts l = partsFrom x y.length a cuts
  | [], a, f, l, hl, h => by
    unfold cutF partsFrom
    refine congrArg (fun z => [z]) (str_ext ?_)
    rw [strSub_toList, ← hl, List.take_of_length_le]
    · rfl
    · rw [hl, List.length_drop, tl_len]; exact Nat.le_refl _
  | c :: r, a, f, l, hl, h => by
    obtain ⟨h1, h2, h3⟩ := h
    unfold cutF partsFrom
    refine congr (congrArg List.cons (str_ext ?_)) ?_
    · rw [strSub_toList, ← hl]; rfl
    · refine cutF_eq x y r (c + y.length) f _ ?_ h3
      rw [hl, List.drop_drop]
      congr 1
      omega
theorem sub_all {x y : Str} {i : Nat} (h : subAt x y i = true) (p : Nat → Bool) (hx : x.cps.all p = true) : y.cps.all p = true := by
  rw [subAt_eq, beq_iff_eq] at h
  rw [← Array.all_toList] at hx ⊢
  rw [← h]
  refine List.all_eq_true.mpr fun c hc => List.all_eq_true.mp hx c (List.mem_of_mem_drop (List.mem_of_mem_take hc))
theorem kind_le {x y : Str} {i : Nat} (h : subAt x y i = true) : ¬ Builtin.Str.strKind x < Builtin.Str.strKind y := by
  intro z
  unfold Builtin.Str.strKind at z
  by_cases h1 : x.cps.all (· < 256) = true
  · rw [if_pos h1, if_pos (sub_all h _ h1)] at z
    exact Nat.lt_irrefl _ z
  · rw [if_neg h1] at z
    by_cases h2 : x.cps.all (· < 65536) = true
    · rw [if_pos h2] at z
      have h3 := sub_all h _ h2
      by_cases h4 : y.cps.all (· < 256) = true
      · rw [if_pos h4] at z; omega
      · rw [if_neg h4, if_pos h3] at z; omega
    · rw [if_neg h2] at z
      split at z
      · omega
      · split at z <;> omega
def splitF (x y : Str) : List Str := cutF (lenF y) 0 (occS x y (lenF x + 1)) x.cps.toList
theorem splitF_eq (x y : Str) : splitF x y = Txt.split x y := by
  obtain ⟨f, hc⟩ := occ_chain x y (x.length + 1)
  have e : splitF x y = partsFrom x y.length 0 (occurrences x y 0 x.length (x.length + 1)) := by
    unfold splitF
    rw [occS_eq]
    exact cutF_eq x y _ 0 f _ rfl hc
  have e0 : partsFrom x y.length 0 [] = [x] := by
    unfold partsFrom
    rw [sub_whole]
  rw [e]
  unfold Txt.split
  cases ho : occurrences x y 0 x.length (x.length + 1) with
  | nil =>
    rw [e0]
    split <;> rfl
  | cons c r =>
    rw [ho] at hc
    have ha : At x y x.length c := hc.2.1
    have n1 : decide (x.length < y.length) = false := decide_eq_false (by have := ha.1; omega)
    have n2 : decide (Builtin.Str.strKind x < Builtin.Str.strKind y) = false := decide_eq_false (kind_le ha.2)
    rw [n1, n2]
    simp only [Bool.or_self, Bool.false_eq_true, if_false, List.isEmpty_cons]
    rw [partsBetween_eq]
def partF (x y : Str) : Str × Str × Str := match occS x y 1 with
  | i :: _ => (mkS (x.cps.toList.take i), y, mkS (x.cps.toList.drop (i + lenF y)))
  | [] => (x, Str.empty, Str.empty)
theorem partF_eq (x y : Str) : partF x y = Txt.partition x y := by
  unfold partF Txt.partition
  rw [occS_eq]
  cases ho : occurrences x y 0 x.length 1 with
  | nil => rfl
  | cons i r =>
    refine Prod.ext (str_ext ?_) (Prod.ext rfl (str_ext ?_))
    · show _ = (strSub x 0 i).cps.toList
      rw [strSub_toList]; rfl
    · show _ = (strSub x (i + y.length) x.length).cps.toList
      rw [strSub_toList, List.take_of_length_le]
      · rfl
      · rw [List.length_drop, tl_len]; exact Nat.le_refl _
def countF (x y : Str) : Int := (((occS x y (lenF x + 1)).length : Nat) : Int)
theorem countF_eq (x y : Str) : countF x y = Txt.count x y := by
  unfold countF Txt.count
  rw [occS_eq]
  rfl
def hasF (z s : Str) : Bool := !(occS z s 1).isEmpty
theorem hasF_eq (z s : Str) : hasF z s = !(occurrences z s 0 z.length 1).isEmpty := by
  unfold hasF
  rw [occS_eq]
def startsF (x y : Str) : Bool := y.cps.toList.isPrefixOf x.cps.toList
theorem startsF_eq (x y : Str) : startsF x y = Txt.startswith x y := by
  unfold startsF Txt.startswith
  rw [subAt_eq]
  cases h : y.cps.toList.isPrefixOf x.cps.toList with
  | true =>
    have h1 := pre_take.mp h
    have h2 := pre_len (x := x) (y := y) (i := 0) (l := x.cps.toList) rfl (Nat.zero_le _) h
    rw [decide_eq_true h2, List.drop_zero]
    show true = (true && (x.cps.toList.take y.cps.toList.length == y.cps.toList))
    rw [h1]; simp
  | false =>
    cases h2 : (decide (0 + y.length ≤ x.length) && (List.take y.length (x.cps.toList.drop 0) == y.cps.toList)) with
    | false => rfl
    | true =>
      obtain ⟨h3, h4⟩ := Bool.and_eq_true_iff.mp h2
      rw [List.drop_zero, beq_iff_eq] at h4
      have := pre_take.mpr (show x.cps.toList.take y.cps.toList.length = y.cps.toList from h4)
      rw [this] at h
      cases h
def endsF (x y : Str) : Bool := match Nat.ble (lenF y) (lenF x) with
  | true => eqLF (x.cps.toList.drop (lenF x - lenF y)) y.cps.toList
  | false => false
theorem endsF_eq (x y : Str) : endsF x y = Txt.endswith x y := by
  unfold endsF Txt.endswith
  rw [subAt_eq]
  cases h : Nat.ble (lenF y) (lenF x) with
  | true =>
    have h1 : y.length ≤ x.length := Nat.le_of_ble_eq_true h
    rw [decide_eq_true (show 0 + y.length ≤ x.length by omega)]
    show eqLF _ _ = _
    rw [eqLF_eq, Bool.true_and]
    have e : List.take y.length (x.cps.toList.drop (x.length - y.length)) = x.cps.toList.drop (x.length - y.length) := List.take_of_length_le (by rw [List.length_drop, tl_len]; omega)
    rw [e]
    show decide (x.cps.toList.drop (x.length - y.length) = y.cps.toList) = _
    by_cases z : x.cps.toList.drop (x.length - y.length) = y.cps.toList
    · rw [z]; simp
    · rw [decide_eq_false z]
      symm
      rw [beq_eq_false_iff_ne]
      exact z
  | false =>
    have h1 : ¬ 0 + y.length ≤ x.length := fun q => by
      have := Nat.ble_eq_true_of_le (show y.length ≤ x.length by omega)
      have h' : Nat.ble y.length x.length = false := h
      rw [this] at h'
      cases h'
    rw [decide_eq_false h1]
    rfl
def dropF (y : List Nat) : List Nat → List Nat
  | [] => []
  | c :: r => match y.contains c with
    | true => dropF y r
    | false => c :: r
theorem dropF_eq (y : List Nat) : ∀ (l : List Nat), dropF y l = l.drop (l.takeWhile y.contains).length
  | [] => rfl
  | c :: r => by
    unfold dropF
    rw [List.takeWhile_cons]
    cases h : y.contains c with
    | true => simp only [if_true, List.length_cons, List.drop_succ_cons]; exact dropF_eq y r
    | false => simp
def lstripF (x y : Str) : Str := mkS (dropF y.cps.toList x.cps.toList)
theorem lstripF_eq (x y : Str) : lstripF x y = Txt.lstripChars x y := by
  unfold Txt.lstripChars
  rw [PyProof.Rows.stripBy_eq]
  refine str_ext ?_
  rw [strSub_toList]
  show dropF y.cps.toList x.cps.toList = _
  rw [dropF_eq]
  have e : (fun c => y.cps.toList.contains c) = (fun c => y.cps.contains c) := funext fun c => by rw [Array.contains_toList]
  have e2 : stripLo (fun c => y.cps.contains c) true x = (x.cps.toList.takeWhile y.cps.toList.contains).length := by
    unfold stripLo
    rw [← e]
    rfl
  have e3 : stripHi (fun c => y.cps.contains c) false x (stripLo (fun c => y.cps.contains c) true x) = x.length := rfl
  rw [show stripHi y.cps.contains false x (stripLo y.cps.contains true x) = x.length from e3, show stripLo y.cps.contains true x = (x.cps.toList.takeWhile y.cps.toList.contains).length from e2]
  rw [List.take_of_length_le]
  rw [List.length_drop, tl_len]
  exact Nat.le_refl _
def joinL (sep : List Nat) : List Str → List Nat
  | [] => []
  | [x] => x.cps.toList
  | x :: y :: r => x.cps.toList ++ (sep ++ joinL sep (y :: r))
def joinF (sep : Str) (ss : List Str) : Str := mkS (joinL sep.cps.toList ss)
theorem joinF_eq (sep : Str) : ∀ (ss : List Str), joinF sep ss = Txt.join sep ss := fun ss => by
  unfold Txt.join
  rw [glued_eq_join]
  refine str_ext ?_
  show joinL sep.cps.toList ss = _
  induction ss with
  | nil => rfl
  | cons x r ih => cases r with
    | nil => rfl
    | cons y r =>
      unfold joinL
      rw [ih]
      show _ = (x ++ sep ++ Str.join sep (y :: r)).cps.toList
      rw [Str.cps_append, Str.cps_append, Array.toList_append, Array.toList_append, List.append_assoc]
/-! ### keys -/
def keyF : Key → Key → Bool
  | .inl i, .inl j => decide (i = j)
  | .inr a, .inr b => eqSF a b
  | .inl _, .inr _ => false
  | .inr _, .inl _ => false
theorem keyF_eq (a b : Key) : keyF a b = decide (a = b) := by
  cases a with
  | inl i => cases b with
    | inl j => show decide (i = j) = _; by_cases z : i = j <;> simp [z]
    | inr t => symm; exact decide_eq_false fun z => nomatch z
  | inr s => cases b with
    | inl j => symm; exact decide_eq_false fun z => nomatch z
    | inr t => show eqSF s t = _; rw [eqSF_dec]; by_cases z : s = t <;> simp [z]
end Mi
set_option maxHeartbeats 4000000
namespace Mi
open PySem PySem.Spec L2

/-! ## values and the store of the small machine -/
inductive MV where
  | non | bl (b : Bool) | int (i : Int) | str (s : Str) | tup (xs : List MV) | ref (n : Nat) | scr (xs : List Int) | sym (i : Nat)
inductive MO where
  | lst (xs : List MV) | dct (kvs : List (Key × MV)) | ins (c : Nat) (fs : List (Nat × MV)) | exc (c : Nat) (v : MV)
/-- the classes' places, the names of fields and methods -/
structure Gn where
  C : Nat → Addr
  NM : List Str
abbrev MH := List MO
abbrev Rho := List (Option MV)
/-- a result: a value, an exception of a class with its value, or what is not told -/
inductive R (α : Type) where
  | ok (a : α) (h : MH) | ex (c : Nat) (v : MV) (h : MH) | wall
def R.bind {α β : Type} : R α → (α → MH → R β) → R β
  | .ok a h, f => f a h
  | .ex c v h, _ => .ex c v h
  | .wall, _ => .wall
def R.map {α β : Type} (f : α → β) : R α → R β
  | .ok a h => .ok (f a) h
  | .ex c v h => .ex c v h
  | .wall => .wall
theorem R.map_bind {α β : Type} (f : α → β) (r : R α) : r.map f = r.bind fun a h => .ok (f a) h := by cases r <;> rfl
theorem R.bind_assoc {α β γ : Type} (r : R α) (f : α → MH → R β) (g : β → MH → R γ) : (r.bind f).bind g = r.bind fun a h => (f a h).bind g := by cases r <;> rfl

/-! ## how the small machine's values stand in the hand layer's heap -/
/-- a list that is locked or written: never changed -/
def KLst (K : PySem.W.Frag) (H : Hp) (a : Addr) (xs : List V) : Prop :=
  (∃ o, H a = some (.frz o (.lst xs))) ∨
    ∃ (o : Obj) (its : Array Value) (n : Nat), K.lookup a = some o ∧ o.cls = .type "list" ∧ o.dict = none ∧ o.data = .seq its n ∧ its.size ≤ sizeLine ∧ Vals xs its.toList
theorem KLst.sql {K : PySem.W.Frag} {H : Hp} {a : Addr} {xs : List V} (h : KLst K H a xs) : SqL K H a xs := by
  rcases h with ⟨o, h⟩ | h
  · exact .inl (.inr ⟨o, h⟩)
  · exact .inr h
/-- what stands for the signs, what stands in the heap aside and stays -/
class Th where
  θ : Nat → V
  wd : Addr → Option HO
variable [Th]
mutual
inductive RV (K : PySem.W.Frag) (μ : List Addr) (H : Hp) : MV → V → Prop
  | non : RV K μ H .non .non
  | bl (b : Bool) : RV K μ H (.bl b) (.bl b)
  | int (i : Int) : RV K μ H (.int i) (.int i)
  | str (s : Str) : RV K μ H (.str s) (.str s)
  | tup {a : Addr} {xs : List MV} {vs : List V} : SqT K H a vs → RVs K μ H xs vs → RV K μ H (.tup xs) (.ref a)
  | ref {n : Nat} {a : Addr} : μ[n]? = some a → RV K μ H (.ref n) (.ref a)
  | scr {a : Addr} {xs : List Int} : KLst K H a (xs.map V.int) → RV K μ H (.scr xs) (.ref a)
  | sym (i : Nat) : RV K μ H (.sym i) (Th.θ i)
inductive RVs (K : PySem.W.Frag) (μ : List Addr) (H : Hp) : List MV → List V → Prop
  | nil : RVs K μ H [] []
  | cons {x : MV} {v : V} {xs : List MV} {vs : List V} : RV K μ H x v → RVs K μ H xs vs → RVs K μ H (x :: xs) (v :: vs)
end
def Ext (μ μ' : List Addr) : Prop := ∀ (n : Nat) (a : Addr), μ[n]? = some a → μ'[n]? = some a
structure Keeps (K : PySem.W.Frag) (H H' : Hp) : Prop where
  tup : ∀ a xs, SqT K H a xs → SqT K H' a xs
  loc : ∀ a xs, KLst K H a xs → KLst K H' a xs
theorem Ext.refl (μ : List Addr) : Ext μ μ := fun _ _ h => h
theorem Ext.trans {μ μ' μ'' : List Addr} (a : Ext μ μ') (b : Ext μ' μ'') : Ext μ μ'' := fun n x h => b n x (a n x h)
theorem Keeps.refl (K : PySem.W.Frag) (H : Hp) : Keeps K H H := ⟨fun _ _ h => h, fun _ _ h => h⟩
theorem Keeps.trans {K : PySem.W.Frag} {H H' H'' : Hp} (a : Keeps K H H') (b : Keeps K H' H'') : Keeps K H H'' := ⟨fun x y h => b.tup x y (a.tup x y h), fun x y h => b.loc x y (a.loc x y h)⟩
section
variable {K : PySem.W.Frag} {μ μ' : List Addr} {H H' : Hp}
mutual
theorem RV.mono (e : Ext μ μ') (k : Keeps K H H') : ∀ {x : MV} {v : V}, RV K μ H x v → RV K μ' H' x v
  | _, _, .non => .non
  | _, _, .bl b => .bl b
  | _, _, .int i => .int i
  | _, _, .str s => .str s
  | _, _, .tup h r => .tup (k.tup _ _ h) (RVs.mono e k r)
  | _, _, .ref h => .ref (e _ _ h)
  | _, _, .scr h => .scr (k.loc _ _ h)
  | _, _, .sym i => .sym i
theorem RVs.mono (e : Ext μ μ') (k : Keeps K H H') : ∀ {xs : List MV} {vs : List V}, RVs K μ H xs vs → RVs K μ' H' xs vs
  | _, _, .nil => .nil
  | _, _, .cons h r => .cons (RV.mono e k h) (RVs.mono e k r)
end
theorem RVs.length : ∀ {xs : List MV} {vs : List V}, RVs K μ H xs vs → xs.length = vs.length
  | _, _, .nil => rfl
  | _, _, .cons _ r => by simp [RVs.length r]
theorem RVs.get : ∀ {xs : List MV} {vs : List V} {i : Nat} {x : MV}, RVs K μ H xs vs → xs[i]? = some x → ∃ v, vs[i]? = some v ∧ RV K μ H x v
  | _, _, _, _, .nil, e => by simp at e
  | _, _, 0, _, .cons r _, e => by simp at e; subst e; exact ⟨_, rfl, r⟩
  | _, _, i + 1, x, .cons _ t, e => by
    obtain ⟨u, h1, h2⟩ := RVs.get (i := i) (x := x) t (by simpa using e)
    exact ⟨u, by simpa using h1, h2⟩
theorem RVs.append : ∀ {xs : List MV} {vs : List V} {ys : List MV} {us : List V}, RVs K μ H xs vs → RVs K μ H ys us → RVs K μ H (xs ++ ys) (vs ++ us)
  | _, _, _, _, .nil, s => s
  | _, _, _, _, .cons r t, s => .cons r (RVs.append t s)
theorem RVs.take : ∀ {xs : List MV} {vs : List V} (n : Nat), RVs K μ H xs vs → RVs K μ H (xs.take n) (vs.take n)
  | _, _, 0, _ => .nil
  | _, _, _ + 1, .nil => .nil
  | _, _, n + 1, .cons r t => .cons r (RVs.take n t)
theorem RVs.drop : ∀ {xs : List MV} {vs : List V} (n : Nat), RVs K μ H xs vs → RVs K μ H (xs.drop n) (vs.drop n)
  | _, _, 0, r => r
  | _, _, _ + 1, .nil => .nil
  | _, _, n + 1, .cons _ t => RVs.drop n t
theorem RVs.set {x : MV} {v : V} (r : RV K μ H x v) : ∀ {xs : List MV} {vs : List V} (i : Nat), RVs K μ H xs vs → RVs K μ H (xs.set i x) (vs.set i v)
  | _, _, _, .nil => .nil
  | _, _, 0, .cons _ t => .cons r t
  | _, _, i + 1, .cons q t => .cons q (RVs.set r i t)
theorem RVs.strs : ∀ {ys : List Str} {vs : List V}, RVs K μ H (ys.map MV.str) vs → vs = ys.map V.str
  | [], _, .nil => rfl
  | _ :: _, _, .cons (.str _) t => by rw [RVs.strs t]; rfl
theorem RVs.of_strs : ∀ (ys : List Str), RVs K μ H (ys.map MV.str) (ys.map V.str)
  | [] => .nil
  | y :: ys => .cons (.str y) (RVs.of_strs ys)
theorem RVs.of_ints : ∀ (ys : List Int), RVs K μ H (ys.map MV.int) (ys.map V.int)
  | [] => .nil
  | y :: ys => .cons (.int y) (RVs.of_ints ys)
end

section
variable (K : PySem.W.Frag) (GC : Gn)
def RO (μ : List Addr) (H : Hp) (a : Addr) : MO → Prop
  | .lst xs => ∃ vs, H a = some (.lst vs) ∧ RVs K μ H xs vs
  | .dct kvs => ∃ kws, H a = some (.dK kws) ∧ kws.map (·.1) = kvs.map (·.1) ∧ RVs K μ H (kvs.map (·.2)) (kws.map (·.2))
  | .ins c fs => ∃ dx gs, H a = some (.ins (GC.C c) dx gs) ∧ (gs.map fun p => some p.1) = (fs.map fun p => GC.NM[p.1]?) ∧ RVs K μ H (fs.map (·.2)) (gs.map (·.2))
  | .exc c v => ∃ dx vv, H a = some (exv a (.ref (GC.C c)) (some dx)) ∧ H dx = some (.xd [("value", vv)]) ∧ RV K μ H v vv
structure RH (μ : List Addr) (h : MH) (H : Hp) : Prop where
  len : μ.length = h.length
  inj : ∀ (i j : Nat) (a : Addr), μ[i]? = some a → μ[j]? = some a → i = j
  obj : ∀ (n : Nat) (o : MO), h[n]? = some o → ∃ a, μ[n]? = some a ∧ RO K GC μ H a o
  wld : ∀ (a : Addr) (u : HO), Th.wd a = some u → H a = some u
  out : ∀ (n : Nat) (a : Addr), μ[n]? = some a → Th.wd a = none
end
section
variable {K : PySem.W.Frag} {GC : Gn} {μ μ' : List Addr} {H H' : Hp} {h : MH}
/-- what is tracked at an object's place -/
theorem RO.has {a : Addr} {o : MO} (r : RO K GC μ H a o) : ∃ u, H a = some u := by
  cases o with
  | lst xs => obtain ⟨_, e, _⟩ := r; exact ⟨_, e⟩
  | dct kvs => obtain ⟨_, e, _⟩ := r; exact ⟨_, e⟩
  | ins c fs => obtain ⟨_, _, e, _⟩ := r; exact ⟨_, e⟩
  | exc c v => obtain ⟨_, _, e, _⟩ := r; exact ⟨_, e⟩
theorem RH.at (r : RH K GC μ h H) {n : Nat} {a : Addr} (e : μ[n]? = some a) : ∃ o, h[n]? = some o ∧ RO K GC μ H a o := by
  have hn : n < h.length := by rw [← r.len]; exact (List.getElem?_eq_some_iff.mp e).1
  obtain ⟨a', e', q⟩ := r.obj n _ (List.getElem?_eq_getElem hn)
  rw [e] at e'; cases e'
  exact ⟨_, List.getElem?_eq_getElem hn, q⟩
theorem RH.there (r : RH K GC μ h H) {n : Nat} {a : Addr} (e : μ[n]? = some a) : ∃ u, H a = some u := by
  obtain ⟨o, _, q⟩ := r.at e
  exact q.has
theorem RH.fresh (r : RH K GC μ h H) {p : Addr} (hp : H p = none) : Th.wd p = none := by
  cases e : Th.wd p with
  | none => rfl
  | some u => rw [r.wld p u e] at hp; cases hp
theorem rd_upd {p : Addr} {o u : HO} {a : Addr} (hp : H p = none) (h : Rd H a u) : Rd (upd H p o) a u := by
  rcases h with h | ⟨b, h⟩
  · exact .inl (by rw [upd_ne (ne_of_none h hp)]; exact h)
  · exact .inr ⟨b, by rw [upd_ne (ne_of_none h hp)]; exact h⟩
theorem Keeps.new {p : Addr} {o : HO} (hp : H p = none) : Keeps K H (upd H p o) where
  tup := fun a xs h => h.elim (fun z => .inl (rd_upd hp z)) .inr
  loc := fun a xs h => h.elim (fun ⟨b, z⟩ => .inl ⟨b, by rw [upd_ne (ne_of_none z hp)]; exact z⟩) .inr
/-- what may be written over keeps the tuples -/
theorem Keeps.put {p : Addr} {o u : HO} (hp : H p = some u) (nt : ∀ xs, u ≠ .tup xs) (nf : ∀ ob w, u ≠ .frz ob w) : Keeps K H (upd H p o) where
  tup := fun a xs h => by
    rcases h with (h | ⟨b, h⟩) | h
    · exact .inl (.inl (by rw [upd_ne (fun z => nt xs (by rw [z, hp] at h; exact Option.some.inj h))]; exact h))
    · exact .inl (.inr ⟨b, by rw [upd_ne (fun z => nf _ _ (by rw [z, hp] at h; exact Option.some.inj h))]; exact h⟩)
    · exact .inr h
  loc := fun a xs h => by
    rcases h with ⟨b, h⟩ | h
    · exact .inl ⟨b, by rw [upd_ne (fun z => nf _ _ (by rw [z, hp] at h; exact Option.some.inj h))]; exact h⟩
    · exact .inr h
theorem RO.mono {a : Addr} {o : MO} (e : Ext μ μ') (k : Keeps K H H') (ka : ∀ u, H a = some u → H' a = some u) (kd : ∀ (d : Addr) fs, H d = some (.xd fs) → H' d = some (.xd fs)) (r : RO K GC μ H a o) : RO K GC μ' H' a o := by
  cases o with
  | lst xs => obtain ⟨vs, q, t⟩ := r; exact ⟨vs, ka _ q, t.mono e k⟩
  | dct kvs => obtain ⟨vs, q, z, t⟩ := r; exact ⟨vs, ka _ q, z, t.mono e k⟩
  | ins c fs => obtain ⟨d, vs, q, z, t⟩ := r; exact ⟨d, vs, ka _ q, z, t.mono e k⟩
  | exc c v => obtain ⟨d, vv, q, z, t⟩ := r; exact ⟨d, vv, ka _ q, kd _ _ z, t.mono e k⟩
theorem ext_push (μ : List Addr) (p : Addr) : Ext μ (μ ++ [p]) := fun n a h => by
  rw [List.getElem?_append_left (List.getElem?_eq_some_iff.mp h).1]; exact h
/-- a new object -/
theorem RH.alloc {p : Addr} {u : HO} {o : MO} (r : RH K GC μ h H) (hp : H p = none) (new : RO K GC (μ ++ [p]) (upd H p u) p o) : RH K GC (μ ++ [p]) (h ++ [o]) (upd H p u) where
  len := by rw [List.length_append, List.length_append, r.len]; rfl
  inj := fun i j a hi hj => by
    have old : ∀ k : Nat, (μ ++ [p])[k]? = some a → (k < μ.length ∧ μ[k]? = some a ∧ a ≠ p) ∨ (k = μ.length ∧ a = p) := fun k hk => by
      rcases Nat.lt_trichotomy k μ.length with z | z | z
      · rw [List.getElem?_append_left z] at hk
        obtain ⟨w, hw⟩ := r.there hk
        exact .inl ⟨z, hk, ne_of_none hw hp⟩
      · subst z
        simp at hk
        exact .inr ⟨rfl, hk.symm⟩
      · rw [List.getElem?_eq_none (by rw [List.length_append]; exact z)] at hk
        cases hk
    rcases old i hi with ⟨_, e1, n1⟩ | ⟨e1, n1⟩ <;> rcases old j hj with ⟨_, e2, n2⟩ | ⟨e2, n2⟩
    · exact r.inj i j a e1 e2
    · exact absurd n2 n1
    · exact absurd n1 n2
    · rw [e1, e2]
  obj := fun n ob hn => by
    rcases Nat.lt_trichotomy n h.length with z | z | z
    · rw [List.getElem?_append_left z] at hn
      obtain ⟨a, ea, q⟩ := r.obj n ob hn
      refine ⟨a, ext_push μ p n a ea, q.mono (ext_push μ p) (Keeps.new hp) (fun w e => ?_) fun d fs e => ?_⟩
      · rw [upd_ne (ne_of_none e hp)]; exact e
      · rw [upd_ne (ne_of_none e hp)]; exact e
    · subst z
      simp at hn
      subst hn
      exact ⟨p, by rw [← r.len]; simp, new⟩
    · rw [List.getElem?_eq_none (by rw [List.length_append]; exact z)] at hn
      cases hn
  wld := fun b w e => by
    have := r.wld b w e
    rw [upd_ne (ne_of_none this hp)]
    exact this
  out := fun n b hn => by
    rcases Nat.lt_trichotomy n μ.length with z | z | z
    · rw [List.getElem?_append_left z] at hn
      exact r.out n b hn
    · subst z
      simp at hn
      subst hn
      exact r.fresh hp
    · rw [List.getElem?_eq_none (by rw [List.length_append]; exact z)] at hn
      cases hn
/-- only the heap grows (a tuple is laid) -/
theorem RH.grow {p : Addr} {u : HO} (r : RH K GC μ h H) (hp : H p = none) : RH K GC μ h (upd H p u) :=
  ⟨r.len, r.inj, fun n o hn => by
    obtain ⟨a, ea, q⟩ := r.obj n o hn
    exact ⟨a, ea, q.mono (Ext.refl _) (Keeps.new hp) (fun w e => by rw [upd_ne (ne_of_none e hp)]; exact e) fun d fs e => by rw [upd_ne (ne_of_none e hp)]; exact e⟩,
    fun b w e => by rw [upd_ne (ne_of_none (r.wld b w e) hp)]; exact r.wld b w e, r.out⟩
/-- an object is written -/
theorem RH.put {n : Nat} {a : Addr} {u w : HO} {o : MO} (r : RH K GC μ h H) (ha : μ[n]? = some a) (hu : H a = some u) (nt : ∀ xs, u ≠ .tup xs) (nf : ∀ ob w, u ≠ .frz ob w) (ne : ∀ (d : Addr) fs, u ≠ .xd fs)
    (new : RO K GC μ (upd H a w) a o) : RH K GC μ (h.set n o) (upd H a w) where
  len := by rw [List.length_set]; exact r.len
  inj := r.inj
  obj := fun m ob hm => by
    by_cases z : m = n
    · subst z
      have hl : m < h.length := by rw [← r.len]; exact (List.getElem?_eq_some_iff.mp ha).1
      rw [List.getElem?_set_self hl] at hm
      cases hm
      exact ⟨a, ha, new⟩
    · rw [List.getElem?_set_ne (Ne.symm z)] at hm
      obtain ⟨b, eb, q⟩ := r.obj m ob hm
      have nb : b ≠ a := fun e => z (r.inj m n a (e ▸ eb) ha)
      exact ⟨b, eb, q.mono (Ext.refl _) (Keeps.put hu nt nf) (fun v e => by rw [upd_ne nb]; exact e) fun d fs e => by
        rw [upd_ne (fun y => ne d fs (by rw [y, hu] at e; exact Option.some.inj e))]; exact e⟩
  wld := fun b v e => by
    have nb : b ≠ a := fun z => by
      subst z
      rw [r.out n b ha] at e
      cases e
    rw [upd_ne nb]
    exact r.wld b v e
  out := r.out
end
/-- the slots -/
def RS (K : PySem.W.Frag) (μ : List Addr) (H : Hp) (ρ : Rho) (σ : St) : Prop := ρ.length = σ.length ∧ ∀ (i : Nat) (x : MV), ρ[i]? = some (some x) → ∃ v, σ[i]? = some (some v) ∧ RV K μ H x v
theorem RS.mono {K : PySem.W.Frag} {μ μ' : List Addr} {H H' : Hp} {ρ : Rho} {σ : St} (e : Ext μ μ') (k : Keeps K H H') (r : RS K μ H ρ σ) : RS K μ' H' ρ σ := ⟨r.1, fun i x hx => by
  obtain ⟨v, h1, h2⟩ := r.2 i x hx
  exact ⟨v, h1, h2.mono e k⟩⟩
theorem RS.set {K : PySem.W.Frag} {μ : List Addr} {H : Hp} {ρ : Rho} {σ : St} {x : MV} {v : V} (r : RS K μ H ρ σ) (i : Nat) (q : RV K μ H x v) : RS K μ H (ρ.set i (some x)) (σ.set i (some v)) := ⟨by rw [List.length_set, List.length_set]; exact r.1, fun j y hy => by
  by_cases z : i = j
  · subst z
    have hl : i < ρ.length := by
      have := (List.getElem?_eq_some_iff.mp hy).1
      rw [List.length_set] at this; exact this
    rw [List.getElem?_set_self hl] at hy
    cases hy
    exact ⟨v, List.getElem?_set_self (by rw [← r.1]; exact hl), q⟩
  · rw [List.getElem?_set_ne z] at hy
    rw [List.getElem?_set_ne z]
    exact r.2 j y hy⟩
end Mi
set_option maxHeartbeats 4000000
namespace Mi
open PySem PySem.Spec L2
variable [Th]

/-! ## what is wanted behind a result -/
section
variable (K : PySem.W.Frag) (GC : Gn)
def Ct {α β : Type} (W : WX) (σ : L2.St) (μ : List Addr) (H : Hp) (Rel : List Addr → Hp → α → β → Prop) (Q : β → Hp → Prop) : R α → Prop
  | .ok a h => ∀ μ' H' b, Ext μ μ' → Keeps K H H' → RH K GC μ' h H' → Rel μ' H' a b → Q b H'
  | .ex c v h => ∀ μ' H' d vv, Ext μ μ' → Keeps K H H' → RH K GC μ' h H' → RV K μ' H' v vv → H' d = some (.xd [("value", vv)]) → W (.ref (GC.C c)) (some d) σ H'
  | .wall => False
/-- the reading of what the small machine does -/
def tM {α β : Type} (Rel : List Addr → Hp → α → β → Prop) (W : WX) (f : Rho → MH → R α) : L2.St → Hp → (β → Hp → Prop) → Prop := fun σ H Q =>
  ∃ μ ρ h, RS K μ H ρ σ ∧ RH K GC μ h H ∧ Ct K GC W σ μ H Rel Q (f ρ h)
/-- a value; several; a truth value -/
abbrev RelE : List Addr → Hp → MV → V → Prop := fun μ H x v => RV K μ H x v
abbrev RelA : List Addr → Hp → List MV → List V → Prop := fun μ H x v => RVs K μ H x v
def RelT : List Addr → Hp → Bool → Bool → Prop := fun _ _ a b => a = b
abbrev tE (W : WX) (f : Rho → MH → R MV) : TE := tM K GC (RelE K) W f
abbrev tA (W : WX) (f : Rho → MH → R (List MV)) : TA := tM K GC (RelA K) W f
abbrev tT (W : WX) (f : Rho → MH → R Bool) : TT := tM K GC RelT W f
end
section
variable {K : PySem.W.Frag} {GC : Gn} {W : WX} {σ : L2.St} {μ μ1 : List Addr} {H H1 : Hp} {ρ : Rho} {h : MH}
theorem Ct.mono {α β : Type} {Rel : List Addr → Hp → α → β → Prop} {Q : β → Hp → Prop} {r : R α} (c : Ct K GC W σ μ H Rel Q r) (e : Ext μ μ1) (k : Keeps K H H1) : Ct K GC W σ μ1 H1 Rel Q r := by
  cases r with
  | ok a h => exact fun μ' H' b e' k' => c μ' H' b (e.trans e') (k.trans k')
  | ex cc v h => exact fun μ' H' d vv e' k' => c μ' H' d vv (e.trans e') (k.trans k')
  | wall => exact c
theorem Ct.ok {α β : Type} {Rel : List Addr → Hp → α → β → Prop} {Q : β → Hp → Prop} {a : α} {b : β} (c : Ct K GC W σ μ H Rel Q (.ok a h)) (rh : RH K GC μ h H) (r : Rel μ H a b) : Q b H :=
  c μ H b (Ext.refl _) (Keeps.refl _ _) rh r
/-- one thing, then another -/
theorem tM_bind {α β γ δ : Type} {Rel : List Addr → Hp → α → β → Prop} {Rel' : List Addr → Hp → γ → δ → Prop} {Q : δ → Hp → Prop} {f : Rho → MH → R α} {g : α → MH → R γ} (rs : RS K μ H ρ σ) (rh : RH K GC μ h H)
    (c : Ct K GC W σ μ H Rel' Q ((f ρ h).bind g)) :
    tM K GC Rel W f σ H fun b H1 => ∃ μ1 a h1, Ext μ μ1 ∧ Keeps K H H1 ∧ RS K μ1 H1 ρ σ ∧ RH K GC μ1 h1 H1 ∧ Rel μ1 H1 a b ∧ Ct K GC W σ μ1 H1 Rel' Q (g a h1) := by
  refine ⟨μ, ρ, h, rs, rh, ?_⟩
  cases e : f ρ h with
  | ok a h1 =>
    rw [e] at c
    exact fun μ' H' b e' k' rh' r => ⟨μ', a, h1, e', k', rs.mono e' k', rh', r, Ct.mono c e' k'⟩
  | ex cc v h1 =>
    rw [e] at c
    exact c
  | wall =>
    rw [e] at c
    exact c
end

/-! ## two values, one, several -/
section
variable (K : PySem.W.Frag) (GC : Gn)
def Op2 (f : MV → MV → MH → R MV) (r : R2) : Prop := ∀ (W : WX) (σ : L2.St) (μ : List Addr) (H : Hp) (h : MH) (x y : MV) (v u : V) (Q : VK), RH K GC μ h H → RV K μ H x v → RV K μ H y u → Ct K GC W σ μ H (RelE K) Q (f x y h) → r v u H Q
def Op1 (f : MV → MH → R MV) (r : V → Hp → VK → Prop) : Prop := ∀ (W : WX) (σ : L2.St) (μ : List Addr) (H : Hp) (h : MH) (x : MV) (v : V) (Q : VK), RH K GC μ h H → RV K μ H x v → Ct K GC W σ μ H (RelE K) Q (f x h) → r v H Q
def OpN (f : List MV → MH → R MV) (r : List V → Hp → VK → Prop) : Prop := ∀ (W : WX) (σ : L2.St) (μ : List Addr) (H : Hp) (h : MH) (xs : List MV) (vs : List V) (Q : VK), RH K GC μ h H → RVs K μ H xs vs → Ct K GC W σ μ H (RelE K) Q (f xs h) → r vs H Q
def Mt (f : MV → List MV → MH → R MV) (r : V → List V → Hp → VK → Prop) : Prop := ∀ (W : WX) (σ : L2.St) (μ : List Addr) (H : Hp) (h : MH) (x : MV) (v : V) (xs : List MV) (vs : List V) (Q : VK), RH K GC μ h H → RV K μ H x v → RVs K μ H xs vs → Ct K GC W σ μ H (RelE K) Q (f x xs h) → r v vs H Q
def seq2 (fa fb : Rho → MH → R MV) (f : MV → MV → MH → R MV) : Rho → MH → R MV := fun ρ h => (fa ρ h).bind fun a h1 => (fb ρ h1).bind fun b h2 => f a b h2
def seq1 (fa : Rho → MH → R MV) (f : MV → MH → R MV) : Rho → MH → R MV := fun ρ h => (fa ρ h).bind f
def seqN (fa : Rho → MH → R (List MV)) (f : List MV → MH → R MV) : Rho → MH → R MV := fun ρ h => (fa ρ h).bind f
def seqM (fo : Rho → MH → R MV) (fa : Rho → MH → R (List MV)) (f : MV → List MV → MH → R MV) : Rho → MH → R MV := fun ρ h => (fo ρ h).bind fun o h1 => (fa ρ h1).bind fun xs h2 => f o xs h2
end
section
variable {K : PySem.W.Frag} {GC : Gn} {W : WX} {σ : L2.St} {μ μ1 : List Addr} {H H1 : Hp} {ρ : Rho} {h : MH} {Q : VK}
theorem tM_imp {α β : Type} {Rel : List Addr → Hp → α → β → Prop} {f : Rho → MH → R α} {Q Q' : β → Hp → Prop} (t : tM K GC Rel W f σ H Q) (i : ∀ b H', Q b H' → Q' b H') : tM K GC Rel W f σ H Q' := by
  obtain ⟨μ, ρ, h, rs, rh, c⟩ := t
  refine ⟨μ, ρ, h, rs, rh, ?_⟩
  cases e : f ρ h with
  | ok a h1 => rw [e] at c; exact fun μ' H' b e1 k1 rh1 r1 => i _ _ (c μ' H' b e1 k1 rh1 r1)
  | ex cc v h1 => rw [e] at c; exact c
  | wall => rw [e] at c; exact c
theorem t_op2 {f : MV → MV → MH → R MV} {r : R2} {fa fb : Rho → MH → R MV} (o : Op2 K GC f r) (t : tE K GC W (seq2 fa fb f) σ H Q) : tOp r (tE K GC W fa) (tE K GC W fb) σ H Q := by
  obtain ⟨μ, ρ, h, rs, rh, c⟩ := t
  refine tM_imp (tM_bind (f := fa) (Rel := RelE K) rs rh c) fun v H1 ⟨μ1, a, h1, e1, k1, rs1, rh1, r1, c1⟩ => ?_
  refine tM_imp (tM_bind (f := fb) (Rel := RelE K) rs1 rh1 c1) fun u H2 ⟨μ2, b, h2, e2, k2, rs2, rh2, r2, c2⟩ => ?_
  exact o W σ μ2 H2 h2 a b v u Q rh2 (r1.mono e2 k2) r2 c2
theorem t_op1 {f : MV → MH → R MV} {r : V → Hp → VK → Prop} {fa : Rho → MH → R MV} (o : Op1 K GC f r) (t : tE K GC W (seq1 fa f) σ H Q) : tUn r (tE K GC W fa) σ H Q := by
  obtain ⟨μ, ρ, h, rs, rh, c⟩ := t
  exact tM_imp (tM_bind (f := fa) (Rel := RelE K) rs rh c) fun v H1 ⟨μ1, a, h1, e1, k1, rs1, rh1, r1, c1⟩ => o W σ μ1 H1 h1 a v Q rh1 r1 c1
theorem t_opN {f : List MV → MH → R MV} {r : List V → Hp → VK → Prop} {fa : Rho → MH → R (List MV)} (o : OpN K GC f r) (t : tE K GC W (seqN fa f) σ H Q) : tCB r (tA K GC W fa) σ H Q := by
  obtain ⟨μ, ρ, h, rs, rh, c⟩ := t
  exact tM_imp (tM_bind (f := fa) (Rel := RelA K) rs rh c) fun v H1 ⟨μ1, a, h1, e1, k1, rs1, rh1, r1, c1⟩ => o W σ μ1 H1 h1 a v Q rh1 r1 c1
/-- a new object; a new tuple -/
theorem Ct.new {p : Addr} {u : HO} {o : MO} (c : Ct K GC W σ μ H (RelE K) Q (.ok (.ref h.length) (h ++ [o]))) (rh : RH K GC μ h H) (hp : H p = none) (new : RO K GC (μ ++ [p]) (upd H p u) p o) : Q (.ref p) (upd H p u) :=
  c (μ ++ [p]) (upd H p u) (.ref p) (ext_push μ p) (Keeps.new hp) (rh.alloc hp new) (.ref (by rw [← rh.len]; simp))
theorem Ct.tup {p : Addr} {xs : List MV} {vs : List V} (c : Ct K GC W σ μ H (RelE K) Q (.ok (.tup xs) h)) (rh : RH K GC μ h H) (hp : H p = none) (r : RVs K μ H xs vs) : Q (.ref p) (upd H p (.tup vs)) :=
  c μ (upd H p (.tup vs)) (.ref p) (Ext.refl _) (Keeps.new hp) (rh.grow hp) (.tup (.inl (.inl upd_same)) (r.mono (Ext.refl _) (Keeps.new hp)))
theorem Ct.lst {p : Addr} {xs : List MV} {vs : List V} (c : Ct K GC W σ μ H (RelE K) Q (.ok (.ref h.length) (h ++ [.lst xs]))) (rh : RH K GC μ h H) (hp : H p = none) (r : RVs K μ H xs vs) : Q (.ref p) (upd H p (.lst vs)) :=
  c.new rh hp ⟨vs, upd_same, r.mono (ext_push μ p) (Keeps.new hp)⟩
/-- a list by its place -/
theorem RH.lst {n : Nat} {a : Addr} {xs : List MV} (rh : RH K GC μ h H) (ha : μ[n]? = some a) (hn : h[n]? = some (.lst xs)) : ∃ vs, H a = some (.lst vs) ∧ RVs K μ H xs vs := by
  obtain ⟨b, eb, q⟩ := rh.obj n _ hn
  rw [ha] at eb; cases eb
  exact q
theorem RH.dct {n : Nat} {a : Addr} {kvs : List (Key × MV)} (rh : RH K GC μ h H) (ha : μ[n]? = some a) (hn : h[n]? = some (.dct kvs)) : ∃ kws, H a = some (.dK kws) ∧ kws.map (·.1) = kvs.map (·.1) ∧ RVs K μ H (kvs.map (·.2)) (kws.map (·.2)) := by
  obtain ⟨b, eb, q⟩ := rh.obj n _ hn
  rw [ha] at eb; cases eb
  exact q
theorem RH.exc {K : PySem.W.Frag} {GC : Gn} {μ : List Addr} {h : MH} {H : Hp} (r : RH K GC μ h H) {n c : Nat} {a : Addr} {x : MV} (ha : μ[n]? = some a) (e : h[n]? = some (.exc c x)) : ∃ dx vv, H a = some (exv a (.ref (GC.C c)) (some dx)) ∧ H dx = some (.xd [("value", vv)]) ∧ RV K μ H x vv := by
  obtain ⟨o, eo, q⟩ := r.at ha
  rw [e] at eo
  cases eo
  exact q
theorem RH.ins {n : Nat} {a : Addr} {c : Nat} {fs : List (Nat × MV)} (rh : RH K GC μ h H) (ha : μ[n]? = some a) (hn : h[n]? = some (.ins c fs)) : ∃ dx gs, H a = some (.ins (GC.C c) dx gs) ∧ (gs.map fun p => some p.1) = (fs.map fun p => GC.NM[p.1]?) ∧ RVs K μ H (fs.map (·.2)) (gs.map (·.2)) := by
  obtain ⟨b, eb, q⟩ := rh.obj n _ hn
  rw [ha] at eb; cases eb
  exact q
end

/-! ## a heap that only grows -/
theorem Keeps.same {K : PySem.W.Frag} {H H' : Hp} (s : ∀ b u, H b = some u → H' b = some u) : Keeps K H H' where
  tup := fun a xs h => by
    rcases h with (h | ⟨o, h⟩) | h
    · exact .inl (.inl (s _ _ h))
    · exact .inl (.inr ⟨o, s _ _ h⟩)
    · exact .inr h
  loc := fun a xs h => by
    rcases h with ⟨o, h⟩ | h
    · exact .inl ⟨o, s _ _ h⟩
    · exact .inr h
theorem RH.same {K : PySem.W.Frag} {GC : Gn} {μ : List Addr} {h : MH} {H H' : Hp} (r : RH K GC μ h H) (s : ∀ b u, H b = some u → H' b = some u) : RH K GC μ h H' :=
  ⟨r.len, r.inj, fun n o hn => by
    obtain ⟨a, ea, q⟩ := r.obj n o hn
    exact ⟨a, ea, q.mono (Ext.refl _) (Keeps.same s) (fun u e => s _ _ e) fun d fs e => s _ _ e⟩, fun b w e => s _ _ (r.wld b w e), r.out⟩

/-! ## operators -/
def SZ : Nat := 16777216
theorem SZ_eq : sizeLine = SZ := sizeLine_eq
def addM (x y : MV) (h : MH) : R MV := match x, y with
  | .int i, .int j => .ok (.int (i + j)) h
  | .str a, .str b => if a.length + b.length ≤ SZ then .ok (.str (appF a b)) h else .wall
  | .tup xs, .tup ys => if xs.length + ys.length ≤ SZ then .ok (.tup (xs ++ ys)) h else .wall
  | .ref a, .ref b => match h[a]?, h[b]? with
    | some (.lst xs), some (.lst ys) => if xs.length + ys.length ≤ SZ then .ok (.ref h.length) (h ++ [.lst (xs ++ ys)]) else .wall
    | _, _ => .wall
  | _, _ => .wall
def rAddS : R2 := fun x y H Q => ∃ i j, x = .str i ∧ y = .str j ∧ i.length + j.length ≤ sizeLine ∧ Q (.str (i ++ j)) H
def rAddM (K : PySem.W.Frag) : R2 := fun x y H Q => (((rI0 fun i j => .int (i + j)) x y H Q ∨ rAddS x y H Q) ∨ rCatA K x y H Q) ∨ rCat x y H Q
theorem op_addM {X : Cx} : OpR X (binaryOp .Add) (rAddM X.K) := ((op_add.or op_add_str).or op_catA).or op_cat
theorem o_add {K : PySem.W.Frag} {GC : Gn} : Op2 K GC addM (rAddM K) := by
  intro W σ μ H h x y v u Q rh rx ry c
  cases rx with
  | int i =>
    cases ry with
    | int j => exact .inl (.inl (.inl ⟨i, j, rfl, rfl, Ct.ok c rh (.int _)⟩))
    | _ => exact c.elim
  | str a =>
    cases ry with
    | str b =>
      unfold addM at c
      simp only [appF_eq] at c
      by_cases z : a.length + b.length ≤ SZ
      · simp only [z, if_true] at c
        exact .inl (.inl (.inr ⟨a, b, rfl, rfl, by rw [SZ_eq]; exact z, Ct.ok c rh (.str _)⟩))
      · simp only [z, if_false] at c
        exact c.elim
    | _ => exact c.elim
  | @tup a xs vs hs rs =>
    cases ry with
    | @tup b ys us ht rt =>
      unfold addM at c
      by_cases z : xs.length + ys.length ≤ SZ
      · simp only [z, if_true] at c
        have l1 := rs.length
        have l2 := rt.length
        refine .inl (.inr ⟨a, b, vs, us, rfl, rfl, hs, ht, by rw [SZ_eq]; omega, fun e => ?_, fun _ e => ?_, fun _ _ p hp => ?_⟩)
        · subst e
          have : xs = [] := List.length_eq_zero_iff.mp l1
          subst this
          exact Ct.ok c rh (.tup ht rt)
        · subst e
          have : ys = [] := List.length_eq_zero_iff.mp l2
          subst this
          rw [List.append_nil] at c
          exact Ct.ok c rh (.tup hs rs)
        · exact c.tup rh hp (rs.append rt)
      · simp only [z, if_false] at c
        exact c.elim
    | _ => exact c.elim
  | @ref n a ha =>
    cases ry with
    | @ref m b hb =>
      unfold addM at c
      simp only at c
      split at c
      · rename_i xs ys e1 e2
        by_cases z : xs.length + ys.length ≤ SZ
        · simp only [z, if_true] at c
          obtain ⟨vs, q1, t1⟩ := rh.lst ha e1
          obtain ⟨us, q2, t2⟩ := rh.lst hb e2
          have l1 := t1.length
          have l2 := t2.length
          exact .inr ⟨a, b, vs, us, rfl, rfl, q1, q2, by rw [SZ_eq]; omega, fun p hp => c.lst rh hp (t1.append t2)⟩
        · simp only [z, if_false] at c
          exact c.elim
      · exact c.elim
    | _ => exact c.elim
  | _ => cases ry <;> exact c.elim
def subM (x y : MV) (h : MH) : R MV := match x, y with
  | .int i, .int j => .ok (.int (i - j)) h
  | _, _ => .wall
theorem o_sub {K : PySem.W.Frag} {GC : Gn} : Op2 K GC subM (rI0 fun i j => .int (i - j)) := by
  intro W σ μ H h x y v u Q rh rx ry c
  cases rx <;> cases ry <;> first | exact c.elim | exact ⟨_, _, rfl, rfl, Ct.ok c rh (.int _)⟩
/-- x * n of a text -/
def repS (x : Str) (n : Int) : Str := if n < 1 then Str.empty else if (n == 1 || x.length == 0) = true then x else ⟨(List.replicate n.toNat x.cps).foldl (· ++ ·) #[]⟩
def CRepS (x : Str) (n : Int) : Prop := n < 65536 ∧ -65536 < n ∧ x.length ≤ 200
def mulM (x y : MV) (h : MH) : R MV := match x, y with
  | .int i, .int j => if i.natAbs.log2 + j.natAbs.log2 < 1000000 then .ok (.int (i * j)) h else .wall
  | .str a, .int n => if n < 65536 ∧ -65536 < n ∧ a.length ≤ 200 then .ok (.str (repS a n)) h else .wall
  | _, _ => .wall
def rRepS : R2 := fun x y H Q => ∃ a n, x = .str a ∧ y = .int n ∧ CRepS a n ∧ Q (.str (repS a n)) H
theorem rep_size (a : Array Nat) : ∀ (n : Nat) (b : Array Nat), ((List.replicate n a).foldl (· ++ ·) b).size = b.size + n * a.size
  | 0, b => by simp
  | n + 1, b => by
    rw [List.replicate_succ, List.foldl_cons, rep_size a n (b ++ a), Array.size_append, Nat.succ_mul]
    omega
theorem op_repS {X : Cx} : OpR X (binaryOp .Mult) rRepS := by
  intro pins s σ H x y v u Q I rx ry h
  obtain ⟨a, n, rfl, rfl, ⟨c1, c2, c3⟩, q⟩ := h
  obtain ⟨t, rfl⟩ := rx
  obtain ⟨t', rfl⟩ := ry
  have hz : (2 ^ 63 : Int) = 9223372036854775808 := by decide
  have hl : (a.length : Int) ≤ 200 := by omega
  refine PySem.P.mul_str ?_ (fun h1 h2 => ?_) (fun h1 h2 => ?_) ?_
  · rw [Bool.or_eq_false_iff]
    exact ⟨decide_eq_false (by omega), decide_eq_false (by omega)⟩
  · have : (2 ^ 63 - 1) / n ≥ 200 := by
      rw [hz]
      exact Int.le_ediv_of_mul_le (by omega) (by omega)
    omega
  · have e : a.length * n.toNat ≤ 200 * 65536 := Nat.mul_le_mul c3 (by omega)
    show decide (a.length * n.toNat > sizeLine) = false
    rw [sizeLine_eq]
    exact decide_eq_false (by omega)
  · unfold repS at q
    by_cases h1 : n < 1
    · rw [if_pos h1] at q ⊢
      exact ⟨by decide, ⟨.str Str.empty, H, I.tok _, ⟨_, rfl⟩, q⟩⟩
    · rw [if_neg h1] at q ⊢
      by_cases h2 : (n == 1 || a.length == 0) = true
      · rw [if_pos h2] at q ⊢
        exact ⟨.str a, H, I, ⟨_, rfl⟩, q⟩
      · rw [if_neg h2] at q ⊢
        refine ⟨?_, ⟨.str _, H, I.tok _, ⟨_, rfl⟩, q⟩⟩
        show (((List.replicate n.toNat a.cps).foldl (· ++ ·) #[]).size) ≤ sizeLine
        rw [rep_size, sizeLine_eq]
        have e : n.toNat * a.cps.size ≤ 65536 * 200 := Nat.mul_le_mul (by omega) c3
        show 0 + n.toNat * a.cps.size ≤ 16777216
        omega
theorem o_mul {K : PySem.W.Frag} {GC : Gn} : Op2 K GC mulM (fun x y H Q => rI CMulW (fun i j => .int (i * j)) x y H Q ∨ rRepS x y H Q) := by
  intro W σ μ H h x y v u Q rh rx ry c
  cases rx <;> cases ry <;> first
    | exact c.elim
    | (unfold mulM at c
       simp only at c
       split at c
       · rename_i z
         first
           | exact .inl ⟨_, _, rfl, rfl, z, Ct.ok c rh (.int _)⟩
           | exact .inr ⟨_, _, rfl, rfl, z, Ct.ok c rh (.str _)⟩
       · exact c.elim)
def fdivM (x y : MV) (h : MH) : R MV := match x, y with
  | .int i, .int j => if 0 < j ∧ j.natAbs.log2 < 9000 then .ok (.int (i / j)) h else .wall
  | _, _ => .wall
theorem o_fdiv {K : PySem.W.Frag} {GC : Gn} : Op2 K GC fdivM (rI CDivW fun i j => .int (i / j)) := by
  intro W σ μ H h x y v u Q rh rx ry c
  cases rx <;> cases ry <;> first
    | exact c.elim
    | (unfold fdivM at c
       simp only at c
       split at c
       · rename_i z
         exact ⟨_, _, rfl, rfl, z, Ct.ok c rh (.int _)⟩
       · exact c.elim)
def modM (x y : MV) (h : MH) : R MV := match x, y with
  | .int i, .int j => if 0 < j then .ok (.int (i % j)) h else .wall
  | _, _ => .wall
theorem o_mod {K : PySem.W.Frag} {GC : Gn} : Op2 K GC modM (rI (fun _ j => 0 < j) fun i j => .int (i % j)) := by
  intro W σ μ H h x y v u Q rh rx ry c
  cases rx <;> cases ry <;> first
    | exact c.elim
    | (unfold modM at c
       simp only at c
       split at c
       · rename_i z
         exact ⟨_, _, rfl, rfl, z, Ct.ok c rh (.int _)⟩
       · exact c.elim)
def CPowW (i j : Int) : Prop := 0 ≤ j ∧ (Builtin.Int.intBits i : Int) * j ≤ 2 ^ 27
theorem op_powW {X : Cx} : OpR X (binaryOp .Pow) (rI CPowW fun i j => .int (i ^ j.toNat)) := opI fun _ _ _ _ _ _ _ hc q => PyProof.Rows.pow_int hc.1 hc.2 q
def powM (x y : MV) (h : MH) : R MV := match x, y with
  | .int i, .int j => if 0 ≤ j ∧ (Builtin.Int.intBits i : Int) * j ≤ 134217728 then .ok (.int (i ^ j.toNat)) h else .wall
  | _, _ => .wall
theorem o_pow {K : PySem.W.Frag} {GC : Gn} : Op2 K GC powM (rI CPowW fun i j => .int (i ^ j.toNat)) := by
  intro W σ μ H h x y v u Q rh rx ry c
  cases rx <;> cases ry <;> first
    | exact c.elim
    | (unfold powM at c
       simp only at c
       split at c
       · rename_i z
         exact ⟨_, _, rfl, rfl, z, Ct.ok c rh (.int _)⟩
       · exact c.elim)
end Mi
set_option maxHeartbeats 4000000
namespace Mi
open PySem PySem.Spec L2
variable [Th]

/-! ## data: what == and in look at -/
def oMap {α β : Type} (f : α → Option β) : List α → Option (List β)
  | [] => some []
  | x :: xs => match f x with
    | some y => match oMap f xs with
      | some ys => some (y :: ys)
      | none => none
    | none => none
def toD : Nat → MH → MV → Option PyData
  | 0, _, _ => none
  | _ + 1, _, .non => some .none
  | _ + 1, _, .bl b => some (.bool b)
  | _ + 1, _, .int i => some (.int i)
  | _ + 1, _, .str s => some (.str s)
  | n + 1, h, .tup xs => match oMap (toD n h) xs with | some ds => some (.tuple ds) | none => none
  | n + 1, h, .ref k => match h[k]? with
    | some (.lst xs) => match oMap (toD n h) xs with | some ds => some (.list ds) | none => none
    | _ => none
  | _ + 1, _, .scr xs => some (.list (xs.map .int))
  | _ + 1, _, .sym _ => none
section
variable {K : PySem.W.Frag} {GC : Gn} {μ : List Addr} {H : Hp} {h : MH}
theorem oMap_dp {f : MV → Option PyData} (hf : ∀ x v d, RV K μ H x v → f x = some d → Dp K H v d) : ∀ {xs : List MV} {vs : List V} {ds : List PyData}, RVs K μ H xs vs → oMap f xs = some ds → DpAll K H vs ds
  | _, _, _, .nil, e => by cases e; exact .nil
  | x :: xs, v :: vs, ds, .cons r t, e => by
    unfold oMap at e
    cases ex : f x with
    | none => rw [ex] at e; cases e
    | some y =>
      rw [ex] at e
      cases et : oMap f xs with
      | none => rw [et] at e; cases e
      | some ys =>
        rw [et] at e
        cases e
        exact .cons (hf x v y r ex) (oMap_dp hf t et)
theorem dp_ints : ∀ (xs : List Int), DpAll K H (xs.map V.int) (xs.map PyData.int)
  | [] => .nil
  | x :: xs => .cons (.int x) (dp_ints xs)
theorem toD_dp (rh : RH K GC μ h H) : ∀ (n : Nat) (x : MV) (v : V) (d : PyData), RV K μ H x v → toD n h x = some d → Dp K H v d
  | 0, _, _, _, _, e => by cases e
  | n + 1, x, v, d, r, e => by
    cases r with
    | non => cases e; exact .non
    | bl b => cases e; exact .bl b
    | int i => cases e; exact .int i
    | str s => cases e; exact .str s
    | tup hs rs =>
      unfold toD at e
      split at e
      · rename_i ds eq
        cases e
        exact .tup hs (oMap_dp (toD_dp rh n) rs eq)
      · cases e
    | ref ha =>
      unfold toD at e
      split at e
      · rename_i xs eq
        obtain ⟨vs, q, t⟩ := rh.lst ha eq
        split at e
        · rename_i ds eq2
          cases e
          exact .lst (SqL.of q) (oMap_dp (toD_dp rh n) t eq2)
        · cases e
      · cases e
    | scr hk => cases e; exact .lst hk.sql (dp_ints _)
    | sym i => cases e
end
def eqD (neg : Bool) (x y : MV) (h : MH) : R MV := match toD 40 h x, toD 40 h y with
  | some d, some e => if (SeqAt.shaped d && SeqAt.shaped e) = true then .ok (.bl (if neg then !eqvF d e else eqvF d e)) h else .wall
  | _, _ => .wall
theorem o_eqD {K : PySem.W.Frag} {GC : Gn} : Op2 K GC (eqD false) (rEqD K) := by
  intro W σ μ H h x y v u Q rh rx ry c
  unfold eqD at c
  simp only [eqvF_eq] at c
  split at c
  · rename_i d e ed ee
    split at c
    · rename_i z
      rw [Bool.and_eq_true] at z
      exact ⟨d, e, toD_dp rh 40 x v d rx ed, toD_dp rh 40 y u e ry ee, z.1, z.2, Ct.ok c rh (.bl _)⟩
    · exact c.elim
  · exact c.elim
theorem o_neD {K : PySem.W.Frag} {GC : Gn} : Op2 K GC (eqD true) (rNeD K) := by
  intro W σ μ H h x y v u Q rh rx ry c
  unfold eqD at c
  simp only [eqvF_eq] at c
  split at c
  · rename_i d e ed ee
    split at c
    · rename_i z
      rw [Bool.and_eq_true] at z
      exact ⟨d, e, toD_dp rh 40 x v d rx ed, toD_dp rh 40 y u e ry ee, z.1, z.2, Ct.ok c rh (.bl _)⟩
    · exact c.elim
  · exact c.elim

/-! ## order -/
/-- == and != : a sign is equal to itself -/
def eqM (neg : Bool) (x y : MV) (h : MH) : R MV := match x, y with
  | .sym i, .sym j => if neg = false ∧ i = j then .ok (.bl true) h else .wall
  | _, _ => eqD neg x y h
def rSelf : R2 := fun x y H Q => ∃ i, x = Th.θ i ∧ y = Th.θ i ∧ (∀ a u, Th.wd a = some u → H a = some u) ∧ ∀ H' : Hp, (∀ b u, H b = some u → H' b = some u) → Q (.bl true) H'
theorem o_eq {K : PySem.W.Frag} {GC : Gn} : Op2 K GC (eqM false) (fun x y H Q => rEqD K x y H Q ∨ rSelf x y H Q) := by
  intro W σ μ H h x y v u Q rh rx ry c
  unfold eqM at c
  split at c
  · rename_i i j
    split at c
    · rename_i z
      obtain ⟨_, rfl⟩ := z
      cases rx
      cases ry
      exact .inr ⟨i, rfl, rfl, rh.wld, fun H' s => c _ H' _ (Ext.refl _) (Keeps.same s) (rh.same s) (.bl _)⟩
    · exact c.elim
  · exact .inl (o_eqD W σ μ H h x y v u Q rh rx ry c)
theorem o_ne {K : PySem.W.Frag} {GC : Gn} : Op2 K GC (eqM true) (rNeD K) := by
  intro W σ μ H h x y v u Q rh rx ry c
  unfold eqM at c
  split at c
  · rename_i i j
    rw [if_neg (fun z => Bool.noConfusion z.1)] at c
    exact c.elim
  · exact o_neD W σ μ H h x y v u Q rh rx ry c

def ltS (a b : Str) : Bool := decide (a.cps.toList < b.cps.toList)
def ltM (x y : MV) (h : MH) : R MV := match x, y with
  | .int i, .int j => .ok (.bl (decide (i < j))) h
  | .str a, .str b => .ok (.bl (ltS a b)) h
  | _, _ => .wall
def leM (x y : MV) (h : MH) : R MV := match x, y with
  | .int i, .int j => .ok (.bl (decide (i ≤ j))) h
  | .str a, .str b => .ok (.bl (!ltS b a)) h
  | _, _ => .wall
def gtM (x y : MV) (h : MH) : R MV := match x, y with
  | .int i, .int j => .ok (.bl (decide (j < i))) h
  | .str a, .str b => .ok (.bl (ltS b a)) h
  | _, _ => .wall
def geM (x y : MV) (h : MH) : R MV := match x, y with
  | .int i, .int j => .ok (.bl (decide (j ≤ i))) h
  | .str a, .str b => .ok (.bl (!ltS a b)) h
  | _, _ => .wall
def rIS (f : Int → Int → Bool) (g : Str → Str → Bool) : R2 := fun x y H Q => (rI0 fun i j => .bl (f i j)) x y H Q ∨ ∃ i j, x = .str i ∧ y = .str j ∧ Q (.bl (g i j)) H
theorem op_ltM {X : Cx} : OpR X (compareOp .Lt) (rIS (fun i j => decide (i < j)) ltS) := op_lt.or op_lt_str
theorem op_leM {X : Cx} : OpR X (compareOp .LtE) (rIS (fun i j => decide (i ≤ j)) fun a b => !ltS b a) := op_le.or op_le_str
theorem op_gtM {X : Cx} : OpR X (compareOp .Gt) (rIS (fun i j => decide (j < i)) fun a b => ltS b a) := op_gt.or op_gt_str
theorem op_geM {X : Cx} : OpR X (compareOp .GtE) (rIS (fun i j => decide (j ≤ i)) fun a b => !ltS a b) := op_ge.or op_ge_str
section
variable {K : PySem.W.Frag} {GC : Gn}
theorem o_lt : Op2 K GC ltM (rIS (fun i j => decide (i < j)) ltS) := by
  intro W σ μ H h x y v u Q rh rx ry c
  cases rx <;> cases ry <;> first | exact c.elim | exact .inl ⟨_, _, rfl, rfl, Ct.ok c rh (.bl _)⟩ | exact .inr ⟨_, _, rfl, rfl, Ct.ok c rh (.bl _)⟩
theorem o_le : Op2 K GC leM (rIS (fun i j => decide (i ≤ j)) fun a b => !ltS b a) := by
  intro W σ μ H h x y v u Q rh rx ry c
  cases rx <;> cases ry <;> first | exact c.elim | exact .inl ⟨_, _, rfl, rfl, Ct.ok c rh (.bl _)⟩ | exact .inr ⟨_, _, rfl, rfl, Ct.ok c rh (.bl _)⟩
theorem o_gt : Op2 K GC gtM (rIS (fun i j => decide (j < i)) fun a b => ltS b a) := by
  intro W σ μ H h x y v u Q rh rx ry c
  cases rx <;> cases ry <;> first | exact c.elim | exact .inl ⟨_, _, rfl, rfl, Ct.ok c rh (.bl _)⟩ | exact .inr ⟨_, _, rfl, rfl, Ct.ok c rh (.bl _)⟩
theorem o_ge : Op2 K GC geM (rIS (fun i j => decide (j ≤ i)) fun a b => !ltS a b) := by
  intro W σ μ H h x y v u Q rh rx ry c
  cases rx <;> cases ry <;> first | exact c.elim | exact .inl ⟨_, _, rfl, rfl, Ct.ok c rh (.bl _)⟩ | exact .inr ⟨_, _, rfl, rfl, Ct.ok c rh (.bl _)⟩
end
/-! ## is None -/
def isM (neg : Bool) (x y : MV) (h : MH) : R MV := match y with
  | .non => (match x with | .sym _ => .wall | .non => .ok (.bl (!neg)) h | _ => .ok (.bl neg) h)
  | _ => .wall
theorem o_is {K : PySem.W.Frag} {GC : Gn} : Op2 K GC (isM false) (fun x y H Q => y = .non ∧ Q (.bl (decide (x = .non))) H) := by
  intro W σ μ H h x y v u Q rh rx ry c
  cases ry <;> first | exact c.elim | skip
  cases rx <;> first | exact c.elim | exact ⟨rfl, Ct.ok (a := MV.bl _) c rh (.bl _)⟩
theorem o_isnot {K : PySem.W.Frag} {GC : Gn} : Op2 K GC (isM true) (fun x y H Q => y = .non ∧ Q (.bl (!decide (x = .non))) H) := by
  intro W σ μ H h x y v u Q rh rx ry c
  cases ry <;> first | exact c.elim | skip
  cases rx <;> first | exact c.elim | exact ⟨rfl, Ct.ok (a := MV.bl _) c rh (.bl _)⟩

/-! ## dicts by their keys -/
def keyM : MV → Option Key
  | .int i => some (.inl i)
  | .str s => some (.inr s)
  | _ => none
theorem keyM_kV {K : PySem.W.Frag} {μ : List Addr} {H : Hp} {x : MV} {v : V} {k : Key} (r : RV K μ H x v) (e : keyM x = some k) : v = kV k := by
  cases r <;> first | (cases e; rfl) | cases e
def valM (kvs : List (Key × MV)) (k : Key) : Option MV := (kvs.find? fun kv => keyF kv.1 k).map (·.2)
theorem valM_valV {K : PySem.W.Frag} {μ : List Addr} {H : Hp} (k : Key) : ∀ {kvs : List (Key × MV)} {kws : List (Key × V)}, kws.map (·.1) = kvs.map (·.1) → RVs K μ H (kvs.map (·.2)) (kws.map (·.2)) →
    (∃ x v, valM kvs k = some x ∧ valV kws k = some v ∧ RV K μ H x v) ∨ (valM kvs k = none ∧ valV kws k = none)
  | [], [], _, _ => .inr ⟨rfl, rfl⟩
  | [], _ :: _, e, _ => by cases e
  | _ :: _, [], e, _ => by cases e
  | (a, x) :: kvs, (b, v) :: kws, e, r => by
    rw [List.map_cons, List.map_cons] at e
    injection e with e1 e2
    have e1' : b = a := e1
    subst e1'
    cases r with
    | cons r1 r2 =>
      unfold valM valV
      simp only [keyF_eq]
      rw [List.find?_cons, List.find?_cons]
      by_cases z : b = k
      · simp only [z, decide_true]
        exact .inl ⟨x, v, rfl, rfl, r1⟩
      · simp only [z, decide_false]
        have q := valM_valV k e2 r2
        unfold valM valV at q
        simp only [keyF_eq] at q
        exact q

/-! ## in -/
def inM (neg : Bool) (x y : MV) (h : MH) : R MV :=
  let go : Option Bool := match y with
    | .str z => match x with
      | .str s => if s.cps.size = 1 then some (decide (s.cps.getD 0 0 ∈ z.cps.toList)) else some (hasF z s)
      | _ => none
    | .ref n => match h[n]? with
      | some (.dct kvs) => match keyM x with
        | some k => some (valM kvs k).isSome
        | none => none
      | some (.lst ys) => match toD 40 h x, oMap (toD 40 h) ys with
        | some d, some ds => if (SeqAt.shaped d && SeqAt.shaped (.list ds)) = true then some (ds.any fun z => eqvF z d) else none
        | _, _ => none
      | _ => none
    | .tup ys => match toD 40 h x, oMap (toD 40 h) ys with
      | some d, some ds => if (SeqAt.shaped d && SeqAt.shaped (.tuple ds)) = true then some (ds.any fun z => eqvF z d) else none
      | _, _ => none
    | _ => none
  match go with
  | some b => .ok (.bl (if neg then !b else b)) h
  | none => .wall
/-- what in asks -/
def rInAll (K : PySem.W.Frag) (neg : Bool) : R2 := fun x y H Q => ∃ b : Bool, Q (.bl (if neg then !b else b)) H ∧
  ((∃ (c : Nat) (z : Str), x = .str ⟨#[c]⟩ ∧ y = .str z ∧ b = decide (c ∈ z.cps.toList)) ∨
   (∃ i j : Str, x = .str i ∧ y = .str j ∧ b = !(Builtin.Str.occurrences j i 0 j.length 1).isEmpty) ∨
   (∃ (a : Addr) (o : Option V), y = .ref a ∧ DGet H a x o ∧ b = o.isSome) ∨
   (∃ d ds, Dp K H x d ∧ Dp K H y (.list ds) ∧ SeqAt.shaped d = true ∧ SeqAt.shaped (.list ds) = true ∧ b = ds.any fun z => PyData.eqv z d) ∨
   (∃ d ds, Dp K H x d ∧ Dp K H y (.tuple ds) ∧ SeqAt.shaped d = true ∧ SeqAt.shaped (.tuple ds) = true ∧ b = ds.any fun z => PyData.eqv z d))
theorem room_in_tup {A : Around} {d : PyData} {ds : List PyData} (sd : SeqAt.shaped d = true) (hu : A.units + 65 < cLine) : A.units + 1 + min (PyData.depthAll ds) d.depth < cLine := by
  have h1 := SeqAt.depth_of_shaped sd
  have h2 : min (PyData.depthAll ds) d.depth ≤ d.depth := Nat.min_le_right _ _
  omega
theorem op_inAll {X : Cx} (hu : X.A.units + 65 < cLine) : OpR X (compareOp .In) (rInAll X.K false) := by
  intro pins s σ H x y v u Q I rx ry h
  obtain ⟨b, q, h⟩ := h
  rcases h with ⟨c, z, rfl, rfl, rfl⟩ | ⟨i, j, rfl, rfl, rfl⟩ | ⟨a, o, rfl, g, rfl⟩ | ⟨d, ds, hd, he, sd, se, rfl⟩ | ⟨d, ds, hd, he, sd, se, rfl⟩
  · exact op_in_sign pins s σ H _ _ v u Q I rx ry ⟨c, z, rfl, rfl, q⟩
  · exact op_in_str pins s σ H _ _ v u Q I rx ry ⟨i, j, rfl, rfl, q⟩
  · obtain rfl : u = Value.ref a := ry
    exact d_in (by omega) I g rx fun s3 I3 => ⟨.bl o.isSome, H, I3, rfl, q⟩
  · exact op_inD hu pins s σ H _ _ v u Q I rx ry ⟨d, ds, hd, he, sd, se, q⟩
  · obtain ⟨as, r1⟩ := Dp.reads I d x v hd rx
    obtain ⟨bs, r2⟩ := Dp.reads I (.tuple ds) y u he ry
    have cl : PyData.canLayAll0 ds = true := SeqAt.canLay_of_shaped se
    exact SeqAt.in_tuple_reads r2 r1 cl (SeqAt.canLay_of_shaped sd) (room_in_tup sd hu) ⟨.bl _, H, I, rfl, q⟩
theorem op_notInAll {X : Cx} (hu : X.A.units + 65 < cLine) : OpR X (compareOp .NotIn) (rInAll X.K true) := by
  intro pins s σ H x y v u Q I rx ry h
  obtain ⟨b, q, h⟩ := h
  rcases h with ⟨c, z, rfl, rfl, rfl⟩ | ⟨i, j, rfl, rfl, rfl⟩ | ⟨a, o, rfl, g, rfl⟩ | ⟨d, ds, hd, he, sd, se, rfl⟩ | ⟨d, ds, hd, he, sd, se, rfl⟩
  · exact op_notIn_sign pins s σ H _ _ v u Q I rx ry ⟨c, z, rfl, rfl, q⟩
  · exact op_notin_str pins s σ H _ _ v u Q I rx ry ⟨i, j, rfl, rfl, q⟩
  · obtain rfl : u = Value.ref a := ry
    exact d_notIn (by omega) I g rx fun s3 I3 => ⟨.bl (!o.isSome), H, I3, rfl, q⟩
  · exact op_notInD hu pins s σ H _ _ v u Q I rx ry ⟨d, ds, hd, he, sd, se, q⟩
  · obtain ⟨as, r1⟩ := Dp.reads I d x v hd rx
    obtain ⟨bs, r2⟩ := Dp.reads I (.tuple ds) y u he ry
    have cl : PyData.canLayAll0 ds = true := SeqAt.canLay_of_shaped se
    exact SeqAt.notIn_tuple_reads r2 r1 cl (SeqAt.canLay_of_shaped sd) (room_in_tup sd hu) ⟨.bl _, H, I, rfl, q⟩
theorem str_one {s : Str} (h : s.cps.size = 1) : s = ⟨#[s.cps.getD 0 0]⟩ := by
  obtain ⟨⟨l⟩⟩ := s
  match l, h with
  | [c], _ => rfl
theorem o_in {K : PySem.W.Frag} {GC : Gn} (neg : Bool) : Op2 K GC (inM neg) (rInAll K neg) := by
  intro W σ μ H h x y v u Q rh rx ry c
  unfold inM at c
  simp only [hasF_eq, eqvF_eq] at c
  split at c
  · rename_i b go
    refine ⟨b, Ct.ok c rh (.bl _), ?_⟩
    cases ry with
    | str z =>
      cases rx with
      | str s =>
        simp only at go
        split at go
        · rename_i one
          cases go
          exact .inl ⟨_, z, by rw [← str_one one], rfl, rfl⟩
        · cases go
          exact .inr (.inl ⟨s, z, rfl, rfl, rfl⟩)
      | _ => cases go
    | ref ha =>
      simp only at go
      split at go
      · rename_i kvs e
        obtain ⟨kws, q, ek, rv⟩ := rh.dct ha e
        split at go
        · rename_i k ke
          cases go
          have ev := keyM_kV rx ke
          refine .inr (.inr (.inl ⟨_, _, rfl, by rw [ev]; exact DGet.k q, ?_⟩))
          rcases valM_valV k ek rv with ⟨x', v', e1, e2, _⟩ | ⟨e1, e2⟩
          · rw [e1, e2]; rfl
          · rw [e1, e2]; rfl
        · cases go
      · rename_i ys e
        obtain ⟨vs, q, rv⟩ := rh.lst ha e
        split at go
        · rename_i d ds ed es
          split at go
          · rename_i z
            cases go
            rw [Bool.and_eq_true] at z
            exact .inr (.inr (.inr (.inl ⟨d, ds, toD_dp rh 40 _ _ d rx ed, .lst (SqL.of q) (oMap_dp (toD_dp rh 40) rv es), z.1, z.2, rfl⟩)))
          · cases go
        · cases go
      · cases go
    | tup hs rv =>
      simp only at go
      split at go
      · rename_i d ds ed es
        split at go
        · rename_i z
          cases go
          rw [Bool.and_eq_true] at z
          exact .inr (.inr (.inr (.inr ⟨d, ds, toD_dp rh 40 _ _ d rx ed, .tup hs (oMap_dp (toD_dp rh 40) rv es), z.1, z.2, rfl⟩)))
        · cases go
      · cases go
    | _ => cases go
  · exact c.elim

/-! ## items -/
def ixM (x y : MV) (h : MH) : R MV := match x with
  | .tup xs => match y with
    | .int i => match atI xs i with | some z => .ok z h | none => .wall
    | _ => .wall
  | .str s => match y with
    | .int i => if s.length ≤ SZ then (match atI s.cps.toList i with | some c => .ok (.str ⟨#[c]⟩) h | none => .wall) else .wall
    | _ => .wall
  | .scr xs => match y with
    | .int i => match atI xs i with | some z => .ok (.int z) h | none => .wall
    | _ => .wall
  | .ref n => match h[n]? with
    | some (.lst xs) => match y with
      | .int i => match atI xs i with | some z => .ok z h | none => .wall
      | _ => .wall
    | some (.dct kvs) => match keyM y with
      | some k => match valM kvs k with | some z => .ok z h | none => .wall
      | none => .wall
    | _ => .wall
  | _ => .wall
def rIxDM : R2 := fun x y H Q => ∃ a v, x = .ref a ∧ DGet H a y (some v) ∧ Q v H
theorem ix_dictM {X : Cx} (hu : X.A.units + 1 < cLine) : IxR X rIxDM := by
  intro value slice pins s σ H x y v u Q I rx ry h hs
  obtain ⟨a, z, rfl, g, q⟩ := h
  obtain rfl : v = Value.ref a := rx
  exact PyProof.Rows.tail_any (dict_typeIs I g) PySem.F.slot_dict_getitem.lookup (d_getItem hu I g ry fun w' s3 I3 rw' => ⟨z, H, I3, rw', q⟩) hs
def rIxM (K : PySem.W.Frag) : R2 := fun x y H Q => rIx K x y H Q ∨ rIxDM x y H Q
theorem ix_M {X : Cx} (hu : X.A.units + 1 < cLine) : IxR X (rIxM X.K) := ix_seq.or (ix_dictM hu)
theorem atI_rv {K : PySem.W.Frag} {μ : List Addr} {H : Hp} {xs : List MV} {vs : List V} {i : Int} {z : MV} (r : RVs K μ H xs vs) (e : atI xs i = some z) : ∃ v, atI vs i = some v ∧ RV K μ H z v := by
  unfold atI at e ⊢
  rw [← r.length]
  cases q : ixN xs.length i with
  | none => rw [q] at e; cases e
  | some j =>
    rw [q] at e
    exact r.get e
theorem o_ix {K : PySem.W.Frag} {GC : Gn} : Op2 K GC ixM (rIxM K) := by
  intro W σ μ H h x y v u Q rh rx ry c
  cases rx with
  | tup hs rs =>
    cases ry with
    | int i =>
      unfold ixM at c
      simp only at c
      split at c
      · rename_i z e
        obtain ⟨w, ew, rw'⟩ := atI_rv rs e
        exact .inl (.inr (.inl ⟨_, _, i, w, rfl, rfl, hs, ew, Ct.ok c rh rw'⟩))
      · exact c.elim
    | _ => exact c.elim
  | str s =>
    cases ry with
    | int i =>
      unfold ixM at c
      simp only at c
      split at c
      · rename_i hz
        split at c
        · rename_i cc e
          exact .inl (.inr (.inr ⟨s, i, cc, rfl, rfl, by rw [SZ_eq]; exact hz, e, Ct.ok c rh (.str _)⟩))
        · exact c.elim
      · exact c.elim
    | _ => exact c.elim
  | scr hk =>
    cases ry with
    | int i =>
      unfold ixM at c
      simp only at c
      split at c
      · rename_i z e
        refine .inl (.inl ⟨_, _, i, .int z, rfl, rfl, hk.sql, ?_, Ct.ok c rh (.int z)⟩)
        unfold atI at e ⊢
        rw [List.length_map]
        cases q : ixN (List.length _) i with
        | none => rw [q] at e; cases e
        | some j =>
          rw [q] at e
          show (List.map V.int _)[j]? = _
          rw [List.getElem?_map]
          have e' : (_ : List Int)[j]? = some z := e
          rw [e']
          rfl
      · exact c.elim
    | _ => exact c.elim
  | ref ha =>
    unfold ixM at c
    simp only at c
    split at c
    · rename_i xs eh
      obtain ⟨vs, q, rv⟩ := rh.lst ha eh
      cases ry with
      | int i =>
        simp only at c
        split at c
        · rename_i z e
          obtain ⟨w, ew, rw'⟩ := atI_rv rv e
          exact .inl (.inl ⟨_, _, i, w, rfl, rfl, SqL.of q, ew, Ct.ok c rh rw'⟩)
        · exact c.elim
      | _ => exact c.elim
    · rename_i kvs eh
      obtain ⟨kws, q, ek, rv⟩ := rh.dct ha eh
      split at c
      · rename_i k ke
        have ev := keyM_kV ry ke
        split at c
        · rename_i z e
          rcases valM_valV k ek rv with ⟨x', v', e1, e2, r'⟩ | ⟨e1, e2⟩
          · rw [e] at e1
            cases e1
            exact .inr ⟨_, v', rfl, by rw [ev, ← e2]; exact DGet.k q, Ct.ok c rh r'⟩
          · rw [e] at e1; cases e1
        · exact c.elim
      · exact c.elim
    · exact c.elim
  | _ => cases ry <;> exact c.elim

/-! ## slices -/
def cutL {α : Type} (xs : List α) (lo hi : Option Int) : List α := (xs.drop (HT.sIx xs.length 0 lo)).take (HT.sIx xs.length xs.length hi - HT.sIx xs.length 0 lo)
def slM (x : MV) (lo hi : Option Int) (h : MH) : R MV := match x with
  | .str s => if s.length ≤ SZ then .ok (.str (cutS s lo hi)) h else .wall
  | .tup xs => .ok (.tup (cutL xs lo hi)) h
  | .ref n => match h[n]? with
    | some (.lst xs) => .ok (.ref h.length) (h ++ [.lst (cutL xs lo hi)])
    | _ => .wall
  | _ => .wall
def rSlM (K : PySem.W.Frag) : V → Option Int → Option Int → Hp → VK → Prop := fun x lo hi H Q => (rSlS x lo hi H Q ∨ rSlA K x lo hi H Q) ∨ rSlL K x lo hi H Q
theorem sl_M {X : Cx} : SlR X (rSlM X.K) := (sl_str.or sl_tupA).or sl_list
theorem cut_whole {α : Type} {xs : List α} {lo hi : Option Int} (h : HT.sIx xs.length 0 lo = 0 ∧ HT.sIx xs.length xs.length hi = xs.length) : cutL xs lo hi = xs := by
  unfold cutL
  rw [h.1, h.2, List.drop_zero, Nat.sub_zero, List.take_length]
theorem o_sl {K : PySem.W.Frag} {GC : Gn} {W : WX} {σ : L2.St} {μ : List Addr} {H : Hp} {h : MH} {x : MV} {v : V} {lo hi : Option Int} {Q : VK} (rh : RH K GC μ h H) (rx : RV K μ H x v) (c : Ct K GC W σ μ H (RelE K) Q (slM x lo hi h)) : rSlM K v lo hi H Q := by
  cases rx with
  | str s =>
    unfold slM at c
    simp only at c
    split at c
    · rename_i z
      exact .inl (.inl ⟨s, rfl, by rw [SZ_eq]; exact z, Ct.ok c rh (.str _)⟩)
    · exact c.elim
  | @tup a xs vs hs rs =>
    have l := rs.length
    have e : RVs K μ H (cutL xs lo hi) (cutV vs lo hi) := by
      unfold cutL cutV
      rw [l]
      exact (rs.drop _).take _
    refine .inl (.inr ⟨_, _, rfl, hs, fun w => ?_, fun _ p hp => Ct.tup c rh hp e⟩)
    have w' : cutL xs lo hi = xs := cut_whole (by rw [l]; exact w)
    have c' : Ct K GC W σ μ H (RelE K) Q (.ok (.tup xs) h) := by
      have c0 : Ct K GC W σ μ H (RelE K) Q (.ok (.tup (cutL xs lo hi)) h) := c
      rw [w'] at c0
      exact c0
    exact Ct.ok c' rh (.tup hs rs)
  | ref ha =>
    unfold slM at c
    simp only at c
    split at c
    · rename_i xs eh
      obtain ⟨vs, q, rv⟩ := rh.lst ha eh
      have l := rv.length
      refine .inr ⟨_, vs, rfl, SqL.of q, fun p hp => ?_⟩
      refine Ct.lst c rh hp ?_
      unfold cutL cutV
      rw [l]
      exact (rv.drop _).take _
    · exact c.elim
  | _ => exact c.elim

/-! ## truth, length -/
def truM (h : MH) : MV → Option Bool
  | .non => some false
  | .bl b => some b
  | .int i => some (i != 0)
  | .str s => if s.length ≤ SZ then some ((s.length : Int) != 0) else none
  | .tup xs => some (!xs.isEmpty)
  | .scr xs => some (!xs.isEmpty)
  | .ref n => (match h[n]? with
    | some (.lst xs) => some (!xs.isEmpty)
    | some (.dct kvs) => some (!kvs.isEmpty)
    | _ => none)
  | .sym _ => none
theorem RVs.isEmpty {K : PySem.W.Frag} {μ : List Addr} {H : Hp} {xs : List MV} {vs : List V} (r : RVs K μ H xs vs) : xs.isEmpty = vs.isEmpty := by cases r <;> rfl
theorem truM_V {K : PySem.W.Frag} {GC : Gn} {μ : List Addr} {H : Hp} {h : MH} {x : MV} {v : V} {b : Bool} (rh : RH K GC μ h H) (r : RV K μ H x v) (e : truM h x = some b) : TruV K v H b := by
  cases r with
  | non => cases e; rfl
  | bl c => cases e; rfl
  | int i => cases e; rfl
  | str s =>
    unfold truM at e
    simp only at e
    split at e
    · rename_i z
      cases e
      exact ⟨by rw [SZ_eq]; exact z, rfl⟩
    · cases e
  | tup hs rs =>
    cases e
    exact .inr (.inl ⟨_, hs, by rw [rs.isEmpty]⟩)
  | @scr a xs hk =>
    cases e
    exact .inl ⟨_, hk.sql, by cases xs <;> rfl⟩
  | sym i => cases e
  | ref ha =>
    unfold truM at e
    simp only at e
    split at e
    · rename_i xs eh
      cases e
      obtain ⟨vs, q, rv⟩ := rh.lst ha eh
      exact .inl ⟨vs, SqL.of q, by rw [rv.isEmpty]⟩
    · rename_i kvs eh
      cases e
      obtain ⟨kws, q, ek, rv⟩ := rh.dct ha eh
      refine .inr (.inr ⟨kws, q, ?_⟩)
      have := rv.isEmpty
      rw [List.isEmpty_map, List.isEmpty_map] at this
      rw [this]
    · cases e
def lenM (xs : List MV) (h : MH) : R MV := match xs with
  | [.str s] => if s.length ≤ SZ then .ok (.int s.length) h else .wall
  | [.tup xs] => .ok (.int xs.length) h
  | [.scr xs] => .ok (.int xs.length) h
  | [.ref n] => match h[n]? with
    | some (.lst xs) => .ok (.int xs.length) h
    | _ => .wall
  | _ => .wall
def rLen (K : PySem.W.Frag) : List V → Hp → VK → Prop := fun xs H Q => ∃ x n, xs = [x] ∧ LenV K x H n ∧ Q (.int n) H
theorem o_len {K : PySem.W.Frag} {GC : Gn} : OpN K GC lenM (rLen K) := by
  intro W σ μ H h xs vs Q rh r c
  cases r with
  | nil => exact c.elim
  | cons r1 r2 =>
    cases r2 with
    | cons _ _ => cases r1 <;> exact c.elim
    | nil =>
      cases r1 with
      | str s =>
        unfold lenM at c
        simp only at c
        split at c
        · rename_i z
          exact ⟨_, _, rfl, ⟨by rw [SZ_eq]; exact z, rfl⟩, Ct.ok c rh (.int _)⟩
        · exact c.elim
      | tup hs rs => exact ⟨_, _, rfl, .inr ⟨_, hs, rs.length⟩, Ct.ok c rh (.int _)⟩
      | scr hk => exact ⟨_, _, rfl, .inl ⟨_, hk.sql, (List.length_map _).symm⟩, Ct.ok c rh (.int _)⟩
      | ref ha =>
        unfold lenM at c
        simp only at c
        split at c
        · rename_i xs eh
          obtain ⟨vs, q, rv⟩ := rh.lst ha eh
          exact ⟨_, _, rfl, .inl ⟨vs, SqL.of q, rv.length⟩, Ct.ok c rh (.int _)⟩
        · exact c.elim
      | _ => exact c.elim
end Mi
set_option maxHeartbeats 4000000
namespace Mi
open PySem PySem.Spec L2
variable [Th]

/-! ## built-in functions by values -/
def absM (xs : List MV) (h : MH) : R MV := match xs with
  | [.int i] => .ok (.int (if i < 0 then -i else i)) h
  | _ => .wall
def intM (xs : List MV) (h : MH) : R MV := match xs with
  | [.int i] => .ok (.int i) h
  | [.bl k] => .ok (.int (if k then 1 else 0)) h
  | [.str s] => if s.length ≤ 640 then (match PySem.intText? s with | some n => .ok (.int n) h | none => .wall) else .wall
  | _ => .wall
def strM (xs : List MV) (h : MH) : R MV := match xs with
  | [.int i] => if i.natAbs.log2 < 1920 then .ok (.str (toString i)) h else .wall
  | _ => .wall
def bools : List MV → Option (List Bool)
  | [] => some []
  | .bl b :: xs => match bools xs with | some bs => some (b :: bs) | none => none
  | _ :: _ => none
def anyM (xs : List MV) (h : MH) : R MV := match xs with
  | [.ref n] => match h[n]? with
    | some (.lst ys) => match bools ys with | some bs => .ok (.bl (bs.any id)) h | none => .wall
    | _ => .wall
  | _ => .wall
def allM (xs : List MV) (h : MH) : R MV := match xs with
  | [.ref n] => match h[n]? with
    | some (.lst ys) => match bools ys with | some bs => .ok (.bl (bs.all id)) h | none => .wall
    | _ => .wall
  | _ => .wall
def tupleM (xs : List MV) (h : MH) : R MV := match xs with
  | [.ref n] => match h[n]? with | some (.lst ys) => .ok (.tup ys) h | _ => .wall
  | [.tup ys] => .ok (.tup ys) h
  | _ => .wall
def listM (xs : List MV) (h : MH) : R MV := match xs with
  | [.ref n] => match h[n]? with | some (.lst ys) => .ok (.ref h.length) (h ++ [.lst ys]) | _ => .wall
  | [.tup ys] => .ok (.ref h.length) (h ++ [.lst ys])
  | _ => .wall
/-- max, min of two ints -/
def mm2M (mx : Bool) (xs : List MV) (h : MH) : R MV := match xs with
  | [.int i, .int j] => .ok (.int (if mx = true then (if j > i then j else i) else (if j < i then j else i))) h
  | _ => .wall
def rTup (K : PySem.W.Frag) : List V → Hp → VK → Prop := fun xs H Q => ∃ p ys, xs = [.ref p] ∧ ((SqL K H p ys ∧ ∀ l, H l = none → Q (.ref l) (upd H l (.tup ys))) ∨ (SqT K H p ys ∧ Q (.ref p) H))
def rLst (K : PySem.W.Frag) : List V → Hp → VK → Prop := fun xs H Q => ∃ p ys, xs = [.ref p] ∧ (SqL K H p ys ∨ SqT K H p ys) ∧ ∀ l, H l = none → Q (.ref l) (upd H l (.lst ys))
def rAbs : List V → Hp → VK → Prop := fun xs H Q => ∃ i, xs = [.int i] ∧ Q (.int (if i < 0 then -i else i)) H
def rInt1 : List V → Hp → VK → Prop := fun xs H Q => (∃ i, xs = [.int i] ∧ Q (.int i) H) ∨ ∃ k, xs = [.bl k] ∧ Q (.int (if k then 1 else 0)) H
def rIntS : List V → Hp → VK → Prop := fun xs H Q => ∃ a n, xs = [.str a] ∧ PySem.intText? a = some n ∧ a.length ≤ 640 ∧ Q (.int n) H
def rInt : List V → Hp → VK → Prop := fun xs H Q => rInt1 xs H Q ∨ rIntS xs H Q
def rStr : List V → Hp → VK → Prop := fun xs H Q => ∃ i, xs = [.int i] ∧ i.natAbs.log2 < 1920 ∧ Q (.str (toString i)) H
theorem CallR.or {X : Cx} {f : Value} {r r' : List V → Hp → VK → Prop} (h : CallR X f r) (h' : CallR X f r') : CallR X f (fun xs H Q => r xs H Q ∨ r' xs H Q) := by
  intro pins s σ H xs us Q I rx q
  rcases q with q | q
  · exact h pins s σ H xs us Q I rx q
  · exact h' pins s σ H xs us Q I rx q
theorem call_intM {X : Cx} : CallR X (.type "int") rInt := CallR.or call_int1 call_int_str
section
variable {K : PySem.W.Frag} {GC : Gn}
theorem o_mm2 (mx : Bool) : OpN K GC (mm2M mx) (fun xs H Q => ∃ i j, xs = [.int i, .int j] ∧ Q (.int (if mx = true then (if j > i then j else i) else (if j < i then j else i))) H) := by
  intro W σ μ H h xs vs Q rh r c
  cases r with
  | nil => exact c.elim
  | cons r1 r2 =>
    cases r2 with
    | nil => cases r1 <;> exact c.elim
    | cons r3 r4 => cases r4 <;> cases r1 <;> cases r3 <;> first | exact c.elim | exact ⟨_, _, rfl, Ct.ok c rh (.int _)⟩
theorem o_abs : OpN K GC absM rAbs := by
  intro W σ μ H h xs vs Q rh r c
  cases r with
  | nil => exact c.elim
  | cons r1 r2 => cases r2 <;> cases r1 <;> first | exact c.elim | exact ⟨_, rfl, Ct.ok c rh (.int _)⟩
theorem o_int : OpN K GC intM rInt := by
  intro W σ μ H h xs vs Q rh r c
  cases r with
  | nil => exact c.elim
  | cons r1 r2 => cases r2 <;> cases r1 <;> first
      | exact c.elim
      | exact .inl (.inl ⟨_, rfl, Ct.ok c rh (.int _)⟩)
      | exact .inl (.inr ⟨_, rfl, Ct.ok c rh (.int _)⟩)
      | (unfold intM at c
         simp only at c
         split at c
         · rename_i z
           split at c
           · rename_i n e
             exact .inr ⟨_, n, rfl, e, z, Ct.ok c rh (.int _)⟩
           · exact c.elim
         · exact c.elim)
theorem o_str : OpN K GC strM rStr := by
  intro W σ μ H h xs vs Q rh r c
  cases r with
  | nil => exact c.elim
  | cons r1 r2 => cases r2 <;> cases r1 <;> first
      | exact c.elim
      | (unfold strM at c
         simp only at c
         split at c
         · rename_i z
           exact ⟨_, rfl, z, Ct.ok c rh (.str _)⟩
         · exact c.elim)
theorem bools_of {μ : List Addr} {H : Hp} : ∀ {ys : List MV} {vs : List V} {bs : List Bool}, RVs K μ H ys vs → bools ys = some bs → vs = bs.map V.bl
  | [], _, bs, .nil, e => by cases e; rfl
  | y :: ys, _, bs, .cons r t, e => by
    cases r <;> first | cases e | skip
    rename_i b
    unfold bools at e
    split at e
    · rename_i bs' e'
      cases e
      rw [bools_of t e']
      rfl
    · cases e
theorem o_any : OpN K GC anyM (rAny K) := by
  intro W σ μ H h xs vs Q rh r c
  cases r with
  | nil => exact c.elim
  | cons r1 r2 => cases r2 <;> cases r1 <;> first
      | exact c.elim
      | (rename_i ha
         unfold anyM at c
         simp only at c
         split at c
         · rename_i ys e
           obtain ⟨us, q, rv⟩ := rh.lst ha e
           split at c
           · rename_i bs eb
             have z := bools_of rv eb
             subst z
             exact ⟨_, bs, rfl, SqL.of q, Ct.ok c rh (.bl _)⟩
           · exact c.elim
         · exact c.elim)
theorem o_all : OpN K GC allM (rAll K) := by
  intro W σ μ H h xs vs Q rh r c
  cases r with
  | nil => exact c.elim
  | cons r1 r2 => cases r2 <;> cases r1 <;> first
      | exact c.elim
      | (rename_i ha
         unfold allM at c
         simp only at c
         split at c
         · rename_i ys e
           obtain ⟨us, q, rv⟩ := rh.lst ha e
           split at c
           · rename_i bs eb
             have z := bools_of rv eb
             subst z
             exact ⟨_, bs, rfl, SqL.of q, Ct.ok c rh (.bl _)⟩
           · exact c.elim
         · exact c.elim)
theorem o_tuple : OpN K GC tupleM (rTup K) := by
  intro W σ μ H h xs vs Q rh r c
  cases r with
  | nil => exact c.elim
  | cons r1 r2 => cases r2 <;> cases r1 <;> first
      | exact c.elim
      | (rename_i hs rs
         exact ⟨_, _, rfl, .inr ⟨hs, Ct.ok c rh (.tup hs rs)⟩⟩)
      | (rename_i ha
         unfold tupleM at c
         simp only at c
         split at c
         · rename_i ys e
           obtain ⟨us, q, rv⟩ := rh.lst ha e
           exact ⟨_, us, rfl, .inl ⟨SqL.of q, fun p hp => Ct.tup c rh hp rv⟩⟩
         · exact c.elim)
theorem o_list : OpN K GC listM (rLst K) := by
  intro W σ μ H h xs vs Q rh r c
  cases r with
  | nil => exact c.elim
  | cons r1 r2 => cases r2 <;> cases r1 <;> first
      | exact c.elim
      | (rename_i hs rs
         exact ⟨_, _, rfl, .inr hs, fun p hp => Ct.lst c rh hp rs⟩)
      | (rename_i ha
         unfold listM at c
         simp only at c
         split at c
         · rename_i ys e
           obtain ⟨us, q, rv⟩ := rh.lst ha e
           exact ⟨_, us, rfl, .inl (SqL.of q), fun p hp => Ct.lst c rh hp rv⟩
         · exact c.elim)
end

/-! ## methods of texts and lists -/
def strsOf : List MV → Option (List Str)
  | [] => some []
  | .str s :: xs => match strsOf xs with | some ss => some (s :: ss) | none => none
  | _ :: _ => none
theorem strsOf_of {K : PySem.W.Frag} {μ : List Addr} {H : Hp} : ∀ {ys : List MV} {vs : List V} {ss : List Str}, RVs K μ H ys vs → strsOf ys = some ss → vs = ss.map V.str
  | [], _, ss, .nil, e => by cases e; rfl
  | y :: ys, _, ss, .cons r t, e => by
    cases r <;> first | cases e | skip
    rename_i b
    unfold strsOf at e
    split at e
    · rename_i ss' e'
      cases e
      rw [strsOf_of t e']
      rfl
    · cases e
def splitM (x : MV) (xs : List MV) (h : MH) : R MV := match x, xs with
  | .str a, [.str b] => if (b.length == 0) = false ∧ a.length + 2 ≤ SZ then .ok (.ref h.length) (h ++ [.lst ((splitF a b).map MV.str)]) else .wall
  | _, _ => .wall
def lstripM (x : MV) (xs : List MV) (h : MH) : R MV := match x, xs with
  | .str a, [.str b] => if a.length ≤ SZ then .ok (.str (lstripF a b)) h else .wall
  | _, _ => .wall
def rstripM (x : MV) (xs : List MV) (h : MH) : R MV := match x, xs with
  | .str a, [.str b] => if a.length ≤ SZ then .ok (.str (Txt.rstripChars a b)) h else .wall
  | _, _ => .wall
def joinM (x : MV) (xs : List MV) (h : MH) : R MV := match x, xs with
  | .str a, [.ref n] => match h[n]? with
    | some (.lst ys) => match strsOf ys with
      | some ss => if (ss.map (·.length)).sum + ss.length * a.length ≤ 16777216 then .ok (.str (joinF a ss)) h else .wall
      | none => .wall
    | _ => .wall
  | .str a, [.tup ys] => match strsOf ys with
    | some ss => if (ss.map (·.length)).sum + ss.length * a.length ≤ 16777216 then .ok (.str (joinF a ss)) h else .wall
    | none => .wall
  | _, _ => .wall
def partM (x : MV) (xs : List MV) (h : MH) : R MV := match x, xs with
  | .str a, [.str b] => if (b.length == 0) = false ∧ a.length ≤ SZ then .ok (.tup [.str (partF a b).1, .str (partF a b).2.1, .str (partF a b).2.2]) h else .wall
  | _, _ => .wall
def startsM (x : MV) (xs : List MV) (h : MH) : R MV := match x, xs with
  | .str a, [.str b] => .ok (.bl (startsF a b)) h
  | _, _ => .wall
def endsM (x : MV) (xs : List MV) (h : MH) : R MV := match x, xs with
  | .str a, [.str b] => .ok (.bl (endsF a b)) h
  | _, _ => .wall
def countM (x : MV) (xs : List MV) (h : MH) : R MV := match x, xs with
  | .str a, [.str b] => .ok (.int (countF a b)) h
  | _, _ => .wall
def appendM (x : MV) (xs : List MV) (h : MH) : R MV := match x, xs with
  | .ref n, [y] => match h[n]? with
    | some (.lst ys) => if ys.length < SZ then .ok .non (h.set n (.lst (ys ++ [y]))) else .wall
    | _ => .wall
  | _, _ => .wall
def extendM (x : MV) (xs : List MV) (h : MH) : R MV := match x, xs with
  | .ref n, [.ref m] => match h[n]?, h[m]? with
    | some (.lst ys), some (.lst zs) => if ys.length + zs.length ≤ SZ then .ok .non (h.set n (.lst (ys ++ zs))) else .wall
    | _, _ => .wall
  | _, _ => .wall
def rSplit : V → List V → Hp → VK → Prop := fun x xs H Q => ∃ a b, x = .str a ∧ xs = [.str b] ∧ (b.length == 0) = false ∧ a.length + 2 ≤ sizeLine ∧ rNewStrs (Txt.split a b) H Q
def rLstrip : V → List V → Hp → VK → Prop := fun x xs H Q => ∃ a b, x = .str a ∧ xs = [.str b] ∧ a.length ≤ sizeLine ∧ Q (.str (Txt.lstripChars a b)) H
def rRstrip : V → List V → Hp → VK → Prop := fun x xs H Q => ∃ a b, x = .str a ∧ xs = [.str b] ∧ a.length ≤ sizeLine ∧ Q (.str (Txt.rstripChars a b)) H
def rJoin (K : PySem.W.Frag) : V → List V → Hp → VK → Prop := fun x xs H Q => ∃ a p, ∃ ys : List Str, x = .str a ∧ xs = [.ref p] ∧ (SqL K H p (ys.map V.str) ∨ SqT K H p (ys.map V.str)) ∧ (ys.map (·.length)).sum + ys.length * a.length ≤ 16777216 ∧ Q (.str (Txt.join a ys)) H
def rPart : V → List V → Hp → VK → Prop := fun x xs H Q => ∃ a b, x = .str a ∧ xs = [.str b] ∧ (b.length == 0) = false ∧ a.length ≤ sizeLine ∧
    ∀ p, H p = none → Q (.ref p) (upd H p (.tup [.str (Txt.partition a b).1, .str (Txt.partition a b).2.1, .str (Txt.partition a b).2.2]))
def rStarts : V → List V → Hp → VK → Prop := fun x xs H Q => ∃ a b, x = .str a ∧ xs = [.str b] ∧ Q (.bl (Txt.startswith a b)) H
def rEnds : V → List V → Hp → VK → Prop := fun x xs H Q => ∃ a b, x = .str a ∧ xs = [.str b] ∧ Q (.bl (Txt.endswith a b)) H
def rCount : V → List V → Hp → VK → Prop := fun x xs H Q => ∃ a b, x = .str a ∧ xs = [.str b] ∧ Q (.int (Txt.count a b)) H
section
variable {K : PySem.W.Frag} {GC : Gn}
theorem RVs.one_str {μ : List Addr} {H : Hp} {b : Str} {vs : List V} (r : RVs K μ H [.str b] vs) : vs = [.str b] := by
  cases r with
  | cons r1 r2 => cases r2; cases r1; rfl
theorem o_split : Mt K GC splitM rSplit := by
  intro W σ μ H h x v xs vs Q rh rx r c
  unfold splitM at c
  simp only [splitF_eq] at c
  split at c
  · cases rx
    have e := r.one_str
    subst e
    split at c
    · rename_i a b z
      exact ⟨_, _, rfl, rfl, z.1, by rw [SZ_eq]; exact z.2, fun p hp => Ct.lst c rh hp (RVs.of_strs _)⟩
    · exact c.elim
  · exact c.elim
theorem o_lstrip : Mt K GC lstripM rLstrip := by
  intro W σ μ H h x v xs vs Q rh rx r c
  unfold lstripM at c
  simp only [lstripF_eq] at c
  split at c
  · cases rx
    have e := r.one_str
    subst e
    split at c
    · rename_i a b z
      exact ⟨_, _, rfl, rfl, by rw [SZ_eq]; exact z, Ct.ok c rh (.str _)⟩
    · exact c.elim
  · exact c.elim
theorem o_rstrip : Mt K GC rstripM rRstrip := by
  intro W σ μ H h x v xs vs Q rh rx r c
  unfold rstripM at c
  split at c
  · cases rx
    have e := r.one_str
    subst e
    split at c
    · rename_i a b z
      exact ⟨_, _, rfl, rfl, by rw [SZ_eq]; exact z, Ct.ok c rh (.str _)⟩
    · exact c.elim
  · exact c.elim
theorem o_part : Mt K GC partM rPart := by
  intro W σ μ H h x v xs vs Q rh rx r c
  unfold partM at c
  simp only [partF_eq] at c
  split at c
  · cases rx
    have e := r.one_str
    subst e
    split at c
    · rename_i a b z
      exact ⟨_, _, rfl, rfl, z.1, by rw [SZ_eq]; exact z.2, fun p hp => Ct.tup c rh hp (.cons (.str _) (.cons (.str _) (.cons (.str _) .nil)))⟩
    · exact c.elim
  · exact c.elim
theorem o_starts : Mt K GC startsM rStarts := by
  intro W σ μ H h x v xs vs Q rh rx r c
  unfold startsM at c
  simp only [startsF_eq] at c
  split at c
  · cases rx
    have e := r.one_str
    subst e
    exact ⟨_, _, rfl, rfl, Ct.ok c rh (.bl _)⟩
  · exact c.elim
theorem o_ends : Mt K GC endsM rEnds := by
  intro W σ μ H h x v xs vs Q rh rx r c
  unfold endsM at c
  simp only [endsF_eq] at c
  split at c
  · cases rx
    have e := r.one_str
    subst e
    exact ⟨_, _, rfl, rfl, Ct.ok c rh (.bl _)⟩
  · exact c.elim
theorem o_count : Mt K GC countM rCount := by
  intro W σ μ H h x v xs vs Q rh rx r c
  unfold countM at c
  simp only [countF_eq] at c
  split at c
  · cases rx
    have e := r.one_str
    subst e
    exact ⟨_, _, rfl, rfl, Ct.ok c rh (.int _)⟩
  · exact c.elim
theorem o_join : Mt K GC joinM (rJoin K) := by
  intro W σ μ H h x v xs vs Q rh rx r c
  unfold joinM at c
  simp only [joinF_eq] at c
  split at c
  · cases rx
    cases r with
    | cons r1 r2 =>
      cases r2
      cases r1 with
      | ref ha =>
        split at c
        · rename_i ys e
          obtain ⟨us, q, rv⟩ := rh.lst ha e
          split at c
          · rename_i ss es
            have z := strsOf_of rv es
            subst z
            split at c
            · rename_i hz
              exact ⟨_, _, ss, rfl, rfl, .inl (SqL.of q), hz, Ct.ok c rh (.str _)⟩
            · exact c.elim
          · exact c.elim
        · exact c.elim
  · cases rx
    cases r with
    | cons r1 r2 =>
      cases r2
      cases r1 with
      | tup hs rv =>
        split at c
        · rename_i ss es
          have z := strsOf_of rv es
          subst z
          split at c
          · rename_i hz
            exact ⟨_, _, ss, rfl, rfl, .inr hs, hz, Ct.ok c rh (.str _)⟩
          · exact c.elim
        · exact c.elim
  · exact c.elim
/-- a list is written over -/
theorem Ct.putL {W : WX} {σ : L2.St} {μ : List Addr} {H : Hp} {h : MH} {Q : VK} {n : Nat} {a : Addr} {xs : List MV} {vs us : List V} {x : MV} {v : V} (c : Ct K GC W σ μ H (RelE K) Q (.ok x (h.set n (.lst xs)))) (rh : RH K GC μ h H) (ha : μ[n]? = some a) (q : H a = some (.lst us)) (r : RVs K μ H xs vs) (rx : RV K μ H x v) : Q v (upd H a (.lst vs)) := by
  have k : Keeps K H (upd H a (.lst vs)) := Keeps.put q (fun _ z => nomatch z) (fun _ _ z => nomatch z)
  exact c μ _ v (Ext.refl _) k (rh.put ha q (fun _ z => nomatch z) (fun _ _ z => nomatch z) (fun _ _ z => nomatch z) ⟨vs, upd_same, r.mono (Ext.refl _) k⟩) (rx.mono (Ext.refl _) k)
theorem o_append : Mt K GC appendM rAppend := by
  intro W σ μ H h x v xs vs Q rh rx r c
  unfold appendM at c
  split at c
  · cases rx with
    | ref ha =>
      cases r with
      | cons r1 r2 =>
        cases r2
        split at c
        · rename_i ys e
          obtain ⟨us, q, rv⟩ := rh.lst ha e
          split at c
          · rename_i z
            exact ⟨_, us, _, rfl, rfl, q, by rw [← rv.length, SZ_eq]; exact z, Ct.putL c rh ha q (rv.append (.cons r1 .nil)) .non⟩
          · exact c.elim
        · exact c.elim
  · exact c.elim
theorem o_extend : Mt K GC extendM rExtend := by
  intro W σ μ H h x v xs vs Q rh rx r c
  unfold extendM at c
  split at c
  · cases rx with
    | ref ha =>
      cases r with
      | cons r1 r2 =>
        cases r2
        cases r1 with
        | ref hb =>
          split at c
          · rename_i ys zs e1 e2
            obtain ⟨us, q, rv⟩ := rh.lst ha e1
            obtain ⟨ws, q2, rv2⟩ := rh.lst hb e2
            split at c
            · rename_i z
              exact ⟨_, _, us, ws, rfl, rfl, q, q2, by rw [← rv.length, ← rv2.length, SZ_eq]; exact z, Ct.putL c rh ha q (rv.append rv2) .non⟩
            · exact c.elim
          · exact c.elim
  · exact c.elim
end
end Mi
set_option maxHeartbeats 4000000
namespace Mi
open PySem PySem.Spec L2
variable [Th]

/-! ## the small syntax -/
inductive Bop where | add | sub | mul | fdiv | mod | pow
inductive Cop where | eq | ne | lt | le | gt | ge | isin | notin | is | isnot
inductive Bi where | max2 | min2 | len | abs | int | str | any | all | tuple | list
inductive Bm where | split | lstrip | rstrip | join | partition | startswith | endswith | count | append | extend
inductive IK where | over | enum | zip | rng1 | rng2
inductive MT where | name (i : Nat) | tup (ts : List MT)
inductive ME where
  | no
  | var (i : Nat) | cst (v : MV)
  | bin (o : Bop) (a b : ME) | cmp (o : Cop) (a b : ME) | chain (o o' : Cop) (a b c : ME)
  | neg (a : ME) | and (a b : ME) | or (a b : ME) | not (a : ME) | ite (t a b : ME)
  | fld (o : ME) (f : Nat) | ix (a i : ME) | sl (a lo hi : ME)
  | tup (es : List ME) | lst (es : List ME) | dsp (ks : List Key) (es : List ME)
  | call (f : Nat) (es : List ME) | make (c : Nat) (es : List ME) | meth (o : ME) (m : Nat) (es : List ME)
  | bi (b : Bi) (es : List ME) | bm (b : Bm) (o : ME) (es : List ME)
  | isi (e : ME) (c : Cl)
  | lc (k : IK) (es : List ME) (tg : MT) (ifs : List ME) (elt : ME) (own : List Nat)
  | dc (k : IK) (es : List ME) (tg : MT) (kx vx : ME) (own : List Nat)
  | mke (c : Nat) (e : ME) | sset (e : ME) | maxd (e d : ME)
inductive MG where
  | name (i : Nat) | fld (o : ME) (f : Nat) | ix (o i : ME) | tup (ts : List MG)
inductive MS where
  | asg (tg : MG) (e : ME) | par (is : List Nat) (es : List ME)
  | aug (i : Nat) (o : Bop) (e : ME) | augf (a : ME) (f : Nat) (o : Bop) (e : ME)
  | expr (e : ME) | ret (e : ME) | retN
  | ite (t : ME) (a b : List MS) | whl (t : ME) (b : List MS) | for (k : IK) (es : List ME) (tg : MT) (b : List MS)
  | brk | cnt | pass | raise (c : Nat) (e : ME)
/-- a def: how many parameters, slots; what its last parameters are if they are not given -/
structure Fn where
  np : Nat
  nl : Nat
  dfs : List MV
  body : List MS
structure Prg where
  fns : List Fn
  cls : List CI
  /-- is an instance of the class (or a value of the type) one of that class? -/
  isa : Cl → Cl → Option Bool
  /-- the field of the errors -/
  vf : Nat

/-! ## how it runs -/
inductive Fl where | nx | ret (v : MV) | brk | cnt
inductive RS' where
  | ok (f : Fl) (ρ : Rho) (h : MH) | ex (c : Nat) (v : MV) (ρ : Rho) (h : MH) | wall
/-- what is walked -/
inductive Src where | fix (xs : List MV) | lst (n : Nat) | enum (n : Nat) | enumT (xs : List MV) | zip (n m : Nat) | rng (lo : Int) (n : Nat)
def lstAt (n : Nat) (h : MH) : List MV := match h[n]? with | some (.lst xs) => xs | _ => []
def isLst (n : Nat) (h : MH) : Bool := match h[n]? with | some (.lst _) => true | _ => false
def Src.item (s : Src) (i : Nat) (h : MH) : Option MV := match s with
  | .fix xs => xs[i]?
  | .lst n => (lstAt n h)[i]?
  | .enum n => match (lstAt n h)[i]? with | some x => some (.tup [.int i, x]) | none => none
  | .enumT xs => match xs[i]? with | some x => some (.tup [.int i, x]) | none => none
  | .zip n m => match (lstAt n h)[i]?, (lstAt m h)[i]? with | some x, some y => some (.tup [x, y]) | _, _ => none
  | .rng lo n => if i < n then some (.int (lo + i)) else none
def Src.stop (s : Src) (i : Nat) (h : MH) : Bool := match s with
  | .fix xs => decide (xs.length ≤ i)
  | .lst n => isLst n h && decide ((lstAt n h).length ≤ i)
  | .enum n => isLst n h && decide ((lstAt n h).length ≤ i)
  | .enumT xs => decide (xs.length ≤ i)
  | .zip n m => isLst n h && isLst m h && (decide ((lstAt n h).length ≤ i) || decide ((lstAt m h).length ≤ i))
  | .rng _ n => decide (n ≤ i)
/-- turns to allow -/
def Src.many (s : Src) (h : MH) : Nat := match s with
  | .fix xs => xs.length
  | .lst n => (lstAt n h).length
  | .enum n => (lstAt n h).length
  | .enumT xs => xs.length
  | .zip n m => min (lstAt n h).length (lstAt m h).length
  | .rng _ n => n
mutual
def MT.put : MT → MV → Rho → Option Rho
  | .name i, v, ρ => some (ρ.set i (some v))
  | .tup ts, .tup xs, ρ => MT.puts ts xs ρ
  | .tup _, _, _ => none
def MT.puts : List MT → List MV → Rho → Option Rho
  | [], [], ρ => some ρ
  | t :: ts, x :: xs, ρ => match MT.put t x ρ with
    | some ρ1 => MT.puts ts xs ρ1
    | none => none
  | _, _, _ => none
end
def putKM (kvs : List (Key × MV)) (k : Key) (v : MV) : List (Key × MV) :=
  if (kvs.any fun kv => keyF kv.1 k) = true then kvs.map (fun kv => if keyF kv.1 k = true then (kv.1, v) else kv) else kvs ++ [(k, v)]
def wipeM (ρ : Rho) : List Nat → Rho
  | [] => ρ
  | v :: vs => (wipeM ρ vs).set v none
def dcL (s : Src) (tg : MT) (kx vx : Rho → MH → R MV) (ρ : Rho) (d : Nat) : Nat → Nat → MH → R MV
  | 0, i, h => if s.stop i h then .ok (.ref d) h else .wall
  | n + 1, i, h => if s.stop i h then .ok (.ref d) h else match s.item i h with
    | none => .wall
    | some x => match tg.put x ρ with
      | none => .wall
      | some ρ1 => (kx ρ1 h).bind fun y h1 => (vx ρ1 h1).bind fun z h2 => (match keyM y, h2[d]? with
          | some k, some (.dct kvs) => if kvs.length < SZ then dcL s tg kx vx ρ d n (i + 1) (h2.set d (.dct (putKM kvs k z))) else .wall
          | _, _ => .wall)
def noEx {α : Type} : R α → R α
  | .ok a h => .ok a h
  | _ => .wall
def lcL (s : Src) (tg : MT) (ts : Rho → MH → R Bool) (el : Rho → MH → R MV) (ρ : Rho) (d : Nat) : Nat → Nat → MH → R MV
  | 0, i, h => if s.stop i h then .ok (.ref d) h else .wall
  | n + 1, i, h => if s.stop i h then .ok (.ref d) h else match s.item i h with
    | none => .wall
    | some x => match tg.put x ρ with
      | none => .wall
      | some ρ1 => (ts ρ1 h).bind fun b h1 => if b then (el ρ1 h1).bind fun y h2 => (match h2[d]? with
          | some (.lst acc) => if acc.length < SZ then lcL s tg ts el ρ d n (i + 1) (h2.set d (.lst (acc ++ [y]))) else .wall
          | _ => .wall)
        else lcL s tg ts el ρ d n (i + 1) h1
def srcM (k : IK) (vs : List MV) (h : MH) : R Src := match k, vs with
  | .over, [.tup xs] => .ok (.fix xs) h
  | .over, [.str s] => .ok (.fix (s.cps.toList.map fun c => .str ⟨#[c]⟩)) h
  | .over, [.ref n] => if isLst n h then .ok (.lst n) h else .wall
  | .enum, [.ref n] => if isLst n h then .ok (.enum n) h else .wall
  | .enum, [.tup xs] => .ok (.enumT xs) h
  | .zip, [.ref n, .ref m] => if isLst n h && isLst m h then .ok (.zip n m) h else .wall
  | .rng1, [.int j] => if -4611686018427387904 ≤ j ∧ j < 4611686018427387904 then .ok (.rng 0 j.toNat) h else .wall
  | .rng2, [.int i, .int j] => if -4611686018427387904 ≤ i ∧ i < 4611686018427387904 ∧ -4611686018427387904 ≤ j ∧ j < 4611686018427387904 then .ok (.rng i (j - i).toNat) h else .wall
  | _, _ => .wall
def Bop.run : Bop → MV → MV → MH → R MV
  | .add => addM | .sub => subM | .mul => mulM | .fdiv => fdivM | .mod => modM | .pow => powM
def Cop.run : Cop → MV → MV → MH → R MV
  | .eq => eqM false | .ne => eqM true | .lt => ltM | .le => leM | .gt => gtM | .ge => geM | .isin => inM false | .notin => inM true | .is => isM false | .isnot => isM true
def Bi.run : Bi → List MV → MH → R MV
  | .max2 => mm2M true | .min2 => mm2M false | .len => lenM | .abs => absM | .int => intM | .str => strM | .any => anyM | .all => allM | .tuple => tupleM | .list => listM
def Bm.run : Bm → MV → List MV → MH → R MV
  | .split => splitM | .lstrip => lstripM | .rstrip => rstripM | .join => joinM | .partition => partM | .startswith => startsM | .endswith => endsM | .count => countM
  | .append => appendM | .extend => extendM
def Bm.recv (b : Bm) (x : MV) (h : MH) : Bool := match b with
  | .append | .extend => (match x with | .ref n => isLst n h | _ => false)
  | _ => (match x with | .str _ => true | _ => false)
def negM (x : MV) (h : MH) : R MV := match x with
  | .int i => .ok (.int (-i)) h
  | _ => .wall
def fldM (P : Prg) (f : Nat) (x : MV) (h : MH) : R MV := match x with
  | .ref n => match h[n]? with
    | some (.ins c fs) => match P.cls[c]? with
      | some C => if (!C.exc && C.at_.contains f) = true then (match fs.lookup f with | some v => .ok v h | none => .wall) else .wall
      | none => .wall
    | some (.exc c v) => (match P.cls[c]? with
      | some C => if (C.exc && decide (f = P.vf)) = true then .ok v h else .wall
      | none => .wall)
    | _ => .wall
  | _ => .wall
def tyM (x : MV) (h : MH) : Option Cl := match x with
  | .non => some (.ty "NoneType") | .bl _ => some (.ty "bool") | .int _ => some (.ty "int") | .str _ => some (.ty "str") | .tup _ => some (.ty "tuple") | .scr _ => some (.ty "list")
  | .ref n => (match h[n]? with
    | some (.lst _) => some (.ty "list") | some (.dct _) => some (.ty "dict") | some (.ins c _) => some (.own c) | some (.exc c _) => some (.own c) | none => none)
  | .sym _ => none
/-- sorted(set(x)) of an empty list; max(x, default=y) of a list of one int -/
def ssetM (x : MV) (h : MH) : R MV := match x with
  | .ref n => (match h[n]? with | some (.lst []) => .ok (.ref h.length) (h ++ [.lst []]) | _ => .wall)
  | _ => .wall
def maxdM (x y : MV) (h : MH) : R MV := match x, y with
  | .ref n, .int _ => (match h[n]? with | some (.lst [.int i]) => .ok (.int i) h | _ => .wall)
  | _, _ => .wall
/-- a dict of no or one pair -/
def dspM (ks : List Key) (d : Nat) (xs : List MV) (h : MH) : R MV := match ks, xs with
  | [], [] => .ok (.ref d) h
  | [k], [x] => (match h[d]? with | some (.dct []) => .ok (.ref d) (h.set d (.dct [(k, x)])) | _ => .wall)
  | _, _ => .wall
def partI (v : MV) : Option Int := match v with | .int i => some i | _ => none
abbrev CallF := Nat → List MV → MH → R MV
section
variable (P : Prg) (cl : CallF)
def okT (x : MV) (h : MH) : Bool := match x with
  | .ref n => (match h[n]? with
    | some (.ins c _) => (match P.cls[c]? with | some C => !C.exc | none => false)
    | some (.exc c _) => (match P.cls[c]? with | some C => C.exc | none => false)
    | _ => true)
  | _ => true
def isiM (c : Cl) (x : MV) (h : MH) : R MV := match tyM x h with
  | some t => match P.isa t c with | some b => if okT P x h = true then .ok (.bl b) h else .wall | none => .wall
  | none => .wall
def mkeM (c : Nat) (v : MV) (h : MH) : R MV := match P.cls[c]? with
  | some C => if C.exc = true then .ok (.ref h.length) (h ++ [.exc c v]) else .wall
  | none => .wall
/-- f(..): what is not given is put in -/
def callM (f : Nat) (xs : List MV) (h : MH) : R MV := match P.fns[f]? with
  | some F => if xs.length = F.np then cl f xs h else if xs.length + F.dfs.length = F.np then cl f (xs ++ F.dfs) h else .wall
  | none => .wall
/-- a method: all is given -/
def callX (f : Nat) (xs : List MV) (h : MH) : R MV := match P.fns[f]? with
  | some F => if xs.length = F.np then cl f xs h else .wall
  | none => .wall
def makeM (c : Nat) (xs : List MV) (h : MH) : R MV := match P.cls[c]? with
  | some C => if C.exc then .wall else match P.fns[C.ini]? with
    | some F => if xs.length + 1 = F.np then (cl C.ini (.ref h.length :: xs) (h ++ [.ins c []])).bind fun v h' => (match v with | .non => .ok (.ref h.length) h' | _ => .wall) else .wall
    | none => .wall
  | none => .wall
def methM (m : Nat) (x : MV) (h : MH) : Option Nat := match x with
  | .ref n => match h[n]? with
    | some (.ins c fs) => match P.cls[c]? with
      | some C => if C.exc then none else match C.ms.lookup m with
        | some f => match fs.lookup m with | none => some f | some _ => none
        | none => none
      | none => none
    | _ => none
  | _ => none
/-- a part of a slice, given its reading -/
def evPof (e : ME) (r : Rho → MH → R MV) : Rho → MH → R (Option Int) := match e with
  | .no => fun _ h => .ok none h
  | _ => fun ρ h => (r ρ h).bind fun x h1 => match x with | .int i => .ok (some i) h1 | _ => .wall
mutual
def ev : ME → Rho → MH → R MV
  | .no, _, _ => .wall
  | .var i, ρ, h => match ρ[i]? with | some (some v) => .ok v h | _ => .wall
  | .cst v, _, h => .ok v h
  | .bin o a b, ρ, h => (ev a ρ h).bind fun x h1 => (ev b ρ h1).bind fun y h2 => o.run x y h2
  | .cmp o a b, ρ, h => (ev a ρ h).bind fun x h1 => (ev b ρ h1).bind fun y h2 => o.run x y h2
  | .chain o o' a b c, ρ, h => (ev a ρ h).bind fun x h1 => (ev b ρ h1).bind fun y h2 => (o.run x y h2).bind fun z h3 => match z with
    | .bl true => (ev c ρ h3).bind fun w h4 => o'.run y w h4
    | .bl false => .ok (.bl false) h3
    | _ => .wall
  | .and a b, ρ, h => (ev a ρ h).bind fun x h1 => match truM h1 x with | some true => ev b ρ h1 | some false => .ok x h1 | none => .wall
  | .or a b, ρ, h => (ev a ρ h).bind fun x h1 => match truM h1 x with | some true => .ok x h1 | some false => ev b ρ h1 | none => .wall
  | .not a, ρ, h => (ev a ρ h).bind fun x h1 => match truM h1 x with | some b => .ok (.bl (!b)) h1 | none => .wall
  | .ite t a b, ρ, h => (ev t ρ h).bind fun x h1 => match truM h1 x with | some true => ev a ρ h1 | some false => ev b ρ h1 | none => .wall
  | .neg a, ρ, h => (ev a ρ h).bind fun x h1 => negM x h1
  | .fld o f, ρ, h => (ev o ρ h).bind fun x h1 => fldM P f x h1
  | .ix a i, ρ, h => (ev a ρ h).bind fun x h1 => (ev i ρ h1).bind fun y h2 => ixM x y h2
  | .sl a lo hi, ρ, h => (ev a ρ h).bind fun x h1 => (evPof lo (ev lo) ρ h1).bind fun l h2 => (evPof hi (ev hi) ρ h2).bind fun u h3 => slM x l u h3
  | .tup es, ρ, h => (evs es ρ h).bind fun xs h1 => if xs.length ≤ SZ then .ok (.tup xs) h1 else .wall
  | .lst es, ρ, h => (evs es ρ h).bind fun xs h1 => if xs.length ≤ SZ then .ok (.ref h1.length) (h1 ++ [.lst xs]) else .wall
  | .dsp ks es, ρ, h => (evs es ρ (h ++ [.dct []])).bind fun xs h1 => dspM ks h.length xs h1
  | .call f es, ρ, h => (evs es ρ h).bind fun xs h1 => callM P cl f xs h1
  | .make c es, ρ, h => (evs es ρ h).bind fun xs h1 => makeM P cl c xs h1
  | .meth o m es, ρ, h => (ev o ρ h).bind fun x h1 => match methM P m x h1 with
    | some f => (evs es ρ h1).bind fun xs h2 => callX P cl f (x :: xs) h2
    | none => .wall
  | .bi b es, ρ, h => (evs es ρ h).bind fun xs h1 => b.run xs h1
  | .bm b o es, ρ, h => (ev o ρ h).bind fun x h1 => if b.recv x h1 then (evs es ρ h1).bind fun xs h2 => b.run x xs h2 else .wall
  | .isi e c, ρ, h => (ev e ρ h).bind fun x h1 => isiM P c x h1
  | .lc k es tg ifs elt own, ρ, h => (evs es ρ h).bind fun vs h1 => (srcM k vs h1).bind fun s h2 =>
      noEx (lcL s tg (evTs ifs) (ev elt) (wipeM ρ own) h2.length (s.many h2) 0 (h2 ++ [.lst []]))
  | .dc k es tg kx vx own, ρ, h => (evs es ρ h).bind fun vs h1 => (srcM k vs h1).bind fun s h2 =>
      noEx (dcL s tg (ev kx) (ev vx) (wipeM ρ own) h2.length (s.many h2) 0 (h2 ++ [.dct []]))
  | .mke c e, ρ, h => (ev e ρ h).bind fun x h1 => mkeM P c x h1
  | .sset e, ρ, h => (ev e ρ h).bind fun x h1 => ssetM x h1
  | .maxd e d, ρ, h => (ev e ρ h).bind fun x h1 => (ev d ρ h1).bind fun y h2 => maxdM x y h2
def evs : List ME → Rho → MH → R (List MV)
  | [], _, h => .ok [] h
  | e :: es, ρ, h => (ev e ρ h).bind fun x h1 => (evs es ρ h1).bind fun xs h2 => .ok (x :: xs) h2
/-- the tests of a comprehension -/
def evTs : List ME → Rho → MH → R Bool
  | [], _, h => .ok true h
  | [t], ρ, h => (ev t ρ h).bind fun x h1 => match truM h1 x with | some b => .ok b h1 | none => .wall
  | _ :: _ :: _, _, _ => .wall
end
/-- a part of a slice -/
def evP (e : ME) : Rho → MH → R (Option Int) := evPof e (ev P cl e)
end
end Mi
set_option maxHeartbeats 4000000
namespace Mi
open PySem PySem.Spec L2
variable [Th]

/-! ## weaker readings -/
section
variable {X : Cx} {e : Expr} {es : List Expr} {st : Stmt} {sts : List Stmt}
theorem PE.weak {t t' : TE} (h : PE X e t) (i : ∀ σ H Q, t' σ H Q → t σ H Q) : PE X e t' := ⟨fun pins s σ H Q I q => h.run pins s σ H Q I (i σ H Q q)⟩
theorem PT.weak {t t' : TT} (h : PT X e t) (i : ∀ σ H Q, t' σ H Q → t σ H Q) : PT X e t' := ⟨fun pins s σ H Q I q => h.run pins s σ H Q I (i σ H Q q)⟩
theorem PW.weak {t t' : TT} (h : PW X e t) (i : ∀ σ H Q, t' σ H Q → t σ H Q) : PW X e t' := ⟨fun wh pins s σ H Q I q => h.run wh pins s σ H Q I (i σ H Q q)⟩
theorem PA.weak {t t' : TA} (h : PA X es t) (i : ∀ σ H Q, t' σ H Q → t σ H Q) : PA X es t' := ⟨fun pos pins s σ H Q I q => h.run pos pins s σ H Q I (i σ H Q q)⟩
theorem PS.weak {t t' : TS} (h : PS X st t) (i : ∀ D σ H, t' D σ H → t D σ H) : PS X st t' := ⟨fun pins s σ H D I q => h.run pins s σ H D I (i D σ H q)⟩
theorem PSs.weak {t t' : TS} (h : PSs X sts t) (i : ∀ D σ H, t' D σ H → t D σ H) : PSs X sts t' := ⟨fun pins s σ H D I q => h.run pins s σ H D I (i D σ H q)⟩
theorem PI.weak {tg it : Expr} {t t' : TI} (h : PI X tg it t) (i : ∀ σ H R, t' σ H R → t σ H R) : PI X tg it t' := ⟨fun pins s σ H R I q => h.run pins s σ H R I (i σ H R q)⟩
end

/-! ## readings of each construct -/
def evT (f : Rho → MH → R MV) : Rho → MH → R Bool := fun ρ h => (f ρ h).bind fun x h1 => match truM h1 x with | some b => .ok b h1 | none => .wall
section
variable {K : PySem.W.Frag} {GC : Gn} {P : Prg} {cl : CallF} {W : WX} {σ : L2.St} {μ μ1 : List Addr} {H H1 : Hp} {ρ : Rho} {h : MH} {Q : VK} {a b c t o i : ME} {es : List ME}
theorem t_var {i : Nat} (t : tE K GC W (ev P cl (.var i)) σ H Q) : tVar i σ H Q := by
  obtain ⟨μ, ρ, h, rs, rh, c⟩ := t
  unfold ev at c
  split at c
  · rename_i v e
    obtain ⟨w, ew, rw'⟩ := rs.2 i v e
    exact ⟨w, ew, Ct.ok c rh rw'⟩
  · exact c.elim
theorem t_cst {v : MV} {w : V} (r : ∀ μ H, RV K μ H v w) (t : tE K GC W (ev P cl (.cst v)) σ H Q) : tC w σ H Q := by
  obtain ⟨μ, ρ, h, rs, rh, c⟩ := t
  unfold ev at c
  exact Ct.ok c rh (r μ H)
theorem t_or (t : tE K GC W (ev P cl (.or a b)) σ H Q) : tOrT K (tE K GC W (ev P cl a)) (tE K GC W (ev P cl b)) σ H Q := by
  obtain ⟨μ, ρ, h, rs, rh, c⟩ := t
  unfold ev at c
  refine tM_imp (tM_bind (f := ev P cl a) (Rel := RelE K) rs rh c) fun v H1 ⟨μ1, x, h1, e1, k1, rs1, rh1, r1, c1⟩ => ?_
  split at c1
  · rename_i et
    exact ⟨true, truM_V rh1 r1 et, by rw [if_pos rfl]; exact Ct.ok c1 rh1 r1⟩
  · rename_i et
    exact ⟨false, truM_V rh1 r1 et, by rw [if_neg Bool.false_ne_true]; exact ⟨μ1, ρ, h1, rs1, rh1, c1⟩⟩
  · exact c1.elim
theorem t_and (t : tE K GC W (ev P cl (.and a b)) σ H Q) : tAndT K (tE K GC W (ev P cl a)) (tE K GC W (ev P cl b)) σ H Q := by
  obtain ⟨μ, ρ, h, rs, rh, c⟩ := t
  unfold ev at c
  refine tM_imp (tM_bind (f := ev P cl a) (Rel := RelE K) rs rh c) fun v H1 ⟨μ1, x, h1, e1, k1, rs1, rh1, r1, c1⟩ => ?_
  split at c1
  · rename_i et
    exact ⟨true, truM_V rh1 r1 et, by rw [if_pos rfl]; exact ⟨μ1, ρ, h1, rs1, rh1, c1⟩⟩
  · rename_i et
    exact ⟨false, truM_V rh1 r1 et, by rw [if_neg Bool.false_ne_true]; exact Ct.ok c1 rh1 r1⟩
  · exact c1.elim
theorem t_not (t : tE K GC W (ev P cl (.not a)) σ H Q) : tNotT K (tE K GC W (ev P cl a)) σ H Q := by
  obtain ⟨μ, ρ, h, rs, rh, c⟩ := t
  unfold ev at c
  refine tM_imp (tM_bind (f := ev P cl a) (Rel := RelE K) rs rh c) fun v H1 ⟨μ1, x, h1, e1, k1, rs1, rh1, r1, c1⟩ => ?_
  split at c1
  · rename_i et
    exact ⟨_, truM_V rh1 r1 et, Ct.ok c1 rh1 (.bl _)⟩
  · exact c1.elim
/-- a test of any value -/
theorem t_tru {f : Rho → MH → R MV} {Q : Bool → Hp → Prop} (t : tT K GC W (evT f) σ H Q) : tE K GC W f σ H fun x H1 => ∃ k, TruV K x H1 k ∧ Q k H1 := by
  obtain ⟨μ, ρ, h, rs, rh, c⟩ := t
  refine tM_imp (tM_bind (f := f) (Rel := RelE K) rs rh c) fun v H1 ⟨μ1, x, h1, e1, k1, rs1, rh1, r1, c1⟩ => ?_
  split at c1
  · rename_i et
    exact ⟨_, truM_V rh1 r1 et, Ct.ok c1 rh1 rfl⟩
  · exact c1.elim
theorem evT_and (ρ : Rho) (h : MH) : evT (ev P cl (.and a b)) ρ h = (evT (ev P cl a) ρ h).bind fun x h1 => if x = true then evT (ev P cl b) ρ h1 else .ok false h1 := by
  unfold evT
  rw [ev]
  cases e : ev P cl a ρ h with
  | ok x h1 =>
    show R.bind (match truM h1 x with | some true => ev P cl b ρ h1 | some false => .ok x h1 | none => .wall) _ = R.bind (match truM h1 x with | some b => .ok b h1 | none => .wall) _
    cases et : truM h1 x with
    | none => rfl
    | some k =>
      cases k with
      | true => rfl
      | false =>
        show (match truM h1 x with | some b => R.ok b h1 | none => .wall) = _
        rw [et]
        rfl
  | ex cc v h1 => rfl
  | wall => rfl
theorem evT_or (ρ : Rho) (h : MH) : evT (ev P cl (.or a b)) ρ h = (evT (ev P cl a) ρ h).bind fun x h1 => if x = true then .ok true h1 else evT (ev P cl b) ρ h1 := by
  unfold evT
  rw [ev]
  cases e : ev P cl a ρ h with
  | ok x h1 =>
    show R.bind (match truM h1 x with | some true => .ok x h1 | some false => ev P cl b ρ h1 | none => .wall) _ = R.bind (match truM h1 x with | some b => .ok b h1 | none => .wall) _
    cases et : truM h1 x with
    | none => rfl
    | some k =>
      cases k with
      | false => rfl
      | true =>
        show (match truM h1 x with | some b => R.ok b h1 | none => .wall) = _
        rw [et]
        rfl
  | ex cc v h1 => rfl
  | wall => rfl
theorem evT_not (ρ : Rho) (h : MH) : evT (ev P cl (.not a)) ρ h = (evT (ev P cl a) ρ h).bind fun x h1 => .ok (!x) h1 := by
  unfold evT
  rw [ev]
  cases e : ev P cl a ρ h with
  | ok x h1 =>
    show R.bind (match truM h1 x with | some b => R.ok (MV.bl (!b)) h1 | none => R.wall) _ = R.bind (match truM h1 x with | some b => R.ok b h1 | none => R.wall) _
    cases et : truM h1 x <;> rfl
  | ex cc v h1 => rfl
  | wall => rfl
theorem evT_ite (ρ : Rho) (h : MH) : evT (ev P cl (.ite t a b)) ρ h = (evT (ev P cl t) ρ h).bind fun x h1 => if x = true then evT (ev P cl a) ρ h1 else evT (ev P cl b) ρ h1 := by
  unfold evT
  rw [ev]
  cases e : ev P cl t ρ h with
  | ok x h1 =>
    show R.bind (match truM h1 x with | some true => ev P cl a ρ h1 | some false => ev P cl b ρ h1 | none => .wall) _ = R.bind (match truM h1 x with | some b => .ok b h1 | none => .wall) _
    cases et : truM h1 x with
    | none => rfl
    | some k => cases k <;> rfl
  | ex cc v h1 => rfl
  | wall => rfl
theorem tt_and {Q : Bool → Hp → Prop} (t : tT K GC W (evT (ev P cl (.and a b))) σ H Q) : tAnd (tT K GC W (evT (ev P cl a))) (tT K GC W (evT (ev P cl b))) σ H Q := by
  obtain ⟨μ, ρ, h, rs, rh, c⟩ := t
  rw [evT_and] at c
  refine tM_imp (tM_bind (f := evT (ev P cl a)) (Rel := RelT) rs rh c) fun v H1 ⟨μ1, x, h1, e1, k1, rs1, rh1, r1, c1⟩ => ?_
  obtain rfl : x = v := r1
  cases x with
  | true => rw [if_pos rfl] at c1 ⊢; exact ⟨μ1, ρ, h1, rs1, rh1, c1⟩
  | false => rw [if_neg Bool.false_ne_true] at c1 ⊢; exact Ct.ok c1 rh1 rfl
theorem tt_or {Q : Bool → Hp → Prop} (t : tT K GC W (evT (ev P cl (.or a b))) σ H Q) : tOr (tT K GC W (evT (ev P cl a))) (tT K GC W (evT (ev P cl b))) σ H Q := by
  obtain ⟨μ, ρ, h, rs, rh, c⟩ := t
  rw [evT_or] at c
  refine tM_imp (tM_bind (f := evT (ev P cl a)) (Rel := RelT) rs rh c) fun v H1 ⟨μ1, x, h1, e1, k1, rs1, rh1, r1, c1⟩ => ?_
  obtain rfl : x = v := r1
  cases x with
  | true => rw [if_pos rfl] at c1 ⊢; exact Ct.ok c1 rh1 rfl
  | false => rw [if_neg Bool.false_ne_true] at c1 ⊢; exact ⟨μ1, ρ, h1, rs1, rh1, c1⟩
theorem tt_not {Q : Bool → Hp → Prop} (t : tT K GC W (evT (ev P cl (.not a))) σ H Q) : tNot (tT K GC W (evT (ev P cl a))) σ H Q := by
  obtain ⟨μ, ρ, h, rs, rh, c⟩ := t
  rw [evT_not] at c
  refine tM_imp (tM_bind (f := evT (ev P cl a)) (Rel := RelT) rs rh c) fun v H1 ⟨μ1, x, h1, e1, k1, rs1, rh1, r1, c1⟩ => ?_
  obtain rfl : x = v := r1
  exact Ct.ok c1 rh1 rfl
theorem t_ite (t0 : tE K GC W (ev P cl (.ite t a b)) σ H Q) : tIf (tT K GC W (evT (ev P cl t))) (tE K GC W (ev P cl a)) (tE K GC W (ev P cl b)) σ H Q := by
  obtain ⟨μ, ρ, h, rs, rh, c⟩ := t0
  have e : ev P cl (.ite t a b) ρ h = (evT (ev P cl t) ρ h).bind fun x h1 => if x = true then ev P cl a ρ h1 else ev P cl b ρ h1 := by
    rw [ev]
    unfold evT
    cases e : ev P cl t ρ h with
    | ok x h1 =>
      show (match truM h1 x with | some true => ev P cl a ρ h1 | some false => ev P cl b ρ h1 | none => .wall) = R.bind (match truM h1 x with | some b => .ok b h1 | none => .wall) _
      cases et : truM h1 x with
      | none => rfl
      | some k => cases k <;> rfl
    | ex cc v h1 => rfl
    | wall => rfl
  rw [e] at c
  refine tM_imp (tM_bind (f := evT (ev P cl t)) (Rel := RelT) rs rh c) fun v H1 ⟨μ1, x, h1, e1, k1, rs1, rh1, r1, c1⟩ => ?_
  obtain rfl : x = v := r1
  cases x with
  | true => rw [if_pos rfl] at c1 ⊢; exact ⟨μ1, ρ, h1, rs1, rh1, c1⟩
  | false => rw [if_neg Bool.false_ne_true] at c1 ⊢; exact ⟨μ1, ρ, h1, rs1, rh1, c1⟩
/-- a chain -/
theorem t_chain {o o' : Cop} {r r' : R2} (h1 : Op2 K GC o.run r) (h2 : Op2 K GC o'.run r') (t : tE K GC W (ev P cl (.chain o o' a b c)) σ H Q) : tChain r r' (tE K GC W (ev P cl a)) (tE K GC W (ev P cl b)) (tE K GC W (ev P cl c)) σ H Q := by
  obtain ⟨μ, ρ, h, rs, rh, c0⟩ := t
  unfold ev at c0
  refine tM_imp (tM_bind (f := ev P cl a) (Rel := RelE K) rs rh c0) fun v H1 ⟨μ1, x, hh1, e1, k1, rs1, rh1, r1, c1⟩ => ?_
  refine tM_imp (tM_bind (f := ev P cl b) (Rel := RelE K) rs1 rh1 c1) fun u H2 ⟨μ2, y, hh2, e2, k2, rs2, rh2, r2, c2⟩ => ?_
  refine h1 W σ μ2 H2 hh2 x y v u _ rh2 (r1.mono e2 k2) r2 ?_
  cases e : o.run x y hh2 with
  | wall => rw [e] at c2; exact c2
  | ex cc v h1 => rw [e] at c2; exact c2
  | ok z h3 =>
    rw [e] at c2
    intro μ' H' z' e' k' rh' rz
    have c3 := Ct.mono c2 e' k'
    cases rz <;> first | exact False.elim c3 | skip
    rename_i k
    refine ⟨k, rfl, ?_⟩
    cases k with
    | true =>
      have c4 : Ct K GC W σ μ' H' (RelE K) Q ((ev P cl c ρ h3).bind fun w h4 => o'.run y w h4) := c3
      rw [if_pos rfl]
      exact tM_imp (tM_bind (f := ev P cl c) (Rel := RelE K) (rs2.mono e' k') rh' c4) fun w H4 ⟨μ4, ww, hh4, e4, k4, rs4, rh4, r4, c5⟩ => h2 W σ μ4 H4 hh4 y ww u w Q rh4 ((r2.mono e' k').mono e4 k4) r4 c5
    | false =>
      have c4 : Ct K GC W σ μ' H' (RelE K) Q (.ok (.bl false) h3) := c3
      rw [if_neg Bool.false_ne_true]
      exact Ct.ok c4 rh' (.bl _)
/-- arguments -/
theorem t_nil {Q : List V → Hp → Prop} (t : tA K GC W (evs P cl []) σ H Q) : tNil σ H Q := by
  obtain ⟨μ, ρ, h, rs, rh, c⟩ := t
  unfold evs at c
  exact Ct.ok c rh RVs.nil
theorem t_cons {Q : List V → Hp → Prop} (t : tA K GC W (evs P cl (a :: es)) σ H Q) : tCons (tE K GC W (ev P cl a)) (tA K GC W (evs P cl es)) σ H Q := by
  obtain ⟨μ, ρ, h, rs, rh, c⟩ := t
  unfold evs at c
  refine tM_imp (tM_bind (f := ev P cl a) (Rel := RelE K) rs rh c) fun v H1 ⟨μ1, x, h1, e1, k1, rs1, rh1, r1, c1⟩ => ?_
  refine tM_imp (tM_bind (f := evs P cl es) (Rel := RelA K) rs1 rh1 c1) fun u H2 ⟨μ2, y, h2, e2, k2, rs2, rh2, r2, c2⟩ => ?_
  exact Ct.ok (b := v :: u) c2 rh2 (RVs.cons (r1.mono e2 k2) r2)
theorem t_tup (t : tE K GC W (ev P cl (.tup es)) σ H Q) : tTup (tA K GC W (evs P cl es)) σ H Q := by
  obtain ⟨μ, ρ, h, rs, rh, c⟩ := t
  unfold ev at c
  refine tM_imp (tM_bind (f := evs P cl es) (Rel := RelA K) rs rh c) fun v H1 ⟨μ1, x, h1, e1, k1, rs1, rh1, r1, c1⟩ => ?_
  split at c1
  · rename_i z
    exact ⟨by rw [← r1.length, SZ_eq]; exact z, fun p hp => Ct.tup c1 rh1 hp r1⟩
  · exact c1.elim
theorem t_lst (t : tE K GC W (ev P cl (.lst es)) σ H Q) : tLst (tA K GC W (evs P cl es)) σ H Q := by
  obtain ⟨μ, ρ, h, rs, rh, c⟩ := t
  unfold ev at c
  refine tM_imp (tM_bind (f := evs P cl es) (Rel := RelA K) rs rh c) fun v H1 ⟨μ1, x, h1, e1, k1, rs1, rh1, r1, c1⟩ => ?_
  split at c1
  · rename_i z
    exact ⟨by rw [← r1.length, SZ_eq]; exact z, fun p hp => Ct.lst c1 rh1 hp r1⟩
  · exact c1.elim
/-- a method of a built-in type -/
theorem t_bm {bb : Bm} {T : String} {r : V → List V → Hp → VK → Prop} (hr : Mt K GC bb.run r) (ht : ∀ μ H h x v, RH K GC μ h H → RV K μ H x v → bb.recv x h = true → tyV K T v H)
    (t : tE K GC W (ev P cl (.bm bb o es)) σ H Q) : tBM K T r (tE K GC W (ev P cl o)) (tA K GC W (evs P cl es)) σ H Q := by
  obtain ⟨μ, ρ, h, rs, rh, c⟩ := t
  unfold ev at c
  refine tM_imp (tM_bind (f := ev P cl o) (Rel := RelE K) rs rh c) fun v H1 ⟨μ1, x, h1, e1, k1, rs1, rh1, r1, c1⟩ => ?_
  split at c1
  · rename_i z
    refine ⟨ht μ1 H1 h1 x v rh1 r1 z, ?_⟩
    exact tM_imp (tM_bind (f := evs P cl es) (Rel := RelA K) rs1 rh1 c1) fun u H2 ⟨μ2, y, h2, e2, k2, rs2, rh2, r2, c2⟩ => hr W σ μ2 H2 h2 x v y u Q rh2 (r1.mono e2 k2) r2 c2
  · exact c1.elim
theorem recv_str {bb : Bm} (hb : bb ≠ .append ∧ bb ≠ .extend) : ∀ (μ : List Addr) (H : Hp) (h : MH) (x : MV) (v : V), RH K GC μ h H → RV K μ H x v → bb.recv x h = true → tyV K "str" v H := by
  intro μ H h x v rh rx e
  cases bb <;> first | exact absurd rfl hb.1 | exact absurd rfl hb.2 | (cases rx <;> first | rfl | cases e)
theorem recv_lst {bb : Bm} (hb : bb = .append ∨ bb = .extend) : ∀ (μ : List Addr) (H : Hp) (h : MH) (x : MV) (v : V), RH K GC μ h H → RV K μ H x v → bb.recv x h = true → tyV K "list" v H := by
  intro μ H h x v rh rx e
  have go : ∀ n a, μ[n]? = some a → isLst n h = true → tyV K "list" (.ref a) H := fun n a ha e' => by
    unfold isLst at e'
    split at e'
    · rename_i xs eh
      obtain ⟨vs, q, _⟩ := rh.lst ha eh
      exact .inl ⟨rfl, vs, SqL.of q⟩
    · cases e'
  rcases hb with rfl | rfl <;> (cases rx <;> first | cases e | exact go _ _ (by assumption) e)
/-- a part of a slice -/
theorem t_noPart {Q : Option Int → Hp → Prop} (t : tM K GC (fun _ _ a b => a = b) W (evP P cl .no) σ H Q) : tNoPart σ H Q := by
  obtain ⟨μ, ρ, h, rs, rh, c⟩ := t
  unfold evP evPof at c
  exact Ct.ok c rh rfl
theorem evP_some (hn : a ≠ .no) (ρ : Rho) (h : MH) : evP P cl a ρ h = (ev P cl a ρ h).bind fun x h1 => match x with | .int i => .ok (some i) h1 | _ => .wall := by
  cases a <;> first | exact absurd rfl hn | (unfold evP evPof; rfl)
theorem t_part {Q : Option Int → Hp → Prop} (hn : a ≠ .no) (t : tM K GC (fun _ _ a b => a = b) W (evP P cl a) σ H Q) : tPart (tE K GC W (ev P cl a)) σ H Q := by
  obtain ⟨μ, ρ, h, rs, rh, c⟩ := t
  rw [evP_some hn] at c
  refine tM_imp (tM_bind (f := ev P cl a) (Rel := RelE K) rs rh c) fun v H1 ⟨μ1, x, h1, e1, k1, rs1, rh1, r1, c1⟩ => ?_
  cases r1 <;> first | exact c1.elim | exact ⟨_, rfl, Ct.ok c1 rh1 rfl⟩
theorem t_sl {lo hi : ME} (t : tE K GC W (ev P cl (.sl a lo hi)) σ H Q) : tSl (rSlM K) (tE K GC W (ev P cl a)) (tM K GC (fun _ _ a b => a = b) W (evP P cl lo)) (tM K GC (fun _ _ a b => a = b) W (evP P cl hi)) σ H Q := by
  obtain ⟨μ, ρ, h, rs, rh, c⟩ := t
  unfold ev at c
  refine tM_imp (tM_bind (f := ev P cl a) (Rel := RelE K) rs rh c) fun v H1 ⟨μ1, x, h1, e1, k1, rs1, rh1, r1, c1⟩ => ?_
  refine tM_imp (tM_bind (f := evP P cl lo) (Rel := fun _ _ a b => a = b) rs1 rh1 c1) fun l H2 ⟨μ2, l', h2, e2, k2, rs2, rh2, r2, c2⟩ => ?_
  subst r2
  refine tM_imp (tM_bind (f := evP P cl hi) (Rel := fun _ _ a b => a = b) rs2 rh2 c2) fun u H3 ⟨μ3, u', h3, e3, k3, rs3, rh3, r3, c3⟩ => ?_
  subst r3
  exact o_sl rh3 ((r1.mono e2 k2).mono e3 k3) c3
end
end Mi
set_option maxHeartbeats 4000000
namespace Mi
open PySem PySem.Spec L2
variable [Th]

/-! ## what the written part must say -/
def spM (K : PySem.W.Frag) (GC : Gn) (np : Nat) (f : List MV → MH → R MV) : Sp := fun vs H Q E => vs.length = np ∧ ∃ μ xs h, RH K GC μ h H ∧ RVs K μ H xs vs ∧ Ct K GC (fun cls d _ H => E cls d H) [] μ H (RelE K) Q (f xs h)
/-- the def at a keeps the small machine's promise -/
structure FnW (P0 : Program) (w : World) (K : PySem.W.Frag) (mg : Str → Option Value) (base : Heap) (k : Nat) (GC : Gn) (F : Fn) (r : List MV → MH → R MV) (a : Addr) : Prop where
  ex : ∃ (fd : FuncData) (ps : List Str), FnOk P0 w K mg base (L2.CX P0 w) k a fd ps (spM K GC F.np r) ∧ ps.length = F.np ∧ Binds K fd ps [] ∧
    ∃ (dvs : List V) (ds : List Value), Binds K fd ps ds ∧ Vals dvs ds ∧ ∀ μ H, RVs K μ H F.dfs dvs
structure ClsW (P0 : Program) (w : World) (K : PySem.W.Frag) (mg : Str → Option Value) (base : Heap) (k : Nat) (GC : Gn) (P : Prg) (cl : CallF) (c : Nat) (C : CI) : Prop where
  cls : Cls K (GC.C c)
  kha : PySem.W.findIn K (.ref (GC.C c)) "__class__" = some (some (.builtin "object.__class__"))
  khn : PySem.W.specialIn K (.builtin "object.__class__") "__get__" = some (some (.builtin "getset_descriptor.__get__"))
  kht : PySem.W.takesIn K (.builtin "object.__class__") = some true
  khm : PySem.W.mroIn K (GC.C c) (.type "object") = some true
  attr : ∀ f, C.at_.contains f = true → ∃ nm, GC.NM[f]? = some nm ∧ NoAttr K (GC.C c) nm
  meth : ∀ m g, C.ms.lookup m = some g → ∃ nm a F, GC.NM[m]? = some nm ∧ Meth K (GC.C c) nm a ∧ P.fns[g]? = some F ∧ FnW P0 w K mg base k GC F (cl g) a
  init : ∀ F, P.fns[C.ini]? = some F → ∃ a, Mk K (GC.C c) a ∧ FnW P0 w K mg base k GC F (cl C.ini) a
/-- __init__(self, value) of the exceptions -/
def spI (K : PySem.W.Frag) : Sp := fun vs H Q _ => ∃ (a C : Addr) (v : V), vs = [.ref a, v] ∧ OexC K C ∧ PySem.W.findIn K (.ref C) "value" = some none ∧ H a = some (exo a C none) ∧
  ∀ dx, H dx = none → dx ≠ a → Q .non (upd (upd H dx (exd dx [("value", v)])) a (exo a C (some dx)))
structure ExcW (P0 : Program) (w : World) (K : PySem.W.Frag) (mg : Str → Option Value) (base : Heap) (k : Nat) (C : Addr) : Prop where
  oex : OexC K C
  noV : PySem.W.findIn K (.ref C) "value" = some none
  xf : XfC K C
  exC : ExcC K C
  ini : ∃ (fI : Addr) (fd : FuncData) (ps : List Str), PySem.W.findIn K (.ref C) "__init__" = some (some (.ref fI)) ∧ PySem.W.typeIn K (.ref fI) = some (.type "function") ∧
    FnOk P0 w K mg base (L2.CX P0 w) k fI fd ps (spI K) ∧ Binds K fd ps []
/-- names for indices -/
structure GT where
  fns : List (Option Str)
  cls : List Str
  consts : List (Str × MV)
structure Wd (T : GT) (P : Prg) (cl : CallF) (GC : Gn) (k : Nat) (P0 : Program) (w : World) (K : PySem.W.Frag) (mg : Str → Option Value) (base : Heap) : Prop where
  nm : GC.NM.Nodup
  vf : GC.NM[P.vf]? = some "value"
  free : ∀ x ∈ (["len", "abs", "any", "all", "isinstance", "enumerate", "zip", "range", "int", "str", "tuple", "list", "bool", "dict", "ValueError", "sorted", "set", "max", "min"] : List Str), mg x = none
  fn : ∀ f x F, T.fns[f]? = some (some x) → P.fns[f]? = some F → ∃ a, mg x = some (.ref a) ∧ PySem.W.keepIn K (.ref a) = true ∧ FnW P0 w K mg base k GC F (cl f) a
  cls : ∀ c x C, T.cls[c]? = some x → P.cls[c]? = some C → mg x = some (.ref (GC.C c))
  clsW : ∀ c C, P.cls[c]? = some C → C.exc = false → ClsW P0 w K mg base k GC P cl c C
  excW : ∀ c C, P.cls[c]? = some C → C.exc = true → ExcW P0 w K mg base k (GC.C c)
  con : ∀ x v, T.consts.lookup x = some v → ∃ u v', mg x = some u ∧ RelV v' u ∧ ∀ μ H, RV K μ H v v'
  isa : ∀ t c b, P.isa t c = some b → PySem.W.kitOne K (match t with | .ty n => .type n | .own i => .ref (GC.C i)) (match c with | .ty n => .type n | .own i => .ref (GC.C i)) = some b
  eqS : ∀ X : Cx, X.prog = P0 → X.w = w → X.K = K → X.mg = mg → X.base = base → X.calm = true → Room (k + 1) X.A → OpR X (compareOp .Eq) rSelf
  isaC : ∀ c C, P.cls[c]? = some C → C.exc = false → ∀ t b, P.isa (.own c) t = some b → True

/-! ## calls whose exceptions are wished for at the slots -/
section
variable {X : Cx} {CX : CXT} {k : Nat} {f C : Addr} {fd : FuncData} {ps : List Str} {sp : Sp} {dvs : List V} {ds : List Value} {E : St → XK} {x m : Str} {p pos apos : Pos} {e o : Expr} {es : List Expr} {ta : TE} {t : TA}
theorem pe_call0SD (F : FnOk X.prog X.w X.K X.mg X.base CX k f fd ps sp) (hr : Room k X.A) (hg : Gl X x) (hm : X.mg x = some (.ref f)) (hk : PySem.W.keepIn X.K (.ref f) = true) (hb : Binds X.K fd ps ds) (hd : Vals dvs ds) (hx : ∀ σ, PassesAt CX X σ (E σ))
    (hdb : (x == ("__debug__" : Str)) = false) : PE X (.Call (.Name x p) [] [] pos) (tCallSD sp dvs E tNil) := by
  refine ⟨fun pins s σ H Q I h => ?_⟩
  refine wpAny_Call_Name_kw (ld_glob I hg hm ?_ hdb)
  exact PySem.W.callWith_K0 I.kIn hk (run_fnSD (us := []) F hr hb hd (hx σ) I .nil h)
/-- the tree of a method call on one line -/
theorem meth_tree (hbase : attributeBase o m X.env (eval o X.env) = eval o X.env) (hf : methodCallForm (es.length + 0) (backTo pos (starEach es X.env)) (backToKw pos (keywordEach [] X.env)) = true) (hl : (apos.endLine == pos.line) = true) :
    eval (.Call (.Attribute o m apos) es [] pos) X.env = (do
      let ov ← eval o X.env
      standAt apos.atName
      let (f, first) ← holding [ov] (getMethod ov m (plainOf o X.env))
      callWith pos f first (backTo pos (starEach es X.env)) (backToKw pos (keywordEach [] X.env))) := by
  have e : eval (.Call (.Attribute o m apos) es [] pos) X.env = (do
      let ov ← attributeBase o m X.env (eval o X.env)
      standAt apos.atName
      methodCall o m apos pos X.env ov (es.length + 0) (backTo pos (starEach es X.env)) (backToKw pos (keywordEach [] X.env))) := by rfl
  rw [e, hbase]
  congr 1
  funext ov
  congr 1
  funext _
  exact mcall_line hf hl
/-- what a method of a class must keep -/
def OkM (X : Cx) (k : Nat) (m : Str) (C g : Addr) (sp : Sp) : Prop := Cls X.K C ∧ Meth X.K C m g ∧ ∃ (fd : FuncData) (ps : List Str), FnOk X.prog X.w X.K X.mg X.base (L2.CX X.prog X.w) k g fd ps sp ∧ Binds X.K fd ps []
def tMethD (X : Cx) (k : Nat) (m : Str) (W : WX) (ta : TE) (t : TA) : TE := fun σ H Q => ta σ H fun x H1 => ∃ a C dx fs g sp, x = .ref a ∧ H1 a = some (.ins C dx fs) ∧ fs.lookup m = none ∧ OkM X k m C g sp ∧ t σ H1 fun vs H2 => sp (x :: vs) H2 Q (WE W σ)
theorem pe_methD {W : WX} (tk : Takes X W) (he : PE X o ta) (hr : Room k X.A) (ha : PA X (e :: es) t)
    (hst : starEach (e :: es) X.env = (false, eval e X.env) :: starEach es X.env) (hpl : (backTo pos (starEach es X.env)).any (·.1) = false)
    (ht : eval (.Call (.Attribute o m apos) (e :: es) [] pos) X.env = (do
      let ov ← eval o X.env
      standAt apos.atName
      let (f, first) ← holding [ov] (getMethod ov m (plainOf o X.env))
      callWith pos f first (backTo pos (starEach (e :: es) X.env)) (backToKw pos (keywordEach [] X.env)))) :
    PE X (.Call (.Attribute o m apos) (e :: es) [] pos) (tMethD X k m W ta t) := by
  refine ⟨fun pins s σ H Q I h => ?_⟩
  refine PySem.W.methodCall_KW (pl := plainOf o X.env) (thn (he.run pins s σ H _ I h) fun u s1 ⟨x, H1, I1, rx, a, C, dx, fs, g, sp, ex, ea, l, ⟨c, hM, fd, ps, F, hb⟩, q⟩ => ?_) ht
  subst ex
  obtain rfl : u = Value.ref a := rx
  refine getmeth_ok I1 ea c hM l ?_
  refine PySem.W.callWith_K (first := [.ref a]) (h₀ := X.base) I.ok.mod.kin hM.kp (thn (ha.run pos pins s1 σ H1 _ I1 q) fun us s2 ⟨vs, H2, I2, r, q2⟩ => ⟨I2.kIn, ?_⟩) hst hpl
  exact run_fnSD (us := .ref a :: us) (vs := .ref a :: vs) (dvs := []) (ds := []) (E := WE W) F hr hb .nil (passAt tk σ) I2 (.cons rfl r) (by rw [List.append_nil]; exact q2)
theorem pe_methD0 {W : WX} (tk : Takes X W) (he : PE X o ta) (hr : Room k X.A)
    (ht : eval (.Call (.Attribute o m apos) [] [] pos) X.env = (do
      let ov ← eval o X.env
      standAt apos.atName
      let (f, first) ← holding [ov] (getMethod ov m (plainOf o X.env))
      callWith pos f first (backTo pos (starEach [] X.env)) (backToKw pos (keywordEach [] X.env)))) :
    PE X (.Call (.Attribute o m apos) [] [] pos) (tMethD X k m W ta tNil) := by
  refine ⟨fun pins s σ H Q I h => ?_⟩
  refine PySem.W.methodCall_KW (pl := plainOf o X.env) (thn (he.run pins s σ H _ I h) fun u s1 ⟨x, H1, I1, rx, a, C, dx, fs, g, sp, ex, ea, l, ⟨c, hM, fd, ps, F, hb⟩, q⟩ => ?_) ht
  subst ex
  obtain rfl : u = Value.ref a := rx
  refine getmeth_ok I1 ea c hM l ?_
  have q' : sp [.ref a] H1 Q (WE W σ) := q
  exact PySem.W.callWith_K0 (first := [.ref a]) I1.kIn hM.kp (run_fnSD (us := [.ref a]) (vs := [.ref a]) (dvs := []) (ds := []) (E := WE W) F hr hb .nil (passAt tk σ) I1 (.cons rfl .nil) (by rw [List.append_nil]; exact q'))
/-- C(e, ..) -/
def tMakeSD (C : Addr) (sp : Sp) (E : St → XK) (t : TA) : TE := fun σ H Q => t σ H fun vs H1 => ∀ x dx, H1 x = none → H1 dx = none → dx ≠ x → sp (.ref x :: vs) (upd (upd H1 dx (.own x)) x (.ins C dx [])) (fun v H2 => v = .non ∧ Q (.ref x) H2) (E σ)
theorem run_makeSD {pins : List (Addr × Obj)} {σ : St} {H : Hp} {s : Shared} {Q : VK} {us : List Value} {vs : List V} (M : Mk X.K C f) (F : FnOk X.prog X.w X.K X.mg X.base CX k f fd ps sp) (hr : Room (k + 1) X.A) (hb : Binds X.K fd ps [])
    (hx : PassesAt CX X σ (E σ)) (I : Inv X pins σ H s) (r : Vals vs us)
    (h : ∀ x dx, H x = none → H dx = none → dx ≠ x → sp (.ref x :: vs) (upd (upd H dx (.own x)) x (.ins C dx [])) (fun v H2 => v = .non ∧ Q (.ref x) H2) (E σ)) :
    wpAny (model X.prog X.w) X.A (call (.ref C) us) (EP X pins σ Q) X.xe s := by
  have hq := h (s.heap.objs.size + 1) s.heap.objs.size (I.hok.fresh (Nat.le_succ _)) (I.hok.fresh (Nat.le_refl _)) (Nat.ne_of_lt (Nat.lt_succ_self _))
  have I2 := Inv.made (C := C) I
  have r2 : Vals (V.ref (s.heap.objs.size + 1) :: vs) (Value.ref (s.heap.objs.size + 1) :: us) := .cons rfl r
  have hl : ((Value.ref (s.heap.objs.size + 1) :: us) ++ []).length = ps.length := by
    have e := r2.length
    rw [F.len _ _ _ _ hq] at e
    rw [List.append_nil]
    exact e.symm
  have hbb := hb _ (Value.ref (s.heap.objs.size + 1) :: us) I2.kIn hl
  rw [List.append_nil] at hbb
  refine wpAny_call (make_map (f := f) I.kIn M.makes M.init (beq_iff_eq.mp M.fn) (codeAny_mono (F.run _ X.stack _ _ ⟨Value.ref (s.heap.objs.size + 1) :: us, []⟩ (Value.ref (s.heap.objs.size + 1) :: us) _ _ (E σ) (hr.make C us [])
    (I2.env0.make C us []) hbb r2 hq) fun r s' hq' => ?_))
  cases r with
  | error e => exact hx pins _ _ e s' I2 hq'
  | ok fl =>
    cases fl with
    | ret u =>
      obtain ⟨v, H', I3, rv, ev, q3⟩ := I2.after hq'
      subst ev
      exact ⟨rv, ⟨V.ref (s.heap.objs.size + 1), H', I3, rfl, q3⟩⟩
    | next => exact False.elim hq'
    | brk => exact False.elim hq'
    | cont => exact False.elim hq'
theorem pe_makeSD (M : Mk X.K C f) (F : FnOk X.prog X.w X.K X.mg X.base CX k f fd ps sp) (hr : Room (k + 1) X.A) (hg : Gl X x) (hm : X.mg x = some (.ref C)) (hb : Binds X.K fd ps []) (hx : ∀ σ, PassesAt CX X σ (E σ))
    (ha : PA X (e :: es) t) (hdb : (x == ("__debug__" : Str)) = false) (he : starEach (e :: es) X.env = (false, eval e X.env) :: starEach es X.env) (hpl : (backTo pos (starEach es X.env)).any (·.1) = false) :
    PE X (.Call (.Name x p) (e :: es) [] pos) (tMakeSD C sp E t) := by
  refine ⟨fun pins s σ H Q I h => ?_⟩
  refine wpAny_Call_Name_kw (ld_glob I hg hm ?_ hdb)
  refine PySem.W.callWith_K (h₀ := X.base) I.ok.mod.kin M.kp (thn (ha.run pos pins s σ H _ I h) fun us s1 ⟨vs, H1, I1, r, q⟩ => ⟨I1.kIn, ?_⟩) he hpl
  exact run_makeSD M F hr hb (hx σ) I1 r q
theorem pe_make0SD (M : Mk X.K C f) (F : FnOk X.prog X.w X.K X.mg X.base CX k f fd ps sp) (hr : Room (k + 1) X.A) (hg : Gl X x) (hm : X.mg x = some (.ref C)) (hb : Binds X.K fd ps []) (hx : ∀ σ, PassesAt CX X σ (E σ))
    (hdb : (x == ("__debug__" : Str)) = false) : PE X (.Call (.Name x p) [] [] pos) (tMakeSD C sp E tNil) := by
  refine ⟨fun pins s σ H Q I h => ?_⟩
  refine wpAny_Call_Name_kw (ld_glob I hg hm ?_ hdb)
  exact PySem.W.callWith_K0 I.kIn M.kp (run_makeSD (us := []) M F hr hb (hx σ) I .nil h)
end

/-! ## the small machine's calls -/
section
variable {K : PySem.W.Frag} {GC : Gn} {P : Prg} {cl : CallF} {W : WX} {σ : L2.St} {μ μ1 : List Addr} {H H1 : Hp} {ρ : Rho} {h : MH} {Q : VK} {o : ME} {es : List ME}
/-- a result is handed on to a promise -/
theorem Ct.sp {np : Nat} {f : List MV → MH → R MV} {xs : List MV} {vs : List V} (c : Ct K GC W σ μ H (RelE K) Q (f xs h)) (rh : RH K GC μ h H) (r : RVs K μ H xs vs) (hl : xs.length = np) : spM K GC np f vs H Q (WE W σ) := by
  refine ⟨by rw [← r.length]; exact hl, μ, xs, h, rh, r, ?_⟩
  cases e : f xs h with
  | ok a h1 => rw [e] at c; exact c
  | ex cc v h1 => rw [e] at c; exact c
  | wall => rw [e] at c; exact c
theorem evs_len (P : Prg) (cl : CallF) : ∀ {es : List ME} {ρ : Rho} {h h1 : MH} {xs : List MV}, evs P cl es ρ h = .ok xs h1 → xs.length = es.length
  | [], ρ, h, h1, xs, e => by
    unfold evs at e
    cases e; rfl
  | a :: es, ρ, h, h1, xs, e => by
    unfold evs at e
    cases ea : ev P cl a ρ h with
    | ok x h2 =>
      rw [ea] at e
      have e' : (evs P cl es ρ h2).bind (fun xs h2 => R.ok (x :: xs) h2) = .ok xs h1 := e
      cases eb : evs P cl es ρ h2 with
      | ok ys h3 =>
        rw [eb] at e'
        cases e'
        simp [evs_len P cl eb]
      | ex _ _ _ => rw [eb] at e'; cases e'
      | wall => rw [eb] at e'; cases e'
    | ex _ _ _ => rw [ea] at e; cases e
    | wall => rw [ea] at e; cases e
/-- one thing, whose result is known, then another -/
theorem tM_bind' {α β γ δ : Type} {Rel : List Addr → Hp → α → β → Prop} {Rel' : List Addr → Hp → γ → δ → Prop} {Q : δ → Hp → Prop} {f : Rho → MH → R α} {g : α → MH → R γ} (rs : RS K μ H ρ σ) (rh : RH K GC μ h H)
    (c : Ct K GC W σ μ H Rel' Q ((f ρ h).bind g)) :
    tM K GC Rel W f σ H fun b H1 => ∃ μ1 a h1, Ext μ μ1 ∧ Keeps K H H1 ∧ RS K μ1 H1 ρ σ ∧ RH K GC μ1 h1 H1 ∧ Rel μ1 H1 a b ∧ f ρ h = .ok a h1 ∧ Ct K GC W σ μ1 H1 Rel' Q (g a h1) := by
  refine ⟨μ, ρ, h, rs, rh, ?_⟩
  cases e : f ρ h with
  | ok a h1 =>
    rw [e] at c
    exact fun μ' H' b e' k' rh' r => ⟨μ', a, h1, e', k', rs.mono e' k', rh', r, rfl, Ct.mono c e' k'⟩
  | ex cc v h1 =>
    rw [e] at c
    exact c
  | wall =>
    rw [e] at c
    exact c
theorem t_call {f : Nat} {F : Fn} (eF : P.fns[f]? = some F) (hl : es.length = F.np) (t : tE K GC W (ev P cl (.call f es)) σ H Q) : tCallSD (spM K GC F.np (cl f)) [] (WE W) (tA K GC W (evs P cl es)) σ H Q := by
  obtain ⟨μ, ρ, h, rs, rh, c⟩ := t
  unfold ev at c
  refine tM_imp (tM_bind' (f := evs P cl es) (Rel := RelA K) rs rh c) fun v H1 ⟨μ1, x, h1, e1, k1, rs1, rh1, r1, e0, c1⟩ => ?_
  have l := evs_len P cl e0
  unfold callM at c1
  rw [eF] at c1
  simp only at c1
  rw [if_pos (by rw [l]; exact hl)] at c1
  rw [List.append_nil]
  exact Ct.sp c1 rh1 r1 (by rw [l]; exact hl)
theorem t_callD {f : Nat} {F : Fn} {dvs : List V} (eF : P.fns[f]? = some F) (hn : es.length ≠ F.np) (hl : es.length + F.dfs.length = F.np) (hd : ∀ μ H, RVs K μ H F.dfs dvs) (t : tE K GC W (ev P cl (.call f es)) σ H Q) : tCallSD (spM K GC F.np (cl f)) dvs (WE W) (tA K GC W (evs P cl es)) σ H Q := by
  obtain ⟨μ, ρ, h, rs, rh, c⟩ := t
  unfold ev at c
  refine tM_imp (tM_bind' (f := evs P cl es) (Rel := RelA K) rs rh c) fun v H1 ⟨μ1, x, h1, e1, k1, rs1, rh1, r1, e0, c1⟩ => ?_
  have l := evs_len P cl e0
  unfold callM at c1
  rw [eF] at c1
  simp only at c1
  rw [if_neg (by rw [l]; exact hn), if_pos (by rw [l]; exact hl)] at c1
  exact Ct.sp (xs := x ++ F.dfs) c1 rh1 (r1.append (hd μ1 H1)) (by rw [List.length_append, l]; exact hl)
/-- what is looked up by an index is looked up by its name -/
theorem look_nm {NM : List Str} (nd : NM.Nodup) {μ : List Addr} {H : Hp} {f : Nat} {nm : Str} (ef : NM[f]? = some nm) : ∀ {fs : List (Nat × MV)} {gs : List (Str × V)}, (gs.map fun p => some p.1) = (fs.map fun p => NM[p.1]?) → RVs K μ H (fs.map (·.2)) (gs.map (·.2)) →
    (∃ x v, fs.lookup f = some x ∧ gs.lookup nm = some v ∧ RV K μ H x v) ∨ (fs.lookup f = none ∧ gs.lookup nm = none)
  | [], [], _, _ => .inr ⟨rfl, rfl⟩
  | [], _ :: _, e, _ => by cases e
  | _ :: _, [], e, _ => by cases e
  | (i, x) :: fs, (n, v) :: gs, e, r => by
    rw [List.map_cons, List.map_cons] at e
    injection e with e1 e2
    have e1' : some n = NM[i]? := e1
    cases r with
    | cons r1 r2 =>
      rw [List.lookup_cons, List.lookup_cons]
      by_cases z : f = i
      · subst z
        rw [ef] at e1'
        cases e1'
        simp only [beq_self_eq_true]
        exact .inl ⟨x, v, rfl, rfl, r1⟩
      · have nn : ¬ nm = n := fun q => by
          subst q
          obtain ⟨h1, e1⟩ := List.getElem?_eq_some_iff.mp ef
          obtain ⟨h2, e2'⟩ := List.getElem?_eq_some_iff.mp e1'.symm
          exact z ((List.getElem_inj nd).mp (e1.trans e2'.symm))
        have b1 : (f == i) = false := by simpa using z
        have b2 : (nm == n) = false := by simpa using nn
        simp only [b1, b2]
        exact look_nm nd ef e2 r2
theorem t_fld {P0 : Program} {w : World} {mg : Str → Option Value} {base : Heap} {k : Nat} {T : GT} {f : Nat} {nm : Str} (wd : Wd T P cl GC k P0 w K mg base) (ef : GC.NM[f]? = some nm) (t : tE K GC W (ev P cl (.fld o f)) σ H Q) : tFx K nm (tE K GC W (ev P cl o)) σ H Q := by
  obtain ⟨μ, ρ, h, rs, rh, c⟩ := t
  unfold ev at c
  refine tM_imp (tM_bind (f := ev P cl o) (Rel := RelE K) rs rh c) fun v H1 ⟨μ1, x, h1, e1, k1, rs1, rh1, r1, c1⟩ => ?_
  unfold fldM at c1
  cases r1 with
  | ref ha =>
    simp only at c1
    split at c1
    · rename_i cc fs eh
      obtain ⟨dx, gs, q, ek, rv⟩ := rh1.ins ha eh
      split at c1
      · rename_i C eC
        split at c1
        · rename_i hat
          split at c1
          · rename_i y el
            rw [Bool.and_eq_true, Bool.not_eq_true'] at hat
            have CW := wd.clsW cc C eC hat.1
            obtain ⟨nm', en, na⟩ := CW.attr f hat.2
            rw [ef] at en
            cases en
            rcases look_nm wd.nm ef ek rv with ⟨x', v', l1, l2, r'⟩ | ⟨l1, l2⟩
            · rw [el] at l1
              cases l1
              exact .inl ⟨_, _, dx, gs, v', rfl, q, CW.cls, na, l2, Ct.ok c1 rh1 r'⟩
            · rw [el] at l1; cases l1
          · exact c1.elim
        · exact c1.elim
      · exact c1.elim
    · rename_i cc y eh
      obtain ⟨dx, vv, q1, q2, rv⟩ := rh1.exc ha eh
      split at c1
      · rename_i C eC
        split at c1
        · rename_i hat
          rw [Bool.and_eq_true, decide_eq_true_eq] at hat
          obtain ⟨hx, rfl⟩ := hat
          have EW := wd.excW cc C eC hx
          have en := wd.vf
          rw [ef] at en
          cases en
          exact .inr ⟨_, _, dx, _, vv, rfl, q1, EW.xf, EW.noV, q2, by rw [List.lookup_cons]; simp, Ct.ok c1 rh1 rv⟩
        · exact c1.elim
      · exact c1.elim
    · exact c1.elim
  | _ => exact c1.elim
theorem t_meth {X : Cx} {P0 : Program} {w : World} {mg : Str → Option Value} {base : Heap} {k : Nat} {T : GT} {m : Nat} {nm : Str} (wd : Wd T P cl GC k X.prog X.w X.K X.mg X.base) (ef : GC.NM[m]? = some nm)
    (t : tE X.K GC W (ev P cl (.meth o m es)) σ H Q) : tMethD X k nm W (tE X.K GC W (ev P cl o)) (tA X.K GC W (evs P cl es)) σ H Q := by
  obtain ⟨μ, ρ, h, rs, rh, c⟩ := t
  unfold ev at c
  refine tM_imp (tM_bind (f := ev P cl o) (Rel := RelE X.K) rs rh c) fun v H1 ⟨μ1, x, h1, e1, k1, rs1, rh1, r1, c1⟩ => ?_
  split at c1
  · rename_i g eg
    unfold methM at eg
    cases r1 with
    | ref ha =>
      simp only at eg
      split at eg
      · rename_i cc fs eh
        obtain ⟨dx, gs, q, ek, rv⟩ := rh1.ins ha eh
        split at eg
        · rename_i C eC
          split at eg
          · cases eg
          · rename_i hx
            split at eg
            · rename_i f' el
              split at eg
              · rename_i en
                cases eg
                have CW := wd.clsW cc C eC (by cases z : C.exc <;> first | rfl | exact absurd z hx)
                obtain ⟨nm', a', F, en', hM, eF, ⟨fd, ps, FO, hps, hb, _⟩⟩ := CW.meth m g el
                rw [ef] at en'
                cases en'
                have l2 : gs.lookup nm = none := by
                  rcases look_nm wd.nm ef ek rv with ⟨x', v', l1, l2, r'⟩ | ⟨l1, l2⟩
                  · rw [en] at l1; cases l1
                  · exact l2
                refine ⟨_, _, dx, gs, a', _, rfl, q, l2, ⟨CW.cls, hM, fd, ps, FO, hb⟩, ?_⟩
                refine tM_imp (tM_bind' (f := evs P cl es) (Rel := RelA X.K) rs1 rh1 c1) fun vs H2 ⟨μ2, xs, h2, e2, k2, rs2, rh2, r2, e0, c2⟩ => ?_
                unfold callX at c2
                rw [eF] at c2
                simp only at c2
                split at c2
                · rename_i hl
                  exact Ct.sp (xs := _ :: xs) c2 rh2 (.cons ((RV.ref ha).mono e2 k2) r2) hl
                · exact c2.elim
              · cases eg
            · cases eg
        · cases eg
      · cases eg
    | _ => cases eg
  · exact c1.elim
theorem ext_push' {μ : List Addr} {p : Addr} : (μ ++ [p])[μ.length]? = some p := by simp
/-- C(..): a new instance, its __init__ -/
theorem t_make {c : Nat} {C : CI} {F : Fn} (eC : P.cls[c]? = some C) (hx : C.exc = false) (eF : P.fns[C.ini]? = some F) (t : tE K GC W (ev P cl (.make c es)) σ H Q) : tMakeSD (GC.C c) (spM K GC F.np (cl C.ini)) (WE W) (tA K GC W (evs P cl es)) σ H Q := by
  obtain ⟨μ, ρ, h, rs, rh, c0⟩ := t
  unfold ev at c0
  refine tM_imp (tM_bind' (f := evs P cl es) (Rel := RelA K) rs rh c0) fun v H1 ⟨μ1, x, h1, e1, k1, rs1, rh1, r1, e0, c1⟩ => ?_
  intro p dx hp hdx hne
  unfold makeM at c1
  rw [eC] at c1
  simp only at c1
  rw [if_neg (by rw [hx]; exact Bool.false_ne_true), eF] at c1
  simp only at c1
  split at c1
  · rename_i hl
    have hp2 : (upd H1 dx (.own p)) p = none := by rw [upd_ne (Ne.symm hne)]; exact hp
    have rg := rh1.grow (u := .own p) hdx
    have kg : Keeps K H1 (upd H1 dx (.own p)) := Keeps.new hdx
    have ra : RH K GC (μ1 ++ [p]) (h1 ++ [.ins c []]) (upd (upd H1 dx (.own p)) p (.ins (GC.C c) dx [])) := rg.alloc hp2 ⟨dx, [], upd_same, rfl, .nil⟩
    have kk : Keeps K H1 (upd (upd H1 dx (.own p)) p (.ins (GC.C c) dx [])) := kg.trans (Keeps.new hp2)
    have rp : RV K (μ1 ++ [p]) (upd (upd H1 dx (.own p)) p (.ins (GC.C c) dx [])) (.ref h1.length) (.ref p) := .ref (by rw [← rh1.len]; exact ext_push')
    refine ⟨by rw [List.length_cons, ← r1.length]; exact hl, μ1 ++ [p], .ref h1.length :: x, h1 ++ [.ins c []], ra, .cons rp (r1.mono (ext_push μ1 p) kk), ?_⟩
    cases e : cl C.ini (.ref h1.length :: x) (h1 ++ [.ins c []]) with
    | ok a h2 =>
      rw [e] at c1
      intro μ' H' b e' k' rh' rb
      cases a <;> first | exact False.elim c1 | skip
      cases rb
      have c3 : Ct K GC W σ μ1 H1 (RelE K) Q (.ok (.ref h1.length) h2) := c1
      exact ⟨rfl, c3 μ' H' (.ref p) ((ext_push μ1 p).trans e') (kk.trans k') rh' (.ref (e' _ _ (by rw [← rh1.len]; exact ext_push')))⟩
    | ex cc v h2 =>
      rw [e] at c1
      intro μ' H' d vv e' k'
      exact c1 μ' H' d vv ((ext_push μ1 p).trans e') (kk.trans k')
    | wall => rw [e] at c1; exact c1
  · exact c1.elim
end
end Mi
set_option maxHeartbeats 4000000
namespace Mi
open PySem PySem.Spec L2
variable [Th]

/-! ## slots that change -/
def Chg (vs : List Nat) (σ σ' : L2.St) : Prop := σ'.length = σ.length ∧ ∀ i, i ∉ vs → σ'[i]? = σ[i]?
theorem Chg.refl (vs : List Nat) (σ : L2.St) : Chg vs σ σ := ⟨rfl, fun _ _ => rfl⟩
theorem Chg.trans {vs : List Nat} {a b c : L2.St} (x : Chg vs a b) (y : Chg vs b c) : Chg vs a c := ⟨y.1.trans x.1, fun i hi => (y.2 i hi).trans (x.2 i hi)⟩
theorem Chg.sub {vs ws : List Nat} {a b : L2.St} (x : Chg vs a b) (h : ∀ i, i ∈ vs → i ∈ ws) : Chg ws a b := ⟨x.1, fun i hi => x.2 i fun z => hi (h i z)⟩
theorem wipe_in {i : Nat} : ∀ {vs : List Nat} {σ : L2.St}, i ∈ vs → (wipe σ vs)[i]? = if i < σ.length then some none else none
  | v :: vs, σ, h => by
    unfold wipe
    by_cases z : v = i
    · subst z
      by_cases hl : v < σ.length
      · rw [if_pos hl, List.getElem?_set_self (by rw [wipe_length]; exact hl)]
      · rw [if_neg hl, List.getElem?_eq_none (by rw [List.length_set, wipe_length]; omega)]
    · rw [List.getElem?_set_ne z]
      rcases List.mem_cons.mp h with e | e
      · exact absurd e.symm z
      · exact wipe_in e
theorem wipe_chg {vs : List Nat} {σ σ' : L2.St} (c : Chg vs σ σ') : wipe σ' vs = wipe σ vs := by
  refine List.ext_getElem? fun i => ?_
  by_cases h : i ∈ vs
  · rw [wipe_in h, wipe_in h, c.1]
  · rw [wipe_out h, wipe_out h]
    exact c.2 i h
theorem chg_wipe (vs : List Nat) (σ : L2.St) : Chg vs σ (wipe σ vs) := ⟨wipe_length σ vs, fun i hi => wipe_out hi⟩
theorem RS.wipe {K : PySem.W.Frag} {μ : List Addr} {H : Hp} {ρ : Rho} {σ : L2.St} (r : RS K μ H ρ σ) : ∀ vs : List Nat, RS K μ H (wipeM ρ vs) (L2.wipe σ vs)
  | [] => r
  | v :: vs => by
    have ih := RS.wipe r vs
    refine ⟨by show ((wipeM ρ vs).set v none).length = ((L2.wipe σ vs).set v none).length; rw [List.length_set, List.length_set]; exact ih.1, fun i x hx => ?_⟩
    have hx' : ((wipeM ρ vs).set v none)[i]? = some (some x) := hx
    by_cases z : v = i
    · subst z
      by_cases hl : v < (wipeM ρ vs).length
      · rw [List.getElem?_set_self hl] at hx'; cases hx'
      · rw [List.getElem?_eq_none (by rw [List.length_set]; omega)] at hx'; cases hx'
    · rw [List.getElem?_set_ne z] at hx'
      obtain ⟨w, e, q⟩ := ih.2 i x hx'
      refine ⟨w, ?_, q⟩
      show ((L2.wipe σ vs).set v none)[i]? = _
      rw [List.getElem?_set_ne z]
      exact e

/-! ## targets of loops -/
mutual
def MT.slots : MT → List Nat
  | .name i => [i]
  | .tup ts => MT.slotss ts
def MT.slotss : List MT → List Nat
  | [] => []
  | t :: ts => MT.slots t ++ MT.slotss ts
end
/-- a target's rule, told of the small machine's values -/
def PutOk (K : PySem.W.Frag) (t : MT) (g : TG) : Prop := ∀ (μ : List Addr) (H : Hp) (ρ : Rho) (σ : L2.St) (x : MV) (v : V) (ρ' : Rho) (Q : L2.St → Hp → Prop), RS K μ H ρ σ → RV K μ H x v → t.put x ρ = some ρ' →
  (∀ σ', RS K μ H ρ' σ' → Chg t.slots σ σ' → Q σ' H) → g v σ H Q
def PutsOk (K : PySem.W.Frag) (ts : List MT) (g : TGs) : Prop := ∀ (μ : List Addr) (H : Hp) (ρ : Rho) (σ : L2.St) (xs : List MV) (vs : List V) (ρ' : Rho) (Q : L2.St → Hp → Prop), RS K μ H ρ σ → RVs K μ H xs vs → MT.puts ts xs ρ = some ρ' →
  (∀ σ', RS K μ H ρ' σ' → Chg (MT.slotss ts) σ σ' → Q σ' H) → g vs σ H Q
section
variable {K : PySem.W.Frag}
theorem put_name (i : Nat) : PutOk K (.name i) (gName i) := by
  intro μ H ρ σ x v ρ' Q rs rv e q
  unfold MT.put at e
  cases e
  exact q _ (rs.set i rv) ⟨List.length_set, fun j hj => List.getElem?_set_ne (fun z => hj (by rw [← z]; exact List.mem_singleton.mpr rfl))⟩
theorem puts_nil : PutsOk K [] gNil := by
  intro μ H ρ σ xs vs ρ' Q rs rv e q
  cases rv with
  | nil =>
    unfold MT.puts at e
    cases e
    exact ⟨rfl, q σ rs (Chg.refl _ _)⟩
  | cons _ _ => unfold MT.puts at e; cases e
theorem puts_cons {t : MT} {ts : List MT} {g : TG} {gs : TGs} (h1 : PutOk K t g) (h2 : PutsOk K ts gs) : PutsOk K (t :: ts) (gCons g gs) := by
  intro μ H ρ σ xs vs ρ' Q rs rv e q
  cases rv with
  | nil => unfold MT.puts at e; cases e
  | cons r1 r2 =>
    unfold MT.puts at e
    split at e
    · rename_i ρ1 e1
      refine ⟨_, _, rfl, h1 μ H ρ σ _ _ ρ1 _ rs r1 e1 fun σ1 rs1 c1 => ?_⟩
      refine h2 μ H ρ1 σ1 _ _ ρ' _ rs1 r2 e fun σ2 rs2 c2 => q σ2 rs2 ?_
      exact (c1.sub fun i hi => List.mem_append_left _ hi).trans (c2.sub fun i hi => List.mem_append_right _ hi)
    · cases e
theorem puts_len : ∀ {ts : List MT} {xs : List MV} {ρ ρ' : Rho}, MT.puts ts xs ρ = some ρ' → xs.length = ts.length
  | [], [], _, _, _ => rfl
  | [], _ :: _, _, _, e => by unfold MT.puts at e; cases e
  | _ :: _, [], _, _, e => by unfold MT.puts at e; cases e
  | t :: ts, x :: xs, ρ, ρ', e => by
    unfold MT.puts at e
    split at e
    · rename_i ρ1 e1
      simp [puts_len e]
    · cases e
theorem put_tup {ts : List MT} {gs : TGs} {n : Nat} (hn : ts.length = n) (h : PutsOk K ts gs) : PutOk K (.tup ts) (gTup K n gs) := by
  intro μ H ρ σ x v ρ' Q rs rv e q
  cases rv with
  | tup hs rvs =>
    unfold MT.put at e
    exact ⟨_, _, rfl, hs, by rw [← rvs.length, puts_len e]; exact hn, h μ H ρ σ _ _ ρ' _ rs rvs e q⟩
  | _ => unfold MT.put at e; cases e
end

/-! ## what is walked -/
def JR (K : PySem.W.Frag) (GC : Gn) (μ0 : List Addr) (H0 : Hp) (s : Src) (J : It) : Prop := ∀ (μ : List Addr) (H : Hp) (h : MH) (i : Nat), Ext μ0 μ → Keeps K H0 H → RH K GC μ h H →
  (s.stop i h = true → J.stop i H) ∧ ∀ x, s.item i h = some x → J.go i H ∧ ∀ v H', J.yld i H v H' → Keeps K H H' ∧ RH K GC μ h H' ∧ RV K μ H' x v
abbrev tI (K : PySem.W.Frag) (GC : Gn) (W : WX) (f : Rho → MH → R Src) : TI := tM K GC (fun μ H s J => JR K GC μ H s J) W f
section
variable {K : PySem.W.Frag} {GC : Gn} {μ0 : List Addr} {H0 : Hp}
theorem lstAt_of {n : Nat} {h : MH} {xs : List MV} (e : h[n]? = some (.lst xs)) : lstAt n h = xs := by unfold lstAt; rw [e]
theorem isLst_of {n : Nat} {h : MH} (e : isLst n h = true) : ∃ xs, h[n]? = some (.lst xs) ∧ lstAt n h = xs := by
  unfold isLst at e
  split at e
  · rename_i xs q
    exact ⟨xs, q, lstAt_of q⟩
  · cases e
theorem lstAt_some {n i : Nat} {h : MH} {x : MV} (e : (lstAt n h)[i]? = some x) : ∃ xs, h[n]? = some (.lst xs) ∧ xs[i]? = some x := by
  unfold lstAt at e
  split at e
  · rename_i xs q
    exact ⟨xs, q, e⟩
  · simp at e
/-- a list reads the same at one place -/
theorem sql_uniq {H : Hp} {a : Addr} {vs ws : List V} (h : H a = some (.lst vs)) (q : SqL K H a ws) (hk : K.lookup a = none ∨ True) : Rd H a (.lst ws) → ws = vs := fun r => by
  rcases r with r | ⟨o, r⟩
  · rw [h] at r; cases r; rfl
  · rw [h] at r; cases r
theorem jr_lst {n : Nat} {a : Addr} (ha : μ0[n]? = some a) : JR K GC μ0 H0 (.lst n) (Itl K a) := by
  intro μ H h i e k rh
  have ha' := e _ _ ha
  refine ⟨fun st => ?_, fun x hx => ?_⟩
  · unfold Src.stop at st
    rw [Bool.and_eq_true] at st
    obtain ⟨xs, eh, el⟩ := isLst_of st.1
    obtain ⟨vs, q, rv⟩ := rh.lst ha' eh
    have := of_decide_eq_true st.2
    rw [el] at this
    exact ⟨vs, SqL.of q, by rw [← rv.length]; exact this⟩
  · obtain ⟨xs, eh, ex⟩ := lstAt_some hx
    obtain ⟨vs, q, rv⟩ := rh.lst ha' eh
    obtain ⟨w, ew, rw'⟩ := rv.get ex
    refine ⟨⟨vs, w, SqL.of q, ew⟩, fun v H' ⟨eH, hv⟩ => ?_⟩
    subst eH
    have := hv vs (SqL.of q)
    rw [ew] at this
    cases this
    exact ⟨Keeps.refl _ _, rh, rw'⟩
theorem jr_tup {a : Addr} {xs : List MV} {vs : List V} (hs : SqT K H0 a vs) (r : RVs K μ0 H0 xs vs) : JR K GC μ0 H0 (.fix xs) (Itt K a) := by
  intro μ H h i e k rh
  have hs' := k.tup _ _ hs
  have r' := r.mono e k
  refine ⟨fun st => ?_, fun x hx => ?_⟩
  · have := of_decide_eq_true st
    exact ⟨vs, hs', by rw [← r.length]; exact this⟩
  · have hx' : xs[i]? = some x := hx
    obtain ⟨w, ew, rw'⟩ := r'.get hx'
    refine ⟨⟨vs, w, hs', ew⟩, fun v H' ⟨eH, hv⟩ => ?_⟩
    subst eH
    have := hv vs hs'
    rw [ew] at this
    cases this
    exact ⟨Keeps.refl _ _, rh, rw'⟩
theorem jr_str (s : Str) : JR K GC μ0 H0 (.fix (s.cps.toList.map fun c => .str ⟨#[c]⟩)) (Its s) := by
  intro μ H h i e k rh
  refine ⟨fun st => ?_, fun x hx => ?_⟩
  · have := of_decide_eq_true st
    rw [List.length_map] at this
    exact this
  · have hx' : (s.cps.toList.map fun c => MV.str ⟨#[c]⟩)[i]? = some x := hx
    rw [List.getElem?_map] at hx'
    cases ec : s.cps.toList[i]? with
    | none => rw [ec] at hx'; cases hx'
    | some c =>
      rw [ec] at hx'
      cases hx'
      have hl : i < s.cps.size := by
        have := (List.getElem?_eq_some_iff.mp ec).1
        rw [Array.length_toList] at this; exact this
      refine ⟨hl, fun v H' ⟨eH, c', ec', ev⟩ => ?_⟩
      subst eH ev
      rw [← Array.getElem?_toList, ec] at ec'
      cases ec'
      exact ⟨Keeps.refl _ _, rh, .str _⟩
theorem jr_rng (lo : Int) (n : Nat) : JR K GC μ0 H0 (.rng lo n) (Itr lo n) := by
  intro μ H h i e k rh
  refine ⟨fun st => show n ≤ i from of_decide_eq_true st, fun x hx => ?_⟩
  unfold Src.item at hx
  simp only at hx
  split at hx
  · rename_i hl
    cases hx
    refine ⟨hl, fun v H' ⟨eH, ev⟩ => ?_⟩
    subst eH ev
    exact ⟨Keeps.refl _ _, rh, .int _⟩
  · cases hx
theorem jr_enum {n : Nat} {a : Addr} (ha : μ0[n]? = some a) : JR K GC μ0 H0 (.enum n) (Ite K a) := by
  intro μ H h i e k rh
  have ha' := e _ _ ha
  refine ⟨fun st => ?_, fun x hx => ?_⟩
  · unfold Src.stop at st
    rw [Bool.and_eq_true] at st
    obtain ⟨xs, eh, el⟩ := isLst_of st.1
    obtain ⟨vs, q, rv⟩ := rh.lst ha' eh
    have := of_decide_eq_true st.2
    rw [el] at this
    exact ⟨vs, SqL.of q, by rw [← rv.length]; exact this⟩
  · unfold Src.item at hx
    simp only at hx
    split at hx
    · rename_i y ey
      cases hx
      obtain ⟨xs, eh, ex⟩ := lstAt_some ey
      obtain ⟨vs, q, rv⟩ := rh.lst ha' eh
      obtain ⟨w, ew, rw'⟩ := rv.get ex
      refine ⟨⟨vs, w, SqL.of q, ew⟩, fun v H' ⟨T, x', ev, hT, eH, hv⟩ => ?_⟩
      subst eH ev
      have := hv vs (SqL.of q)
      rw [ew] at this
      cases this
      have kk : Keeps K H (upd H T (.tup [.int (i : Nat), w])) := Keeps.new hT
      exact ⟨kk, rh.grow hT, .tup (.inl (.inl upd_same)) (.cons (.int _) (.cons (rw'.mono (Ext.refl _) kk) .nil))⟩
    · cases hx
theorem jr_enumT {xs : List MV} {vs : List V} {a : Addr} (hs : SqT K H0 a vs) (r0 : RVs K μ0 H0 xs vs) : JR K GC μ0 H0 (.enumT xs) (IteT K a vs.length) := by
  intro μ H h i e k rh
  have hq := k.tup _ _ hs
  have rv := r0.mono e k
  refine ⟨fun st => ⟨vs, hq, rfl, ?_⟩, fun x hx => ?_⟩
  · unfold Src.stop at st
    rw [← rv.length]
    exact of_decide_eq_true st
  · unfold Src.item at hx
    simp only at hx
    split at hx
    · rename_i y ey
      cases hx
      obtain ⟨w, ew, rw'⟩ := rv.get ey
      refine ⟨⟨vs, w, hq, rfl, ew⟩, fun v H' ⟨T, x', ev, hT, eH, hv⟩ => ?_⟩
      subst eH ev
      have := hv vs hq
      rw [ew] at this
      cases this
      have kk : Keeps K H (upd H T (.tup [.int (i : Nat), w])) := Keeps.new hT
      exact ⟨kk, rh.grow hT, .tup (.inl (.inl upd_same)) (.cons (.int _) (.cons (rw'.mono (Ext.refl _) kk) .nil))⟩
    · cases hx
theorem jr_zip {n m : Nat} {a b : Addr} (ha : μ0[n]? = some a) (hb : μ0[m]? = some b) : JR K GC μ0 H0 (.zip n m) (Itz K a b) := by
  intro μ H h i e k rh
  have ha' := e _ _ ha
  have hb' := e _ _ hb
  refine ⟨fun st => ?_, fun x hx => ?_⟩
  · unfold Src.stop at st
    rw [Bool.and_eq_true, Bool.and_eq_true, Bool.or_eq_true] at st
    obtain ⟨xs, eh, el⟩ := isLst_of st.1.1
    obtain ⟨ys, eh2, el2⟩ := isLst_of st.1.2
    obtain ⟨vs, q, rv⟩ := rh.lst ha' eh
    obtain ⟨us, q2, rv2⟩ := rh.lst hb' eh2
    refine ⟨vs, us, SqL.of q, SqL.of q2, ?_⟩
    rcases st.2 with z | z
    · have := of_decide_eq_true z
      rw [el] at this
      exact .inl (by rw [← rv.length]; exact this)
    · have := of_decide_eq_true z
      rw [el2] at this
      exact .inr (by rw [← rv2.length]; exact this)
  · unfold Src.item at hx
    simp only at hx
    split at hx
    · rename_i y z ey ez
      cases hx
      obtain ⟨xs, eh, ex⟩ := lstAt_some ey
      obtain ⟨ys, eh2, ex2⟩ := lstAt_some ez
      obtain ⟨vs, q, rv⟩ := rh.lst ha' eh
      obtain ⟨us, q2, rv2⟩ := rh.lst hb' eh2
      obtain ⟨w, ew, rw'⟩ := rv.get ex
      obtain ⟨w2, ew2, rw2⟩ := rv2.get ex2
      refine ⟨⟨vs, us, w, w2, SqL.of q, SqL.of q2, ew, ew2⟩, fun v H' ⟨T, x', y', ev, hT, eH, hv, hv2⟩ => ?_⟩
      subst eH ev
      have z1 := hv vs (SqL.of q)
      rw [ew] at z1
      cases z1
      have z2 := hv2 us (SqL.of q2)
      rw [ew2] at z2
      cases z2
      have kk : Keeps K H (upd H T (.tup [w, w2])) := Keeps.new hT
      exact ⟨kk, rh.grow hT, .tup (.inl (.inl upd_same)) (.cons (rw'.mono (Ext.refl _) kk) (.cons (rw2.mono (Ext.refl _) kk) .nil))⟩
    · cases hx
end
section
variable {K : PySem.W.Frag} {GC : Gn} {P : Prg} {cl : CallF} {W W0 : WX} {σ σ2 : L2.St} {μ μ1 : List Addr} {H H1 : Hp} {ρ : Rho} {h : MH} {Q : VK} {o : ME} {es : List ME}
theorem noEx_bind {α β : Type} (r : R α) (f : α → MH → R β) : noEx (r.bind f) = (noEx r).bind fun a h => noEx (f a h) := by cases r <;> rfl
/-- within a comprehension nothing is let out -/
theorem tM_bindN {α β γ δ : Type} {Rel : List Addr → Hp → α → β → Prop} {Rel' : List Addr → Hp → γ → δ → Prop} {Q : δ → Hp → Prop} {f : Rho → MH → R α} {g : α → MH → R γ} (rs : RS K μ H ρ σ2) (rh : RH K GC μ h H)
    (c : Ct K GC W σ μ H Rel' Q ((noEx (f ρ h)).bind g)) :
    tM K GC Rel W0 f σ2 H fun b H1 => ∃ μ1 a h1, Ext μ μ1 ∧ Keeps K H H1 ∧ RS K μ1 H1 ρ σ2 ∧ RH K GC μ1 h1 H1 ∧ Rel μ1 H1 a b ∧ Ct K GC W σ μ1 H1 Rel' Q (g a h1) := by
  refine ⟨μ, ρ, h, rs, rh, ?_⟩
  cases e : f ρ h with
  | ok a h1 =>
    rw [e] at c
    exact fun μ' H' b e' k' rh' r => ⟨μ', a, h1, e', k', rs.mono e' k', rh', r, Ct.mono c e' k'⟩
  | ex cc v h1 =>
    rw [e] at c
    exact c.elim
  | wall =>
    rw [e] at c
    exact c.elim
/-- the comprehension -/
theorem t_lc {k : IK} {tg : MT} {ifs : List ME} {elt : ME} {own : List Nat} {wi : TI} {g : TG} (hp : PutOk K tg g) (ho : ∀ i ∈ tg.slots, i ∈ own)
    (hw : ∀ σ H R, tI K GC W (fun ρ h => (evs P cl es ρ h).bind (srcM k)) σ H R → wi σ H R) (t : tE K GC W (ev P cl (.lc k es tg ifs elt own)) σ H Q) :
    tLc wi g (tT K GC W0 (evTs P cl ifs)) (tE K GC W0 (ev P cl elt)) own σ H Q := by
  obtain ⟨μ, ρ, h, rs, rh, c0⟩ := t
  unfold ev at c0
  rw [← R.bind_assoc] at c0
  refine hw σ H _ ?_
  refine tM_imp (tM_bind (f := fun ρ h => (evs P cl es ρ h).bind (srcM k)) (Rel := fun μ H s J => JR K GC μ H s J) rs rh c0) fun J H1 ⟨μ1, s, h2, e1, k1, rs1, rh1, jr, c1⟩ => ?_
  intro D hD
  have kD : Keeps K H1 (upd H1 D (.lst [])) := Keeps.new hD
  have rD : RH K GC (μ1 ++ [D]) (h2 ++ [.lst []]) (upd H1 D (.lst [])) := rh1.alloc hD ⟨[], upd_same, .nil⟩
  have eD : (μ1 ++ [D])[h2.length]? = some D := by rw [← rh1.len]; exact ext_push'
  refine ⟨fun i m H' => ∃ μ' h', Ext (μ1 ++ [D]) μ' ∧ Keeps K (upd H1 D (.lst [])) H' ∧ RH K GC μ' h' H' ∧ Ct K GC W σ μ' H' (RelE K) Q (noEx (lcL s tg (evTs P cl ifs) (ev P cl elt) (wipeM ρ own) h2.length m i h')), ⟨_, _, _, Ext.refl _, Keeps.refl _ _, rD, Ct.mono c1 (ext_push μ1 D) kD⟩, ?_⟩
  rintro i m H' ⟨μ', h', e', k', rh', c'⟩
  have rsw : RS K μ' H' (wipeM ρ own) (L2.wipe σ own) := (rs1.wipe own).mono ((ext_push μ1 D).trans e') (kD.trans k')
  obtain ⟨js, ji⟩ := jr μ' H' h' i ((ext_push μ1 D).trans e') (kD.trans k') rh'
  cases m with
  | zero =>
    unfold lcL at c'
    split at c'
    · rename_i st
      exact .inl ⟨js st, Ct.ok c' rh' (.ref (e' _ _ eD))⟩
    · exact c'.elim
  | succ n =>
    unfold lcL at c'
    split at c'
    · rename_i st
      exact .inl ⟨js st, Ct.ok c' rh' (.ref (e' _ _ eD))⟩
    · split at c'
      · exact c'.elim
      · rename_i x ex
        split at c'
        · exact c'.elim
        · rename_i ρ1 ep
          obtain ⟨jg, jy⟩ := ji x ex
          refine .inr ⟨jg, fun H'' => ∃ μ'' h'', Ext (μ1 ++ [D]) μ'' ∧ Keeps K (upd H1 D (.lst [])) H'' ∧ RH K GC μ'' h'' H'' ∧ Ct K GC W σ μ'' H'' (RelE K) Q (noEx (lcL s tg (evTs P cl ifs) (ev P cl elt) (wipeM ρ own) h2.length n (i + 1) h'')), fun H'' w => ⟨n, Nat.lt_succ_self n, w⟩, fun v H2 yl => ?_⟩
          obtain ⟨ky, rhy, rvy⟩ := jy v H2 yl
          refine hp μ' H2 _ _ x v ρ1 _ (rsw.mono (Ext.refl _) ky) rvy ep fun σ3 rs3 ch => ?_
          have ch' : Chg own σ σ3 := (chg_wipe own σ).trans (ch.sub ho)
          have c2 := Ct.mono c' (Ext.refl _) ky
          rw [noEx_bind] at c2
          refine ⟨wipe_chg ch', ?_⟩
          refine tM_imp (tM_bindN (W0 := W0) (f := evTs P cl ifs) (Rel := RelT) rs3 rhy c2) fun b H3 ⟨μ3, b', h3, e3, k3, rs4, rh3, rb, c3⟩ => ?_
          obtain rfl : b' = b := rb
          have ee : Ext (μ1 ++ [D]) μ3 := e'.trans e3
          have kk : Keeps K (upd H1 D (.lst [])) H3 := (k'.trans ky).trans k3
          cases b' with
          | false =>
            rw [if_neg Bool.false_ne_true] at c3 ⊢
            exact ⟨μ3, h3, ee, kk, rh3, c3⟩
          | true =>
            rw [if_pos rfl] at c3 ⊢
            rw [noEx_bind] at c3
            refine tM_imp (tM_bindN (W0 := W0) (f := ev P cl elt) (Rel := RelE K) rs4 rh3 c3) fun y H4 ⟨μ4, y', h4, e4, k4, rs5, rh4, ry, c4⟩ => ?_
            have ee4 : Ext (μ1 ++ [D]) μ4 := ee.trans e4
            split at c4
            · rename_i acc ea
              obtain ⟨vs, q, rv⟩ := rh4.lst (ee4 _ _ eD) ea
              split at c4
              · rename_i hz
                have kp : Keeps K H4 (upd H4 D (.lst (vs ++ [y]))) := Keeps.put q (fun _ z => nomatch z) (fun _ _ z => nomatch z)
                refine ⟨vs, q, by rw [← rv.length, SZ_eq]; exact hz, μ4, _, ee4, (kk.trans k4).trans kp, rh4.put (o := .lst (acc ++ [y'])) (ee4 _ _ eD) q (fun _ z => nomatch z) (fun _ _ z => nomatch z) (fun _ _ z => nomatch z) ⟨_, upd_same, (rv.append (.cons ry .nil)).mono (Ext.refl _) kp⟩, Ct.mono c4 (Ext.refl _) kp⟩
              · exact c4.elim
            · exact c4.elim
end
end Mi
set_option maxHeartbeats 4000000
namespace Mi
open PySem PySem.Spec L2
variable [Th]

/-! ## what is thrown away -/
mutual
/-- only objects below n are named -/
def bndV (n : Nat) : MV → Bool
  | .tup xs => bndVs n xs
  | .ref k => decide (k < n)
  | _ => true
def bndVs (n : Nat) : List MV → Bool
  | [] => true
  | x :: xs => bndV n x && bndVs n xs
end
def bndO (n : Nat) : MO → Bool
  | .lst xs => bndVs n xs
  | .dct kvs => bndVs n (kvs.map (·.2))
  | .ins _ fs => bndVs n (fs.map (·.2))
  | .exc _ v => bndV n v
def bndH (n : Nat) (h : MH) : Bool := h.all (bndO n)
section
variable {K : PySem.W.Frag} {GC : Gn} {μ : List Addr} {H : Hp} {h : MH} {n : Nat}
mutual
theorem bndV_ok : ∀ {x : MV} {v : V}, bndV n x = true → RV K μ H x v → RV K (μ.take n) H x v
  | _, _, _, .non => .non
  | _, _, _, .bl b => .bl b
  | _, _, _, .int i => .int i
  | _, _, _, .str s => .str s
  | _, _, e, .tup h r => .tup h (bndVs_ok e r)
  | _, _, e, .ref h => .ref (by
      have : _ < n := of_decide_eq_true e
      rw [List.getElem?_take, if_pos this]; exact h)
  | _, _, _, .scr h => .scr h
  | _, _, _, .sym i => .sym i
theorem bndVs_ok : ∀ {xs : List MV} {vs : List V}, bndVs n xs = true → RVs K μ H xs vs → RVs K (μ.take n) H xs vs
  | _, _, _, .nil => .nil
  | _, _, e, .cons r t => by
    unfold bndVs at e
    rw [Bool.and_eq_true] at e
    exact .cons (bndV_ok e.1 r) (bndVs_ok e.2 t)
end
theorem bndO_ok {a : Addr} {o : MO} (e : bndO n o = true) (r : RO K GC μ H a o) : RO K GC (μ.take n) H a o := by
  cases o with
  | lst xs => obtain ⟨vs, q, t⟩ := r; exact ⟨vs, q, bndVs_ok e t⟩
  | dct kvs => obtain ⟨vs, q, z, t⟩ := r; exact ⟨vs, q, z, bndVs_ok e t⟩
  | ins c fs => obtain ⟨d, vs, q, z, t⟩ := r; exact ⟨d, vs, q, z, bndVs_ok e t⟩
  | exc c v => obtain ⟨d, vv, q, z, t⟩ := r; exact ⟨d, vv, q, z, bndV_ok e t⟩
/-- objects that nothing names any more -/
theorem RH.drop {g : MH} (e : bndH h.length h = true) (r : RH K GC μ (h ++ g) H) : RH K GC (μ.take h.length) h H where
  len := by
    rw [List.length_take, r.len, List.length_append]
    omega
  inj := fun i j a hi hj => by
    rw [List.getElem?_take] at hi hj
    split at hi
    · split at hj
      · exact r.inj i j a hi hj
      · cases hj
    · cases hi
  obj := fun k o hk => by
    have hl : k < h.length := (List.getElem?_eq_some_iff.mp hk).1
    obtain ⟨a, ea, q⟩ := r.obj k o (by rw [List.getElem?_append_left hl]; exact hk)
    have hb : bndO h.length o = true := List.all_eq_true.mp e o (List.mem_of_getElem? hk)
    exact ⟨a, by rw [List.getElem?_take, if_pos hl]; exact ea, bndO_ok hb q⟩
  wld := r.wld
  out := fun k a hk => by
    rw [List.getElem?_take] at hk
    split at hk
    · exact r.out k a hk
    · cases hk
theorem ext_take {μ μ' : List Addr} (e : Ext μ μ') (hl : μ.length ≤ n) : Ext μ (μ'.take n) := fun i a hi => by
  have : i < n := Nat.lt_of_lt_of_le (List.getElem?_eq_some_iff.mp hi).1 hl
  rw [List.getElem?_take, if_pos this]
  exact e i a hi
def bndR (n : Nat) (ρ : Rho) : Bool := ρ.all fun o => match o with | some v => bndV n v | none => true
theorem bndR_ok {ρ : Rho} {σ : L2.St} (e : bndR n ρ = true) (r : RS K μ H ρ σ) : RS K (μ.take n) H ρ σ := ⟨r.1, fun i x hx => by
  obtain ⟨v, h1, h2⟩ := r.2 i x hx
  exact ⟨v, h1, bndV_ok (List.all_eq_true.mp e (some x) (List.mem_of_getElem? hx)) h2⟩⟩
end
def frL {α β : Type} : List α → (List α → β) → β
  | [], k => k []
  | x :: xs, k => frL xs fun ys => k (x :: ys)
theorem frL_eq {α β : Type} : ∀ (xs : List α) (k : List α → β), frL xs k = k xs
  | [], _ => rfl
  | x :: xs, k => frL_eq xs fun ys => k (x :: ys)
/-- the objects behind the first n0, if nothing names them -/
def cutB (n0 : Nat) (h0 : MH) (ρ : Rho) (h : MH) : Bool := Nat.ble h0.length n0 && (Nat.ble n0 h.length && (bndR n0 ρ && bndH n0 (h.take n0)))
def cutM {β : Type} (n0 : Nat) (h0 : MH) (ρ : Rho) (h : MH) (k : Rho → MH → β) : β := match cutB n0 h0 ρ h with
  | true => frL ρ fun ρ' => frL (h.take n0) fun h' => k ρ' h'
  | false => k ρ h
/-! ## statements: how they run -/
def R.bindS {α : Type} (r : R α) (ρ : Rho) (f : α → MH → RS') : RS' := match r with
  | .ok a h => f a h
  | .ex c v h => .ex c v ρ h
  | .wall => .wall
def RS'.seq (r : RS') (f : Rho → MH → RS') : RS' := match r with
  | .ok .nx ρ h => f ρ h
  | r => r
def putFM (f : Nat) (v : MV) : List (Nat × MV) → List (Nat × MV)
  | [] => [(f, v)]
  | (g, x) :: r => if g = f then (g, v) :: r else (g, x) :: putFM f v r
def setFM (P : Prg) (f : Nat) (x v : MV) (h : MH) : Option MH := match x with
  | .ref n => match h[n]? with
    | some (.ins c fs) => match P.cls[c]? with
      | some C => if (!C.exc && C.at_.contains f) = true ∧ fs.length < 1000 then some (h.set n (.ins c (putFM f v fs))) else none
      | none => none
    | _ => none
  | _ => none
def clsM (x : MV) (h : MH) : Option Nat := match x with
  | .ref n => match h[n]? with | some (.ins c _) => some c | _ => none
  | _ => none
/-- a field of an instance, not of an error -/
def fldI (P : Prg) (f : Nat) (x : MV) (h : MH) : R MV := match clsM x h with
  | some _ => fldM P f x h
  | none => .wall
def setIM (x y v : MV) (h : MH) : Option MH := match x with
  | .ref n => match h[n]? with
    | some (.lst xs) => match y with
      | .int i => match ixN xs.length i with | some j => some (h.set n (.lst (xs.set j v))) | none => none
      | _ => none
    | some (.dct kvs) => match keyM y with
      | some k => if kvs.length < SZ then some (h.set n (.dct (putKM kvs k v))) else none
      | none => none
    | _ => none
  | _ => none
/-- op= on ints and texts -/
def augM (o : Bop) (x y : MV) (h : MH) : R MV := match o, x, y with
  | .add, .int i, .int j => .ok (.int (i + j)) h
  | .sub, .int i, .int j => .ok (.int (i - j)) h
  | .add, .str a, .str b => if a.length + b.length ≤ SZ then .ok (.str (appF a b)) h else .wall
  | _, _, _ => .wall
def whlL (c : Rho → MH → R Bool) (b : Rho → MH → RS') : Nat → Rho → MH → RS'
  | 0, _, _ => .wall
  | n + 1, ρ, h => (c ρ h).bindS ρ fun k h1 => if k = true then (match b ρ h1 with
      | .ok .nx ρ2 h2 => whlL c b n ρ2 h2
      | .ok .cnt ρ2 h2 => whlL c b n ρ2 h2
      | .ok .brk ρ2 h2 => .ok .nx ρ2 h2
      | r => r) else .ok .nx ρ h1
def forL (s : Src) (tg : MT) (b : Rho → MH → RS') (n0 : Nat) : Nat → Nat → Rho → MH → RS'
  | 0, i, ρ, h => if s.stop i h then .ok .nx ρ h else .wall
  | n + 1, i, ρ, h => if s.stop i h then .ok .nx ρ h else match s.item i h with
    | none => .wall
    | some x => match tg.put x ρ with
      | none => .wall
      | some ρ1 => match b ρ1 h with
        | .ok .nx ρ2 h2 => cutM n0 h ρ2 h2 fun ρ3 h3 => forL s tg b n0 n (i + 1) ρ3 h3
        | .ok .cnt ρ2 h2 => cutM n0 h ρ2 h2 fun ρ3 h3 => forL s tg b n0 n (i + 1) ρ3 h3
        | .ok .brk ρ2 h2 => .ok .nx ρ2 h2
        | r => r
def setAll : List Nat → List MV → Rho → Option Rho
  | [], [], ρ => some ρ
  | i :: is, x :: xs, ρ => setAll is xs (ρ.set i (some x))
  | _, _, _ => none
section
variable (P : Prg) (cl : CallF)
mutual
def asg : MG → MV → Rho → MH → RS'
  | .name i, v, ρ, h => .ok .nx (ρ.set i (some v)) h
  | .fld o f, v, ρ, h => (ev P cl o ρ h).bindS ρ fun x h1 => match setFM P f x v h1 with | some h2 => .ok .nx ρ h2 | none => .wall
  | .ix o i, v, ρ, h => (ev P cl o ρ h).bindS ρ fun x h1 => (ev P cl i ρ h1).bindS ρ fun y h2 => match setIM x y v h2 with | some h3 => .ok .nx ρ h3 | none => .wall
  | .tup ts, .tup xs, ρ, h => if xs.length = ts.length then asgs ts xs ρ h else .wall
  | .tup _, _, _, _ => .wall
def asgs : List MG → List MV → Rho → MH → RS'
  | [], [], ρ, h => .ok .nx ρ h
  | t :: ts, x :: xs, ρ, h => (asg t x ρ h).seq fun ρ1 h1 => asgs ts xs ρ1 h1
  | _, _, _, _ => .wall
end
mutual
def ex : MS → Rho → MH → RS'
  | .asg tg e, ρ, h => (ev P cl e ρ h).bindS ρ fun v h1 => asg P cl tg v ρ h1
  | .par is es, ρ, h => (evs P cl es ρ h).bindS ρ fun xs h1 => match setAll is xs ρ with | some ρ1 => .ok .nx ρ1 h1 | none => .wall
  | .aug i o e, ρ, h => match ρ[i]? with
    | some (some x) => (ev P cl e ρ h).bindS ρ fun y h1 => (augM o x y h1).bindS ρ fun z h2 => .ok .nx (ρ.set i (some z)) h2
    | _ => .wall
  | .augf a f o e, ρ, h => (ev P cl a ρ h).bindS ρ fun x h1 => (fldI P f x h1).bindS ρ fun v h2 => (ev P cl e ρ h2).bindS ρ fun y h3 => (augM o v y h3).bindS ρ fun z h4 => if clsM x h4 = clsM x h1 then (match setFM P f x z h4 with | some h5 => .ok .nx ρ h5 | none => .wall) else .wall
  | .expr e, ρ, h => (ev P cl e ρ h).bindS ρ fun _ h1 => .ok .nx ρ h1
  | .ret e, ρ, h => (ev P cl e ρ h).bindS ρ fun v h1 => .ok (.ret v) ρ h1
  | .retN, ρ, h => .ok (.ret .non) ρ h
  | .ite t a b, ρ, h => (evT (ev P cl t) ρ h).bindS ρ fun k h1 => if k = true then exs a ρ h1 else exs b ρ h1
  | .whl t b, ρ, h => whlL (evT (ev P cl t)) (exs b) 65536 ρ h
  | .for k es tg b, ρ, h => ((evs P cl es ρ h).bind (srcM k)).bindS ρ fun s h1 => forL s tg (exs b) h1.length (s.many h1) 0 ρ h1
  | .brk, ρ, h => .ok .brk ρ h
  | .cnt, ρ, h => .ok .cnt ρ h
  | .pass, ρ, h => .ok .nx ρ h
  | .raise c e, ρ, h => (ev P cl e ρ h).bindS ρ fun v h1 => .ex c v ρ h1
def exs : List MS → Rho → MH → RS'
  | [], ρ, h => .ok .nx ρ h
  | s :: ss, ρ, h => (ex s ρ h).seq fun ρ1 h1 => exs ss ρ1 h1
end
/-- a def called -/
def runFn (F : Fn) (xs : List MV) (h : MH) : R MV :=
  match exs P cl F.body (xs.map some ++ List.replicate (F.nl - xs.length) none) h with
  | .ok .nx _ h1 => .ok .non h1
  | .ok (.ret v) _ h1 => .ok v h1
  | .ex c v _ h1 => .ex c v h1
  | _ => .wall
end
/-- so deep may defs call one another -/
def callN (P : Prg) : Nat → CallF
  | 0 => fun _ _ _ => .wall
  | n + 1 => fun f xs h => match P.fns[f]? with
    | some F => if xs.length = F.np then runFn P (callN P n) F xs h else .wall
    | none => .wall

/-! ## what is wanted behind a statement -/
section
variable (K : PySem.W.Frag) (GC : Gn)
def CtS (W : WX) (D : Ends) (μ : List Addr) (H : Hp) : RS' → Prop
  | .ok .nx ρ h => ∀ μ' H' σ', Ext μ μ' → Keeps K H H' → RH K GC μ' h H' → RS K μ' H' ρ σ' → D.nx σ' H'
  | .ok .brk ρ h => ∀ μ' H' σ', Ext μ μ' → Keeps K H H' → RH K GC μ' h H' → RS K μ' H' ρ σ' → D.bk σ' H'
  | .ok .cnt ρ h => ∀ μ' H' σ', Ext μ μ' → Keeps K H H' → RH K GC μ' h H' → RS K μ' H' ρ σ' → D.ct σ' H'
  | .ok (.ret v) ρ h => ∀ μ' H' w, Ext μ μ' → Keeps K H H' → RH K GC μ' h H' → RV K μ' H' v w → D.rt w H'
  | .ex c v ρ h => ∀ μ' H' σ' d vv, Ext μ μ' → Keeps K H H' → RH K GC μ' h H' → RS K μ' H' ρ σ' → RV K μ' H' v vv → H' d = some (.xd [("value", vv)]) → W (.ref (GC.C c)) (some d) σ' H'
  | .wall => False
def tS (W : WX) (f : Rho → MH → RS') : TS := fun D σ H => ∃ μ ρ h, RS K μ H ρ σ ∧ RH K GC μ h H ∧ CtS K GC W D μ H (f ρ h)
end
section
variable {K : PySem.W.Frag} {GC : Gn} {P : Prg} {cl : CallF} {W : WX} {D : Ends} {σ : L2.St} {μ μ1 : List Addr} {H H1 : Hp} {ρ : Rho} {h : MH}
theorem CtS.mono {r : RS'} (c : CtS K GC W D μ H r) (e : Ext μ μ1) (k : Keeps K H H1) : CtS K GC W D μ1 H1 r := by
  cases r with
  | ok f ρ h =>
    cases f with
    | nx => exact fun μ' H' σ' e' k' => c μ' H' σ' (e.trans e') (k.trans k')
    | brk => exact fun μ' H' σ' e' k' => c μ' H' σ' (e.trans e') (k.trans k')
    | cnt => exact fun μ' H' σ' e' k' => c μ' H' σ' (e.trans e') (k.trans k')
    | ret v => exact fun μ' H' w e' k' => c μ' H' w (e.trans e') (k.trans k')
  | ex cc v ρ h => exact fun μ' H' σ' d vv e' k' => c μ' H' σ' d vv (e.trans e') (k.trans k')
  | wall => exact c
/-- an expression within a statement -/
theorem tM_bindS {α β : Type} {Rel : List Addr → Hp → α → β → Prop} {f : Rho → MH → R α} {g : α → MH → RS'} (rs : RS K μ H ρ σ) (rh : RH K GC μ h H)
    (c : CtS K GC W D μ H ((f ρ h).bindS ρ g)) :
    tM K GC Rel W f σ H fun b H1 => ∃ μ1 a h1, Ext μ μ1 ∧ Keeps K H H1 ∧ RS K μ1 H1 ρ σ ∧ RH K GC μ1 h1 H1 ∧ Rel μ1 H1 a b ∧ CtS K GC W D μ1 H1 (g a h1) := by
  refine ⟨μ, ρ, h, rs, rh, ?_⟩
  cases e : f ρ h with
  | ok a h1 =>
    rw [e] at c
    exact fun μ' H' b e' k' rh' r => ⟨μ', a, h1, e', k', rs.mono e' k', rh', r, CtS.mono c e' k'⟩
  | ex cc v h1 =>
    rw [e] at c
    exact fun μ' H' d vv e' k' rh' r1 hd => c μ' H' σ d vv e' k' rh' (rs.mono e' k') r1 hd
  | wall =>
    rw [e] at c
    exact c
theorem CtS.nx (c : CtS K GC W D μ H (.ok .nx ρ h)) (rs : RS K μ H ρ σ) (rh : RH K GC μ h H) : D.nx σ H := c μ H σ (Ext.refl _) (Keeps.refl _ _) rh rs
theorem tS_imp {f : Rho → MH → RS'} {D' : Ends} (t : tS K GC W f D σ H) (h1 : ∀ σ H, D.nx σ H → D'.nx σ H) (h2 : ∀ v H, D.rt v H → D'.rt v H) (h3 : ∀ σ H, D.bk σ H → D'.bk σ H) (h4 : ∀ σ H, D.ct σ H → D'.ct σ H) : tS K GC W f D' σ H := by
  obtain ⟨μ, ρ, h, rs, rh, c⟩ := t
  refine ⟨μ, ρ, h, rs, rh, ?_⟩
  cases e : f ρ h with
  | ok fl ρ1 hh =>
    rw [e] at c
    cases fl with
    | nx => exact fun μ' H' σ' a b cc d => h1 _ _ (c μ' H' σ' a b cc d)
    | brk => exact fun μ' H' σ' a b cc d => h3 _ _ (c μ' H' σ' a b cc d)
    | cnt => exact fun μ' H' σ' a b cc d => h4 _ _ (c μ' H' σ' a b cc d)
    | ret v => exact fun μ' H' w a b cc d => h2 _ _ (c μ' H' w a b cc d)
  | ex cc v ρ1 hh => rw [e] at c; exact c
  | wall => rw [e] at c; exact c
/-- one statement, then others -/
theorem s_seq {f : Rho → MH → RS'} {g : Rho → MH → RS'} (t : tS K GC W (fun ρ h => (f ρ h).seq g) D σ H) : tSeq (tS K GC W f) (tS K GC W g) D σ H := by
  obtain ⟨μ, ρ, h, rs, rh, c⟩ := t
  have c : CtS K GC W D μ H ((f ρ h).seq g) := c
  refine ⟨μ, ρ, h, rs, rh, ?_⟩
  cases e : f ρ h with
  | ok fl ρ1 hh =>
    rw [e] at c
    cases fl with
    | nx => exact fun μ' H' σ' e' k' rh' rs' => ⟨μ', ρ1, hh, rs', rh', CtS.mono c e' k'⟩
    | brk => exact c
    | cnt => exact c
    | ret v => exact c
  | ex cc v ρ1 hh => rw [e] at c; exact c
  | wall => rw [e] at c; exact c
theorem s_nil (t : tS K GC W (exs P cl []) D σ H) : tNext D σ H := by
  obtain ⟨μ, ρ, h, rs, rh, c⟩ := t
  unfold exs at c
  exact CtS.nx c rs rh
theorem s_cons {s : MS} {ss : List MS} (t : tS K GC W (exs P cl (s :: ss)) D σ H) : tSeq (tS K GC W (ex P cl s)) (tS K GC W (exs P cl ss)) D σ H := by
  refine s_seq ?_
  obtain ⟨μ, ρ, h, rs, rh, c⟩ := t
  unfold exs at c
  exact ⟨μ, ρ, h, rs, rh, c⟩
theorem s_pass (t : tS K GC W (ex P cl .pass) D σ H) : tNext D σ H := by
  obtain ⟨μ, ρ, h, rs, rh, c⟩ := t
  unfold ex at c
  exact CtS.nx c rs rh
theorem s_brk (t : tS K GC W (ex P cl .brk) D σ H) : tBreak D σ H := by
  obtain ⟨μ, ρ, h, rs, rh, c⟩ := t
  unfold ex at c
  exact c μ H σ (Ext.refl _) (Keeps.refl _ _) rh rs
theorem s_cnt (t : tS K GC W (ex P cl .cnt) D σ H) : tCont D σ H := by
  obtain ⟨μ, ρ, h, rs, rh, c⟩ := t
  unfold ex at c
  exact c μ H σ (Ext.refl _) (Keeps.refl _ _) rh rs
theorem s_retN (t : tS K GC W (ex P cl .retN) D σ H) : tRetN D σ H := by
  obtain ⟨μ, ρ, h, rs, rh, c⟩ := t
  unfold ex at c
  exact c μ H .non (Ext.refl _) (Keeps.refl _ _) rh .non
theorem s_ret {e : ME} (t : tS K GC W (ex P cl (.ret e)) D σ H) : tRet (tE K GC W (ev P cl e)) D σ H := by
  obtain ⟨μ, ρ, h, rs, rh, c⟩ := t
  unfold ex at c
  exact tM_imp (tM_bindS (f := ev P cl e) (Rel := RelE K) rs rh c) fun v H1 ⟨μ1, x, h1, e1, k1, rs1, rh1, r1, c1⟩ => c1 μ1 H1 v (Ext.refl _) (Keeps.refl _ _) rh1 r1
theorem s_expr {e : ME} (t : tS K GC W (ex P cl (.expr e)) D σ H) : tDrop (tE K GC W (ev P cl e)) D σ H := by
  obtain ⟨μ, ρ, h, rs, rh, c⟩ := t
  unfold ex at c
  exact tM_imp (tM_bindS (f := ev P cl e) (Rel := RelE K) rs rh c) fun v H1 ⟨μ1, x, h1, e1, k1, rs1, rh1, r1, c1⟩ => CtS.nx c1 rs1 rh1
theorem s_ite {e : ME} {a b : List MS} (t : tS K GC W (ex P cl (.ite e a b)) D σ H) : tIfS (tT K GC W (evT (ev P cl e))) (tS K GC W (exs P cl a)) (tS K GC W (exs P cl b)) D σ H := by
  obtain ⟨μ, ρ, h, rs, rh, c⟩ := t
  unfold ex at c
  refine tM_imp (tM_bindS (f := evT (ev P cl e)) (Rel := RelT) rs rh c) fun v H1 ⟨μ1, x, h1, e1, k1, rs1, rh1, r1, c1⟩ => ?_
  obtain rfl : x = v := r1
  cases x with
  | true => rw [if_pos rfl] at c1 ⊢; exact ⟨μ1, ρ, h1, rs1, rh1, c1⟩
  | false => rw [if_neg Bool.false_ne_true] at c1 ⊢; exact ⟨μ1, ρ, h1, rs1, rh1, c1⟩
theorem s_whl {e : ME} {b : List MS} (t : tS K GC W (ex P cl (.whl e b)) D σ H) : tWhile (tT K GC W (evT (ev P cl e))) (tS K GC W (exs P cl b)) D σ H := by
  obtain ⟨μ, ρ, h, rs, rh, c⟩ := t
  unfold ex at c
  refine ⟨fun m σ' H' => ∃ μ' ρ' h', Ext μ μ' ∧ Keeps K H H' ∧ RS K μ' H' ρ' σ' ∧ RH K GC μ' h' H' ∧ CtS K GC W D μ' H' (whlL (evT (ev P cl e)) (exs P cl b) m ρ' h'), ⟨_, μ, ρ, h, Ext.refl _, Keeps.refl _ _, rs, rh, c⟩, ?_⟩
  rintro m σ' H' ⟨μ', ρ', h', e', k', rs', rh', c'⟩
  cases m with
  | zero => exact c'.elim
  | succ n =>
    unfold whlL at c'
    refine tM_imp (tM_bindS (f := evT (ev P cl e)) (Rel := RelT) rs' rh' c') fun v H1 ⟨μ1, x, h1, e1, k1, rs1, rh1, r1, c1⟩ => ?_
    obtain rfl : x = v := r1
    cases x with
    | false =>
      rw [if_neg Bool.false_ne_true] at c1 ⊢
      exact CtS.nx c1 rs1 rh1
    | true =>
      rw [if_pos rfl] at c1 ⊢
      refine ⟨fun σ2 H2 => ∃ μ2 ρ2 h2, Ext μ μ2 ∧ Keeps K H H2 ∧ RS K μ2 H2 ρ2 σ2 ∧ RH K GC μ2 h2 H2 ∧ CtS K GC W D μ2 H2 (whlL (evT (ev P cl e)) (exs P cl b) n ρ2 h2), fun σ2 H2 w => ⟨n, Nat.lt_succ_self n, w⟩, ?_⟩
      refine ⟨μ1, ρ', h1, rs1, rh1, ?_⟩
      cases eb : exs P cl b ρ' h1 with
      | ok fl ρ2 h2 =>
        rw [eb] at c1
        cases fl with
        | nx => exact fun μ2 H2 σ2 e2 k2 rh2 rs2 => ⟨μ2, ρ2, h2, (e'.trans e1).trans e2, (k'.trans k1).trans k2, rs2, rh2, CtS.mono c1 e2 k2⟩
        | cnt => exact fun μ2 H2 σ2 e2 k2 rh2 rs2 => ⟨μ2, ρ2, h2, (e'.trans e1).trans e2, (k'.trans k1).trans k2, rs2, rh2, CtS.mono c1 e2 k2⟩
        | brk => exact c1
        | ret v => exact c1
      | ex cc v ρ2 h2 => rw [eb] at c1; exact c1
      | wall => rw [eb] at c1; exact c1
theorem s_for {k : IK} {es : List ME} {tg : MT} {b : List MS} {wi : TI} {g : TG} (hp : PutOk K tg g)
    (hw : ∀ σ H R, tI K GC W (fun ρ h => (evs P cl es ρ h).bind (srcM k)) σ H R → wi σ H R) (t : tS K GC W (ex P cl (.for k es tg b)) D σ H) : tFor wi g (tS K GC W (exs P cl b)) D σ H := by
  obtain ⟨μ, ρ, h, rs, rh, c0⟩ := t
  unfold ex at c0
  refine hw σ H _ ?_
  refine tM_imp (tM_bindS (f := fun ρ h => (evs P cl es ρ h).bind (srcM k)) (Rel := fun μ H s J => JR K GC μ H s J) rs rh c0) fun J H1 ⟨μ1, s, h2, e1, k1, rs1, rh1, jr, c1⟩ => ?_
  refine ⟨fun i m σ' H' => ∃ μ' ρ' h', Ext μ1 μ' ∧ Keeps K H1 H' ∧ RS K μ' H' ρ' σ' ∧ RH K GC μ' h' H' ∧ CtS K GC W D μ' H' (forL s tg (exs P cl b) h2.length m i ρ' h'), ⟨_, μ1, ρ, h2, Ext.refl _, Keeps.refl _ _, rs1, rh1, c1⟩, ?_⟩
  rintro i m σ' H' ⟨μ', ρ', h', e', k', rs', rh', c'⟩
  obtain ⟨js, ji⟩ := jr μ' H' h' i e' k' rh'
  cases m with
  | zero =>
    unfold forL at c'
    split at c'
    · rename_i st
      exact .inl ⟨js st, CtS.nx c' rs' rh'⟩
    · exact c'.elim
  | succ n =>
    unfold forL at c'
    split at c'
    · rename_i st
      exact .inl ⟨js st, CtS.nx c' rs' rh'⟩
    · split at c'
      · exact c'.elim
      · rename_i x ex
        split at c'
        · exact c'.elim
        · rename_i ρ1 ep
          obtain ⟨jg, jy⟩ := ji x ex
          refine .inr ⟨jg, fun σ2 H2 => ∃ μ2 ρ2 h4, Ext μ1 μ2 ∧ Keeps K H1 H2 ∧ RS K μ2 H2 ρ2 σ2 ∧ RH K GC μ2 h4 H2 ∧ CtS K GC W D μ2 H2 (forL s tg (exs P cl b) h2.length n (i + 1) ρ2 h4), fun σ2 H2 w => ⟨n, Nat.lt_succ_self n, w⟩, fun v H2 yl => ?_⟩
          obtain ⟨ky, rhy, rvy⟩ := jy v H2 yl
          refine hp μ' H2 _ _ x v ρ1 _ (rs'.mono (Ext.refl _) ky) rvy ep fun σ3 rs3 ch => ?_
          have c2 := CtS.mono c' (Ext.refl _) ky
          refine ⟨μ', ρ1, h', rs3, rhy, ?_⟩
          cases eb : exs P cl b ρ1 h' with
          | ok fl ρ2 h3 =>
            rw [eb] at c2
            have go : ∀ μ2 H3 σ3, Ext μ' μ2 → Keeps K H2 H3 → RH K GC μ2 h3 H3 → RS K μ2 H3 ρ2 σ3 → CtS K GC W D μ' H2 (cutM h2.length h' ρ2 h3 fun ρ3 h3 => forL s tg (exs P cl b) h2.length n (i + 1) ρ3 h3) →
                ∃ μ2 ρ2 h4, Ext μ1 μ2 ∧ Keeps K H1 H3 ∧ RS K μ2 H3 ρ2 σ3 ∧ RH K GC μ2 h4 H3 ∧ CtS K GC W D μ2 H3 (forL s tg (exs P cl b) h2.length n (i + 1) ρ2 h4) := fun μ2 H3 σ3 e2 k2 rh2 rs2 c3 => by
              unfold cutM at c3
              split at c3
              · rename_i q
                rw [frL_eq, frL_eq] at c3
                unfold cutB at q
                rw [Bool.and_eq_true, Bool.and_eq_true, Bool.and_eq_true] at q
                obtain ⟨q1, q2, q3, q4⟩ := q
                have q1 := Nat.le_of_ble_eq_true q1
                have q2 := Nat.le_of_ble_eq_true q2
                have ql : (h3.take h2.length).length = h2.length := by rw [List.length_take]; omega
                have rh3 : RH K GC μ2 (h3.take h2.length ++ h3.drop h2.length) H3 := by rw [List.take_append_drop]; exact rh2
                have rd := RH.drop (by rw [ql]; exact q4) rh3
                rw [ql] at rd
                have e4 : Ext μ' (μ2.take h2.length) := ext_take e2 (by rw [rh'.len]; exact q1)
                exact ⟨μ2.take h2.length, ρ2, h3.take h2.length, e'.trans e4, (k'.trans ky).trans k2, bndR_ok q3 rs2, rd, CtS.mono c3 e4 k2⟩
              · exact ⟨μ2, ρ2, h3, e'.trans e2, (k'.trans ky).trans k2, rs2, rh2, CtS.mono c3 e2 k2⟩
            cases fl with
            | nx => exact fun μ2 H3 σ3 e2 k2 rh2 rs2 => go μ2 H3 σ3 e2 k2 rh2 rs2 c2
            | cnt => exact fun μ2 H3 σ3 e2 k2 rh2 rs2 => go μ2 H3 σ3 e2 k2 rh2 rs2 c2
            | brk => exact c2
            | ret v => exact c2
          | ex cc v ρ2 h2 => rw [eb] at c2; exact c2
          | wall => rw [eb] at c2; exact c2
end
end Mi
set_option maxHeartbeats 4000000
namespace Mi
open PySem PySem.Spec L2
variable [Th]

/-! ## fields that are put -/
theorem put_nm {NM : List Str} (nd : NM.Nodup) {K : PySem.W.Frag} {μ : List Addr} {H : Hp} {f : Nat} {nm : Str} (ef : NM[f]? = some nm) {x : MV} {v : V} (r : RV K μ H x v) : ∀ {fs : List (Nat × MV)} {gs : List (Str × V)}, (gs.map fun p => some p.1) = (fs.map fun p => NM[p.1]?) → RVs K μ H (fs.map (·.2)) (gs.map (·.2)) →
    ((putF nm v gs).map fun p => some p.1) = ((putFM f x fs).map fun p => NM[p.1]?) ∧ RVs K μ H ((putFM f x fs).map (·.2)) ((putF nm v gs).map (·.2))
  | [], [], _, _ => ⟨by show [some nm] = [NM[f]?]; rw [ef], .cons r .nil⟩
  | [], _ :: _, e, _ => by cases e
  | _ :: _, [], e, _ => by cases e
  | (i, y) :: fs, (n, w) :: gs, e, rr => by
    rw [List.map_cons, List.map_cons] at e
    injection e with e1 e2
    have e1' : some n = NM[i]? := e1
    cases rr with
    | cons r1 r2 =>
      unfold putFM putF
      by_cases z : i = f
      · subst z
        rw [ef] at e1'
        cases e1'
        rw [if_pos rfl, if_pos rfl]
        refine ⟨?_, .cons r r2⟩
        rw [List.map_cons, List.map_cons, e2]
        show some nm :: _ = NM[i]? :: _
        rw [ef]
      · have nn : ¬ n = nm := fun q => by
          subst q
          obtain ⟨h1, e1⟩ := List.getElem?_eq_some_iff.mp ef
          obtain ⟨h2, e2'⟩ := List.getElem?_eq_some_iff.mp e1'.symm
          exact z ((List.getElem_inj nd).mp (e2'.trans e1.symm))
        rw [if_neg z, if_neg nn]
        obtain ⟨q1, q2⟩ := put_nm nd ef r e2 r2
        refine ⟨?_, .cons r1 q2⟩
        rw [List.map_cons, List.map_cons, q1]
        show some n :: _ = NM[i]? :: _
        rw [e1']
theorem any_key {K : PySem.W.Frag} {μ : List Addr} {H : Hp} (k : Key) : ∀ {kvs : List (Key × MV)} {kws : List (Key × V)}, kws.map (·.1) = kvs.map (·.1) → (kws.any fun kv => decide (kv.1 = k)) = (kvs.any fun kv => decide (kv.1 = k))
  | [], [], _ => rfl
  | [], _ :: _, e => by cases e
  | _ :: _, [], e => by cases e
  | (a, x) :: kvs, (b, v) :: kws, e => by
    rw [List.map_cons, List.map_cons] at e
    injection e with e1 e2
    have e1' : b = a := e1
    subst e1'
    rw [List.any_cons, List.any_cons, any_key (K := K) (μ := μ) (H := H) k e2]
theorem map_key {K : PySem.W.Frag} {μ : List Addr} {H : Hp} {y : MV} {w : V} (r : RV K μ H y w) (k : Key) : ∀ {kvs : List (Key × MV)} {kws : List (Key × V)}, kws.map (·.1) = kvs.map (·.1) → RVs K μ H (kvs.map (·.2)) (kws.map (·.2)) →
    ((kws.map fun kv => if kv.1 = k then (kv.1, w) else kv).map (·.1)) = ((kvs.map fun kv => if kv.1 = k then (kv.1, y) else kv).map (·.1)) ∧ RVs K μ H ((kvs.map fun kv => if kv.1 = k then (kv.1, y) else kv).map (·.2)) ((kws.map fun kv => if kv.1 = k then (kv.1, w) else kv).map (·.2))
  | [], [], _, _ => ⟨rfl, .nil⟩
  | [], _ :: _, e, _ => by cases e
  | _ :: _, [], e, _ => by cases e
  | (a, x) :: kvs, (b, v) :: kws, e, rr => by
    rw [List.map_cons, List.map_cons] at e
    injection e with e1 e2
    have e1' : b = a := e1
    subst e1'
    cases rr with
    | cons r1 r2 =>
      obtain ⟨q1, q2⟩ := map_key r k e2 r2
      by_cases z : b = k
      · simp only [List.map_cons, if_pos z]
        exact ⟨by rw [q1], .cons r q2⟩
      · simp only [List.map_cons, if_neg z]
        exact ⟨by rw [q1], .cons r1 q2⟩
theorem put_key {K : PySem.W.Frag} {μ : List Addr} {H : Hp} {y : MV} {w : V} (r : RV K μ H y w) (k : Key) {kvs : List (Key × MV)} {kws : List (Key × V)} (e : kws.map (·.1) = kvs.map (·.1)) (rr : RVs K μ H (kvs.map (·.2)) (kws.map (·.2))) :
    (putK kws k w).map (·.1) = (putKM kvs k y).map (·.1) ∧ RVs K μ H ((putKM kvs k y).map (·.2)) ((putK kws k w).map (·.2)) := by
  unfold putK putKM
  simp only [keyF_eq, decide_eq_true_eq]
  rw [any_key (K := K) (μ := μ) (H := H) k e]
  split
  · exact map_key r k e rr
  · rw [List.map_append, List.map_append, List.map_append, List.map_append, e]
    exact ⟨rfl, rr.append (.cons r .nil)⟩

/-! ## targets -/
section
variable {X : Cx} {o i : Expr} {pos : Pos} {f : Str} {to ti : TE}
def gFld (K : PySem.W.Frag) (to : TE) (f : Str) : TG := fun v σ H Q => to σ H fun x H2 => ∃ a C dx fs, x = .ref a ∧ H2 a = some (.ins C dx fs) ∧ Cls K C ∧ NoAttr K C f ∧ fs.length < 1000 ∧ Q σ (upd H2 a (.ins C dx (putF f v fs)))
theorem pg_fldG (ho : PE X o to) : PG X (.Attribute o f pos) (gFld X.K to f) := by
  refine ⟨fun pins s σ H v u Q I r h => ?_⟩
  show wpAny _ _ (do
      let ov ← holding [u] (eval o X.env)
      standAt pos.atName
      holding [u, ov] (setAttr ov f u)
      release [u, ov] []) _ _ _
  refine wpAny_bind (wpAny_holding (thn (ho.run pins s σ H _ I h) fun ov s1 ⟨x, H1, I1, r1, a, C, dx, fs, ex, ea, c, n, l, q⟩ => ?_))
  subst ex
  obtain rfl : ov = Value.ref a := r1
  refine wpAny_bind (wpAny_standAt (wpAny_bind (wpAny_holding (setattr_ok I1 ea c n l r fun s3 I3 => ?_))))
  exact wpAny_release ⟨σ, _, I3, q⟩
theorem PSet.or {t t' : TSet} (h : PSet X t) (h' : PSet X t') : PSet X (fun o i v H Q => t o i v H Q ∨ t' o i v H Q) := by
  intro pins s σ H o i v ov iv u Q I ro ri rv q
  rcases q with q | q
  · exact h pins s σ H o i v ov iv u Q I ro ri rv q
  · exact h' pins s σ H o i v ov iv u Q I ro ri rv q
end
def rSetM : TSet := fun o i v H Q => rSetL o i v H Q ∨ rSetD o i v H Q
theorem set_M {X : Cx} (hu : X.A.units + 1 < cLine) : PSet X rSetM := PSet.or set_list (set_dict hu)
/-- behind a target: the rest -/
def DT (Q : L2.St → Hp → Prop) : Ends := ⟨Q, fun _ _ => True, fun _ _ => True, fun _ _ => True⟩
section
variable (K : PySem.W.Frag) (GC : Gn) (P : Prg) (cl : CallF) (W : WX)
def tG (g : MG) : TG := fun v σ H Q => ∃ μ ρ h x, RS K μ H ρ σ ∧ RH K GC μ h H ∧ RV K μ H x v ∧ CtS K GC W (DT Q) μ H (asg P cl g x ρ h)
def tGs (gs : List MG) : TGs := fun vs σ H Q => ∃ μ ρ h xs, RS K μ H ρ σ ∧ RH K GC μ h H ∧ RVs K μ H xs vs ∧ CtS K GC W (DT Q) μ H (asgs P cl gs xs ρ h)
end
section
variable {K : PySem.W.Frag} {GC : Gn} {P : Prg} {cl : CallF} {W : WX} {D : Ends} {σ : L2.St} {μ μ1 : List Addr} {H H1 : Hp} {ρ : Rho} {h : MH} {v : V} {vs : List V} {Q : L2.St → Hp → Prop}
theorem g_name {i : Nat} (t : tG K GC P cl W (.name i) v σ H Q) : gName i v σ H Q := by
  obtain ⟨μ, ρ, h, x, rs, rh, rv, c⟩ := t
  unfold asg at c
  exact CtS.nx c (rs.set i rv) rh
/-- a field is set -/
theorem set_fld {T : GT} {k : Nat} {P0 : Program} {w : World} {mg : Str → Option Value} {base : Heap} {f : Nat} {nm : Str} (wd : Wd T P cl GC k P0 w K mg base) (ef : GC.NM[f]? = some nm) {x y : MV} {u v : V} {h2 : MH}
    (rh : RH K GC μ h H) (rx : RV K μ H x u) (ry : RV K μ H y v) (e : setFM P f x y h = some h2) : ∃ a cc dx gs, u = .ref a ∧ H a = some (.ins (GC.C cc) dx gs) ∧ Cls K (GC.C cc) ∧ NoAttr K (GC.C cc) nm ∧ gs.length < 1000 ∧
      Keeps K H (upd H a (.ins (GC.C cc) dx (putF nm v gs))) ∧ RH K GC μ h2 (upd H a (.ins (GC.C cc) dx (putF nm v gs))) ∧ clsM x h = some cc := by
  unfold setFM at e
  cases rx with
  | ref ha =>
    simp only at e
    split at e
    · rename_i cc fs eh
      obtain ⟨dx, gs, q, ek, rv⟩ := rh.ins ha eh
      split at e
      · rename_i C eC
        split at e
        · rename_i hat
          cases e
          obtain ⟨hat, hl⟩ := hat
          rw [Bool.and_eq_true, Bool.not_eq_true'] at hat
          have CW := wd.clsW cc C eC hat.1
          obtain ⟨nm', en, na⟩ := CW.attr f hat.2
          rw [ef] at en
          cases en
          have kk : Keeps K H (upd H _ (.ins (GC.C cc) dx (putF nm v gs))) := Keeps.put q (fun _ z => nomatch z) (fun _ _ z => nomatch z)
          have ll : gs.length = fs.length := by have := congrArg List.length ek; rw [List.length_map, List.length_map] at this; exact this
          obtain ⟨q1, q2⟩ := put_nm wd.nm ef ry ek rv
          exact ⟨_, cc, dx, gs, rfl, q, CW.cls, na, by rw [ll]; exact hl, kk, rh.put (o := .ins cc (putFM f y fs)) ha q (fun _ z => nomatch z) (fun _ _ z => nomatch z) (fun _ _ z => nomatch z) ⟨dx, _, upd_same, q1, q2.mono (Ext.refl _) kk⟩, by unfold clsM; simp only; rw [eh]⟩
        · cases e
      · cases e
    · cases e
  | _ => cases e
/-- a field is read -/
theorem fld_get {T : GT} {k : Nat} {P0 : Program} {w : World} {mg : Str → Option Value} {base : Heap} {f : Nat} {nm : Str} (wd : Wd T P cl GC k P0 w K mg base) (ef : GC.NM[f]? = some nm) {x y : MV} {u : V} {h1 : MH}
    (rh : RH K GC μ h H) (rx : RV K μ H x u) (e0 : fldI P f x h = .ok y h1) : h1 = h ∧ ∃ a cc dx gs z, u = .ref a ∧ H a = some (.ins (GC.C cc) dx gs) ∧ Cls K (GC.C cc) ∧ NoAttr K (GC.C cc) nm ∧ gs.lookup nm = some z ∧ RV K μ H y z ∧ clsM x h = some cc := by
  obtain ⟨cq, hq, e⟩ : ∃ cq, clsM x h = some cq ∧ fldM P f x h = .ok y h1 := by
    unfold fldI at e0
    split at e0
    · rename_i z hz
      exact ⟨z, hz, e0⟩
    · cases e0
  unfold fldM at e
  cases rx with
  | ref ha =>
    simp only at e
    split at e
    · rename_i cc fs eh
      obtain ⟨dx, gs, q, ek, rv⟩ := rh.ins ha eh
      split at e
      · rename_i C eC
        split at e
        · rename_i hat
          split at e
          · rename_i y' el
            cases e
            rw [Bool.and_eq_true, Bool.not_eq_true'] at hat
            have CW := wd.clsW cc C eC hat.1
            obtain ⟨nm', en, na⟩ := CW.attr f hat.2
            rw [ef] at en
            cases en
            rcases look_nm wd.nm ef ek rv with ⟨x', v', l1, l2, r'⟩ | ⟨l1, l2⟩
            · rw [el] at l1
              cases l1
              exact ⟨rfl, _, cc, dx, gs, v', rfl, q, CW.cls, na, l2, r', by unfold clsM; simp only; rw [eh]⟩
            · rw [el] at l1; cases l1
          · cases e
        · cases e
      · cases e
    · rename_i cc v eh
      unfold clsM at hq
      simp only at hq
      rw [eh] at hq
      cases hq
    · cases e
  | _ => cases e
theorem g_fld {T : GT} {k : Nat} {P0 : Program} {w : World} {mg : Str → Option Value} {base : Heap} {f : Nat} {nm : Str} {o : ME} (wd : Wd T P cl GC k P0 w K mg base) (ef : GC.NM[f]? = some nm)
    (t : tG K GC P cl W (.fld o f) v σ H Q) : gFld K (tE K GC W (ev P cl o)) nm v σ H Q := by
  obtain ⟨μ, ρ, h, y, rs, rh, rv, c⟩ := t
  unfold asg at c
  refine tM_imp (tM_bindS (f := ev P cl o) (Rel := RelE K) rs rh c) fun u H1 ⟨μ1, x, h1, e1, k1, rs1, rh1, r1, c1⟩ => ?_
  split at c1
  · rename_i h2 es
    obtain ⟨a, cc, dx, gs, q1, q2, q3, q4, q5, q6, q7, _⟩ := set_fld wd ef rh1 r1 (rv.mono e1 k1) es
    exact ⟨a, _, dx, gs, q1, q2, q3, q4, q5, c1 μ1 _ σ (Ext.refl _) q6 q7 (rs1.mono (Ext.refl _) q6)⟩
  · exact c1.elim
theorem set_ix {x y z : MV} {a b v : V} {h2 : MH} {R : Hp → Prop} (rh : RH K GC μ h H) (rx : RV K μ H x a) (ry : RV K μ H y b) (rz : RV K μ H z v) (e : setIM x y z h = some h2)
    (q : ∀ H', Keeps K H H' → RH K GC μ h2 H' → R H') : rSetM a b v H R := by
  unfold setIM at e
  cases rx with
  | ref ha =>
    simp only at e
    split at e
    · rename_i xs eh
      obtain ⟨vs, q1, rv⟩ := rh.lst ha eh
      cases ry with
      | int i =>
        simp only at e
        split at e
        · rename_i j ej
          cases e
          have kk : Keeps K H (upd H _ (.lst (vs.set j v))) := Keeps.put q1 (fun _ z => nomatch z) (fun _ _ z => nomatch z)
          exact .inl ⟨_, vs, i, j, rfl, rfl, q1, by rw [← rv.length]; exact ej, q _ kk (rh.put (o := .lst (xs.set j z)) ha q1 (fun _ z => nomatch z) (fun _ _ z => nomatch z) (fun _ _ z => nomatch z) ⟨_, upd_same, (rv.set rz j).mono (Ext.refl _) kk⟩)⟩
        · cases e
      | _ => cases e
    · rename_i kvs eh
      obtain ⟨kws, q1, ek, rv⟩ := rh.dct ha eh
      split at e
      · rename_i kk ke
        have evv := keyM_kV ry ke
        split at e
        · rename_i hz
          cases e
          have ll : kws.length = kvs.length := by have := congrArg List.length ek; rw [List.length_map, List.length_map] at this; exact this
          have kp : Keeps K H (upd H _ (.dK (putK kws kk v))) := Keeps.put q1 (fun _ z => nomatch z) (fun _ _ z => nomatch z)
          obtain ⟨p1, p2⟩ := put_key rz kk ek rv
          exact .inr ⟨_, _, rfl, by rw [evv]; exact DPut.k q1 (by rw [ll, SZ_eq]; exact hz), q _ kp (rh.put (o := .dct (putKM kvs kk z)) ha q1 (fun _ z => nomatch z) (fun _ _ z => nomatch z) (fun _ _ z => nomatch z) ⟨_, upd_same, p1, p2.mono (Ext.refl _) kp⟩)⟩
        · cases e
      · cases e
    · cases e
  | _ => cases e
theorem g_ix {o i : ME} (t : tG K GC P cl W (.ix o i) v σ H Q) : gSub (tE K GC W (ev P cl o)) (tE K GC W (ev P cl i)) rSetM v σ H Q := by
  obtain ⟨μ, ρ, h, z, rs, rh, rv, c⟩ := t
  unfold asg at c
  refine tM_imp (tM_bindS (f := ev P cl o) (Rel := RelE K) rs rh c) fun u H1 ⟨μ1, x, h1, e1, k1, rs1, rh1, r1, c1⟩ => ?_
  refine tM_imp (tM_bindS (f := ev P cl i) (Rel := RelE K) rs1 rh1 c1) fun b H2 ⟨μ2, y, h2, e2, k2, rs2, rh2, r2, c2⟩ => ?_
  split at c2
  · rename_i h3 es
    exact set_ix rh2 (r1.mono e2 k2) r2 ((rv.mono e1 k1).mono e2 k2) es fun H' kk rh' => c2 μ2 H' σ (Ext.refl _) kk rh' (rs2.mono (Ext.refl _) kk)
  · exact c2.elim
theorem g_nil (t : tGs K GC P cl W [] vs σ H Q) : gNil vs σ H Q := by
  obtain ⟨μ, ρ, h, xs, rs, rh, rv, c⟩ := t
  cases rv with
  | nil =>
    unfold asgs at c
    exact ⟨rfl, CtS.nx c rs rh⟩
  | cons _ _ => unfold asgs at c; exact c.elim
theorem g_cons {g : MG} {gs : List MG} (t : tGs K GC P cl W (g :: gs) vs σ H Q) : gCons (tG K GC P cl W g) (tGs K GC P cl W gs) vs σ H Q := by
  obtain ⟨μ, ρ, h, xs, rs, rh, rv, c⟩ := t
  cases rv with
  | nil => unfold asgs at c; exact c.elim
  | @cons x v xs vs r1 r2 =>
    unfold asgs at c
    refine ⟨v, vs, rfl, μ, ρ, h, x, rs, rh, r1, ?_⟩
    cases e : asg P cl g x ρ h with
    | ok fl ρ1 hh =>
      rw [e] at c
      cases fl with
      | nx => exact fun μ' H' σ' e' k' rh' rs' => ⟨μ', ρ1, hh, xs, rs', rh', r2.mono e' k', CtS.mono c e' k'⟩
      | brk => exact fun _ _ _ _ _ _ _ => True.intro
      | cnt => exact fun _ _ _ _ _ _ _ => True.intro
      | ret w => exact fun _ _ _ _ _ _ _ => True.intro
    | ex cc w ρ1 hh => rw [e] at c; exact c
    | wall => rw [e] at c; exact c.elim
theorem g_tup {gs : List MG} {n : Nat} (hn : gs.length = n) (t : tG K GC P cl W (.tup gs) v σ H Q) : gTup K n (tGs K GC P cl W gs) v σ H Q := by
  obtain ⟨μ, ρ, h, x, rs, rh, rv, c⟩ := t
  cases rv with
  | @tup a xs vs hs rvs =>
    unfold asg at c
    split at c
    · rename_i l
      exact ⟨a, vs, rfl, hs, by rw [← rvs.length, l]; exact hn, μ, ρ, h, xs, rs, rh, rvs, c⟩
    · exact c.elim
  | _ => unfold asg at c; exact c.elim
/-- name, .. = e, as a statement -/
theorem s_asg {g : MG} {e : ME} (t : tS K GC W (ex P cl (.asg g e)) D σ H) : tAsg (tE K GC W (ev P cl e)) (tG K GC P cl W g) D σ H := by
  obtain ⟨μ, ρ, h, rs, rh, c⟩ := t
  unfold ex at c
  refine tM_imp (tM_bindS (f := ev P cl e) (Rel := RelE K) rs rh c) fun v H1 ⟨μ1, x, h1, e1, k1, rs1, rh1, r1, c1⟩ => ?_
  refine ⟨μ1, ρ, h1, x, rs1, rh1, r1, ?_⟩
  cases e0 : asg P cl g x ρ h1 with
  | ok fl ρ1 hh =>
    rw [e0] at c1
    cases fl with
    | nx => exact c1
    | brk => exact fun _ _ _ _ _ _ _ => True.intro
    | cnt => exact fun _ _ _ _ _ _ _ => True.intro
    | ret w => exact fun _ _ _ _ _ _ _ => True.intro
  | ex cc w ρ1 hh => rw [e0] at c1; exact c1
  | wall => rw [e0] at c1; exact c1
/-- raise C(e) -/
theorem s_raise {cc : Nat} {e : ME} (oex : OexC K (GC.C cc)) (noV : PySem.W.findIn K (.ref (GC.C cc)) "value" = some none) (t : tS K GC W (ex P cl (.raise cc e)) D σ H) :
    tMkO (GC.C cc) (spI K) [] (tA K GC W (evs P cl [e])) σ H fun cls d H' => W cls d σ H' := by
  obtain ⟨μ, ρ, h, rs, rh, c⟩ := t
  unfold ex at c
  have c' : CtS K GC W D μ H ((evs P cl [e] ρ h).bindS ρ fun xs h1 => match xs with | [v] => .ex cc v ρ h1 | _ => .wall) := by
    unfold evs evs
    cases e0 : ev P cl e ρ h with
    | ok a h1 => rw [e0] at c; exact c
    | ex c0 v h1 => rw [e0] at c; exact c
    | wall => rw [e0] at c; exact c
  refine tM_imp (tM_bindS (f := evs P cl [e]) (Rel := RelA K) rs rh c') fun vs H1 ⟨μ1, xs, h1, e1, k1, rs1, rh1, r1, c1⟩ => ?_
  cases r1 with
  | nil => exact c1.elim
  | @cons x v xs vs r1 r2 =>
    cases r2 with
    | cons _ _ => exact c1.elim
    | nil =>
      refine ⟨(by decide : 1 ≤ 1000), fun a ha => ?_⟩
      refine ⟨a, GC.C cc, v, rfl, oex, noV, upd_same, fun dx hdx hne => ⟨rfl, dx, [("value", v)], upd_same, ?_, ?_, ?_⟩⟩
      · rw [upd_ne hne, upd_same]
      · rw [upd_ne hne] at hdx; exact hdx
      · have hd1 : H1 dx = none := by rw [upd_ne hne] at hdx; exact hdx
        have sm : ∀ b u, H1 b = some u → (upd (del (upd (upd (upd H1 a (exo a (GC.C cc) none)) dx (exd dx [("value", v)])) a (exo a (GC.C cc) (some dx))) a) dx (.xd [("value", v)])) b = some u := fun b u q => by
          have n1 : b ≠ a := ne_of_none q ha
          have n2 : b ≠ dx := ne_of_none q hd1
          rw [upd_ne n2, del_ne n1, upd_ne n1, upd_ne n2, upd_ne n1]
          exact q
        have kk := Keeps.same (K := K) sm
        exact c1 μ1 _ σ dx v (Ext.refl _) kk (rh1.same sm) (rs1.mono (Ext.refl _) kk) (r1.mono (Ext.refl _) kk) upd_same
end
end Mi
set_option maxHeartbeats 8000000
namespace Mi
open PySem PySem.Spec L2
variable [Th]

/-! ## more readings -/
section
variable {K : PySem.W.Frag} {GC : Gn} {P : Prg} {cl : CallF} {W : WX} {D : Ends} {σ : L2.St} {μ μ1 : List Addr} {H H1 : Hp} {ρ : Rho} {h : MH} {Q : VK} {a o : ME} {es : List ME}
theorem t_neg (t : tE K GC W (ev P cl (.neg a)) σ H Q) : tUn (rU fun i => .int (-i)) (tE K GC W (ev P cl a)) σ H Q := by
  obtain ⟨μ, ρ, h, rs, rh, c⟩ := t
  unfold ev at c
  refine tM_imp (tM_bind (f := ev P cl a) (Rel := RelE K) rs rh c) fun v H1 ⟨μ1, x, h1, e1, k1, rs1, rh1, r1, c1⟩ => ?_
  cases r1 <;> first | exact c1.elim | exact ⟨_, rfl, Ct.ok c1 rh1 (.int _)⟩
theorem t_bi {b : Bi} {r : List V → Hp → VK → Prop} (hr : OpN K GC b.run r) (t : tE K GC W (ev P cl (.bi b es)) σ H Q) : tCB r (tA K GC W (evs P cl es)) σ H Q := by
  obtain ⟨μ, ρ, h, rs, rh, c⟩ := t
  unfold ev at c
  exact t_opN (f := b.run) (fa := evs P cl es) hr ⟨μ, ρ, h, rs, rh, c⟩
/-- a class named -/
def clV (GC : Gn) : Cl → V
  | .ty n => .ty n
  | .own i => .ref (GC.C i)
def clU (GC : Gn) : Cl → Value
  | .ty n => .type n
  | .own i => .ref (GC.C i)
theorem cl_ok (GC : Gn) (c : Cl) : ClsV (clV GC c) (clU GC c) := by cases c; exact .ty _; exact .own _
theorem tyM_X {T : GT} {k : Nat} {P0 : Program} {w : World} {mg : Str → Option Value} {base : Heap} (wd : Wd T P cl GC k P0 w K mg base) {x : MV} {v : V} {t : Cl} (rh : RH K GC μ h H) (rx : RV K μ H x v) (e : tyM x h = some t) (hc : okT P x h = true) :
    TyX K H v (clU GC t) ∨ ∃ (a D dd : Addr) (fs : List (Str × V)), v = .ref a ∧ clU GC t = .ref D ∧ H a = some (exv a (.ref D) (some dd)) ∧ H dd = some (.xd fs) ∧ ExcC K D := by
  cases rx with
  | non => cases e; exact .inl (.base .non)
  | bl b => cases e; exact .inl (.base (.bl b))
  | int i => cases e; exact .inl (.base (.int i))
  | str s => cases e; exact .inl (.base (.str s))
  | tup hs rs =>
    cases e
    rcases hs with (q | ⟨o, q⟩) | ⟨o, its, n, q, c, _⟩
    · exact .inl (.base (.tup q))
    · exact .inl (.fTuple q)
    · exact .inl (.kTuple q c)
  | sym i => cases e
  | scr hk =>
    cases e
    rcases hk with ⟨o, q⟩ | ⟨o, its, n, q, c, _⟩
    · exact .inl (.base (.frz q))
    · exact .inl (.kList q c)
  | ref ha =>
    unfold tyM at e
    unfold okT at hc
    simp only at e hc
    split at e
    · rename_i xs eh
      cases e
      obtain ⟨vs, q, _⟩ := rh.lst ha eh
      exact .inl (.base (.lst q))
    · rename_i kvs eh
      cases e
      obtain ⟨kws, q, _⟩ := rh.dct ha eh
      exact .inl (.base (.dK q))
    · rename_i c fs eh
      cases e
      rw [eh] at hc
      simp only at hc
      obtain ⟨dx, gs, q, _⟩ := rh.ins ha eh
      cases eC : P.cls[c]? with
      | none => rw [eC] at hc; cases hc
      | some C =>
        rw [eC] at hc
        have CW := wd.clsW c C eC (by simpa using hc)
        exact .inl (.base (.ins q CW.cls CW.kha CW.khn CW.kht CW.khm))
    · rename_i c y eh
      cases e
      rw [eh] at hc
      simp only at hc
      obtain ⟨dx, vv, q1, q2, _⟩ := rh.exc ha eh
      cases eC : P.cls[c]? with
      | none => rw [eC] at hc; cases hc
      | some C =>
        rw [eC] at hc
        have EW := wd.excW c C eC hc
        exact .inr ⟨_, _, dx, _, rfl, rfl, q1, q2, EW.exC⟩
    · cases e
def rIsA (K : PySem.W.Frag) : List V → Hp → VK → Prop := fun xs H Q => rIsi K xs H Q ∨ rIsV K xs H Q
theorem call_isA {X : Cx} : CallR X (.builtin "isinstance") (rIsA X.K) := call_isi.or call_isV
theorem t_isi {T : GT} {k : Nat} {P0 : Program} {w : World} {mg : Str → Option Value} {base : Heap} (wd : Wd T P cl GC k P0 w K mg base) {c : Cl} (t : tE K GC W (ev P cl (.isi a c)) σ H Q) : tCB (rIsA K) (tCons (tE K GC W (ev P cl a)) (tCons (tC (clV GC c)) tNil)) σ H Q := by
  obtain ⟨μ, ρ, h, rs, rh, c0⟩ := t
  unfold ev at c0
  refine tM_imp (tM_bind (f := ev P cl a) (Rel := RelE K) rs rh c0) fun v H1 ⟨μ1, x, h1, e1, k1, rs1, rh1, r1, c1⟩ => ?_
  unfold isiM at c1
  split at c1
  · rename_i ty et
    split at c1
    · rename_i b eb
      split at c1
      · rename_i hcc
        have hk : PySem.W.kitOne K (clU GC ty) (clU GC c) = some b := by
          have := wd.isa ty c b eb
          cases ty <;> cases c <;> exact this
        rcases tyM_X wd rh1 r1 et hcc with z | ⟨q, D, dd, fs, rfl, eD, q1, q2, q3⟩
        · exact .inl ⟨v, clV GC c, clU GC ty, clU GC c, b, rfl, cl_ok GC c, z, hk, Ct.ok c1 rh1 (.bl _)⟩
        · exact .inr ⟨q, D, dd, fs, clV GC c, clU GC c, b, rfl, q1, q2, q3, cl_ok GC c, by rw [← eD]; exact hk, Ct.ok c1 rh1 (.bl _)⟩
      · exact c1.elim
    · exact c1.elim
  · exact c1.elim
/-- op= -/
def rAugM (o : Bop) : R2 := match o with
  | .add => fun x y H Q => (rI0 fun i j => .int (i + j)) x y H Q ∨ rAddS x y H Q
  | .sub => rI0 fun i j => .int (i - j)
  | _ => fun _ _ _ _ => False
def Bop.op : Bop → Operator
  | .add => .Add | .sub => .Sub | .mul => .Mult | .fdiv => .FloorDiv | .mod => .Mod | .pow => .Pow
theorem op_augM {X : Cx} (o : Bop) : OpR X (inplaceOp o.op) (rAugM o) := by
  cases o with
  | add => exact iop_add.or iop_add_str
  | sub => exact iop_sub
  | _ => exact fun _ _ _ _ _ _ _ _ _ _ _ _ z => z.elim
theorem o_aug (o : Bop) : Op2 K GC (augM o) (rAugM o) := by
  intro W σ μ H h x y v u Q rh rx ry c
  cases o <;> cases rx <;> cases ry <;> first
    | exact c.elim
    | exact .inl ⟨_, _, rfl, rfl, Ct.ok c rh (.int _)⟩
    | exact ⟨_, _, rfl, rfl, Ct.ok c rh (.int _)⟩
    | (unfold augM at c
       simp only [appF_eq] at c
       split at c
       · rename_i z
         exact .inr ⟨_, _, rfl, rfl, by rw [SZ_eq]; exact z, Ct.ok c rh (.str _)⟩
       · exact c.elim)
theorem CtS.bindS {α β : Type} {Rel : List Addr → Hp → α → β → Prop} {r : R α} {g : α → MH → RS'} {Q' : β → Hp → Prop} (rs : RS K μ H ρ σ) (c : CtS K GC W D μ H (r.bindS ρ g))
    (q : ∀ μ' a h1 b H', Ext μ μ' → Keeps K H H' → RH K GC μ' h1 H' → RS K μ' H' ρ σ → Rel μ' H' a b → CtS K GC W D μ' H' (g a h1) → Q' b H') : Ct K GC W σ μ H Rel Q' r := by
  cases r with
  | ok a h1 => exact fun μ' H' b e' k' rh' r => q μ' a h1 b H' e' k' rh' (rs.mono e' k') r (CtS.mono c e' k')
  | ex cc v h1 => exact fun μ' H' d vv e' k' rh' r1 hd => c μ' H' σ d vv e' k' rh' (rs.mono e' k') r1 hd
  | wall => exact c
theorem s_aug {i : Nat} {o : Bop} (t : tS K GC W (ex P cl (.aug i o a)) D σ H) : tAug i (tE K GC W (ev P cl a)) (rAugM o) D σ H := by
  obtain ⟨μ, ρ, h, rs, rh, c⟩ := t
  unfold ex at c
  split at c
  · rename_i x ex
    obtain ⟨w, ew, rw'⟩ := rs.2 i x ex
    refine ⟨w, ew, tM_imp (tM_bindS (f := ev P cl a) (Rel := RelE K) rs rh c) fun u H1 ⟨μ1, y, h1, e1, k1, rs1, rh1, r1, c1⟩ => ?_⟩
    refine o_aug (K := K) (GC := GC) o W σ μ1 H1 h1 x y w u _ rh1 (rw'.mono e1 k1) r1 ?_
    exact CtS.bindS (Rel := RelE K) rs1 c1 fun μ' z h2 b H' e' k' rh' rs' rz c2 => CtS.nx c2 (rs'.set i rz) rh'
  · exact c.elim
theorem s_augf {T : GT} {k : Nat} {P0 : Program} {w : World} {mg : Str → Option Value} {base : Heap} {f : Nat} {nm : Str} {b : ME} {o : Bop} (wd : Wd T P cl GC k P0 w K mg base) (ef : GC.NM[f]? = some nm)
    (t : tS K GC W (ex P cl (.augf a f o b)) D σ H) : sFldAug K (tE K GC W (ev P cl a)) (tE K GC W (ev P cl b)) (rAugM o) nm D σ H := by
  obtain ⟨μ, ρ, h, rs, rh, c⟩ := t
  unfold ex at c
  refine tM_imp (tM_bindS (f := ev P cl a) (Rel := RelE K) rs rh c) fun v H1 ⟨μ1, x, h1, e1, k1, rs1, rh1, r1, c1⟩ => ?_
  cases ey : fldI P f x h1 with
  | ex cc y h2 =>
    unfold fldI fldM at ey
    repeat' split at ey
    all_goals cases ey
  | wall => rw [ey] at c1; exact c1.elim
  | ok y h2 =>
    obtain ⟨eh, p, cc, dx, gs, u, q1, q2, q3, q4, q5, ry, qc⟩ := fld_get wd ef rh1 r1 ey
    subst eh
    rw [ey] at c1
    refine ⟨p, _, dx, gs, u, q1, q2, q3, q4, q5, ?_⟩
    have c2 : CtS K GC W D μ1 H1 ((ev P cl b ρ h2).bindS ρ fun z h3 => (augM o y z h3).bindS ρ fun z' h4 => if clsM x h4 = clsM x h2 then (match setFM P f x z' h4 with | some h5 => .ok .nx ρ h5 | none => .wall) else .wall) := c1
    refine tM_imp (tM_bindS (f := ev P cl b) (Rel := RelE K) rs1 rh1 c2) fun u' H2 ⟨μ2, z, h3, e2, k2, rs2, rh2, r2, c3⟩ => ?_
    refine o_aug (K := K) (GC := GC) o W σ μ2 H2 h3 y z u u' _ rh2 (ry.mono e2 k2) r2 ?_
    refine CtS.bindS (Rel := RelE K) rs2 c3 fun μ3 z' h4 u'' H3 e3 k3 rh3 rs3 rz c4 => ?_
    split at c4
    · rename_i hcl
      split at c4
      · rename_i h5 es
        obtain ⟨a', cc', dx', gs', p1, p2, p3, p4, p5, p6, p7, p8⟩ := set_fld wd ef rh3 ((r1.mono e2 k2).mono e3 k3) rz es
        rw [q1] at p1
        cases p1
        rw [p8, qc] at hcl
        cases hcl
        exact ⟨dx', gs', p2, p5, c4 μ3 _ σ (Ext.refl _) p6 p7 (rs3.mono (Ext.refl _) p6)⟩
      · exact c4.elim
    · exact c4.elim
theorem s_par2 {i j : Nat} (t : tS K GC W (ex P cl (.par [i, j] es)) D σ H) : tPar i j (tA K GC W (evs P cl es)) D σ H := by
  obtain ⟨μ, ρ, h, rs, rh, c⟩ := t
  unfold ex at c
  refine tM_imp (tM_bindS (f := evs P cl es) (Rel := RelA K) rs rh c) fun vs H1 ⟨μ1, xs, h1, e1, k1, rs1, rh1, r1, c1⟩ => ?_
  cases r1 with
  | nil => exact c1.elim
  | cons r2 r3 =>
    cases r3 with
    | nil => exact c1.elim
    | cons r4 r5 =>
      cases r5 with
      | cons _ _ => exact c1.elim
      | nil => exact ⟨_, _, rfl, CtS.nx c1 ((rs1.set i r2).set j r4) rh1⟩
theorem s_par3 {i j l : Nat} (t : tS K GC W (ex P cl (.par [i, j, l] es)) D σ H) : tPar3 i j l (tA K GC W (evs P cl es)) D σ H := by
  obtain ⟨μ, ρ, h, rs, rh, c⟩ := t
  unfold ex at c
  refine tM_imp (tM_bindS (f := evs P cl es) (Rel := RelA K) rs rh c) fun vs H1 ⟨μ1, xs, h1, e1, k1, rs1, rh1, r1, c1⟩ => ?_
  cases r1 with
  | nil => exact c1.elim
  | cons r2 r3 =>
    cases r3 with
    | nil => exact c1.elim
    | cons r4 r5 =>
      cases r5 with
      | nil => exact c1.elim
      | cons r6 r7 =>
        cases r7 with
        | cons _ _ => exact c1.elim
        | nil => exact ⟨_, _, _, rfl, CtS.nx c1 (((rs1.set i r2).set j r4).set l r6) rh1⟩
/-- what is walked, by a value -/
theorem src_over {e : ME} {R : It → Hp → Prop} (t : tI K GC W (fun ρ h => (evs P cl [e] ρ h).bind (srcM .over)) σ H R) : iTup K (tE K GC W (ev P cl e)) σ H R ∨ iList K (tE K GC W (ev P cl e)) σ H R ∨ iStr (tE K GC W (ev P cl e)) σ H R := by
  obtain ⟨μ, ρ, h, rs, rh, c⟩ := t
  have c' : Ct K GC W σ μ H (fun μ H s J => JR K GC μ H s J) R ((ev P cl e ρ h).bind fun x h1 => srcM .over [x] h1) := by
    unfold evs evs at c
    dsimp only at c
    cases e0 : ev P cl e ρ h with
    | ok a h1 => rw [e0] at c; exact c
    | ex c0 v h1 => rw [e0] at c; exact c
    | wall => rw [e0] at c; exact c
  have tb := tM_bind' (f := ev P cl e) (Rel := RelE K) rs rh c'
  cases e0 : ev P cl e ρ h with
  | ok a h1 =>
    cases a with
    | tup xs =>
      refine .inl (tM_imp tb fun v H1 ⟨μ1, x, h2, e1, k1, rs1, rh1, r1, ee, c1⟩ => ?_)
      rw [e0] at ee
      cases ee
      cases r1 with
      | tup hs rv => exact ⟨_, rfl, ⟨_, hs⟩, Ct.ok c1 rh1 (jr_tup hs rv)⟩
    | str s =>
      refine .inr (.inr (tM_imp tb fun v H1 ⟨μ1, x, h2, e1, k1, rs1, rh1, r1, ee, c1⟩ => ?_))
      rw [e0] at ee
      cases ee
      cases r1
      exact ⟨s, rfl, Ct.ok c1 rh1 (jr_str s)⟩
    | ref n =>
      refine .inr (.inl (tM_imp tb fun v H1 ⟨μ1, x, h2, e1, k1, rs1, rh1, r1, ee, c1⟩ => ?_))
      rw [e0] at ee
      cases ee
      cases r1 with
      | ref ha =>
        have c2 : Ct K GC W σ μ1 H1 (fun μ H s J => JR K GC μ H s J) R (if isLst n h1 = true then .ok (.lst n) h1 else .wall) := c1
        split at c2
        · rename_i il
          obtain ⟨ys, eh, _⟩ := isLst_of il
          obtain ⟨vs, q, _⟩ := rh1.lst ha eh
          exact ⟨_, rfl, ⟨vs, SqL.of q⟩, Ct.ok c2 rh1 (jr_lst ha)⟩
        · exact c2.elim
    | _ =>
      refine .inl (tM_imp tb fun v H1 ⟨μ1, x, h2, e1, k1, rs1, rh1, r1, ee, c1⟩ => ?_)
      rw [e0] at ee
      cases ee
      exact False.elim c1
  | ex cc v h1 =>
    refine .inl (tM_imp tb fun v H1 ⟨μ1, x, h2, e1, k1, rs1, rh1, r1, ee, c1⟩ => ?_)
    rw [e0] at ee
    cases ee
  | wall =>
    rw [e0] at c'
    exact c'.elim
theorem src_enum {e : ME} {R : It → Hp → Prop} (t : tI K GC W (fun ρ h => (evs P cl [e] ρ h).bind (srcM .enum)) σ H R) : iEnumA K (tA K GC W (evs P cl [e])) σ H R := by
  obtain ⟨μ, ρ, h, rs, rh, c⟩ := t
  refine tM_imp (tM_bind (f := evs P cl [e]) (Rel := RelA K) rs rh c) fun vs H1 ⟨μ1, xs, h1, e1, k1, rs1, rh1, r1, c1⟩ => ?_
  cases r1 with
  | nil => exact c1.elim
  | cons r2 r3 =>
    cases r3 with
    | cons _ _ => cases r2 <;> exact False.elim c1
    | nil =>
      cases r2 with
      | @ref n a ha =>
        have c2 : Ct K GC W σ μ1 H1 (fun μ H s J => JR K GC μ H s J) R (if isLst n h1 = true then .ok (.enum n) h1 else .wall) := c1
        split at c2
        · rename_i il
          obtain ⟨ys, eh, _⟩ := isLst_of il
          obtain ⟨vs, q, _⟩ := rh1.lst ha eh
          exact .inl ⟨_, vs, rfl, SqL.of q, Ct.ok c2 rh1 (jr_enum ha)⟩
        · exact c2.elim
      | @tup a xs vs hs rv =>
        have c2 : Ct K GC W σ μ1 H1 (fun μ H s J => JR K GC μ H s J) R (.ok (.enumT xs) h1) := c1
        exact .inr ⟨_, vs, rfl, hs, Ct.ok c2 rh1 (jr_enumT hs rv)⟩
      | _ => exact False.elim c1
theorem src_zip {e f : ME} {R : It → Hp → Prop} (t : tI K GC W (fun ρ h => (evs P cl [e, f] ρ h).bind (srcM .zip)) σ H R) : iZip K (tA K GC W (evs P cl [e, f])) σ H R := by
  obtain ⟨μ, ρ, h, rs, rh, c⟩ := t
  refine tM_imp (tM_bind (f := evs P cl [e, f]) (Rel := RelA K) rs rh c) fun vs H1 ⟨μ1, xs, h1, e1, k1, rs1, rh1, r1, c1⟩ => ?_
  cases r1 with
  | nil => exact c1.elim
  | cons r2 r3 =>
    cases r3 with
    | nil => cases r2 <;> exact False.elim c1
    | cons r4 r5 =>
      cases r5 with
      | cons _ _ => cases r2 <;> cases r4 <;> exact False.elim c1
      | nil =>
        cases r2 with
        | @ref n a ha =>
          cases r4 with
          | @ref m b hb =>
            have c2 : Ct K GC W σ μ1 H1 (fun μ H s J => JR K GC μ H s J) R (if (isLst n h1 && isLst m h1) = true then .ok (.zip n m) h1 else .wall) := c1
            split at c2
            · rename_i il
              rw [Bool.and_eq_true] at il
              obtain ⟨ys, eh, _⟩ := isLst_of il.1
              obtain ⟨zs, eh2, _⟩ := isLst_of il.2
              obtain ⟨vs, q, _⟩ := rh1.lst ha eh
              obtain ⟨us, q2, _⟩ := rh1.lst hb eh2
              exact ⟨_, _, vs, us, rfl, SqL.of q, SqL.of q2, Ct.ok c2 rh1 (jr_zip ha hb)⟩
            · exact c2.elim
          | _ => exact False.elim c1
        | _ => cases r4 <;> exact False.elim c1
theorem src_rng1 {e : ME} {R : It → Hp → Prop} (t : tI K GC W (fun ρ h => (evs P cl [e] ρ h).bind (srcM .rng1)) σ H R) : iRng1 (tA K GC W (evs P cl [e])) σ H R := by
  obtain ⟨μ, ρ, h, rs, rh, c⟩ := t
  refine tM_imp (tM_bind (f := evs P cl [e]) (Rel := RelA K) rs rh c) fun vs H1 ⟨μ1, xs, h1, e1, k1, rs1, rh1, r1, c1⟩ => ?_
  cases r1 with
  | nil => exact c1.elim
  | cons r2 r3 =>
    cases r3 with
    | cons _ _ => cases r2 <;> exact False.elim c1
    | nil =>
      cases r2 with
      | int j =>
        have c2 : Ct K GC W σ μ1 H1 (fun μ H s J => JR K GC μ H s J) R (if -4611686018427387904 ≤ j ∧ j < 4611686018427387904 then .ok (.rng 0 j.toNat) h1 else .wall) := c1
        split at c2
        · rename_i il
          exact ⟨j, rfl, il.1, il.2, Ct.ok c2 rh1 (jr_rng 0 j.toNat)⟩
        · exact c2.elim
      | _ => exact False.elim c1
theorem src_rng2 {e f : ME} {R : It → Hp → Prop} (t : tI K GC W (fun ρ h => (evs P cl [e, f] ρ h).bind (srcM .rng2)) σ H R) : iRng2 (tA K GC W (evs P cl [e, f])) σ H R := by
  obtain ⟨μ, ρ, h, rs, rh, c⟩ := t
  refine tM_imp (tM_bind (f := evs P cl [e, f]) (Rel := RelA K) rs rh c) fun vs H1 ⟨μ1, xs, h1, e1, k1, rs1, rh1, r1, c1⟩ => ?_
  cases r1 with
  | nil => exact c1.elim
  | cons r2 r3 =>
    cases r3 with
    | nil => cases r2 <;> exact False.elim c1
    | cons r4 r5 =>
      cases r5 with
      | cons _ _ => cases r2 <;> cases r4 <;> exact False.elim c1
      | nil =>
        cases r2 with
        | int i =>
          cases r4 with
          | int j =>
            have c2 : Ct K GC W σ μ1 H1 (fun μ H s J => JR K GC μ H s J) R (if -4611686018427387904 ≤ i ∧ i < 4611686018427387904 ∧ -4611686018427387904 ≤ j ∧ j < 4611686018427387904 then .ok (.rng i (j - i).toNat) h1 else .wall) := c1
            split at c2
            · rename_i il
              exact ⟨i, j, rfl, il, Ct.ok c2 rh1 (jr_rng i _)⟩
            · exact c2.elim
          | _ => exact False.elim c1
        | _ => cases r4 <;> exact False.elim c1
end
end Mi
set_option maxHeartbeats 8000000
namespace Mi
open PySem PySem.Spec L2
theorem args_maxD (a d : Value) : argsOk "max" ⟨[a], [(Str.ofString "default", d)]⟩ := by unfold argsOk; kernel_rfl
section
variable {prog : Program} {w : World} {A : Around} {E : Value → Shared → Prop} {s : Shared} {I : Addr} {fp wr : List Addr} {P : Nat → Value → Prop} {St : Nat → Heap → Prop} {R : Result → Shared → Prop}
theorem max_loopD1 (W : Walks prog w A.in1 I fp wr 1 P St) (d : Value) (S : Addr) (hSf : S ∉ fp) {s : Shared} {c : Nat} (hst : St 0 s.heap)
    (hS : s.heap.get? S = some { cls := .type "list", dict := none, data := .seq #[] c, slots := #[] })
    (hR : ∀ v h' tk, P 0 v → (∀ b o, b ∉ wr → b ≠ S → s.heap.get? b = some o → h'.get? b = some o) → R (.ok (.ret v)) { s with heap := h', toks := tk }) :
    codeAny (model prog w) A (.builtin "max.loop" ⟨[.ref I, .none, .ref S], [(Str.ofString "default", d)]⟩) R s := by
  have hSw : S ∉ wr := fun h => hSf (W.sub _ h)
  have hname : (toString "max" ++ toString ".loop" : String) = "max.loop" := by decide
  refine codeAny_builtin F.entry_max_loop ?_
  rw [Around.under_plainId F.plain_max_loop _]
  refine (show wpAny _ A.in1 (seqItems? (.ref S) >>= _) _ _ s from ?_)
  refine wpAny_bind (wpAny_seqItems hS rfl ?_)
  refine (show wpAny _ A.in1 (tryCatch (pyNext (.ref I)) _ >>= _) _ _ s from ?_)
  refine wpAny_bind (wpAny_tryCatch (W.item 0 s _ _ Nat.one_pos hst fun v h' tk hP hst' hk' => ?_))
  have hS' := hk' S _ hSw hS
  refine (show wpAny _ A.in1 (updateSeq S (fun _ => #[v, v]) >>= _) _ _ _ from ?_)
  refine wpAny_bind (wpAny_updateSeq hS' rfl ?_)
  rw [hname]
  refine wpAny_pure ⟨plainId_quiet F.plain_max_loop _, ?_⟩
  -- the second turn: nothing is left
  have hS2 : (h'.update S (Obj.mapSeq fun _ => #[v, v])).get? S = _ := Heap.get?_update_self _ hS' rfl
  have st2 : St 1 (h'.update S (Obj.mapSeq fun _ => #[v, v])) := W.frame _ _ _ hst' fun b hbf o e => (Heap.get?_update_other _ _ (fun h : S = b => hSf (by rw [h]; exact hbf))).trans e
  refine codeAny_builtin F.entry_max_loop ?_
  rw [Around.under_plainId F.plain_max_loop _]
  refine (show wpAny _ A.in1 (seqItems? (.ref S) >>= _) _ _ _ from ?_)
  refine wpAny_bind (wpAny_seqItems hS2 rfl ?_)
  refine (show wpAny _ A.in1 (tryCatch (pyNext (.ref I)) _ >>= _) _ _ _ from ?_)
  refine wpAny_bind (wpAny_tryCatch (W.done _ _ _ st2 fun h2 tk2 hk2 => ?_))
  have hS3 := hk2 S _ hSw hS2
  refine (show wpAny _ A.in1 (updateSeq S (fun _ => #[]) >>= _) _ _ _ from ?_)
  refine wpAny_bind (wpAny_updateSeq hS3 rfl (wpAny_bind (wpAny_letGo (wpAny_pure ?_))))
  exact hR v _ tk2 hP fun b o hbw hbS e => (Heap.get?_update_other _ _ (Ne.symm hbS)).trans (hk2 b o hbw ((Heap.get?_update_other _ _ (Ne.symm hbS)).trans (hk' b o hbw e)))
theorem call_maxD1 {x d : Value} {Q : Value → Shared → Prop}
    (h : wpAny (model prog w) A.in1 (pyIter x) (fun it s₂ => ∃ I fp wr P St, it = .ref I ∧ Walks prog w A.in1 I fp wr 1 P St ∧ St 0 s₂.heap ∧ (∀ b ∈ fp, b < s₂.heap.objs.size) ∧
      ∀ v h' tk, P 0 v → (∀ b o, b ∉ wr → s₂.heap.get? b = some o → h'.get? b = some o) → Q v { s₂ with heap := h', toks := tk }) E s) :
    wpAny (model prog w) A (call (.builtin "max") [x] [(Str.ofString "default", d)]) Q E s := by
  have hname : (toString "max" ++ toString ".loop" : String) = "max.loop" := by decide
  refine wpAny_call (codeAny_call_builtin F.plain_max F.entry_max ?_)
  have ha : argsOk "max" ⟨[x], [(Str.ofString "default", d)]⟩ := args_maxD _ _
  have body : wpAny (model prog w) A.in1 (Builtin.«max» ⟨[x], [(Str.ofString "default", d)]⟩) (fun fin s' => match fin with
      | .done f => (match (Except.ok f : Result) with | .ok (.ret v) => Q v s' | .ok _ => False | .error e => E e s')
      | .again c' => c'.quiet = true ∧ codeAny (model prog w) A c' (fun r s' => match r with | .ok (.ret v) => Q v s' | .ok _ => False | .error e => E e s') s') E s := by
    refine (show wpAny _ A.in1 (Builtin.Builtins.bindParams "max" ["key", "default"] 0 ⟨[], [(Str.ofString "default", d)]⟩ >>= _) _ _ s from ?_)
    refine wpAny_bind (wpAny_of_eq (show Builtin.Builtins.bindParams "max" ["key", "default"] 0 ⟨[], [(Str.ofString "default", d)]⟩ = pure [none, some d] from rfl) ?_)
    refine wpAny_bind (wpAny_pure ?_)
    refine wpAny_bind (wpAny_mono h (fun it s₂ h₂ => ?_) fun _ _ e => e)
    obtain ⟨I, fp, wr, P, St, rfl, W, hst, hfp, hQ⟩ := h₂
    refine wpAny_bind (wpAny_newObj_type ?_)
    have hSf : s₂.heap.objs.size ∉ fp := fun hm => Nat.lt_irrefl _ (hfp _ hm)
    rw [hname]
    refine wpAny_pure ⟨plainId_quiet F.plain_max_loop _, max_loopD1 W d s₂.heap.objs.size hSf (W.frame _ _ _ hst fun b _ o e => Heap.get?_push_of_some _ e) (Heap.get?_push_size _ rfl) fun v h' tk hP hk => ?_⟩
    exact hQ v h' tk hP fun b o hbw e => hk b o hbw (Nat.ne_of_lt (Heap.lt_size e)) (Heap.get?_push_of_some _ e)
  simp only [checkBuiltinCall, F.kind_max]
  cases hsig : Manifest.signature? "max" with
  | none => exact wpAny_pure body
  | some sig =>
    simp only [argsOk, hsig] at ha
    have h2 : Bind.checkArgs "max" sig ⟨[x], [(Str.ofString "default", d)]⟩ = pure () := ha
    simp only [h2]
    exact wpAny_pure body
end
/-- max(xs, default=d), xs a list of one int -/
def rMaxD1 (K : PySem.W.Frag) : List V → List V → Hp → VK → Prop := fun vs zs H Q => ∃ (a : Addr) (i : Int) (d : V), vs = [V.ref a] ∧ zs = [d] ∧ SqL K H a [V.int i] ∧ Q (.int i) H
theorem cr_maxD1 {X : Cx} (hc : X.calm = true) : CallRK X (.builtin "max") [Str.ofString "default"] (rMaxD1 X.K) := by
  intro pins s σ H vs zs us ws Q I r rz h
  obtain ⟨a, i, d, rfl, rfl, hs, q⟩ := h
  obtain rfl := Vals.ref1 r
  cases rz with
  | cons r1 r2 =>
    cases r2
    rename_i w1
    obtain ⟨its, rv, hl, _⟩ := I.list hs
    obtain ⟨t, eits⟩ : ∃ t, its.toArray = PySem.intItems #[(i, t)] := by
      cases rv with
      | cons p q =>
        cases q
        obtain ⟨t, rfl⟩ := p
        exact ⟨t, by simp [PySem.intItems]⟩
    have hl' : s.heap.IsList a (PySem.intItems #[(i, t)]) := by rw [← eits]; exact hl.isList
    refine call_maxD1 (iter_intList hl' fun s₂ e st hfp hlI => ?_)
    subst e
    have hsz : (PySem.intItems #[(i, t)]).size = 1 := by simp [PySem.intItems]
    have W := Walks.list (prog := X.prog) (w := X.w) (A := X.A.in1) (I.ok.hd hc) s.heap.objs.size a hlI (PySem.intItems #[(i, t)])
    rw [hsz] at W
    refine ⟨_, _, _, (fun j v => (PySem.intItems #[(i, t)])[j]? = some v), (fun j h => h.IsListIter s.heap.objs.size a j ∧ h.IsList a (PySem.intItems #[(i, t)])), rfl, W, st, hfp, fun v h' tk hP hk => ?_⟩
    have ev : v = .int i t := by
      have hP' : (PySem.intItems #[(i, t)])[0]? = some v := hP
      simp [PySem.intItems] at hP'
      exact hP'.symm
    subst ev
    exact ⟨.int i, H, I.kept (old_kept hk), ⟨_, rfl⟩, q⟩
end Mi
set_option maxHeartbeats 8000000
namespace Mi
open PySem PySem.Spec L2
variable [Th]
section
variable {K : PySem.W.Frag} {GC : Gn} {P : Prg} {cl : CallF} {W : WX} {σ : L2.St} {μ μ1 : List Addr} {H H1 : Hp} {ρ : Rho} {h : MH} {Q : VK} {e : ME}
theorem evs_one {α : Type} {g : MV → MH → R α} : ((ev P cl e ρ h).bind g) = ((evs P cl [e] ρ h).bind fun xs h1 => match xs with | [v] => g v h1 | _ => .wall) := by
  unfold evs evs
  cases e0 : ev P cl e ρ h <;> rfl
theorem t_mke {cc : Nat} (oex : OexC K (GC.C cc)) (noV : PySem.W.findIn K (.ref (GC.C cc)) "value" = some none) (t : tE K GC W (ev P cl (.mke cc e)) σ H Q) :
    tMkO (GC.C cc) (spI K) [] (tA K GC W (evs P cl [e])) σ H fun cls d H' => ∀ a, H' a = none → Q (.ref a) (upd H' a (exv a cls d)) := by
  obtain ⟨μ, ρ, h, rs, rh, c⟩ := t
  unfold ev at c
  rw [evs_one] at c
  refine tM_imp (tM_bind (f := evs P cl [e]) (Rel := RelA K) rs rh c) fun vs H1 ⟨μ1, xs, h1, e1, k1, rs1, rh1, r1, c1⟩ => ?_
  cases r1 with
  | nil => exact c1.elim
  | @cons x v xs vs r1 r2 =>
    cases r2 with
    | cons _ _ => exact c1.elim
    | nil =>
      have c2 : Ct K GC W σ μ1 H1 (RelE K) Q (mkeM P cc x h1) := c1
      unfold mkeM at c2
      split at c2
      · split at c2
        · refine ⟨(by decide : 1 ≤ 1000), fun a ha => ?_⟩
          refine ⟨a, GC.C cc, v, rfl, oex, noV, upd_same, fun dx hdx hne => ⟨rfl, dx, [("value", v)], upd_same, ?_, ?_, ?_⟩⟩
          · rw [upd_ne hne, upd_same]
          · rw [upd_ne hne] at hdx; exact hdx
          · have hd1 : H1 dx = none := by rw [upd_ne hne] at hdx; exact hdx
            have sm : ∀ b u, H1 b = some u → (upd (del (upd (upd (upd H1 a (exo a (GC.C cc) none)) dx (exd dx [("value", v)])) a (exo a (GC.C cc) (some dx))) a) dx (.xd [("value", v)])) b = some u := fun b u q => by
              have n1 : b ≠ a := ne_of_none q ha
              have n2 : b ≠ dx := ne_of_none q hd1
              rw [upd_ne n2, del_ne n1, upd_ne n1, upd_ne n2, upd_ne n1]
              exact q
            have kk := Keeps.same (K := K) sm
            intro p hp
            have npd : p ≠ dx := fun z => by rw [z, upd_same] at hp; cases hp
            have rh2 := rh1.same sm
            have kn := Keeps.new (K := K) (o := exv p (.ref (GC.C cc)) (some dx)) hp
            have rh3 := rh2.alloc (u := exv p (.ref (GC.C cc)) (some dx)) (o := .exc cc x) hp ⟨dx, v, upd_same, by rw [upd_ne (Ne.symm npd), upd_same], (r1.mono (Ext.refl _) kk).mono (ext_push _ _) kn⟩
            exact c2 _ _ (.ref p) (ext_push _ _) (kk.trans kn) rh3 (.ref (by rw [← rh1.len]; simp))
        · exact c2.elim
      · exact c2.elim
theorem t_dc {k : IK} {tg : MT} {kx vx : ME} {es : List ME} {own : List Nat} {wi : TI} {g : TG} {W0 : WX} (hp : PutOk K tg g) (ho : ∀ i ∈ tg.slots, i ∈ own)
    (hw : ∀ σ H R, tI K GC W (fun ρ h => (evs P cl es ρ h).bind (srcM k)) σ H R → wi σ H R) (t : tE K GC W (ev P cl (.dc k es tg kx vx own)) σ H Q) :
    tDc wi g (tT K GC W0 (evTs P cl [])) (tE K GC W0 (ev P cl kx)) (tE K GC W0 (ev P cl vx)) own σ H Q := by
  obtain ⟨μ, ρ, h, rs, rh, c0⟩ := t
  unfold ev at c0
  rw [← R.bind_assoc] at c0
  refine hw σ H _ ?_
  refine tM_imp (tM_bind (f := fun ρ h => (evs P cl es ρ h).bind (srcM k)) (Rel := fun μ H s J => JR K GC μ H s J) rs rh c0) fun J H1 ⟨μ1, s, h2, e1, k1, rs1, rh1, jr, c1⟩ => ?_
  intro D hD
  have kD : Keeps K H1 (upd H1 D (.dK [])) := Keeps.new hD
  have rD : RH K GC (μ1 ++ [D]) (h2 ++ [.dct []]) (upd H1 D (.dK [])) := rh1.alloc hD ⟨[], upd_same, rfl, .nil⟩
  have eD : (μ1 ++ [D])[h2.length]? = some D := by rw [← rh1.len]; exact ext_push'
  refine ⟨fun i m H' => ∃ μ' h', Ext (μ1 ++ [D]) μ' ∧ Keeps K (upd H1 D (.dK [])) H' ∧ RH K GC μ' h' H' ∧ Ct K GC W σ μ' H' (RelE K) Q (noEx (dcL s tg (ev P cl kx) (ev P cl vx) (wipeM ρ own) h2.length m i h')), ⟨_, _, _, Ext.refl _, Keeps.refl _ _, rD, Ct.mono c1 (ext_push μ1 D) kD⟩, ?_⟩
  rintro i m H' ⟨μ', h', e', k', rh', c'⟩
  have rsw : RS K μ' H' (wipeM ρ own) (L2.wipe σ own) := (rs1.wipe own).mono ((ext_push μ1 D).trans e') (kD.trans k')
  obtain ⟨js, ji⟩ := jr μ' H' h' i ((ext_push μ1 D).trans e') (kD.trans k') rh'
  cases m with
  | zero =>
    unfold dcL at c'
    split at c'
    · rename_i st
      exact .inl ⟨js st, Ct.ok c' rh' (.ref (e' _ _ eD))⟩
    · exact c'.elim
  | succ n =>
    unfold dcL at c'
    split at c'
    · rename_i st
      exact .inl ⟨js st, Ct.ok c' rh' (.ref (e' _ _ eD))⟩
    · split at c'
      · exact c'.elim
      · rename_i x ex
        split at c'
        · exact c'.elim
        · rename_i ρ1 ep
          obtain ⟨jg, jy⟩ := ji x ex
          refine .inr ⟨jg, fun H'' => ∃ μ'' h'', Ext (μ1 ++ [D]) μ'' ∧ Keeps K (upd H1 D (.dK [])) H'' ∧ RH K GC μ'' h'' H'' ∧ Ct K GC W σ μ'' H'' (RelE K) Q (noEx (dcL s tg (ev P cl kx) (ev P cl vx) (wipeM ρ own) h2.length n (i + 1) h'')), fun H'' w => ⟨n, Nat.lt_succ_self n, w⟩, fun v H2 yl => ?_⟩
          obtain ⟨ky, rhy, rvy⟩ := jy v H2 yl
          refine hp μ' H2 _ _ x v ρ1 _ (rsw.mono (Ext.refl _) ky) rvy ep fun σ3 rs3 ch => ?_
          have ch' : Chg own σ σ3 := (chg_wipe own σ).trans (ch.sub ho)
          have c2 := Ct.mono c' (Ext.refl _) ky
          rw [noEx_bind] at c2
          refine ⟨wipe_chg ch', ⟨μ', ρ1, h', rs3, rhy, ?_⟩⟩
          unfold evTs
          intro μ3 H3 b e3 k3 rh3 rb
          obtain rfl : true = b := rb
          rw [if_pos rfl]
          have rs4 := rs3.mono e3 k3
          have ee : Ext (μ1 ++ [D]) μ3 := e'.trans e3
          have kk : Keeps K (upd H1 D (.dK [])) H3 := (k'.trans ky).trans k3
          have c3 := Ct.mono c2 e3 k3
          refine tM_imp (tM_bindN (W0 := W0) (f := ev P cl kx) (Rel := RelE K) rs4 rh3 c3) fun y H4 ⟨μ4, y', h4, e4, k4, rs5, rh4, ry, c4⟩ => ?_
          rw [noEx_bind] at c4
          refine tM_imp (tM_bindN (W0 := W0) (f := ev P cl vx) (Rel := RelE K) rs5 rh4 c4) fun z H5 ⟨μ5, z', h5, e5, k5, rs6, rh5, rz, c5⟩ => ?_
          have ee5 : Ext (μ1 ++ [D]) μ5 := (ee.trans e4).trans e5
          split at c5
          · rename_i kk1 kvs ke ea
            obtain ⟨kws, q, ek, rv⟩ := rh5.dct (ee5 _ _ eD) ea
            split at c5
            · rename_i hz
              have ll : kws.length = kvs.length := by have := congrArg List.length ek; rw [List.length_map, List.length_map] at this; exact this
              have kp : Keeps K H5 (upd H5 D (.dK (putK kws kk1 z))) := Keeps.put q (fun _ z => nomatch z) (fun _ _ z => nomatch z)
              obtain ⟨p1, p2⟩ := put_key rz kk1 ek rv
              refine ⟨kws, kk1, keyM_kV ry ke, q, by rw [ll, SZ_eq]; exact hz, μ5, _, ee5, ((kk.trans k4).trans k5).trans kp, rh5.put (o := .dct (putKM kvs kk1 z')) (ee5 _ _ eD) q (fun _ z => nomatch z) (fun _ _ z => nomatch z) (fun _ _ z => nomatch z) ⟨_, upd_same, p1, p2.mono (Ext.refl _) kp⟩, Ct.mono c5 (Ext.refl _) kp⟩
            · exact c5.elim
          · exact c5.elim
/-- sorted(set(..)) of an empty list -/
theorem t_sset {P0 : Program} {w : World} (t : tE K GC W (ev P cl (.sset e)) σ H Q) : tCB (rSortedT K P0 w) (tCons (tCB (rSetOfT K P0 w) (tA K GC W (evs P cl [e]))) tNil) σ H Q := by
  obtain ⟨μ, ρ, h, rs, rh, c⟩ := t
  unfold ev at c
  rw [evs_one] at c
  refine tM_imp (tM_bind (f := evs P cl [e]) (Rel := RelA K) rs rh c) fun vs H1 ⟨μ1, xs, h1, e1, k1, rs1, rh1, r1, c1⟩ => ?_
  cases r1 with
  | nil => exact c1.elim
  | cons r2 r3 =>
    cases r3 with
    | cons _ _ => exact c1.elim
    | nil =>
      cases r2 with
      | @ref n a ha =>
        have c2 : Ct K GC W σ μ1 H1 (RelE K) Q (ssetM (.ref n) h1) := c1
        unfold ssetM at c2
        simp only at c2
        split at c2
        · rename_i eh
          obtain ⟨vs, q, rv⟩ := rh1.lst ha eh
          cases rv
          refine ⟨a, [], rfl, SqL.of q, fun _ z => absurd z List.not_mem_nil, by decide, fun p L hp hL _ => ?_⟩
          have eL : L = [] := List.eq_nil_iff_forall_not_mem.mpr fun x hx => absurd (hL x hx) List.not_mem_nil
          subst eL
          refine ⟨p, [], 1, 1, rfl, upd_same, fun _ z => absurd z List.not_mem_nil, Nat.le_refl _, fun _ z => absurd z List.not_mem_nil, fun L' b pm _ _ _ hb => ?_⟩
          have eL' : L' = [] := List.perm_nil.mp pm
          subst eL'
          have k2 := Keeps.new (K := K) (o := SetTO P0 w p []) hp
          have rh2 := rh1.grow (u := SetTO P0 w p []) hp
          have k3 := Keeps.new (K := K) (o := .lst []) hb
          have rh3 := rh2.alloc (u := .lst []) (o := .lst []) hb ⟨[], upd_same, .nil⟩
          exact c2 _ _ (.ref b) (ext_push _ _) (k2.trans k3) rh3 (.ref (by rw [← rh1.len]; simp))
        · exact c2.elim
      | _ => exact c1.elim
/-- max(.., default=..) of a list of one int -/
theorem t_maxd {d : ME} (t : tE K GC W (ev P cl (.maxd e d)) σ H Q) : tCKw (rMaxD1 K) (tA K GC W (evs P cl [e])) (tA K GC W (evs P cl [d])) σ H Q := by
  obtain ⟨μ, ρ, h, rs, rh, c⟩ := t
  unfold ev at c
  rw [evs_one] at c
  refine tM_imp (tM_bind (f := evs P cl [e]) (Rel := RelA K) rs rh c) fun vs H1 ⟨μ1, xs, h1, e1, k1, rs1, rh1, r1, c1⟩ => ?_
  cases r1 with
  | nil => exact c1.elim
  | @cons x v _ _ r2 r3 =>
    cases r3 with
    | cons _ _ => exact c1.elim
    | nil =>
      have c1' : Ct K GC W σ μ1 H1 (RelE K) Q ((ev P cl d ρ h1).bind fun y h2 => maxdM x y h2) := c1
      rw [evs_one] at c1'
      refine tM_imp (tM_bind (f := evs P cl [d]) (Rel := RelA K) rs1 rh1 c1') fun us H2 ⟨μ2, ys, h2, e2, k2, rs2, rh2, r4, c2⟩ => ?_
      cases r4 with
      | nil => exact c2.elim
      | @cons y u _ _ r5 r6 =>
        cases r6 with
        | cons _ _ => exact c2.elim
        | nil =>
          have r2' := r2.mono e2 k2
          cases r2' with
          | @ref n a ha =>
            cases r5 with
            | int j =>
              have c2 : Ct K GC W σ μ2 H2 (RelE K) Q (maxdM (.ref n) (.int j) h2) := c2
              unfold maxdM at c2
              simp only at c2
              split at c2
              · rename_i i eh
                obtain ⟨vs, q, rv⟩ := rh2.lst ha eh
                cases rv with
                | cons p1 p2 =>
                  cases p2
                  cases p1
                  exact ⟨a, i, _, rfl, rfl, SqL.of q, Ct.ok c2 rh2 (.int _)⟩
              · exact c2.elim
            | _ => exact c2.elim
          | _ => exact c2.elim
/-- {} -/
theorem t_dsp0 (t : tE K GC W (ev P cl (.dsp [] [])) σ H Q) : tDNewK σ H Q := by
  obtain ⟨μ, ρ, h, rs, rh, c⟩ := t
  unfold ev evs at c
  intro p hp
  have c2 : Ct K GC W σ μ H (RelE K) Q (.ok (.ref h.length) (h ++ [.dct []])) := c
  have rn := rh.alloc (u := .dK []) (o := .dct []) hp ⟨[], upd_same, rfl, .nil⟩
  exact c2 _ _ (.ref p) (ext_push _ _) (Keeps.new hp) rn (.ref (by rw [← rh.len]; simp))
/-- {'..': e} -/
theorem t_dsp1 {s : Str} (t : tE K GC W (ev P cl (.dsp [.inr s] [e])) σ H Q) : tDisp [(tC (.str s), tE K GC W (ev P cl e))] σ H Q := by
  obtain ⟨μ, ρ, h, rs, rh, c⟩ := t
  unfold ev at c
  intro p hp
  have rn := rh.alloc (u := .dK []) (o := .dct []) hp ⟨[], upd_same, rfl, .nil⟩
  have kn := Keeps.new (K := K) (o := .dK []) hp
  have en : (μ ++ [p])[h.length]? = some p := by rw [← rh.len]; simp
  have c2 := Ct.mono c (ext_push μ p) kn
  have c3 : Ct K GC W σ (μ ++ [p]) (upd H p (.dK [])) (RelE K) Q ((ev P cl e ρ (h ++ [.dct []])).bind fun x h1 => dspM [.inr s] h.length [x] h1) := by
    unfold evs evs at c2
    cases e0 : ev P cl e ρ (h ++ [.dct []]) with
    | ok a h1 => rw [e0] at c2; exact c2
    | ex c0 v h1 => rw [e0] at c2; exact c2
    | wall => rw [e0] at c2; exact c2
  refine (show tE K GC W (ev P cl e) σ (upd H p (.dK [])) _ from ?_)
  refine tM_imp (tM_bind (f := ev P cl e) (Rel := RelE K) (rs.mono (ext_push μ p) kn) rn c3) fun y H2 ⟨μ2, x, h2, e2, k2, rs2, rh2, r2, c4⟩ => ?_
  unfold dspM at c4
  simp only at c4
  split at c4
  · rename_i eh
    obtain ⟨kws, q, ek, rv⟩ := rh2.dct (e2 _ _ en) eh
    have ekw : kws = [] := List.map_eq_nil_iff.mp ek
    subst ekw
    refine ⟨q, [(.inr s, y)], rfl, (show 1 ≤ 15 by decide), ?_⟩
    have kp : Keeps K H2 (upd H2 p (.dK [(.inr s, y)])) := Keeps.put q (fun _ z => nomatch z) (fun _ _ z => nomatch z)
    exact c4 _ _ (.ref p) (Ext.refl _) kp (rh2.put (o := .dct [(.inr s, x)]) (e2 _ _ en) q (fun _ z => nomatch z) (fun _ _ z => nomatch z) (fun _ _ z => nomatch z) ⟨_, upd_same, rfl, .cons (r2.mono (Ext.refl _) kp) .nil⟩) (.ref (e2 _ _ en))
  · exact c4.elim
end
end Mi
set_option maxHeartbeats 8000000
namespace Mi
open PySem PySem.Spec L2
variable [Th]

/-! ## from the text to the small syntax -/
/-- where one stands: the slots' names, the scope, the names whose cells are one's own -/
structure CC where
  N : List Str
  sc : Scope
  fnc : Str → Bool
def ixOf (x : Str) : List Str → Option Nat
  | [] => none
  | y :: ys => if y = x then some 0 else match ixOf x ys with | some i => some (i + 1) | none => none
theorem ixOf_get {x : Str} : ∀ {l : List Str} {i : Nat}, ixOf x l = some i → l[i]? = some x
  | [], _, e => by cases e
  | y :: ys, i, e => by
    unfold ixOf at e
    split at e
    · rename_i z; cases e; subst z; rfl
    · split at e
      · rename_i j ej
        cases e
        exact show ys[j]? = some x from ixOf_get ej
      · cases e
def ixOfO (x : Str) : List (Option Str) → Option Nat
  | [] => none
  | y :: ys => if y = some x then some 0 else match ixOfO x ys with | some i => some (i + 1) | none => none
theorem ixOfO_get {x : Str} : ∀ {l : List (Option Str)} {i : Nat}, ixOfO x l = some i → l[i]? = some (some x)
  | [], _, e => by cases e
  | y :: ys, i, e => by
    unfold ixOfO at e
    split at e
    · rename_i z; cases e; subst z; rfl
    · split at e
      · rename_i j ej
        cases e
        exact show ys[j]? = some (some x) from ixOfO_get ej
      · cases e
def visB (sc : Scope) (x : Str) : Bool := match sc.names.lookup x with | some .local => true | some .cell => true | some .free => true | _ => false
def glB (sc : Scope) (x : Str) : Bool := match sc.names.lookup x with | some .globalImplicit => true | _ => false
/-- may be stored -/
def stoB (c : CC) (x : Str) : Bool := match c.sc.names.lookup x with | some .local => true | some .cell => c.fnc x | _ => false
def nameB (x : Str) : Bool := !(x == ("__debug__" : Str)) && !(x == ("__classdict__" : Str)) && !(x == ("__name__" : Str))
def starB : Expr → Bool
  | .Starred .. => true
  | _ => false
def sliceB : Expr → Bool
  | .Slice .. => true
  | _ => false
def baseB : Expr → Bool
  | .Call (.Name ..) [] [] _ => false
  | _ => true
def compB : Expr → Bool
  | .ListComp .. => true
  | .SetComp .. => true
  | .DictComp .. => true
  | _ => false
def setB : Expr → Bool
  | .Set .. => true
  | _ => false
def lineB (a p : Pos) : Bool := a.endLine == p.line
def biOf (x : Str) : Option Bi :=
  if x = ("len" : Str) then some .len else if x = ("abs" : Str) then some .abs else if x = ("int" : Str) then some .int else if x = ("str" : Str) then some .str
  else if x = ("any" : Str) then some .any else if x = ("all" : Str) then some .all else if x = ("tuple" : Str) then some .tuple else if x = ("list" : Str) then some .list else none
def bi2Of (x : Str) : Option Bi := if x = ("max" : Str) then some .max2 else if x = ("min" : Str) then some .min2 else none
def bmOf (x : Str) : Option Bm :=
  if x = ("split" : Str) then some .split else if x = ("lstrip" : Str) then some .lstrip else if x = ("rstrip" : Str) then some .rstrip else if x = ("join" : Str) then some .join
  else if x = ("partition" : Str) then some .partition else if x = ("startswith" : Str) then some .startswith else if x = ("endswith" : Str) then some .endswith else if x = ("count" : Str) then some .count
  else if x = ("append" : Str) then some .append else if x = ("extend" : Str) then some .extend else none
def tyOf (x : Str) : Option String :=
  if x = ("int" : Str) then some "int" else if x = ("str" : Str) then some "str" else if x = ("bool" : Str) then some "bool" else if x = ("tuple" : Str) then some "tuple" else if x = ("list" : Str) then some "list" else if x = ("dict" : Str) then some "dict" else if x = ("ValueError" : Str) then some "ValueError" else none
def bopOf : Operator → Option Bop
  | .Add => some .add | .Sub => some .sub | .Mult => some .mul | .FloorDiv => some .fdiv | .Mod => some .mod | .Pow => some .pow | _ => none
def copOf : CmpOp → Option Cop
  | .Eq => some .eq | .NotEq => some .ne | .Lt => some .lt | .LtE => some .le | .Gt => some .gt | .GtE => some .ge | .In => some .isin | .NotIn => some .notin | .Is => some .is | .IsNot => some .isnot
section
variable (T : GT) (NM : List Str) (P : Prg)
def compT : Nat → CC → Expr → Option MT
  | 0, _, _ => none
  | n + 1, c, e => match e with
    | .Name x _ => if stoB c x then match ixOf x c.N with | some i => some (.name i) | none => none else none
    | .Tuple es _ _ => if es.any starB then none else match oMap (compT n c) es with | some ts => some (.tup ts) | none => none
    | _ => none
def tupB : Expr → Bool
  | .Tuple .. => true
  | _ => false
/-- what a loop or a comprehension walks, and how -/
def compI (ce : Expr → Option ME) (c : CC) (tg it : Expr) : Option (IK × List ME) :=
  match it with
  | .Call (.Name x _) [e] [] _ =>
    if glB c.sc x && !starB e then
      if x = ("enumerate" : Str) then (if tupB tg then match ce e with | some m => some (.enum, [m]) | none => none else none)
      else if x = ("range" : Str) then (match ce e with | some m => some (.rng1, [m]) | none => none)
      else match ce it with | some m => some (.over, [m]) | none => none
    else match ce it with | some m => some (.over, [m]) | none => none
  | .Call (.Name x _) [e, f] [] _ =>
    if glB c.sc x && !starB e && !starB f then
      if x = ("zip" : Str) then (if tupB tg then match ce e, ce f with | some m, some m' => some (.zip, [m, m']) | _, _ => none else none)
      else if x = ("range" : Str) then (match ce e, ce f with | some m, some m' => some (.rng2, [m, m']) | _, _ => none)
      else match ce it with | some m => some (.over, [m]) | none => none
    else match ce it with | some m => some (.over, [m]) | none => none
  | _ => if setB it then none else match ce it with | some m => some (.over, [m]) | none => none
/-- the slots of a comprehension's own names -/
def ownOf (N : List Str) : List (Str × NameKind) → Option (List (Str × Nat))
  | [] => some []
  | (x, k) :: r => match ownOf N r with
    | none => none
    | some l => match k with
      | .local => (match ixOf x N with | some i => some ((x, i) :: l) | none => some l)
      | .cell => (match ixOf x N with | some i => some ((x, i) :: l) | none => some l)
      | _ => some l
def ifsME (ce : Expr → Option ME) : List Expr → Option (List ME)
  | [] => some []
  | [t] => (match ce t with | some m => some [m] | none => none)
  | _ => none
def partME (ce : Expr → Option ME) (o : Option Expr) : Option ME := match o with | none => some ME.no | some l => match ce l with | some l' => (match l' with | .no => none | l'' => some l'') | none => none
def subME (ce : Expr → Option ME) (a i : Expr) : Option ME := match i with
  | .Slice lo hi st _ => (match st with
    | none => (match ce a, partME ce lo, partME ce hi with | some a', some l', some h' => some (.sl a' l' h') | _, _, _ => none)
    | some _ => none)
  | i => if sliceB i then none else match ce a, ce i with | some a', some i' => some (.ix a' i') | _, _ => none
theorem subME_ix {ce : Expr → Option ME} {a i : Expr} (hs : sliceB i = false) : subME ce a i = (match ce a, ce i with | some a', some i' => some (.ix a' i') | _, _ => none) := by
  cases i <;> first | rfl | cases hs
def compE : Nat → CC → Expr → Option ME
  | 0, _, _ => none
  | n + 1, c, e => match e with
    | .Name x _ => if nameB x then (if visB c.sc x then match ixOf x c.N with | some i => some (.var i) | none => none else if glB c.sc x then match T.consts.lookup x with | some v => some (.cst v) | none => none else none) else none
    | .Constant (.int i) _ _ => some (.cst (.int i))
    | .Constant (.bool b) _ _ => some (.cst (.bl b))
    | .Constant (.str s) _ _ => some (.cst (.str s))
    | .Constant .none _ _ => some (.cst .non)
    | .BinOp a o b _ => match bopOf o, compE n c a, compE n c b with | some o', some a', some b' => some (.bin o' a' b') | _, _, _ => none
    | .UnaryOp .Not a _ => match compE n c a with | some a' => some (.not a') | none => none
    | .UnaryOp .USub a _ => match compE n c a with | some a' => some (.neg a') | none => none
    | .BoolOp .And [a] _ => compE n c a
    | .BoolOp .And (a :: b :: r) p => match compE n c a, compE n c (.BoolOp .And (b :: r) p) with | some a', some b' => some (.and a' b') | _, _ => none
    | .BoolOp .Or [a] _ => compE n c a
    | .BoolOp .Or (a :: b :: r) p => match compE n c a, compE n c (.BoolOp .Or (b :: r) p) with | some a', some b' => some (.or a' b') | _, _ => none
    | .Compare a [o] [b] _ => match copOf o, compE n c a, compE n c b with | some o', some a', some b' => some (.cmp o' a' b') | _, _, _ => none
    | .Compare a [o, p] [b, d] _ => match copOf o, copOf p, compE n c a, compE n c b, compE n c d with | some o', some p', some a', some b', some d' => some (.chain o' p' a' b' d') | _, _, _, _, _ => none
    | .IfExp t a b _ => match compE n c t, compE n c a, compE n c b with | some t', some a', some b' => some (.ite t' a' b') | _, _, _ => none
    | .Attribute o f _ => if baseB o then match compE n c o, ixOf f NM with | some o', some f' => some (.fld o' f') | _, _ => none else none
    | .Subscript a i _ => subME (compE n c) a i
    | .Tuple es _ _ => if es.any starB then none else match oMap (compE n c) es with | some ms => some (.tup ms) | none => none
    | .List es _ => if es.any starB then none else match oMap (compE n c) es with | some ms => some (.lst ms) | none => none
    | .Call (.Name x _) es [] _ => if glB c.sc x && nameB x && !es.any starB then
        (if x = ("isinstance" : Str) then (match es with
          | [e, .Name y _] => if glB c.sc y && nameB y then (match compE n c e with
            | some m => (match tyOf y with
              | some t => some (.isi m (.ty t))
              | none => match ixOf y T.cls with | some i => (match P.cls[i]? with | some _ => some (.isi m (.own i)) | none => none) | none => none)
            | none => none) else none
          | _ => none)
        else if x = ("sorted" : Str) then (match es with
          | [.Call (.Name y _) [e0] [] _] => if glB c.sc y && decide (y = ("set" : Str)) && !starB e0 then (match compE n c e0 with | some m => some (.sset m) | none => none) else none
          | _ => none)
        else match bi2Of x with
          | some b => (match es with | [e, f] => (match compE n c e, compE n c f with | some m, some m' => some (.bi b [m, m']) | _, _ => none) | _ => none)
          | none => match biOf x with
          | some b => (match es with | [e] => (match compE n c e with | some m => some (.bi b [m]) | none => none) | _ => none)
          | none => match ixOfO x T.fns with
            | some f => (match P.fns[f]?, oMap (compE n c) es with
              | some F, some ms => if ms.length = F.np then some (.call f ms) else if ms.length + F.dfs.length = F.np then some (.call f ms) else none
              | _, _ => none)
            | none => match ixOf x T.cls with
              | some k => (match P.cls[k]? with
                | some C => if C.exc = true then (match es with | [e0] => (match compE n c e0 with | some m => some (.mke k m) | none => none) | _ => none) else (match P.fns[C.ini]?, oMap (compE n c) es with | some F, some ms => if ms.length + 1 = F.np then some (.make k ms) else none | _, _ => none)
                | none => none)
              | none => none) else none
    | .Call (.Name x _) [e] [⟨some kw, d, _⟩] _ => if glB c.sc x && decide (x = ("max" : Str)) && decide (kw = ("default" : Str)) && !starB e then (match compE n c e, compE n c d with | some m, some m' => some (.maxd m m') | _, _ => none) else none
    | .Call (.Attribute o m ap) es [] p => if lineB ap p && baseB o && !es.any starB && decide (es.length < 29) then
        (match bmOf m with
          | some b => (match es with | [e] => (match compE n c o, compE n c e with | some o', some e' => some (.bm b o' [e']) | _, _ => none) | _ => none)
          | none => match compE n c o, ixOf m NM, oMap (compE n c) es with | some o', some m', some ms => some (.meth o' m' ms) | _, _, _ => none) else none
    | .ListComp elt [⟨tg, it, ifs, ia⟩] scope _ => if ia = 0 then
        (match ownOf c.N scope.names with
        | none => none
        | some own => if blkC c.N c.sc scope own && !setB it then
          (match compI (compE n c) c tg it, compT n ⟨c.N, relS scope c.sc, fun x => scope.names.lookup x == some NameKind.cell⟩ tg, ifsME (compE n ⟨c.N, relS scope c.sc, fun x => scope.names.lookup x == some NameKind.cell⟩) ifs, compE n ⟨c.N, relS scope c.sc, fun x => scope.names.lookup x == some NameKind.cell⟩ elt with
          | some (k, ms), some t, some fs, some m => if t.slots.all fun i => (own.map fun q => q.2).contains i then some (.lc k ms t fs m (own.map fun q => q.2)) else none
          | _, _, _, _ => none) else none) else none
    | .Dict [] [] _ => some (.dsp [] [])
    | .Dict [some (.Constant (.str s) _ _)] [e] _ => (match compE n c e with | some m => some (.dsp [.inr s] [m]) | none => none)
    | .DictComp kx vx [⟨tg, it, [], ia⟩] scope _ => if ia = 0 then
        (match ownOf c.N scope.names with
        | none => none
        | some own => if blkC c.N c.sc scope own && !setB it then
          (match compI (compE n c) c tg it, compT n ⟨c.N, relS scope c.sc, fun x => scope.names.lookup x == some NameKind.cell⟩ tg, compE n ⟨c.N, relS scope c.sc, fun x => scope.names.lookup x == some NameKind.cell⟩ kx, compE n ⟨c.N, relS scope c.sc, fun x => scope.names.lookup x == some NameKind.cell⟩ vx with
          | some (k, ms), some t, some mk, some mv => if t.slots.all fun i => (own.map fun q => q.2).contains i then some (.dc k ms t mk mv (own.map fun q => q.2)) else none
          | _, _, _, _ => none) else none) else none
    | _ => none
end
end Mi
set_option maxHeartbeats 16000000
namespace Mi
open PySem PySem.Spec L2
variable [Th]

/-- where the text of c stands -/
structure Good (X : Cx) (c : CC) (k : Nat) : Prop where
  N : X.N = c.N
  nd : X.N.Nodup
  sc : X.env.scope = c.sc
  fnc : X.fn = c.fnc
  calm : X.calm = true
  room : Room (k + 1) X.A
section
variable {X : Cx} {c : CC} {k : Nat}
theorem Good.hu (g : Good X c k) : X.A.units + 65 < cLine := by have := g.room.un; omega
theorem Good.vis (g : Good X c k) {x : Str} (h : visB c.sc x = true) : Vis X.env.scope x := by
  rw [g.sc]
  unfold visB at h
  split at h
  · rename_i e; exact .inl e
  · rename_i e; exact .inr (.inl e)
  · rename_i e; exact .inr (.inr e)
  · cases h
theorem Good.gl (g : Good X c k) {x : Str} (h : glB c.sc x = true) : Gl X x := by
  unfold glB at h
  split at h
  · rename_i e
    show X.env.scope.names.lookup x = some .globalImplicit
    rw [g.sc]; exact e
  · cases h
theorem Good.sto (g : Good X c k) {x : Str} (h : stoB c x = true) : Loc X.env.scope x ∧ (X.fn x = true ∨ X.env.scope.names.lookup x = some .local) := by
  rw [g.sc, g.fnc]
  unfold stoB at h
  split at h
  · rename_i e; exact ⟨.inl e, .inr e⟩
  · rename_i e; exact ⟨.inr e, .inl h⟩
  · cases h
theorem Good.blk (g : Good X c k) (s : Shared) (H : Hp) (scope : Scope) (C : Addr) (cl : List (Str × Addr)) (fp : List Addr) :
    Good (X.blk s H scope (compEnvC scope cl C X.env) fp) ⟨c.N, relS scope c.sc, fun x => scope.names.lookup x == some NameKind.cell⟩ k := by
  refine ⟨g.N, g.nd, ?_, rfl, g.calm, g.room⟩
  show relS scope X.env.scope = relS scope c.sc
  rw [g.sc]
/-! ## what the rules ask of the syntax -/
theorem star_cons {e : Expr} {es : List Expr} {env : Env} (h : starB e = false) : starEach (e :: es) env = (false, eval e env) :: starEach es env := by
  cases e <;> first | rfl | cases h
theorem star_plain {env : Env} {pos : Pos} : ∀ {es : List Expr}, es.any starB = false → (backTo pos (starEach es env)).any (·.1) = false
  | [], _ => rfl
  | e :: es, h => by
    rw [List.any_cons, Bool.or_eq_false_iff] at h
    rw [star_cons h.1]
    show (false || _) = false
    rw [Bool.false_or]
    exact star_plain h.2
theorem star_all {env : Env} {pos : Pos} : ∀ {es : List Expr}, es.any starB = false → (backTo pos (starEach es env)).all (fun x => !x.1) = true
  | [], _ => rfl
  | e :: es, h => by
    rw [List.any_cons, Bool.or_eq_false_iff] at h
    rw [star_cons h.1]
    show (true && _) = true
    rw [Bool.true_and]
    exact star_all h.2
theorem base_ok {e : Expr} {f : Str} {env : Env} (h : baseB e = true) : attributeBase e f env (eval e env) = eval e env := by
  cases e <;> first | rfl | skip
  rename_i fn es ks p
  cases fn <;> first | rfl | skip
  cases es <;> first | rfl | skip
  cases ks <;> first | rfl | skip
  cases h
theorem plain_ix {e : Expr} (h : sliceB e = false) : PlainIx e := by
  intro o i
  cases e <;> first | rfl | cases h
theorem assign_cons {e : Expr} {es : List Expr} {env : Env} (h : starB e = false) : assignEach (e :: es) env = (false, assign e env) :: assignEach es env := by
  cases e <;> first | rfl | cases h
theorem assign_len {env : Env} : ∀ {es : List Expr}, es.any starB = false → (assignEach es env).length = es.length
  | [], _ => rfl
  | e :: es, h => by
    rw [List.any_cons, Bool.or_eq_false_iff] at h
    rw [assign_cons h.1]
    simp [assign_len h.2]
theorem assign_plain {env : Env} : ∀ {es : List Expr}, es.any starB = false → (assignEach es env).findIdx? (·.1) = none
  | [], _ => rfl
  | e :: es, h => by
    rw [List.any_cons, Bool.or_eq_false_iff] at h
    rw [assign_cons h.1, List.findIdx?_cons]
    show Option.map _ _ = none
    rw [assign_plain h.2]
    rfl
theorem folded_ok {it : Expr} {env : Env} (h : setB it = false) : ∀ x, foldedSetIterable it env x = pure x := by
  intro x
  cases it <;> first | rfl | cases h
theorem oMap_len {α β : Type} {f : α → Option β} : ∀ {l : List α} {r : List β}, oMap f l = some r → r.length = l.length
  | [], _, e => by cases e; rfl
  | x :: xs, r, e => by
    unfold oMap at e
    split at e
    · split at e
      · rename_i ys ey
        cases e
        simp [oMap_len ey]
      · cases e
    · cases e

/-! ## targets -/
mutual
def gOf (K : PySem.W.Frag) : MT → TG
  | .name i => gName i
  | .tup ts => gTup K ts.length (gsOf K ts)
def gsOf (K : PySem.W.Frag) : List MT → TGs
  | [] => gNil
  | t :: ts => gCons (gOf K t) (gsOf K ts)
end
theorem compT_puts {T : Nat → CC → Expr → Option MT} {n : Nat} (ih : ∀ e t, T n c e = some t → PG X e (gOf X.K t) ∧ PutOk X.K t (gOf X.K t)) : ∀ {es : List Expr} {ts : List MT}, es.any starB = false → oMap (T n c) es = some ts → PGs X es (gsOf X.K ts) ∧ PutsOk X.K ts (gsOf X.K ts)
  | [], _, _, e => by cases e; exact ⟨pgs_nil, puts_nil⟩
  | x :: xs, ts, hs, e => by
    rw [List.any_cons, Bool.or_eq_false_iff] at hs
    unfold oMap at e
    split at e
    · rename_i t et
      split at e
      · rename_i tr er
        cases e
        obtain ⟨p1, o1⟩ := ih x t et
        obtain ⟨p2, o2⟩ := compT_puts ih hs.2 er
        unfold gsOf
        exact ⟨pgs_cons p1 p2 (by rw [assign_cons hs.1]; rfl), puts_cons o1 o2⟩
      · cases e
    · cases e
theorem compT_ok (g : Good X c k) : ∀ (n : Nat) (e : Expr) (t : MT), compT n c e = some t → PG X e (gOf X.K t) ∧ PutOk X.K t (gOf X.K t)
  | 0, _, _, h => by cases h
  | n + 1, e, t, h => by
    cases e with
    | Name x p =>
      unfold compT at h
      simp only at h
      split at h
      · rename_i hs
        split at h
        · rename_i i ei
          cases h
          obtain ⟨hl, hf⟩ := g.sto hs
          unfold gOf
          exact ⟨pg_name g.nd (by rw [g.N]; exact ixOf_get ei) hl hf, put_name i⟩
        · cases h
      · cases h
    | Tuple es kk p =>
      unfold compT at h
      simp only at h
      split at h
      · cases h
      · rename_i hs
        split at h
        · rename_i ts et
          cases h
          have hs' : es.any starB = false := by cases z : es.any starB <;> first | rfl | exact absurd z hs
          obtain ⟨p1, o1⟩ := compT_puts (fun e t => compT_ok g n e t) hs' et
          unfold gOf
          exact ⟨pg_tup g.calm p1 (by rw [assign_len hs', oMap_len et]) (assign_plain hs'), put_tup rfl o1⟩
        · cases h
    | _ => unfold compT at h; cases h
end

/-! ## what is walked -/
theorem PI.or {X : Cx} {tg it : Expr} {t u : TI} (h : PI X tg it t) (h' : PI X tg it u) : PI X tg it (fun σ H R => t σ H R ∨ u σ H R) := ⟨fun pins s σ H R I q => q.elim (h.run pins s σ H R I) (h'.run pins s σ H R I)⟩
section
variable {T : GT} {GC : Gn} {P : Prg} {cl : CallF} {k : Nat} {X : Cx} {c : CC} {W : WX}
theorem pi_over {tg it : Expr} {m : ME} (he : PE X it (tE X.K GC W (ev P cl m))) : PI X tg it (tI X.K GC W (fun ρ h => (evs P cl [m] ρ h).bind (srcM .over))) :=
  PI.weak (PI.or (pi_tup he) (PI.or (pi_list he) (pi_str he))) fun _ _ _ q => src_over q
theorem pa_one {e : Expr} {m : ME} (hs : starB e = false) (he : PE X e (tE X.K GC W (ev P cl m))) : PA X [e] (tA X.K GC W (evs P cl [m])) :=
  PA.weak (pa_cons he pa_nil (star_cons hs)) fun _ _ _ q => by
    have := t_cons q
    exact tM_imp this fun b H' r => t_nil r
theorem pa_two {e f : Expr} {m m' : ME} (hs : starB e = false) (hs2 : starB f = false) (he : PE X e (tE X.K GC W (ev P cl m))) (hf : PE X f (tE X.K GC W (ev P cl m'))) : PA X [e, f] (tA X.K GC W (evs P cl [m, m'])) :=
  PA.weak (pa_cons he (pa_one (GC := GC) (W := W) (P := P) (cl := cl) hs2 hf) (star_cons hs)) fun _ _ _ q => t_cons q
theorem compI_ok (g : Good X c k) (free : ∀ x ∈ (["len", "abs", "any", "all", "isinstance", "enumerate", "zip", "range", "int", "str", "tuple", "list", "bool", "dict", "ValueError", "sorted", "set", "max", "min"] : List Str), X.mg x = none)
    {ce : Expr → Option ME} (hce : ∀ e m, ce e = some m → PE X e (tE X.K GC W (ev P cl m))) {tg it : Expr} {kk : IK} {ms : List ME} (h : compI ce c tg it = some (kk, ms)) :
    PI X tg it (tI X.K GC W (fun ρ h => (evs P cl ms ρ h).bind (srcM kk))) := by
  have over : ∀ m, ce it = some m → PI X tg it (tI X.K GC W (fun ρ h => (evs P cl [m] ρ h).bind (srcM .over))) := fun m e => pi_over (hce it m e)
  have ov : (match ce it with | some m => some (IK.over, [m]) | none => none) = some (kk, ms) → PI X tg it (tI X.K GC W (fun ρ h => (evs P cl ms ρ h).bind (srcM kk))) := fun e => by
    cases em : ce it with
    | none => rw [em] at e; cases e
    | some m => rw [em] at e; cases e; exact over m em
  unfold compI at h
  split at h
  · rename_i x p1 e p2
    split at h
    · rename_i hb
      rw [Bool.and_eq_true, Bool.not_eq_true'] at hb
      have gx := g.gl hb.1
      split at h
      · rename_i ex
        subst ex
        split at h
        · rename_i ht
          cases tg <;> first | cases ht | skip
          split at h
          · rename_i m em
            cases h
            exact PI.weak (pi_enumA gx (free _ (by decide)) (pa_one hb.2 (hce e m em)) (by rw [star_cons hb.2]; rfl)) fun _ _ _ q => src_enum q
          · cases h
        · cases h
      · split at h
        · rename_i ex
          subst ex
          split at h
          · rename_i m em
            cases h
            exact PI.weak (pi_range1 gx (free _ (by decide)) (pa_one hb.2 (hce e m em)) (by rw [star_cons hb.2]; rfl)) fun _ _ _ q => src_rng1 q
          · cases h
        · exact ov h
    · exact ov h
  · rename_i x p1 e f p2
    split at h
    · rename_i hb
      rw [Bool.and_eq_true, Bool.and_eq_true, Bool.not_eq_true', Bool.not_eq_true'] at hb
      have gx := g.gl hb.1.1
      split at h
      · rename_i ex
        subst ex
        split at h
        · rename_i ht
          cases tg <;> first | cases ht | skip
          split at h
          · rename_i m m' em em'
            cases h
            exact PI.weak (pi_zip gx (free _ (by decide)) (pa_two hb.1.2 hb.2 (hce e m em) (hce f m' em')) (star_cons hb.1.2) (star_plain (by rw [List.any_cons, hb.2]; rfl))) fun _ _ _ q => src_zip q
          · cases h
        · cases h
      · split at h
        · rename_i ex
          subst ex
          split at h
          · rename_i m m' em em'
            cases h
            exact PI.weak (pi_range2 gx (free _ (by decide)) (pa_two hb.1.2 hb.2 (hce e m em) (hce f m' em')) (by rw [star_cons hb.1.2, star_cons hb.2]; rfl) (by rw [star_cons hb.2]; rfl)) fun _ _ _ q => src_rng2 q
          · cases h
        · exact ov h
    · exact ov h
  · split at h
    · cases h
    · exact ov h
/-- arguments -/
theorem pa_all {ce : Expr → Option ME} (hce : ∀ e m, ce e = some m → PE X e (tE X.K GC W (ev P cl m))) : ∀ {es : List Expr} {ms : List ME}, es.any starB = false → oMap ce es = some ms → PA X es (tA X.K GC W (evs P cl ms))
  | [], _, _, e => by cases e; exact PA.weak pa_nil fun _ _ _ q => t_nil q
  | x :: xs, ms, hs, e => by
    rw [List.any_cons, Bool.or_eq_false_iff] at hs
    unfold oMap at e
    split at e
    · rename_i m em
      split at e
      · rename_i mr er
        cases e
        exact PA.weak (pa_cons (hce x m em) (pa_all hce hs.2 er) (star_cons hs.1)) fun _ _ _ q => t_cons q
      · cases e
    · cases e
end
end Mi
set_option maxHeartbeats 32000000
namespace Mi
open PySem PySem.Spec L2
variable [Th]

section
variable {K : PySem.W.Frag} {GC : Gn} {P : Prg} {cl : CallF} {W : WX} {σ : L2.St} {H : Hp}
/-! ## comparisons give truth values -/
theorem cop_bl {o : Cop} {x y v : MV} {h h1 : MH} (e : o.run x y h = .ok v h1) : ∃ b, v = .bl b := by
  cases o with
  | eq =>
    have e' : eqM false x y h = .ok v h1 := e
    unfold eqM eqD at e'
    repeat' split at e'
    all_goals first | (cases e'; exact ⟨_, rfl⟩) | cases e'
  | ne =>
    have e' : eqM true x y h = .ok v h1 := e
    unfold eqM eqD at e'
    repeat' split at e'
    all_goals first | (cases e'; exact ⟨_, rfl⟩) | cases e'
  | lt => cases x <;> cases y <;> first | (cases e; exact ⟨_, rfl⟩) | cases e
  | le => cases x <;> cases y <;> first | (cases e; exact ⟨_, rfl⟩) | cases e
  | gt => cases x <;> cases y <;> first | (cases e; exact ⟨_, rfl⟩) | cases e
  | ge => cases x <;> cases y <;> first | (cases e; exact ⟨_, rfl⟩) | cases e
  | isin =>
    have e' : inM false x y h = .ok v h1 := e
    unfold inM at e'
    simp only at e'
    split at e'
    · cases e'; exact ⟨_, rfl⟩
    · cases e'
  | notin =>
    have e' : inM true x y h = .ok v h1 := e
    unfold inM at e'
    simp only at e'
    split at e'
    · cases e'; exact ⟨_, rfl⟩
    · cases e'
  | is => cases y <;> first | (cases e; done) | (cases x <;> first | (cases e; exact ⟨_, rfl⟩) | cases e)
  | isnot => cases y <;> first | (cases e; done) | (cases x <;> first | (cases e; exact ⟨_, rfl⟩) | cases e)
theorem cmp_bl {o : Cop} {a b : ME} {ρ : Rho} {h h1 : MH} {v : MV} (e : ev P cl (.cmp o a b) ρ h = .ok v h1) : ∃ b, v = .bl b := by
  unfold ev at e
  cases ea : ev P cl a ρ h with
  | ok x h2 =>
    rw [ea] at e
    have e2 : (ev P cl b ρ h2).bind (fun y h3 => o.run x y h3) = .ok v h1 := e
    cases eb : ev P cl b ρ h2 with
    | ok y h3 => rw [eb] at e2; exact cop_bl e2
    | ex _ _ _ => rw [eb] at e2; cases e2
    | wall => rw [eb] at e2; cases e2
  | ex _ _ _ => rw [ea] at e; cases e
  | wall => rw [ea] at e; cases e
theorem chain_bl {o o' : Cop} {a b c : ME} {ρ : Rho} {h h1 : MH} {v : MV} (e : ev P cl (.chain o o' a b c) ρ h = .ok v h1) : ∃ b, v = .bl b := by
  unfold ev at e
  cases ea : ev P cl a ρ h with
  | ok x h2 =>
    rw [ea] at e
    dsimp only [R.bind] at e
    cases eb : ev P cl b ρ h2 with
    | ok y h3 =>
      rw [eb] at e
      dsimp only at e
      cases ec : o.run x y h3 with
      | ok z h4 =>
        rw [ec] at e
        dsimp only at e
        obtain ⟨k, rfl⟩ := cop_bl ec
        cases k with
        | false => cases e; exact ⟨_, rfl⟩
        | true =>
          dsimp only at e
          cases ed : ev P cl c ρ h4 with
          | ok w h5 => rw [ed] at e; exact cop_bl e
          | ex _ _ _ => rw [ed] at e; cases e
          | wall => rw [ed] at e; cases e
      | ex _ _ _ => rw [ec] at e; cases e
      | wall => rw [ec] at e; cases e
    | ex _ _ _ => rw [eb] at e; cases e
    | wall => rw [eb] at e; cases e
  | ex _ _ _ => rw [ea] at e; cases e
  | wall => rw [ea] at e; cases e
/-- as a test -/
theorem tt_bl {f : Rho → MH → R MV} {Q : Bool → Hp → Prop} (hb : ∀ ρ h v h1, f ρ h = .ok v h1 → ∃ b, v = .bl b) (t : tT K GC W (evT f) σ H Q) : tE K GC W f σ H fun x H' => ∃ k, x = .bl k ∧ Q k H' := by
  obtain ⟨μ, ρ, h, rs, rh, c⟩ := t
  refine tM_imp (tM_bind' (f := f) (Rel := RelE K) rs rh c) fun v H1 ⟨μ1, x, h1, e1, k1, rs1, rh1, r1, ee, c1⟩ => ?_
  obtain ⟨b, rfl⟩ := hb ρ h x h1 ee
  cases r1
  exact ⟨b, rfl, Ct.ok c1 rh1 rfl⟩
end
/-- the rule of a comparison -/
theorem cop_rule {X : Cx} {GC : Gn} (o : Cop) (hu : X.A.units + 65 < cLine) (hs : OpR X (compareOp .Eq) rSelf) : ∃ r, Op2 X.K GC o.run r ∧ ∀ p, copOf p = some o → OpR X (compareOp p) r := by
  cases o with
  | eq => exact ⟨_, o_eq, fun p e => by cases p <;> first | exact (op_eqD (by omega)).or hs | cases e⟩
  | ne => exact ⟨_, o_ne, fun p e => by cases p <;> first | exact op_neD (by omega) | cases e⟩
  | lt => exact ⟨_, o_lt, fun p e => by cases p <;> first | exact op_ltM | cases e⟩
  | le => exact ⟨_, o_le, fun p e => by cases p <;> first | exact op_leM | cases e⟩
  | gt => exact ⟨_, o_gt, fun p e => by cases p <;> first | exact op_gtM | cases e⟩
  | ge => exact ⟨_, o_ge, fun p e => by cases p <;> first | exact op_geM | cases e⟩
  | isin => exact ⟨_, o_in false, fun p e => by cases p <;> first | exact op_inAll hu | cases e⟩
  | notin => exact ⟨_, o_in true, fun p e => by cases p <;> first | exact op_notInAll hu | cases e⟩
  | is => exact ⟨_, o_is, fun p e => by cases p <;> first | exact op_isN | cases e⟩
  | isnot => exact ⟨_, o_isnot, fun p e => by cases p <;> first | exact op_notN | cases e⟩
theorem bop_rule {X : Cx} {GC : Gn} (o : Bop) : ∃ r, Op2 X.K GC o.run r ∧ ∀ p, bopOf p = some o → OpR X (binaryOp p) r := by
  cases o with
  | add => exact ⟨_, o_add, fun p e => by cases p <;> first | exact op_addM | cases e⟩
  | sub => exact ⟨_, o_sub, fun p e => by cases p <;> first | exact op_sub | cases e⟩
  | mul => exact ⟨_, o_mul, fun p e => by cases p <;> first | exact op_mulW.or op_repS | cases e⟩
  | fdiv => exact ⟨_, o_fdiv, fun p e => by cases p <;> first | exact op_fdivW | cases e⟩
  | mod => exact ⟨_, o_mod, fun p e => by cases p <;> first | exact op_mod | cases e⟩
  | pow => exact ⟨_, o_pow, fun p e => by cases p <;> first | exact op_powW | cases e⟩
theorem marks_ok {o : CmpOp} {b : Expr} (h : setB b = false) : behindInMarks o b = false := by cases b <;> first | rfl | cases h
theorem nameB_ok {x : Str} (h : nameB x = true) : (x == ("__debug__" : Str)) = false ∧ (x == ("__classdict__" : Str)) = false ∧ x ≠ ("__name__" : Str) := by
  unfold nameB at h
  rw [Bool.and_eq_true, Bool.and_eq_true, Bool.not_eq_true', Bool.not_eq_true', Bool.not_eq_true'] at h
  exact ⟨h.1.1, h.1.2, by simpa using h.2⟩

section
variable {T : GT} {GC : Gn} {P : Prg} {cl : CallF} {k : Nat}
/-- what is shown of each expression -/
def Snd (X : Cx) (GC : Gn) (P : Prg) (cl : CallF) (W : WX) (e : Expr) (m : ME) : Prop :=
  PE X e (tE X.K GC W (ev P cl m)) ∧ PT X e (tT X.K GC W (evT (ev P cl m))) ∧ ∀ op vs p, e = .BoolOp op vs p → PW X e (tT X.K GC W (evT (ev P cl m)))
theorem snd_of {X : Cx} {W : WX} {e : Expr} {m : ME} (h : PE X e (tE X.K GC W (ev P cl m))) (he : ∀ whole, isTrue e X.env whole = (do let v ← whole; standAt e.pos; holding [v] (truthy v))) (hb : ∀ op vs p, e ≠ .BoolOp op vs p) : Snd X GC P cl W e m :=
  ⟨h, PT.weak (pt_truth h he) fun _ _ _ q => t_tru q, fun op vs p z => absurd z (hb op vs p)⟩
theorem bi_rule {X : Cx} {GC : Gn} {x : Str} {b : Bi} (hc : X.calm = true) (e : biOf x = some b) : x ∈ (["len", "abs", "any", "all", "isinstance", "enumerate", "zip", "range", "int", "str", "tuple", "list", "bool", "dict", "ValueError", "sorted", "set", "max", "min"] : List Str) ∧ ∃ r, OpN X.K GC b.run r ∧
    ((∃ id, CallR X (.builtin id) r ∧ bootBuiltins x = some (.builtin id)) ∨ ∃ ty, CallR X (.type ty) r ∧ bootBuiltins x = some (.type ty)) := by
  unfold biOf at e
  by_cases e1 : x = ("len" : Str)
  · subst e1; rw [if_pos rfl] at e; cases e; exact ⟨by decide, _, o_len, .inl ⟨_, call_len, PySem.boot_len⟩⟩
  rw [if_neg e1] at e
  by_cases e1 : x = ("abs" : Str)
  · subst e1; rw [if_pos rfl] at e; cases e; exact ⟨by decide, _, o_abs, .inl ⟨_, call_abs, by decide +kernel⟩⟩
  rw [if_neg e1] at e
  by_cases e1 : x = ("int" : Str)
  · subst e1; rw [if_pos rfl] at e; cases e; exact ⟨by decide, _, o_int, .inr ⟨_, call_intM, by decide +kernel⟩⟩
  rw [if_neg e1] at e
  by_cases e1 : x = ("str" : Str)
  · subst e1; rw [if_pos rfl] at e; cases e; exact ⟨by decide, _, o_str, .inr ⟨_, call_str_int, by decide +kernel⟩⟩
  rw [if_neg e1] at e
  by_cases e1 : x = ("any" : Str)
  · subst e1; rw [if_pos rfl] at e; cases e; exact ⟨by decide, _, o_any, .inl ⟨_, cr_any hc, by decide +kernel⟩⟩
  rw [if_neg e1] at e
  by_cases e1 : x = ("all" : Str)
  · subst e1; rw [if_pos rfl] at e; cases e; exact ⟨by decide, _, o_all, .inl ⟨_, cr_all hc, by decide +kernel⟩⟩
  rw [if_neg e1] at e
  by_cases e1 : x = ("tuple" : Str)
  · subst e1; rw [if_pos rfl] at e; cases e; exact ⟨by decide, _, o_tuple, .inr ⟨_, call_tuple_of, by decide +kernel⟩⟩
  rw [if_neg e1] at e
  by_cases e1 : x = ("list" : Str)
  · subst e1; rw [if_pos rfl] at e; cases e; exact ⟨by decide, _, o_list, .inr ⟨_, call_list_of, by decide +kernel⟩⟩
  rw [if_neg e1] at e
  cases e
theorem bi2_rule {X : Cx} {GC : Gn} {x : Str} {b : Bi} (hc : X.calm = true) (e : bi2Of x = some b) : x ∈ (["len", "abs", "any", "all", "isinstance", "enumerate", "zip", "range", "int", "str", "tuple", "list", "bool", "dict", "ValueError", "sorted", "set", "max", "min"] : List Str) ∧ ∃ r id, OpN X.K GC b.run r ∧ CallR X (.builtin id) r ∧ bootBuiltins x = some (.builtin id) := by
  unfold bi2Of at e
  by_cases e1 : x = ("max" : Str)
  · subst e1; rw [if_pos rfl] at e; cases e
    refine ⟨by decide, _, _, o_mm2 true, ?_, PyProof.Rows.boot_max⟩
    intro pins s σ H vs us Q I r ⟨i, j, ev, q⟩
    exact call_max2 hc pins s σ H vs us Q I r ⟨i, j, ev, by rw [if_pos rfl] at q; exact q⟩
  rw [if_neg e1] at e
  by_cases e1 : x = ("min" : Str)
  · subst e1; rw [if_pos rfl] at e; cases e
    refine ⟨by decide, _, "min", o_mm2 false, ?_, by decide +kernel⟩
    intro pins s σ H vs us Q I r ⟨i, j, ev, q⟩
    exact call_min2 hc pins s σ H vs us Q I r ⟨i, j, ev, by rw [if_neg Bool.false_ne_true] at q; exact q⟩
  rw [if_neg e1] at e
  cases e
theorem ty_rule {x : Str} {t : String} (e : tyOf x = some t) : x ∈ (["len", "abs", "any", "all", "isinstance", "enumerate", "zip", "range", "int", "str", "tuple", "list", "bool", "dict", "ValueError", "sorted", "set", "max", "min"] : List Str) ∧ bootBuiltins x = some (.type t) := by
  unfold tyOf at e
  by_cases e1 : x = ("int" : Str)
  · subst e1; rw [if_pos rfl] at e; cases e; exact ⟨by decide, by decide +kernel⟩
  rw [if_neg e1] at e
  by_cases e1 : x = ("str" : Str)
  · subst e1; rw [if_pos rfl] at e; cases e; exact ⟨by decide, by decide +kernel⟩
  rw [if_neg e1] at e
  by_cases e1 : x = ("bool" : Str)
  · subst e1; rw [if_pos rfl] at e; cases e; exact ⟨by decide, by decide +kernel⟩
  rw [if_neg e1] at e
  by_cases e1 : x = ("tuple" : Str)
  · subst e1; rw [if_pos rfl] at e; cases e; exact ⟨by decide, by decide +kernel⟩
  rw [if_neg e1] at e
  by_cases e1 : x = ("list" : Str)
  · subst e1; rw [if_pos rfl] at e; cases e; exact ⟨by decide, by decide +kernel⟩
  rw [if_neg e1] at e
  by_cases e1 : x = ("dict" : Str)
  · subst e1; rw [if_pos rfl] at e; cases e; exact ⟨by decide, by decide +kernel⟩
  rw [if_neg e1] at e
  by_cases e1 : x = ("ValueError" : Str)
  · subst e1; rw [if_pos rfl] at e; cases e; exact ⟨by decide, by decide +kernel⟩
  rw [if_neg e1] at e
  cases e
/-- a method of a built-in type -/
theorem bm_rule {X : Cx} {W : WX} {m : Str} {b : Bm} {o e : Expr} {o' e' : ME} {ap p : Pos} (em : bmOf m = some b) (ho : PE X o (tE X.K GC W (ev P cl o'))) (he : PE X e (tE X.K GC W (ev P cl e'))) (hs : starB e = false) (hb : baseB o = true) (hl : lineB ap p = true) :
    PE X (.Call (.Attribute o m ap) [e] [] p) (tE X.K GC W (ev P cl (.bm b o' [e']))) := by
  have ha := pa_one (GC := GC) (W := W) (P := P) (cl := cl) hs he
  have hst : starEach [e] X.env = (false, eval e X.env) :: starEach [] X.env := star_cons hs
  have hfew : ((backTo p (starEach [e] X.env)).all (fun x => !x.1) && (backToKw p (keywordEach [] X.env)).all (fun x => x.1.isSome) && decide (([e] : List Expr).length + ([] : List Keyword).length + (if ([] : List Keyword).isEmpty then 0 else 1) < 30)) = true := by
    rw [hst]; rfl
  unfold bmOf at em
  by_cases e1 : m = ("split" : Str)
  · subst e1; rw [if_pos rfl] at em; cases em
    exact PE.weak (pe_bm PySem.F.plainAttrs_str PySem.F.slot_str_split PySem.F.type_str_split mt_split ho ha (base_ok hb) hfew hl hst rfl) fun _ _ _ q => t_bm (bb := .split) o_split (recv_str (by constructor <;> (intro z; cases z))) q
  rw [if_neg e1] at em
  by_cases e1 : m = ("lstrip" : Str)
  · subst e1; rw [if_pos rfl] at em; cases em
    exact PE.weak (pe_bm PySem.F.plainAttrs_str PySem.F.slot_str_lstrip PySem.F.type_str_lstrip mt_lstripChars ho ha (base_ok hb) hfew hl hst rfl) fun _ _ _ q => t_bm (bb := .lstrip) o_lstrip (recv_str (by constructor <;> (intro z; cases z))) q
  rw [if_neg e1] at em
  by_cases e1 : m = ("rstrip" : Str)
  · subst e1; rw [if_pos rfl] at em; cases em
    exact PE.weak (pe_bm PySem.F.plainAttrs_str PySem.F.slot_str_rstrip PySem.F.type_str_rstrip mt_rstripChars ho ha (base_ok hb) hfew hl hst rfl) fun _ _ _ q => t_bm (bb := .rstrip) o_rstrip (recv_str (by constructor <;> (intro z; cases z))) q
  rw [if_neg e1] at em
  by_cases e1 : m = ("join" : Str)
  · subst e1; rw [if_pos rfl] at em; cases em
    exact PE.weak (pe_bm PySem.F.plainAttrs_str PySem.F.slot_str_join PySem.F.type_str_join mt_join ho ha (base_ok hb) hfew hl hst rfl) fun _ _ _ q => t_bm (bb := .join) o_join (recv_str (by constructor <;> (intro z; cases z))) q
  rw [if_neg e1] at em
  by_cases e1 : m = ("partition" : Str)
  · subst e1; rw [if_pos rfl] at em; cases em
    exact PE.weak (pe_bm PySem.F.plainAttrs_str PySem.F.slot_str_partition PySem.F.type_str_partition mt_partition ho ha (base_ok hb) hfew hl hst rfl) fun _ _ _ q => t_bm (bb := .partition) o_part (recv_str (by constructor <;> (intro z; cases z))) q
  rw [if_neg e1] at em
  by_cases e1 : m = ("startswith" : Str)
  · subst e1; rw [if_pos rfl] at em; cases em
    exact PE.weak (pe_bm PySem.F.plainAttrs_str PySem.F.slot_str_startswith PySem.F.type_str_startswith mt_startswith ho ha (base_ok hb) hfew hl hst rfl) fun _ _ _ q => t_bm (bb := .startswith) o_starts (recv_str (by constructor <;> (intro z; cases z))) q
  rw [if_neg e1] at em
  by_cases e1 : m = ("endswith" : Str)
  · subst e1; rw [if_pos rfl] at em; cases em
    exact PE.weak (pe_bm PySem.F.plainAttrs_str PySem.F.slot_str_endswith PySem.F.type_str_endswith mt_endswith ho ha (base_ok hb) hfew hl hst rfl) fun _ _ _ q => t_bm (bb := .endswith) o_ends (recv_str (by constructor <;> (intro z; cases z))) q
  rw [if_neg e1] at em
  by_cases e1 : m = ("count" : Str)
  · subst e1; rw [if_pos rfl] at em; cases em
    exact PE.weak (pe_bm PySem.F.plainAttrs_str PySem.F.slot_str_count PySem.F.type_str_count mt_count ho ha (base_ok hb) hfew hl hst rfl) fun _ _ _ q => t_bm (bb := .count) o_count (recv_str (by constructor <;> (intro z; cases z))) q
  rw [if_neg e1] at em
  by_cases e1 : m = ("append" : Str)
  · subst e1; rw [if_pos rfl] at em; cases em
    exact PE.weak (pe_bm PySem.F.plainAttrs_list PySem.F.slot_list_append PySem.F.type_list_append mt_append ho ha (base_ok hb) hfew hl hst rfl) fun _ _ _ q => t_bm (bb := .append) o_append (recv_lst (.inl rfl)) q
  rw [if_neg e1] at em
  by_cases e1 : m = ("extend" : Str)
  · subst e1; rw [if_pos rfl] at em; cases em
    exact PE.weak (pe_bm PySem.F.plainAttrs_list PySem.F.slot_list_extend PySem.F.type_list_extend mt_extend ho ha (base_ok hb) hfew hl hst rfl) fun _ _ _ q => t_bm (bb := .extend) o_extend (recv_lst (.inr rfl)) q
  rw [if_neg e1] at em
  cases em
end
end Mi
set_option maxHeartbeats 64000000
namespace Mi
open PySem PySem.Spec L2
variable [Th]

section
variable {T : GT} {GC : Gn} {P : Prg} {cl : CallF} {k : Nat}
theorem any_false {es : List Expr} (h : (!es.any starB) = true) : es.any starB = false := by
  rw [Bool.not_eq_true'] at h
  exact h
theorem compE_set {n : Nat} {c : CC} {e : Expr} {m : ME} (h : compE T GC.NM P n c e = some m) : setB e = false := by
  cases e <;> first | rfl | skip
  cases n <;> (unfold compE at h; cases h)
theorem PO.weak {X : Cx} {e : Option Expr} {t t' : TO} (h : PO X e t) (i : ∀ σ H Q, t' σ H Q → t σ H Q) : PO X e t' := ⟨fun pins s σ H Q I q => h.run pins s σ H Q I (i σ H Q q)⟩
theorem po_of {X : Cx} {W : WX} {ce : Expr → Option ME} (hce : ∀ e m, ce e = some m → PE X e (tE X.K GC W (ev P cl m))) {o : Option Expr} {m : ME} (h : partME ce o = some m) : PO X o (tM X.K GC (fun _ _ a b => a = b) W (evP P cl m)) := by
  unfold partME at h
  cases o with
  | none => cases h; exact PO.weak po_none fun _ _ _ q => t_noPart q
  | some l =>
    simp only at h
    split at h
    · rename_i l' el
      split at h
      · cases h
      · rename_i hn
        cases h
        exact PO.weak (po_some (hce l m el)) fun _ _ _ q => t_part (fun z => hn z) q
    · cases h
/-- THE EXPRESSIONS -/
theorem sound : ∀ (n : Nat) (X : Cx) (c : CC) (W : WX) (e : Expr) (m : ME), Good X c k → Wd T P cl GC k X.prog X.w X.K X.mg X.base → Takes X W → compE T GC.NM P n c e = some m → Snd X GC P cl W e m
  | 0, _, _, _, _, _, _, _, _, h => by cases h
  | n + 1, X, c, W, e, m, g, wd, tk, h => by
    have IH : ∀ e m, compE T GC.NM P n c e = some m → Snd X GC P cl W e m := fun e m he => sound n X c W e m g wd tk he
    have IHe : ∀ e m, compE T GC.NM P n c e = some m → PE X e (tE X.K GC W (ev P cl m)) := fun e m he => (IH e m he).1
    cases e with
    | Name x p =>
      unfold compE at h
      simp only at h
      split at h
      · rename_i hn
        obtain ⟨n1, n2, n3⟩ := nameB_ok hn
        split at h
        · rename_i hv
          split at h
          · rename_i i ei
            cases h
            exact snd_of (PE.weak (pe_var (by rw [g.N]; exact ixOf_get ei) (g.vis hv) n1 n2) fun _ _ _ q => t_var q) (fun _ => rfl) (fun _ _ _ z => nomatch z)
          · cases h
        · split at h
          · rename_i hg
            split at h
            · rename_i v ev
              cases h
              obtain ⟨u, v', e1, e2, e3⟩ := wd.con x v ev
              exact snd_of (PE.weak (pe_glob (g.gl hg) e1 e2 n1) fun _ _ _ q => t_cst e3 q) (fun _ => rfl) (fun _ _ _ z => nomatch z)
            · cases h
          · cases h
      · cases h
    | Constant v j p =>
      unfold compE at h
      cases v with
      | int i => cases h; exact snd_of (PE.weak pe_int fun _ _ _ q => t_cst (fun _ _ => .int i) q) (fun _ => rfl) (fun _ _ _ z => nomatch z)
      | bool b => cases h; exact snd_of (PE.weak pe_bl fun _ _ _ q => t_cst (fun _ _ => .bl b) q) (fun _ => rfl) (fun _ _ _ z => nomatch z)
      | str s => cases h; exact snd_of (PE.weak pe_str fun _ _ _ q => t_cst (fun _ _ => .str s) q) (fun _ => rfl) (fun _ _ _ z => nomatch z)
      | none => cases h; exact snd_of (PE.weak pe_non fun _ _ _ q => t_cst (fun _ _ => .non) q) (fun _ => rfl) (fun _ _ _ z => nomatch z)
      | _ => cases h
    | BinOp a o b p =>
      unfold compE at h
      simp only at h
      split at h
      · rename_i o' a' b' eo ea eb
        cases h
        obtain ⟨r, h1, h2⟩ := bop_rule (X := X) (GC := GC) o'
        exact snd_of (PE.weak (pe_op (h2 o eo) (IHe a a' ea) (IHe b b' eb)) fun σ H Q q => t_op2 h1 (by
          obtain ⟨μ, ρ, hh, rs, rh, cc⟩ := q
          unfold ev at cc
          exact ⟨μ, ρ, hh, rs, rh, cc⟩)) (fun _ => rfl) (fun _ _ _ z => nomatch z)
      · cases h
    | UnaryOp o a p =>
      unfold compE at h
      cases o with
      | Not =>
        simp only at h
        split at h
        · rename_i a' ea
          cases h
          refine ⟨PE.weak (pe_notT (IHe a a' ea)) fun _ _ _ q => t_not q, PT.weak (pt_not (IH a a' ea).2.1) fun _ _ _ q => tt_not q, fun _ _ _ z => nomatch z⟩
        · cases h
      | USub =>
        simp only at h
        split at h
        · rename_i a' ea
          cases h
          exact snd_of (PE.weak (pe_un un_neg (IHe a a' ea)) fun _ _ _ q => t_neg q) (fun _ => rfl) (fun _ _ _ z => nomatch z)
        · cases h
      | _ => cases h
    | BoolOp o vs p =>
      unfold compE at h
      cases o with
      | And =>
        cases vs with
        | nil => cases h
        | cons a r =>
          cases r with
          | nil =>
            simp only at h
            obtain ⟨h1, h2, _⟩ := IH a m h
            have pw : PW X (.BoolOp .And [a] p) (tT X.K GC W (evT (ev P cl m))) := pw_and1 h2
            exact ⟨pe_one h1, pw.pt, fun op vs q z => by cases z; exact pw⟩
          | cons b r =>
            simp only at h
            split at h
            · rename_i a' b' ea eb
              cases h
              obtain ⟨h1, h2, _⟩ := IH a a' ea
              obtain ⟨k1, _, k3⟩ := IH _ b' eb
              have pw : PW X (.BoolOp .And (a :: b :: r) p) (tT X.K GC W (evT (ev P cl (.and a' b')))) := PW.weak (pw_and h2 (k3 _ _ _ rfl)) fun _ _ _ q => tt_and q
              exact ⟨PE.weak (pe_andT h1 k1) fun _ _ _ q => t_and q, pw.pt, fun op vs q z => by cases z; exact pw⟩
            · cases h
      | Or =>
        cases vs with
        | nil => cases h
        | cons a r =>
          cases r with
          | nil =>
            simp only at h
            obtain ⟨h1, h2, _⟩ := IH a m h
            have pw : PW X (.BoolOp .Or [a] p) (tT X.K GC W (evT (ev P cl m))) := pw_or1 h2
            exact ⟨pe_one h1, pw.pt, fun op vs q z => by cases z; exact pw⟩
          | cons b r =>
            simp only at h
            split at h
            · rename_i a' b' ea eb
              cases h
              obtain ⟨h1, h2, _⟩ := IH a a' ea
              obtain ⟨k1, _, k3⟩ := IH _ b' eb
              have pw : PW X (.BoolOp .Or (a :: b :: r) p) (tT X.K GC W (evT (ev P cl (.or a' b')))) := PW.weak (pw_or h2 (k3 _ _ _ rfl)) fun _ _ _ q => tt_or q
              exact ⟨PE.weak (pe_orT h1 k1) fun _ _ _ q => t_or q, pw.pt, fun op vs q z => by cases z; exact pw⟩
            · cases h
    | Compare a os bs p =>
      unfold compE at h
      cases os with
      | nil => cases h
      | cons o os =>
        cases os with
        | nil =>
          cases bs with
          | nil => cases h
          | cons b bs =>
            cases bs with
            | cons _ _ => cases h
            | nil =>
              simp only at h
              split at h
              · rename_i o' a' b' eo ea eb
                cases h
                obtain ⟨r, h1, h2⟩ := cop_rule (X := X) (GC := GC) o' g.hu (wd.eqS X rfl rfl rfl rfl rfl g.calm g.room)
                have hq : ∀ (Q : VK) σ H, tE X.K GC W (ev P cl (.cmp o' a' b')) σ H Q → tOp r (tE X.K GC W (ev P cl a')) (tE X.K GC W (ev P cl b')) σ H Q := fun Q σ H q => t_op2 h1 (by
                  obtain ⟨μ, ρ, hh, rs, rh, cc⟩ := q
                  unfold ev at cc
                  exact ⟨μ, ρ, hh, rs, rh, cc⟩)
                exact ⟨PE.weak (pe_cmpR (h2 o eo) (IHe a a' ea) (IHe b b' eb) (marks_ok (compE_set eb))) fun _ _ _ q => hq _ _ _ q,
                  PT.weak (pt_cmpR (h2 o eo) (IHe a a' ea) (IHe b b' eb) (marks_ok (compE_set eb))) fun _ _ _ q => hq _ _ _ (tt_bl (fun _ _ _ _ => cmp_bl) q), fun _ _ _ z => nomatch z⟩
              · cases h
        | cons o2 os =>
          cases os with
          | cons _ _ => cases h
          | nil =>
            cases bs with
            | nil => cases h
            | cons b bs =>
              cases bs with
              | nil => cases h
              | cons d bs =>
                cases bs with
                | cons _ _ => cases h
                | nil =>
                  simp only at h
                  split at h
                  · rename_i o' p' a' b' d' eo ep ea eb ed
                    cases h
                    obtain ⟨r, h1, h2⟩ := cop_rule (X := X) (GC := GC) o' g.hu (wd.eqS X rfl rfl rfl rfl rfl g.calm g.room)
                    obtain ⟨r', h1', h2'⟩ := cop_rule (X := X) (GC := GC) p' g.hu (wd.eqS X rfl rfl rfl rfl rfl g.calm g.room)
                    have hm : lastMarks [o, o2] [b, d] = false := marks_ok (compE_set ed)
                    exact ⟨PE.weak (pe_chain (h2 o eo) (h2' o2 ep) (IHe a a' ea) (IHe b b' eb) (IHe d d' ed) hm) fun _ _ _ q => t_chain h1 h1' q,
                      PT.weak (pt_chain (h2 o eo) (h2' o2 ep) (IHe a a' ea) (IHe b b' eb) (IHe d d' ed) hm) fun _ _ _ q => t_chain h1 h1' (tt_bl (fun _ _ _ _ => chain_bl) q), fun _ _ _ z => nomatch z⟩
                  · cases h
    | IfExp t a b p =>
      unfold compE at h
      simp only at h
      split at h
      · rename_i t' a' b' et ea eb
        cases h
        refine ⟨PE.weak (pe_ifExp (IH t t' et).2.1 (IHe a a' ea) (IHe b b' eb)) fun _ _ _ q => t_ite q, ?_, fun _ _ _ z => nomatch z⟩
        refine ⟨fun pins s σ H Q I q => ?_⟩
        show wpAny _ _ (do if ← isTrue t X.env (eval t X.env) then isTrue a X.env (eval a X.env) else isTrue b X.env (eval b X.env)) _ _ _
        obtain ⟨μ, ρ, hh, rs, rh, cc⟩ := q
        rw [evT_ite] at cc
        refine wpAny_bind (thn ((IH t t' et).2.1.run pins s σ H _ I (tM_bind (f := evT (ev P cl t')) (Rel := RelT) rs rh cc)) fun v s1 ⟨H1, I1, μ1, x, h1, e1, k1, rs1, rh1, r1, c1⟩ => ?_)
        obtain rfl : x = v := r1
        cases x with
        | true =>
          rw [if_pos rfl] at c1 ⊢
          exact (IH a a' ea).2.1.run pins s1 σ H1 Q I1 ⟨μ1, ρ, h1, rs1, rh1, c1⟩
        | false =>
          rw [if_neg Bool.false_ne_true] at c1 ⊢
          exact (IH b b' eb).2.1.run pins s1 σ H1 Q I1 ⟨μ1, ρ, h1, rs1, rh1, c1⟩
      · cases h
    | Attribute o f p =>
      unfold compE at h
      simp only at h
      split at h
      · rename_i hb
        split at h
        · rename_i o' f' eo ef
          cases h
          exact snd_of (PE.weak (pe_fx (IHe o o' eo) (base_ok hb)) fun _ _ _ q => t_fld wd (ixOf_get ef) q) (fun _ => rfl) (fun _ _ _ z => nomatch z)
        · cases h
      · cases h
    | Tuple es kk p =>
      unfold compE at h
      simp only at h
      split at h
      · cases h
      · rename_i hs
        have hs' : es.any starB = false := by cases z : es.any starB <;> first | rfl | exact absurd z hs
        split at h
        · rename_i ms em
          cases h
          exact snd_of (PE.weak (pe_tup (pa_all IHe hs' em)) fun _ _ _ q => t_tup q) (fun _ => rfl) (fun _ _ _ z => nomatch z)
        · cases h
    | List es p =>
      unfold compE at h
      simp only at h
      split at h
      · cases h
      · rename_i hs
        have hs' : es.any starB = false := by cases z : es.any starB <;> first | rfl | exact absurd z hs
        split at h
        · rename_i ms em
          cases h
          exact snd_of (PE.weak (pe_lst (pa_all IHe hs' em)) fun _ _ _ q => t_lst q) (fun _ => rfl) (fun _ _ _ z => nomatch z)
        · cases h
    | Subscript a i p =>
      have ix : sliceB i = false → compE T GC.NM P (n + 1) c (.Subscript a i p) = (match compE T GC.NM P n c a, compE T GC.NM P n c i with | some a', some i' => some (.ix a' i') | _, _ => none) := fun hs => by
        have e : compE T GC.NM P (n + 1) c (.Subscript a i p) = subME (compE T GC.NM P n c) a i := by
          unfold compE
          rfl
        rw [e]
        exact subME_ix hs
      cases hs : sliceB i with
      | false =>
        rw [ix hs] at h
        split at h
        · rename_i a' i' ea ei
          cases h
          exact snd_of (PE.weak (pe_ix (ix_M (by have := g.hu; omega)) (IHe a a' ea) (IHe i i' ei) (plain_ix hs)) fun σ H Q q => t_op2 o_ix (by
            obtain ⟨μ, ρ, hh, rs, rh, cc⟩ := q
            unfold ev at cc
            exact ⟨μ, ρ, hh, rs, rh, cc⟩)) (fun _ => rfl) (fun _ _ _ z => nomatch z)
        · cases h
      | true =>
        cases i <;> first | cases hs | skip
        rename_i lo hi st p2
        cases st with
        | some _ => unfold compE at h; simp only [subME] at h; cases h
        | none =>
          have e : compE T GC.NM P (n + 1) c (.Subscript a (.Slice lo hi none p2) p) = subME (compE T GC.NM P n c) a (.Slice lo hi none p2) := by
            unfold compE
            rfl
          rw [e] at h
          unfold subME at h
          simp only at h
          split at h
          · rename_i a' l' h' ea el eh
            cases h
            exact snd_of (PE.weak (pe_slice sl_M (IHe a a' ea) (po_of IHe el) (po_of IHe eh)) fun _ _ _ q => t_sl q) (fun _ => rfl) (fun _ _ _ z => nomatch z)
          · cases h
    | Call f es ks p =>
      cases ks with
      | cons kw kr =>
        obtain ⟨kn, d, kp⟩ := kw
        cases f with
        | Name x px =>
          cases kr with
          | cons _ _ =>
            rcases kn with _ | kn <;> rcases es with _ | ⟨e0, _ | ⟨_, _⟩⟩ <;> (unfold compE at h; cases h)
          | nil =>
            cases kn with
            | none => rcases es with _ | ⟨e0, _ | ⟨_, _⟩⟩ <;> (unfold compE at h; cases h)
            | some kw =>
              cases es with
              | nil => unfold compE at h; cases h
              | cons e0 er =>
                cases er with
                | cons _ _ => unfold compE at h; cases h
                | nil =>
                  unfold compE at h
                  simp only at h
                  split at h
                  · rename_i hb
                    simp only [Bool.and_eq_true, Bool.not_eq_true', decide_eq_true_eq] at hb
                    obtain ⟨⟨⟨hg, rfl⟩, rfl⟩, hse⟩ := hb
                    split at h
                    · rename_i m0 m1 e1 e2
                      cases h
                      have pk : PK X [⟨some ("default" : Str), d, kp⟩] (tA X.K GC W (evs P cl [m1])) := ⟨fun pos pins s σ H Q I q => (pk_cons (IHe d m1 e2) pk_nil).run pos pins s σ H Q I (by
                        have := t_cons q
                        exact tM_imp this fun b H' r => t_nil r)⟩
                      refine snd_of (PE.weak (pe_callBK (cr_maxD1 g.calm) (g.gl hg) (wd.free _ (by decide)) PyProof.Rows.boot_max (pa_one hse (IHe e0 m0 e1)) pk (by decide) rfl ?_ ?_ rfl rfl rfl) fun _ _ _ q => t_maxd q) (fun _ => rfl) (fun _ _ _ z => nomatch z)
                      · rw [star_cons hse]; rfl
                      · rw [star_cons hse]; rfl
                    · cases h
                  · cases h
        | _ => unfold compE at h; cases h
      | nil =>
        cases f with
        | Name x px =>
          unfold compE at h
          simp only at h
          split at h
          · rename_i hb
            rw [Bool.and_eq_true, Bool.and_eq_true] at hb
            have gx := g.gl hb.1.1
            obtain ⟨n1, n2, n3⟩ := nameB_ok hb.1.2
            have hs' := any_false hb.2
            refine snd_of ?_ (fun _ => rfl) (fun _ _ _ z => nomatch z)
            split at h
            · rename_i ex
              subst ex
              split at h
              · rename_i e0 y py
                split at h
                · rename_i hy
                  rw [Bool.and_eq_true] at hy
                  have gy := g.gl hy.1
                  obtain ⟨m1, m2, m3⟩ := nameB_ok hy.2
                  have hse : starB e0 = false := by
                    rw [List.any_cons, Bool.or_eq_false_iff] at hs'
                    exact hs'.1
                  split at h
                  · rename_i m0 em
                    have call : ∀ cc : Mi.Cl, PE X (.Name y py) (tC (clV GC cc)) → PE X (.Call (.Name "isinstance" px) [e0, .Name y py] [] p) (tE X.K GC W (ev P cl (.isi m0 cc))) := fun cc hc =>
                      PE.weak (pe_callB call_isA gx (wd.free _ (by decide)) (by decide +kernel) (pa_cons (IHe e0 m0 em) (pa_cons hc pa_nil (star_cons rfl)) (star_cons hse)) n3 n1 (star_cons hse) rfl) fun _ _ _ q => t_isi wd q
                    split at h
                    · rename_i t et
                      cases h
                      obtain ⟨hmem, hbb⟩ := ty_rule et
                      exact call (.ty t) (pe_bltn gy (wd.free _ hmem) hbb rfl m3 m1)
                    · split at h
                      · rename_i i ei
                        split at h
                        · rename_i C eC
                          cases h
                          exact call (.own i) (pe_glob gy (wd.cls i y C (ixOf_get ei) eC) rfl m1)
                        · cases h
                      · cases h
                  · cases h
                · cases h
              · cases h
            · split at h
              · rename_i ex
                subst ex
                split at h
                · rename_i y py e0 p3
                  split at h
                  · rename_i hy
                    rw [Bool.and_eq_true, Bool.and_eq_true, Bool.not_eq_true', decide_eq_true_eq] at hy
                    obtain ⟨⟨hg, rfl⟩, hse⟩ := hy
                    split at h
                    · rename_i m0 em
                      cases h
                      have ps : PE X (.Call (.Name "set" py) [e0] [] p3) (tCB (rSetOfT X.K X.prog X.w) (tA X.K GC W (evs P cl [m0]))) :=
                        pe_callTy (cr_setOfT g.calm (by have := g.hu; omega)) (g.gl hg) (wd.free _ (by decide)) (by decide +kernel) (pa_one hse (IHe e0 m0 em)) (by decide) rfl (star_cons hse) rfl
                      exact PE.weak (pe_callB (cr_sortedT g.calm) gx (wd.free _ (by decide)) PyProof.Rows.boot_sorted (pa_cons ps pa_nil (star_cons rfl)) n3 n1 (star_cons rfl) rfl) fun _ _ _ q => t_sset q
                    · cases h
                  · cases h
                · cases h
              split at h
              · rename_i b eb
                split at h
                · rename_i e0 f0
                  split at h
                  · rename_i m0 m1 em em1
                    cases h
                    obtain ⟨hmem, r, id, h1, h2, h3⟩ := bi2_rule (X := X) (GC := GC) g.calm eb
                    have hse : starB e0 = false ∧ starB f0 = false := by
                      rw [List.any_cons, Bool.or_eq_false_iff, List.any_cons, Bool.or_eq_false_iff] at hs'
                      exact ⟨hs'.1, hs'.2.1⟩
                    exact PE.weak (pe_callB h2 gx (wd.free _ hmem) h3 (pa_two hse.1 hse.2 (IHe e0 m0 em) (IHe f0 m1 em1)) n3 n1 (star_cons hse.1) (star_plain (by rw [List.any_cons, hse.2]; rfl))) fun _ _ _ q => t_bi h1 q
                  · cases h
                · cases h
              split at h
              · rename_i b eb
                split at h
                · rename_i e0
                  split at h
                  · rename_i m0 em
                    cases h
                    obtain ⟨hmem, r, h1, h2⟩ := bi_rule (X := X) (GC := GC) g.calm eb
                    have hse : starB e0 = false := by
                      rw [List.any_cons, Bool.or_eq_false_iff] at hs'
                      exact hs'.1
                    rcases h2 with ⟨id, h2, h3⟩ | ⟨ty, h2, h3⟩
                    · exact PE.weak (pe_callB h2 gx (wd.free _ hmem) h3 (pa_one hse (IHe e0 m0 em)) n3 n1 (star_cons hse) rfl) fun _ _ _ q => t_bi h1 q
                    · exact PE.weak (pe_callTy h2 gx (wd.free _ hmem) h3 (pa_one hse (IHe e0 m0 em)) n3 n1 (star_cons hse) rfl) fun _ _ _ q => t_bi h1 q
                  · cases h
                · cases h
              · split at h
                · rename_i f ef
                  split at h
                  · rename_i F ms eF em
                    obtain ⟨a, mga, kp, ⟨fd, ps, FO, hps, hb0, dvs, ds, hbd, hvd, hdv⟩⟩ := wd.fn f x F (ixOfO_get ef) eF
                    have hr : Room k X.A := g.room.mono (Nat.le_succ k)
                    have ha := pa_all (GC := GC) (W := W) (P := P) (cl := cl) IHe hs' em
                    split at h
                    · rename_i hl
                      cases h
                      cases es with
                      | nil =>
                        cases ms with
                        | cons _ _ => cases oMap_len em
                        | nil =>
                          refine PE.weak (pe_call0SD FO hr gx mga kp hb0 .nil (fun σ => passAt tk σ) n1) fun _ _ _ q => ?_
                          have := t_call eF hl q
                          exact t_nil this
                      | cons e1 er =>
                        rw [List.any_cons, Bool.or_eq_false_iff] at hs'
                        exact PE.weak (pe_callSD FO hr gx mga kp hb0 .nil (fun σ => passAt tk σ) ha n1 (star_cons hs'.1) (star_plain hs'.2)) fun _ _ _ q => t_call eF hl q
                    · rename_i hl
                      split at h
                      · rename_i hl2
                        cases h
                        cases es with
                        | nil =>
                          cases ms with
                          | cons _ _ => cases oMap_len em
                          | nil =>
                            refine PE.weak (pe_call0SD FO hr gx mga kp hbd hvd (fun σ => passAt tk σ) n1) fun _ _ _ q => ?_
                            have := t_callD eF hl hl2 hdv q
                            exact t_nil this
                        | cons e1 er =>
                          rw [List.any_cons, Bool.or_eq_false_iff] at hs'
                          exact PE.weak (pe_callSD FO hr gx mga kp hbd hvd (fun σ => passAt tk σ) ha n1 (star_cons hs'.1) (star_plain hs'.2)) fun _ _ _ q => t_callD eF hl hl2 hdv q
                      · cases h
                  · cases h
                · split at h
                  · rename_i kk ek
                    split at h
                    · rename_i C eC
                      split at h
                      · rename_i hx
                        split at h
                        · rename_i e0
                          split at h
                          · rename_i m0 em
                            cases h
                            have EW := wd.excW kk C eC hx
                            obtain ⟨fI, fd, ps, q1, q2, q3, q4⟩ := EW.ini
                            have hse : starB e0 = false := by
                              rw [List.any_cons, Bool.or_eq_false_iff] at hs'
                              exact hs'.1
                            exact PE.weak (pe_mke (pmk_oex EW.oex q1 q2 q3 g.room q4 .nil (passes_call tk fun _ _ _ _ z => z.elim) gx (wd.cls kk x C (ixOf_get ek) eC) (pa_one hse (IHe e0 m0 em)) n1 (star_cons hse) rfl)) fun _ _ _ q => t_mke EW.oex EW.noV q
                          · cases h
                        · cases h
                      · rename_i hx
                        have hx : C.exc = false := by cases z : C.exc <;> first | rfl | exact absurd z hx
                        split at h
                        · rename_i F ms eF em
                          split at h
                          · rename_i hl
                            cases h
                            have CW := wd.clsW kk C eC hx
                            obtain ⟨a, M, ⟨fd, ps, FO, hps, hb0, _⟩⟩ := CW.init F eF
                            have ha := pa_all (GC := GC) (W := W) (P := P) (cl := cl) IHe hs' em
                            have mgx := wd.cls kk x C (ixOf_get ek) eC
                            cases es with
                            | nil =>
                              cases ms with
                              | cons _ _ => cases oMap_len em
                              | nil =>
                                refine PE.weak (pe_make0SD M FO g.room gx mgx hb0 (fun σ => passAt tk σ) n1) fun _ _ _ q => ?_
                                have := t_make eC hx eF q
                                exact t_nil this
                            | cons e1 er =>
                              rw [List.any_cons, Bool.or_eq_false_iff] at hs'
                              exact PE.weak (pe_makeSD M FO g.room gx mgx hb0 (fun σ => passAt tk σ) ha n1 (star_cons hs'.1) (star_plain hs'.2)) fun _ _ _ q => t_make eC hx eF q
                          · cases h
                        · cases h
                    · cases h
                  · cases h
          · cases h
        | Attribute o m ap =>
          unfold compE at h
          simp only at h
          split at h
          · rename_i hb
            rw [Bool.and_eq_true, Bool.and_eq_true, Bool.and_eq_true] at hb
            obtain ⟨⟨⟨hl, hbo⟩, hst⟩, hfew⟩ := hb
            have hs' := any_false hst
            refine snd_of ?_ (fun _ => rfl) (fun _ _ _ z => nomatch z)
            split at h
            · rename_i b eb
              split at h
              · rename_i e0
                split at h
                · rename_i o' e' eo ee
                  cases h
                  rw [List.any_cons, Bool.or_eq_false_iff] at hs'
                  exact bm_rule eb (IHe o o' eo) (IHe e0 e' ee) hs'.1 hbo hl
                · cases h
              · cases h
            · split at h
              · rename_i o' m' ms eo em es'
                cases h
                have hr : Room k X.A := g.room.mono (Nat.le_succ k)
                have ha := pa_all (GC := GC) (W := W) (P := P) (cl := cl) IHe hs' es'
                have hf : methodCallForm (es.length + 0) (backTo p (starEach es X.env)) (backToKw p (keywordEach [] X.env)) = true := by
                  unfold methodCallForm
                  rw [star_all hs']
                  have := of_decide_eq_true hfew
                  show (true && true && decide (es.length + 0 + 0 < 30)) = true
                  rw [Bool.true_and, Bool.true_and]
                  exact decide_eq_true (by omega)
                have ht := meth_tree (X := X) (o := o) (m := m) (pos := p) (es := es) (base_ok hbo) hf hl
                cases es with
                | nil =>
                  cases ms with
                  | cons _ _ => cases oMap_len es'
                  | nil =>
                    refine PE.weak (pe_methD0 tk (IHe o o' eo) hr ht) fun σ H Q q => ?_
                    have := t_meth (X := X) (P0 := X.prog) (w := X.w) (mg := X.mg) (base := X.base) wd (ixOf_get em) q
                    exact tM_imp this fun v H1 ⟨a, C, dx, fs, gg, sp, q1, q2, q3, q4, q5⟩ => ⟨a, C, dx, fs, gg, sp, q1, q2, q3, q4, t_nil q5⟩
                | cons e1 er =>
                  rw [List.any_cons, Bool.or_eq_false_iff] at hs'
                  exact PE.weak (pe_methD tk (IHe o o' eo) hr ha (star_cons hs'.1) (star_plain hs'.2) ht) fun _ _ _ q => t_meth (X := X) (P0 := X.prog) (w := X.w) (mg := X.mg) (base := X.base) wd (ixOf_get em) q
              · cases h
          · cases h
        | _ => unfold compE at h; cases h
    | ListComp elt gs scope p =>
      cases gs with
      | nil => unfold compE at h; cases h
      | cons g0 gr =>
        obtain ⟨tg, it, ifs, ia⟩ := g0
        cases gr with
        | cons _ _ => unfold compE at h; cases h
        | nil =>
          unfold compE at h
          simp only at h
          split at h
          · rename_i hia
            subst hia
            split at h
            · cases h
            · rename_i own eo
              split at h
              · rename_i hb
                rw [Bool.and_eq_true, Bool.not_eq_true'] at hb
                split at h
                · rename_i kk ms t fs m0 ei et ef em
                  split at h
                  · rename_i hsl
                    cases h
                    refine snd_of (PE.weak (pe_lc (own := own) (g := gOf X.K t) (tt := tT X.K GC (fun _ _ _ _ => False) (evTs P cl fs)) (te := tE X.K GC (fun _ _ _ _ => False) (ev P cl m0)) g.calm g.nd (compI_ok g wd.free IHe ei) (blkOk_by (by rw [g.N, g.sc]; exact hb.1)) ?_ ?_ ?_ (folded_ok hb.2)) ?_) (fun _ => rfl) (fun _ _ _ z => nomatch z)
                    · intro s H C cl' fp
                      exact (compT_ok (g.blk s H scope C cl' fp) n tg t et).1
                    · intro s H C cl' fp
                      cases ifs with
                      | nil =>
                        cases ef
                        refine ⟨fun pins s1 σ H1 Q I q => pts_nil.run pins s1 σ H1 Q I ?_⟩
                        obtain ⟨μ, ρ, hh, rs, rh, cc⟩ := q
                        unfold evTs at cc
                        exact Ct.ok cc rh rfl
                      | cons t1 tr =>
                        cases tr with
                        | cons _ _ => cases ef
                        | nil =>
                          have ef' : (match compE T GC.NM P n ⟨c.N, relS scope c.sc, fun x => scope.names.lookup x == some NameKind.cell⟩ t1 with | some m => some [m] | none => none) = some fs := ef
                          split at ef'
                          · rename_i m1 em1
                            cases ef'
                            have st := (sound n _ _ (fun _ _ _ _ => False) t1 m1 (g.blk s H scope C cl' fp) wd takes0 em1).2.1
                            refine ⟨fun pins s1 σ H1 Q I q => (pts_one st).run pins s1 σ H1 Q I ?_⟩
                            obtain ⟨μ, ρ, hh, rs, rh, cc⟩ := q
                            unfold evTs at cc
                            exact ⟨μ, ρ, hh, rs, rh, cc⟩
                          · cases ef'
                    · intro s H C cl' fp
                      exact (sound n _ _ _ elt m0 (g.blk s H scope C cl' fp) wd takes0 em).1
                    · intro σ H Q q
                      refine t_lc (compT_ok (g.blk {} (fun _ => none) scope 0 [] []) n tg t et).2 (fun i hi => ?_) (fun _ _ _ w => w) q
                      have := List.all_eq_true.mp hsl i hi
                      simpa using this
                  · cases h
                · cases h
              · cases h
          · cases h
    | Dict ks vs p =>
      cases ks with
      | nil =>
        cases vs with
        | cons _ _ => unfold compE at h; cases h
        | nil =>
          unfold compE at h
          cases h
          exact snd_of (PE.weak pe_dnewK fun _ _ _ q => t_dsp0 q) (fun _ => rfl) (fun _ _ _ z => nomatch z)
      | cons k0 kr =>
        unfold compE at h
        split at h
        all_goals try (rename_i heq; cases heq)
        · split at h
          · rename_i m0 em
            cases h
            exact snd_of (PE.weak (pe_disp (pps_cons pe_str (IHe _ m0 em) pps_nil) rfl rfl (fun z => nomatch z) (show 1 ≤ 15 by decide)) fun _ _ _ q => t_dsp1 q) (fun _ => rfl) (fun _ _ _ z => nomatch z)
          · cases h
        · cases h
    | DictComp kx vx gs scope p =>
      cases gs with
      | nil => unfold compE at h; cases h
      | cons g0 gr =>
        obtain ⟨tg, it, ifs, ia⟩ := g0
        cases gr with
        | cons _ _ => cases ifs <;> (unfold compE at h; cases h)
        | nil =>
          cases ifs with
          | cons _ _ => unfold compE at h; cases h
          | nil =>
            unfold compE at h
            simp only at h
            split at h
            · rename_i hia
              subst hia
              split at h
              · cases h
              · rename_i own eo
                split at h
                · rename_i hb
                  rw [Bool.and_eq_true, Bool.not_eq_true'] at hb
                  split at h
                  · rename_i kk ms t mk mv ei et ek ev'
                    split at h
                    · rename_i hsl
                      cases h
                      refine snd_of (PE.weak (pe_dc (own := own) (g := gOf X.K t) (tt := tT X.K GC (fun _ _ _ _ => False) (evTs P cl [])) (tk := tE X.K GC (fun _ _ _ _ => False) (ev P cl mk)) (tv := tE X.K GC (fun _ _ _ _ => False) (ev P cl mv)) g.calm g.nd (compI_ok g wd.free IHe ei) (blkOk_by (by rw [g.N, g.sc]; exact hb.1)) ?_ ?_ ?_ ?_ (folded_ok hb.2)) ?_) (fun _ => rfl) (fun _ _ _ z => nomatch z)
                      · intro s H C cl' fp
                        exact (compT_ok (g.blk s H scope C cl' fp) n tg t et).1
                      · intro s H C cl' fp
                        refine ⟨fun pins s1 σ H1 Q I q => pts_nil.run pins s1 σ H1 Q I ?_⟩
                        obtain ⟨μ, ρ, hh, rs, rh, cc⟩ := q
                        unfold evTs at cc
                        exact Ct.ok cc rh rfl
                      · intro s H C cl' fp
                        exact (sound n _ _ _ kx mk (g.blk s H scope C cl' fp) wd takes0 ek).1
                      · intro s H C cl' fp
                        exact (sound n _ _ _ vx mv (g.blk s H scope C cl' fp) wd takes0 ev').1
                      · intro σ H Q q
                        refine t_dc (compT_ok (g.blk {} (fun _ => none) scope 0 [] []) n tg t et).2 (fun i hi => ?_) (fun _ _ _ w => w) q
                        have := List.all_eq_true.mp hsl i hi
                        simpa using this
                    · cases h
                  · cases h
                · cases h
            · cases h
    | _ => unfold compE at h; cases h
end
end Mi
set_option maxHeartbeats 64000000
namespace Mi
open PySem PySem.Spec L2
variable [Th]

/-! ## statements: from the text to the small syntax -/
def swN (sc : Scope) (line : Nat) (ts : List Expr) : List Str := ts.filterMap fun
  | .Name id pos => if sc.names.lookup id == some .local && pos.line == line then some id else none
  | _ => none
def swO (sc : Scope) (ts vs : List Expr) : Option (Option (List Str)) :=
  if (!(ts.length == 2 || ts.length == 3) || vs.length != ts.length) = true then some none else
  if vs.any starB = true then some none else
  if ((swN sc ((ts.head?.map (·.pos.line)).getD 0) ts).length != ts.length || (swN sc ((ts.head?.map (·.pos.line)).getD 0) ts).eraseDups.length != (swN sc ((ts.head?.map (·.pos.line)).getD 0) ts).length) = true then some none else
  if vs.all (foldedForSure 8) = true then some none else
  if vs.all (constantsAlone 8) = true then none else some (some (swN sc ((ts.head?.map (·.pos.line)).getD 0) ts))
theorem sw_ok {sc : Scope} {ts vs : List Expr} {env : Env} {k k' : _} {p p' : Pos} {r : Option (List Str)} (hs : env.scope = sc) (hb : env.blockKind = .function) (h : swO sc ts vs = some r) : swappedStores [.Tuple ts k p] (.Tuple vs k' p') env = pure r := by
  unfold swO at h
  subst hs
  unfold swappedStores
  simp only [hb]
  split at h
  · rename_i c
    cases h
    rw [if_pos (by simpa using c)]
  · rename_i c
    rw [if_neg (by simpa using c)]
    split at h
    · rename_i c2
      cases h
      exact if_pos c2
    · rename_i c2
      refine (if_neg c2).trans ?_
      split at h
      · rename_i c3
        cases h
        exact if_pos c3
      · rename_i c3
        refine (if_neg c3).trans ?_
        split at h
        · rename_i c4
          cases h
          exact if_pos c4
        · rename_i c4
          refine (if_neg c4).trans ?_
          split at h
          · cases h
          · rename_i c5
            cases h
            exact (if_neg c5).trans rfl
/-- do a comprehension and its target change places? -/
def swapB (sc : Scope) (tg e : Expr) : Bool := match e with
  | .ListComp _ _ s p => (match tg with
    | .Name t pos => sc.names.lookup t == some .local && pos.line == p.line && !(s.names.any fun (n, k) => n == t && (k == .local || k == .cell))
    | _ => false)
  | .SetComp .. => true
  | .DictComp .. => (match tg with | .Name .. => true | _ => false)
  | _ => false
theorem swap_ok {sc : Scope} {tg e : Expr} {env : Env} {l : Nat} (hs : env.scope = sc) (hb : env.blockKind = .function) (h : swapB sc tg e = false) : swapsWith e (some tg) l env = pure false := by
  subst hs
  cases e <;> first | rfl | cases h | skip
  rotate_left
  · cases tg <;> first | rfl | cases h
  rename_i elt gs s p
  cases tg <;> first | rfl | skip
  rename_i t pos
  unfold swapsWith
  simp only [hb]
  have h' : (env.kindOf t == some .local && pos.line == p.line && !(s.names.any fun (n, k) => n == t && (k == .local || k == .cell))) = false := h
  show (pure (true && (env.kindOf t == some .local) && (pos.line == p.line) && !(s.names.any fun (n, k) => n == t && (k == .local || k == .cell))) : Sem Bool) = pure false
  rw [Bool.true_and, h']
def twoTupB (tg e : Expr) : Bool := match tg, e with
  | .Tuple .., .Tuple .. => true
  | .List .., .Tuple .. => true
  | _, _ => false
theorem two_ok {tg e : Expr} {env : Env} (h : twoTupB tg e = false) : swappedStores [tg] e env = pure none := by
  cases tg <;> first | rfl | skip
  all_goals (cases e <;> first | rfl | cases h)
section
variable (T : GT) (NM : List Str) (P : Prg)
def compG (ce : Expr → Option ME) : Nat → CC → Expr → Option MG
  | 0, _, _ => none
  | n + 1, c, e => match e with
    | .Name x _ => if stoB c x then match ixOf x c.N with | some i => some (.name i) | none => none else none
    | .Attribute o f _ => match ce o, ixOf f NM with | some o', some f' => some (.fld o' f') | _, _ => none
    | .Subscript o i _ => if sliceB i then none else match ce o, ce i with | some o', some i' => some (.ix o' i') | _, _ => none
    | .Tuple es _ _ => if es.any starB then none else match oMap (compG ce n c) es with | some ts => some (.tup ts) | none => none
    | _ => none
/-- x, y = a, b stored from the right -/
def parM (ce : Expr → Option ME) (c : CC) (ts vs : List Expr) (nm : List Str) : Option MS := match ts, vs with
  | [.Name x _, .Name y _], [a, b] => (match ixOf x c.N, ixOf y c.N, ce a, ce b with
    | some i, some j, some a', some b' => if (c.sc.names.lookup x == some .local && c.sc.names.lookup y == some .local && decide (i ≠ j) && !starB a && !starB b && decide (nm = [x, y])) = true then some (.par [i, j] [a', b']) else none
    | _, _, _, _ => none)
  | [.Name x _, .Name y _, .Name z _], [a, b, d] => (match ixOf x c.N, ixOf y c.N, ixOf z c.N, ce a, ce b, ce d with
    | some i, some j, some l, some a', some b', some d' => if (c.sc.names.lookup x == some .local && c.sc.names.lookup y == some .local && c.sc.names.lookup z == some .local && decide (i ≠ j) && decide (i ≠ l) && decide (j ≠ l) && !starB a && !starB b && !starB d && decide (nm = [x, y, z])) = true then some (.par [i, j, l] [a', b', d']) else none
    | _, _, _, _, _, _ => none)
  | _, _ => none
/-- target = e -/
def asgM (ce : Expr → Option ME) (cg : Expr → Option MG) (c : CC) (tg e : Expr) : Option MS :=
  match tg, e with
  | .Tuple ts _ _, .Tuple vs _ _ => (match swO c.sc ts vs with
    | none => none
    | some none => (match cg tg, ce e with | some g, some m => some (.asg g m) | _, _ => none)
    | some (some nm) => parM ce c ts vs nm)
  | tg, e => if starB tg || twoTupB tg e then none else if swapB c.sc tg e then (match tg, e with
      | .Name x px, .ListComp _ [_] s p => if (c.sc.names.lookup x == some .local && px.line == p.line && !(s.names.any fun (n, k) => n == x && (k == .local || k == .cell))) = true then (match ixOf x c.N, ce e with | some i, some m => some (.asg (.name i) m) | _, _ => none) else none
      | _, _ => none)
    else match cg tg, ce e with | some g, some m => some (.asg g m) | _, _ => none
def compS : Nat → CC → Stmt → Option MS
  | 0, _, _ => none
  | n + 1, c, s => match s with
    | .Expr (.Constant (.str _) _ _) _ => some .pass
    | .Expr e _ => if compB e then none else match compE T NM P n c e with | some m => some (.expr m) | none => none
    | .Return none _ => some .retN
    | .Return (some e) _ => match compE T NM P n c e with | some m => some (.ret m) | none => none
    | .If t a b _ => match compE T NM P n c t with | some m => some (.ite m (a.map fun s => (compS n c s).getD (.expr .no)) (b.map fun s => (compS n c s).getD (.expr .no))) | none => none
    | .While t b [] _ => match compE T NM P n c t with | some m => some (.whl m (b.map fun s => (compS n c s).getD (.expr .no))) | none => none
    | .For tg it b [] _ => if setB it then none else match compI (compE T NM P n c) c tg it, compT n c tg with | some (k, ms), some t => some (.for k ms t (b.map fun s => (compS n c s).getD (.expr .no))) | _, _ => none
    | .Pass _ => some .pass
    | .Break _ => some .brk
    | .Continue _ => some .cnt
    | .Assign [tg] e _ => asgM (compE T NM P n c) (compG NM (compE T NM P n c) n c) c tg e
    | .AugAssign (.Name x _) o e _ => if stoB c x then (match ixOf x c.N, bopOf o, compE T NM P n c e with | some i, some o', some m => some (.aug i o' m) | _, _, _ => none) else none
    | .AugAssign (.Attribute a f _) o e _ => (match compE T NM P n c a, ixOf f NM, bopOf o, compE T NM P n c e with | some a', some f', some o', some m => some (.augf a' f' o' m) | _, _, _, _ => none)
    | .Raise (some (.Call (.Name x _) [e] [] _)) none _ => if glB c.sc x && nameB x && !starB e then (match ixOf x T.cls with
        | some i => (match P.cls[i]? with | some C => if C.exc then (match compE T NM P n c e with | some m => some (.raise i m) | none => none) else none | none => none)
        | none => none) else none
    | _ => none
def compSs (n : Nat) (c : CC) (ss : List Stmt) : List MS := ss.map fun s => (compS T NM P n c s).getD (.expr .no)
end
/-- where statements stand -/
structure GoodS (X : Cx) (c : CC) (k : Nat) (W : WX) : Prop where
  g : Good X c k
  kind : X.env.scope.kind = .function
  po : PassesOwn (model X.prog X.w) X.A X.env X.xe
  tk : Takes X W
theorem GoodS.bk {X : Cx} {c : CC} {k : Nat} {W : WX} (g : GoodS X c k W) : X.env.blockKind = .function := by unfold Env.blockKind; rw [g.kind]; rfl
theorem PG.weak {X : Cx} {e : Expr} {t t' : TG} (h : PG X e t) (i : ∀ v σ H Q, t' v σ H Q → t v σ H Q) : PG X e t' := ⟨fun pins s σ H v u Q I r q => h.run pins s σ H v u Q I r (i v σ H Q q)⟩
theorem PGs.weak {X : Cx} {es : List Expr} {t t' : TGs} (h : PGs X es t) (i : ∀ v σ H Q, t' v σ H Q → t v σ H Q) : PGs X es t' := ⟨fun pins s σ H v u Q I r q => h.run pins s σ H v u Q I r (i v σ H Q q)⟩
section
variable {T : GT} {GC : Gn} {P : Prg} {cl : CallF} {k : Nat} {X : Cx} {c : CC} {W : WX}
theorem compG_all {ce : Expr → Option ME} {n : Nat} (ih : ∀ e g, compG GC.NM ce n c e = some g → PG X e (tG X.K GC P cl W g)) : ∀ {es : List Expr} {gs : List MG}, es.any starB = false → oMap (compG GC.NM ce n c) es = some gs → PGs X es (tGs X.K GC P cl W gs)
  | [], _, _, e => by cases e; exact PGs.weak pgs_nil fun _ _ _ _ q => g_nil q
  | x :: xs, gs, hs, e => by
    rw [List.any_cons, Bool.or_eq_false_iff] at hs
    unfold oMap at e
    split at e
    · rename_i t et
      split at e
      · rename_i tr er
        cases e
        exact PGs.weak (pgs_cons (ih x t et) (compG_all ih hs.2 er) (by rw [assign_cons hs.1]; rfl)) fun _ _ _ _ q => g_cons q
      · cases e
    · cases e
theorem compG_ok (g : Good X c k) (wd : Wd T P cl GC k X.prog X.w X.K X.mg X.base) {ce : Expr → Option ME} (hce : ∀ e m, ce e = some m → PE X e (tE X.K GC W (ev P cl m))) : ∀ (n : Nat) (e : Expr) (t : MG), compG GC.NM ce n c e = some t → PG X e (tG X.K GC P cl W t)
  | 0, _, _, h => by cases h
  | n + 1, e, t, h => by
    cases e with
    | Name x p =>
      unfold compG at h
      simp only at h
      split at h
      · rename_i hs
        split at h
        · rename_i i ei
          cases h
          obtain ⟨hl, hf⟩ := g.sto hs
          exact PG.weak (pg_name g.nd (by rw [g.N]; exact ixOf_get ei) hl hf) fun _ _ _ _ q => g_name q
        · cases h
      · cases h
    | Attribute o f p =>
      unfold compG at h
      simp only at h
      split at h
      · rename_i o' f' eo ef
        cases h
        exact PG.weak (pg_fldG (hce o o' eo)) fun _ _ _ _ q => g_fld wd (ixOf_get ef) q
      · cases h
    | Subscript o i p =>
      unfold compG at h
      simp only at h
      split at h
      · cases h
      · rename_i hs
        split at h
        · rename_i o' i' eo ei
          cases h
          refine PG.weak (pg_sub (hce o o' eo) (hce i i' ei) (set_M (by have := g.hu; omega)) ?_) fun _ _ _ _ q => g_ix q
          intro v
          cases i <;> first | rfl | exact absurd rfl hs
        · cases h
    | Tuple es kk p =>
      unfold compG at h
      simp only at h
      split at h
      · cases h
      · rename_i hs
        split at h
        · rename_i ts et
          cases h
          have hs' : es.any starB = false := by cases z : es.any starB <;> first | rfl | exact absurd z hs
          exact PG.weak (pg_tup g.calm (compG_all (fun e t => compG_ok g wd hce n e t) hs' et) (by rw [assign_len hs', oMap_len et]) (assign_plain hs')) fun _ _ _ _ q => g_tup rfl q
        · cases h
    | _ => unfold compG at h; cases h
end
end Mi
set_option maxHeartbeats 64000000
namespace Mi
open PySem PySem.Spec L2
variable [Th]

section
variable {T : GT} {GC : Gn} {P : Prg} {cl : CallF} {k : Nat}
theorem wall_no {X : Cx} {W : WX} {D : Ends} {σ : L2.St} {H : Hp} (q : tS X.K GC W (ex P cl (.expr .no)) D σ H) : False := by
  obtain ⟨μ, ρ, h, rs, rh, c⟩ := q
  unfold ex ev at c
  exact c
theorem asg_plain {X : Cx} {W : WX} {tg e : Expr} {g : MG} {m : ME} {pos : Pos} (he : PE X e (tE X.K GC W (ev P cl m))) (hg : PG X tg (tG X.K GC P cl W g)) (hs : swapsWith e (some tg) pos.line X.env = pure false) (hw : swappedStores [tg] e X.env = pure none) (hst : starB tg = false) :
    PS X (.Assign [tg] e pos) (tS X.K GC W (ex P cl (.asg g m))) :=
  PS.weak (ps_asg he hg hs hw (by rw [assign_cons hst]; rfl)) fun _ _ _ q => s_asg q
/-- name = [..] -/
theorem lc_set {X : Cx} {c : CC} {W : WX} (n : Nat) (g : Good X c k) (wd : Wd T P cl GC k X.prog X.w X.K X.mg X.base) (tk : Takes X W) (hk : X.env.scope.kind = .function) {x : Str} {px : Pos} {elt : Expr} {g0 : Comprehension} {scope : Scope} {p pos : Pos} {i : Nat} {m : ME}
    (hx : X.env.scope.names.lookup x = some .local) (hl : (px.line == p.line) = true) (ha : (scope.names.any fun (n, k) => n == x && (k == .local || k == .cell)) = false) (hi : X.N[i]? = some x)
    (h : compE T GC.NM P (n + 1) c (.ListComp elt [g0] scope p) = some m) : PS X (.Assign [.Name x px] (.ListComp elt [g0] scope p) pos) (tS X.K GC W (ex P cl (.asg (.name i) m))) := by
  obtain ⟨tg, it, ifs, ia⟩ := g0
  unfold compE at h
  simp only at h
  split at h
  · rename_i hia
    subst hia
    split at h
    · cases h
    · rename_i own eo
      split at h
      · rename_i hb
        rw [Bool.and_eq_true, Bool.not_eq_true'] at hb
        split at h
        · rename_i kk ms t fs m0 ei et ef em
          split at h
          · rename_i hsl
            cases h
            have IHe : ∀ e m, compE T GC.NM P n c e = some m → PE X e (tE X.K GC W (ev P cl m)) := fun e m he => (sound n X c W e m g wd tk he).1
            refine PS.weak (ps_setLc (i := i) (own := own) (g := gOf X.K t) (tt := tT X.K GC (fun _ _ _ _ => False) (evTs P cl fs)) (te := tE X.K GC (fun _ _ _ _ => False) (ev P cl m0)) g.calm g.nd hi hx (sw_true hk hx hl ha) (compI_ok g wd.free IHe ei) (blkOk_by (by rw [g.N, g.sc]; exact hb.1)) ?_ ?_ ?_ (folded_ok hb.2)) ?_
            · intro s H C cl' fp
              exact (compT_ok (g.blk s H scope C cl' fp) n tg t et).1
            · intro s H C cl' fp
              cases ifs with
              | nil =>
                cases ef
                refine ⟨fun pins s1 σ H1 Q I q => pts_nil.run pins s1 σ H1 Q I ?_⟩
                obtain ⟨μ, ρ, hh, rs, rh, cc⟩ := q
                unfold evTs at cc
                exact Ct.ok cc rh rfl
              | cons t1 tr =>
                cases tr with
                | cons _ _ => cases ef
                | nil =>
                  have ef' : (match compE T GC.NM P n ⟨c.N, relS scope c.sc, fun x => scope.names.lookup x == some NameKind.cell⟩ t1 with | some m => some [m] | none => none) = some fs := ef
                  split at ef'
                  · rename_i m1 em1
                    cases ef'
                    have st := (sound n _ _ (fun _ _ _ _ => False) t1 m1 (g.blk s H scope C cl' fp) wd takes0 em1).2.1
                    refine ⟨fun pins s1 σ H1 Q I q => (pts_one st).run pins s1 σ H1 Q I ?_⟩
                    obtain ⟨μ, ρ, hh, rs, rh, cc⟩ := q
                    unfold evTs at cc
                    exact ⟨μ, ρ, hh, rs, rh, cc⟩
                  · cases ef'
            · intro s H C cl' fp
              exact (sound n _ _ _ elt m0 (g.blk s H scope C cl' fp) wd takes0 em).1
            · intro D σ H q
              have q1 := s_asg q
              refine t_lc (compT_ok (g.blk {} (fun _ => none) scope 0 [] []) n tg t et).2 (fun i hi => ?_) (fun _ _ _ w => w) (tM_imp q1 fun v H1 q2 => g_name q2)
              have := List.all_eq_true.mp hsl i hi
              simpa using this
          · cases h
        · cases h
      · cases h
  · cases h
theorem asg_ok {X : Cx} {c : CC} {W : WX} (n : Nat) (g : GoodS X c k W) (wd : Wd T P cl GC k X.prog X.w X.K X.mg X.base) {cg : Expr → Option MG} (hcg : ∀ e t, cg e = some t → PG X e (tG X.K GC P cl W t)) {tg e : Expr} {pos : Pos} {m : MS}
    (h : asgM (compE T GC.NM P n c) cg c tg e = some m) : PS X (.Assign [tg] e pos) (tS X.K GC W (ex P cl m)) := by
  have IHe : ∀ e m, compE T GC.NM P n c e = some m → PE X e (tE X.K GC W (ev P cl m)) := fun e m he => (sound n X c W e m g.g wd g.tk he).1
  unfold asgM at h
  split at h
  · rename_i ts kt pt vs kv pv
    split at h
    · cases h
    · rename_i es
      split at h
      · rename_i t m' et em
        cases h
        exact asg_plain (IHe _ _ em) (hcg _ _ et) rfl (sw_ok g.g.sc g.bk es) rfl
      · cases h
    · rename_i nm es
      unfold parM at h
      split at h
      · rename_i x px y py a b
        split at h
        · rename_i i j a' b' ei ej ea eb
          split at h
          · rename_i hb
            simp only [Bool.and_eq_true, Bool.not_eq_true', decide_eq_true_eq, beq_iff_eq] at hb
            obtain ⟨⟨⟨⟨⟨h1, h2⟩, h3⟩, h4⟩, h5⟩, h6⟩ := hb
            subst h6
            cases h
            exact PS.weak (ps_par (i := i) (j := j) g.g.calm g.g.nd (by rw [g.g.N]; exact ixOf_get ei) (by rw [g.g.N]; exact ixOf_get ej) h3 (by rw [g.g.sc]; exact h1) (by rw [g.g.sc]; exact h2) (pa_two h4 h5 (IHe _ _ ea) (IHe _ _ eb)) (sw_ok g.g.sc g.bk es)) fun _ _ _ q => s_par2 q
          · cases h
        · cases h
      · rename_i x px y py z pz a b d
        split at h
        · rename_i i j l a' b' d' ei ej el ea eb ed
          split at h
          · rename_i hb
            simp only [Bool.and_eq_true, Bool.not_eq_true', decide_eq_true_eq, beq_iff_eq] at hb
            obtain ⟨⟨⟨⟨⟨⟨⟨⟨⟨h1, h2⟩, h3⟩, h4⟩, h5⟩, h6⟩, h7⟩, h8⟩, h9⟩, h10⟩ := hb
            subst h10
            cases h
            have pa : PA X [a, b, d] (tA X.K GC W (evs P cl [a', b', d'])) := PA.weak (pa_cons (IHe _ _ ea) (pa_two (GC := GC) (W := W) (P := P) (cl := cl) h8 h9 (IHe _ _ eb) (IHe _ _ ed)) (star_cons h7)) fun _ _ _ q => t_cons q
            exact PS.weak (ps_par3 (i := i) (j := j) (l := l) g.g.calm g.g.nd (by rw [g.g.N]; exact ixOf_get ei) (by rw [g.g.N]; exact ixOf_get ej) (by rw [g.g.N]; exact ixOf_get el) h4 h5 h6 (by rw [g.g.sc]; exact h1) (by rw [g.g.sc]; exact h2) (by rw [g.g.sc]; exact h3) pa (sw_ok g.g.sc g.bk es)) fun _ _ _ q => s_par3 q
          · cases h
        · cases h
      · cases h
  · split at h
    · cases h
    · rename_i hst
      have hst' : starB tg = false ∧ twoTupB tg e = false := by
        rw [← Bool.or_eq_false_iff]
        cases z : (starB tg || twoTupB tg e) <;> first | rfl | exact absurd z hst
      split at h
      · split at h
        · rename_i x px elt g0 s p _
          split at h
          · rename_i hb
            simp only [Bool.and_eq_true, Bool.not_eq_true', beq_iff_eq] at hb
            split at h
            · rename_i i m' ei em
              cases h
              cases n with
              | zero => cases em
              | succ n => exact lc_set n g.g wd g.tk g.kind (by rw [g.g.sc]; exact hb.1.1) (by simpa using hb.1.2) hb.2 (by rw [g.g.N]; exact ixOf_get ei) em
            · cases h
          · cases h
        · cases h
      · rename_i hsw
        have hsw' : swapB c.sc tg e = false := by cases z : swapB c.sc tg e <;> first | rfl | exact absurd z hsw
        split at h
        · rename_i t m' et em
          cases h
          exact asg_plain (IHe _ _ em) (hcg _ _ et) (swap_ok g.g.sc g.bk hsw') (two_ok hst'.2) hst'.1
        · cases h
end
end Mi
set_option maxHeartbeats 64000000
namespace Mi
open PySem PySem.Spec L2
variable [Th]

section
variable {T : GT} {GC : Gn} {P : Prg} {cl : CallF} {k : Nat}
theorem comp_drop {e : Expr} {l : Nat} {env : Env} (h : compB e = false) : swapsWith e none l env = pure false := by
  cases e <;> first | rfl | cases h
theorem bop_op {o : Operator} {o' : Bop} (h : bopOf o = some o') : o = o'.op := by
  cases o <;> cases h <;> rfl
theorem body_ok {X : Cx} {W : WX} {f : Stmt → Option MS} (ih : ∀ s m, f s = some m → PS X s (tS X.K GC W (ex P cl m))) : ∀ (ss : List Stmt), PSs X ss (tS X.K GC W (exs P cl (ss.map fun s => (f s).getD (.expr .no))))
  | [] => PSs.weak pss_nil fun _ _ _ q => s_nil q
  | s :: ss => by
    have h1 : PS X s (tS X.K GC W (ex P cl ((f s).getD (.expr .no)))) := by
      cases e : f s with
      | none => exact PS.weak ps_never fun _ _ _ q => wall_no q
      | some m => exact ih s m e
    exact PSs.weak (pss_cons h1 (body_ok ih ss)) fun _ _ _ q => s_cons q
theorem passesF {X : Cx} {W : WX} (tk : Takes X W) : Passes (L2.CX X.prog X.w) X (fun _ _ _ => False) := passes_call tk fun _ _ _ _ z => z.elim
theorem soundS : ∀ (n : Nat) (X : Cx) (c : CC) (W : WX) (s : Stmt) (m : MS), GoodS X c k W → Wd T P cl GC k X.prog X.w X.K X.mg X.base → compS T GC.NM P n c s = some m → PS X s (tS X.K GC W (ex P cl m))
  | 0, _, _, _, _, _, _, _, h => by cases h
  | n + 1, X, c, W, s, m, g, wd, h => by
    have IH : ∀ s m, compS T GC.NM P n c s = some m → PS X s (tS X.K GC W (ex P cl m)) := fun s m h => soundS n X c W s m g wd h
    have IHb : ∀ ss : List Stmt, PSs X ss (tS X.K GC W (exs P cl (ss.map fun s => (compS T GC.NM P n c s).getD (.expr .no)))) := fun ss => body_ok IH ss
    have IHs : ∀ e m, compE T GC.NM P n c e = some m → Snd X GC P cl W e m := fun e m he => sound n X c W e m g.g wd g.tk he
    have IHe : ∀ e m, compE T GC.NM P n c e = some m → PE X e (tE X.K GC W (ev P cl m)) := fun e m he => (IHs e m he).1
    cases s with
    | Pass p => unfold compS at h; cases h; exact PS.weak ps_pass fun _ _ _ q => s_pass q
    | Break p => unfold compS at h; cases h; exact PS.weak ps_break fun _ _ _ q => s_brk q
    | Continue p => unfold compS at h; cases h; exact PS.weak ps_continue fun _ _ _ q => s_cnt q
    | Return v p =>
      cases v with
      | none => unfold compS at h; cases h; exact PS.weak ps_retN fun _ _ _ q => s_retN q
      | some e =>
        unfold compS at h
        simp only at h
        split at h
        · rename_i m' em
          cases h
          exact PS.weak (ps_ret (IHe e m' em)) fun _ _ _ q => s_ret q
        · cases h
    | Expr e p =>
      unfold compS at h
      split at h
      all_goals try (rename_i heq; cases heq)
      · cases h
        exact PS.weak ps_doc fun _ _ _ q => s_pass q
      · split at h
        · cases h
        · rename_i hc
          have hc' : compB e = false := by cases z : compB e <;> first | rfl | exact absurd z hc
          split at h
          · rename_i m' em
            cases h
            exact PS.weak (ps_expr (IHe e m' em) (comp_drop hc')) fun _ _ _ q => s_expr q
          · cases h
      · cases h
    | If t a b p =>
      unfold compS at h
      simp only at h
      split at h
      · rename_i m' em
        cases h
        exact PS.weak (ps_if (IHs t m' em).2.1 (IHb a) (IHb b)) fun _ _ _ q => s_ite q
      · cases h
    | While t b o p =>
      cases o with
      | cons _ _ => unfold compS at h; cases h
      | nil =>
        unfold compS at h
        simp only at h
        split at h
        · rename_i m' em
          cases h
          exact PS.weak (ps_while g.po (IHs t m' em).2.1 (IHb b)) fun _ _ _ q => s_whl q
        · cases h
    | For tg it b o p =>
      cases o with
      | cons _ _ => unfold compS at h; cases h
      | nil =>
        unfold compS at h
        simp only at h
        split at h
        · cases h
        · rename_i hs
          have hs' : setB it = false := by cases z : setB it <;> first | rfl | exact absurd z hs
          split at h
          · rename_i kk ms t ei et
            cases h
            obtain ⟨pg, po⟩ := compT_ok g.g n tg t et
            exact PS.weak (ps_for g.po g.g.calm (compI_ok g.g wd.free IHe ei) pg (IHb b) (folded_ok hs')) fun _ _ _ q => s_for po (fun _ _ _ w => w) q
          · cases h
    | Assign ts e p =>
      cases ts with
      | nil => unfold compS at h; cases h
      | cons tg tr =>
        cases tr with
        | cons _ _ => unfold compS at h; cases h
        | nil =>
          unfold compS at h
          exact asg_ok n g wd (fun e t he => compG_ok g.g wd IHe n e t he) h
    | AugAssign tg o e p =>
      cases tg with
      | Name x px =>
        unfold compS at h
        simp only at h
        split at h
        · rename_i hs
          split at h
          · rename_i i o' m' ei eo em
            cases h
            obtain ⟨hl, hf⟩ := g.g.sto hs
            rw [bop_op eo]
            exact PS.weak (ps_aug (i := i) g.g.nd (by rw [g.g.N]; exact ixOf_get ei) hl (IHe e m' em) (op_augM o') hf) fun _ _ _ q => s_aug q
          · cases h
        · cases h
      | Attribute a f pa =>
        unfold compS at h
        simp only at h
        split at h
        · rename_i a' f' o' m' ea ef eo em
          cases h
          rw [bop_op eo]
          exact PS.weak (ps_fldaug (IHe a a' ea) (IHe e m' em) (op_augM o')) fun _ _ _ q => s_augf wd (ixOf_get ef) q
        · cases h
      | _ => unfold compS at h; cases h
    | Raise e cz p =>
      unfold compS at h
      split at h
      all_goals try (rename_i heq; cases heq)
      · split at h
        · rename_i hb
          rw [Bool.and_eq_true, Bool.and_eq_true, Bool.not_eq_true'] at hb
          obtain ⟨n1, n2, n3⟩ := nameB_ok hb.1.2
          split at h
          · rename_i i ei
            split at h
            · rename_i C eC
              split at h
              · rename_i hx
                split at h
                · rename_i m' em
                  cases h
                  have EW := wd.excW i C eC hx
                  obtain ⟨fI, fd, ps, q1, q2, q3, q4⟩ := EW.ini
                  refine PS.weak (ps_raise g.g.calm g.tk (pmk_oex EW.oex q1 q2 q3 g.g.room q4 .nil (passesF g.tk) (g.g.gl hb.1.1) (wd.cls i _ C (ixOf_get ei) eC) (pa_one hb.2 (IHe _ m' em)) n1 (star_cons hb.2) rfl)) fun _ _ _ q => s_raise EW.oex EW.noV q
                · cases h
              · cases h
            · cases h
          · cases h
        · cases h
      · cases h
    | _ => unfold compS at h; cases h
end
end Mi
set_option maxHeartbeats 16000000
namespace Mi
open PySem PySem.Spec L2
variable [Th]

/-! ## what is thrown away: told -/
section
variable {K : PySem.W.Frag} {GC : Gn} {μ : List Addr} {H : Hp} {h : MH} {n : Nat}
/-- what runs and what is told of it: told is less, what is thrown away left out -/
def Tells (m : Nat) (act tld : R MV) : Prop := tld = .wall ∨ act = tld ∨ (∃ v h g, tld = .ok v h ∧ act = .ok v (h ++ g) ∧ bndV h.length v = true ∧ bndH h.length h = true ∧ m ≤ h.length) ∨
  ∃ c v h g, tld = .ex c v h ∧ act = .ex c v (h ++ g) ∧ bndV h.length v = true ∧ bndH h.length h = true ∧ m ≤ h.length
end
/-! ## the def at hand, by its own text -/
section
variable {T : GT} {GC : Gn} {P : Prg} {cl : CallF} {k : Nat} {P0 : Program} {w : World} {K : PySem.W.Frag} {mg : Str → Option Value} {base : Heap}
theorem start_ok {μ : List Addr} {H : Hp} {N : List Str} : ∀ {xs : List MV} {vs : List V}, RVs K μ H xs vs → RS K μ H (xs.map some ++ List.replicate (N.length - xs.length) none) (L2.start N vs) := fun {xs vs} r => by
  unfold L2.start
  rw [r.length]
  refine ⟨by simp [r.length], fun i x hx => ?_⟩
  rcases Nat.lt_or_ge i xs.length with z | z
  · rw [List.getElem?_append_left (by simpa using z)] at hx
    rw [List.getElem?_append_left (by simpa [r.length] using z)]
    rw [List.getElem?_map] at hx
    obtain ⟨y, ey, e2⟩ : ∃ y, xs[i]? = some y ∧ y = x := by
      cases e : xs[i]? with
      | none => rw [e] at hx; cases hx
      | some y => rw [e] at hx; cases hx; exact ⟨_, rfl, rfl⟩
    rw [e2] at ey
    obtain ⟨v, ev, rv⟩ := r.get ey
    exact ⟨v, by rw [List.getElem?_map, ev]; rfl, rv⟩
  · rw [List.getElem?_append_right (by simpa using z)] at hx
    have := (List.getElem?_eq_some_iff.mp hx).2
    simp at this
/-- its body keeps what is told of it -/
theorem body_of {N ps : List Str} {qual : Str} {sc : Scope} {f : Addr} {cdv : Value} {body : List Stmt} {F : Fn} {r : List MV → MH → R MV} {n : Nat} (S : FnScope N ps sc) (hb : F.body = compSs T GC.NM P n ⟨N, sc, fun _ => true⟩ body) (hnp : F.np = ps.length) (hnl : F.nl = N.length)
    (wd : Wd T P cl GC k P0 w K mg base) (sat : ∀ xs h, xs.length = F.np → Tells h.length (runFn P cl F xs h) (r xs h)) :
    ∀ (A : Around) (outer : List Env) (s : Shared) (H : Hp) (vs : List V) (Q : VK) (E : XK), Room (k + 1) (A.deeper (PyProof.Rows.envOfC qual sc s.heap.objs.size f cdv)) → spM K GC F.np r vs H Q E →
      ∃ t, PSs (cxOf (L2.CX P0 w) P0 w K mg base N qual sc f cdv A outer s H E) body t ∧ t { nx := fun _ H' => Q .non H', rt := Q } (L2.start N vs) H := by
  intro A outer s H vs Q E hr ⟨hl, μ, xs, h, rh, rv, c⟩
  have tk : Takes (cxOf (L2.CX P0 w) P0 w K mg base N qual sc f cdv A outer s H E) (fun cls d _ H => E cls d H) := takes_of rfl rfl rfl rfl
  have gs : GoodS (cxOf (L2.CX P0 w) P0 w K mg base N qual sc f cdv A outer s H E) ⟨N, sc, fun _ => true⟩ k (fun cls d _ H => E cls d H) :=
    ⟨⟨rfl, S.nd, rfl, rfl, rfl, hr⟩, S.kind, passes_of rfl, tk⟩
  refine ⟨_, body_ok (fun s m e => soundS n _ _ _ s m gs wd e) body, ?_⟩
  have hb' : F.body = body.map fun s => (compS T GC.NM P n ⟨N, sc, fun _ => true⟩ s).getD (.expr .no) := hb
  refine ⟨μ, xs.map some ++ List.replicate (N.length - xs.length) none, h, start_ok rv, rh, ?_⟩
  have hx : xs.length = F.np := by rw [rv.length]; exact hl
  have st := sat xs h hx
  unfold runFn at st
  rw [hb', hnl] at st
  rcases st with z | z | ⟨v, h1, g, e1, e2, b1, b2, b3⟩ | ⟨cc, v, h1, g, e1, e2, b1, b2, b3⟩
  · rw [z] at c; exact c.elim
  · rw [← z] at c
    split at c
    · rename_i ρ1 h2 ee
      rw [ee]
      exact fun μ' H' σ' e' k' rh' rs' => c μ' H' .non e' k' rh' .non
    · rename_i v1 ρ1 h2 ee
      rw [ee]
      exact fun μ' H' u e' k' rh' rv' => c μ' H' u e' k' rh' rv'
    · rename_i c1 v1 ρ1 h2 ee
      rw [ee]
      exact fun μ' H' σ' d vv e' k' rh' rs' rv' hd => c μ' H' d vv e' k' rh' rv' hd
    · exact c.elim
  · rw [e1] at c
    have hle : μ.length ≤ h1.length := by rw [rh.len]; exact b3
    have go : ∀ μ' H' u, Ext μ μ' → Keeps K H H' → RH K GC μ' (h1 ++ g) H' → RV K μ' H' v u → Q u H' := fun μ' H' u e' k' rh' rv' =>
      c (μ'.take h1.length) H' u (ext_take e' hle) k' (rh'.drop b2) (bndV_ok b1 rv')
    split at e2
    · rename_i ρ1 h2 ee
      cases e2
      rw [ee]
      exact fun μ' H' σ' e' k' rh' rs' => go μ' H' .non e' k' rh' .non
    · rename_i v1 ρ1 h2 ee
      cases e2
      rw [ee]
      exact fun μ' H' u e' k' rh' rv' => go μ' H' u e' k' rh' rv'
    · cases e2
    · cases e2
  · rw [e1] at c
    have hle : μ.length ≤ h1.length := by rw [rh.len]; exact b3
    split at e2
    · cases e2
    · cases e2
    · rename_i c1 v1 ρ1 h2 ee
      cases e2
      rw [ee]
      exact fun μ' H' σ' d vv e' k' rh' rs' rv' hd => c (μ'.take h1.length) H' d vv (ext_take e' hle) k' (rh'.drop b2) (bndV_ok b1 rv') hd
    · cases e2
end
end Mi
namespace Mi
open PySem PySem.Spec L2
variable [Th]
section
variable {T : GT} {GC : Gn} {P : Prg} {cl : CallF} {k : Nat} {P0 : Program} {w : World} {K : PySem.W.Frag} {mg : Str → Option Value} {base : Heap}
/-- THE RULE for a def of the text -/
theorem okM {x qual : Str} {st : Stmt} {f : Addr} {fd : FuncData} {N ps : List Str} {F : Fn} {r : List MV → MH → R MV} {n : Nat} (U : Fun K x qual st f fd) (S : FnScope N ps (defScope st)) (hb : F.body = compSs T GC.NM P n ⟨N, defScope st, fun _ => true⟩ (defBody st)) (hnp : F.np = ps.length) (hnl : F.nl = N.length)
    (wd : Wd T P cl GC k P0 w K mg base) (sat : ∀ xs h, xs.length = F.np → Tells h.length (runFn P cl F xs h) (r xs h)) : FnOk P0 w K mg base (L2.CX P0 w) (k + 2) f fd ps (spM K GC F.np r) :=
  U.okX S (fun vs H Q E h => by rw [← hnp]; exact h.1) fun cdv A outer s H vs Q E hr h => body_of S hb hnp hnl wd sat A outer s H vs Q E hr h
/-- THE RULE for a def of the text, by the head's facts -/
theorem okD {x qual : Str} {params : Arguments} {body : List Stmt} {sc : Scope} {dvs : List V} {kws : List (Str × V)} {f : Addr} {fd : FuncData} {N ps : List Str} {F : Fn} {r : List MV → MH → R MV} {n : Nat} (U : FunD K x qual params body sc dvs kws f fd) (S : FnScope N ps sc) (hb : F.body = compSs T GC.NM P n ⟨N, sc, fun _ => true⟩ body) (hnp : F.np = ps.length) (hnl : F.nl = N.length)
    (wd : Wd T P cl GC k P0 w K mg base) (sat : ∀ xs h, xs.length = F.np → Tells h.length (runFn P cl F xs h) (r xs h)) : FnOk P0 w K mg base (L2.CX P0 w) (k + 2) f fd ps (spM K GC F.np r) :=
  U.ok S (fun vs H Q E h => by rw [← hnp]; exact h.1) fun cdv A outer s H vs Q E hr h => body_of S hb hnp hnl wd sat A outer s H vs Q E hr h
end
end Mi
set_option maxHeartbeats 16000000
namespace Mi
open PySem PySem.Spec L2

/-! ## the errors' own __init__ -/
section
variable {P0 : Program} {w : World} {K : PySem.W.Frag} {mg : Str → Option Value} {base : Heap}
theorem ok_err {x qual : Str} {params : Arguments} {body : List Stmt} {sc : Scope} {dvs : List V} {kws : List (Str × V)} {f : Addr} {fd : FuncData} {p1 p2 p3 p4 : Pos} (F : FunD K x qual params body sc dvs kws f fd) (S : FnScope ["self", "value"] ["self", "value"] sc)
    (hb : body = [.Assign [.Attribute (.Name "self" p1) "value" p2] (.Name "value" p3) p4]) (hl : sc.names.lookup ("self" : Str) = some .local) (hl2 : sc.names.lookup ("value" : Str) = some .local) :
    FnOk P0 w K mg base (L2.CX P0 w) 1 f fd ["self", "value"] (spI K) := by
  refine F.ok S (fun vs H Q E h => ?_) fun cdv A outer s H vs Q E hr h => ?_
  · obtain ⟨a, C, v, rfl, _⟩ := h
    rfl
  · obtain ⟨a, C, v, rfl, T, hno, ea, k⟩ := h
    rw [hb]
    refine ⟨_, pss_one (ps_ost (pe_var (i := 0) rfl (.inl hl) (by decide) (by decide)) (pe_var (i := 1) rfl (.inl hl2) (by decide) (by decide))), ?_⟩
    exact ⟨v, rfl, .ref a, rfl, a, C, rfl, T, hno, .inl ⟨ea, fun dx n ne => k dx n ne⟩⟩
end

/-! ## every level -/
section
variable [Th]
/-- a def as it stands behind the top -/
def DefW (K : PySem.W.Frag) (T : GT) (GC : Gn) (P : Prg) (F : Fn) (a : Addr) : Prop :=
  ∃ (x qual : Str) (params : Arguments) (body : List Stmt) (sc : Scope) (dvs : List V) (kws : List (Str × V)) (fd : FuncData) (N ps : List Str) (n : Nat), FunD K x qual params body sc dvs kws a fd ∧ FnScope N ps sc ∧ F.body = compSs T GC.NM P n ⟨N, sc, fun _ => true⟩ body ∧ F.np = ps.length ∧ F.nl = N.length ∧ Binds K fd ps [] ∧
    ∃ (us : List V) (ds : List Value), Binds K fd ps ds ∧ Vals us ds ∧ ∀ μ H, RVs K μ H F.dfs us
structure Txt (T : GT) (P : Prg) (GC : Gn) (A : Nat → Addr) (ok : Nat → Bool) (K : PySem.W.Frag) (mg : Str → Option Value) : Prop where
  nm : GC.NM.Nodup
  vf : GC.NM[P.vf]? = some "value"
  free : ∀ x ∈ (["len", "abs", "any", "all", "isinstance", "enumerate", "zip", "range", "int", "str", "tuple", "list", "bool", "dict", "ValueError", "sorted", "set", "max", "min"] : List Str), mg x = none
  df : ∀ f F, ok f = true → P.fns[f]? = some F → DefW K T GC P F (A f)
  fn : ∀ f x, T.fns[f]? = some (some x) → ok f = true ∧ mg x = some (.ref (A f)) ∧ PySem.W.keepIn K (.ref (A f)) = true
  cls : ∀ c x C, T.cls[c]? = some x → P.cls[c]? = some C → mg x = some (.ref (GC.C c))
  own : ∀ c C, P.cls[c]? = some C → C.exc = false → Cls K (GC.C c) ∧ PySem.W.findIn K (.ref (GC.C c)) "__class__" = some (some (.builtin "object.__class__")) ∧ PySem.W.specialIn K (.builtin "object.__class__") "__get__" = some (some (.builtin "getset_descriptor.__get__")) ∧
    PySem.W.takesIn K (.builtin "object.__class__") = some true ∧ PySem.W.mroIn K (GC.C c) (.type "object") = some true
  attr : ∀ c C f, P.cls[c]? = some C → C.exc = false → C.at_.contains f = true → ∃ nm, GC.NM[f]? = some nm ∧ NoAttr K (GC.C c) nm
  meth : ∀ c C m g, P.cls[c]? = some C → C.exc = false → C.ms.lookup m = some g → ok g = true ∧ ∃ nm F, GC.NM[m]? = some nm ∧ Meth K (GC.C c) nm (A g) ∧ P.fns[g]? = some F
  init : ∀ c C, P.cls[c]? = some C → C.exc = false → ok C.ini = true ∧ Mk K (GC.C c) (A C.ini)
  exc : ∀ c C, P.cls[c]? = some C → C.exc = true → OexC K (GC.C c) ∧ PySem.W.findIn K (.ref (GC.C c)) "value" = some none ∧ XfC K (GC.C c) ∧ ExcC K (GC.C c) ∧ ∃ fI, PySem.W.findIn K (.ref (GC.C c)) "__init__" = some (some (.ref fI)) ∧ PySem.W.typeIn K (.ref fI) = some (.type "function") ∧
    ∃ (x qual : Str) (params : Arguments) (body : List Stmt) (sc : Scope) (dvs : List V) (kws : List (Str × V)) (fd : FuncData) (p1 p2 p3 p4 : Pos), FunD K x qual params body sc dvs kws fI fd ∧ FnScope ["self", "value"] ["self", "value"] sc ∧ body = [.Assign [.Attribute (.Name "self" p1) "value" p2] (.Name "value" p3) p4] ∧
      sc.names.lookup ("self" : Str) = some .local ∧ sc.names.lookup ("value" : Str) = some .local ∧ Binds K fd ["self", "value"] []
  con : ∀ x v, T.consts.lookup x = some v → ∃ u v', mg x = some u ∧ RelV v' u ∧ ∀ μ H, RV K μ H v v'
  isa : ∀ t c b, P.isa t c = some b → PySem.W.kitOne K (match t with | .ty n => .type n | .own i => .ref (GC.C i)) (match c with | .ty n => .type n | .own i => .ref (GC.C i)) = some b
variable {T : GT} {GC : Gn} {P : Prg} {A : Nat → Addr} {ok : Nat → Bool} {P0 : Program} {w : World} {K : PySem.W.Frag} {mg : Str → Option Value} {base : Heap}
def EqS (P0 : Program) (w : World) (K : PySem.W.Frag) (mg : Str → Option Value) (base : Heap) (k : Nat) : Prop := ∀ X : Cx, X.prog = P0 → X.w = w → X.K = K → X.mg = mg → X.base = base → X.calm = true → Room (k + 1) X.A → OpR X (compareOp .Eq) rSelf
theorem EqS.mono {j k : Nat} (h : EqS P0 w K mg base j) (hk : j ≤ k) : EqS P0 w K mg base k := fun X a b c d e f r => h X a b c d e f (r.mono (by omega))
/-- all of the text, given what its defs do -/
theorem Txt.wd {cl : CallF} {k : Nat} (t : Txt T P GC A ok K mg) (h1 : 1 ≤ k) (es : EqS P0 w K mg base k)
    (fw : ∀ f F, ok f = true → P.fns[f]? = some F → FnW P0 w K mg base k GC F (cl f) (A f)) : Wd T P cl GC k P0 w K mg base where
  nm := t.nm
  vf := t.vf
  free := t.free
  fn := fun f x F ex eF => by
    obtain ⟨o, m, kp⟩ := t.fn f x ex
    exact ⟨A f, m, kp, fw f F o eF⟩
  cls := t.cls
  clsW := fun c C eC hx => by
    obtain ⟨q1, q2, q3, q4, q5⟩ := t.own c C eC hx
    refine ⟨q1, q2, q3, q4, q5, fun f hf => t.attr c C f eC hx hf, fun m g hm => ?_, fun F eF => ?_⟩
    · obtain ⟨o, nm, F, e1, e2, e3⟩ := t.meth c C m g eC hx hm
      exact ⟨nm, A g, F, e1, e2, e3, fw g F o e3⟩
    · obtain ⟨o, mk⟩ := t.init c C eC hx
      exact ⟨A C.ini, mk, fw C.ini F o eF⟩
  excW := fun c C eC hx => by
    obtain ⟨q1, q2, q3, q4, fI, q5, q6, x, qual, params, body, sc, dvs, kws, fd, p1, p2, p3, p4, U, S, hb, hl, hl2, bd⟩ := t.exc c C eC hx
    exact ⟨q1, q2, q3, q4, fI, fd, ["self", "value"], q5, q6, (ok_err U S hb hl hl2).mono h1, bd⟩
  con := t.con
  isa := t.isa
  eqS := es
  isaC := fun _ _ _ _ _ _ _ => True.intro
theorem DefW.fnW {cl : CallF} {k : Nat} {F : Fn} {a : Addr} {r : List MV → MH → R MV} (d : DefW K T GC P F a) (wd : Wd T P cl GC k P0 w K mg base) (sat : ∀ xs h, xs.length = F.np → Tells h.length (runFn P cl F xs h) (r xs h)) : FnW P0 w K mg base (k + 2) GC F r a := by
  obtain ⟨x, qual, params, body, sc, dvs, kws, fd, N, ps, n, U, S, hb, hnp, hnl, bd, hd⟩ := d
  exact ⟨fd, ps, okD U S hb hnp hnl wd sat, hnp.symm, bd, hd⟩
/-- every level: so deep may defs call one another -/
theorem wd_all (t : Txt T P GC A ok K mg) {m : Nat} (h1 : 1 ≤ m) (es : EqS P0 w K mg base m) : ∀ k, Wd T P (callN P k) GC (2 * k + m) P0 w K mg base
  | 0 => t.wd (by omega) (es.mono (by omega)) fun f F o eF => by
    obtain ⟨x, qual, params, body, sc, dvs, kws, fd, N, ps, n, U, S, hb, hnp, hnl, bd, hd⟩ := t.df f F o eF
    refine ⟨fd, ps, ⟨fun vs H Q E h => by rw [← hnp]; exact h.1, fun A outer s H args us vs Q E hr he hbd hv hs => ?_⟩, hnp.symm, bd, hd⟩
    obtain ⟨_, μ, xs, h, _, _, c⟩ := hs
    exact False.elim c
  | k + 1 => t.wd (by omega) (es.mono (by omega)) fun f F o eF => by
    have e : 2 * (k + 1) + m = (2 * k + m) + 2 := by omega
    rw [e]
    refine (t.df f F o eF).fnW (wd_all t h1 es k) fun xs h hl => .inr (.inl ?_)
    show runFn P (callN P k) F xs h = (match P.fns[f]? with
      | some F => if xs.length = F.np then runFn P (callN P k) F xs h else .wall
      | none => .wall)
    rw [eF]
    simp only
    rw [if_pos hl]
end
end Mi
set_option maxHeartbeats 8000000
namespace Mi
open PySem PySem.Spec PyProof.Rows PySem.SeqAt
section
variable {M : Model} {prog : Program} {w : World} {A : Around} {E : Value → Shared → Prop} {s : Shared} {K : PySem.W.Frag} {x C : Addr} {ox : Obj} {od : Option Obj}
theorem isSame_self {R : Bool → Shared → Prop} (h : R true s) : wpAny M A (isSame (.ref x) (.ref x)) R E s := by
  refine wpAny_of_eq (a := true) ?_ h
  show (isSame (.ref x) (.ref x)) = pure true
  unfold isSame
  simp
theorem entry_self {Q : Fin → Shared → Prop} (hq : Q (.done (.ret (.bool true))) s) : wpAny M A (Builtin.«object.__eq__» ⟨[.ref x, .ref x], []⟩) Q E s := by
  unfold Builtin.«object.__eq__»
  repeat (first | with_reducible refine isSame_self ?_ | wp_step)
  exact hq
theorem call_self {Q : Value → Shared → Prop} (X : K.In s.heap) (I : PySem.W.InstAt s.heap x ox C od) (hm : PySem.W.mroIn K C (.type "object") = some true) (hq : Q (.bool true) s) :
    wpAny (model prog w) A (call (.builtin "object.__eq__") [.ref x, .ref x]) Q E s :=
  wpAny_call (codeAny_call_builtin F.cmp_object.eq.plain F.cmpEntry_eq (PySem.W.check_slot F.cmpKind_eq F.cmpSplit_eq (I.type.andThen (PySem.W.looks_mroIn X hm)) (F.cmpArgs_eq _ _) (entry_self hq)))
theorem rc_self (hu : A.units < cLine) (X : K.In s.heap) (I : PySem.W.InstAt s.heap x ox C od) (hm : PySem.W.mroIn K C (.type "object") = some true) (hs : PySem.W.findIn K (.ref C) "__eq__" = some (some (.builtin "object.__eq__"))) :
    RcAt A s (.ref x) (.ref x) true := fun prog w E Q h => by
  have one : wpAny (model prog w) A (tryCompare (.ref x) "__eq__" (.ref x)) (fun r s' => r = some (.bool true) ∧ s' = s) E s := by
    unfold tryCompare
    exact wpAny_bind (HN.ifBound_objEq X I hs (call_self X I hm (wpAny_pure ⟨rfl, rfl⟩)))
  simp only [richCompare, cmpInfo_Eq, oneThing_ref]
  refine wpAny_holding (wpAny_bind (wpAny_cRoomFor hu ?_))
  refine wpAny_bind (I.type.here (wpAny_bind (I.type.here ?_)))
  have e : (Value.ref C != Value.ref C) = false := by simp
  simp only [e, Bool.false_eq_true, if_false, Bool.not_false, if_true]
  refine wpAny_bind (wpAny_pure ?_)
  simp only [Bool.false_eq_true, if_false]
  refine wpAny_bind (m := tryCompare (.ref x) _ (.ref x)) (wpAny_mono one (fun r s1 z => ?_) fun _ _ e => e)
  obtain ⟨rfl, rfl⟩ := z
  exact wpAny_pure h
end
end Mi
set_option maxHeartbeats 8000000
namespace Mi
open PySem PySem.Spec L2

/-! ## what is equal to itself -/
/-- an error that is held, of a class without an own __eq__ -/
def rSelfE (K : PySem.W.Frag) : R2 := fun x y H Q => ∃ (a C dd : Addr) (fs : List (Str × V)), x = .ref a ∧ y = .ref a ∧ H a = some (exv a (.ref C) (some dd)) ∧ H dd = some (.xd fs) ∧ PySem.W.mroIn K C (.type "object") = some true ∧ PySem.W.findIn K (.ref C) "__eq__" = some (some (.builtin "object.__eq__")) ∧ Q (.bl true) H
theorem op_selfE {X : Cx} (hu : X.A.units < cLine) : OpR X (compareOp .Eq) (rSelfE X.K) := by
  intro pins s σ H x y v u Q I rx ry h
  obtain ⟨a, C, dd, fs, rfl, rfl, ea, ed, hm, hs, q⟩ := h
  cases rx
  cases ry
  obtain ⟨⟨oe, vs, hget, hz, hv⟩, _, _⟩ := I.hok a _ ea
  have hx : ObjOk X.prog X.w H s.heap dd (.xd fs) := I.hok dd _ ed
  obtain ⟨mA, hns, hr⟩ := hx
  obtain ⟨od, ho, hl⟩ := lookIn_ns hns
  have J : PySem.W.InstAt s.heap a oe C (some od) := ⟨hget, hz.1, by unfold PySem.W.notCls; rw [hv] <;> rfl, by rw [hz.2]; exact ho⟩
  exact rc_self hu I.kIn J hm hs X.prog X.w X.xe _ ⟨.bl true, H, I, rfl, q⟩
/-- a value whose items are seen to be equal to themselves: flat, or an object -/
def elemOk (x : V) : Prop := (flatV x = true ∧ eqV x x = true ∧ flatB x = true) ∨ ∃ a, x = .ref a
def D2 : Eqv := fun x y H => DFlat x y H ∨ ∃ a, x = .ref a ∧ y = .ref a
theorem eqG_same {X : Cx} : EqG X 0 (fun x y _ => ∃ a, x = .ref a ∧ y = .ref a) := by
  intro A pins s σ H x y u v sb I rx ry d
  obtain ⟨a, rfl, rfl⟩ := d
  cases rx
  cases ry
  exact SeqAt.EqAt.same (A := A) (s := s) (.ref a) X.prog X.w X.xe _ ⟨rfl, H, I, L2.Ext.rfl'⟩
theorem eqG_D2 {X : Cx} : EqG X 0 D2 := eqG_flat.or eqG_same
theorem mon_D2 : Mon D2 := mon_flat.or fun _ _ _ _ _ d => d
theorem elem_D2 {x : V} {H : Hp} (e : elemOk x) : D2 x x H := by
  rcases e with ⟨h1, h2, _⟩ | ⟨a, rfl⟩
  · exact .inl ⟨h1, h1, h2⟩
  · exact .inr ⟨a, rfl, rfl⟩
theorem prs_self {xs : List V} {H : Hp} (e : ∀ x ∈ xs, elemOk x) : Prs D2 xs xs H := ⟨rfl, fun i x y h1 h2 => by
  rw [h1] at h2
  cases h2
  exact elem_D2 (e x (List.mem_of_getElem? h1))⟩
theorem paired_self {K : PySem.W.Frag} {H : Hp} : ∀ {xs : List V}, (∀ x ∈ xs, elemOk x) → Paired (EqV K H 1) xs xs
  | [], _ => .nil
  | x :: xs, e => .cons (by
      rcases e x List.mem_cons_self with ⟨_, _, h⟩ | ⟨a, rfl⟩
      · exact .inl ⟨rfl, h⟩
      · exact .inr (.inl ⟨a, rfl, rfl⟩)) (paired_self fun y hy => e y (List.mem_cons_of_mem _ hy))
/-- what is equal to itself as soon as H0 stands -/
inductive SelfK (K : PySem.W.Frag) (H0 : Hp) : V → Prop where
  | non : SelfK K H0 .non
  | bl (b : Bool) : SelfK K H0 (.bl b)
  | int (i : Int) : SelfK K H0 (.int i)
  | str (s : Str) : SelfK K H0 (.str s)
  | lst {a : Addr} {xs : List V} : H0 a = some (.lst xs) → (∀ x ∈ xs, elemOk x) → SelfK K H0 (.ref a)
  | dct {a : Addr} {ks : List (Key × V)} : H0 a = some (.dK ks) → (∀ p ∈ ks, valV ks p.1 = some p.2 ∧ elemOk p.2) → SelfK K H0 (.ref a)
  | tup {a : Addr} {xs : List V} : SqT K H0 a xs → (∀ x ∈ xs, elemOk x) → SelfK K H0 (.ref a)
  | exc {a C dd : Addr} {fs : List (Str × V)} : H0 a = some (exv a (.ref C) (some dd)) → H0 dd = some (.xd fs) → PySem.W.mroIn K C (.type "object") = some true → PySem.W.findIn K (.ref C) "__eq__" = some (some (.builtin "object.__eq__")) → SelfK K H0 (.ref a)
/-- the world aside: what stands, and one value -/
@[reducible] def thOf (v : V) (H0 : Hp) : Th := ⟨fun _ => v, H0⟩
theorem sqT_ext {K : PySem.W.Frag} {H H' : Hp} {a : Addr} {xs : List V} (h : SqT K H a xs) (e : ∀ b u, H b = some u → H' b = some u) : SqT K H' a xs := h.ext e
theorem eqS_self {P0 : Program} {w : World} {K : PySem.W.Frag} {mg : Str → Option Value} {base : Heap} {v : V} {H0 : Hp} (s : SelfK K H0 v) (k : Nat) : @EqS (thOf v H0) P0 w K mg base k := by
  intro X hP hw hK hmg hb hc hr
  have hu : X.A.units + 64 < cLine := by have := hr.un; omega
  subst hK
  intro pins sh σ H x y u1 u2 Q I rx ry h
  obtain ⟨i, ex, ey, hw', q⟩ := h
  have ex : x = v := ex
  have ey : y = v := ey
  subst ex
  subst ey
  have q0 : Q (.bl true) H := q H fun _ _ e => e
  have st : ∀ b u, H0 b = some u → H b = some u := hw'
  cases s with
  | lst ha he => exact op_eqV hu pins sh σ H _ _ u1 u2 Q I rx ry ⟨1, by decide, .inl ⟨_, _, _, _, rfl, rfl, SqL.of (st _ _ ha), SqL.of (st _ _ ha), paired_self he⟩, q0⟩
  | dct ha he => exact op_eqV hu pins sh σ H _ _ u1 u2 Q I rx ry ⟨1, by decide, .inr ⟨_, _, _, _, rfl, rfl, st _ _ ha, st _ _ ha, rfl, fun p hp => ⟨p.2, (he p hp).1, by
      rcases (he p hp).2 with ⟨_, _, h⟩ | ⟨a, e⟩
      · exact .inl ⟨rfl, h⟩
      · exact .inr (.inl ⟨a, e, e⟩)⟩⟩, q0⟩
  | tup hs he => exact op_eqG (rcG_tup mon_D2 eqG_D2) (hr.mono (by omega)) pins sh σ H _ _ u1 u2 Q I rx ry ⟨⟨_, _, _, _, rfl, rfl, sqT_ext hs st, sqT_ext hs st, prs_self he⟩, fun H' e => q H' e⟩
  | exc ha hd hm hs => exact op_selfE (by omega) pins sh σ H _ _ u1 u2 Q I rx ry ⟨_, _, _, _, rfl, rfl, st _ _ ha, st _ _ hd, hm, hs, q0⟩
  | non => exact op_eqD (by omega) pins sh σ H _ _ u1 u2 Q I rx ry ⟨.none, .none, .non, .non, by decide, by decide, q0⟩
  | bl b => exact op_eqD (by omega) pins sh σ H _ _ u1 u2 Q I rx ry ⟨.bool b, .bool b, .bl b, .bl b, rfl, rfl, by cases b <;> exact q0⟩
  | int i => exact op_eq pins sh σ H _ _ u1 u2 Q I rx ry ⟨rfl, by rw [decide_eq_true rfl]; exact q0⟩
  | str t => exact op_eq pins sh σ H _ _ u1 u2 Q I rx ry ⟨rfl, by rw [decide_eq_true rfl]; exact q0⟩
end Mi
set_option maxHeartbeats 8000000
namespace Mi
open PySem PySem.Spec L2

/-! ## a def run on a sign and an empty heap: what stands stays -/
/-- of one value that is equal to itself: True, and what stood stands -/
def spSelf (K : PySem.W.Frag) : Sp := fun vs H Q _ => ∃ v, vs = [v] ∧ SelfK K H v ∧ ∀ H', (∀ b u, H b = some u → H' b = some u) → Q (.bl true) H'
theorem rh_empty {K : PySem.W.Frag} {GC : Gn} {v : V} {H : Hp} : @RH (thOf v H) K GC [] [] H :=
  @RH.mk (thOf v H) K GC [] [] H rfl (fun _ _ _ h => by simp at h) (fun _ _ h => by simp at h) (fun _ _ e => e) (fun _ _ h => by simp at h)
theorem frame_self {P0 : Program} {w : World} {K : PySem.W.Frag} {mg : Str → Option Value} {base : Heap} {CX : CXT} {k : Nat} {a : Addr} {fd : FuncData} {ps : List Str} {GC : Gn} {r : List MV → MH → R MV}
    (F : ∀ (v : V) (H0 : Hp), SelfK K H0 v → FnOk P0 w K mg base CX k a fd ps (@spM (thOf v H0) K GC 1 r)) (hp : ps.length = 1) {h' : MH} (ev : r [.sym 0] [] = .ok (.bl true) h') : FnOk P0 w K mg base CX k a fd ps (spSelf K) := by
  refine ⟨fun vs H Q E h => ?_, fun A outer s H args us vs Q E hr e0 hb hv hsp => ?_⟩
  · obtain ⟨v, rfl, _⟩ := h
    exact hp.symm
  · obtain ⟨v, rfl, sk, q⟩ := hsp
    refine (F v H sk).run A outer s H args us [v] Q E hr e0 hb hv ?_
    refine ⟨rfl, [], [.sym 0], [], rh_empty, ?_, ?_⟩
    · exact @RVs.cons (thOf v H) K [] H _ _ _ _ (@RV.sym (thOf v H) K [] H 0) (@RVs.nil (thOf v H) K [] H)
    · rw [ev]
      intro μ' H' b _ _ rh rb
      have eb : b = .bl true := by
        cases rb
        rfl
      subst eb
      exact q H' fun c u e => @RH.wld (thOf v H) K GC μ' h' H' rh c u e
/-- a def run on an empty heap, of texts: what it makes is told by the small machine's heap, what stood stands -/
theorem rh_ground {K : PySem.W.Frag} {GC : Gn} {H : Hp} : @RH ⟨fun _ => .non, H⟩ K GC [] [] H :=
  @RH.mk ⟨fun _ => .non, H⟩ K GC [] [] H rfl (fun _ _ _ h => by simp at h) (fun _ _ h => by simp at h) (fun _ _ e => e) (fun _ _ h => by simp at h)
end Mi
set_option maxHeartbeats 8000000
namespace Mi
open PySem PySem.Spec L2

/-! ## what the head tells of a text, by tables -/
/-- the tables of a text: its defs (in the order of P.fns), what isinstance may meet -/
structure Tb where
  T : GT
  NM : List Str
  P : Prg
  ds : List He.DefD
  tyI : List Cl
  tyC : List Cl
  ok : Nat → Bool
section
variable (t : Tb) (K : PySem.W.Frag)
def Tb.at_ (f : Nat) : Str × Option Str := (t.ds.map (·.at_)).getD f (Str.empty, none)
def Tb.A (f : Nat) : Addr := He.fAd K (t.at_ f)
def Tb.nmC (c : Nat) : Str := t.T.cls.getD c Str.empty
def Tb.GC : Gn := ⟨fun c => He.ga K (t.nmC c), t.NM⟩
theorem oexB_ok {K : PySem.W.Frag} {C : Addr} (h : oexB K C = true) : OexC K C := by
  unfold oexB at h
  obtain ⟨h0, h⟩ := He.ba h
  obtain ⟨h1, h⟩ := He.ba h
  obtain ⟨h2, h⟩ := He.ba h
  obtain ⟨h3, h4⟩ := He.ba h
  refine ⟨?_, He.eqO_ok h1, of_decide_eq_true h2, of_decide_eq_true h3, h4⟩
  split at h0
  · rename_i cl dd cd sl lk
    obtain ⟨g0, h0⟩ := He.ba h0
    split at h0
    · rename_i C' bm k0 k1 k2 k3 n k5 em es
      obtain ⟨g1, h0⟩ := He.ba h0
      obtain ⟨g2, h0⟩ := He.ba h0
      obtain ⟨g3, h0⟩ := He.ba h0
      obtain ⟨g4, g5⟩ := He.ba h0
      replace g0 := of_decide_eq_true g0
      replace g1 := of_decide_eq_true g1
      replace g2 := of_decide_eq_true g2
      replace g3 := of_decide_eq_true g3
      replace g4 := of_decide_eq_true g4
      obtain ⟨nm, bs, mro, ns, qn, hd, sn, sub, ab, col, del⟩ := cd
      replace em : mro = _ := em
      replace g3 : del = false := g3
      replace g4 : hd = true := g4
      subst g0 g1 g2 g3 g4 em
      have esl : sl = #[k0, k1, k2, k3, some (.builtin "ValueError.__new__"), k5] := by
        rw [← es]
      subst esl
      exact ⟨nm, qn, ns, bs, bm, sn, sub, ab, col, dd, k0, k1, k2, k3, k5, lk, g5⟩
    · cases h0
  · cases h0
theorem excCB_ok {K : PySem.W.Frag} {D : Addr} (h : excCB K D = true) : ExcC K D := by
  unfold excCB at h
  obtain ⟨h1, h⟩ := He.ba h
  obtain ⟨h2, h⟩ := He.ba h
  obtain ⟨h3, h⟩ := He.ba h
  obtain ⟨h4, h⟩ := He.ba h
  obtain ⟨h5, h⟩ := He.ba h
  obtain ⟨h6, h⟩ := He.ba h
  obtain ⟨h7, h8⟩ := He.ba h
  exact ⟨He.eqO_ok h1, He.eqO_ok h2, of_decide_eq_true h3, h4, He.eqO_ok h5, He.eqO_ok h6, of_decide_eq_true h7, of_decide_eq_true h8⟩
/-- self.value = value -/
def errIni : List Stmt → Bool
  | [.Assign [.Attribute (.Name a _) f _] (.Name b _) _] => decide (a = ("self" : Str)) && (decide (f = ("value" : Str)) && decide (b = ("value" : Str)))
  | _ => false
theorem errIni_ok : ∀ {b : List Stmt}, errIni b = true → ∃ p1 p2 p3 p4, b = [.Assign [.Attribute (.Name "self" p1) "value" p2] (.Name "value" p3) p4] := fun {b} h => by
  unfold errIni at h
  split at h
  · rename_i a p1 f p2 b p3 p4
    obtain ⟨h1, h⟩ := He.ba h
    obtain ⟨h2, h3⟩ := He.ba h
    rw [of_decide_eq_true h1, of_decide_eq_true h2, of_decide_eq_true h3]
    exact ⟨_, _, _, _, rfl⟩
  · cases h
def scopeB (N ps : List Str) (sc : Scope) : Bool := decide (sc.kind = .function) && (decide (sc.isCoroutine = false) && (decide (sc.isGenerator = false) && (decide N.Nodup && (decide (N.take ps.length = ps) && ((ps.all fun x => decide (sc.names.lookup x = some .local) || decide (sc.names.lookup x = some .cell)) && sc.names.all fun y => decide (y.2 ≠ .free))))))
theorem scopeB_ok {N ps : List Str} {sc : Scope} (h : scopeB N ps sc = true) : FnScope N ps sc := by
  unfold scopeB at h
  obtain ⟨h1, h⟩ := He.ba h
  obtain ⟨h2, h⟩ := He.ba h
  obtain ⟨h3, h⟩ := He.ba h
  obtain ⟨h4, h⟩ := He.ba h
  obtain ⟨h5, h⟩ := He.ba h
  obtain ⟨h6, h7⟩ := He.ba h
  refine ⟨of_decide_eq_true h1, of_decide_eq_true h2, of_decide_eq_true h3, of_decide_eq_true h4, of_decide_eq_true h5, fun x hx => ?_, fun y hy => of_decide_eq_true (List.all_eq_true.mp h7 y hy)⟩
  rcases Bool.or_eq_true_iff.mp (List.all_eq_true.mp h6 x hx) with z | z
  · exact .inl (of_decide_eq_true z)
  · exact .inr (of_decide_eq_true z)
/-- a class without a base -/
def Tb.ownB (x : Str) (C : CI) : Bool := (He.Fa.cls x).ok K && (He.eqO (PySem.W.findIn K (.ref (He.ga K x)) "__class__") (some (some (.builtin "object.__class__"))) && (He.eqO (PySem.W.specialIn K (.builtin "object.__class__") "__get__") (some (some (.builtin "getset_descriptor.__get__"))) && (decide (PySem.W.takesIn K (.builtin "object.__class__") = some true) &&
  (decide (PySem.W.mroIn K (He.ga K x) (.type "object") = some true) && ((C.at_.all fun f => match t.NM[f]? with
    | some nm => He.eqO (PySem.W.findIn K (.ref (He.ga K x)) nm) (some none)
    | none => false) && ((C.ms.all fun q => match t.NM[q.1]?, t.P.fns[q.2]? with
    | some nm, some _ => t.ok q.2 && (He.eqO (PySem.W.findIn K (.ref (He.ga K x)) nm) (some (some (.ref (t.A K q.2)))) && (PySem.W.isFn K (.ref (t.A K q.2)) && PySem.W.keepIn K (.ref (t.A K q.2))))
    | _, _ => false) && (t.ok C.ini && (PySem.W.makesIn K (He.ga K x) && (He.eqO (PySem.W.findIn K (.ref (He.ga K x)) "__init__") (some (some (.ref (t.A K C.ini)))) && (PySem.W.isFn K (.ref (t.A K C.ini)) && PySem.W.keepIn K (.ref (He.ga K x))))))))))))
/-- an error's class -/
def Tb.excB (x : Str) (C : CI) : Bool := oexB K (He.ga K x) && (He.eqO (PySem.W.findIn K (.ref (He.ga K x)) "value") (some none) && (xfB K (He.ga K x) && (excCB K (He.ga K x) && (He.eqO (PySem.W.findIn K (.ref (He.ga K x)) "__init__") (some (some (.ref (t.A K C.ini)))) && decide (PySem.W.typeIn K (.ref (t.A K C.ini)) = some (.type "function"))))))
def Tb.clsB (c : Nat) : Bool := match t.P.cls[c]? with
  | some C => (He.Fa.glo (t.nmC c)).ok K && (if C.exc = true then t.excB K (t.nmC c) C else t.ownB K (t.nmC c) C)
  | none => false
def conB (q : Str × MV) : Bool := match q.2 with
  | .int i => (He.Fa.int q.1 i).ok K
  | .str z => (He.Fa.str q.1 z).ok K
  | _ => false
def clU' (c : Cl) : Value := match c with | .ty n => .type n | .own i => .ref (He.ga K (t.nmC i))
def Tb.isaB (a b : Cl) : Bool := match t.P.isa a b with
  | some r => decide (PySem.W.kitOne K (clU' t K a) (clU' t K b) = some r)
  | none => true
def Tb.fnB (f : Nat) : Bool := match t.T.fns[f]? with
  | some (some x) => t.ok f && (decide (t.at_ f = (x, none)) && (He.Fa.glo x).ok K)
  | _ => true
/-- all that is asked of the head besides the defs -/
def Tb.ex : Bool := (freeNames.all fun x => (He.Fa.free x).ok K) && (((List.range t.P.cls.length).all fun c => t.clsB K c) && ((t.T.consts.all fun q => conB K q) && (((t.tyI.all fun a => t.tyC.all fun b => t.isaB K a b)) && ((List.range t.T.fns.length).all fun f => t.fnB K f))))
end

/-! ## the text by its tables -/
section
variable [Th] {t : Tb} {K : PySem.W.Frag} {h : Heap} {mg : Str → Option Value}
/-- what is seen of a def without the head -/
structure DStat (t : Tb) (F : Fn) (d : He.DefD) : Prop where
  st : ∃ (N ps : List Str) (n : Nat), FnScope N ps d.scope ∧ F.body = compSs t.T t.NM t.P n ⟨N, d.scope, fun _ => true⟩ d.body ∧ F.np = ps.length ∧ F.nl = N.length ∧
    ∀ (K : PySem.W.Frag) (f : Addr) (fd : FuncData), FunD K d.name d.qual d.params d.body d.scope (d.dvs K) (d.kws K) f fd → Binds K fd ps [] ∧ ∃ (us : List V) (es : List Value), Binds K fd ps es ∧ Vals us es ∧ ∀ μ H, RVs K μ H F.dfs us
theorem mem_lookup {α β : Type} [BEq α] [LawfulBEq α] {x : α} {v : β} : ∀ {l : List (α × β)}, l.lookup x = some v → (x, v) ∈ l
  | [], e => by cases e
  | (y, u) :: l, e => by
    rw [List.lookup_cons] at e
    split at e
    · rename_i z
      cases e
      rw [eq_of_beq z]
      exact List.mem_cons_self
    · exact List.mem_cons_of_mem _ (mem_lookup e)
structure Tb.Ok (t : Tb) : Prop where
  nm : t.NM.Nodup
  vf : t.NM[t.P.vf]? = some "value"
  lc : t.T.cls.length = t.P.cls.length
  lf : t.P.fns.length = t.ds.length
  lt : t.T.fns.length = t.ds.length
  df : ∀ (f : Nat) (F : Fn) (d : He.DefD), t.ok f = true → t.P.fns[f]? = some F → t.ds[f]? = some d → DStat t F d
  isa : ∀ (a b : Cl) (r : Bool), t.P.isa a b = some r → a ∈ t.tyI ∧ b ∈ t.tyC
  ini : ∀ (c : Nat) (C : CI), t.P.cls[c]? = some C → C.exc = true → ∃ d : He.DefD, t.ds[C.ini]? = some d ∧ errIni d.body = true ∧ scopeB ["self", "value"] ["self", "value"] d.scope = true ∧ d.scope.names.lookup ("self" : Str) = some .local ∧ d.scope.names.lookup ("value" : Str) = some .local ∧
    ∀ (K : PySem.W.Frag) (f : Addr) (fd : FuncData), FunD K d.name d.qual d.params d.body d.scope (d.dvs K) (d.kws K) f fd → Binds K fd ["self", "value"] []
theorem Tb.txt (S : t.Ok) (X : K.In h) (G : h.Ns mainGlobals mg) (e : t.ex K = true) (c : He.SaysD [] t.ds K) : Txt t.T t.P (t.GC K) (t.A K) t.ok K mg := by
  unfold Tb.ex at e
  obtain ⟨e1, e⟩ := He.ba e
  obtain ⟨e2, e⟩ := He.ba e
  obtain ⟨e3, e⟩ := He.ba e
  obtain ⟨e4, e5⟩ := He.ba e
  have hcls : ∀ c C, t.P.cls[c]? = some C → (He.Fa.glo (t.nmC c)).ok K = true ∧ (if C.exc = true then t.excB K (t.nmC c) C else t.ownB K (t.nmC c) C) = true := fun c C eC => by
    have hl : c < t.P.cls.length := (List.getElem?_eq_some_iff.mp eC).1
    have z := List.all_eq_true.mp e2 c (List.mem_range.mpr hl)
    unfold Tb.clsB at z
    rw [eC] at z
    exact He.ba z
  have hown : ∀ c C, t.P.cls[c]? = some C → C.exc = false → t.ownB K (t.nmC c) C = true := fun c C eC hx => by
    have z := (hcls c C eC).2
    rw [hx] at z
    exact z
  have hexc : ∀ c C, t.P.cls[c]? = some C → C.exc = true → t.excB K (t.nmC c) C = true := fun c C eC hx => by
    have z := (hcls c C eC).2
    rw [hx] at z
    exact z
  have hdef : ∀ f d, t.ds[f]? = some d → ∃ fd, FunD K d.name d.qual d.params d.body d.scope (d.dvs K) (d.kws K) (t.A K f) fd := fun f d ed => by
    obtain ⟨fd, U⟩ := c.def_ f ed
    refine ⟨fd, ?_⟩
    have : t.A K f = He.fAd K d.at_ := by
      unfold Tb.A Tb.at_
      rw [List.getD_eq_getElem?_getD, List.getElem?_map, ed]
      rfl
    rw [this]
    exact U
  refine ⟨S.nm, S.vf, fun x hx => ?_, fun f F ho eF => ?_, fun f x ex => ?_, fun c x C ex eC => ?_, fun c C eC hx => ?_, fun c C f eC hx hf => ?_, fun c C m g eC hx hm => ?_, fun c C eC hx => ?_, fun c C eC hx => ?_, fun x v el => ?_, fun a b r eb => ?_⟩
  · exact He.free_ok X G (List.all_eq_true.mp e1 x hx)
  · have hl : f < t.ds.length := by rw [← S.lf]; exact (List.getElem?_eq_some_iff.mp eF).1
    obtain ⟨N, ps, n, sc, hb, hp, hn, bd⟩ := (S.df f F _ ho eF (List.getElem?_eq_getElem hl)).st
    obtain ⟨fd, U⟩ := hdef f _ (List.getElem?_eq_getElem hl)
    obtain ⟨b0, us, es, b1, b2, b3⟩ := bd K _ fd U
    exact ⟨_, _, _, _, _, _, _, fd, N, ps, n, U, sc, hb, hp, hn, b0, us, es, b1, b2, b3⟩
  · have hl : f < t.T.fns.length := (List.getElem?_eq_some_iff.mp ex).1
    have z := List.all_eq_true.mp e5 f (List.mem_range.mpr hl)
    unfold Tb.fnB at z
    rw [ex] at z
    obtain ⟨z1, z⟩ := He.ba z
    obtain ⟨z2, z3⟩ := He.ba z
    have z2 := of_decide_eq_true z2
    have ea : t.A K f = He.ga K x := by
      unfold Tb.A
      rw [z2]
      rfl
    refine ⟨z1, by rw [ea]; exact He.glo_ok X G z3, ?_⟩
    obtain ⟨fd, U⟩ := hdef f _ (List.getElem?_eq_getElem (by rw [← S.lt]; exact hl))
    exact U.kp
  · have en : t.nmC c = x := by
      unfold Tb.nmC
      rw [List.getD_eq_getElem?_getD, ex]
      rfl
    have z := He.glo_ok X G (hcls c C eC).1
    rw [en] at z
    show mg x = some (.ref (He.ga K (t.nmC c)))
    rw [en]
    exact z
  · have z := hown c C eC hx
    unfold Tb.ownB at z
    obtain ⟨z1, z⟩ := He.ba z
    obtain ⟨z2, z⟩ := He.ba z
    obtain ⟨z3, z⟩ := He.ba z
    obtain ⟨z4, z⟩ := He.ba z
    obtain ⟨z5, z⟩ := He.ba z
    exact ⟨He.cls_ok z1, He.eqO_ok z2, He.eqO_ok z3, of_decide_eq_true z4, of_decide_eq_true z5⟩
  · have z := hown c C eC hx
    unfold Tb.ownB at z
    obtain ⟨z1, z⟩ := He.ba z
    obtain ⟨z2, z⟩ := He.ba z
    obtain ⟨z3, z⟩ := He.ba z
    obtain ⟨z4, z⟩ := He.ba z
    obtain ⟨z5, z⟩ := He.ba z
    obtain ⟨z6, z⟩ := He.ba z
    have q := List.all_eq_true.mp z6 f (List.contains_iff_mem.mp hf)
    split at q
    · rename_i nm en
      exact ⟨nm, en, He.eqO_ok q⟩
    · cases q
  · have z := hown c C eC hx
    unfold Tb.ownB at z
    obtain ⟨z1, z⟩ := He.ba z
    obtain ⟨z2, z⟩ := He.ba z
    obtain ⟨z3, z⟩ := He.ba z
    obtain ⟨z4, z⟩ := He.ba z
    obtain ⟨z5, z⟩ := He.ba z
    obtain ⟨z6, z⟩ := He.ba z
    obtain ⟨z7, z⟩ := He.ba z
    have q := List.all_eq_true.mp z7 (m, g) (mem_lookup hm)
    split at q
    · rename_i nm F en eF
      obtain ⟨q1, q⟩ := He.ba q
      obtain ⟨q2, q⟩ := He.ba q
      obtain ⟨q3, q4⟩ := He.ba q
      exact ⟨q1, nm, F, en, ⟨He.eqO_ok q2, q3, q4⟩, eF⟩
    · cases q
  · have z := hown c C eC hx
    unfold Tb.ownB at z
    obtain ⟨z1, z⟩ := He.ba z
    obtain ⟨z2, z⟩ := He.ba z
    obtain ⟨z3, z⟩ := He.ba z
    obtain ⟨z4, z⟩ := He.ba z
    obtain ⟨z5, z⟩ := He.ba z
    obtain ⟨z6, z⟩ := He.ba z
    obtain ⟨z7, z⟩ := He.ba z
    obtain ⟨z8, z⟩ := He.ba z
    obtain ⟨z9, z⟩ := He.ba z
    obtain ⟨z10, z⟩ := He.ba z
    obtain ⟨z11, z12⟩ := He.ba z
    exact ⟨z8, z9, He.eqO_ok z10, z11, z12⟩
  · have z := hexc c C eC hx
    unfold Tb.excB at z
    obtain ⟨z1, z⟩ := He.ba z
    obtain ⟨z2, z⟩ := He.ba z
    obtain ⟨z3, z⟩ := He.ba z
    obtain ⟨z4, z⟩ := He.ba z
    obtain ⟨z5, z6⟩ := He.ba z
    obtain ⟨d, ed, eb, es, el, el2, bd⟩ := S.ini c C eC hx
    obtain ⟨fd, U⟩ := hdef C.ini d ed
    obtain ⟨p1, p2, p3, p4, hb⟩ := errIni_ok eb
    exact ⟨oexB_ok z1, He.eqO_ok z2, xfB_ok z3, excCB_ok z4, t.A K C.ini, He.eqO_ok z5, of_decide_eq_true z6, _, _, _, _, _, _, _, fd, p1, p2, p3, p4, U, scopeB_ok es, hb, el, el2, bd K _ fd U⟩
  · have z := List.all_eq_true.mp e3 (x, v) (mem_lookup el)
    unfold conB at z
    cases v with
    | int i =>
      obtain ⟨tk, em⟩ := He.int_ok X G z
      exact ⟨_, .int i, em, ⟨tk, rfl⟩, fun _ _ => .int i⟩
    | str y =>
      obtain ⟨tk, em⟩ := He.str_ok X G z
      exact ⟨_, .str y, em, ⟨tk, rfl⟩, fun _ _ => .str y⟩
    | _ => cases z
  · obtain ⟨m1, m2⟩ := S.isa a b r eb
    have z := List.all_eq_true.mp (List.all_eq_true.mp e4 a m1) b m2
    unfold Tb.isaB at z
    rw [eb] at z
    have q := of_decide_eq_true z
    cases a <;> cases b <;> exact q
end

/-! ## from names and numbers to the tables -/
theorem ab {a b : Bool} (x : a = true) (y : b = true) : (a && b) = true := Bool.and_eq_true_iff.mpr ⟨x, y⟩
def conE : Str × (Int ⊕ Str) → Str × MV := fun q => (q.1, match q.2 with | .inl i => .int i | .inr z => .str z)
theorem Te.toTb {t : Tb} {e : Te} {K : PySem.W.Frag} (hm : (t.P.cls.all fun C => C.ms.all fun q => decide (q.2 < t.P.fns.length)) = true)
    (hc : t.T.consts = e.cons.map conE) (he : e = ⟨t.T.cls, t.NM, t.P.cls, t.ds.map (·.at_), t.ok, t.P.isa, t.tyI, t.tyC, t.T.fns, e.cons⟩)
    (h1 : e.ex1 K = true) (h2 : e.ex2 K = true) : t.ex K = true := by
  have eA : ∀ f, e.A K f = t.A K f := fun f => by rw [he]; rfl
  have eat : ∀ f, e.at_ f = t.at_ f := fun f => by rw [he]; rfl
  have enm : ∀ c, e.nmC c = t.nmC c := fun c => by rw [he]; rfl
  have eNM : e.NM = t.NM := by rw [he]
  have eok : e.ok = t.ok := by rw [he]
  have ecs : e.cs = t.P.cls := by rw [he]
  have eisa : e.isa = t.P.isa := by rw [he]
  have eI : e.tyI = t.tyI := by rw [he]
  have eC : e.tyC = t.tyC := by rw [he]
  have ef : e.fns = t.T.fns := by rw [he]
  unfold Te.ex1 at h1
  unfold Te.ex2 at h2
  obtain ⟨a1, a2⟩ := He.ba h1
  obtain ⟨a3, h2⟩ := He.ba h2
  obtain ⟨a4, a5⟩ := He.ba h2
  have b2 : ((List.range t.P.cls.length).all fun c => t.clsB K c) = true := List.all_eq_true.mpr fun c hc => by
    have z := List.all_eq_true.mp a2 c (by rw [ecs]; exact hc)
    unfold Te.clsB at z
    unfold Tb.clsB
    rw [ecs] at z
    cases q : t.P.cls[c]? with
    | none => rw [q] at z; cases z
    | some C =>
      rw [q] at z
      obtain ⟨z1, z2⟩ := He.ba z
      rw [enm] at z1 z2
      refine ab z1 ?_
      by_cases hx : C.exc = true
      · rw [if_pos hx] at z2 ⊢
        unfold Te.excB at z2
        rw [eA] at z2
        exact z2
      · rw [if_neg hx] at z2 ⊢
        unfold Te.ownB at z2
        unfold Tb.ownB
        obtain ⟨y1, z2⟩ := He.ba z2
        obtain ⟨y2, z2⟩ := He.ba z2
        obtain ⟨y3, z2⟩ := He.ba z2
        obtain ⟨y4, z2⟩ := He.ba z2
        obtain ⟨y5, z2⟩ := He.ba z2
        obtain ⟨y6, z2⟩ := He.ba z2
        obtain ⟨y7, z2⟩ := He.ba z2
        obtain ⟨y8, z2⟩ := He.ba z2
        rw [eNM] at y6
        rw [eok] at y8
        rw [eA] at z2
        refine ab y1 (ab y2 (ab y3 (ab y4 (ab y5 (ab y6 (ab ?_ (ab y8 z2)))))))
        refine List.all_eq_true.mpr fun q' hq => ?_
        have x := List.all_eq_true.mp y7 q' hq
        rw [eNM] at x
        have hl : q'.2 < t.P.fns.length := of_decide_eq_true (List.all_eq_true.mp (List.all_eq_true.mp hm C (List.mem_of_getElem? q)) q' hq)
        rw [List.getElem?_eq_getElem hl]
        cases en : t.NM[q'.1]? with
        | none => rw [en] at x; cases x
        | some nm =>
          rw [en] at x
          rw [eok, eA] at x
          exact x
  have b3 : (t.T.consts.all fun q => Mi.conB K q) = true := by
    rw [hc]
    refine List.all_eq_true.mpr fun q hq => ?_
    obtain ⟨p, hp, rfl⟩ := List.mem_map.mp hq
    have z := List.all_eq_true.mp a3 p hp
    obtain ⟨x, v⟩ := p
    cases v <;> exact z
  have b4 : (t.tyI.all fun a => t.tyC.all fun b => t.isaB K a b) = true := by
    refine List.all_eq_true.mpr fun a ha => List.all_eq_true.mpr fun b hb => ?_
    have z := List.all_eq_true.mp (List.all_eq_true.mp a4 a (by rw [eI]; exact ha)) b (by rw [eC]; exact hb)
    unfold Te.isaB at z
    unfold Tb.isaB
    rw [eisa] at z
    cases q : t.P.isa a b with
    | none => rfl
    | some r =>
      rw [q] at z
      have e1 : ∀ c, e.clU K c = clU' t K c := fun c => by
        cases c with
        | ty n => rfl
        | own i =>
          show Value.ref (He.ga K (e.nmC i)) = Value.ref (He.ga K (t.nmC i))
          rw [enm]
      rw [e1, e1] at z
      exact z
  have b5 : ((List.range t.T.fns.length).all fun f => t.fnB K f) = true := List.all_eq_true.mpr fun f hf => by
    have z := List.all_eq_true.mp a5 f (by rw [ef]; exact hf)
    unfold Te.fnB at z
    unfold Tb.fnB
    rw [ef, eok, eat] at z
    exact z
  unfold Tb.ex
  rw [a1, b2, b3, b4, b5]
  rfl
end Mi
set_option maxHeartbeats 8000000
namespace Mi
open PySem PySem.Spec L2

/-! ## what laws draw -/
/-- a law's own numbers -/
structure Tk where
  p : Int
  q : Int
  r : Int
  s : Int
  t : Int
  a : Int
  b : Int
  c : Int
  d : Int
  e : Int
def primes5 : List Int := [2147483647, 2147483629, 2147483587, 2147483579, 2147483563]
/-- what is drawn of a pot's three ints below n, and the three behind it -/
def takeF (k : Tk) (x y z n : Int) : Int × Int × Int × Int :=
  if 0 < x then (x % n, x / n, y, z)
  else
    let q := ((y + k.a * (z + 1) * (z + 1) + k.b) ^ 3) % ((atI primes5 ((z + 1) % 5)).getD 1)
    ((q * (q % k.c + k.d * (z + 1)) / k.e) % n, x, y, z + 1)
def takeBody (k : Tk) : List MS :=
  [(.ite (.cmp .gt (.ix (.var 0) (.cst (.int (0)))) (.cst (.int (0)))) [(.asg (.name 2) (.bin .mod (.bi .int [(.ix (.var 0) (.cst (.int (0))))]) (.var 1))), (.asg (.ix (.var 0) (.cst (.int (0)))) (.bin .fdiv (.ix (.var 0) (.cst (.int (0)))) (.var 1))), (.ret (.var 2))] []),
   (.asg (.ix (.var 0) (.cst (.int (2)))) (.bin .add (.ix (.var 0) (.cst (.int (2)))) (.cst (.int (1))))),
   (.asg (.name 3) (.ix (.lst [(.cst (.int (2147483647))), (.cst (.int (2147483629))), (.cst (.int (2147483587))), (.cst (.int (2147483579))), (.cst (.int (2147483563)))]) (.bin .mod (.bi .int [(.ix (.var 0) (.cst (.int (2))))]) (.cst (.int (5)))))),
   (.asg (.name 4) (.bin .mod (.bi .int [(.bin .pow (.bi .int [(.bin .add (.bin .add (.ix (.var 0) (.cst (.int (1)))) (.bin .mul (.bin .mul (.cst (.int k.a)) (.ix (.var 0) (.cst (.int (2))))) (.ix (.var 0) (.cst (.int (2)))))) (.cst (.int k.b)))]) (.cst (.int (3))))]) (.var 3))),
   (.ret (.bin .mod (.bi .int [(.bin .fdiv (.bin .mul (.var 4) (.bin .add (.bin .mod (.bi .int [(.var 4)]) (.cst (.int k.c))) (.bin .mul (.cst (.int k.d)) (.ix (.var 0) (.cst (.int (2))))))) (.cst (.int k.e)))]) (.var 1)))]
def takeFn (k : Tk) : Fn := ⟨2, 5, [], takeBody k⟩
structure Tk.Ok (k : Tk) : Prop where
  p0 : k.p.natAbs < 2 ^ 30
  r0 : k.r.natAbs < 2 ^ 30
  s0 : k.s.natAbs < 2 ^ 30
  a0 : 0 ≤ k.a
  a1 : k.a < 2 ^ 30
  b0 : 0 ≤ k.b
  b1 : k.b < 2 ^ 30
  c0 : 0 < k.c
  c1 : k.c < 2 ^ 30
  d0 : 0 ≤ k.d
  d1 : k.d < 2 ^ 30
  e0 : 0 < k.e
  e1 : k.e < 2 ^ 30
/-- a pot: its three ints, drawn from at most c times without an own number -/
structure PotOk (c : Nat) (x y z : Int) : Prop where
  x0 : 0 ≤ x
  y0 : 0 ≤ y
  y1 : y < 2 ^ 61
  z0 : 0 ≤ z
  z1 : z ≤ c
theorem log2_lt {i : Int} {n : Nat} (h : i.natAbs < 2 ^ n) (hn : 0 < n) : i.natAbs.log2 < n := by
  by_cases h0 : i.natAbs = 0
  · rw [h0]; simpa using hn
  · exact (Nat.log2_lt h0).mpr h
theorem lg2 {i : Int} (h0 : 0 ≤ i) (h : i < 2 ^ 100) : i.natAbs.log2 < 101 := Nat.lt_succ_of_lt (log2_lt (by omega) (by decide))
theorem mul_bd {a b m n : Int} (a0 : 0 ≤ a) (a1 : a < m) (b0 : 0 ≤ b) (b1 : b < n) : 0 ≤ a * b ∧ a * b < m * n := ⟨Int.mul_nonneg a0 b0, Int.lt_of_le_of_lt (Int.mul_le_mul_of_nonneg_left (Int.le_of_lt b1) a0) (Int.mul_lt_mul_of_pos_right a1 (Int.lt_of_le_of_lt b0 b1))⟩
theorem prime_at (z : Int) : ∃ p, atI [MV.int 2147483647, .int 2147483629, .int 2147483587, .int 2147483579, .int 2147483563] (z % 5) = some (.int p) ∧ atI primes5 (z % 5) = some p ∧ 0 < p ∧ p < 2 ^ 31 := by
  have h0 := Int.emod_nonneg z (show (5 : Int) ≠ 0 by decide)
  have h1 := Int.emod_lt_of_pos z (show (0 : Int) < 5 by decide)
  have : z % 5 = 0 ∨ z % 5 = 1 ∨ z % 5 = 2 ∨ z % 5 = 3 ∨ z % 5 = 4 := by omega
  rcases this with e | e | e | e | e <;> rw [e] <;> exact ⟨_, rfl, rfl, by decide, by decide⟩
theorem h5z : (5 ≤ SZ) = True := eq_true (by decide)
theorem atI_0 {x y z : MV} : atI [x, y, z] 0 = some x := rfl
theorem atI_1 {x y z : MV} : atI [x, y, z] 1 = some y := rfl
theorem atI_2 {x y z : MV} : atI [x, y, z] 2 = some z := rfl
variable (P : Prg) (cl : CallF)
theorem take_run {k : Tk} (hk : k.Ok) {c : Nat} {x y z n : Int} (hp : PotOk c x y z) (hc : c < 2 ^ 32) (hn : 0 < n) (hn2 : n < 2 ^ 62) :
    ∃ g, runFn P cl (takeFn k) [.ref 0, .int n] [.lst [.int x, .int y, .int z]] = .ok (.int (takeF k x y z n).1) ([.lst [.int (takeF k x y z n).2.1, .int (takeF k x y z n).2.2.1, .int (takeF k x y z n).2.2.2]] ++ g) := by
  by_cases hx : 0 < x
  · refine ⟨[], ?_⟩
    have hn3 : n.natAbs.log2 < 9000 := log2_lt (Nat.lt_of_lt_of_le (by omega : n.natAbs < 2 ^ 62) (Nat.pow_le_pow_right (by decide) (by decide))) (by decide)
    have et : takeF k x y z n = (x % n, x / n, y, z) := if_pos hx
    rw [et]
    simp [runFn, takeFn, takeBody, exs, ex, ev, evs, evT, R.bindS, R.bind, RS'.seq, Cop.run, gtM, ixM, atI, ixN, truM, Bop.run, modM, fdivM, Bi.run, intM, asg, setIM, hx, hn, hn3]
  · have x0 : x = 0 := by have := hp.x0; omega
    subst x0
    obtain ⟨p, hp1, hp2, hp3, hp4⟩ := prime_at (z + 1)
    obtain ⟨_, y0, y1, z0, z1⟩ := hp
    obtain ⟨_, _, _, a0, a1, b0, b1, c0, c1, d0, d1, e0, e1⟩ := hk
    have zz : z + 1 < 2 ^ 33 := by omega
    have m1 : 0 ≤ k.a * (z + 1) ∧ k.a * (z + 1) < 2 ^ 63 := mul_bd a0 a1 (by omega) zz
    have m2 : 0 ≤ k.a * (z + 1) * (z + 1) ∧ k.a * (z + 1) * (z + 1) < 2 ^ 96 := mul_bd m1.1 m1.2 (by omega) zz
    have s1 : 0 ≤ y + k.a * (z + 1) * (z + 1) + k.b ∧ y + k.a * (z + 1) * (z + 1) + k.b < 2 ^ 100 := by omega
    have q0 := Int.emod_nonneg ((y + k.a * (z + 1) * (z + 1) + k.b) ^ 3) (show p ≠ 0 by omega)
    have q1 := Int.emod_lt_of_pos ((y + k.a * (z + 1) * (z + 1) + k.b) ^ 3) hp3
    have r0 := Int.emod_nonneg (((y + k.a * (z + 1) * (z + 1) + k.b) ^ 3) % p) (show k.c ≠ 0 by omega)
    have r1 := Int.emod_lt_of_pos (((y + k.a * (z + 1) * (z + 1) + k.b) ^ 3) % p) c0
    have m3 : 0 ≤ k.d * (z + 1) ∧ k.d * (z + 1) < 2 ^ 63 := mul_bd d0 d1 (by omega) zz
    have l1 := lg2 a0 (show k.a < 2 ^ 100 by omega)
    have l2 := lg2 (show 0 ≤ z + 1 by omega) (show z + 1 < 2 ^ 100 by omega)
    have l3 := lg2 m1.1 (show _ < 2 ^ 100 by omega)
    have l4 := lg2 d0 (show k.d < 2 ^ 100 by omega)
    have l5 := lg2 q0 (show _ < 2 ^ 100 by omega)
    have l6 := lg2 (show 0 ≤ ((y + k.a * (z + 1) * (z + 1) + k.b) ^ 3) % p % k.c + k.d * (z + 1) by omega) (show _ < 2 ^ 100 by omega)
    have l7 := lg2 (show 0 ≤ k.e by omega) (show k.e < 2 ^ 100 by omega)
    have i1 : (Builtin.Int.intBits (y + k.a * (z + 1) * (z + 1) + k.b) : Int) ≤ 100 := by
      have := PySem.intBits_le_iff.mpr (show (y + k.a * (z + 1) * (z + 1) + k.b).natAbs < 2 ^ 100 by omega)
      omega
    have c1' : k.a.natAbs.log2 + (z + 1).natAbs.log2 < 1000000 := by omega
    have c2' : (k.a * (z + 1)).natAbs.log2 + (z + 1).natAbs.log2 < 1000000 := by omega
    have c3' : (Builtin.Int.intBits (y + k.a * (z + 1) * (z + 1) + k.b) : Int) * 3 ≤ 134217728 := by omega
    have c4' : k.d.natAbs.log2 + (z + 1).natAbs.log2 < 1000000 := by omega
    have c5' : (((y + k.a * (z + 1) * (z + 1) + k.b) ^ 3) % p).natAbs.log2 + (((y + k.a * (z + 1) * (z + 1) + k.b) ^ 3) % p % k.c + k.d * (z + 1)).natAbs.log2 < 1000000 := by omega
    have c6' : k.e.natAbs.log2 < 9000 := by omega
    refine ⟨[.lst [.int 2147483647, .int 2147483629, .int 2147483587, .int 2147483579, .int 2147483563]], ?_⟩
    have et : takeF k 0 y z n = (((((y + k.a * (z + 1) * (z + 1) + k.b) ^ 3) % p * ((((y + k.a * (z + 1) * (z + 1) + k.b) ^ 3) % p) % k.c + k.d * (z + 1)) / k.e) % n), 0, y, z + 1) := by
      unfold takeF
      rw [if_neg (by omega), hp2]
      rfl
    rw [et]
    simp [runFn, takeFn, takeBody, exs, ex, ev, evs, evT, R.bindS, R.bind, RS'.seq, Cop.run, gtM, ixM, truM, Bop.run, modM, fdivM, mulM, addM, powM, Bi.run, intM, asg, setIM, hp1, hp3, hn, c0, e0, c1', c2', c3', c4', c5', c6', atI_0, atI_1, atI_2, ixN, h5z]
theorem take_pot {k : Tk} (hk : k.Ok) {c : Nat} {x y z n : Int} (hp : PotOk c x y z) (hn : 0 < n) :
    (0 ≤ (takeF k x y z n).1 ∧ (takeF k x y z n).1 < n) ∧ PotOk (c + 1) (takeF k x y z n).2.1 (takeF k x y z n).2.2.1 (takeF k x y z n).2.2.2 := by
  obtain ⟨x0, y0, y1, z0, z1⟩ := hp
  unfold takeF
  by_cases hx : 0 < x
  · rw [if_pos hx]
    exact ⟨⟨Int.emod_nonneg _ (by omega), Int.emod_lt_of_pos _ hn⟩, Int.ediv_nonneg x0 (by omega), y0, y1, z0, by show z ≤ ((c + 1 : Nat) : Int); omega⟩
  · rw [if_neg hx]
    exact ⟨⟨Int.emod_nonneg _ (by omega), Int.emod_lt_of_pos _ hn⟩, x0, y0, y1, by show 0 ≤ z + 1; omega, by show z + 1 ≤ ((c + 1 : Nat) : Int); omega⟩
/-- a pot made of the script's k-th number -/
def potBody (k : Tk) : List MS :=
  [(.asg (.name 2) (.ite (.cmp .lt (.var 1) (.bi .len [(.var 0)])) (.ix (.var 0) (.var 1)) (.bin .add (.bin .mul (.cst (.int k.p)) (.var 1)) (.cst (.int k.q))))),
   (.asg (.name 3) (.bin .mul (.bin .mod (.bi .int [(.bi .abs [(.var 2)])]) (.bin .pow (.bin .pow (.cst (.int (10))) (.cst (.int (60)))) (.cst (.int (5))))) (.bi .int [(.cmp .ge (.bi .abs [(.var 2)]) (.bin .pow (.cst (.int (10))) (.cst (.int (18)))))]))),
   (.ret (.lst [(.var 3), (.bin .mod (.bi .int [(.bin .add (.bin .add (.bin .mul (.bin .mod (.bi .int [(.var 2)]) (.cst (.int (2305843009213693951)))) (.cst (.int k.r))) (.bin .mul (.bin .mul (.cst (.int k.s)) (.var 1)) (.var 1))) (.cst (.int k.t)))]) (.cst (.int (2305843009213693921)))), (.cst (.int (0)))]))]
def potFn (k : Tk) : Fn := ⟨2, 4, [], potBody k⟩
theorem h3z : (3 ≤ SZ) = True := eq_true (by decide)
theorem pot_run {k : Tk} (hk : k.Ok) (ns : List Int) {j : Int} (j0 : 0 ≤ j) (j1 : j < 2 ^ 20) :
    ∃ x y, PotOk 0 x y 0 ∧ runFn P cl (potFn k) [.scr ns, .int j] [] = .ok (.ref 0) [.lst [.int x, .int y, .int 0]] := by
  have key : ∀ cell : Int, ∃ x y, PotOk 0 x y 0 ∧ exs P cl (potBody k).tail [some (.scr ns), some (.int j), some (.int cell), none] [] = .ok (.ret (.ref 0)) [some (.scr ns), some (.int j), some (.int cell), some (.int x)] [.lst [.int x, .int y, .int 0]] := fun cell => by
    have hb : ∀ i : Int, i.natAbs < 2 ^ 30 → i.natAbs.log2 < 30 := fun i h => log2_lt h (by decide)
    have l1 := hb _ hk.r0
    have l2 := hb _ hk.s0
    have l3 : j.natAbs.log2 < 30 := hb _ (by omega)
    have m0 := Int.emod_nonneg cell (show (2305843009213693951 : Int) ≠ 0 by decide)
    have m1 := Int.emod_lt_of_pos cell (show (0 : Int) < 2305843009213693951 by decide)
    have l4 := lg2 m0 (by omega)
    have b1 : (k.s * j).natAbs < 2 ^ 60 := by
      rw [Int.natAbs_mul]
      have := hk.s0
      have h2 : j.natAbs < 2 ^ 20 := by omega
      exact Nat.lt_of_lt_of_le (Nat.mul_lt_mul'' this h2) (by decide)
    have l5 := log2_lt b1 (by decide)
    have c1 : (cell % 2305843009213693951).natAbs.log2 + k.r.natAbs.log2 < 1000000 := by omega
    have c2 : k.s.natAbs.log2 + j.natAbs.log2 < 1000000 := by omega
    have c3 : (k.s * j).natAbs.log2 + j.natAbs.log2 < 1000000 := by omega
    have c4 : ((Builtin.Int.intBits 10 : Nat) : Int) * 60 ≤ 134217728 := by decide
    have c5 : ((Builtin.Int.intBits (10 ^ 60) : Nat) : Int) * 5 ≤ 134217728 := by decide +kernel
    have c6 : ((Builtin.Int.intBits 10 : Nat) : Int) * 18 ≤ 134217728 := by decide
    have p1 : (0 : Int) < (10 ^ 60) ^ 5 := by decide +kernel
    have a0 : 0 ≤ (if cell < 0 then -cell else cell) := by split <;> omega
    generalize ea : (if cell < 0 then -cell else cell) = A at a0
    have x0 := Int.emod_nonneg A (show ((10 : Int) ^ 60) ^ 5 ≠ 0 by decide +kernel)
    have x1 := Int.emod_lt_of_pos A p1
    have l6 : (A % (10 ^ 60) ^ 5).natAbs.log2 < 1001 := log2_lt (by
      have : ((10 : Int) ^ 60) ^ 5 < 2 ^ 1001 := by decide +kernel
      omega) (by decide)
    have l7 : ∀ b : Bool, (if b = true then (1 : Int) else 0).natAbs.log2 < 2 ∧ 0 ≤ (if b = true then (1 : Int) else 0) := fun b => by cases b <;> decide
    have l8 := l7 (decide (10 ^ 18 ≤ A))
    have c7 : (A % (10 ^ 60) ^ 5).natAbs.log2 + (if decide (10 ^ 18 ≤ A) = true then (1 : Int) else 0).natAbs.log2 < 1000000 := by
      have := l8.1
      omega
    refine ⟨(A % (10 ^ 60) ^ 5) * (if decide (10 ^ 18 ≤ A) = true then (1 : Int) else 0), (cell % 2305843009213693951 * k.r + k.s * j * j + k.t) % 2305843009213693921, ⟨Int.mul_nonneg x0 l8.2, Int.emod_nonneg _ (by decide), Int.lt_trans (Int.emod_lt_of_pos _ (by decide)) (by decide), Int.le_refl _, Int.le_refl _⟩, ?_⟩
    have t60 : (60 : Int).toNat = 60 := rfl
    have t5 : (5 : Int).toNat = 5 := rfl
    have t18 : (18 : Int).toNat = 18 := rfl
    have n60 : (0 : Int) ≤ 60 := by decide
    have n5 : (0 : Int) ≤ 5 := by decide
    have n18 : (0 : Int) ≤ 18 := by decide
    have q1 : (0 : Int) < 2305843009213693951 := by decide
    have q2 : (0 : Int) < 2305843009213693921 := by decide
    clear x0 x1 l6 l7 l8 a0
    simp only [potBody, List.tail_cons, exs, ex, ev, evs, R.bindS, R.bind, RS'.seq, Cop.run, geM, Bop.run, modM, mulM, addM, powM, Bi.run, intM, absM, asg, List.getElem?_cons_zero, List.getElem?_cons_succ, ea, t60, t5, t18, n60, n5, n18, c1, c2, c3, c4, c5, c6, c7, p1, q1, q2, h3z, and_self, if_true, List.set_cons_succ, List.set_cons_zero, List.length_cons, List.length_nil, List.nil_append, Nat.zero_add, Nat.reduceAdd]
  have first : ∃ cell : Int, ex P cl (.asg (.name 2) (.ite (.cmp .lt (.var 1) (.bi .len [(.var 0)])) (.ix (.var 0) (.var 1)) (.bin .add (.bin .mul (.cst (.int k.p)) (.var 1)) (.cst (.int k.q))))) [some (.scr ns), some (.int j), none, none] [] = .ok .nx [some (.scr ns), some (.int j), some (.int cell), none] [] := by
    have l1 : k.p.natAbs.log2 + j.natAbs.log2 < 1000000 := by
      have := log2_lt hk.p0 (by decide)
      have := log2_lt (show j.natAbs < 2 ^ 20 by omega) (by decide)
      omega
    by_cases hj : j < ns.length
    · have hi : ixN ns.length j = some j.toNat := by
        unfold ixN
        rw [if_pos j0, if_pos hj]
      have hg : ns[j.toNat]? = some (ns[j.toNat]'(by omega)) := List.getElem?_eq_getElem _
      refine ⟨ns[j.toNat]'(by omega), ?_⟩
      simp [ex, ev, evs, R.bindS, R.bind, Cop.run, ltM, truM, Bi.run, lenM, asg, hj, ixM, atI, hi, hg]
    · refine ⟨k.p * j + k.q, ?_⟩
      simp [ex, ev, evs, R.bindS, R.bind, Cop.run, ltM, truM, Bop.run, mulM, addM, Bi.run, lenM, asg, hj, l1]
  obtain ⟨cell, e1⟩ := first
  obtain ⟨x, y, hp, e2⟩ := key cell
  refine ⟨x, y, hp, ?_⟩
  have e3 : exs P cl (potBody k) [some (.scr ns), some (.int j), none, none] [] = .ok (.ret (.ref 0)) [some (.scr ns), some (.int j), some (.int cell), some (.int x)] [.lst [.int x, .int y, .int 0]] := by
    show (ex P cl _ _ _).seq _ = _
    rw [e1]
    exact e2
  show (match exs P cl (potBody k) [some (.scr ns), some (.int j), none, none] [] with
    | .ok .nx _ h1 => R.ok MV.non h1
    | .ok (.ret v) _ h1 => .ok v h1
    | .ex c v _ h1 => .ex c v h1
    | _ => .wall) = _
  rw [e3]
end Mi
set_option maxHeartbeats 8000000
namespace Mi
open PySem PySem.Spec L2

/-! ## equal to themselves, objects with their own == among them -/
/-- the same instance of a class with its own ==, of such fields -/
def DSame (E : Addr → List (Str × V) → Prop) : Eqv := fun x y H => ∃ (a C dx : Addr) (fs : List (Str × V)), x = .ref a ∧ y = .ref a ∧ H a = some (.ins C dx fs) ∧ E C fs
def OwnEq (P0 : Program) (w : World) (K : PySem.W.Frag) (mg : Str → Option Value) (base : Heap) (n : Nat) (E : Addr → List (Str × V) → Prop) : Prop :=
  ∀ X : Cx, X.prog = P0 → X.w = w → X.K = K → X.mg = mg → X.base = base → X.calm = true → RcG X n (DSame E)
inductive SelfQ (K : PySem.W.Frag) (E : Addr → List (Str × V) → Prop) (H0 : Hp) : V → Prop where
  | base {v : V} : SelfK K H0 v → SelfQ K E H0 v
  | own {a C dx : Addr} {fs : List (Str × V)} : H0 a = some (.ins C dx fs) → E C fs → SelfQ K E H0 (.ref a)
theorem eqS_th {P0 : Program} {w : World} {K : PySem.W.Frag} {mg : Str → Option Value} {base : Heap} {E : Addr → List (Str × V) → Prop} {n k : Nat} (th : Th) (own : OwnEq P0 w K mg base n E) (hn : n ≤ k + 1) (s : ∀ i, SelfQ K E th.wd (th.θ i)) : @EqS th P0 w K mg base k := by
  intro X hP hw hK hmg hb hc hr
  intro pins sh σ H x y u1 u2 Q I rx ry h
  obtain ⟨i, ex, ey, hw', q⟩ := h
  generalize ev : th.θ i = v at ex ey
  have si := s i
  rw [ev] at si
  cases si with
  | base sk => exact eqS_self sk k X hP hw hK hmg hb hc hr pins sh σ H x y u1 u2 Q I rx ry ⟨0, ex, ey, hw', q⟩
  | own ha he =>
    exact op_eqG (own X hP hw hK hmg hb hc) (hr.mono (by omega)) pins sh σ H x y u1 u2 Q I rx ry ⟨⟨_, _, _, _, ex, ey, hw' _ _ ha, he⟩, fun H' e => q H' e⟩
/-- no class has its own == here -/
theorem ownEq_no {P0 : Program} {w : World} {K : PySem.W.Frag} {mg : Str → Option Value} {base : Heap} {n : Nat} : OwnEq P0 w K mg base n fun _ _ => False := by
  intro X _ _ _ _ _ _ A pins s σ H x y u v sb I rx ry d
  obtain ⟨_, _, _, _, _, _, _, e⟩ := d
  exact e.elim

/-! ## a draw, a pot, as promises -/
def rTake (k : Tk) : List MV → MH → R MV := fun xs h => match xs, h with
  | [.ref 0, .int n], [.lst [.int x, .int y, .int z]] => if (0 ≤ x ∧ 0 ≤ y ∧ y < 2 ^ 61 ∧ 0 ≤ z ∧ z < 2 ^ 32 - 1) ∧ 0 < n ∧ n < 2 ^ 62 then .ok (.int (takeF k x y z n).1) [.lst [.int (takeF k x y z n).2.1, .int (takeF k x y z n).2.2.1, .int (takeF k x y z n).2.2.2]] else .wall
  | _, _ => .wall
theorem sat_take (P : Prg) (cl : CallF) {k : Tk} (hk : k.Ok) (xs : List MV) (h : MH) : Tells h.length (runFn P cl (takeFn k) xs h) (rTake k xs h) := by
  by_cases e : rTake k xs h = .wall
  · exact .inl e
  · unfold rTake at e ⊢
    split at e
    · rename_i n x y z
      split at e
      · rename_i c
        rw [if_pos c]
        obtain ⟨⟨x0, y0, y1, z0, z1⟩, n0, n1⟩ := c
        obtain ⟨g, eg⟩ := take_run P cl hk (c := z.toNat) (x := x) (y := y) (z := z) (n := n) ⟨x0, y0, y1, z0, by omega⟩ (by omega) n0 n1
        exact .inr (.inr (.inl ⟨_, _, g, rfl, eg, rfl, rfl, Nat.le_refl _⟩))
      · exact absurd rfl e
    · exact absurd rfl e
def spTake (k : Tk) : Sp := fun vs H Q _ => ∃ (a : Addr) (x y z n : Int) (c : Nat), vs = [.ref a, .int n] ∧ H a = some (.lst [.int x, .int y, .int z]) ∧ PotOk c x y z ∧ c < 2 ^ 32 - 1 ∧ 0 < n ∧ n < 2 ^ 62 ∧
  ∀ H', (∀ b u, b ≠ a → H b = some u → H' b = some u) → H' a = some (.lst [.int (takeF k x y z n).2.1, .int (takeF k x y z n).2.2.1, .int (takeF k x y z n).2.2.2]) → Q (.int (takeF k x y z n).1) H'
/-- all but one object aside -/
@[reducible] def thBut (θ : Nat → V) (H : Hp) (a : Addr) : Th := ⟨θ, fun b => if b = a then none else H b⟩
theorem rh_one {θ : Nat → V} {K : PySem.W.Frag} {GC : Gn} {H : Hp} {a : Addr} {o : MO} (r : @RO (thBut θ H a) K GC [a] H a o) : @RH (thBut θ H a) K GC [a] [o] H := by
  refine @RH.mk (thBut θ H a) K GC [a] [o] H rfl (fun i j b hi hj => ?_) (fun n ob hn => ?_) (fun b u e => ?_) fun n b hn => ?_
  · match i, j with
    | 0, 0 => rfl
    | i + 1, _ => simp at hi
    | 0, j + 1 => simp at hj
  · match n with
    | 0 => simp at hn; subst hn; exact ⟨a, rfl, r⟩
    | n + 1 => simp at hn
  · have e : (if b = a then none else H b) = some u := e
    split at e
    · cases e
    · exact e
  · match n with
    | 0 =>
      simp at hn
      subst hn
      exact if_pos rfl
    | n + 1 => simp at hn
section
variable {T : GT} {GC : Gn} {P : Prg} {cl : CallF} {m : Nat} {P0 : Program} {w : World} {K : PySem.W.Frag} {mg : Str → Option Value} {base : Heap}
theorem ok_take {x qual : Str} {params : Arguments} {body : List Stmt} {sc : Scope} {dvs : List V} {kws : List (Str × V)} {f : Addr} {fd : FuncData} {N ps : List Str} {n : Nat} {k : Tk} (hk : k.Ok) (U : FunD K x qual params body sc dvs kws f fd) (S : FnScope N ps sc)
    (hb : takeBody k = compSs T GC.NM P n ⟨N, sc, fun _ => true⟩ body) (hnp : 2 = ps.length) (hnl : 5 = N.length) (wd : ∀ H0 : Hp, @Wd ⟨fun _ => .non, H0⟩ T P cl GC m P0 w K mg base) : FnOk P0 w K mg base (L2.CX P0 w) (m + 2) f fd ps (spTake k) := by
  refine ⟨fun vs H Q E h => ?_, fun A outer s H args us vs Q E hr e0 hbd hv hsp => ?_⟩
  · obtain ⟨a, x, y, z, n, c, rfl, _⟩ := h
    exact hnp
  · obtain ⟨a, x, y, z, n', c, rfl, ha, hp, hc, n0, n1, q⟩ := hsp
    have F := @okD (thBut (fun _ => .non) H a) T GC P cl m P0 w K mg base _ _ _ _ _ _ _ _ _ _ _ (takeFn k) (rTake k) n U S hb hnp hnl (wd _) (fun xs h _ => sat_take P cl hk xs h)
    refine F.run A outer s H args us _ Q E hr e0 hbd hv ?_
    refine ⟨rfl, [a], [.ref 0, .int n'], [.lst [.int x, .int y, .int z]], rh_one ⟨_, ha, @RVs.of_ints (thBut (fun _ => .non) H a) K [a] H [x, y, z]⟩, ?_, ?_⟩
    · exact @RVs.cons (thBut (fun _ => .non) H a) K [a] H _ _ _ _ (@RV.ref (thBut (fun _ => .non) H a) K [a] H 0 a rfl) (@RVs.cons (thBut (fun _ => .non) H a) K [a] H _ _ _ _ (@RV.int (thBut (fun _ => .non) H a) K [a] H n') (@RVs.nil (thBut (fun _ => .non) H a) K [a] H))
    · have er : rTake k [.ref 0, .int n'] [.lst [.int x, .int y, .int z]] = .ok (.int (takeF k x y z n').1) [.lst [.int (takeF k x y z n').2.1, .int (takeF k x y z n').2.2.1, .int (takeF k x y z n').2.2.2]] :=
        if_pos ⟨⟨hp.x0, hp.y0, hp.y1, hp.z0, by have := hp.z1; omega⟩, n0, n1⟩
      rw [er]
      intro μ' H' u e' k' rh rv
      have eu : u = .int (takeF k x y z n').1 := by cases rv; rfl
      subst eu
      have ea : μ'[0]? = some a := e' 0 a rfl
      obtain ⟨a', ea', vs, hvs, rvs⟩ := @RH.obj (thBut (fun _ => .non) H a) K GC μ' _ H' rh 0 _ rfl
      rw [ea] at ea'
      cases ea'
      refine q H' (fun b u hb hu => ?_) ?_
      · exact @RH.wld (thBut (fun _ => .non) H a) K GC μ' _ H' rh b u ((if_neg hb).trans hu)
      · rw [hvs]
        cases rvs with
        | cons r1 rvs =>
          cases rvs with
          | cons r2 rvs =>
            cases rvs with
            | cons r3 rvs =>
              cases rvs
              cases r1; cases r2; cases r3
              rfl
def rPot (P : Prg) (cl : CallF) (k : Tk) : List MV → MH → R MV := fun xs h => match xs, h with
  | [.scr _, .int j], [] => if 0 ≤ j ∧ j < 2 ^ 20 then runFn P cl (potFn k) xs h else .wall
  | _, _ => .wall
theorem sat_pot {k : Tk} (xs : List MV) (h : MH) : Tells h.length (runFn P cl (potFn k) xs h) (rPot P cl k xs h) := by
  unfold rPot
  split
  · split
    · exact .inr (.inl rfl)
    · exact .inl rfl
  · exact .inl rfl
/-- the script's pot: a new list of three ints -/
def spPot (K : PySem.W.Frag) : Sp := fun vs H Q _ => ∃ (s : Addr) (ns : List Int) (j : Int), vs = [.ref s, .int j] ∧ KLst K H s (ns.map V.int) ∧ 0 ≤ j ∧ j < 2 ^ 20 ∧
  ∀ H' a x y, PotOk 0 x y 0 → H a = none → (∀ b u, H b = some u → H' b = some u) → H' a = some (.lst [.int x, .int y, .int 0]) → Q (.ref a) H'
theorem ok_pot {x qual : Str} {params : Arguments} {body : List Stmt} {sc : Scope} {dvs : List V} {kws : List (Str × V)} {f : Addr} {fd : FuncData} {N ps : List Str} {n : Nat} {k : Tk} (hk : k.Ok) (U : FunD K x qual params body sc dvs kws f fd) (S : FnScope N ps sc)
    (hb : potBody k = compSs T GC.NM P n ⟨N, sc, fun _ => true⟩ body) (hnp : 2 = ps.length) (hnl : 4 = N.length) (wd : ∀ H0 : Hp, @Wd ⟨fun _ => .non, H0⟩ T P cl GC m P0 w K mg base) : FnOk P0 w K mg base (L2.CX P0 w) (m + 2) f fd ps (spPot K) := by
  refine ⟨fun vs H Q E h => ?_, fun A outer s H args us vs Q E hr e0 hbd hv hsp => ?_⟩
  · obtain ⟨s, ns, j, rfl, _⟩ := h
    exact hnp
  · obtain ⟨sa, ns, j, rfl, hs, j0, j1, q⟩ := hsp
    have F := @okD ⟨fun _ => .non, H⟩ T GC P cl m P0 w K mg base _ _ _ _ _ _ _ _ _ _ _ (potFn k) (rPot P cl k) n U S hb hnp hnl (wd _) (fun xs h _ => sat_pot xs h)
    refine F.run A outer s H args us _ Q E hr e0 hbd hv ?_
    refine ⟨rfl, [], [.scr ns, .int j], [], rh_ground, ?_, ?_⟩
    · exact @RVs.cons ⟨fun _ => .non, H⟩ K [] H _ _ _ _ (@RV.scr ⟨fun _ => .non, H⟩ K [] H sa ns hs) (@RVs.cons ⟨fun _ => .non, H⟩ K [] H _ _ _ _ (@RV.int ⟨fun _ => .non, H⟩ K [] H j) (@RVs.nil ⟨fun _ => .non, H⟩ K [] H))
    · obtain ⟨x, y, hp, er⟩ := pot_run P cl hk ns j0 j1
      have er2 : rPot P cl k [.scr ns, .int j] [] = .ok (.ref 0) [.lst [.int x, .int y, .int 0]] := (if_pos ⟨j0, j1⟩).trans er
      rw [er2]
      intro μ' H' u e' k' rh rv
      cases rv with
      | ref ea =>
        rename_i a
        obtain ⟨a', ea', vs, hvs, rvs⟩ := @RH.obj ⟨fun _ => .non, H⟩ K GC μ' _ H' rh 0 _ rfl
        rw [ea] at ea'
        cases ea'
        refine q H' a x y hp (@RH.out ⟨fun _ => .non, H⟩ K GC μ' _ H' rh 0 a ea) (fun b u hu => @RH.wld ⟨fun _ => .non, H⟩ K GC μ' _ H' rh b u hu) ?_
        rw [hvs]
        cases rvs with
        | cons r1 rvs =>
          cases rvs with
          | cons r2 rvs =>
            cases rvs with
            | cons r3 rvs =>
              cases rvs
              cases r1; cases r2; cases r3
              rfl
end
end Mi
set_option maxHeartbeats 8000000
namespace Mi
open PySem PySem.Spec L2

/-! ## draws told ahead -/
abbrev Pot : Type := Int × Int × Int
def stepP (k : Tk) (p : Pot) (n : Int) : Pot := (takeF k p.1 p.2.1 p.2.2 n).2
def outP (k : Tk) (p : Pot) (n : Int) : Int := (takeF k p.1 p.2.1 p.2.2 n).1
/-- the pots behind one draw after another -/
def potsP (k : Tk) (p : Pot) : List (Int × Int) → List Pot
  | [] => [p]
  | d :: ds => p :: potsP k (stepP k p d.1) ds
def endP (k : Tk) (p : Pot) : List (Int × Int) → Pot
  | [] => p
  | d :: ds => endP k (stepP k p d.1) ds
def ConsD (k : Tk) (p : Pot) : List (Int × Int) → Prop
  | [] => True
  | d :: ds => (0 < d.1 ∧ d.1 < 2 ^ 62 ∧ outP k p d.1 = d.2) ∧ ConsD k (stepP k p d.1) ds
def okP (c : Nat) (p : Pot) : Prop := PotOk c p.1 p.2.1 p.2.2
theorem okP.step {k : Tk} (hk : k.Ok) {c : Nat} {p : Pot} (h : okP c p) {n : Int} (hn : 0 < n) : okP (c + 1) (stepP k p n) := (take_pot hk h hn).2
theorem PotOk.mono {c e : Nat} {x y z : Int} (h : PotOk c x y z) (q : c ≤ e) : PotOk e x y z := ⟨h.x0, h.y0, h.y1, h.z0, by have := h.z1; omega⟩
theorem cons_snoc {k : Tk} : ∀ {ds : List (Int × Int)} {p : Pot} {n d : Int}, ConsD k p ds → 0 < n → n < 2 ^ 62 → outP k (endP k p ds) n = d → ConsD k p (ds ++ [(n, d)])
  | [], p, n, d, _, h1, h2, h3 => ⟨⟨h1, h2, h3⟩, trivial⟩
  | e :: ds, p, n, d, ⟨c1, c2⟩, h1, h2, h3 => ⟨c1, cons_snoc c2 h1 h2 h3⟩
theorem end_ok {k : Tk} (hk : k.Ok) : ∀ {ds : List (Int × Int)} {p : Pot} {c : Nat}, ConsD k p ds → okP c p → okP (c + ds.length) (endP k p ds)
  | [], p, c, _, h => h
  | d :: ds, p, c, ⟨⟨c1, c2, c3⟩, c4⟩, h => by
    have := end_ok hk c4 (h.step hk c1)
    rw [List.length_cons, show c + (ds.length + 1) = c + 1 + ds.length by omega]
    exact this
theorem pots_at {k : Tk} (hk : k.Ok) : ∀ {ds : List (Int × Int)} {p : Pot} {c j : Nat} {n d : Int}, ConsD k p ds → okP c p → ds[j]? = some (n, d) →
    ∃ q : Pot, (potsP k p ds)[j]? = some q ∧ okP (c + j) q ∧ 0 < n ∧ n < 2 ^ 62 ∧ outP k q n = d ∧ (potsP k p ds)[j + 1]? = some (stepP k q n)
  | [], p, c, j, n, d, _, _, e => by simp at e
  | d :: ds, p, c, 0, n, d', ⟨⟨c1, c2, c3⟩, c4⟩, h, e => by
    simp at e
    subst e
    refine ⟨p, rfl, h, c1, c2, c3, ?_⟩
    show (potsP k (stepP k p n) ds)[0]? = _
    cases ds <;> rfl
  | d :: ds, p, c, j + 1, n, d', ⟨⟨c1, c2, c3⟩, c4⟩, h, e => by
    obtain ⟨q, q1, q2, q3⟩ := pots_at (j := j) hk c4 (h.step hk c1) (by simpa using e)
    exact ⟨q, by simpa [potsP] using q1, by rw [show c + (j + 1) = c + 1 + j by omega]; exact q2, by simpa [potsP] using q3⟩
theorem pots_end {k : Tk} : ∀ {ds : List (Int × Int)} {p : Pot}, (potsP k p ds)[ds.length]? = some (endP k p ds)
  | [], p => rfl
  | d :: ds, p => by simpa [potsP, endP] using pots_end (ds := ds)
/-- what the signs stand for -/
def thP (k : Tk) (p : Pot) (ds : List (Int × Int)) (i : Nat) : V := match (potsP k p ds)[i / 3]? with
  | some q => .int (if i % 3 = 0 then q.1 else if i % 3 = 1 then q.2.1 else q.2.2)
  | none => .int 0
theorem thP_int {k : Tk} {p : Pot} {ds : List (Int × Int)} (i : Nat) : ∃ x, thP k p ds i = .int x := by
  unfold thP
  split <;> exact ⟨_, rfl⟩
theorem thP_at {k : Tk} {p q : Pot} {ds : List (Int × Int)} {j : Nat} (h : (potsP k p ds)[j]? = some q) : thP k p ds (3 * j) = .int q.1 ∧ thP k p ds (3 * j + 1) = .int q.2.1 ∧ thP k p ds (3 * j + 2) = .int q.2.2 := by
  have e0 : 3 * j / 3 = j := by omega
  have e1 : (3 * j + 1) / 3 = j := by omega
  have e2 : (3 * j + 2) / 3 = j := by omega
  have m0 : 3 * j % 3 = 0 := by omega
  have m1 : (3 * j + 1) % 3 = 1 := by omega
  have m2 : (3 * j + 2) % 3 = 2 := by omega
  unfold thP
  rw [e0, e1, e2, h, m0, m1, m2]
  exact ⟨rfl, rfl, rfl⟩
/-- a draw, told ahead -/
def rOv (ds : List (Int × Int)) : List MV → MH → R MV := fun xs h => match xs with
  | [.ref r, .int n] => match h[r]? with
    | some (.lst [.sym a, .sym b, .sym c]) => if a % 3 = 0 ∧ b = a + 1 ∧ c = a + 2 then (match ds[a / 3]? with
      | some (n', d) => if n' = n then .ok (.int d) (h.set r (.lst [.sym (a + 3), .sym (a + 4), .sym (a + 5)])) else .wall
      | none => .wall) else .wall
    | _ => .wall
  | _ => .wall
section
variable [Th] {K : PySem.W.Frag} {GC : Gn} {μ : List Addr} {H H' : Hp} {h : MH}
/-- a list is written over, others are made -/
theorem RH.putx {n : Nat} {a : Addr} {vs : List V} {o : MO} (r : RH K GC μ h H) (ha : μ[n]? = some a) (hu : H a = some (.lst vs)) (hb : ∀ b u, b ≠ a → H b = some u → H' b = some u) (new : RO K GC μ H' a o) : RH K GC μ (h.set n o) H' ∧ Keeps K H H' := by
  have kp : Keeps K H H' := by
    refine ⟨fun b xs hs => ?_, fun b xs hs => ?_⟩
    · rcases hs with (hs | ⟨ob, hs⟩) | hs
      · exact .inl (.inl (hb b _ (fun z => by rw [z, hu] at hs; cases hs) hs))
      · exact .inl (.inr ⟨ob, hb b _ (fun z => by rw [z, hu] at hs; cases hs) hs⟩)
      · exact .inr hs
    · rcases hs with ⟨ob, hs⟩ | hs
      · exact .inl ⟨ob, hb b _ (fun z => by rw [z, hu] at hs; cases hs) hs⟩
      · exact .inr hs
  refine ⟨⟨by rw [List.length_set]; exact r.len, r.inj, fun m ob hm => ?_, fun b u e => ?_, r.out⟩, kp⟩
  · by_cases z : m = n
    · subst z
      have hl : m < h.length := by rw [← r.len]; exact (List.getElem?_eq_some_iff.mp ha).1
      rw [List.getElem?_set_self hl] at hm
      cases hm
      exact ⟨a, ha, new⟩
    · rw [List.getElem?_set_ne (Ne.symm z)] at hm
      obtain ⟨b, eb, q⟩ := r.obj m ob hm
      have nb : b ≠ a := fun e => z (r.inj m n a (e ▸ eb) ha)
      exact ⟨b, eb, q.mono (Ext.refl _) kp (fun u e => hb b u nb e) fun d fs e => hb d _ (fun y => by rw [y, hu] at e; cases e) e⟩
  · have nb : b ≠ a := fun z => by
      subst z
      rw [r.out n b ha] at e
      cases e
    exact hb b u nb (r.wld b u e)
end
section
variable {T : GT} {GC : Gn} {P : Prg} {m : Nat} {P0 : Program} {w : World} {K : PySem.W.Frag} {mg : Str → Option Value} {base : Heap}
theorem ok_takeP {CX : CXT} {kk : Nat} {f : Addr} {fd : FuncData} {ps : List Str} {k : Tk} {p : Pot} {c : Nat} {ds : List (Int × Int)} (hk : k.Ok) (F : FnOk P0 w K mg base CX kk f fd ps (spTake k)) (th : Th) (hθ : th.θ = thP k p ds) (cd : ConsD k p ds) (hp : okP c p) (hc : c + ds.length < 2 ^ 32 - 1) (hl : ps.length = 2) :
    FnOk P0 w K mg base CX kk f fd ps (@spM th K GC 2 (rOv ds)) := by
  refine ⟨fun vs H Q E h => by rw [h.1, hl], fun A outer s H args us vs Q E hr e0 hbd hv hsp => ?_⟩
  obtain ⟨hlen, μ, xs, h, rh, rvs, ct⟩ := hsp
  refine F.run A outer s H args us vs Q E hr e0 hbd hv ?_
  unfold rOv at ct
  split at ct
  · rename_i r n
    split at ct
    · rename_i a b c' eh
      split at ct
      · rename_i q
        obtain ⟨m0, rfl, rfl⟩ := q
        split at ct
        · rename_i n' d ed
          split at ct
          · rename_i en
            subst en
            obtain ⟨q, q1, q2, n0, n1, q3, q4⟩ := pots_at hk cd hp ed
            have hj : a / 3 < ds.length := (List.getElem?_eq_some_iff.mp ed).1
            have ea : a = 3 * (a / 3) := by omega
            obtain ⟨t0, t1, t2⟩ := thP_at q1
            obtain ⟨t3, t4, t5⟩ := thP_at q4
            cases rvs with
            | cons r1 rvs =>
              cases rvs with
              | cons r2 rvs =>
                cases rvs
                cases r2
                cases r1 with
                | ref er =>
                  rename_i A0
                  obtain ⟨A1, e1, vs', hvs, rr⟩ := rh.obj r _ eh
                  rw [er] at e1
                  cases e1
                  have evs : vs' = [.int q.1, .int q.2.1, .int q.2.2] := by
                    cases rr with
                    | cons s1 rr =>
                      cases rr with
                      | cons s2 rr =>
                        cases rr with
                        | cons s3 rr =>
                          cases rr
                          cases s1; cases s2; cases s3
                          have z1 : th.θ a = V.int q.1 := by rw [hθ, ea]; exact t0
                          have z2 : th.θ (a + 1) = V.int q.2.1 := by rw [hθ, ea]; exact t1
                          have z3 : th.θ (a + 2) = V.int q.2.2 := by rw [hθ, ea]; exact t2
                          rw [z1, z2, z3]
                  subst evs
                  refine ⟨A0, q.1, q.2.1, q.2.2, n', c + a / 3, rfl, hvs, q2, by omega, n0, n1, fun H' hb hA => ?_⟩
                  have z3 : th.θ (a + 3) = V.int (stepP k q n').1 := by rw [hθ, ea]; exact t3
                  have z4 : th.θ (a + 4) = V.int (stepP k q n').2.1 := by rw [hθ, ea]; exact t4
                  have z5 : th.θ (a + 5) = V.int (stepP k q n').2.2 := by rw [hθ, ea]; exact t5
                  obtain ⟨rh', kp⟩ := @RH.putx th K GC μ H H' h r A0 _ (.lst [.sym (a + 3), .sym (a + 4), .sym (a + 5)]) rh er hvs hb ⟨_, hA, by
                    refine .cons ?_ (.cons ?_ (.cons ?_ .nil))
                    · have := @RV.sym th K μ H' (a + 3); rw [z3] at this; exact this
                    · have := @RV.sym th K μ H' (a + 4); rw [z4] at this; exact this
                    · have := @RV.sym th K μ H' (a + 5); rw [z5] at this; exact this⟩
                  have := ct μ H' (.int d) (Ext.refl _) kp rh' (.int d)
                  rw [← q3] at this
                  exact this
          · exact ct.elim
        · exact ct.elim
      · exact ct.elim
    · exact ct.elim
  · exact ct.elim
end
end Mi
set_option maxHeartbeats 8000000
namespace Mi
open PySem PySem.Spec L2

/-! ## equal to itself, by a look at the small machine's heap -/
def elemB : MV → Bool
  | .non | .bl _ | .int _ | .str _ | .ref _ | .tup _ => true
  | _ => false
/-- eo: the errors' classes that are looked at; ow: the classes with their own ==, the field of theirs that holds a text -/
def selfB (eo : List Nat) (ow : List (Nat × Nat)) (v : MV) (h : MH) : Bool := match v with
  | .non | .bl _ | .int _ | .str _ => true
  | .tup xs => xs.all elemB
  | .ref n => match h[n]? with
    | some (.lst xs) => xs.all elemB
    | some (.dct kvs) => Nat.ble kvs.length 1 && kvs.all fun p => elemB p.2
    | some (.exc c _) => eo.contains c
    | some (.ins c fs) => (match ow.lookup c with
      | some f => (match fs.lookup f with | some (.str _) => true | _ => false)
      | none => false)
    | none => false
  | _ => false
section
variable [Th] {K : PySem.W.Frag} {GC : Gn} {μ : List Addr} {H : Hp} {h : MH}
theorem elemB_ok {x : MV} {v : V} (r : RV K μ H x v) (e : elemB x = true) : elemOk v := by
  cases r with
  | non => exact .inl ⟨rfl, rfl, rfl⟩
  | bl b => exact .inl ⟨rfl, by cases b <;> rfl, rfl⟩
  | int i => exact .inl ⟨rfl, by simp [eqV], rfl⟩
  | str s => exact .inl ⟨rfl, by simp [eqV], rfl⟩
  | tup _ _ => exact .inr ⟨_, rfl⟩
  | ref _ => exact .inr ⟨_, rfl⟩
  | scr _ => cases e
  | sym _ => cases e
theorem elemsB_ok : ∀ {xs : List MV} {vs : List V}, RVs K μ H xs vs → xs.all elemB = true → ∀ v ∈ vs, elemOk v
  | _, _, .nil, _ => fun v hv => by cases hv
  | _, _, .cons r t, e => fun v hv => by
    rw [List.all_cons, Bool.and_eq_true] at e
    rcases List.mem_cons.mp hv with rfl | hv
    · exact elemB_ok r e.1
    · exact elemsB_ok t e.2 v hv
/-- an instance whose own == looks at a text -/
def ownE (GC : Gn) (ow : List (Nat × Nat)) : Addr → List (Str × V) → Prop := fun C fs => ∃ (c f : Nat) (nm s : Str), ow.lookup c = some f ∧ C = GC.C c ∧ GC.NM[f]? = some nm ∧ fs.lookup nm = some (.str s)
theorem selfB_ok {eo : List Nat} {ow : List (Nat × Nat)} {v : MV} {u : V} (rh : RH K GC μ h H) (rv : RV K μ H v u) (nd : GC.NM.Nodup) (hne : ∀ c f, ow.lookup c = some f → ∃ nm, GC.NM[f]? = some nm)
    (hx : ∀ c, eo.contains c = true → PySem.W.mroIn K (GC.C c) (.type "object") = some true ∧ PySem.W.findIn K (.ref (GC.C c)) "__eq__" = some (some (.builtin "object.__eq__"))) (e : selfB eo ow v h = true) : SelfQ K (ownE GC ow) H u := by
  unfold selfB at e
  cases rv with
  | non => exact .base .non
  | bl b => exact .base (.bl b)
  | int i => exact .base (.int i)
  | str s => exact .base (.str s)
  | tup hs rs => exact .base (.tup hs (elemsB_ok rs e))
  | ref ha =>
    rename_i n a
    simp only at e
    split at e
    · rename_i xs eh
      obtain ⟨a', ea, vs, hv, rs⟩ := rh.obj n _ eh
      rw [ha] at ea
      cases ea
      exact .base (.lst hv (elemsB_ok rs e))
    · rename_i kvs eh
      obtain ⟨a', ea, kws, hv, ek, rs⟩ := rh.obj n _ eh
      rw [ha] at ea
      cases ea
      obtain ⟨e1, e2⟩ := He.ba e
      have e2' : (kvs.map (·.2)).all elemB = true := by rw [List.all_map]; exact e2
      have el := elemsB_ok rs e2'
      have hl : kws.length ≤ 1 := by
        have := congrArg List.length ek
        rw [List.length_map, List.length_map] at this
        rw [this]
        exact Nat.le_of_ble_eq_true e1
      refine .base (.dct hv fun p hp => ⟨?_, el p.2 (List.mem_map.mpr ⟨p, hp, rfl⟩)⟩)
      match kws, hl, hp with
      | [q], _, hp =>
        have : p = q := by simpa using hp
        subst this
        simp [valV]
    · rename_i c y eh
      obtain ⟨dx, vv, q1, q2, _⟩ := rh.exc ha eh
      obtain ⟨m1, m2⟩ := hx c e
      exact .base (.exc q1 q2 m1 m2)
    · rename_i c fs eh
      obtain ⟨dx, gs, q, ek, rs⟩ := rh.ins ha eh
      split at e
      · rename_i f ef
        split at e
        · rename_i s es
          obtain ⟨nm, en⟩ := hne c f ef
          rcases look_nm nd en ek rs with ⟨x', v', l1, l2, r'⟩ | ⟨l1, l2⟩
          · rw [es] at l1
            cases l1
            cases r'
            exact .own q ⟨c, f, nm, s, ef, rfl, en, l2⟩
          · rw [es] at l1; cases l1
        · cases e
      · cases e
    · cases e
  | scr _ => cases e
  | sym _ => cases e
end

/-! ## calls of which some are promised; what is thrown away behind a call -/
theorem frL_id {α β : Type} : ∀ (xs : List α) (k : List α → β), frL xs k = k xs
  | [], _ => rfl
  | x :: xs, k => frL_id xs fun ys => k (x :: ys)
def gcR (n0 : Nat) (r : R MV) : R MV := match r with
  | .ok v h => (match bndV n0 v && (Nat.ble n0 h.length && bndH n0 (h.take n0)) with
    | true => frL (h.take n0) fun h' => .ok v h'
    | false => .ok v h)
  | .ex c v h => .ex c v h
  | .wall => .wall
theorem gcR_tells (n0 : Nat) (r : R MV) : Tells n0 r (gcR n0 r) := by
  cases r with
  | ok v h =>
    show Tells n0 (.ok v h) (match bndV n0 v && (Nat.ble n0 h.length && bndH n0 (h.take n0)) with
      | true => frL (h.take n0) fun h' => R.ok v h'
      | false => R.ok v h)
    split
    · rename_i q
      rw [Bool.and_eq_true, Bool.and_eq_true] at q
      obtain ⟨q1, q2, q3⟩ := q
      have q2 := Nat.le_of_ble_eq_true q2
      have ql : (h.take n0).length = n0 := by rw [List.length_take]; omega
      rw [frL_id]
      refine .inr (.inr (.inl ⟨v, h.take n0, h.drop n0, rfl, by rw [List.take_append_drop], by rw [ql]; exact q1, by rw [ql]; exact q3, by omega⟩))
    · exact .inr (.inl rfl)
  | ex c v h => exact .inr (.inl rfl)
  | wall => exact .inr (.inl rfl)
def callV (P : Prg) (ov : Nat → Option (List MV → MH → R MV)) : Nat → CallF
  | 0 => fun f xs h => match ov f with | some r => r xs h | none => .wall
  | n + 1 => fun f xs h => match ov f with | some r => r xs h | none => match P.fns[f]? with
    | some F => if xs.length = F.np then frL xs fun xs' => gcR h.length (runFn P (callV P ov n) F xs' h) else .wall
    | none => .wall
theorem callV_none {P : Prg} {ov : Nat → Option (List MV → MH → R MV)} {k f : Nat} {F : Fn} {xs : List MV} {h : MH} (e : ov f = none) (eF : P.fns[f]? = some F) (hl : xs.length = F.np) : callV P ov (k + 1) f xs h = gcR h.length (runFn P (callV P ov k) F xs h) := by
  show (match ov f with
    | some r => r xs h
    | none => match P.fns[f]? with
      | some F => if xs.length = F.np then frL xs fun xs' => gcR h.length (runFn P (callV P ov k) F xs' h) else .wall
      | none => .wall) = _
  rw [e]
  simp only
  rw [eF]
  simp only
  rw [if_pos hl, frL_id]
section
variable [Th] {T : GT} {GC : Gn} {P : Prg} {A : Nat → Addr} {ok : Nat → Bool} {P0 : Program} {w : World} {K : PySem.W.Frag} {mg : Str → Option Value} {base : Heap}
theorem FnW.mono {j k : Nat} {F : Fn} {r : List MV → MH → R MV} {a : Addr} (h : FnW P0 w K mg base j GC F r a) (q : j ≤ k) : FnW P0 w K mg base k GC F r a := by
  obtain ⟨fd, ps, f, r⟩ := h
  exact ⟨fd, ps, f.mono q, r⟩
theorem wd_allV (t : Txt T P GC A ok K mg) {m : Nat} (h1 : 1 ≤ m) (es : EqS P0 w K mg base m) {ov : Nat → Option (List MV → MH → R MV)} (hov : ∀ f F r, ov f = some r → P.fns[f]? = some F → FnW P0 w K mg base m GC F r (A f)) :
    ∀ k, Wd T P (callV P ov k) GC (2 * k + m) P0 w K mg base
  | 0 => t.wd (by omega) (es.mono (by omega)) fun f F o eF => by
    cases e : ov f with
    | some r =>
      have : callV P ov 0 f = r := by funext xs h; unfold callV; rw [e]
      rw [this]
      exact (hov f F r e eF).mono (by omega)
    | none =>
      obtain ⟨x, qual, params, body, sc, dvs, kws, fd, N, ps, n, U, S, hb, hnp, hnl, bd, hd⟩ := t.df f F o eF
      refine ⟨fd, ps, ⟨fun vs H Q E h => by rw [← hnp]; exact h.1, fun A outer s H args us vs Q E hr he hbd hv hs => ?_⟩, hnp.symm, bd, hd⟩
      obtain ⟨_, μ, xs, h, _, _, c⟩ := hs
      unfold callV at c
      rw [e] at c
      exact False.elim c
  | k + 1 => t.wd (by omega) (es.mono (by omega)) fun f F o eF => by
    have el : 2 * (k + 1) + m = (2 * k + m) + 2 := by omega
    rw [el]
    cases e : ov f with
    | some r =>
      have : callV P ov (k + 1) f = r := by funext xs h; unfold callV; rw [e]
      rw [this]
      exact (hov f F r e eF).mono (by omega)
    | none =>
      refine (t.df f F o eF).fnW (wd_allV t h1 es hov k) fun xs h hl => ?_
      rw [callV_none (k := k) e eF hl]
      exact gcR_tells _ _
end

/-! ## all draws -/
def explore (ask : List Int → Option Nat) (good : List (Int × Int) → Bool) : Nat → List (Int × Int) → Bool
  | 0, _ => false
  | fuel + 1, ds => match ask (ds.map (·.2)) with
    | some n => Nat.blt 0 n && (Nat.blt n 100000 && (List.range n).all fun d => explore ask good fuel (ds ++ [((n : Int), (d : Int))]))
    | none => good ds
theorem explored {k : Tk} (hk : k.Ok) {ask : List Int → Option Nat} {good : List (Int × Int) → Bool} {p : Pot} {c : Nat} (hp : okP c p) : ∀ {fuel : Nat} {ds : List (Int × Int)}, explore ask good fuel ds = true → ConsD k p ds → ∃ ds', ConsD k p ds' ∧ good ds' = true ∧ ds'.length ≤ ds.length + fuel
  | 0, _, h, _ => by cases h
  | fuel + 1, ds, h, cd => by
    unfold explore at h
    split at h
    · rename_i n en
      obtain ⟨h1, h⟩ := He.ba h
      obtain ⟨h2, h3⟩ := He.ba h
      have n0 : 0 < n := Nat.le_of_ble_eq_true h1
      have n1 : n < 100000 := Nat.le_of_ble_eq_true h2
      have e := end_ok hk cd hp
      obtain ⟨⟨d0, d1⟩, _⟩ := take_pot hk (n := (n : Int)) e (by omega)
      have d0 : 0 ≤ outP k (endP k p ds) n := d0
      have d1 : outP k (endP k p ds) n < n := d1
      have hd := List.all_eq_true.mp h3 (outP k (endP k p ds) n).toNat (List.mem_range.mpr (by omega))
      have et : (((outP k (endP k p ds) n).toNat : Nat) : Int) = outP k (endP k p ds) n := Int.toNat_of_nonneg d0
      rw [et] at hd
      obtain ⟨ds', c1, c2, c3⟩ := explored hk hp hd (cons_snoc cd (by omega) (by omega) rfl)
      exact ⟨ds', c1, c2, by rw [List.length_append, List.length_singleton] at c3; omega⟩
    · exact ⟨ds, cd, h, by omega⟩
end Mi
set_option maxHeartbeats 8000000
namespace Mi
open PySem PySem.Spec L2

/-! ## a thing drawn of a pot; True of each such thing -/
/-- a value that is equal to itself; the pot stays one -/
def spThing (K : PySem.W.Frag) (E : Addr → List (Str × V) → Prop) (e : Nat) : Sp := fun vs H Q _ => ∃ (a : Addr) (p : Pot) (c : Nat), vs = [.ref a] ∧ H a = some (.lst [.int p.1, .int p.2.1, .int p.2.2]) ∧ okP c p ∧ c + e < 2 ^ 32 - 1 ∧
  ∀ (u : V) (H' : Hp) (p' : Pot), (∀ b w, b ≠ a → H b = some w → H' b = some w) → H' a = some (.lst [.int p'.1, .int p'.2.1, .int p'.2.2]) → okP (c + e) p' → SelfQ K E H' u → Q u H'
def spAnySelf (K : PySem.W.Frag) (E : Addr → List (Str × V) → Prop) : Sp := fun vs H Q _ => ∃ v, vs = [v] ∧ SelfQ K E H v ∧ ∀ H', (∀ b u, H b = some u → H' b = some u) → Q (.bl true) H'
def spLaw (K : PySem.W.Frag) : Sp := fun vs H Q _ => ∃ (a : Addr) (ns : List Int), vs = [.ref a] ∧ KLst K H a (ns.map V.int) ∧ ns.length ≤ 63 ∧ ∀ H', Q (.bl true) H'
/-- a def with what a call of it wants -/
structure Gd (P0 : Program) (w : World) (K : PySem.W.Frag) (mg : Str → Option Value) (base : Heap) (k : Nat) (x : Str) (sp : Sp) where
  f : Addr
  fd : FuncData
  ps : List Str
  ok : FnOk P0 w K mg base (L2.CX P0 w) k f fd ps sp
  mgf : mg x = some (.ref f)
  kp : PySem.W.keepIn K (.ref f) = true
  bd : Binds K fd ps []
abbrev Eno : XK := fun _ _ _ => False
theorem passN {X : Cx} {P0 : Program} {w : World} (h1 : X.prog = P0) (h2 : X.w = w) : Passes (L2.CX P0 w) X Eno := by
  subst h1 h2
  exact passes_call takes0 fun _ _ _ _ h => h
theorem klst_keep {K : PySem.W.Frag} {H H' : Hp} {s a : Addr} {vs xs : List V} (k : KLst K H s xs) (ha : H a = some (.lst vs)) (hb : ∀ b w, b ≠ a → H b = some w → H' b = some w) : KLst K H' s xs := by
  rcases k with ⟨o, k⟩ | k
  · exact .inl ⟨o, hb s _ (fun z => by rw [z, ha] at k; cases k) k⟩
  · exact .inr k
theorem klst_up {K : PySem.W.Frag} {H H' : Hp} {s : Addr} {xs : List V} (k : KLst K H s xs) (hb : ∀ b w, H b = some w → H' b = some w) : KLst K H' s xs := by
  rcases k with ⟨o, k⟩ | k
  · exact .inl ⟨o, hb s _ k⟩
  · exact .inr k
end Mi
set_option maxHeartbeats 0
namespace Mi.k00
open PySem PySem.Spec L2 Mi
def TT : GT := ⟨[(some ("_wall" : Str) : Option Str), (none : Option Str), (some ("names_of" : Str) : Option Str), (some ("is_made_of" : Str) : Option Str), (some ("is_name" : Str) : Option Str), (some ("read_figure" : Str) : Option Str), (some ("read_sized" : Str) : Option Str), (some ("rounds_of" : Str) : Option Str), (some ("read_calendars" : Str) : Option Str), (some ("read_doors" : Str) : Option Str), (some ("read_client_name" : Str) : Option Str), (some ("read_bound" : Str) : Option Str), (some ("read_span" : Str) : Option Str), (some ("read_sleeps" : Str) : Option Str), (some ("read_cells" : Str) : Option Str), (some ("read_within" : Str) : Option Str), (some ("read_user" : Str) : Option Str), (some ("read_users" : Str) : Option Str), (some ("blanks_ahead" : Str) : Option Str), (none : Option Str), (none : Option Str), (none : Option Str), (none : Option Str), (some ("split_parts" : Str) : Option Str), (some ("read_expression" : Str) : Option Str), (some ("read_call" : Str) : Option Str), (none : Option Str), (some ("read_set" : Str) : Option Str), (some ("read_worth" : Str) : Option Str), (some ("read_ask" : Str) : Option Str), (some ("read_repeat" : Str) : Option Str), (some ("read_facts" : Str) : Option Str), (none : Option Str), (none : Option Str), (none : Option Str), (none : Option Str), (none : Option Str), (some ("read_day" : Str) : Option Str), (some ("asked_doors" : Str) : Option Str), (none : Option Str), (none : Option Str), (some ("read_clients" : Str) : Option Str), (none : Option Str), (none : Option Str), (none : Option Str), (none : Option Str), (none : Option Str), (none : Option Str), (none : Option Str), (none : Option Str), (some ("_law_pot" : Str) : Option Str), (some ("_law_take" : Str) : Option Str), (some ("_law_of" : Str) : Option Str), (some ("_law_odd" : Str) : Option Str), (some ("_law_thing" : Str) : Option Str), (some ("_law_errors" : Str) : Option Str), (some ("_law_marks" : Str) : Option Str), (some ("_law_right" : Str) : Option Str), (some ("law" : Str) : Option Str)], [("UnmissedError" : Str), ("BadBook" : Str), ("BadName" : Str), ("BadDay" : Str), ("NoClient" : Str), ("LastClient" : Str), ("Unlike" : Str), ("Clash" : Str), ("TooMany" : Str), ("BadDoor" : Str), ("BadStand" : Str), ("BadState" : Str), ("BadTurn" : Str), ("BadLife" : Str), ("BadHistory" : Str), ("BadReport" : Str), ("CannotBe" : Str), ("BadPlan" : Str), ("BadOffers" : Str), ("BadTruth" : Str), ("UnlikeClients" : Str), ("BadEyes" : Str), ("NoDay" : Str), ("NothingToUndo" : Str), ("NothingToRedo" : Str), ("NoTrial" : Str), ("BadText" : Str), ("BadLines" : Str), ("BadLine" : Str), ("Page" : Str), ("Scope" : Str), ("DayReader" : Str), ("Client" : Str), ("Book" : Str)], [(("LETTERS" : Str), .str ("abcdefghijklmnopqrstuvwxyz" : Str)), (("FIGURES" : Str), .str ("0123456789" : Str)), (("LONGEST_NAME" : Str), .int 8), (("MOST_CALENDARS" : Str), .int 2), (("MOST_DOORS" : Str), .int 2), (("MOST_CLIENTS" : Str), .int 3), (("MOST_CELLS" : Str), .int 3), (("MOST_USERS" : Str), .int 2), (("MOST_ROUNDS" : Str), .int 30), (("MOST_CELL_STANDS" : Str), .int 60), (("STEP" : Str), .int 2), (("DEEPEST_expressions" : Str), .int 4), (("GREATEST_FIGURE" : Str), .int 30), (("MOST_STATEMENTS" : Str), .int 14), (("DEEPEST_statements" : Str), .int 4), (("STEPS_AHEAD" : Str), .int 1)]⟩
def vf : Nat := 44
def fn0 : Fn := ⟨1, 1, [], [(.whl (.cst (.bl true)) [.pass])]⟩ -- _wall
def fn1 : Fn := ⟨2, 2, [], [(.asg (.fld (.var 0) 44) (.var 1))]⟩ -- UnmissedError.__init__
def fn2 : Fn := ⟨1, 2, [], [(.ret (.lc .over [(.var 0)] (.name 1) [] (.ix (.var 1) (.cst (.int (0)))) [1]))]⟩ -- names_of
def fn3 : Fn := ⟨2, 3, [], [(.ret (.bi .all [(.lc .over [(.var 0)] (.name 2) [] (.cmp .isin (.var 2) (.var 1)) [2])]))]⟩ -- is_made_of
def fn4 : Fn := ⟨1, 1, [], [(.ret (.and (.chain .le .le (.cst (.int (1))) (.bi .len [(.var 0)]) (.cst (.int (8)))) (.call 3 [(.var 0), (.cst (.str ⟨#[97, 98, 99, 100, 101, 102, 103, 104, 105, 106, 107, 108, 109, 110, 111, 112, 113, 114, 115, 116, 117, 118, 119, 120, 121, 122]⟩))])))]⟩ -- is_name
def fn5 : Fn := ⟨3, 4, [], [(.ite (.or (.not (.chain .le .le (.cst (.int (1))) (.bi .len [(.var 0)]) (.cst (.int (2))))) (.not (.call 3 [(.var 0), (.cst (.str ⟨#[48, 49, 50, 51, 52, 53, 54, 55, 56, 57]⟩))]))) [(.ret (.cst .non))] []), (.asg (.name 3) (.bi .int [(.var 0)])), (.ite (.or (.cmp .ne (.bi .str [(.var 3)]) (.var 0)) (.not (.chain .le .le (.var 1) (.var 3) (.var 2)))) [(.ret (.cst .non))] []), (.ret (.var 3))]⟩ -- read_figure
def fn6 : Fn := ⟨5, 6, [], [(.ite (.or (.cmp .ne (.bi .len [(.var 0)]) (.cst (.int (3)))) (.cmp .ne (.ix (.var 0) (.cst (.int (0)))) (.var 1))) [(.ret (.cst .non))] []), (.asg (.name 5) (.call 5 [(.ix (.var 0) (.cst (.int (2)))), (.var 2), (.var 3)])), (.ite (.or (.cmp .is (.var 5) (.cst .non)) (.or (.not (.call 4 [(.ix (.var 0) (.cst (.int (1))))])) (.cmp .isin (.ix (.var 0) (.cst (.int (1)))) (.var 4)))) [(.ret (.cst .non))] []), (.ret (.tup [(.ix (.var 0) (.cst (.int (1)))), (.var 5)]))]⟩ -- read_sized
def fn7 : Fn := ⟨1, 4, [], [(.asg (.name 1) (.cst (.int (1)))), (.for .over [(.var 0)] (.tup [(.name 2), (.name 3)]) [(.expr .no)]), (.ret (.var 1))]⟩ -- rounds_of
def fn8 : Fn := ⟨1, 3, [], [(.asg (.name 1) (.lst [])), (.whl (.and (.cmp .lt (.bi .len [(.var 1)]) (.cst (.int (2)))) (.cmp .eq (.sl (.meth (.var 0) 45 [(.cst (.int (0)))]) .no (.cst (.int (1)))) (.lst [(.cst (.str ⟨#[99, 97, 108, 101, 110, 100, 97, 114]⟩))]))) [(.asg (.name 2) (.call 6 [(.meth (.var 0) 45 [(.cst (.int (0)))]), (.cst (.str ⟨#[99, 97, 108, 101, 110, 100, 97, 114]⟩)), (.cst (.int (2))), (.cst (.int (12))), (.call 2 [(.var 1)])])), (.expr (.meth (.var 0) 41 [(.and (.cmp .isnot (.var 2) (.cst .non)) (.cmp .le (.call 7 [(.bin .add (.var 1) (.lst [(.var 2)]))]) (.cst (.int (30)))))])), (.expr (.bm .append (.var 1) [(.var 2)]))]), (.ret (.bi .tuple [(.var 1)]))]⟩ -- read_calendars
def fn9 : Fn := ⟨1, 3, [], [(.asg (.name 1) (.lst [])), (.whl (.or (.not (.var 1)) (.and (.cmp .lt (.bi .len [(.var 1)]) (.cst (.int (2)))) (.cmp .eq (.sl (.meth (.var 0) 45 [(.cst (.int (0)))]) .no (.cst (.int (1)))) (.lst [(.cst (.str ⟨#[100, 111, 111, 114]⟩))])))) [(.asg (.name 2) (.call 6 [(.meth (.var 0) 45 [(.cst (.int (0)))]), (.cst (.str ⟨#[100, 111, 111, 114]⟩)), (.cst (.int (1))), (.cst (.int (3))), (.call 2 [(.var 1)])])), (.expr (.meth (.var 0) 41 [(.cmp .isnot (.var 2) (.cst .non))])), (.expr (.bm .append (.var 1) [(.var 2)]))]), (.ret (.bi .tuple [(.var 1)]))]⟩ -- read_doors
def fn10 : Fn := ⟨2, 4, [], [(.asg (.name 2) (.meth (.var 0) 45 [(.cst (.int (0)))])), (.asg (.name 3) (.and (.cmp .eq (.bi .len [(.var 2)]) (.cst (.int (2)))) (.and (.cmp .eq (.ix (.var 2) (.cst (.int (0)))) (.cst (.str ⟨#[99, 108, 105, 101, 110, 116]⟩))) (.call 4 [(.ix (.var 2) (.cst (.int (1))))])))), (.expr (.meth (.var 0) 41 [(.and (.var 3) (.and (.cmp .notin (.ix (.var 2) (.cst (.int (1)))) (.var 1)) (.cmp .lt (.bi .len [(.var 1)]) (.cst (.int (3))))))])), (.ret (.ix (.var 2) (.cst (.int (1)))))]⟩ -- read_client_name
def fn11 : Fn := ⟨4, 6, [], [(.asg (.name 4) (.meth (.var 0) 45 [(.cst (.int (1)))])), (.ite (.cmp .eq (.var 4) (.lst [(.ix (.var 1) (.cst (.int (0)))), (.cst (.str ⟨#[97, 108, 119, 97, 121, 115]⟩))])) [(.expr (.meth (.var 0) 41 [(.cst (.bl true))])), (.ret (.cst .non))] []), (.asg (.name 5) (.cst .non)), (.ite (.cmp .eq (.sl (.var 4) .no (.neg (.cst (.int (1))))) (.var 1)) [(.asg (.name 5) (.call 5 [(.ix (.var 4) (.neg (.cst (.int (1))))), (.var 2), (.var 3)]))] []), (.expr (.meth (.var 0) 41 [(.cmp .isnot (.var 5) (.cst .non))])), (.ret (.var 5))]⟩ -- read_bound
def fn12 : Fn := ⟨2, 4, [], [(.ite (.cmp .eq (.meth (.var 0) 45 [(.cst (.int (1)))]) (.lst [(.cst (.str ⟨#[111, 110, 101]⟩))])) [(.expr (.meth (.var 0) 41 [(.var 1)])), (.ret (.tup [(.cst (.int (0))), (.cst .non), (.cst (.bl true))]))] []), (.asg (.name 2) (.call 11 [(.var 0), (.lst [(.cst (.str ⟨#[98, 101, 103, 105, 110, 115]⟩)), (.cst (.str ⟨#[117, 110, 116, 105, 108]⟩))]), (.cst (.int (0))), (.cst (.int (12)))])), (.asg (.name 3) (.call 11 [(.var 0), (.lst [(.cst (.str ⟨#[108, 105, 118, 101, 115]⟩))]), (.cst (.int (1))), (.cst (.int (12)))])), (.ret (.tup [(.var 2), (.var 3), (.cst (.bl false))]))]⟩ -- read_span
def fn13 : Fn := ⟨1, 1, [], [(.ret (.call 11 [(.var 0), (.lst [(.cst (.str ⟨#[115, 108, 101, 101, 112, 115]⟩))]), (.cst (.int (0))), (.cst (.int (3)))]))]⟩ -- read_sleeps
def fn14 : Fn := ⟨2, 5, [], [(.asg (.name 2) (.lst [])), (.asg (.name 3) (.cst (.int (1)))), (.whl (.and (.cmp .lt (.bi .len [(.var 2)]) (.cst (.int (3)))) (.cmp .eq (.sl (.meth (.var 0) 45 [(.cst (.int (1)))]) .no (.cst (.int (1)))) (.lst [(.cst (.str ⟨#[99, 101, 108, 108]⟩))]))) [(.asg (.name 4) (.call 6 [(.meth (.var 0) 45 [(.cst (.int (1)))]), (.cst (.str ⟨#[99, 101, 108, 108]⟩)), (.cst (.int (2))), (.cst (.int (30))), (.bin .add (.var 1) (.call 2 [(.var 2)]))])), (.expr (.meth (.var 0) 41 [(.and (.cmp .isnot (.var 4) (.cst .non)) (.cmp .le (.bin .mul (.var 3) (.ix (.var 4) (.cst (.int (1))))) (.cst (.int (60)))))])), (.asg (.name 3) (.bin .mul (.var 3) (.ix (.var 4) (.cst (.int (1)))))), (.expr (.bm .append (.var 2) [(.var 4)]))]), (.ret (.bi .tuple [(.var 2)]))]⟩ -- read_cells
def fn15 : Fn := ⟨1, 1, [], [(.ite (.or (.cmp .ne (.bi .len [(.var 0)]) (.cst (.int (2)))) (.cmp .ne (.ix (.var 0) (.cst (.int (0)))) (.cst (.str ⟨#[119, 105, 116, 104, 105, 110]⟩)))) [(.ret (.cst .non))] []), (.ret (.call 5 [(.ix (.var 0) (.cst (.int (1)))), (.cst (.int (1))), (.cst (.int (4)))]))]⟩ -- read_within
def fn16 : Fn := ⟨2, 4, [], [(.asg (.name 2) (.call 6 [(.sl (.var 0) .no (.cst (.int (3)))), (.cst (.str ⟨#[117, 115, 101, 114]⟩)), (.cst (.int (2))), (.cst (.int (3))), (.var 1)])), (.asg (.name 3) (.cst (.int (0)))), (.ite (.cmp .ne (.bi .len [(.var 0)]) (.cst (.int (3)))) [(.asg (.name 3) (.call 15 [(.sl (.var 0) (.cst (.int (3))) .no)]))] []), (.ite (.or (.cmp .is (.var 2) (.cst .non)) (.cmp .is (.var 3) (.cst .non))) [(.ret (.cst .non))] []), (.ret (.bin .add (.var 2) (.tup [(.var 3)])))]⟩ -- read_user
def fn17 : Fn := ⟨2, 4, [], [(.asg (.name 2) (.lst [])), (.whl (.and (.cmp .lt (.bi .len [(.var 2)]) (.cst (.int (2)))) (.cmp .eq (.sl (.meth (.var 0) 45 [(.cst (.int (1)))]) .no (.cst (.int (1)))) (.lst [(.cst (.str ⟨#[117, 115, 101, 114]⟩))]))) [(.asg (.name 3) (.call 16 [(.meth (.var 0) 45 [(.cst (.int (1)))]), (.bin .add (.var 1) (.call 2 [(.var 2)]))])), (.expr (.meth (.var 0) 41 [(.cmp .isnot (.var 3) (.cst .non))])), (.expr (.bm .append (.var 2) [(.var 3)]))]), (.ret (.bi .tuple [(.var 2)]))]⟩ -- read_users
def fn18 : Fn := ⟨1, 1, [], [(.ret (.bin .sub (.bi .len [(.var 0)]) (.bi .len [(.bm .lstrip (.var 0) [(.cst (.str ⟨#[32]⟩))])])))]⟩ -- blanks_ahead
def fn19 : Fn := ⟨2, 2, [], [(.asg (.fld (.var 0) 23) (.bm .split (.var 1) [(.cst (.str ⟨#[10]⟩))])), (.asg (.fld (.var 0) 9) (.cst (.int (0))))]⟩ -- Page.__init__
def fn20 : Fn := ⟨1, 1, [], [(.ret (.cmp .eq (.fld (.var 0) 9) (.bi .len [(.fld (.var 0) 23)])))]⟩ -- Page.is_done
def fn21 : Fn := ⟨2, 2, [], [(.ite (.or (.meth (.var 0) 20 []) (.cmp .ne (.call 18 [(.ix (.fld (.var 0) 23) (.fld (.var 0) 9))]) (.bin .mul (.var 1) (.cst (.int (2)))))) [(.ret (.lst []))] []), (.ret (.bm .split (.bm .lstrip (.ix (.fld (.var 0) 23) (.fld (.var 0) 9)) [(.cst (.str ⟨#[32]⟩))]) [(.cst (.str ⟨#[32]⟩))]))]⟩ -- Page.words
def fn22 : Fn := ⟨2, 2, [], [(.ite (.not (.var 1)) [(.raise 1 (.bin .add (.fld (.var 0) 9) (.cst (.int (1)))))] []), (.augf (.var 0) 9 .add (.cst (.int (1))))]⟩ -- Page.take
def fn23 : Fn := ⟨1, 5, [], [(.asg (.name 1) (.lst [])), (.asg (.name 2) (.lst [])), (.for .over [(.bm .split (.var 0) [(.cst (.str ⟨#[44, 32]⟩))])] (.name 3) [(.expr (.bm .append (.var 2) [(.var 3)])), (.asg (.name 4) (.bm .join (.cst (.str ⟨#[44, 32]⟩)) [(.var 2)])), (.ite (.cmp .le (.bm .count (.var 4) [(.cst (.str ⟨#[40]⟩))]) (.bm .count (.var 4) [(.cst (.str ⟨#[41]⟩))])) [(.expr (.bm .append (.var 1) [(.var 4)])), (.asg (.name 2) (.lst []))] [])]), (.ite (.var 2) [(.expr (.bm .append (.var 1) [(.bm .join (.cst (.str ⟨#[44, 32]⟩)) [(.var 2)])]))] []), (.ret (.var 1))]⟩ -- split_parts
def fn24 : Fn := ⟨3, 4, [.int 4], [(.ite (.cmp .isin (.var 0) (.var 1)) [(.ret (.ix (.var 1) (.var 0)))] []), (.asg (.name 3) (.call 5 [(.var 0), (.cst (.int (0))), (.cst (.int (30)))])), (.ite (.cmp .isnot (.var 3) (.cst .non)) [(.ret (.tup [(.cst (.str ⟨#[102, 105, 103, 117, 114, 101]⟩)), (.var 3)]))] []), (.ite (.cmp .eq (.var 2) (.cst (.int (1)))) [(.ret (.cst .non))] []), (.ret (.call 25 [(.var 0), (.var 1), (.bin .sub (.var 2) (.cst (.int (1))))]))]⟩ -- read_expression
def fn25 : Fn := ⟨3, 9, [], [(.asg (.tup [(.name 3), (.name 4), (.name 5)]) (.bm .partition (.var 0) [(.cst (.str ⟨#[40]⟩))])), (.expr .no), (.asg (.name 6) (.call 23 [(.sl (.var 5) .no (.neg (.cst (.int (1)))))])), (.expr .no), (.asg (.name 7) (.lc .over [(.var 6)] (.name 8) [] (.call 24 [(.var 8), (.var 1), (.var 2)]) [8])), (.ite (.cmp .isin (.cst .non) (.var 7)) [(.ret (.cst .non))] []), (.expr .no)]⟩ -- read_call
def fn26 : Fn := ⟨4, 6, [], [(.asg (.fld (.var 0) 17) (.call 2 [(.fld (.var 1) 17)])), (.asg (.fld (.var 0) 13) (.dc .enum [(.var 2)] (.tup [(.name 4), (.name 5)]) (.ix (.var 5) (.cst (.int (0)))) (.var 4) [4, 5])), (.asg (.fld (.var 0) 29) (.dc .over [(.fld (.var 1) 12)] (.name 5) (.ix (.var 5) (.cst (.int (0)))) (.tup [(.cst (.str ⟨#[99, 97, 108, 101, 110, 100, 97, 114]⟩)), (.ix (.var 5) (.cst (.int (1))))]) [5])), (.for .enum [(.var 2)] (.tup [(.name 4), (.name 5)]) [(.asg (.ix (.fld (.var 0) 29) (.ix (.var 5) (.cst (.int (0))))) (.tup [(.cst (.str ⟨#[99, 101, 108, 108]⟩)), (.var 4)]))]), (.for .enum [(.var 3)] (.tup [(.name 4), (.name 5)]) [(.asg (.ix (.fld (.var 0) 29) (.ix (.var 5) (.cst (.int (0))))) (.tup [(.cst (.str ⟨#[117, 115, 101, 114]⟩)), (.var 4)]))])]⟩ -- Scope.__init__
def fn27 : Fn := ⟨2, 3, [], [(.ite (.or (.not (.var 0)) (.cmp .notin (.ix (.var 0) (.cst (.int (0)))) (.fld (.var 1) 13))) [(.ret (.cst .non))] []), (.asg (.name 2) (.call 24 [(.bm .join (.cst (.str ⟨#[32]⟩)) [(.sl (.var 0) (.cst (.int (1))) .no)]), (.fld (.var 1) 29)])), (.ite (.cmp .is (.var 2) (.cst .non)) [(.ret (.cst .non))] []), (.ret (.tup [(.ix (.fld (.var 1) 13) (.ix (.var 0) (.cst (.int (0))))), (.var 2)]))]⟩ -- read_set
def fn28 : Fn := ⟨2, 3, [], [(.asg (.name 2) (.call 24 [(.bm .join (.cst (.str ⟨#[32]⟩)) [(.var 0)]), (.fld (.var 1) 29)])), (.ite (.cmp .is (.var 2) (.cst .non)) [(.ret (.cst .non))] []), (.ret (.tup [(.var 2)]))]⟩ -- read_worth
def fn29 : Fn := ⟨2, 2, [], [(.ite (.or (.not (.var 0)) (.cmp .notin (.ix (.var 0) (.cst (.int (0)))) (.fld (.var 1) 17))) [(.ret (.cst .non))] []), (.ite (.cmp .eq (.bi .len [(.var 0)]) (.cst (.int (1)))) [(.ret (.tup [(.ix (.var 0) (.cst (.int (0)))), (.cst .non)]))] []), (.ite (.or (.cmp .gt (.bi .len [(.var 0)]) (.cst (.int (2)))) (.cmp .notin (.ix (.var 0) (.cst (.int (1)))) (.fld (.var 1) 13))) [(.ret (.cst .non))] []), (.ret (.tup [(.ix (.var 0) (.cst (.int (0)))), (.ix (.fld (.var 1) 13) (.ix (.var 0) (.cst (.int (1)))))]))]⟩ -- read_ask
def fn30 : Fn := ⟨1, 2, [], [(.asg (.name 1) (.call 5 [(.bm .join (.cst (.str ⟨#[32]⟩)) [(.var 0)]), (.cst (.int (2))), (.cst (.int (3)))])), (.ite (.cmp .is (.var 1) (.cst .non)) [(.ret (.cst .non))] []), (.ret (.tup [(.var 1)]))]⟩ -- read_repeat
def fn31 : Fn := ⟨2, 3, [], [(.asg (.name 2) (.ix (.var 0) (.cst (.int (0))))), (.ite (.cmp .eq (.var 2) (.cst (.str ⟨#[115, 101, 116]⟩))) [(.ret (.call 27 [(.sl (.var 0) (.cst (.int (1))) .no), (.var 1)]))] []), (.ite (.cmp .isin (.var 2) (.tup [(.cst (.str ⟨#[116, 101, 108, 108]⟩)), (.cst (.str ⟨#[105, 102]⟩))])) [(.ret (.call 28 [(.sl (.var 0) (.cst (.int (1))) .no), (.var 1)]))] []), (.ite (.cmp .eq (.var 2) (.cst (.str ⟨#[97, 115, 107]⟩))) [(.ret (.call 29 [(.sl (.var 0) (.cst (.int (1))) .no), (.var 1)]))] []), (.ite (.cmp .eq (.var 2) (.cst (.str ⟨#[114, 101, 112, 101, 97, 116]⟩))) [(.ret (.call 30 [(.sl (.var 0) (.cst (.int (1))) .no)]))] []), (.ite (.cmp .isin (.var 0) (.tup [(.lst [(.cst (.str ⟨#[99, 114, 121]⟩))]), (.lst [(.cst (.str ⟨#[115, 116, 111, 112]⟩))]), (.lst [(.cst (.str ⟨#[114, 101, 115, 116]⟩))])])) [(.ret (.tup []))] []), (.ret (.cst .non))]⟩ -- read_facts
def fn32 : Fn := ⟨3, 3, [], [(.asg (.fld (.var 0) 30) (.var 1)), (.asg (.fld (.var 0) 37) (.var 2)), (.asg (.fld (.var 0) 26) (.cst (.int (0))))]⟩ -- DayReader.__init__
def fn33 : Fn := ⟨2, 3, [], [(.asg (.name 2) (.lst [(.meth (.var 0) 35 [(.var 1)])])), (.whl (.meth (.fld (.var 0) 30) 45 [(.bin .add (.var 1) (.cst (.int (1))))]) [(.expr (.bm .append (.var 2) [(.meth (.var 0) 35 [(.var 1)])]))]), (.ret (.bi .tuple [(.var 2)]))]⟩ -- DayReader.read_block
def fn34 : Fn := ⟨2, 4, [], [(.asg (.name 2) (.meth (.fld (.var 0) 30) 45 [(.bin .add (.var 1) (.cst (.int (1))))])), (.asg (.name 3) (.cst .non)), (.ite (.and (.var 2) (.and (.cmp .le (.var 1) (.cst (.int (4)))) (.cmp .lt (.fld (.var 0) 26) (.cst (.int (14)))))) [(.asg (.name 3) (.call 31 [(.var 2), (.fld (.var 0) 37)]))] []), (.expr (.meth (.fld (.var 0) 30) 41 [(.cmp .isnot (.var 3) (.cst .non))])), (.augf (.var 0) 26 .add (.cst (.int (1)))), (.ret (.tup [(.ix (.var 2) (.cst (.int (0)))), (.var 3), (.meth (.var 0) 33 [(.ix (.var 2) (.cst (.int (0)))), (.var 1)])]))]⟩ -- DayReader.read_statement
def fn35 : Fn := ⟨3, 4, [], [(.ite (.cmp .eq (.var 1) (.cst (.str ⟨#[105, 102]⟩))) [(.asg (.name 3) (.meth (.var 0) 32 [(.bin .add (.var 2) (.cst (.int (1))))])), (.ret (.tup [(.var 3), (.meth (.var 0) 34 [(.var 2)])]))] []), (.ite (.cmp .eq (.var 1) (.cst (.str ⟨#[97, 115, 107]⟩))) [(.ret (.tup [(.meth (.var 0) 34 [(.var 2)])]))] []), (.ite (.cmp .eq (.var 1) (.cst (.str ⟨#[114, 101, 112, 101, 97, 116]⟩))) [(.ret (.tup [(.meth (.var 0) 32 [(.bin .add (.var 2) (.cst (.int (1))))])]))] []), (.ret (.tup []))]⟩ -- DayReader.read_blocks
def fn36 : Fn := ⟨2, 2, [], [(.ite (.cmp .ne (.meth (.fld (.var 0) 30) 45 [(.bin .add (.var 1) (.cst (.int (1))))]) (.lst [(.cst (.str ⟨#[101, 108, 115, 101]⟩))])) [(.ret (.tup []))] []), (.expr (.meth (.fld (.var 0) 30) 41 [(.cst (.bl true))])), (.ret (.meth (.var 0) 32 [(.bin .add (.var 1) (.cst (.int (1))))]))]⟩ -- DayReader.read_else
def fn37 : Fn := ⟨2, 3, [], [(.expr (.meth (.var 0) 41 [(.cmp .eq (.meth (.var 0) 45 [(.cst (.int (1)))]) (.lst [(.cst (.str ⟨#[100, 97, 121]⟩))]))])), (.asg (.name 2) (.make 31 [(.var 0), (.var 1)])), (.ret (.meth (.var 2) 32 [(.cst (.int (1)))]))]⟩ -- read_day
def fn38 : Fn := ⟨1, 6, [], [(.asg (.name 1) (.lst [])), (.for .over [(.var 0)] (.tup [(.name 2), (.name 3), (.name 4)]) [(.ite (.cmp .eq (.var 2) (.cst (.str ⟨#[97, 115, 107]⟩))) [(.expr (.bm .append (.var 1) [(.ix (.var 3) (.cst (.int (0))))]))] []), (.for .over [(.var 4)] (.name 5) [(.expr (.bm .extend (.var 1) [(.call 38 [(.var 5)])]))])]), (.ret (.var 1))]⟩ -- asked_doors
def fn39 : Fn := ⟨4, 8, [], [(.asg (.name 4) (.fld (.var 2) 9)), (.asg (.name 5) (.call 2 [(.fld (.var 1) 12)])), (.asg (.name 6) (.bi .any [(.lc .over [(.var 3)] (.name 7) [] (.fld (.var 7) 21) [7])])), (.asg (.fld (.var 0) 11) (.var 1)), (.asg (.fld (.var 0) 28) (.call 10 [(.var 2), (.lc .over [(.var 3)] (.name 7) [] (.fld (.var 7) 28) [7])])), (.asg (.tup [(.fld (.var 0) 10), (.fld (.var 0) 24), (.fld (.var 0) 21)]) (.call 12 [(.var 2), (.not (.var 6))])), (.asg (.fld (.var 0) 39) (.call 13 [(.var 2)])), (.asg (.fld (.var 0) 13) (.call 14 [(.var 2), (.var 5)])), (.asg (.fld (.var 0) 43) (.call 17 [(.var 2), (.bin .add (.var 5) (.call 2 [(.fld (.var 0) 13)]))])), (.asg (.fld (.var 0) 16) (.call 37 [(.var 2), (.make 30 [(.var 1), (.fld (.var 0) 13), (.fld (.var 0) 43)])])), (.asg (.fld (.var 0) 8) (.bi .tuple [(.sset (.call 38 [(.fld (.var 0) 16)]))])), (.asg (.fld (.var 0) 42) (.bm .join (.cst (.str ⟨#[10]⟩)) [(.sl (.fld (.var 2) 23) (.var 4) (.fld (.var 2) 9))]))]⟩ -- Client.__init__
def fn40 : Fn := ⟨2, 2, [], [(.ret (.and (.isi (.var 1) (.own 32)) (.and (.cmp .eq (.fld (.var 0) 11) (.fld (.var 1) 11)) (.cmp .eq (.fld (.var 0) 28) (.fld (.var 1) 28)))))]⟩ -- Client.__eq__
def fn41 : Fn := ⟨2, 3, [], [(.asg (.name 2) (.lst [])), (.whl (.or (.not (.var 2)) (.not (.meth (.var 0) 20 []))) [(.expr (.bm .append (.var 2) [(.make 32 [(.var 1), (.var 0), (.var 2)])]))]), (.ret (.var 2))]⟩ -- read_clients
def fn42 : Fn := ⟨2, 5, [], [(.ite (.not (.isi (.var 1) (.ty "str"))) [(.raise 1 (.cst (.int (0))))] []), (.asg (.name 2) (.make 29 [(.var 1)])), (.asg (.fld (.var 0) 42) (.var 1)), (.asg (.fld (.var 0) 12) (.call 8 [(.var 2)])), (.asg (.fld (.var 0) 17) (.call 9 [(.var 2)])), (.asg (.fld (.var 0) 36) (.call 7 [(.fld (.var 0) 12)])), (.asg (.name 3) (.call 41 [(.var 2), (.var 0)])), (.asg (.fld (.var 0) 14) (.bi .tuple [(.lc .over [(.var 3)] (.name 4) [] (.fld (.var 4) 28) [4])])), (.asg (.fld (.var 0) 38) (.maxd (.lc .over [(.var 3)] (.name 4) [(.cmp .isnot (.fld (.var 4) 10) (.cst .non))] (.bin .add (.fld (.var 4) 10) (.cst (.int (1)))) [4]) (.cst (.int (0))))), (.asg (.fld (.var 0) 6) (.dc .over [(.var 3)] (.name 4) (.fld (.var 4) 28) (.var 4) [4]))]⟩ -- Book.__init__
def fn43 : Fn := ⟨3, 3, [], [(.expr (.call 0 [(.cst (.int (0)))]))]⟩ -- Book.worth
def fn44 : Fn := ⟨2, 2, [], [(.expr (.call 0 [(.cst (.int (1)))]))]⟩ -- Book.moment
def fn45 : Fn := ⟨2, 2, [], [(.ret (.and (.isi (.var 1) (.own 33)) (.cmp .eq (.fld (.var 0) 42) (.fld (.var 1) 42))))]⟩ -- Book.__eq__
def fn46 : Fn := ⟨1, 1, [], [(.ret (.bi .len [(.fld (.var 0) 14)]))]⟩ -- Book.__len__
def fn47 : Fn := ⟨2, 2, [], [(.ret (.cmp .isin (.var 1) (.fld (.var 0) 14)))]⟩ -- Book.__contains__
def fn48 : Fn := ⟨2, 2, [], [(.ite (.cmp .notin (.var 1) (.fld (.var 0) 14)) [(.raise 4 (.var 1))] []), (.ret (.ix (.fld (.var 0) 6) (.var 1)))]⟩ -- Book.__getitem__
def fn49 : Fn := ⟨1, 1, [], [(.expr .no)]⟩ -- Book.__iter__
def fn50 : Fn := ⟨2, 4, [], [(.asg (.name 2) (.ite (.cmp .lt (.var 1) (.bi .len [(.var 0)])) (.ix (.var 0) (.var 1)) (.bin .add (.bin .mul (.cst (.int (41))) (.var 1)) (.cst (.int (13)))))), (.asg (.name 3) (.bin .mul (.bin .mod (.bi .int [(.bi .abs [(.var 2)])]) (.bin .pow (.bin .pow (.cst (.int (10))) (.cst (.int (60)))) (.cst (.int (5))))) (.bi .int [(.cmp .ge (.bi .abs [(.var 2)]) (.bin .pow (.cst (.int (10))) (.cst (.int (18)))))]))), (.ret (.lst [(.var 3), (.bin .mod (.bi .int [(.bin .add (.bin .add (.bin .mul (.bin .mod (.bi .int [(.var 2)]) (.cst (.int (2305843009213693951)))) (.cst (.int (60013)))) (.bin .mul (.bin .mul (.cst (.int (4801))) (.var 1)) (.var 1))) (.cst (.int (31))))]) (.cst (.int (2305843009213693921)))), (.cst (.int (0)))]))]⟩ -- _law_pot
def fn51 : Fn := ⟨2, 5, [], [(.ite (.cmp .gt (.ix (.var 0) (.cst (.int (0)))) (.cst (.int (0)))) [(.asg (.name 2) (.bin .mod (.bi .int [(.ix (.var 0) (.cst (.int (0))))]) (.var 1))), (.asg (.ix (.var 0) (.cst (.int (0)))) (.bin .fdiv (.ix (.var 0) (.cst (.int (0)))) (.var 1))), (.ret (.var 2))] []), (.asg (.ix (.var 0) (.cst (.int (2)))) (.bin .add (.ix (.var 0) (.cst (.int (2)))) (.cst (.int (1))))), (.asg (.name 3) (.ix (.lst [(.cst (.int (2147483647))), (.cst (.int (2147483629))), (.cst (.int (2147483587))), (.cst (.int (2147483579))), (.cst (.int (2147483563)))]) (.bin .mod (.bi .int [(.ix (.var 0) (.cst (.int (2))))]) (.cst (.int (5)))))), (.asg (.name 4) (.bin .mod (.bi .int [(.bin .pow (.bi .int [(.bin .add (.bin .add (.ix (.var 0) (.cst (.int (1)))) (.bin .mul (.bin .mul (.cst (.int (70001))) (.ix (.var 0) (.cst (.int (2))))) (.ix (.var 0) (.cst (.int (2)))))) (.cst (.int (47))))]) (.cst (.int (3))))]) (.var 3))), (.ret (.bin .mod (.bi .int [(.bin .fdiv (.bin .mul (.var 4) (.bin .add (.bin .mod (.bi .int [(.var 4)]) (.cst (.int (10037)))) (.bin .mul (.cst (.int (61))) (.ix (.var 0) (.cst (.int (2))))))) (.cst (.int (101))))]) (.var 1)))]⟩ -- _law_take
def fn52 : Fn := ⟨2, 2, [], [(.ret (.ix (.var 1) (.call 51 [(.var 0), (.bi .len [(.var 1)])])))]⟩ -- _law_of
def fn53 : Fn := ⟨1, 2, [], [(.asg (.name 1) (.lst [(.cst .non), (.cst (.bl true)), (.cst (.bl false)), (.neg (.cst (.int (1)))), (.cst (.int (1000))), (.bin .pow (.cst (.int (10))) (.cst (.int (12)))), (.cst (.str ⟨#[]⟩)), (.cst (.str ⟨#[65]⟩)), (.cst (.str ⟨#[97, 32, 98]⟩)), (.cst (.str ⟨#[97, 98, 99, 100, 101, 102, 103, 104, 105]⟩)), (.tup []), (.tup [(.cst (.str ⟨#[97]⟩))]), (.lst []), (.lst [(.cst (.str ⟨#[97]⟩))]), (.dsp [] []), (.dsp [(.inr ⟨#[97]⟩)] [(.cst (.int (1)))])])), (.ret (.call 52 [(.var 0), (.bin .add (.var 1) (.lst [(.tup [(.cst .non)]), (.cst (.str ⟨#[42]⟩)), (.tup [(.tup [])]), (.cst (.str ⟨#[100, 97, 121, 32, 49]⟩))]))]))]⟩ -- _law_odd
def fn54 : Fn := ⟨1, 2, [], [(.ite (.cmp .eq (.call 51 [(.var 0), (.cst (.int (3)))]) (.cst (.int (0)))) [(.asg (.name 1) (.make 33 [(.cst (.str ⟨#[100, 111, 111, 114, 32, 97, 32, 49, 10, 99, 108, 105, 101, 110, 116, 32, 98, 10, 32, 32, 111, 110, 101, 10, 32, 32, 115, 108, 101, 101, 112, 115, 32, 48, 10, 32, 32, 100, 97, 121, 10, 32, 32, 32, 32, 114, 101, 115, 116]⟩))])), (.ret (.call 52 [(.var 0), (.lst [(.var 1), (.mke 22 (.cst (.int (0)))), (.mke 0 (.cst (.str ⟨#[97]⟩))), (.lst [(.var 1)])])]))] []), (.ret (.ite (.cmp .eq (.call 51 [(.var 0), (.cst (.int (2)))]) (.cst (.int (0)))) (.tup [(.call 53 [(.var 0)]), (.lst [(.call 53 [(.var 0)])])]) (.call 53 [(.var 0)])))]⟩ -- _law_thing
def fn55 : Fn := ⟨1, 2, [], [(.asg (.name 1) (.lst [(.mke 1 (.var 0)), (.mke 3 (.var 0)), (.mke 9 (.var 0)), (.mke 21 (.var 0)), (.mke 14 (.var 0)), (.mke 13 (.var 0))])), (.asg (.name 1) (.bin .add (.var 1) (.lst [(.mke 28 (.var 0)), (.mke 27 (.var 0)), (.mke 2 (.var 0)), (.mke 18 (.var 0)), (.mke 17 (.var 0)), (.mke 15 (.var 0))]))), (.asg (.name 1) (.bin .add (.var 1) (.lst [(.mke 10 (.var 0)), (.mke 11 (.var 0)), (.mke 26 (.var 0)), (.mke 19 (.var 0)), (.mke 12 (.var 0)), (.mke 16 (.var 0))]))), (.asg (.name 1) (.bin .add (.var 1) (.lst [(.mke 7 (.var 0)), (.mke 5 (.var 0)), (.mke 4 (.var 0)), (.mke 22 (.var 0)), (.mke 24 (.var 0))]))), (.asg (.name 1) (.bin .add (.var 1) (.lst [(.mke 23 (.var 0)), (.mke 25 (.var 0)), (.mke 8 (.var 0)), (.mke 6 (.var 0)), (.mke 20 (.var 0))]))), (.ret (.var 1))]⟩ -- _law_errors
def fn56 : Fn := ⟨1, 2, [], [(.asg (.name 1) (.lst [(.isi (.var 0) (.own 1)), (.isi (.var 0) (.own 3)), (.isi (.var 0) (.own 9))])), (.asg (.name 1) (.bin .add (.var 1) (.lst [(.isi (.var 0) (.own 21)), (.isi (.var 0) (.own 14)), (.isi (.var 0) (.own 13))]))), (.asg (.name 1) (.bin .add (.var 1) (.lst [(.isi (.var 0) (.own 28)), (.isi (.var 0) (.own 27)), (.isi (.var 0) (.own 2))]))), (.asg (.name 1) (.bin .add (.var 1) (.lst [(.isi (.var 0) (.own 18)), (.isi (.var 0) (.own 17)), (.isi (.var 0) (.own 15))]))), (.asg (.name 1) (.bin .add (.var 1) (.lst [(.isi (.var 0) (.own 10)), (.isi (.var 0) (.own 11)), (.isi (.var 0) (.own 26))]))), (.asg (.name 1) (.bin .add (.var 1) (.lst [(.isi (.var 0) (.own 19)), (.isi (.var 0) (.own 12)), (.isi (.var 0) (.own 16))]))), (.asg (.name 1) (.bin .add (.var 1) (.lst [(.isi (.var 0) (.own 7)), (.isi (.var 0) (.own 5)), (.isi (.var 0) (.own 4))]))), (.asg (.name 1) (.bin .add (.var 1) (.lst [(.isi (.var 0) (.own 22)), (.isi (.var 0) (.own 24)), (.isi (.var 0) (.own 23))]))), (.asg (.name 1) (.bin .add (.var 1) (.lst [(.isi (.var 0) (.own 25)), (.isi (.var 0) (.own 8)), (.isi (.var 0) (.own 6))]))), (.ret (.bin .add (.var 1) (.lst [(.isi (.var 0) (.own 20))])))]⟩ -- _law_marks
def fn57 : Fn := ⟨1, 5, [], [(.for .enum [(.call 55 [(.var 0)])] (.tup [(.name 1), (.name 2)]) [(.ite (.or (.not (.cmp .eq (.fld (.var 2) 44) (.var 0))) (.cmp .ne (.call 56 [(.var 2)]) (.lc .rng1 [(.cst (.int (28)))] (.name 3) [] (.cmp .eq (.var 1) (.var 3)) [3]))) [(.ret (.cst (.bl false)))] []), (.ite (.or (.not (.isi (.var 2) (.own 0))) (.not (.isi (.var 2) (.ty "ValueError")))) [(.ret (.cst (.bl false)))] [])]), (.asg (.name 4) (.mke 0 (.var 0))), (.ret (.and (.cmp .eq (.fld (.var 4) 44) (.var 0)) (.and (.isi (.var 4) (.ty "ValueError")) (.not (.bi .any [(.call 56 [(.var 4)])])))))]⟩ -- _law_right
def fn58 : Fn := ⟨1, 4, [], [(.for .rng1 [(.bi .max2 [(.cst (.int (1))), (.bi .min2 [(.cst (.int (4))), (.bi .len [(.var 0)])])])] (.name 1) [(.asg (.name 2) (.call 50 [(.var 0), (.var 1)])), (.ite (.not (.bi .all [(.lc .rng1 [(.cst (.int (3)))] (.name 3) [] (.call 57 [(.call 54 [(.var 2)])]) [3])])) [(.ret (.cst (.bl false)))] [])]), (.ret (.cst (.bl true)))]⟩ -- law
def P : Prg := ⟨[fn0, fn1, fn2, fn3, fn4, fn5, fn6, fn7, fn8, fn9, fn10, fn11, fn12, fn13, fn14, fn15, fn16, fn17, fn18, fn19, fn20, fn21, fn22, fn23, fn24, fn25, fn26, fn27, fn28, fn29, fn30, fn31, fn32, fn33, fn34, fn35, fn36, fn37, fn38, fn39, fn40, fn41, fn42, fn43, fn44, fn45, fn46, fn47, fn48, fn49, fn50, fn51, fn52, fn53, fn54, fn55, fn56, fn57, fn58], clss, isaT, vf⟩
def tb : Tb := ⟨TT, NM, P, ds, tyI, tyC, fun f => Nat.blt f 59⟩
theorem h0 [Th] : DStat tb fn0 d0 := by
  refine ⟨[("k" : Str)], [("k" : Str)], 60, scopeB_ok (by decide +kernel), by kernel_rfl, rfl, rfl, fun K f fd U => ?_⟩
  have b : Binds K fd [("k" : Str)] [] := U.bindsN fun _ _ _ _ _ _ us hl => match us, hl with | [_], _ => rfl
  exact ⟨b, [], [], b, .nil, fun _ _ => .nil⟩
theorem h1 [Th] : DStat tb fn1 d1 := by
  refine ⟨[("self" : Str), ("value" : Str)], [("self" : Str), ("value" : Str)], 60, scopeB_ok (by decide +kernel), by kernel_rfl, rfl, rfl, fun K f fd U => ?_⟩
  have b : Binds K fd [("self" : Str), ("value" : Str)] [] := U.bindsN fun _ _ _ _ _ _ us hl => match us, hl with | [_, _], _ => rfl
  exact ⟨b, [], [], b, .nil, fun _ _ => .nil⟩
theorem h2 [Th] : DStat tb fn2 d2 := by
  refine ⟨[("rows" : Str), ("row" : Str)], [("rows" : Str)], 60, scopeB_ok (by decide +kernel), by kernel_rfl, rfl, rfl, fun K f fd U => ?_⟩
  have b : Binds K fd [("rows" : Str)] [] := U.bindsN fun _ _ _ _ _ _ us hl => match us, hl with | [_], _ => rfl
  exact ⟨b, [], [], b, .nil, fun _ _ => .nil⟩
theorem h3 [Th] : DStat tb fn3 d3 := by
  refine ⟨[("text" : Str), ("signs" : Str), ("sign" : Str)], [("text" : Str), ("signs" : Str)], 60, scopeB_ok (by decide +kernel), by kernel_rfl, rfl, rfl, fun K f fd U => ?_⟩
  have b : Binds K fd [("text" : Str), ("signs" : Str)] [] := U.bindsN fun _ _ _ _ _ _ us hl => match us, hl with | [_, _], _ => rfl
  exact ⟨b, [], [], b, .nil, fun _ _ => .nil⟩
theorem h4 [Th] : DStat tb fn4 d4 := by
  refine ⟨[("word" : Str)], [("word" : Str)], 60, scopeB_ok (by decide +kernel), by kernel_rfl, rfl, rfl, fun K f fd U => ?_⟩
  have b : Binds K fd [("word" : Str)] [] := U.bindsN fun _ _ _ _ _ _ us hl => match us, hl with | [_], _ => rfl
  exact ⟨b, [], [], b, .nil, fun _ _ => .nil⟩
theorem h5 [Th] : DStat tb fn5 d5 := by
  refine ⟨[("word" : Str), ("low" : Str), ("high" : Str), ("number" : Str)], [("word" : Str), ("low" : Str), ("high" : Str)], 60, scopeB_ok (by decide +kernel), by kernel_rfl, rfl, rfl, fun K f fd U => ?_⟩
  have b : Binds K fd [("word" : Str), ("low" : Str), ("high" : Str)] [] := U.bindsN fun _ _ _ _ _ _ us hl => match us, hl with | [_, _, _], _ => rfl
  exact ⟨b, [], [], b, .nil, fun _ _ => .nil⟩
theorem h6 [Th] : DStat tb fn6 d6 := by
  refine ⟨[("words" : Str), ("word" : Str), ("low" : Str), ("high" : Str), ("taken" : Str), ("size" : Str)], [("words" : Str), ("word" : Str), ("low" : Str), ("high" : Str), ("taken" : Str)], 60, scopeB_ok (by decide +kernel), by kernel_rfl, rfl, rfl, fun K f fd U => ?_⟩
  have b : Binds K fd [("words" : Str), ("word" : Str), ("low" : Str), ("high" : Str), ("taken" : Str)] [] := U.bindsN fun _ _ _ _ _ _ us hl => match us, hl with | [_, _, _, _, _], _ => rfl
  exact ⟨b, [], [], b, .nil, fun _ _ => .nil⟩
theorem h7 [Th] : DStat tb fn7 d7 := by
  refine ⟨[("calendars" : Str), ("rounds" : Str), ("_" : Str), ("size" : Str)], [("calendars" : Str)], 60, scopeB_ok (by decide +kernel), by kernel_rfl, rfl, rfl, fun K f fd U => ?_⟩
  have b : Binds K fd [("calendars" : Str)] [] := U.bindsN fun _ _ _ _ _ _ us hl => match us, hl with | [_], _ => rfl
  exact ⟨b, [], [], b, .nil, fun _ _ => .nil⟩
theorem h8 [Th] : DStat tb fn8 d8 := by
  refine ⟨[("page" : Str), ("calendars" : Str), ("row" : Str)], [("page" : Str)], 60, scopeB_ok (by decide +kernel), by kernel_rfl, rfl, rfl, fun K f fd U => ?_⟩
  have b : Binds K fd [("page" : Str)] [] := U.bindsN fun _ _ _ _ _ _ us hl => match us, hl with | [_], _ => rfl
  exact ⟨b, [], [], b, .nil, fun _ _ => .nil⟩
theorem h9 [Th] : DStat tb fn9 d9 := by
  refine ⟨[("page" : Str), ("doors" : Str), ("row" : Str)], [("page" : Str)], 60, scopeB_ok (by decide +kernel), by kernel_rfl, rfl, rfl, fun K f fd U => ?_⟩
  have b : Binds K fd [("page" : Str)] [] := U.bindsN fun _ _ _ _ _ _ us hl => match us, hl with | [_], _ => rfl
  exact ⟨b, [], [], b, .nil, fun _ _ => .nil⟩
theorem h10 [Th] : DStat tb fn10 d10 := by
  refine ⟨[("page" : Str), ("taken" : Str), ("words" : Str), ("is_right" : Str)], [("page" : Str), ("taken" : Str)], 60, scopeB_ok (by decide +kernel), by kernel_rfl, rfl, rfl, fun K f fd U => ?_⟩
  have b : Binds K fd [("page" : Str), ("taken" : Str)] [] := U.bindsN fun _ _ _ _ _ _ us hl => match us, hl with | [_, _], _ => rfl
  exact ⟨b, [], [], b, .nil, fun _ _ => .nil⟩
theorem h11 [Th] : DStat tb fn11 d11 := by
  refine ⟨[("page" : Str), ("words" : Str), ("low" : Str), ("high" : Str), ("found" : Str), ("many" : Str)], [("page" : Str), ("words" : Str), ("low" : Str), ("high" : Str)], 60, scopeB_ok (by decide +kernel), by kernel_rfl, rfl, rfl, fun K f fd U => ?_⟩
  have b : Binds K fd [("page" : Str), ("words" : Str), ("low" : Str), ("high" : Str)] [] := U.bindsN fun _ _ _ _ _ _ us hl => match us, hl with | [_, _, _, _], _ => rfl
  exact ⟨b, [], [], b, .nil, fun _ _ => .nil⟩
theorem h12 [Th] : DStat tb fn12 d12 := by
  refine ⟨[("page" : Str), ("can_be_one" : Str), ("begins" : Str), ("lives" : Str)], [("page" : Str), ("can_be_one" : Str)], 60, scopeB_ok (by decide +kernel), by kernel_rfl, rfl, rfl, fun K f fd U => ?_⟩
  have b : Binds K fd [("page" : Str), ("can_be_one" : Str)] [] := U.bindsN fun _ _ _ _ _ _ us hl => match us, hl with | [_, _], _ => rfl
  exact ⟨b, [], [], b, .nil, fun _ _ => .nil⟩
theorem h13 [Th] : DStat tb fn13 d13 := by
  refine ⟨[("page" : Str)], [("page" : Str)], 60, scopeB_ok (by decide +kernel), by kernel_rfl, rfl, rfl, fun K f fd U => ?_⟩
  have b : Binds K fd [("page" : Str)] [] := U.bindsN fun _ _ _ _ _ _ us hl => match us, hl with | [_], _ => rfl
  exact ⟨b, [], [], b, .nil, fun _ _ => .nil⟩
theorem h14 [Th] : DStat tb fn14 d14 := by
  refine ⟨[("page" : Str), ("taken" : Str), ("cells" : Str), ("stands" : Str), ("row" : Str)], [("page" : Str), ("taken" : Str)], 60, scopeB_ok (by decide +kernel), by kernel_rfl, rfl, rfl, fun K f fd U => ?_⟩
  have b : Binds K fd [("page" : Str), ("taken" : Str)] [] := U.bindsN fun _ _ _ _ _ _ us hl => match us, hl with | [_, _], _ => rfl
  exact ⟨b, [], [], b, .nil, fun _ _ => .nil⟩
theorem h15 [Th] : DStat tb fn15 d15 := by
  refine ⟨[("words" : Str)], [("words" : Str)], 60, scopeB_ok (by decide +kernel), by kernel_rfl, rfl, rfl, fun K f fd U => ?_⟩
  have b : Binds K fd [("words" : Str)] [] := U.bindsN fun _ _ _ _ _ _ us hl => match us, hl with | [_], _ => rfl
  exact ⟨b, [], [], b, .nil, fun _ _ => .nil⟩
theorem h16 [Th] : DStat tb fn16 d16 := by
  refine ⟨[("words" : Str), ("taken" : Str), ("row" : Str), ("within" : Str)], [("words" : Str), ("taken" : Str)], 60, scopeB_ok (by decide +kernel), by kernel_rfl, rfl, rfl, fun K f fd U => ?_⟩
  have b : Binds K fd [("words" : Str), ("taken" : Str)] [] := U.bindsN fun _ _ _ _ _ _ us hl => match us, hl with | [_, _], _ => rfl
  exact ⟨b, [], [], b, .nil, fun _ _ => .nil⟩
theorem h17 [Th] : DStat tb fn17 d17 := by
  refine ⟨[("page" : Str), ("taken" : Str), ("users" : Str), ("row" : Str)], [("page" : Str), ("taken" : Str)], 60, scopeB_ok (by decide +kernel), by kernel_rfl, rfl, rfl, fun K f fd U => ?_⟩
  have b : Binds K fd [("page" : Str), ("taken" : Str)] [] := U.bindsN fun _ _ _ _ _ _ us hl => match us, hl with | [_, _], _ => rfl
  exact ⟨b, [], [], b, .nil, fun _ _ => .nil⟩
theorem h18 [Th] : DStat tb fn18 d18 := by
  refine ⟨[("line" : Str)], [("line" : Str)], 60, scopeB_ok (by decide +kernel), by kernel_rfl, rfl, rfl, fun K f fd U => ?_⟩
  have b : Binds K fd [("line" : Str)] [] := U.bindsN fun _ _ _ _ _ _ us hl => match us, hl with | [_], _ => rfl
  exact ⟨b, [], [], b, .nil, fun _ _ => .nil⟩
theorem h19 [Th] : DStat tb fn19 d19 := by
  refine ⟨[("self" : Str), ("text" : Str)], [("self" : Str), ("text" : Str)], 60, scopeB_ok (by decide +kernel), by kernel_rfl, rfl, rfl, fun K f fd U => ?_⟩
  have b : Binds K fd [("self" : Str), ("text" : Str)] [] := U.bindsN fun _ _ _ _ _ _ us hl => match us, hl with | [_, _], _ => rfl
  exact ⟨b, [], [], b, .nil, fun _ _ => .nil⟩
theorem h20 [Th] : DStat tb fn20 d20 := by
  refine ⟨[("self" : Str)], [("self" : Str)], 60, scopeB_ok (by decide +kernel), by kernel_rfl, rfl, rfl, fun K f fd U => ?_⟩
  have b : Binds K fd [("self" : Str)] [] := U.bindsN fun _ _ _ _ _ _ us hl => match us, hl with | [_], _ => rfl
  exact ⟨b, [], [], b, .nil, fun _ _ => .nil⟩
theorem h21 [Th] : DStat tb fn21 d21 := by
  refine ⟨[("self" : Str), ("steps" : Str)], [("self" : Str), ("steps" : Str)], 60, scopeB_ok (by decide +kernel), by kernel_rfl, rfl, rfl, fun K f fd U => ?_⟩
  have b : Binds K fd [("self" : Str), ("steps" : Str)] [] := U.bindsN fun _ _ _ _ _ _ us hl => match us, hl with | [_, _], _ => rfl
  exact ⟨b, [], [], b, .nil, fun _ _ => .nil⟩
theorem h22 [Th] : DStat tb fn22 d22 := by
  refine ⟨[("self" : Str), ("can_stand" : Str)], [("self" : Str), ("can_stand" : Str)], 60, scopeB_ok (by decide +kernel), by kernel_rfl, rfl, rfl, fun K f fd U => ?_⟩
  have b : Binds K fd [("self" : Str), ("can_stand" : Str)] [] := U.bindsN fun _ _ _ _ _ _ us hl => match us, hl with | [_, _], _ => rfl
  exact ⟨b, [], [], b, .nil, fun _ _ => .nil⟩
theorem h23 [Th] : DStat tb fn23 d23 := by
  refine ⟨[("text" : Str), ("parts" : Str), ("held" : Str), ("piece" : Str), ("part" : Str)], [("text" : Str)], 60, scopeB_ok (by decide +kernel), by kernel_rfl, rfl, rfl, fun K f fd U => ?_⟩
  have b : Binds K fd [("text" : Str)] [] := U.bindsN fun _ _ _ _ _ _ us hl => match us, hl with | [_], _ => rfl
  exact ⟨b, [], [], b, .nil, fun _ _ => .nil⟩
theorem x24a (T : Addr) (kV doc pm : Value) (an : Option Addr) (cdv ct : Value) (u0 u1 u2 i0 : Value) : ∃ k, bindArgs (PySem.W.fnOf d24.name d24.qual d24.params d24.body d24.scope (.ref T) kV doc pm an cdv ct) ⟨[u0, u1, u2], []⟩ = seqItems? (.ref T) >>= k ∧ k (some [i0].toArray) = pure ([("text" : Str), ("names" : Str), ("deepest" : Str)].zip ([u0, u1, u2] ++ [i0].drop 1)) := by
  refine ⟨?k, ?e1, ?e2⟩
  case e1 => (unfold bindArgs; simp only [List.forIn_nil, pure_bind]; exact rfl)
  case e2 => exact rfl
theorem x24b (T : Addr) (kV doc pm : Value) (an : Option Addr) (cdv ct : Value) (u0 u1 i0 : Value) : ∃ k, bindArgs (PySem.W.fnOf d24.name d24.qual d24.params d24.body d24.scope (.ref T) kV doc pm an cdv ct) ⟨[u0, u1], []⟩ = seqItems? (.ref T) >>= k ∧ k (some [i0].toArray) = pure ([("text" : Str), ("names" : Str), ("deepest" : Str)].zip ([u0, u1] ++ [i0].drop 0)) := by
  refine ⟨?k, ?e1, ?e2⟩
  case e1 => (unfold bindArgs; simp only [List.forIn_nil, pure_bind]; exact rfl)
  case e2 => exact rfl
theorem h24 [Th] : DStat tb fn24 d24 := by
  refine ⟨[("text" : Str), ("names" : Str), ("deepest" : Str), ("figure" : Str)], [("text" : Str), ("names" : Str), ("deepest" : Str)], 60, scopeB_ok (by decide +kernel), by kernel_rfl, rfl, rfl, fun K f fd U => ?_⟩
  have hd : d24.dvs K ≠ [] := by simp [He.DefD.dvs, d24]
  have b : Binds K fd [("text" : Str), ("names" : Str), ("deepest" : Str)] [] := by
    obtain ⟨es, r, b⟩ := U.binds1 (ps := [("text" : Str), ("names" : Str), ("deepest" : Str)]) 3 1 hd rfl (fun T kV doc pm an cdv ct us its hl hl2 => match us, hl, its, hl2 with | [u0, u1, u2], _, [i0], _ => x24a T kV doc pm an cdv ct u0 u1 u2 i0)
    cases r
    exact b
  obtain ⟨es, r, b2⟩ := U.binds1 (ps := [("text" : Str), ("names" : Str), ("deepest" : Str)]) 2 0 hd rfl (fun T kV doc pm an cdv ct us its hl hl2 => match us, hl, its, hl2 with | [u0, u1], _, [i0], _ => x24b T kV doc pm an cdv ct u0 u1 i0)
  exact ⟨b, _, es, b2, r, fun _ _ => .cons (.int 4) (.nil)⟩
theorem h25 [Th] : DStat tb fn25 d25 := by
  refine ⟨[("text" : Str), ("names" : Str), ("deepest" : Str), ("word" : Str), ("_" : Str), ("behind" : Str), ("texts" : Str), ("parts" : Str), ("part" : Str)], [("text" : Str), ("names" : Str), ("deepest" : Str)], 60, scopeB_ok (by decide +kernel), by kernel_rfl, rfl, rfl, fun K f fd U => ?_⟩
  have b : Binds K fd [("text" : Str), ("names" : Str), ("deepest" : Str)] [] := U.bindsN fun _ _ _ _ _ _ us hl => match us, hl with | [_, _, _], _ => rfl
  exact ⟨b, [], [], b, .nil, fun _ _ => .nil⟩
theorem h26 [Th] : DStat tb fn26 d26 := by
  refine ⟨[("self" : Str), ("book" : Str), ("cells" : Str), ("users" : Str), ("at" : Str), ("row" : Str)], [("self" : Str), ("book" : Str), ("cells" : Str), ("users" : Str)], 60, scopeB_ok (by decide +kernel), by kernel_rfl, rfl, rfl, fun K f fd U => ?_⟩
  have b : Binds K fd [("self" : Str), ("book" : Str), ("cells" : Str), ("users" : Str)] [] := U.bindsN fun _ _ _ _ _ _ us hl => match us, hl with | [_, _, _, _], _ => rfl
  exact ⟨b, [], [], b, .nil, fun _ _ => .nil⟩
theorem h27 [Th] : DStat tb fn27 d27 := by
  refine ⟨[("words" : Str), ("scope" : Str), ("expression" : Str)], [("words" : Str), ("scope" : Str)], 60, scopeB_ok (by decide +kernel), by kernel_rfl, rfl, rfl, fun K f fd U => ?_⟩
  have b : Binds K fd [("words" : Str), ("scope" : Str)] [] := U.bindsN fun _ _ _ _ _ _ us hl => match us, hl with | [_, _], _ => rfl
  exact ⟨b, [], [], b, .nil, fun _ _ => .nil⟩
theorem h28 [Th] : DStat tb fn28 d28 := by
  refine ⟨[("words" : Str), ("scope" : Str), ("expression" : Str)], [("words" : Str), ("scope" : Str)], 60, scopeB_ok (by decide +kernel), by kernel_rfl, rfl, rfl, fun K f fd U => ?_⟩
  have b : Binds K fd [("words" : Str), ("scope" : Str)] [] := U.bindsN fun _ _ _ _ _ _ us hl => match us, hl with | [_, _], _ => rfl
  exact ⟨b, [], [], b, .nil, fun _ _ => .nil⟩
theorem h29 [Th] : DStat tb fn29 d29 := by
  refine ⟨[("words" : Str), ("scope" : Str)], [("words" : Str), ("scope" : Str)], 60, scopeB_ok (by decide +kernel), by kernel_rfl, rfl, rfl, fun K f fd U => ?_⟩
  have b : Binds K fd [("words" : Str), ("scope" : Str)] [] := U.bindsN fun _ _ _ _ _ _ us hl => match us, hl with | [_, _], _ => rfl
  exact ⟨b, [], [], b, .nil, fun _ _ => .nil⟩
theorem h30 [Th] : DStat tb fn30 d30 := by
  refine ⟨[("words" : Str), ("many" : Str)], [("words" : Str)], 60, scopeB_ok (by decide +kernel), by kernel_rfl, rfl, rfl, fun K f fd U => ?_⟩
  have b : Binds K fd [("words" : Str)] [] := U.bindsN fun _ _ _ _ _ _ us hl => match us, hl with | [_], _ => rfl
  exact ⟨b, [], [], b, .nil, fun _ _ => .nil⟩
theorem h31 [Th] : DStat tb fn31 d31 := by
  refine ⟨[("words" : Str), ("scope" : Str), ("word" : Str)], [("words" : Str), ("scope" : Str)], 60, scopeB_ok (by decide +kernel), by kernel_rfl, rfl, rfl, fun K f fd U => ?_⟩
  have b : Binds K fd [("words" : Str), ("scope" : Str)] [] := U.bindsN fun _ _ _ _ _ _ us hl => match us, hl with | [_, _], _ => rfl
  exact ⟨b, [], [], b, .nil, fun _ _ => .nil⟩
theorem h32 [Th] : DStat tb fn32 d32 := by
  refine ⟨[("self" : Str), ("page" : Str), ("scope" : Str)], [("self" : Str), ("page" : Str), ("scope" : Str)], 60, scopeB_ok (by decide +kernel), by kernel_rfl, rfl, rfl, fun K f fd U => ?_⟩
  have b : Binds K fd [("self" : Str), ("page" : Str), ("scope" : Str)] [] := U.bindsN fun _ _ _ _ _ _ us hl => match us, hl with | [_, _, _], _ => rfl
  exact ⟨b, [], [], b, .nil, fun _ _ => .nil⟩
theorem h33 [Th] : DStat tb fn33 d33 := by
  refine ⟨[("self" : Str), ("depth" : Str), ("statements" : Str)], [("self" : Str), ("depth" : Str)], 60, scopeB_ok (by decide +kernel), by kernel_rfl, rfl, rfl, fun K f fd U => ?_⟩
  have b : Binds K fd [("self" : Str), ("depth" : Str)] [] := U.bindsN fun _ _ _ _ _ _ us hl => match us, hl with | [_, _], _ => rfl
  exact ⟨b, [], [], b, .nil, fun _ _ => .nil⟩
theorem h34 [Th] : DStat tb fn34 d34 := by
  refine ⟨[("self" : Str), ("depth" : Str), ("words" : Str), ("facts" : Str)], [("self" : Str), ("depth" : Str)], 60, scopeB_ok (by decide +kernel), by kernel_rfl, rfl, rfl, fun K f fd U => ?_⟩
  have b : Binds K fd [("self" : Str), ("depth" : Str)] [] := U.bindsN fun _ _ _ _ _ _ us hl => match us, hl with | [_, _], _ => rfl
  exact ⟨b, [], [], b, .nil, fun _ _ => .nil⟩
theorem h35 [Th] : DStat tb fn35 d35 := by
  refine ⟨[("self" : Str), ("word" : Str), ("depth" : Str), ("first" : Str)], [("self" : Str), ("word" : Str), ("depth" : Str)], 60, scopeB_ok (by decide +kernel), by kernel_rfl, rfl, rfl, fun K f fd U => ?_⟩
  have b : Binds K fd [("self" : Str), ("word" : Str), ("depth" : Str)] [] := U.bindsN fun _ _ _ _ _ _ us hl => match us, hl with | [_, _, _], _ => rfl
  exact ⟨b, [], [], b, .nil, fun _ _ => .nil⟩
theorem h36 [Th] : DStat tb fn36 d36 := by
  refine ⟨[("self" : Str), ("depth" : Str)], [("self" : Str), ("depth" : Str)], 60, scopeB_ok (by decide +kernel), by kernel_rfl, rfl, rfl, fun K f fd U => ?_⟩
  have b : Binds K fd [("self" : Str), ("depth" : Str)] [] := U.bindsN fun _ _ _ _ _ _ us hl => match us, hl with | [_, _], _ => rfl
  exact ⟨b, [], [], b, .nil, fun _ _ => .nil⟩
theorem h37 [Th] : DStat tb fn37 d37 := by
  refine ⟨[("page" : Str), ("scope" : Str), ("reader" : Str)], [("page" : Str), ("scope" : Str)], 60, scopeB_ok (by decide +kernel), by kernel_rfl, rfl, rfl, fun K f fd U => ?_⟩
  have b : Binds K fd [("page" : Str), ("scope" : Str)] [] := U.bindsN fun _ _ _ _ _ _ us hl => match us, hl with | [_, _], _ => rfl
  exact ⟨b, [], [], b, .nil, fun _ _ => .nil⟩
theorem h38 [Th] : DStat tb fn38 d38 := by
  refine ⟨[("block" : Str), ("doors" : Str), ("word" : Str), ("facts" : Str), ("blocks" : Str), ("part" : Str)], [("block" : Str)], 60, scopeB_ok (by decide +kernel), by kernel_rfl, rfl, rfl, fun K f fd U => ?_⟩
  have b : Binds K fd [("block" : Str)] [] := U.bindsN fun _ _ _ _ _ _ us hl => match us, hl with | [_], _ => rfl
  exact ⟨b, [], [], b, .nil, fun _ _ => .nil⟩
theorem h39 [Th] : DStat tb fn39 d39 := by
  refine ⟨[("self" : Str), ("book" : Str), ("page" : Str), ("ahead" : Str), ("first" : Str), ("calendars" : Str), ("has_one" : Str), ("client" : Str)], [("self" : Str), ("book" : Str), ("page" : Str), ("ahead" : Str)], 60, scopeB_ok (by decide +kernel), by kernel_rfl, rfl, rfl, fun K f fd U => ?_⟩
  have b : Binds K fd [("self" : Str), ("book" : Str), ("page" : Str), ("ahead" : Str)] [] := U.bindsN fun _ _ _ _ _ _ us hl => match us, hl with | [_, _, _, _], _ => rfl
  exact ⟨b, [], [], b, .nil, fun _ _ => .nil⟩
theorem h40 [Th] : DStat tb fn40 d40 := by
  refine ⟨[("self" : Str), ("other" : Str)], [("self" : Str), ("other" : Str)], 60, scopeB_ok (by decide +kernel), by kernel_rfl, rfl, rfl, fun K f fd U => ?_⟩
  have b : Binds K fd [("self" : Str), ("other" : Str)] [] := U.bindsN fun _ _ _ _ _ _ us hl => match us, hl with | [_, _], _ => rfl
  exact ⟨b, [], [], b, .nil, fun _ _ => .nil⟩
theorem h41 [Th] : DStat tb fn41 d41 := by
  refine ⟨[("page" : Str), ("book" : Str), ("clients" : Str)], [("page" : Str), ("book" : Str)], 60, scopeB_ok (by decide +kernel), by kernel_rfl, rfl, rfl, fun K f fd U => ?_⟩
  have b : Binds K fd [("page" : Str), ("book" : Str)] [] := U.bindsN fun _ _ _ _ _ _ us hl => match us, hl with | [_, _], _ => rfl
  exact ⟨b, [], [], b, .nil, fun _ _ => .nil⟩
theorem h42 [Th] : DStat tb fn42 d42 := by
  refine ⟨[("self" : Str), ("text" : Str), ("page" : Str), ("members" : Str), ("member" : Str)], [("self" : Str), ("text" : Str)], 60, scopeB_ok (by decide +kernel), by kernel_rfl, rfl, rfl, fun K f fd U => ?_⟩
  have b : Binds K fd [("self" : Str), ("text" : Str)] [] := U.bindsN fun _ _ _ _ _ _ us hl => match us, hl with | [_, _], _ => rfl
  exact ⟨b, [], [], b, .nil, fun _ _ => .nil⟩
theorem h43 [Th] : DStat tb fn43 d43 := by
  refine ⟨[("self" : Str), ("calendar" : Str), ("day" : Str)], [("self" : Str), ("calendar" : Str), ("day" : Str)], 60, scopeB_ok (by decide +kernel), by kernel_rfl, rfl, rfl, fun K f fd U => ?_⟩
  have b : Binds K fd [("self" : Str), ("calendar" : Str), ("day" : Str)] [] := U.bindsN fun _ _ _ _ _ _ us hl => match us, hl with | [_, _, _], _ => rfl
  exact ⟨b, [], [], b, .nil, fun _ _ => .nil⟩
theorem h44 [Th] : DStat tb fn44 d44 := by
  refine ⟨[("self" : Str), ("day" : Str)], [("self" : Str), ("day" : Str)], 60, scopeB_ok (by decide +kernel), by kernel_rfl, rfl, rfl, fun K f fd U => ?_⟩
  have b : Binds K fd [("self" : Str), ("day" : Str)] [] := U.bindsN fun _ _ _ _ _ _ us hl => match us, hl with | [_, _], _ => rfl
  exact ⟨b, [], [], b, .nil, fun _ _ => .nil⟩
theorem h45 [Th] : DStat tb fn45 d45 := by
  refine ⟨[("self" : Str), ("other" : Str)], [("self" : Str), ("other" : Str)], 60, scopeB_ok (by decide +kernel), by kernel_rfl, rfl, rfl, fun K f fd U => ?_⟩
  have b : Binds K fd [("self" : Str), ("other" : Str)] [] := U.bindsN fun _ _ _ _ _ _ us hl => match us, hl with | [_, _], _ => rfl
  exact ⟨b, [], [], b, .nil, fun _ _ => .nil⟩
theorem h46 [Th] : DStat tb fn46 d46 := by
  refine ⟨[("self" : Str)], [("self" : Str)], 60, scopeB_ok (by decide +kernel), by kernel_rfl, rfl, rfl, fun K f fd U => ?_⟩
  have b : Binds K fd [("self" : Str)] [] := U.bindsN fun _ _ _ _ _ _ us hl => match us, hl with | [_], _ => rfl
  exact ⟨b, [], [], b, .nil, fun _ _ => .nil⟩
theorem h47 [Th] : DStat tb fn47 d47 := by
  refine ⟨[("self" : Str), ("value" : Str)], [("self" : Str), ("value" : Str)], 60, scopeB_ok (by decide +kernel), by kernel_rfl, rfl, rfl, fun K f fd U => ?_⟩
  have b : Binds K fd [("self" : Str), ("value" : Str)] [] := U.bindsN fun _ _ _ _ _ _ us hl => match us, hl with | [_, _], _ => rfl
  exact ⟨b, [], [], b, .nil, fun _ _ => .nil⟩
theorem h48 [Th] : DStat tb fn48 d48 := by
  refine ⟨[("self" : Str), ("name" : Str)], [("self" : Str), ("name" : Str)], 60, scopeB_ok (by decide +kernel), by kernel_rfl, rfl, rfl, fun K f fd U => ?_⟩
  have b : Binds K fd [("self" : Str), ("name" : Str)] [] := U.bindsN fun _ _ _ _ _ _ us hl => match us, hl with | [_, _], _ => rfl
  exact ⟨b, [], [], b, .nil, fun _ _ => .nil⟩
theorem h49 [Th] : DStat tb fn49 d49 := by
  refine ⟨[("self" : Str)], [("self" : Str)], 60, scopeB_ok (by decide +kernel), by kernel_rfl, rfl, rfl, fun K f fd U => ?_⟩
  have b : Binds K fd [("self" : Str)] [] := U.bindsN fun _ _ _ _ _ _ us hl => match us, hl with | [_], _ => rfl
  exact ⟨b, [], [], b, .nil, fun _ _ => .nil⟩
theorem h50 [Th] : DStat tb fn50 d50 := by
  refine ⟨[("_law_script" : Str), ("_law_k" : Str), ("_law_cell" : Str), ("_law_own" : Str)], [("_law_script" : Str), ("_law_k" : Str)], 60, scopeB_ok (by decide +kernel), by kernel_rfl, rfl, rfl, fun K f fd U => ?_⟩
  have b : Binds K fd [("_law_script" : Str), ("_law_k" : Str)] [] := U.bindsN fun _ _ _ _ _ _ us hl => match us, hl with | [_, _], _ => rfl
  exact ⟨b, [], [], b, .nil, fun _ _ => .nil⟩
theorem h51 [Th] : DStat tb fn51 d51 := by
  refine ⟨[("_law_pot_here" : Str), ("_law_upto" : Str), ("_law_digit" : Str), ("_law_prime" : Str), ("_law_mixed" : Str)], [("_law_pot_here" : Str), ("_law_upto" : Str)], 60, scopeB_ok (by decide +kernel), by kernel_rfl, rfl, rfl, fun K f fd U => ?_⟩
  have b : Binds K fd [("_law_pot_here" : Str), ("_law_upto" : Str)] [] := U.bindsN fun _ _ _ _ _ _ us hl => match us, hl with | [_, _], _ => rfl
  exact ⟨b, [], [], b, .nil, fun _ _ => .nil⟩
theorem h52 [Th] : DStat tb fn52 d52 := by
  refine ⟨[("_law_pot_here" : Str), ("_law_some" : Str)], [("_law_pot_here" : Str), ("_law_some" : Str)], 60, scopeB_ok (by decide +kernel), by kernel_rfl, rfl, rfl, fun K f fd U => ?_⟩
  have b : Binds K fd [("_law_pot_here" : Str), ("_law_some" : Str)] [] := U.bindsN fun _ _ _ _ _ _ us hl => match us, hl with | [_, _], _ => rfl
  exact ⟨b, [], [], b, .nil, fun _ _ => .nil⟩
theorem h53 [Th] : DStat tb fn53 d53 := by
  refine ⟨[("_law_pot_here" : Str), ("_law_some" : Str)], [("_law_pot_here" : Str)], 60, scopeB_ok (by decide +kernel), by kernel_rfl, rfl, rfl, fun K f fd U => ?_⟩
  have b : Binds K fd [("_law_pot_here" : Str)] [] := U.bindsN fun _ _ _ _ _ _ us hl => match us, hl with | [_], _ => rfl
  exact ⟨b, [], [], b, .nil, fun _ _ => .nil⟩
theorem h54 [Th] : DStat tb fn54 d54 := by
  refine ⟨[("_law_pot_here" : Str), ("_law_book" : Str)], [("_law_pot_here" : Str)], 60, scopeB_ok (by decide +kernel), by kernel_rfl, rfl, rfl, fun K f fd U => ?_⟩
  have b : Binds K fd [("_law_pot_here" : Str)] [] := U.bindsN fun _ _ _ _ _ _ us hl => match us, hl with | [_], _ => rfl
  exact ⟨b, [], [], b, .nil, fun _ _ => .nil⟩
theorem h55 [Th] : DStat tb fn55 d55 := by
  refine ⟨[("_law_thing_here" : Str), ("_law_some" : Str)], [("_law_thing_here" : Str)], 60, scopeB_ok (by decide +kernel), by kernel_rfl, rfl, rfl, fun K f fd U => ?_⟩
  have b : Binds K fd [("_law_thing_here" : Str)] [] := U.bindsN fun _ _ _ _ _ _ us hl => match us, hl with | [_], _ => rfl
  exact ⟨b, [], [], b, .nil, fun _ _ => .nil⟩
theorem h56 [Th] : DStat tb fn56 d56 := by
  refine ⟨[("_law_error" : Str), ("_law_some" : Str)], [("_law_error" : Str)], 60, scopeB_ok (by decide +kernel), by kernel_rfl, rfl, rfl, fun K f fd U => ?_⟩
  have b : Binds K fd [("_law_error" : Str)] [] := U.bindsN fun _ _ _ _ _ _ us hl => match us, hl with | [_], _ => rfl
  exact ⟨b, [], [], b, .nil, fun _ _ => .nil⟩
theorem h57 [Th] : DStat tb fn57 d57 := by
  refine ⟨[("_law_thing_here" : Str), ("_law_at" : Str), ("_law_error" : Str), ("_law_spot" : Str), ("_law_above" : Str)], [("_law_thing_here" : Str)], 60, scopeB_ok (by decide +kernel), by kernel_rfl, rfl, rfl, fun K f fd U => ?_⟩
  have b : Binds K fd [("_law_thing_here" : Str)] [] := U.bindsN fun _ _ _ _ _ _ us hl => match us, hl with | [_], _ => rfl
  exact ⟨b, [], [], b, .nil, fun _ _ => .nil⟩
theorem h58 [Th] : DStat tb fn58 d58 := by
  refine ⟨[("_law_script" : Str), ("_law_k" : Str), ("_law_pot_here" : Str), ("_law_lap" : Str)], [("_law_script" : Str)], 60, scopeB_ok (by decide +kernel), by kernel_rfl, rfl, rfl, fun K f fd U => ?_⟩
  have b : Binds K fd [("_law_script" : Str)] [] := U.bindsN fun _ _ _ _ _ _ us hl => match us, hl with | [_], _ => rfl
  exact ⟨b, [], [], b, .nil, fun _ _ => .nil⟩
theorem okT [Th] : tb.Ok := by
  refine ⟨(by decide +kernel : NM.Nodup), rfl, rfl, rfl, rfl, fun f F d hf eF ed => ?_, fun a b r e => ?_, fun c C eC hx => ?_⟩
  · have hl : f < 59 := Nat.le_of_ble_eq_true hf
    match f, hl with
    | 0, _ => cases eF; cases ed; exact h0
    | 1, _ => cases eF; cases ed; exact h1
    | 2, _ => cases eF; cases ed; exact h2
    | 3, _ => cases eF; cases ed; exact h3
    | 4, _ => cases eF; cases ed; exact h4
    | 5, _ => cases eF; cases ed; exact h5
    | 6, _ => cases eF; cases ed; exact h6
    | 7, _ => cases eF; cases ed; exact h7
    | 8, _ => cases eF; cases ed; exact h8
    | 9, _ => cases eF; cases ed; exact h9
    | 10, _ => cases eF; cases ed; exact h10
    | 11, _ => cases eF; cases ed; exact h11
    | 12, _ => cases eF; cases ed; exact h12
    | 13, _ => cases eF; cases ed; exact h13
    | 14, _ => cases eF; cases ed; exact h14
    | 15, _ => cases eF; cases ed; exact h15
    | 16, _ => cases eF; cases ed; exact h16
    | 17, _ => cases eF; cases ed; exact h17
    | 18, _ => cases eF; cases ed; exact h18
    | 19, _ => cases eF; cases ed; exact h19
    | 20, _ => cases eF; cases ed; exact h20
    | 21, _ => cases eF; cases ed; exact h21
    | 22, _ => cases eF; cases ed; exact h22
    | 23, _ => cases eF; cases ed; exact h23
    | 24, _ => cases eF; cases ed; exact h24
    | 25, _ => cases eF; cases ed; exact h25
    | 26, _ => cases eF; cases ed; exact h26
    | 27, _ => cases eF; cases ed; exact h27
    | 28, _ => cases eF; cases ed; exact h28
    | 29, _ => cases eF; cases ed; exact h29
    | 30, _ => cases eF; cases ed; exact h30
    | 31, _ => cases eF; cases ed; exact h31
    | 32, _ => cases eF; cases ed; exact h32
    | 33, _ => cases eF; cases ed; exact h33
    | 34, _ => cases eF; cases ed; exact h34
    | 35, _ => cases eF; cases ed; exact h35
    | 36, _ => cases eF; cases ed; exact h36
    | 37, _ => cases eF; cases ed; exact h37
    | 38, _ => cases eF; cases ed; exact h38
    | 39, _ => cases eF; cases ed; exact h39
    | 40, _ => cases eF; cases ed; exact h40
    | 41, _ => cases eF; cases ed; exact h41
    | 42, _ => cases eF; cases ed; exact h42
    | 43, _ => cases eF; cases ed; exact h43
    | 44, _ => cases eF; cases ed; exact h44
    | 45, _ => cases eF; cases ed; exact h45
    | 46, _ => cases eF; cases ed; exact h46
    | 47, _ => cases eF; cases ed; exact h47
    | 48, _ => cases eF; cases ed; exact h48
    | 49, _ => cases eF; cases ed; exact h49
    | 50, _ => cases eF; cases ed; exact h50
    | 51, _ => cases eF; cases ed; exact h51
    | 52, _ => cases eF; cases ed; exact h52
    | 53, _ => cases eF; cases ed; exact h53
    | 54, _ => cases eF; cases ed; exact h54
    | 55, _ => cases eF; cases ed; exact h55
    | 56, _ => cases eF; cases ed; exact h56
    | 57, _ => cases eF; cases ed; exact h57
    | 58, _ => cases eF; cases ed; exact h58
  · have hI : ∀ i, i < 34 → Cl.own i ∈ tyI := by decide +kernel
    have hC : ∀ j, usedL.getD j false = true → Cl.own j ∈ tyC := fun j hj => by
      have hl : j < 34 := by
        rcases Nat.lt_or_ge j 34 with q | q
        · exact q
        · rw [List.getD_eq_getElem?_getD, List.getElem?_eq_none (show usedL.length ≤ j from q)] at hj
          cases hj
      have key : ∀ j, j < 34 → usedL.getD j false = true → Cl.own j ∈ tyC := by decide +kernel
      exact key j hl hj
    have sI : ∀ x ∈ (["NoneType", "bool", "int", "str", "tuple", "list", "dict"] : List String), Cl.ty x ∈ tyI := by decide +kernel
    have sC : ∀ x ∈ (["str", "ValueError"] : List String), Cl.ty x ∈ tyC := by decide +kernel
    cases a with
    | own i => cases b with
      | own j =>
        have e : (match Nat.blt i 34 && usedL.getD j false with | true => some (Nat.beq i j || (Nat.beq j 0 && isExc i)) | false => none) = some r := e
        cases z : (Nat.blt i 34 && usedL.getD j false) with
        | true =>
          obtain ⟨z1, z2⟩ := He.ba z
          exact ⟨hI i (Nat.le_of_ble_eq_true z1), hC j z2⟩
        | false => rw [z] at e; cases e
      | ty b =>
        have e : isaS i b = some r := e
        unfold isaS at e
        split at e
        · rename_i z
          exact ⟨hI i (Nat.le_of_ble_eq_true z.1), sC b z.2⟩
        · cases e
    | ty a => cases b with
      | own j =>
        have e : (if a ∈ (["NoneType", "bool", "int", "str", "tuple", "list", "dict"] : List String) ∧ usedL.getD j false = true then some false else none) = some r := e
        split at e
        · rename_i z
          exact ⟨sI a z.1, hC j z.2⟩
        · cases e
      | ty b =>
        have e : (if a ∈ (["NoneType", "bool", "int", "str", "tuple", "list", "dict"] : List String) ∧ b ∈ (["str", "ValueError"] : List String) then some (decide (a = b) || (decide (a = "bool") && decide (b = "int"))) else none) = some r := e
        split at e
        · rename_i z
          exact ⟨sI a z.1, sC b z.2⟩
        · cases e
  · have hl : c < 34 := (List.getElem?_eq_some_iff.mp eC).1
    have key : (clss.all fun C => !C.exc || Nat.beq C.ini 1) = true := by decide +kernel
    have k2 := List.all_eq_true.mp key C (List.mem_of_getElem? eC)
    rw [hx] at k2
    have ei : C.ini = 1 := Nat.eq_of_beq_eq_true (by simpa using k2)
    refine ⟨d1, by rw [ei]; rfl, by decide +kernel, by decide +kernel, by decide +kernel, by decide +kernel, fun K f fd U => ?_⟩
    exact U.bindsN fun _ _ _ _ _ _ us hl => match us, hl with | [_, _], _ => rfl
theorem te_ok {K : PySem.W.Frag} (h1 : te.ex1 K = true) (h2 : te.ex2 K = true) : tb.ex K = true := Te.toTb (by decide +kernel) rfl rfl h1 h2
end Mi.k00
set_option maxHeartbeats 0
namespace Mi.k00
open PySem PySem.Spec L2 Mi
def ovT (ds : List (Int × Int)) (f : Nat) : Option (List MV → MH → R MV) := if f = 51 then some (rOv ds) else none
def askT : List Int → Option Nat
  | [] => some 3
  | [0] => some 4
  | [_] => some 2
  | [0, _] => none
  | [_, _] => some 20
  | [_, 0, _] => some 20
  | _ => none
def potB (ds : List (Int × Int)) (h : MH) : Bool := match (h[0]? : Option MO) with
  | some (.lst [.sym a, .sym b, .sym c]) => Nat.beq a (3 * ds.length) && (Nat.beq b (a + 1) && Nat.beq c (a + 2))
  | _ => false
def goodT (ds : List (Int × Int)) : Bool := match runFn P (callV P (ovT ds) 29) fn54 [.ref 0] [.lst [.sym 0, .sym 1, .sym 2]] with
  | .ok v h => selfB [0, 22] [(33, 42)] v h && potB ds h
  | _ => false
theorem allT : explore askT goodT 6 [] = true := by decide +kernel
def isTrueR (r : R MV) : Bool := match r with
  | .ok (.bl true) _ => true
  | _ => false
theorem isTrueR_ok {r : R MV} (h : isTrueR r = true) : ∃ h', r = .ok (.bl true) h' := by
  unfold isTrueR at h
  split at h
  · exact ⟨_, rfl⟩
  · cases h
theorem allR : isTrueR (runFn P (callV P (fun _ => none) 29) fn57 [.sym 0] []) = true := by decide +kernel
theorem allR' : ∃ h', runFn P (callV P (fun _ => none) 29) fn57 [.sym 0] [] = .ok (.bl true) h' := isTrueR_ok allR
end Mi.k00
set_option maxHeartbeats 8000000
namespace Mi.k00
open PySem PySem.Spec L2 Mi
abbrev sLaw : Stmt := top 98
theorem scL : FnScope ["_law_script", "_law_k", "_law_pot_here", "_law_lap"] ["_law_script"] (defScope sLaw) := scopeB_ok (by decide +kernel)
section
variable {P0 : Program} {w : World} {K : PySem.W.Frag} {mg : Str → Option Value} {base : Heap} {E : Addr → List (Str × V) → Prop}
theorem ok_law {f : Addr} {fd : FuncData} {kP kT kR e : Nat} (U : FunD K d58.name d58.qual d58.params d58.body d58.scope (d58.dvs K) (d58.kws K) f fd)
    (GP : Gd P0 w K mg base kP "_law_pot" (spPot K)) (GT : Gd P0 w K mg base kT "_law_thing" (spThing K E e)) (GR : Gd P0 w K mg base kR "_law_right" (spAnySelf K E)) (he : e < 2 ^ 20)
    (free : ∀ x ∈ (["range", "max", "min", "len", "all"] : List Str), mg x = none) : FnOk P0 w K mg base (L2.CX P0 w) (kP + kT + kR + 1) f fd ["_law_script"] (spLaw K) := by
  have mr := free "range" (by decide)
  have mm := free "max" (by decide)
  have mn := free "min" (by decide)
  have ml := free "len" (by decide)
  have ma := free "all" (by decide)
  refine U.ok scL (fun vs H Q E h => ?_) (fun cdv A outer s H vs Q E hr h => ?_)
  · obtain ⟨a, ns, rfl, _⟩ := h
    rfl
  · refine ⟨_, pss_cons (ps_for (passes_of rfl) rfl (pi_range1 rfl mr (pa_cons (pe_callB (call_max2 rfl) rfl mm rfl (pa_cons pe_int (pa_cons (pe_callB (call_min2 rfl) rfl mn rfl (pa_cons pe_int (pa_cons (pe_callB call_len_seq rfl ml PySem.boot_len (pa_cons (pv 0) pa_nil)) pa_nil))) pa_nil))) pa_nil)) (pg_name (i := 1) scL.nd rfl (Or.inl rfl))
      (pss_cons (ps_set (i := 2) scL.nd rfl (Or.inr rfl) (pe_call GP.ok (hr.mono (by omega)) rfl GP.mgf GP.kp GP.bd .nil (passN rfl rfl) (pa_cons (pv 0) (pa_cons (pv 1) pa_nil)))) (pss_one
        (ps_if (pt_not (pt_truth (pe_callB (cr_all rfl) rfl ma rfl (pa_cons
          (pe_lc (own := [("_law_lap", 3)]) (g := gName 3) (tt := tYes) rfl scL.nd (pi_range1 rfl mr (pa_cons pe_int pa_nil)) (blkOk_by (N := ["_law_script", "_law_k", "_law_pot_here", "_law_lap"]) (sc := defScope sLaw) (by decide +kernel)) (fun _ _ _ _ _ => pg_name (i := 3) scL.nd rfl (Or.inl rfl)) (fun _ _ _ _ _ => pts_nil) (fun _ _ _ _ _ =>
            pe_call GR.ok (hr.mono (by omega)) rfl GR.mgf GR.kp GR.bd .nil (passN rfl rfl) (pa_cons (pe_call GT.ok (hr.mono (by omega)) rfl GT.mgf GT.kp GT.bd .nil (passN rfl rfl) (pa_cons (pv 2) pa_nil)) pa_nil)))
          pa_nil)) (fun _ => rfl))) (pss_one (ps_ret pe_bl)) pss_nil)))) (pss_one (ps_ret pe_bl)), ?_⟩
    obtain ⟨sa, ns, rfl, hs, hn, q⟩ := h
    refine ⟨_, rfl, sa, ns.map V.int, rfl, .inl hs.sql, _, _, rfl, _, _, rfl, _, rfl, ?lo, ?hi, ?_⟩
    case lo => split <;> split <;> omega
    case hi => split <;> split <;> omega
    generalize ej : (if (if ((ns.map V.int).length : Int) < 4 then ((ns.map V.int).length : Int) else 4) > 1 then (if ((ns.map V.int).length : Int) < 4 then ((ns.map V.int).length : Int) else 4) else 1) = j
    have hj : j ≤ 4 := by rw [← ej]; split <;> split <;> omega
    refine for_range (n := j.toNat) (fun _ σ H' => (∃ x1 x2 x3 : Option V, σ = [some (.ref sa), x1, x2, x3]) ∧ KLst K H' sa (ns.map V.int)) ⟨⟨_, _, _, rfl⟩, hs⟩ (fun i σ H1 hi hp => ?_) (fun σ H1 _ => q H1)
    obtain ⟨⟨x1, x2, x3, rfl⟩, hs1⟩ := hp
    refine ⟨_, rfl, _, rfl, sa, ns, _, rfl, hs1, by omega, by omega, fun H2 a x y hpot hfresh hup ha => ?_⟩
    refine ⟨3, rfl, by decide, by decide, fun D hD => ?_⟩
    have hs2 : KLst K H2 sa (ns.map V.int) := klst_up hs1 hup
    have naD : a ≠ D := fun z => by rw [← z, ha] at hD; cases hD
    refine lc_range (n := 3) (fun i H3 => H3 D = some (.lst (List.replicate i (.bl true))) ∧ (∃ (p : Pot), H3 a = some (.lst [.int p.1, .int p.2.1, .int p.2.2]) ∧ okP (i * e) p) ∧ KLst K H3 sa (ns.map V.int)) ⟨upd_same, ⟨(x, y, 0), ?_, ?_⟩, ?_⟩ (fun i H3 hi3 hv => ?_) (fun H3 hv => ?_)
    · rw [upd_ne naD]; exact ha
    · rw [Nat.zero_mul]; exact hpot
    · exact klst_up hs2 fun b u hb => by rw [upd_ne (ne_of_none hb hD)]; exact hb
    · obtain ⟨hD3, ⟨p, hp1, hp2⟩, hk3⟩ := hv
      refine ⟨rfl, _, rfl, a, p, i * e, rfl, hp1, hp2, ?_, fun u H4 p' hb ha4 hp4 hself => ?_⟩
      · have : i * e ≤ 3 * e := Nat.mul_le_mul_right e (by omega)
        omega
      · refine ⟨u, rfl, hself, fun H5 hb5 => ?_⟩
        have h4D : H4 D = some (.lst (List.replicate i (.bl true))) := hb D _ (fun z => naD z.symm) hD3
        refine ⟨_, hb5 D _ h4D, ?_, ?_, ⟨p', ?_, ?_⟩, ?_⟩
        · rw [List.length_replicate]
          exact Nat.lt_trans hi3 (by decide)
        · rw [upd_same, List.replicate_succ']
        · rw [upd_ne naD]; exact hb5 a _ ha4
        · rw [show (i + 1) * e = i * e + e by rw [Nat.add_mul, Nat.one_mul]]; exact hp4
        · exact klst_keep (klst_up (klst_keep hk3 hp1 hb) hb5) (hb5 D _ h4D) fun b w nb hw => by rw [upd_ne nb]; exact hw
    · obtain ⟨hD3, ⟨p, hp1, hp2⟩, hk3⟩ := hv
      refine ⟨D, List.replicate 3 true, rfl, SqL.of hD3, true, rfl, ⟨_, _, _, rfl⟩, hk3⟩
end
end Mi.k00
set_option maxHeartbeats 8000000
namespace Mi.k00
open PySem PySem.Spec L2 Mi
abbrev ow : List (Nat × Nat) := [(33, 42)]
section
variable {P0 : Program} {w : World} {K : PySem.W.Frag} {mg : Str → Option Value} {base : Heap}
/-- the same Book, of a text -/
def RBook (C : Addr) : Addr → Addr → Hp → Prop := fun a b H => a = b ∧ ∃ dx fs s, H a = some (.ins C dx fs) ∧ fs.lookup ("text" : Str) = some (.str s)
theorem scB : FnScope ["self", "other"] ["self", "other"] d45.scope := scopeB_ok (by decide +kernel)
theorem ok_bookEq [Th] (t : Txt TT P (tb.GC K) (tb.A K) tb.ok K mg) {f : Addr} {fd : FuncData} (U : FunD K d45.name d45.qual d45.params d45.body d45.scope (d45.dvs K) (d45.kws K) f fd) :
    FnOk P0 w K mg base (L2.CX P0 w) 1 f fd ["self", "other"] (spEq (RBook ((tb.GC K).C 33))) := by
  have mi := t.free "isinstance" (by decide)
  have gB := t.cls 33 "Book" _ rfl rfl
  obtain ⟨q1, q2, q3, q4, q5⟩ := t.own 33 _ rfl rfl
  obtain ⟨nm, en, na⟩ := t.attr 33 _ 42 rfl rfl rfl
  have en : some ("text" : Str) = some nm := en
  cases en
  have ki := t.isa (.own 33) (.own 33) true rfl
  refine U.ok scB (fun vs H Q E h => ?_) (fun cdv A outer s H vs Q E hr h => ?_)
  · obtain ⟨a, b, rfl, _⟩ := h
    rfl
  · refine ⟨_, pss_one (ps_ret (pe_and (pe_callB call_isi rfl mi rfl (pa_cons (pv 1) (pa_cons (pe_glob (v := .ref ((tb.GC K).C 33)) rfl gB rfl) pa_nil))) (pe_one (pe_cmpR op_eq (pe_fld (pv 0) rfl) (pe_fld (pv 1) rfl) (nomark _))))), ?_⟩
    obtain ⟨a, b, rfl, ⟨rfl, dx, fs, sx, ha, hl⟩, q⟩ := h
    refine ⟨_, rfl, _, _, _, _, true, rfl, .own _, .base (.ins ha q1 q2 q3 q4 q5), ki, true, rfl, ?_⟩
    refine ⟨_, rfl, _, _, _, _, _, rfl, ha, q1, na, hl, _, rfl, _, _, _, _, _, rfl, ha, q1, na, hl, rfl, ?_⟩
    rw [decide_eq_true rfl]
    exact q H fun _ _ e => e
theorem own_eq (t : ∀ th : Th, @Txt th TT P (tb.GC K) (tb.A K) tb.ok K mg) (c : He.SaysD [] ds K) : OwnEq P0 w K mg base 1 (ownE (tb.GC K) ow) := by
  intro X hP hw hK hmg hb hc
  subst hP hw hK hmg hb
  letI th : Th := ⟨fun _ => .non, fun _ => none⟩
  have t1 := t th
  obtain ⟨fd, U⟩ := c.def_ 45 (d := d45) rfl
  have eA : He.fAd X.K d45.at_ = tb.A X.K 45 := rfl
  rw [eA] at U
  obtain ⟨o, nm, F, e1, e2, e3⟩ := t1.meth 33 _ 1 45 rfl rfl rfl
  have e1 : some ("__eq__" : Str) = some nm := e1
  cases e1
  have F1 := ok_bookEq (P0 := X.prog) (w := X.w) (base := X.base) t1 U
  have b : Binds X.K fd ["self", "other"] [] := U.bindsN fun _ _ _ _ _ _ us hl => match us, hl with | [_, _], _ => rfl
  have R := rcG_ins (X := X) F1 e2.at_ e2.fn b (passN rfl rfl)
  intro A pins s σ H x y u v sb I rx ry d
  obtain ⟨a, C, dx, fs, rfl, rfl, ha, cI, f, nm, sx, e4, rfl, e5, e6⟩ := d
  have : cI = 33 ∧ f = 42 := by
    have e4 : List.lookup cI [((33 : Nat), (42 : Nat))] = some f := e4
    rw [List.lookup_cons] at e4
    split at e4
    · rename_i z
      cases e4
      exact ⟨eq_of_beq z, rfl⟩
    · cases e4
  obtain ⟨rfl, rfl⟩ := this
  have e5 : some ("text" : Str) = some nm := e5
  cases e5
  exact R A pins s σ H _ _ u v sb I rx ry ⟨a, a, dx, dx, fs, fs, rfl, rfl, ha, ha, rfl, dx, fs, sx, ha, e6⟩
end
end Mi.k00
set_option maxHeartbeats 8000000
namespace Mi.k00
open PySem PySem.Spec L2 Mi
def kk : Tk := ⟨41, 13, 60013, 4801, 31, 70001, 47, 10037, 61, 101⟩
theorem kkOk : kk.Ok := ⟨by decide, by decide, by decide, by decide, by decide, by decide, by decide, by decide, by decide, by decide, by decide, by decide, by decide⟩
theorem statN {F : Fn} {d : He.DefD} (h : ∀ th : Th, @DStat th tb F d) : ∃ (N ps : List Str) (n : Nat), FnScope N ps d.scope ∧ F.body = compSs tb.T tb.NM tb.P n ⟨N, d.scope, fun _ => true⟩ d.body ∧ F.np = ps.length ∧ F.nl = N.length ∧
    ∀ (K : PySem.W.Frag) (f : Addr) (fd : FuncData), FunD K d.name d.qual d.params d.body d.scope (d.dvs K) (d.kws K) f fd → Binds K fd ps [] := by
  letI th : Th := ⟨fun _ => .non, fun _ => none⟩
  obtain ⟨N, ps, n, S, hb, hnp, hnl, bd⟩ := (h th).st
  exact ⟨N, ps, n, S, hb, hnp, hnl, fun K f fd U => (bd K f fd U).1⟩
section
variable {P0 : Program} {w : World} {K : PySem.W.Frag} {mg : Str → Option Value} {base : Heap}
theorem wd0 (t : ∀ th : Th, @Txt th TT P (tb.GC K) (tb.A K) tb.ok K mg) (H0 : Hp) : @Wd ⟨fun _ => .non, H0⟩ TT P (callV P (fun _ => none) 0) (tb.GC K) 1 P0 w K mg base :=
  @wd_allV ⟨fun _ => .non, H0⟩ TT (tb.GC K) P (tb.A K) tb.ok P0 w K mg base (t _) 1 (Nat.le_refl _) (eqS_th ⟨fun _ => .non, H0⟩ (E := fun _ _ => False) (n := 0) ownEq_no (by omega) fun _ => .base .non) (fun _ => none) (fun _ _ _ e => nomatch e) 0
theorem fnN (t : ∀ th : Th, @Txt th TT P (tb.GC K) (tb.A K) tb.ok K mg) (f : Nat) (x : Str) (h : TT.fns[f]? = some (some x)) : mg x = some (.ref (tb.A K f)) ∧ PySem.W.keepIn K (.ref (tb.A K f)) = true := by
  letI th : Th := ⟨fun _ => .non, fun _ => none⟩
  exact ((t th).fn f x h).2
theorem gdP (t : ∀ th : Th, @Txt th TT P (tb.GC K) (tb.A K) tb.ok K mg) (c : He.SaysD [] ds K) : Nonempty (Gd P0 w K mg base 3 "_law_pot" (spPot K)) := by
  obtain ⟨fd, U⟩ := c.def_ 50 (d := d50) rfl
  letI th : Th := ⟨fun _ => .non, fun _ => none⟩
  obtain ⟨N, ps, n, S, hb, hnp, hnl, bd⟩ := (h50).st
  obtain ⟨b0, us, es, b1, b2, b3⟩ := bd K _ fd U
  have F := ok_pot (T := TT) (GC := tb.GC K) (P := P) (P0 := P0) (w := w) (mg := mg) (base := base) kkOk U S hb hnp hnl (fun H0 => wd0 t H0)
  obtain ⟨o, m, kp⟩ := (t th).fn 50 "_law_pot" rfl
  exact ⟨⟨_, fd, ps, F, m, kp, b0⟩⟩
theorem okTake (t : ∀ th : Th, @Txt th TT P (tb.GC K) (tb.A K) tb.ok K mg) (c : He.SaysD [] ds K) : ∃ fd ps, FnOk P0 w K mg base (L2.CX P0 w) 3 (tb.A K 51) fd ps (spTake kk) ∧ ps.length = 2 ∧ Binds K fd ps [] := by
  obtain ⟨fd, U⟩ := c.def_ 51 (d := d51) rfl
  letI th : Th := ⟨fun _ => .non, fun _ => none⟩
  obtain ⟨N, ps, n, S, hb, hnp, hnl, bd⟩ := (h51).st
  obtain ⟨b0, us, es, b1, b2, b3⟩ := bd K _ fd U
  have F := ok_take (T := TT) (GC := tb.GC K) (P := P) (P0 := P0) (w := w) (mg := mg) (base := base) kkOk U S hb hnp hnl (fun H0 => wd0 t H0)
  exact ⟨fd, ps, F, hnp.symm, b0⟩
theorem facts_eo (c : tb.ex K = true) (h : (He.eqO (PySem.W.findIn K (.ref ((tb.GC K).C 0)) "__eq__") (some (some (.builtin "object.__eq__"))) && He.eqO (PySem.W.findIn K (.ref ((tb.GC K).C 22)) "__eq__") (some (some (.builtin "object.__eq__")))) = true) (t : ∀ th : Th, @Txt th TT P (tb.GC K) (tb.A K) tb.ok K mg) :
    ∀ x, ([0, 22] : List Nat).contains x = true → PySem.W.mroIn K ((tb.GC K).C x) (.type "object") = some true ∧ PySem.W.findIn K (.ref ((tb.GC K).C x)) "__eq__" = some (some (.builtin "object.__eq__")) := by
  intro x hx
  letI th : Th := ⟨fun _ => .non, fun _ => none⟩
  obtain ⟨h1, h2⟩ := He.ba h
  have hx : x = 0 ∨ x = 22 := by simpa using hx
  rcases hx with rfl | rfl
  · obtain ⟨_, _, _, q, _⟩ := (t th).exc 0 _ rfl rfl
    exact ⟨q.hm, He.eqO_ok h1⟩
  · obtain ⟨_, _, _, q, _⟩ := (t th).exc 22 _ rfl rfl
    exact ⟨q.hm, He.eqO_ok h2⟩
theorem gdT (t : ∀ th : Th, @Txt th TT P (tb.GC K) (tb.A K) tb.ok K mg) (c : He.SaysD [] ds K)
    (eo : ∀ x, ([0, 22] : List Nat).contains x = true → PySem.W.mroIn K ((tb.GC K).C x) (.type "object") = some true ∧ PySem.W.findIn K (.ref ((tb.GC K).C x)) "__eq__" = some (some (.builtin "object.__eq__"))) :
    Nonempty (Gd P0 w K mg base 63 "_law_thing" (spThing K (ownE (tb.GC K) ow) 6)) := by
  obtain ⟨fd, U⟩ := c.def_ 54 (d := d54) rfl
  obtain ⟨N, ps, n, S, hb, hnp, hnl, bd⟩ := statN fun th => @h54 th
  have b0 := bd K _ fd U
  obtain ⟨m, kp⟩ := fnN t 54 "_law_thing" rfl
  obtain ⟨fdT, psT, FT, lT, bT⟩ := okTake (P0 := P0) (w := w) (base := base) t c
  refine ⟨⟨_, fd, ps, ⟨fun vs H Q E h => ?_, fun A outer s H args us vs Q E hr e0 hbd hv hsp => ?_⟩, m, kp, b0⟩⟩
  · obtain ⟨a, p, cc, rfl, _⟩ := h
    exact hnp
  · obtain ⟨a, p, cc, rfl, ha, hp, hc, q⟩ := hsp
    obtain ⟨ds', cd, gd, hl⟩ := explored kkOk hp allT (ds := []) trivial
    have hl : ds'.length ≤ 6 := by simpa using hl
    letI th : Th := thBut (thP kk p ds') H a
    have es : EqS P0 w K mg base 3 := eqS_th th (own_eq (P0 := P0) (w := w) (base := base) t c) (by omega) fun i => by
      obtain ⟨x, ex⟩ := thP_int (k := kk) (p := p) (ds := ds') i
      have : th.θ i = .int x := ex
      rw [this]
      exact .base (.int x)
    have wd := wd_allV (t th) (m := 3) (by omega) es (ov := ovT ds') (fun f F r e eF => by
      unfold ovT at e
      split at e
      · rename_i z
        subst z
        cases e
        cases eF
        exact ⟨fdT, psT, ok_takeP kkOk FT th rfl cd hp (by omega) lT, lT, bT, [], [], bT, .nil, fun _ _ => .nil⟩
      · cases e) 29
    have F := okD (r := runFn P (callV P (ovT ds') 29) fn54) U S hb hnp hnl wd (fun xs h _ => .inr (.inl rfl))
    refine F.run A outer s H args us _ Q E hr e0 hbd hv ?_
    refine ⟨rfl, [a], [.ref 0], [.lst [.sym 0, .sym 1, .sym 2]], rh_one ⟨_, ha, ?_⟩, .cons (.ref rfl) .nil, ?_⟩
    · obtain ⟨t0, t1, t2⟩ := thP_at (k := kk) (p := p) (q := p) (ds := ds') (j := 0) (by cases ds' <;> rfl)
      refine .cons ?_ (.cons ?_ (.cons ?_ .nil))
      · rw [← t0]; exact .sym 0
      · rw [← t1]; exact .sym 1
      · rw [← t2]; exact .sym 2
    · unfold goodT at gd
      split at gd
      · rename_i v h' ev
        obtain ⟨g1, g2⟩ := He.ba gd
        rw [ev]
        intro μ' H' u e' k' rh rv
        have ea : μ'[0]? = some a := e' 0 a rfl
        unfold potB at g2
        split at g2
        · rename_i x y z ez
          obtain ⟨i2, i0⟩ := He.ba g2
          obtain ⟨i3, i4⟩ := He.ba i0
          have j2 : x = 3 * ds'.length := Nat.eq_of_beq_eq_true i2
          have j3 : y = x + 1 := Nat.eq_of_beq_eq_true i3
          have j4 : z = x + 2 := Nat.eq_of_beq_eq_true i4
          subst j3 j4 j2
          obtain ⟨a', ea', vs', hvs, rvs⟩ := rh.obj 0 _ ez
          rw [ea] at ea'
          cases ea'
          obtain ⟨t0, t1, t2⟩ := thP_at (pots_end (k := kk) (p := p) (ds := ds'))
          refine q u H' (endP kk p ds') (fun b w nb hw => rh.wld b w ((if_neg nb).trans hw)) ?_ ?_ ?_
          · rw [hvs]
            cases rvs with
            | cons r1 rvs =>
              cases rvs with
              | cons r2 rvs =>
                cases rvs with
                | cons r3 rvs =>
                  cases rvs
                  cases r1; cases r2; cases r3
                  have z0 : th.θ (3 * ds'.length) = .int (endP kk p ds').1 := t0
                  have z1 : th.θ (3 * ds'.length + 1) = .int (endP kk p ds').2.1 := t1
                  have z2 : th.θ (3 * ds'.length + 2) = .int (endP kk p ds').2.2 := t2
                  rw [z0, z1, z2]
          · exact (end_ok kkOk cd hp).mono (by omega)
          · exact selfB_ok rh rv (t th).nm (fun c f e => by
              have e4 : List.lookup c [((33 : Nat), (42 : Nat))] = some f := e
              rw [List.lookup_cons] at e4
              split at e4
              · cases e4
                exact ⟨_, rfl⟩
              · cases e4) eo g1
        · cases g2
      · cases gd
theorem gdR (t : ∀ th : Th, @Txt th TT P (tb.GC K) (tb.A K) tb.ok K mg) (c : He.SaysD [] ds K) : Nonempty (Gd P0 w K mg base 61 "_law_right" (spAnySelf K (ownE (tb.GC K) ow))) := by
  obtain ⟨fd, U⟩ := c.def_ 57 (d := d57) rfl
  obtain ⟨N, ps, n, S, hb, hnp, hnl, bd⟩ := statN fun th => @h57 th
  have b0 := bd K _ fd U
  obtain ⟨m, kp⟩ := fnN t 57 "_law_right" rfl
  refine ⟨⟨_, fd, ps, ⟨fun vs H Q E h => ?_, fun A outer s H args us vs Q E hr e0 hbd hv hsp => ?_⟩, m, kp, b0⟩⟩
  · obtain ⟨v, rfl, _⟩ := h
    exact hnp
  · obtain ⟨v, rfl, sk, q⟩ := hsp
    letI th : Th := thOf v H
    have es : EqS P0 w K mg base 1 := eqS_th th (own_eq (P0 := P0) (w := w) (base := base) t c) (by omega) fun _ => sk
    have wd := wd_allV (t th) (m := 1) (by omega) es (ov := fun _ => none) (fun _ _ _ e => nomatch e) 29
    obtain ⟨r, er0⟩ : ∃ r, r = runFn P (callV P (fun _ => none) 29) fn57 := ⟨_, rfl⟩
    have F := okD (r := r) U S hb hnp hnl wd (fun xs h _ => .inr (.inl (by rw [er0])))
    have ex : ∃ h', r [.sym 0] [] = .ok (.bl true) h' := by rw [er0]; exact allR'
    clear er0
    refine F.run A outer s H args us _ Q E hr e0 hbd hv ?_
    refine ⟨rfl, [], [.sym 0], [], rh_empty, .cons (.sym 0) .nil, ?_⟩
    obtain ⟨h', er⟩ := ex
    rw [er]
    intro μ' H' u e' k' rh rv
    cases rv
    exact q H' fun b w hw => rh.wld b w hw
end
end Mi.k00
set_option maxHeartbeats 8000000
namespace Mi
open PySem PySem.Spec L2 PyProof.Rows
/-- a law's end, what it lets out hanging on the world -/
theorem walk_ofW {l : PySem.W.OpenLaw} {n k : Nat} {q : Program} {loose : List Str} {XP : (Str → Option Value) → Heap → Prop} {YP : World → Heap → Prop} {d : DefRec} {x : Str} (hn : l.most = some n) (hn2 : n ≤ sizeLine) (hdf : d.params.defaults = []) (hr : Room k callerA)
    (F : ∀ (w : World) (mg : Str → Option Value) (fa : Addr) (h : Heap), YP w h → h.Ns mainGlobals mg → mg d.name = some (.ref fa) → ∃ (K : PySem.W.Frag) (fd : FuncData) (sp : Sp), K.In h ∧ (∀ (s : Shared) (u : Value), BindsTo s fd ⟨[u], []⟩ [(x, u)]) ∧
      (∀ (H : Hp) (a : Addr) (ns : List Int), ns.length ≤ n → Only H → SqL K H a (ns.map V.int) → sp [.ref a] H (fun v _ => v = .bl true) fun _ _ _ => False) ∧ ∀ base : Heap, K.In base → base.Ns mainGlobals mg → FnOk l.prog w K mg base (L2.CX l.prog w) k fa fd [x] sp) :
    PySem.W.WalkO q loose XP YP l.row.toRowW d [] (fun f vs => PySem.call f vs) := by
  refine Att.attach_call hn hdf fun w s₀ s₁ mg mb fa o pm cd doc a vs ns G Y ho hd hcd hmg hobj hints hlen hg => ?_
  obtain ⟨K, fd, sp, KX, hb, hsp, hF⟩ := F w mg fa _ Y G.T.g hmg
  refine law_call KX G.T.g G.T.b G.T.builtins G.T.nolimit hg hobj hints (Nat.le_trans hlen hn2) hr hF hb (fun H hO hS => hsp H a ns hlen hO hS) fun H e s' z => ?_
  obtain ⟨_, _, _, _, _, _, _, _, _, _, _, _, z⟩ := z
  exact z
theorem klst_only {K : PySem.W.Frag} {H : Hp} {a : Addr} {xs : List V} (o : Only H) (s : SqL K H a xs) : KLst K H a xs := by
  rcases s with (s | ⟨ob, s⟩) | s
  · rcases o a with z | ⟨ob, ys, z⟩
    · rw [z] at s; cases s
    · rw [z] at s; cases s
  · exact .inl ⟨ob, s⟩
  · exact .inr s
end Mi
namespace Mi.k00
open PySem PySem.Spec L2 Mi
theorem facts {P0 : Program} {w : World} {K : PySem.W.Frag} {h : Heap} {mg : Str → Option Value} {f : Addr} (X : K.In h) (G : h.Ns mainGlobals mg) (hfa : mg ("law" : Str) = some (.ref f)) (cd : He.SaysD [] ds K) (cm : exK K = true) :
    ∃ fd : FuncData, (∀ (s : Shared) (v : Value), BindsTo s fd ⟨[v], []⟩ [("_law_script", v)]) ∧ ∀ base : Heap, K.In base → base.Ns mainGlobals mg → FnOk P0 w K mg base (L2.CX P0 w) 128 f fd ["_law_script"] (spLaw K) := by
  obtain ⟨cm0, cm00, cm2⟩ := exK_ok cm
  have cm1 : tb.ex K = true := te_ok cm0 cm00
  have t : ∀ th : Th, @Txt th TT P (tb.GC K) (tb.A K) tb.ok K mg := fun th => @Tb.txt th tb K h mg (@okT th) X G cm1 cd
  obtain ⟨fd, U⟩ := cd.def_ 58 (d := d58) rfl
  obtain ⟨m, kp⟩ := fnN t 58 "law" rfl
  have e : He.fAd K d58.at_ = f := by
    have e1 : some (Value.ref (tb.A K 58)) = some (.ref f) := m.symm.trans hfa
    cases e1
    rfl
  rw [e] at U
  have b := FunD.bindsA (ps := ["_law_script"]) U fun _ _ _ _ _ _ us hl => match us, hl with | [_], _ => rfl
  refine ⟨fd, fun s v => b s [v] rfl, fun base _ _ => ?_⟩
  obtain ⟨GP⟩ := gdP (P0 := P0) (w := w) (base := base) t cd
  obtain ⟨GT⟩ := gdT (P0 := P0) (w := w) (base := base) t cd (facts_eo cm1 cm2 t)
  obtain ⟨GR⟩ := gdR (P0 := P0) (w := w) (base := base) t cd
  exact ok_law U GP GT GR (by decide) fun x hx => (t ⟨fun _ => .non, fun _ => none⟩ |> fun q => @Txt.free ⟨fun _ => .non, fun _ => none⟩ _ _ _ _ _ _ _ q x (by
    simp only [List.mem_cons, List.not_mem_nil, or_false] at hx ⊢
    rcases hx with h | h | h | h | h <;> rw [h] <;> decide))
end Mi.k00
open PySem PySem.W PySem.Calls PyProof.Rows
theorem PySem.Challenge.cw_unmissed_k00_errors_holds : PySem.Challenge.rw_unmissed_k00_errors.Holds := by
  w_on; o_law
  refine HandSHeadRun.head_imp (r := Mi.k00.Rw) (q := Mi.k00.qv) (H := Mi.k00.hk) (ob := Mi.k00.ob) (M := 10000) (loose := Mi.k00.loose) (d := HandSHeadRun.topDef Mi.k00.Rw.prog 98) (kwd := []) Mi.k00.ob_eq
    Mi.k00.run (by kernel_rfl) (by kernel_rfl) (by rfl) (by decide +kernel) (by decide +kernel) (by decide +kernel) ⟨rfl, rfl, rfl, rfl, rfl, by decide +kernel⟩ ?hw ?hc
  case hw => w_witness2
  case hc =>
    refine Mi.walk_ofW (l := PySem.Challenge.rw_unmissed_k00_errors) (n := 63) (k := 128) (x := "_law_script") rfl (by decide) (by kernel_rfl) ⟨rfl, by decide, by decide⟩ ?F
    intro w mg fa h Y G hmg0
    obtain ⟨K, KX, cd, cm⟩ := Y
    have hmg : mg ("law" : PySem.Str) = some (.ref fa) := by
      have e : (HandSHeadRun.topDef Mi.k00.Rw.prog 98).name = ("law" : PySem.Str) := by kernel_rfl
      rw [← e]
      exact hmg0
    obtain ⟨fd, hb, hF⟩ := Mi.k00.facts (P0 := (PySem.Challenge.rw_unmissed_k00_errors).prog) (w := w) KX G hmg cd cm
    exact ⟨K, fd, Mi.spLaw K, KX, hb, fun H a ns hl hO hS => ⟨a, ns, rfl, Mi.klst_only hO hS, hl, fun _ => rfl⟩, hF⟩
