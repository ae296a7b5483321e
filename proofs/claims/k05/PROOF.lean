import PyProof.Rows.All
import Wide.All
import OpenK.AllK
import Wide.FinOn
import HandS.HeadHook4
import HandS.ExcIs
import HandS.ExcField
import HandS.ForMost
import HandS.Exc
import HandS.ExcOwn
import HandS.Defaults
import HandS.IsInst
import HandS.SortInts
import HandS.Wide
import HandS.Deep
import HandS.RaiseMore
import HandS.Style
import HandS.TupLe
import HandS.TupMul
import KE.KSortedM
import HandS.BoundList
import HandS.Dict
import HandS.SetFor
import OpenK.KOps
import PyProof.Draws
import KE.GoesMore
import HandS.Iter
import KE.GoesEnum
import HandS.Ends
import HandS.HeadEnd
import HandS.NoneIn
import HandS.Head2
import HandS.HeadHook2
import HandS.Strs
import HandS.TupSets
import HandS.Conv
import HandS.RevRange
import PyProof.CollectIter
import PyProof.ListRange
import HandS.TryMany
import HandS.ExcInit
import KE.KIsAll
import HandS.Codes
import HandS.Head0
import HandS.Head1
import HandS.HeadHook1
import PyProof.FitsInt
import PySem.Challenge.RW_otherfirst_k05_legal_tasks_and_runs
set_option Elab.async false
set_option linter.all false
section
set_option Elab.async false
set_option linter.all false
set_option maxRecDepth 100000
namespace Me
open PySem PySem.Spec L2
open PyProof.Rows hiding St
/-! ### what the head must find of the exceptions and of own classes -/
def oexB (K : PySem.W.Frag) (C : Addr) : Bool :=
  (match K.lookup C with
    | some ⟨.type "type", _, .cls z, sl⟩ => (match z.mro, sl.toList with
      | .ref q :: bm, [_, _, _, _, some (.builtin n), _] => decide (q = C) && (decide (n = "ValueError.__new__") && (z.hasDict && (!z.hasDel && PySem.HandSPX.refsVE bm)))
      | _, _ => false)
    | _ => false) && (decide (PySem.W.findIn K (.ref C) "__setattr__" = some (some (.builtin "object.__setattr__"))) && (decide (PySem.W.subIn K (.ref C) (.type "BaseException") = some true) &&
    (decide (PySem.W.typeIn K (.ref C) = some (.type "type")) && PySem.W.keepIn K (.ref C))))
structure ExF where
  c : Str
  f : Str
def exfB (K : PySem.W.Frag) (q : ExF) : Bool := decide (PySem.W.nsIn K mainGlobals q.c = some (some (.ref (He.ga K q.c)))) && (oexB K (He.ga K q.c) && (xfB K (He.ga K q.c) && (decide (PySem.W.findIn K (.ref (He.ga K q.c)) q.f = some none) &&
  (decide (PySem.W.findIn K (.ref (He.ga K q.c)) "__init__" = some (some (.ref (He.ma K (He.ga K q.c) "__init__")))) && decide (PySem.W.typeIn K (.ref (He.ma K (He.ga K q.c) "__init__")) = some (.type "function"))))))
def excB (K : PySem.W.Frag) (qs : List ExF) (base : Str) : Bool := qs.all fun x => exfB K x && (decide (PySem.W.kitOne K (.ref (He.ga K x.c)) (.ref (He.ga K base)) = some true) && qs.all fun y => decide (PySem.W.exmOne K (.ref (He.ga K x.c)) (.ref (He.ga K y.c)) = some (decide (x.c = y.c))))
def insB (K : PySem.W.Frag) (C : Addr) : Bool := decide (PySem.W.findIn K (.ref C) "__class__" = some (some (.builtin "object.__class__"))) && (decide (PySem.W.specialIn K (.builtin "object.__class__") "__get__" = some (some (.builtin "getset_descriptor.__get__"))) &&
  (decide (PySem.W.takesIn K (.builtin "object.__class__") = some true) && (decide (PySem.W.mroIn K C (.type "object") = some true) && decide (PySem.W.kitOne K (.ref C) (.ref C) = some true))))
/-! ### the hook: what is told, and one more Bool -/
abbrev AlE : Type := He.AlD × Bool
def obsE (n : Nat) (fa : List He.Fa) (fn : List He.DefD) (ex : PySem.W.Frag → Bool) (g : Addr → Option Obj) : AlE := (He.obsD fa fn (He.frG g (He.asD g n)), ex (He.frG g (He.asD g n)))
def hookE (n : Nat) (fa : List He.Fa) (fn : List He.DefD) (ex : PySem.W.Frag → Bool) : PySem.W.Hook where
  α := AlE
  obs := fun s => obsE n fa fn ex s.heap.get?
  val := fun _ => (He.valD fn, true)
  says := fun _ h => ∃ K : PySem.W.Frag, K.In h ∧ He.SaysD fa fn K ∧ ex K = true
  of := fun _ _ e => ⟨_, He.frG_in, congrArg (fun z : AlE => z.1) e, congrArg (fun z : AlE => z.2) e⟩
  keeps := fun _ _ _ ⟨K, hK, c⟩ k => ⟨K, PySem.W.Frag.In.keeps hK k, c⟩
theorem obsE_eq {n : Nat} {fa : List He.Fa} {fn : List He.DefD} {ex : PySem.W.Frag → Bool} {g : Addr → Option Obj} {s : Shared} (h : ∀ a, g a = s.heap.get? a) : obsE n fa fn ex g = (hookE n fa fn ex).obs s := by
  have e : g = s.heap.get? := funext h
  rw [e] <;> rfl
end Me
end
section
set_option Elab.async false
set_option linter.all false
set_option maxRecDepth 100000
set_option maxHeartbeats 0
namespace K05
open PySem PySem.Spec L2 Me
open PyProof.Rows hiding St
def bodyC : Stmt → List Stmt
  | .ClassDef (body := b) .. => b
  | _ => []
abbrev tp (i : Nat) : Stmt := PySem.Challenge.pw_otherfirst_k05_legal_tasks_and_runs.main.body.getD i (.Pass ⟨0, 0, 0, 0⟩)
abbrev mt (i j : Nat) : Stmt := (bodyC (tp i)).getD j (.Pass ⟨0, 0, 0, 0⟩)
abbrev st_u_law_box : Stmt := tp 46
abbrev st_u_law_cell : Stmt := tp 45
abbrev st_is_integer : Stmt := tp 15
abbrev st_is_count : Stmt := tp 16
abbrev st_is_index : Stmt := tp 17
abbrev st_is_tuple_of : Stmt := tp 21
abbrev st_u_is_end : Stmt := tp 35
abbrev st_is_ascending : Stmt := tp 19
abbrev st_u_is_task : Stmt := tp 34
abbrev st_is_row : Stmt := tp 20
abbrev st_are_tasks : Stmt := tp 32
abbrev st_is_from_to : Stmt := tp 18
abbrev st_marks_of : Stmt := tp 33
abbrev st_Net___init__ : Stmt := mt 27 0
abbrev st_Net___len__ : Stmt := mt 27 1
abbrev st_check_task : Stmt := tp 23
abbrev st_Net_ends : Stmt := mt 27 3
abbrev st_u_is_last : Stmt := tp 36
abbrev st_is_lasts : Stmt := tp 29
abbrev st_check_lasts : Stmt := tp 31
abbrev st_is_load : Stmt := tp 28
abbrev st_check_load : Stmt := tp 30
abbrev st_State___init__ : Stmt := mt 38 0
abbrev st_u_law_bars : Stmt := tp 53
abbrev st_u_law_at : Stmt := tp 51
abbrev st_u_law_known : Stmt := tp 52
abbrev st_u_law_take : Stmt := tp 47
abbrev st_u_law_large : Stmt := tp 65
abbrev st_u_law_legal : Stmt := tp 54
abbrev st_u_law_listed : Stmt := tp 61
abbrev st_u_law_is_state : Stmt := tp 60
abbrev st_Barred___init__ : Stmt := mt 11 0
abbrev st_NothingLeft___init__ : Stmt := mt 10 0
abbrev st_bars_vc : Stmt := tp 42
abbrev st_run_vt : Stmt := tp 43
abbrev st_u_law_met : Stmt := tp 59
abbrev st_u_law_ran : Stmt := tp 55
abbrev st_u_law_run_right : Stmt := tp 62
abbrev st_bars : Stmt := tp 42
abbrev st_can_run : Stmt := tp 41
abbrev st_legal_vc : Stmt := tp 40
abbrev st_u_law_large_right : Stmt := tp 66
abbrev st_u_law_past : Stmt := tp 56
abbrev st_u_law_lasts : Stmt := tp 57
abbrev st_u_law_load : Stmt := tp 58
abbrev st_u_law_moment : Stmt := tp 63
abbrev st_run : Stmt := tp 43
abbrev st_u_law_walk_right : Stmt := tp 64
abbrev st_u_law_mixed : Stmt := tp 48
abbrev st_u_law_pairs : Stmt := tp 49
abbrev st_u_law_world : Stmt := tp 50
abbrev st_legal : Stmt := tp 40
abbrev st_u_law_right : Stmt := tp 67
abbrev st_law : Stmt := tp 68
def d_u_law_box : He.DefD := ⟨("_law_box", none), "_law_box", "_law_box", defArgs st_u_law_box, defBody st_u_law_box, defScope st_u_law_box, [], []⟩
def d_u_law_cell : He.DefD := ⟨("_law_cell", none), "_law_cell", "_law_cell", defArgs st_u_law_cell, defBody st_u_law_cell, defScope st_u_law_cell, [], []⟩
def d_is_integer : He.DefD := ⟨("is_integer", none), "is_integer", "is_integer", defArgs st_is_integer, defBody st_is_integer, defScope st_is_integer, [], []⟩
def d_is_count : He.DefD := ⟨("is_count", none), "is_count", "is_count", defArgs st_is_count, defBody st_is_count, defScope st_is_count, [], []⟩
def d_is_index : He.DefD := ⟨("is_index", none), "is_index", "is_index", defArgs st_is_index, defBody st_is_index, defScope st_is_index, [], []⟩
def d_is_tuple_of : He.DefD := ⟨("is_tuple_of", none), "is_tuple_of", "is_tuple_of", defArgs st_is_tuple_of, defBody st_is_tuple_of, defScope st_is_tuple_of, [], []⟩
def d_u_is_end : He.DefD := ⟨("_is_end", none), "_is_end", "_is_end", defArgs st_u_is_end, defBody st_u_is_end, defScope st_u_is_end, [], []⟩
def d_is_ascending : He.DefD := ⟨("is_ascending", none), "is_ascending", "is_ascending", defArgs st_is_ascending, defBody st_is_ascending, defScope st_is_ascending, [], []⟩
def d_u_is_task : He.DefD := ⟨("_is_task", none), "_is_task", "_is_task", defArgs st_u_is_task, defBody st_u_is_task, defScope st_u_is_task, [], []⟩
def d_is_row : He.DefD := ⟨("is_row", none), "is_row", "is_row", defArgs st_is_row, defBody st_is_row, defScope st_is_row, [], []⟩
def d_are_tasks : He.DefD := ⟨("are_tasks", none), "are_tasks", "are_tasks", defArgs st_are_tasks, defBody st_are_tasks, defScope st_are_tasks, [], []⟩
def d_is_from_to : He.DefD := ⟨("is_from_to", none), "is_from_to", "is_from_to", defArgs st_is_from_to, defBody st_is_from_to, defScope st_is_from_to, [], []⟩
def d_marks_of : He.DefD := ⟨("marks_of", none), "marks_of", "marks_of", defArgs st_marks_of, defBody st_marks_of, defScope st_marks_of, [], []⟩
def d_Net___init__ : He.DefD := ⟨("Net", some "__init__"), "__init__", "Net.__init__", defArgs st_Net___init__, defBody st_Net___init__, defScope st_Net___init__, [], []⟩
def d_Net___len__ : He.DefD := ⟨("Net", some "__len__"), "__len__", "Net.__len__", defArgs st_Net___len__, defBody st_Net___len__, defScope st_Net___len__, [], []⟩
def d_check_task : He.DefD := ⟨("check_task", none), "check_task", "check_task", defArgs st_check_task, defBody st_check_task, defScope st_check_task, [], []⟩
def d_Net_ends : He.DefD := ⟨("Net", some "ends"), "ends", "Net.ends", defArgs st_Net_ends, defBody st_Net_ends, defScope st_Net_ends, [], []⟩
def d_u_is_last : He.DefD := ⟨("_is_last", none), "_is_last", "_is_last", defArgs st_u_is_last, defBody st_u_is_last, defScope st_u_is_last, [], []⟩
def d_is_lasts : He.DefD := ⟨("is_lasts", none), "is_lasts", "is_lasts", defArgs st_is_lasts, defBody st_is_lasts, defScope st_is_lasts, [], []⟩
def d_check_lasts : He.DefD := ⟨("check_lasts", none), "check_lasts", "check_lasts", defArgs st_check_lasts, defBody st_check_lasts, defScope st_check_lasts, [], []⟩
def d_is_load : He.DefD := ⟨("is_load", none), "is_load", "is_load", defArgs st_is_load, defBody st_is_load, defScope st_is_load, [], []⟩
def d_check_load : He.DefD := ⟨("check_load", none), "check_load", "check_load", defArgs st_check_load, defBody st_check_load, defScope st_check_load, [], []⟩
def d_State___init__ : He.DefD := ⟨("State", some "__init__"), "__init__", "State.__init__", defArgs st_State___init__, defBody st_State___init__, defScope st_State___init__, [.non], []⟩
def d_u_law_bars : He.DefD := ⟨("_law_bars", none), "_law_bars", "_law_bars", defArgs st_u_law_bars, defBody st_u_law_bars, defScope st_u_law_bars, [], []⟩
def d_u_law_at : He.DefD := ⟨("_law_at", none), "_law_at", "_law_at", defArgs st_u_law_at, defBody st_u_law_at, defScope st_u_law_at, [], []⟩
def d_u_law_known : He.DefD := ⟨("_law_known", none), "_law_known", "_law_known", defArgs st_u_law_known, defBody st_u_law_known, defScope st_u_law_known, [], []⟩
def d_u_law_take : He.DefD := ⟨("_law_take", none), "_law_take", "_law_take", defArgs st_u_law_take, defBody st_u_law_take, defScope st_u_law_take, [], []⟩
def d_u_law_large : He.DefD := ⟨("_law_large", none), "_law_large", "_law_large", defArgs st_u_law_large, defBody st_u_law_large, defScope st_u_law_large, [], []⟩
def d_u_law_legal : He.DefD := ⟨("_law_legal", none), "_law_legal", "_law_legal", defArgs st_u_law_legal, defBody st_u_law_legal, defScope st_u_law_legal, [], []⟩
def d_u_law_listed : He.DefD := ⟨("_law_listed", none), "_law_listed", "_law_listed", defArgs st_u_law_listed, defBody st_u_law_listed, defScope st_u_law_listed, [], []⟩
def d_u_law_is_state : He.DefD := ⟨("_law_is_state", none), "_law_is_state", "_law_is_state", defArgs st_u_law_is_state, defBody st_u_law_is_state, defScope st_u_law_is_state, [], []⟩
def d_Barred___init__ : He.DefD := ⟨("Barred", some "__init__"), "__init__", "Barred.__init__", defArgs st_Barred___init__, defBody st_Barred___init__, defScope st_Barred___init__, [], []⟩
def d_NothingLeft___init__ : He.DefD := ⟨("NothingLeft", some "__init__"), "__init__", "NothingLeft.__init__", defArgs st_NothingLeft___init__, defBody st_NothingLeft___init__, defScope st_NothingLeft___init__, [], []⟩
def d_bars_vc : He.DefD := ⟨("bars", none), "bars", "bars", defArgs st_bars_vc, defBody st_bars_vc, defScope st_bars_vc, [], []⟩
def d_run_vt : He.DefD := ⟨("run", none), "run", "run", defArgs st_run_vt, defBody st_run_vt, defScope st_run_vt, [], []⟩
def d_u_law_met : He.DefD := ⟨("_law_met", none), "_law_met", "_law_met", defArgs st_u_law_met, defBody st_u_law_met, defScope st_u_law_met, [], []⟩
def d_u_law_ran : He.DefD := ⟨("_law_ran", none), "_law_ran", "_law_ran", defArgs st_u_law_ran, defBody st_u_law_ran, defScope st_u_law_ran, [], []⟩
def d_u_law_run_right : He.DefD := ⟨("_law_run_right", none), "_law_run_right", "_law_run_right", defArgs st_u_law_run_right, defBody st_u_law_run_right, defScope st_u_law_run_right, [], []⟩
def d_can_run : He.DefD := ⟨("can_run", none), "can_run", "can_run", defArgs st_can_run, defBody st_can_run, defScope st_can_run, [], []⟩
def d_legal_vc : He.DefD := ⟨("legal", none), "legal", "legal", defArgs st_legal_vc, defBody st_legal_vc, defScope st_legal_vc, [], []⟩
def d_u_law_large_right : He.DefD := ⟨("_law_large_right", none), "_law_large_right", "_law_large_right", defArgs st_u_law_large_right, defBody st_u_law_large_right, defScope st_u_law_large_right, [], []⟩
def d_u_law_past : He.DefD := ⟨("_law_past", none), "_law_past", "_law_past", defArgs st_u_law_past, defBody st_u_law_past, defScope st_u_law_past, [], []⟩
def d_u_law_lasts : He.DefD := ⟨("_law_lasts", none), "_law_lasts", "_law_lasts", defArgs st_u_law_lasts, defBody st_u_law_lasts, defScope st_u_law_lasts, [], []⟩
def d_u_law_load : He.DefD := ⟨("_law_load", none), "_law_load", "_law_load", defArgs st_u_law_load, defBody st_u_law_load, defScope st_u_law_load, [], []⟩
def d_u_law_moment : He.DefD := ⟨("_law_moment", none), "_law_moment", "_law_moment", defArgs st_u_law_moment, defBody st_u_law_moment, defScope st_u_law_moment, [], []⟩
def d_u_law_walk_right : He.DefD := ⟨("_law_walk_right", none), "_law_walk_right", "_law_walk_right", defArgs st_u_law_walk_right, defBody st_u_law_walk_right, defScope st_u_law_walk_right, [], []⟩
def d_u_law_mixed : He.DefD := ⟨("_law_mixed", none), "_law_mixed", "_law_mixed", defArgs st_u_law_mixed, defBody st_u_law_mixed, defScope st_u_law_mixed, [], []⟩
def d_u_law_pairs : He.DefD := ⟨("_law_pairs", none), "_law_pairs", "_law_pairs", defArgs st_u_law_pairs, defBody st_u_law_pairs, defScope st_u_law_pairs, [], []⟩
def d_u_law_world : He.DefD := ⟨("_law_world", none), "_law_world", "_law_world", defArgs st_u_law_world, defBody st_u_law_world, defScope st_u_law_world, [], []⟩
def d_u_law_right : He.DefD := ⟨("_law_right", none), "_law_right", "_law_right", defArgs st_u_law_right, defBody st_u_law_right, defScope st_u_law_right, [], []⟩
def d_law : He.DefD := ⟨("law", none), "law", "law", defArgs st_law, defBody st_law, defScope st_law, [], []⟩
def fn0 : List He.DefD := [d_u_law_box, d_u_law_cell, d_is_integer, d_is_count, d_is_index, d_is_tuple_of, d_u_is_end, d_is_ascending, d_u_is_task, d_is_row, d_are_tasks, d_is_from_to, d_marks_of, d_Net___init__, d_Net___len__, d_check_task, d_Net_ends, d_u_is_last, d_is_lasts, d_check_lasts, d_is_load, d_check_load, d_State___init__, d_u_law_bars, d_u_law_at, d_u_law_known, d_u_law_take, d_u_law_large, d_u_law_legal, d_u_law_listed]
def fn1 : List He.DefD := [d_u_law_is_state, d_Barred___init__, d_NothingLeft___init__, d_bars_vc, d_run_vt, d_u_law_met, d_u_law_ran, d_u_law_run_right, d_can_run, d_legal_vc, d_u_law_large_right, d_u_law_past, d_u_law_lasts, d_u_law_load, d_u_law_moment, d_u_law_walk_right, d_u_law_mixed, d_u_law_pairs, d_u_law_world, d_u_law_right, d_law]
def fn : List He.DefD := fn0 ++ fn1
def fa0 : List He.Fa := [.free "len", .free "min", .free "max", .free "range", .glo "_law_cell", .glo "_law_box", .glo "_law_right", .free "abs", .free "int", .free "sum", .glo "_law_take", .glo "_law_large_right", .glo "_law_world", .glo "Net", .mkr "Net", .meth "Net" "__init__", .free "list", .glo "_law_lasts", .glo "_law_load", .glo "State", .mkr "State", .meth "State" "__init__", .glo "legal", .free "repr", .glo "_law_legal", .glo "_law_walk_right", .glo "_law_moment", .int "MOST_NODES" 24, .glo "is_from_to", .int "MOST_ENDS" 2]
def fa1 : List He.Fa := [.int "MOST_TASKS" 100, .glo "are_tasks", .cls "Net", .noat "Net" "nodes", .noat "Net" "tasks", .free "tuple", .noat "Net" "_ends", .noat "Net" "_marks", .glo "marks_of", .glo "is_row", .glo "_is_task", .free "all", .free "isinstance", .glo "is_ascending", .glo "_is_end", .free "bool", .glo "is_index", .glo "is_tuple_of", .glo "is_count", .glo "is_integer", .free "zip", .free "enumerate", .glo "check_load", .glo "check_lasts", .cls "State", .noat "State" "net", .noat "State" "load", .noat "State" "lasts", .glo "is_lasts", .glo "_is_last"]
def fa2 : List He.Fa := [.meth "Net" "ends", .meth "Net" "__len__", .glo "check_task", .glo "is_load", .glo "_law_large", .glo "_law_listed", .glo "_law_bars", .glo "bars", .glo "_law_run_right", .free "sorted", .free "set", .glo "_law_known", .glo "_law_at", .glo "_law_met", .glo "_law_ran", .glo "_law_is_state", .glo "OtherError", .glo "run", .glo "Barred", .glo "NothingLeft", .glo "can_run", .glo "_law_past", .glo "_law_pairs", .glo "_law_mixed", .glo "law"]
def fa : List He.Fa := fa0 ++ fa1 ++ fa2
def excs : List ExF := [⟨"NothingLeft", "task"⟩, ⟨"Barred", "nodes"⟩]
abbrev Ro : PySem.W.OpenRow := PySem.W.OpenLaw.row PySem.Challenge.rw_otherfirst_k05_legal_tasks_and_runs
def lo0 : List PySem.Str := ["_wall", "__name__", "OtherError", "InvalidNodes", "InvalidTasks", "InvalidTask", "InvalidNode", "InvalidLoad", "InvalidLasts", "NotAnEnd", "NothingLeft", "Barred", "MOST_NODES", "MOST_TASKS", "is_integer", "is_count", "is_index", "is_from_to", "is_ascending", "is_row", "is_tuple_of", "check_task", "check_node", "MOST_ENDS", "Net", "is_load", "is_lasts", "check_load", "check_lasts", "are_tasks"]
def lo1 : List PySem.Str := ["marks_of", "_is_task", "_is_end", "_is_last", "State", "legal", "can_run", "bars", "run", "_law_cell", "_law_box", "_law_take", "_law_mixed", "_law_pairs", "_law_world", "_law_at", "_law_known", "_law_bars", "_law_legal", "_law_ran", "_law_past", "_law_lasts", "_law_load", "_law_met", "_law_is_state", "_law_listed", "_law_run_right", "_law_moment", "_law_walk_right", "_law_large"]
def lo2 : List PySem.Str := ["_law_large_right", "_law_right"]
def loose : List PySem.Str := lo0 ++ lo1 ++ lo2
def exK (K : PySem.W.Frag) : Bool := (Me.excB K excs "OtherError") && (Me.insB K (He.ga K "State"))
abbrev hk : PySem.W.Hook := Me.hookE 4 fa fn exK
def ob (s : PySem.W.SharedT) : Me.AlE := Me.obsE 4 fa fn exK (HandSHeadRun.getT s)
theorem ob_eq (s : PySem.W.SharedT) : ob s = hk.obs s.abs := Me.obsE_eq (HandSHeadRun.getT_eq s)
theorem run (w : World) : HandSHeadRun.RunEq Ro (PySem.W.view Ro.prog [68]) hk ob 12000 loose w := by
  intro os
  kernel_rfl
end K05
end
section
set_option Elab.async false
set_option linter.all false
set_option maxRecDepth 100000
namespace Me
open PySem PySem.Spec L2
open PyProof.Rows hiding St

/-! data, stores, what stands for what -/
inductive D where
  | non | bl (b : Bool) | int (i : Int) | str (x : Str)
  | tup (xs : List D) | lst (xs : List D)
  | obj (c : Str) (ns : List Str) (ds : List D)
  | cell (k : Nat)
  | frl (xs : List D)

inductive Cel where
  | lst (xs : List D) | ins (c : Str) (ns : List Str) (ds : List D) | dead

structure Gc where
  K : PySem.W.Frag
  mg : Str → Option Value

mutual
def Is (G : Gc) (H : Hp) (m : List Addr) : D → V → Prop
  | .non, v => v = .non
  | .bl b, v => v = .bl b
  | .int i, v => v = .int i
  | .str x, v => v = .str x
  | .tup xs, v => ∃ a vs, v = .ref a ∧ SqT G.K H a vs ∧ IsL G H m xs vs
  | .lst xs, v => ∃ a vs, v = .ref a ∧ H a = some (.lst vs) ∧ IsL G H m xs vs
  | .frl xs, v => ∃ a vs, v = .ref a ∧ SqL G.K H a vs ∧ IsL G H m xs vs
  | .obj c ns ds, v => ∃ a C dx fs, v = .ref a ∧ G.mg c = some (.ref C) ∧ H a = some (.ins C dx fs) ∧ fs.map (·.1) = ns ∧ IsL G H m ds (fs.map (·.2))
  | .cell k, v => ∃ a, v = .ref a ∧ m[k]? = some a
def IsL (G : Gc) (H : Hp) (m : List Addr) : List D → List V → Prop
  | [], vs => vs = []
  | d :: ds, vs => ∃ v r, vs = v :: r ∧ Is G H m d v ∧ IsL G H m ds r
end

theorem seqT_same {K : PySem.W.Frag} {H H' : Hp} {a : Addr} {xs : List V} (e : Same H H') (h : SqT K H a xs) : SqT K H' a xs := by
  rcases h with (h | ⟨o, h⟩) | h
  · exact Or.inl (Or.inl (e _ _ h))
  · exact Or.inl (Or.inr ⟨o, e _ _ h⟩)
  · exact Or.inr h

theorem pre_get {m m' : List Addr} (p : m <+: m') {k : Nat} {a : Addr} (h : m[k]? = some a) : m'[k]? = some a := by
  obtain ⟨t, rfl⟩ := p
  rw [List.getElem?_append_left (List.getElem?_eq_some_iff.mp h).1]
  exact h

mutual
theorem Is.mono {G : Gc} {H H' : Hp} {m m' : List Addr} (e : Same H H') (p : m <+: m') : ∀ (d : D) (v : V), Is G H m d v → Is G H' m' d v
  | .non, _, h => by simpa only [Is] using h
  | .bl _, _, h => by simpa only [Is] using h
  | .int _, _, h => by simpa only [Is] using h
  | .str _, _, h => by simpa only [Is] using h
  | .tup xs, v, h => by
    simp only [Is] at h ⊢
    obtain ⟨a, vs, h1, h2, h3⟩ := h
    exact ⟨a, vs, h1, seqT_same e h2, IsL.mono e p xs vs h3⟩
  | .lst xs, v, h => by
    simp only [Is] at h ⊢
    obtain ⟨a, vs, h1, h2, h3⟩ := h
    exact ⟨a, vs, h1, e _ _ h2, IsL.mono e p xs vs h3⟩
  | .frl xs, v, h => by
    simp only [Is] at h ⊢
    obtain ⟨a, vs, h1, h2, h3⟩ := h
    exact ⟨a, vs, h1, e.seq h2, IsL.mono e p xs vs h3⟩
  | .obj c ns ds, v, h => by
    simp only [Is] at h ⊢
    obtain ⟨a, C, dx, fs, h1, h2, h3, h4, h5⟩ := h
    exact ⟨a, C, dx, fs, h1, h2, e _ _ h3, h4, IsL.mono e p ds _ h5⟩
  | .cell k, v, h => by
    simp only [Is] at h ⊢
    obtain ⟨a, h1, h2⟩ := h
    exact ⟨a, h1, pre_get p h2⟩
theorem IsL.mono {G : Gc} {H H' : Hp} {m m' : List Addr} (e : Same H H') (p : m <+: m') : ∀ (ds : List D) (vs : List V), IsL G H m ds vs → IsL G H' m' ds vs
  | [], _, h => by simpa only [IsL] using h
  | d :: ds, vs, h => by
    simp only [IsL] at h ⊢
    obtain ⟨v, r, h1, h2, h3⟩ := h
    exact ⟨v, r, h1, Is.mono e p d v h2, IsL.mono e p ds r h3⟩
end

section
variable {G : Gc} {H : Hp} {m : List Addr}
theorem is_non {v : V} : Is G H m .non v ↔ v = .non := by simp only [Is]
theorem is_bl {b : Bool} {v : V} : Is G H m (.bl b) v ↔ v = .bl b := by simp only [Is]
theorem is_int {i : Int} {v : V} : Is G H m (.int i) v ↔ v = .int i := by simp only [Is]
theorem is_str {x : Str} {v : V} : Is G H m (.str x) v ↔ v = .str x := by simp only [Is]
theorem is_tup {xs : List D} {v : V} : Is G H m (.tup xs) v ↔ ∃ a vs, v = .ref a ∧ SqT G.K H a vs ∧ IsL G H m xs vs := by simp only [Is]
theorem is_lst {xs : List D} {v : V} : Is G H m (.lst xs) v ↔ ∃ a vs, v = .ref a ∧ H a = some (.lst vs) ∧ IsL G H m xs vs := by simp only [Is]
theorem is_frl {xs : List D} {v : V} : Is G H m (.frl xs) v ↔ ∃ a vs, v = .ref a ∧ SqL G.K H a vs ∧ IsL G H m xs vs := by simp only [Is]
theorem is_obj {c : Str} {ns : List Str} {ds : List D} {v : V} : Is G H m (.obj c ns ds) v ↔ ∃ a C dx fs, v = .ref a ∧ G.mg c = some (.ref C) ∧ H a = some (.ins C dx fs) ∧ fs.map (·.1) = ns ∧ IsL G H m ds (fs.map (·.2)) := by simp only [Is]
theorem is_cell {k : Nat} {v : V} : Is G H m (.cell k) v ↔ ∃ a, v = .ref a ∧ m[k]? = some a := by simp only [Is]
theorem isl_nil {vs : List V} : IsL G H m [] vs ↔ vs = [] := by simp only [IsL]
theorem isl_cons {d : D} {ds : List D} {vs : List V} : IsL G H m (d :: ds) vs ↔ ∃ v r, vs = v :: r ∧ Is G H m d v ∧ IsL G H m ds r := by simp only [IsL]
theorem IsL.len : ∀ {ds : List D} {vs : List V}, IsL G H m ds vs → ds.length = vs.length
  | [], _, h => by rw [isl_nil.mp h]; rfl
  | d :: ds, vs, h => by
    obtain ⟨v, r, rfl, _, h3⟩ := isl_cons.mp h
    rw [List.length_cons, List.length_cons, IsL.len h3]
theorem IsL.get : ∀ {ds : List D} {vs : List V} {i : Nat} {d : D}, IsL G H m ds vs → ds[i]? = some d → ∃ v, vs[i]? = some v ∧ Is G H m d v
  | [], _, _, _, _, e => by simp at e
  | d :: ds, vs, 0, d', h, e => by
    obtain ⟨v, r, rfl, h2, _⟩ := isl_cons.mp h
    simp at e
    subst e
    exact ⟨v, by simp, h2⟩
  | d :: ds, vs, i + 1, d', h, e => by
    obtain ⟨v, r, rfl, _, h3⟩ := isl_cons.mp h
    obtain ⟨u, h4, h5⟩ := IsL.get (i := i) h3 (by simpa using e)
    exact ⟨u, by simpa using h4, h5⟩
theorem IsL.get' : ∀ {ds : List D} {vs : List V} {i : Nat} {v : V}, IsL G H m ds vs → vs[i]? = some v → ∃ d, ds[i]? = some d ∧ Is G H m d v
  | [], _, _, _, h, e => by rw [isl_nil.mp h] at e; simp at e
  | d :: ds, vs, 0, u, h, e => by
    obtain ⟨v, r, rfl, h2, _⟩ := isl_cons.mp h
    simp at e
    subst e
    exact ⟨d, by simp, h2⟩
  | d :: ds, vs, i + 1, u, h, e => by
    obtain ⟨v, r, rfl, _, h3⟩ := isl_cons.mp h
    obtain ⟨u', h4, h5⟩ := IsL.get' (i := i) h3 (by simpa using e)
    exact ⟨u', by simpa using h4, h5⟩
theorem IsL.append : ∀ {ds es : List D} {vs ws : List V}, IsL G H m ds vs → IsL G H m es ws → IsL G H m (ds ++ es) (vs ++ ws)
  | [], _, vs, _, h, h' => by rw [isl_nil.mp h]; exact h'
  | d :: ds, _, vs, _, h, h' => by
    obtain ⟨v, r, rfl, h2, h3⟩ := isl_cons.mp h
    exact isl_cons.mpr ⟨v, _, rfl, h2, h3.append h'⟩
theorem IsL.set : ∀ {ds : List D} {vs : List V} (i : Nat) {d : D} {v : V}, IsL G H m ds vs → Is G H m d v → IsL G H m (ds.set i d) (vs.set i v)
  | [], _, _, _, _, h, _ => by rw [isl_nil.mp h]; exact isl_nil.mpr (by simp)
  | d :: ds, vs, 0, d', v', h, h' => by
    obtain ⟨v, r, rfl, h2, h3⟩ := isl_cons.mp h
    exact isl_cons.mpr ⟨v', r, by simp, h', h3⟩
  | d :: ds, vs, i + 1, d', v', h, h' => by
    obtain ⟨v, r, rfl, h2, h3⟩ := isl_cons.mp h
    exact isl_cons.mpr ⟨v, r.set i v', by simp, h2, h3.set i h'⟩
theorem IsL.take : ∀ {ds : List D} {vs : List V} (i : Nat), IsL G H m ds vs → IsL G H m (ds.take i) (vs.take i)
  | _, _, 0, _ => isl_nil.mpr (by simp)
  | [], vs, i + 1, h => by rw [isl_nil.mp h]; exact isl_nil.mpr (by simp)
  | d :: ds, vs, i + 1, h => by
    obtain ⟨v, r, rfl, h2, h3⟩ := isl_cons.mp h
    exact isl_cons.mpr ⟨v, r.take i, by simp, h2, h3.take i⟩
theorem IsL.drop : ∀ {ds : List D} {vs : List V} (i : Nat), IsL G H m ds vs → IsL G H m (ds.drop i) (vs.drop i)
  | _, _, 0, h => h
  | [], vs, i + 1, h => by rw [isl_nil.mp h]; exact isl_nil.mpr (by simp)
  | d :: ds, vs, i + 1, h => by
    obtain ⟨v, r, rfl, h2, h3⟩ := isl_cons.mp h
    exact h3.drop i
end

/-- a cell as it stands -/
def CelAt (G : Gc) (H0 H : Hp) (m : List Addr) (a : Addr) : Cel → Prop
  | .lst ds => ∃ vs, H a = some (.lst vs) ∧ IsL G H0 m ds vs
  | .ins c ns ds => ∃ C dx fs, G.mg c = some (.ref C) ∧ H a = some (.ins C dx fs) ∧ fs.map (·.1) = ns ∧ IsL G H0 m ds (fs.map (·.2))
  | .dead => True
def Cel.live : Cel → Bool
  | .dead => false
  | _ => true

structure Rl (G : Gc) (m : List Addr) (S : List Cel) (H0 H : Hp) : Prop where
  sub : Same H0 H
  len : m.length = S.length
  nd : m.Nodup
  at_ : ∀ (k : Nat) (c : Cel) (a : Addr), S[k]? = some c → m[k]? = some a → CelAt G H0 H m a c
  out : ∀ (k : Nat) (c : Cel) (a : Addr), S[k]? = some c → m[k]? = some a → c.live = true → H0 a = none
  trk : ∀ a ∈ m, ∃ o, H a = some o

structure Ext (m : List Addr) (H0 H : Hp) (m' : List Addr) (H0' H' : Hp) : Prop where
  imm : Same H0 H0'
  pre : m <+: m'
  keep : ∀ a o, H a = some o → a ∉ m → H' a = some o
  new : ∀ a ∈ m', a ∈ m ∨ H a = none
  fr : ∀ a o, H0' a = some o → H0 a = some o ∨ H a = none ∨ a ∈ m

theorem Ext.refl (m : List Addr) (H0 H : Hp) : Ext m H0 H m H0 H :=
  ⟨Same.refl _, List.prefix_refl _, fun _ _ h _ => h, fun _ h => Or.inl h, fun _ _ h => Or.inl h⟩
theorem Ext.trans {m m1 m2 : List Addr} {H0 H H01 H1 H02 H2 : Hp} (a : Ext m H0 H m1 H01 H1) (b : Ext m1 H01 H1 m2 H02 H2) : Ext m H0 H m2 H02 H2 where
  imm := a.imm.trans b.imm
  pre := a.pre.trans b.pre
  keep := fun x o h n => b.keep x o (a.keep x o h n) fun z => (a.new x z).elim n fun q => by rw [h] at q; cases q
  new := fun x z => by
    rcases b.new x z with q | q
    · exact a.new x q
    · by_cases hm : x ∈ m
      · exact Or.inl hm
      · refine Or.inr ?_
        cases e : H x with
        | none => rfl
        | some o =>
          rw [a.keep x o e hm] at q
          cases q
  fr := fun x o h => by
    rcases b.fr x o h with q | q | q
    · exact a.fr x o q
    · by_cases hm : x ∈ m
      · exact Or.inr (Or.inr hm)
      · refine Or.inr (Or.inl ?_)
        cases e : H x with
        | none => rfl
        | some u =>
          rw [a.keep x u e hm] at q
          cases q
    · rcases a.new x q with z | z
      · exact Or.inr (Or.inr z)
      · exact Or.inr (Or.inl z)
/-- the heap grew by one new object, immutable from now on -/
theorem Ext.laid {m : List Addr} {H0 H : Hp} {p : Addr} {o : HO} (hp : H p = none) (hs : Same H0 H) : Ext m H0 H m (upd H0 p o) (upd H p o) where
  imm := fun b u h => by
    rw [upd_ne (ne_of_none (hs _ _ h) hp)]
    exact h
  pre := List.prefix_refl _
  keep := fun b u h _ => by
    rw [upd_ne (ne_of_none h hp)]
    exact h
  new := fun _ h => Or.inl h
  fr := fun b u h => by
    by_cases e : b = p
    · exact Or.inr (Or.inl (by rw [e]; exact hp))
    · rw [upd_ne e] at h
      exact Or.inl h

theorem Rl.mem_ne {G : Gc} {m : List Addr} {S : List Cel} {H0 H : Hp} (R : Rl G m S H0 H) {k : Nat} {c : Cel} {a p : Addr} (h1 : S[k]? = some c) (h2 : m[k]? = some a) (hl : c.live = true) (hp : H p = none) : a ≠ p := by
  intro e
  subst e
  have h := R.at_ k c a h1 h2
  cases c with
  | lst ds =>
    obtain ⟨vs, e, _⟩ := h
    rw [hp] at e
    cases e
  | ins c ns ds =>
    obtain ⟨C, dx, fs, _, e, _⟩ := h
    rw [hp] at e
    cases e
  | dead => cases hl

theorem CelAt.mono {G : Gc} {H0 H H0' H' : Hp} {m m' : List Addr} {a : Addr} {c : Cel} (h : CelAt G H0 H m a c) (e : Same H0 H0') (p : m <+: m') (k : ∀ o, H a = some o → H' a = some o) : CelAt G H0' H' m' a c := by
  cases c with
  | lst ds =>
    obtain ⟨vs, e1, e2⟩ := h
    exact ⟨vs, k _ e1, IsL.mono e p _ _ e2⟩
  | ins c ns ds =>
    obtain ⟨C, dx, fs, e1, e2, e3, e4⟩ := h
    exact ⟨C, dx, fs, e1, k _ e2, e3, IsL.mono e p _ _ e4⟩
  | dead => trivial

/-- behind the laying of an immutable object -/
theorem Rl.laid {G : Gc} {m : List Addr} {S : List Cel} {H0 H : Hp} {p : Addr} {o : HO} (R : Rl G m S H0 H) (hp : H p = none) : Rl G m S (upd H0 p o) (upd H p o) where
  sub := fun b u h => by
    by_cases e : b = p
    · subst e
      rw [upd_same] at h ⊢
      exact h
    · rw [upd_ne e] at h ⊢
      exact R.sub _ _ h
  len := R.len
  nd := R.nd
  at_ := fun k c a h1 h2 => by
    refine (R.at_ k c a h1 h2).mono ?_ (List.prefix_refl _) ?_
    · exact (Ext.laid (m := m) hp R.sub).imm
    · intro u h
      rw [upd_ne (ne_of_none h hp)]
      exact h
  out := fun k c a h1 h2 hl => by
    rw [upd_ne (R.mem_ne h1 h2 hl hp)]
    exact R.out k c a h1 h2 hl
  trk := fun a ha => by
    obtain ⟨u, h⟩ := R.trk a ha
    exact ⟨u, by rw [upd_ne (ne_of_none h hp)]; exact h⟩

/-- names' values -/
def EnvR (G : Gc) (H0 : Hp) (m : List Addr) (r : List (Option D)) (σ : St) : Prop :=
  r.length = σ.length ∧ ∀ (i : Nat) (d : D), r[i]? = some (some d) → ∃ v, σ[i]? = some (some v) ∧ Is G H0 m d v
theorem EnvR.mono {G : Gc} {H0 H0' : Hp} {m m' : List Addr} {r : List (Option D)} {σ : St} (h : EnvR G H0 m r σ) (e : Same H0 H0') (p : m <+: m') : EnvR G H0' m' r σ :=
  ⟨h.1, fun i d q => by
    obtain ⟨v, h1, h2⟩ := h.2 i d q
    exact ⟨v, h1, Is.mono e p d v h2⟩⟩
theorem EnvR.put {G : Gc} {H0 : Hp} {m : List Addr} {r : List (Option D)} {σ : St} (h : EnvR G H0 m r σ) (i : Nat) {d : D} {v : V} (hd : Is G H0 m d v) : EnvR G H0 m (r.set i (some d)) (σ.set i (some v)) := by
  refine ⟨by rw [List.length_set, List.length_set]; exact h.1, fun j e q => ?_⟩
  by_cases hj : i = j
  · subst hj
    rw [List.getElem?_set] at q
    rw [if_pos rfl] at q
    by_cases hl : i < r.length
    · rw [if_pos hl] at q
      have e1 : d = e := Option.some.inj (Option.some.inj q)
      subst e1
      refine ⟨v, ?_, hd⟩
      rw [List.getElem?_set, if_pos rfl, if_pos (by rw [← h.1]; exact hl)]
    · rw [if_neg hl] at q
      cases q
  · rw [List.getElem?_set_ne hj] at q
    obtain ⟨u, h1, h2⟩ := h.2 j e q
    exact ⟨u, by rw [List.getElem?_set_ne hj]; exact h1, h2⟩

/-- an exception: its class, its fields -/
structure Ex where
  c : Str
  ns : List Str
  ds : List D

inductive R (α : Type) where
  | fail
  | ok (a : α) (S : List Cel)
  | exc (e : Ex) (S : List Cel)
def R.bind {α β : Type} : R α → (α → List Cel → R β) → R β
  | .fail, _ => .fail
  | .ok a S, f => f a S
  | .exc e S, _ => .exc e S

abbrev Rho := List (Option D)
abbrev M := Rho → List Cel → R D
abbrev ML := Rho → List Cel → R (List D)
abbrev MB := Rho → List Cel → R Bool
inductive SR where
  | fail
  | nx (r : Rho) (S : List Cel)
  | rt (d : D) (S : List Cel)
  | bk (r : Rho) (S : List Cel)
  | ct (r : Rho) (S : List Cel)
  | exc (e : Ex) (r : Rho) (S : List Cel)
abbrev MS := Rho → List Cel → SR

/-- an exception as it flies: fs the fields of its own dict -/
def ExIs (G : Gc) (H0 : Hp) (m : List Addr) (H : Hp) (e : Ex) (cls : Value) (dd : Option Addr) : Prop :=
  ∃ C d fs, G.mg e.c = some (.ref C) ∧ cls = .ref C ∧ dd = some d ∧ H d = some (.xd fs) ∧ (fs.map (·.1)) = e.ns ∧ IsL G H0 m e.ds (fs.map (·.2))

/-- what follows a result -/
def Kt (G : Gc) (W : WX) (σ : St) (m : List Addr) (H0 H : Hp) (r : R D) (Q : VK) : Prop :=
  match r with
  | .fail => False
  | .ok d S => ∀ v m' H0' H', Ext m H0 H m' H0' H' → Rl G m' S H0' H' → Is G H0' m' d v → Q v H'
  | .exc e S => ∀ cls dd m' H0' H', Ext m H0 H m' H0' H' → Rl G m' S H0' H' → ExIs G H0' m' H' e cls dd → W cls dd σ H'
def KtL (G : Gc) (W : WX) (σ : St) (m : List Addr) (H0 H : Hp) (r : R (List D)) (Q : List V → Hp → Prop) : Prop :=
  match r with
  | .fail => False
  | .ok d S => ∀ v m' H0' H', Ext m H0 H m' H0' H' → Rl G m' S H0' H' → IsL G H0' m' d v → Q v H'
  | .exc e S => ∀ cls dd m' H0' H', Ext m H0 H m' H0' H' → Rl G m' S H0' H' → ExIs G H0' m' H' e cls dd → W cls dd σ H'
def KtB (G : Gc) (W : WX) (σ : St) (m : List Addr) (H0 H : Hp) (r : R Bool) (Q : Bool → Hp → Prop) : Prop :=
  match r with
  | .fail => False
  | .ok b S => ∀ m' H0' H', Ext m H0 H m' H0' H' → Rl G m' S H0' H' → Q b H'
  | .exc e S => ∀ cls dd m' H0' H', Ext m H0 H m' H0' H' → Rl G m' S H0' H' → ExIs G H0' m' H' e cls dd → W cls dd σ H'
def KtS (G : Gc) (W : WX) (m : List Addr) (H0 H : Hp) (r : SR) (E : Ends) : Prop :=
  match r with
  | .fail => False
  | .nx r S => ∀ σ m' H0' H', Ext m H0 H m' H0' H' → Rl G m' S H0' H' → EnvR G H0' m' r σ → E.nx σ H'
  | .bk r S => ∀ σ m' H0' H', Ext m H0 H m' H0' H' → Rl G m' S H0' H' → EnvR G H0' m' r σ → E.bk σ H'
  | .ct r S => ∀ σ m' H0' H', Ext m H0 H m' H0' H' → Rl G m' S H0' H' → EnvR G H0' m' r σ → E.ct σ H'
  | .rt d S => ∀ v m' H0' H', Ext m H0 H m' H0' H' → Rl G m' S H0' H' → Is G H0' m' d v → E.rt v H'
  | .exc e r S => ∀ cls dd σ m' H0' H', Ext m H0 H m' H0' H' → Rl G m' S H0' H' → EnvR G H0' m' r σ → ExIs G H0' m' H' e cls dd → W cls dd σ H'

def tM (G : Gc) (W : WX) (x : M) : TE := fun σ H Q => ∃ r S m H0, EnvR G H0 m r σ ∧ Rl G m S H0 H ∧ Kt G W σ m H0 H (x r S) Q
def tML (G : Gc) (W : WX) (x : ML) : TA := fun σ H Q => ∃ r S m H0, EnvR G H0 m r σ ∧ Rl G m S H0 H ∧ KtL G W σ m H0 H (x r S) Q
def tMB (G : Gc) (W : WX) (x : MB) : TT := fun σ H Q => ∃ r S m H0, EnvR G H0 m r σ ∧ Rl G m S H0 H ∧ KtB G W σ m H0 H (x r S) Q
def tMS (G : Gc) (W : WX) (x : MS) : TS := fun E σ H => ∃ r S m H0, EnvR G H0 m r σ ∧ Rl G m S H0 H ∧ KtS G W m H0 H (x r S) E

/-- later on, what follows is wanted of less -/
theorem Kt.later {G : Gc} {W : WX} {σ : St} {m m1 : List Addr} {H0 H H01 H1 : Hp} {r : R D} {Q : VK} (e : Ext m H0 H m1 H01 H1) (h : Kt G W σ m H0 H r Q) : Kt G W σ m1 H01 H1 r Q := by
  cases r with
  | fail => exact h
  | ok d S => exact fun v m' H0' H' x => h v m' H0' H' (e.trans x)
  | exc ex S => exact fun c d m' H0' H' x => h c d m' H0' H' (e.trans x)
theorem KtL.later {G : Gc} {W : WX} {σ : St} {m m1 : List Addr} {H0 H H01 H1 : Hp} {r : R (List D)} {Q : List V → Hp → Prop} (e : Ext m H0 H m1 H01 H1) (h : KtL G W σ m H0 H r Q) : KtL G W σ m1 H01 H1 r Q := by
  cases r with
  | fail => exact h
  | ok d S => exact fun v m' H0' H' x => h v m' H0' H' (e.trans x)
  | exc ex S => exact fun c d m' H0' H' x => h c d m' H0' H' (e.trans x)
theorem KtB.later {G : Gc} {W : WX} {σ : St} {m m1 : List Addr} {H0 H H01 H1 : Hp} {r : R Bool} {Q : Bool → Hp → Prop} (e : Ext m H0 H m1 H01 H1) (h : KtB G W σ m H0 H r Q) : KtB G W σ m1 H01 H1 r Q := by
  cases r with
  | fail => exact h
  | ok d S => exact fun m' H0' H' x => h m' H0' H' (e.trans x)
  | exc ex S => exact fun c d m' H0' H' x => h c d m' H0' H' (e.trans x)
theorem KtS.later {G : Gc} {W : WX} {m m1 : List Addr} {H0 H H01 H1 : Hp} {r : SR} {E : Ends} (e : Ext m H0 H m1 H01 H1) (h : KtS G W m H0 H r E) : KtS G W m1 H01 H1 r E := by
  cases r with
  | fail => exact h
  | nx r S => exact fun σ m' H0' H' x => h σ m' H0' H' (e.trans x)
  | bk r S => exact fun σ m' H0' H' x => h σ m' H0' H' (e.trans x)
  | ct r S => exact fun σ m' H0' H' x => h σ m' H0' H' (e.trans x)
  | rt d S => exact fun v m' H0' H' x => h v m' H0' H' (e.trans x)
  | exc ex r S => exact fun c d σ m' H0' H' x => h c d σ m' H0' H' (e.trans x)
end Me
end
section
set_option Elab.async false
set_option linter.all false
set_option maxRecDepth 100000
namespace Me
open PySem PySem.Spec L2
open PyProof.Rows hiding St

/-! the judgements -/
abbrev gX (X : Cx) : Gc := ⟨X.K, X.mg⟩
def ME (X : Cx) (W : WX) (e : Expr) (x : M) : Prop := PE X e (tM (gX X) W x)
def MA (X : Cx) (W : WX) (es : List Expr) (x : ML) : Prop := PA X es (tML (gX X) W x)
def MT (X : Cx) (W : WX) (e : Expr) (x : MB) : Prop := PT X e (tMB (gX X) W x)
def MW (X : Cx) (W : WX) (e : Expr) (x : MB) : Prop := PW X e (tMB (gX X) W x)
def MP (X : Cx) (W : WX) (st : Stmt) (x : MS) : Prop := PS X st (tMS (gX X) W x)
def MPs (X : Cx) (W : WX) (st : List Stmt) (x : MS) : Prop := PSs X st (tMS (gX X) W x)

section
variable {X : Cx} {W : WX} {G : Gc} {e : Expr} {es : List Expr} {st : Stmt} {sts : List Stmt}
theorem pe_imp {t t' : TE} (h : PE X e t) (w : ∀ σ H Q, t' σ H Q → t σ H Q) : PE X e t' := ⟨fun pins s σ H Q I q => h.run pins s σ H Q I (w σ H Q q)⟩
theorem pt_imp {t t' : TT} (h : PT X e t) (w : ∀ σ H Q, t' σ H Q → t σ H Q) : PT X e t' := ⟨fun pins s σ H Q I q => h.run pins s σ H Q I (w σ H Q q)⟩
theorem pw_imp {t t' : TT} (h : PW X e t) (w : ∀ σ H Q, t' σ H Q → t σ H Q) : PW X e t' := ⟨fun wh pins s σ H Q I q => h.run wh pins s σ H Q I (w σ H Q q)⟩
theorem pa_imp {t t' : TA} (h : PA X es t) (w : ∀ σ H Q, t' σ H Q → t σ H Q) : PA X es t' := ⟨fun pos pins s σ H Q I q => h.run pos pins s σ H Q I (w σ H Q q)⟩
theorem ps_imp {t t' : TS} (h : PS X st t) (w : ∀ E σ H, t' E σ H → t E σ H) : PS X st t' := ⟨fun pins s σ H E I q => h.run pins s σ H E I (w E σ H q)⟩
theorem pss_imp {t t' : TS} (h : PSs X sts t) (w : ∀ E σ H, t' E σ H → t E σ H) : PSs X sts t' := ⟨fun pins s σ H E I q => h.run pins s σ H E I (w E σ H q)⟩

/-! what a result gives now -/
variable {σ : L2.St} {m : List Addr} {H0 H : Hp} {S : List Cel}
theorem kt_ok {d : D} {v : V} {Q : VK} (h : Kt G W σ m H0 H (.ok d S) Q) (r : Rl G m S H0 H) (i : Is G H0 m d v) : Q v H := h v m H0 H (Ext.refl _ _ _) r i
theorem kt_new {d : D} {p : Addr} {o : HO} {Q : VK} (h : Kt G W σ m H0 H (.ok d S) Q) (r : Rl G m S H0 H) (hp : H p = none) (i : Is G (upd H0 p o) m d (.ref p)) : Q (.ref p) (upd H p o) :=
  h _ m (upd H0 p o) (upd H p o) (Ext.laid hp r.sub) (r.laid hp) i
theorem new_mono {m : List Addr} {H0 H : Hp} {p : Addr} {o : HO} (hp : H p = none) (hs : Same H0 H) : Same H0 (upd H0 p o) := (Ext.laid (m := m) hp hs).imm
theorem kt_lst {ds : List D} {vs : List V} {p : Addr} {Q : VK} (h : Kt G W σ m H0 H (.ok (.lst ds) S) Q) (r : Rl G m S H0 H) (i : IsL G H0 m ds vs) (hp : H p = none) : Q (.ref p) (upd H p (.lst vs)) :=
  kt_new h r hp (is_lst.mpr ⟨p, vs, rfl, upd_same, IsL.mono (new_mono (m := m) hp r.sub) (List.prefix_refl _) _ _ i⟩)
theorem kt_tup {ds : List D} {vs : List V} {p : Addr} {Q : VK} (h : Kt G W σ m H0 H (.ok (.tup ds) S) Q) (r : Rl G m S H0 H) (i : IsL G H0 m ds vs) (hp : H p = none) : Q (.ref p) (upd H p (.tup vs)) :=
  kt_new h r hp (is_tup.mpr ⟨p, vs, rfl, SqT.of upd_same, IsL.mono (new_mono (m := m) hp r.sub) (List.prefix_refl _) _ _ i⟩)

/-! one after another -/
def eB (x : M) (f : D → M) : M := fun r S => (x r S).bind fun d S1 => f d r S1
theorem tm_b {x : M} {f : D → M} {Q : VK} (h : tM G W (eB x f) σ H Q) :
    tM G W x σ H fun v H1 => ∃ d r S m H0, EnvR G H0 m r σ ∧ Rl G m S H0 H1 ∧ Is G H0 m d v ∧ Kt G W σ m H0 H1 (f d r S) Q := by
  obtain ⟨r, S, m, H0, he, hr, hk⟩ := h
  refine ⟨r, S, m, H0, he, hr, ?_⟩
  have hk' : Kt G W σ m H0 H ((x r S).bind fun d S1 => f d r S1) Q := hk
  cases hx : x r S with
  | fail =>
    rw [hx] at hk'
    exact hk'
  | ok d S1 =>
    rw [hx] at hk'
    exact fun v m' H0' H' ex rl i => ⟨d, r, S1, m', H0', he.mono ex.imm ex.pre, rl, i, Kt.later ex hk'⟩
  | exc ex S1 =>
    rw [hx] at hk'
    exact hk'
def eBin (f : D → D → List Cel → R D) (x y : M) : M := eB x fun a => eB y fun b _ S => f a b S
theorem tm_bin {x y : M} {f : D → D → List Cel → R D} {Q : VK} (h : tM G W (eBin f x y) σ H Q) :
    tM G W x σ H fun v H1 => tM G W y σ H1 fun u H2 => ∃ a b S m H0, Rl G m S H0 H2 ∧ Is G H0 m a v ∧ Is G H0 m b u ∧ Kt G W σ m H0 H2 (f a b S) Q := by
  obtain ⟨r, S, m, H0, he, hr, hk⟩ := h
  refine ⟨r, S, m, H0, he, hr, ?_⟩
  have hk' : Kt G W σ m H0 H ((x r S).bind fun a S1 => (y r S1).bind fun b S2 => f a b S2) Q := hk
  cases hx : x r S with
  | fail =>
    rw [hx] at hk'
    exact hk'
  | exc ex S1 =>
    rw [hx] at hk'
    exact hk'
  | ok a S1 =>
    rw [hx] at hk'
    intro v m1 H01 H1 ex rl i
    refine ⟨r, S1, m1, H01, he.mono ex.imm ex.pre, rl, ?_⟩
    have hk2 : Kt G W σ m1 H01 H1 ((y r S1).bind fun b S2 => f a b S2) Q := Kt.later ex hk'
    cases hy : y r S1 with
    | fail =>
      rw [hy] at hk2
      exact hk2
    | exc ex S1 =>
      rw [hy] at hk2
      exact hk2
    | ok b S2 =>
      rw [hy] at hk2
      exact fun u m2 H02 H2 ex2 rl2 i2 => ⟨a, b, S2, m2, H02, rl2, Is.mono ex2.imm ex2.pre _ _ i, i2, Kt.later ex2 hk2⟩

/-- an operator's rule does what f says -/
def Snd2 (G : Gc) (r : R2) (f : D → D → List Cel → R D) : Prop :=
  ∀ (W : WX) (σ : L2.St) (m : List Addr) (H0 H : Hp) (S : List Cel) (x y : V) (a b : D) (Q : VK), Rl G m S H0 H → Is G H0 m a x → Is G H0 m b y → Kt G W σ m H0 H (f a b S) Q → r x y H Q
theorem tm_mono {x : M} {Q Q' : VK} (h : tM G W x σ H Q) (w : ∀ v H', Q v H' → Q' v H') : tM G W x σ H Q' := by
  obtain ⟨r, S, m, H0, he, hr, hk⟩ := h
  refine ⟨r, S, m, H0, he, hr, ?_⟩
  cases hx : x r S with
  | fail => rw [hx] at hk; exact hk
  | exc ex S1 => rw [hx] at hk; exact hk
  | ok d S1 =>
    rw [hx] at hk
    exact fun v m' H0' H' e1 e2 e3 => w _ _ (hk v m' H0' H' e1 e2 e3)
theorem tml_mono {x : ML} {Q Q' : List V → Hp → Prop} (h : tML G W x σ H Q) (w : ∀ v H', Q v H' → Q' v H') : tML G W x σ H Q' := by
  obtain ⟨r, S, m, H0, he, hr, hk⟩ := h
  refine ⟨r, S, m, H0, he, hr, ?_⟩
  cases hx : x r S with
  | fail => rw [hx] at hk; exact hk
  | exc ex S1 => rw [hx] at hk; exact hk
  | ok d S1 =>
    rw [hx] at hk
    exact fun v m' H0' H' e1 e2 e3 => w _ _ (hk v m' H0' H' e1 e2 e3)
theorem tmb_mono {x : MB} {Q Q' : Bool → Hp → Prop} (h : tMB G W x σ H Q) (w : ∀ v H', Q v H' → Q' v H') : tMB G W x σ H Q' := by
  obtain ⟨r, S, m, H0, he, hr, hk⟩ := h
  refine ⟨r, S, m, H0, he, hr, ?_⟩
  cases hx : x r S with
  | fail => rw [hx] at hk; exact hk
  | exc ex S1 => rw [hx] at hk; exact hk
  | ok d S1 =>
    rw [hx] at hk
    exact fun m' H0' H' e1 e2 => w _ _ (hk m' H0' H' e1 e2)
theorem me_bin {a b : Expr} {op : Operator} {r : R2} {f : D → D → List Cel → R D} {x y : M} {pos : Pos} (ho : OpR X (binaryOp op) r) (hs : Snd2 (gX X) r f) (ha : ME X W a x) (hb : ME X W b y) : ME X W (.BinOp a op b pos) (eBin f x y) :=
  pe_imp (pe_op ho ha hb) fun _ _ _ h => tm_mono (tm_bin h) fun _ _ h1 => tm_mono h1 fun _ _ ⟨_, _, _, _, _, h2, h3, h4, h5⟩ => hs _ _ _ _ _ _ _ _ _ _ _ h2 h3 h4 h5
theorem me_cmp {a b : Expr} {op : CmpOp} {r : R2} {f : D → D → List Cel → R D} {x y : M} {pos : Pos} (ho : OpR X (compareOp op) r) (hm : behindInMarks op b = false) (hs : Snd2 (gX X) r f) (ha : ME X W a x) (hb : ME X W b y) : ME X W (.Compare a [op] [b] pos) (eBin f x y) :=
  pe_imp (pe_cmpR ho ha hb hm) fun _ _ _ h => tm_mono (tm_bin h) fun _ _ h1 => tm_mono h1 fun _ _ ⟨_, _, _, _, _, h2, h3, h4, h5⟩ => hs _ _ _ _ _ _ _ _ _ _ _ h2 h3 h4 h5
/-- a value that is a bool, as a test -/
def toB (x : M) : MB := fun r S => match x r S with
  | .ok (.bl b) S1 => .ok b S1
  | .exc e S1 => .exc e S1
  | _ => .fail
theorem tm_tob {x : M} {Q : Bool → Hp → Prop} (h : tMB G W (toB x) σ H Q) : tM G W x σ H fun v H1 => ∃ b, v = .bl b ∧ Q b H1 := by
  obtain ⟨r, S, m, H0, he, hr, hk⟩ := h
  refine ⟨r, S, m, H0, he, hr, ?_⟩
  unfold toB at hk
  cases hx : x r S with
  | fail => rw [hx] at hk; exact hk
  | exc ex S1 => rw [hx] at hk; exact hk
  | ok d S1 =>
    rw [hx] at hk
    cases d with
    | bl b => exact fun v m' H0' H' e1 e2 e3 => ⟨b, is_bl.mp e3, hk m' H0' H' e1 e2⟩
    | _ => exact hk.elim
theorem mt_cmp {a b : Expr} {op : CmpOp} {r : R2} {f : D → D → List Cel → R D} {x y : M} {pos : Pos} (ho : OpR X (compareOp op) r) (hm : behindInMarks op b = false)
    (hs : ∀ (W : WX) (σ : L2.St) (m : List Addr) (H0 H : Hp) (S : List Cel) (x y : V) (a b : D) (Q : VK), Rl (gX X) m S H0 H → Is (gX X) H0 m a x → Is (gX X) H0 m b y → Kt (gX X) W σ m H0 H (f a b S) Q → r x y H Q)
    (ha : ME X W a x) (hb : ME X W b y) : MT X W (.Compare a [op] [b] pos) (toB (eBin f x y)) :=
  pt_imp (pt_cmpR ho ha hb hm) fun _ _ _ h => tm_mono (tm_bin (tm_tob h)) fun _ _ h1 => tm_mono h1 fun _ _ ⟨_, _, _, _, _, h2, h3, h4, h5⟩ => hs _ _ _ _ _ _ _ _ _ _ _ h2 h3 h4 h5
/-- any value that is a bool, as a test (not for and, or, not, comparisons) -/
theorem mt_val {e : Expr} {x : M} (h : ME X W e x) (he : ∀ whole, isTrue e X.env whole = (do let v ← whole; standAt e.pos; holding [v] (truthy v)) := by intro _; rfl) : MT X W e (toB x) :=
  pt_imp (pt_val h he) fun _ _ _ h => tm_tob h
def bNot (x : MB) : MB := fun r S => match x r S with
  | .ok b S1 => .ok (!b) S1
  | .exc e S1 => .exc e S1
  | .fail => .fail
def bAnd (x y : MB) : MB := fun r S => (x r S).bind fun b S1 => if b = true then y r S1 else .ok false S1
def bOr (x y : MB) : MB := fun r S => (x r S).bind fun b S1 => if b = true then .ok true S1 else y r S1
theorem mt_not {a : Expr} {x : MB} {pos : Pos} (h : MT X W a x) : MT X W (.UnaryOp .Not a pos) (bNot x) :=
  pt_imp (pt_not h) fun σ H Q h => by
    obtain ⟨r, S, m, H0, he, hr, hk⟩ := h
    refine ⟨r, S, m, H0, he, hr, ?_⟩
    unfold bNot at hk
    cases hx : x r S <;> (rw [hx] at hk; exact hk)
theorem mt_w {a : Expr} {x : MB} (h : MW X W a x) : MT X W a x := PW.pt h
theorem mw_and1 {a : Expr} {x : MB} {pos : Pos} (h : MT X W a x) : MW X W (.BoolOp .And [a] pos) x := pw_and1 h
theorem mw_or1 {a : Expr} {x : MB} {pos : Pos} (h : MT X W a x) : MW X W (.BoolOp .Or [a] pos) x := pw_or1 h
theorem tmb_and {x y : MB} {Q : Bool → Hp → Prop} (h : tMB G W (bAnd x y) σ H Q) : tAnd (tMB G W x) (tMB G W y) σ H Q := by
  obtain ⟨r, S, m, H0, he, hr, hk⟩ := h
  refine ⟨r, S, m, H0, he, hr, ?_⟩
  have hk' : KtB G W σ m H0 H ((x r S).bind fun b S1 => if b = true then y r S1 else .ok false S1) Q := hk
  cases hx : x r S with
  | fail => rw [hx] at hk'; exact hk'
  | exc ex S1 => rw [hx] at hk'; exact hk'
  | ok b S1 =>
    rw [hx] at hk'
    intro m' H0' H' ex rl
    cases b with
    | true => exact ⟨r, S1, m', H0', he.mono ex.imm ex.pre, rl, KtB.later ex hk'⟩
    | false => exact hk' m' H0' H' ex rl
theorem tmb_or {x y : MB} {Q : Bool → Hp → Prop} (h : tMB G W (bOr x y) σ H Q) : tOr (tMB G W x) (tMB G W y) σ H Q := by
  obtain ⟨r, S, m, H0, he, hr, hk⟩ := h
  refine ⟨r, S, m, H0, he, hr, ?_⟩
  have hk' : KtB G W σ m H0 H ((x r S).bind fun b S1 => if b = true then .ok true S1 else y r S1) Q := hk
  cases hx : x r S with
  | fail => rw [hx] at hk'; exact hk'
  | exc ex S1 => rw [hx] at hk'; exact hk'
  | ok b S1 =>
    rw [hx] at hk'
    intro m' H0' H' ex rl
    cases b with
    | false => exact ⟨r, S1, m', H0', he.mono ex.imm ex.pre, rl, KtB.later ex hk'⟩
    | true => exact hk' m' H0' H' ex rl
theorem mw_and {a b : Expr} {rest : List Expr} {x y : MB} {pos : Pos} (h : MT X W a x) (h' : MW X W (.BoolOp .And (b :: rest) pos) y) : MW X W (.BoolOp .And (a :: b :: rest) pos) (bAnd x y) :=
  pw_imp (pw_and h h') fun _ _ _ h => tmb_and h
theorem mw_or {a b : Expr} {rest : List Expr} {x y : MB} {pos : Pos} (h : MT X W a x) (h' : MW X W (.BoolOp .Or (b :: rest) pos) y) : MW X W (.BoolOp .Or (a :: b :: rest) pos) (bOr x y) :=
  pw_imp (pw_or h h') fun _ _ _ h => tmb_or h
/-- the same as values, of bools -/
def eAnd (x y : M) : M := fun r S => (x r S).bind fun d S1 => match d with
  | .bl true => y r S1
  | .bl false => .ok (.bl false) S1
  | _ => .fail
def eOr (x y : M) : M := fun r S => (x r S).bind fun d S1 => match d with
  | .bl false => y r S1
  | .bl true => .ok (.bl true) S1
  | _ => .fail
def eNot (x : M) : M := fun r S => (x r S).bind fun d S1 => match d with
  | .bl b => .ok (.bl (!b)) S1
  | _ => .fail
theorem me_one {op : BoolOp} {a : Expr} {x : M} {pos : Pos} (h : ME X W a x) : ME X W (.BoolOp op [a] pos) x := pe_one h
theorem me_and {a b : Expr} {rest : List Expr} {x y : M} {pos : Pos} (h : ME X W a x) (h' : ME X W (.BoolOp .And (b :: rest) pos) y) : ME X W (.BoolOp .And (a :: b :: rest) pos) (eAnd x y) :=
  pe_imp (pe_and h h') fun σ H Q h => by
    obtain ⟨r, S, m, H0, he, hr, hk⟩ := h
    refine ⟨r, S, m, H0, he, hr, ?_⟩
    unfold eAnd at hk
    cases hx : x r S with
    | fail => rw [hx] at hk; exact hk
    | exc ex S1 => rw [hx] at hk; exact hk
    | ok d S1 =>
      rw [hx] at hk
      intro v m' H0' H' ex rl i
      cases d with
      | bl b =>
        refine ⟨b, is_bl.mp i, ?_⟩
        cases b with
        | true => exact ⟨r, S1, m', H0', he.mono ex.imm ex.pre, rl, Kt.later ex hk⟩
        | false => exact hk _ m' H0' H' ex rl (is_bl.mpr rfl)
      | _ => exact hk.elim
theorem me_or {a b : Expr} {rest : List Expr} {x y : M} {pos : Pos} (h : ME X W a x) (h' : ME X W (.BoolOp .Or (b :: rest) pos) y) : ME X W (.BoolOp .Or (a :: b :: rest) pos) (eOr x y) :=
  pe_imp (pe_or h h') fun σ H Q h => by
    obtain ⟨r, S, m, H0, he, hr, hk⟩ := h
    refine ⟨r, S, m, H0, he, hr, ?_⟩
    unfold eOr at hk
    cases hx : x r S with
    | fail => rw [hx] at hk; exact hk
    | exc ex S1 => rw [hx] at hk; exact hk
    | ok d S1 =>
      rw [hx] at hk
      intro v m' H0' H' ex rl i
      cases d with
      | bl b =>
        refine ⟨b, is_bl.mp i, ?_⟩
        cases b with
        | false => exact ⟨r, S1, m', H0', he.mono ex.imm ex.pre, rl, Kt.later ex hk⟩
        | true => exact hk _ m' H0' H' ex rl (is_bl.mpr rfl)
      | _ => exact hk.elim
theorem me_not {a : Expr} {x : M} {pos : Pos} (h : ME X W a x) : ME X W (.UnaryOp .Not a pos) (eNot x) :=
  pe_imp (pe_not h) fun σ H Q h => by
    obtain ⟨r, S, m, H0, he, hr, hk⟩ := h
    refine ⟨r, S, m, H0, he, hr, ?_⟩
    unfold eNot at hk
    cases hx : x r S with
    | fail => rw [hx] at hk; exact hk
    | exc ex S1 => rw [hx] at hk; exact hk
    | ok d S1 =>
      rw [hx] at hk
      intro v m' H0' H' ex rl i
      cases d with
      | bl b => exact ⟨b, is_bl.mp i, hk _ m' H0' H' ex rl (is_bl.mpr rfl)⟩
      | _ => exact hk.elim
def eIf (t : MB) (x y : M) : M := fun r S => (t r S).bind fun b S1 => if b = true then x r S1 else y r S1
theorem me_if {c a b : Expr} {t : MB} {x y : M} {pos : Pos} (hc : MT X W c t) (ha : ME X W a x) (hb : ME X W b y) : ME X W (.IfExp c a b pos) (eIf t x y) :=
  pe_imp (pe_ifExp hc ha hb) fun σ H Q h => by
    obtain ⟨r, S, m, H0, he, hr, hk⟩ := h
    refine ⟨r, S, m, H0, he, hr, ?_⟩
    have hk' : Kt (gX X) W σ m H0 H ((t r S).bind fun b S1 => if b = true then x r S1 else y r S1) Q := hk
    cases hx : t r S with
    | fail => rw [hx] at hk'; exact hk'
    | exc ex S1 => rw [hx] at hk'; exact hk'
    | ok b S1 =>
      rw [hx] at hk'
      intro m' H0' H' ex rl
      cases b with
      | true => exact ⟨r, S1, m', H0', he.mono ex.imm ex.pre, rl, Kt.later ex hk'⟩
      | false => exact ⟨r, S1, m', H0', he.mono ex.imm ex.pre, rl, Kt.later ex hk'⟩

/-! names and constants -/
def eVar (i : Nat) : M := fun r S => match r[i]? with
  | some (some d) => .ok d S
  | _ => .fail
theorem me_var (i : Nat) {x : Str} {pos : Pos} (hN : X.N[i]? = some x := by rfl) (hv : Vis X.env.scope x := by first | exact Or.inl rfl | exact Or.inr (Or.inl rfl) | exact Or.inr (Or.inr rfl)) (hd : (x == ("__debug__" : Str)) = false := by decide)
    (hcd : (x == ("__classdict__" : Str)) = false := by decide) : ME X W (.Name x pos) (eVar i) :=
  pe_imp (pe_var hN hv hd hcd) fun σ H Q h => by
    obtain ⟨r, S, m, H0, he, hr, hk⟩ := h
    have hk' : Kt (gX X) W σ m H0 H (match r[i]? with
      | some (some d) => R.ok d S
      | _ => R.fail) Q := hk
    cases hi : r[i]? with
    | none => rw [hi] at hk'; exact hk'.elim
    | some o =>
      cases o with
      | none => rw [hi] at hk'; exact hk'.elim
      | some d =>
        rw [hi] at hk'
        obtain ⟨v, e1, e2⟩ := he.2 i d hi
        exact ⟨v, e1, kt_ok hk' hr e2⟩
def eC (d : D) : M := fun _ S => .ok d S
theorem tm_c {d : D} {v : V} {Q : VK} (h : tM G W (eC d) σ H Q) (i : ∀ H0 m, Is G H0 m d v) : Q v H := by
  obtain ⟨r, S, m, H0, he, hr, hk⟩ := h
  exact kt_ok hk hr (i _ _)
theorem me_int {i : Int} {j pos} : ME X W (.Constant (.int i) j pos) (eC (.int i)) := pe_imp pe_int fun _ _ _ h => tm_c h fun _ _ => is_int.mpr rfl
theorem me_bl {b : Bool} {j pos} : ME X W (.Constant (.bool b) j pos) (eC (.bl b)) := pe_imp pe_bl fun _ _ _ h => tm_c h fun _ _ => is_bl.mpr rfl
theorem me_non {j pos} : ME X W (.Constant .none j pos) (eC .non) := pe_imp pe_non fun _ _ _ h => tm_c h fun _ _ => is_non.mpr rfl
theorem me_str {x : Str} {j pos} : ME X W (.Constant (.str x) j pos) (eC (.str x)) := pe_imp pe_str fun _ _ _ h => tm_c h fun _ _ => is_str.mpr rfl
/-- a module's number -/
theorem me_gint {x : Str} {i : Int} {t : Tok} {pos : Pos} (hg : Gl X x) (hm : X.mg x = some (.int i t)) (hd : (x == ("__debug__" : Str)) = false := by decide) : ME X W (.Name x pos) (eC (.int i)) :=
  pe_imp (pe_glob hg hm (v := .int i) ⟨t, rfl⟩ hd) fun _ _ _ h => tm_c h fun _ _ => is_int.mpr rfl

/-! arguments -/
def aNil : ML := fun _ S => .ok [] S
def aCons (x : M) (y : ML) : ML := fun r S => (x r S).bind fun d S1 => (y r S1).bind fun ds S2 => .ok (d :: ds) S2
theorem tml_nil {Q : List V → Hp → Prop} (h : tML G W aNil σ H Q) : Q [] H := by
  obtain ⟨r, S, m, H0, he, hr, hk⟩ := h
  exact hk [] m H0 H (Ext.refl _ _ _) hr (isl_nil.mpr rfl)
theorem tml_cons {x : M} {y : ML} {Q : List V → Hp → Prop} (h : tML G W (aCons x y) σ H Q) : tM G W x σ H fun v H1 => tML G W y σ H1 fun vs H2 => Q (v :: vs) H2 := by
  obtain ⟨r, S, m, H0, he, hr, hk⟩ := h
  refine ⟨r, S, m, H0, he, hr, ?_⟩
  have hk' : KtL G W σ m H0 H ((x r S).bind fun d S1 => (y r S1).bind fun ds S2 => .ok (d :: ds) S2) Q := hk
  cases hx : x r S with
  | fail => rw [hx] at hk'; exact hk'
  | exc ex S1 => rw [hx] at hk'; exact hk'
  | ok d S1 =>
    rw [hx] at hk'
    intro v m1 H01 H1 ex rl i
    refine ⟨r, S1, m1, H01, he.mono ex.imm ex.pre, rl, ?_⟩
    have hk2 : KtL G W σ m1 H01 H1 ((y r S1).bind fun ds S2 => .ok (d :: ds) S2) Q := KtL.later ex hk'
    cases hy : y r S1 with
    | fail => rw [hy] at hk2; exact hk2
    | exc ex S1 => rw [hy] at hk2; exact hk2
    | ok ds S2 =>
      rw [hy] at hk2
      exact fun vs m2 H02 H2 ex2 rl2 i2 => hk2 _ m2 H02 H2 ex2 rl2 (isl_cons.mpr ⟨v, vs, rfl, Is.mono ex2.imm ex2.pre _ _ i, i2⟩)
theorem ma_nil : MA X W [] aNil := pa_imp pa_nil fun _ _ _ h => tml_nil h
theorem ma_cons {a : Expr} {x : M} {y : ML} (ha : ME X W a x) (hr : MA X W es y) (hs : starEach (a :: es) X.env = (false, eval a X.env) :: starEach es X.env := by rfl) : MA X W (a :: es) (aCons x y) :=
  pa_imp (pa_cons ha hr hs) fun _ _ _ h => tml_cons h
end
end Me
end
section
set_option Elab.async false
set_option linter.all false
set_option maxRecDepth 100000
namespace Me
open PySem PySem.Spec L2
open PyProof.Rows hiding St

/-! ### defs, where nothing is being shown (the repr guards are empty) -/
structure FnG (P : Program) (w : World) (K : PySem.W.Frag) (mg : Str → Option Value) (base : Heap) (k : Nat) (f : Addr) (fd : FuncData) (ps : List Str) (sp : Sp) : Prop where
  len : ∀ vs H Q E, sp vs H Q E → vs.length = ps.length
  go : ∀ (A : Around) (outer : List Env) (s : Shared) (H : Hp) (args : Args) (us : List Value) (vs : List V) (Q : VK) (E : XK),
    Room k A → A.guards = some [] → Env0 P w K mg base A outer s H → BindsTo s fd args (ps.zip us) → Vals vs us → sp vs H Q E →
    codeAny (model P w) A (.call (.ref f) args) (CR (L2.CX P w) outer P w H s Q E) s

theorem guards_deeper {A : Around} {env : Env} (h : A.guards = some []) : (A.deeper env).guards = some [] := by
  first | exact h | (simp [Around.deeper, h])

theorem guards_make {A : Around} {C : Addr} {us : List Value} {kw : List (Str × Value)} (h : A.guards = some []) : (A.under (.builtin "type.__call__" ⟨.ref C :: us, kw⟩)).guards = some [] := by
  first | exact h | (simp [Around.under, Code.guards, Code.isGuard, guardIds, pushGuards, h])

/-- a def by its body -/
theorem FnG.mk' {P : Program} {w : World} {K : PySem.W.Frag} {mg : Str → Option Value} {base : Heap} {x qual : Str} {params : Arguments} {body : List Stmt} {scope : Scope} {dvs : List V} {kws : List (Str × V)} {f : Addr} {fd : FuncData} {N ps : List Str} {k : Nat} {sp : Sp}
    (F : FunD K x qual params body scope dvs kws f fd) (Sc : FnScope N ps scope) (len : ∀ vs H Q E, sp vs H Q E → vs.length = ps.length)
    (hbody : ∀ (cdv : Value) (A : Around) (outer : List Env) (s : Shared) (H : Hp) (vs : List V) (Q : VK) (E : XK), Room k (A.deeper (envOfC qual scope s.heap.objs.size f cdv)) → (A.deeper (envOfC qual scope s.heap.objs.size f cdv)).guards = some [] → sp vs H Q E →
      ∃ t, PSs (cxOf (L2.CX P w) P w K mg base N qual scope f cdv A outer s H E) body t ∧ t { nx := fun _ H' => Q .non H', rt := Q } (start N vs) H) :
    FnG P w K mg base (k + 1) f fd ps sp := by
  obtain ⟨oc, od, dV, kV, doc, pm, an, cdv, ct, osl, rfl, lk, hcd, _, _⟩ := F.ex
  constructor
  · exact len
  intro A outer s H args us vs Q E hr hg e0 hb rv hsp
  have inK : K.In s.heap := e0.mod.kin.keeps fun b o q => (e0.bs b o q).1
  have noLim : s.heap.NoLimit := e0.mod.nolimit.keeps fun b o q => (e0.bs b o q).1
  have kinds : ∀ y ∈ ps.zip us, scope.names.lookup y.1 = some .local ∨ (scope.names.lookup y.1 = some .cell ∧ ((cellsFrom (s.heap.objs.size + 1) scope.names []).lookup y.1).isSome = true) := by
    rintro ⟨n, v⟩ hy
    have hn : n ∈ ps := (List.of_mem_zip hy).1
    rcases Sc.par n hn with q | q
    · left
      exact q
    · right
      exact ⟨q, PySem.W.cellsFrom_some _ _ _ (Or.inl q)⟩
  apply codeAny_call_function hr.depth (inK _ _ lk) rfl Sc.co Sc.gen rfl (PySem.W.codeRec_of inK hcd)
  apply hb
  apply wpAny_newFunctionEnv_cells Sc.kind kinds
  intro env he s1 x
  subst he
  refine ⟨noLim.keeps x.toInCall.keep, codeAny_func ?_⟩
  obtain ⟨t, ht, hq⟩ := hbody cdv A outer s H vs Q E (hr.deeper _) (guards_deeper hg) hsp
  have I0 := inv_start (CX := L2.CX P w) (E := E) Sc hr.hd e0 (len _ _ _ _ hsp) rv x
  refine wpAny_mono (ht.run [] s1 (start N vs) H _ I0 hq) ?_ (fun e s' hs => hs)
  intro fl s' hs
  cases fl with
  | next =>
    obtain ⟨σ', H', J, q⟩ := hs
    exact ⟨.non, H', J.os, J.bare, J.base, J.hok, rfl, q⟩
  | ret u =>
    obtain ⟨v, σ', H', J, rv', q⟩ := hs
    exact ⟨v, H', J.os, J.bare, J.base, J.hok, rv', q⟩
  | brk =>
    obtain ⟨_, _, _, q⟩ := hs
    exact q.elim
  | cont =>
    obtain ⟨_, _, _, q⟩ := hs
    exact q.elim

/-! ### calls by values -/
/-- f called with positional values xs and keywords ks of the values zs -/
def CallX (X : Cx) (f : Value) (ks : List Str) (r : L2.St → List V → List V → Hp → VK → Prop) : Prop :=
  ∀ (pins : List (Addr × Obj)) (s : Shared) (σ : L2.St) (H : Hp) (xs : List V) (us : List Value) (zs : List V) (ws : List Value) (Q : VK), Inv X pins σ H s → Vals xs us → Vals zs ws → r σ xs zs H Q →
    wpAny (model X.prog X.w) X.A (call f us (ks.zip ws)) (EP X pins σ Q) X.xe s
section
variable {X : Cx} {W : WX} {k : Nat} {f C : Addr} {fd : FuncData} {ps ks : List Str} {sp : Sp} {g : List Value → List Value → List Value} {gV : List V → List V → List V}
theorem callx_fn (F : FnG X.prog X.w X.K X.mg X.base k f fd ps sp) (hr : Room k X.A) (hg : X.A.guards = some []) (hb : KBinds X.K fd ps ks g gV) (tk : Takes X W) :
    CallX X (.ref f) ks (fun σ xs zs H Q => sp (gV xs zs) H Q (WE W σ)) := by
  intro pins s σ H xs us zs ws Q I rx rz h
  have rg := hb.rel rx rz
  have hl : (g us ws).length = ps.length := by rw [← rg.length]; exact F.len _ _ _ _ h
  apply wpAny_call
  refine codeAny_mono (F.go X.A X.stack s H ⟨us, ks.zip ws⟩ (g us ws) (gV xs zs) Q (WE W σ) hr hg I.env0 (hb.to s us ws I.kIn hl) rg h) ?_
  intro res s' hq
  cases res with
  | error e => exact passAt tk σ pins H s e s' I hq
  | ok fl => cases fl with
    | ret u => exact I.after hq
    | next => exact hq.elim
    | brk => exact hq.elim
    | cont => exact hq.elim
/-- a new instance of the class at C, then __init__ at f -/
theorem callx_make (Mc : Mk X.K C f) (F : FnG X.prog X.w X.K X.mg X.base k f fd ps sp) (hr : Room (k + 1) X.A) (hg : X.A.guards = some []) (hb : KBinds X.K fd ps ks g gV) (tk : Takes X W) :
    CallX X (.ref C) ks (fun σ xs zs H Q => ∀ x dx, H x = none → H dx = none → dx ≠ x → sp (gV (.ref x :: xs) zs) (upd (upd H dx (.own x)) x (.ins C dx [])) (fun v H2 => v = .non ∧ Q (.ref x) H2) (WE W σ)) := by
  intro pins s σ H xs us zs ws Q I rx rz h
  have hq := h (s.heap.objs.size + 1) s.heap.objs.size (I.hok.fresh (Nat.le_succ _)) (I.hok.fresh (Nat.le_refl _)) (Nat.ne_of_lt (Nat.lt_succ_self _))
  have I2 := Inv.made (C := C) I
  have rx2 : Vals (V.ref (s.heap.objs.size + 1) :: xs) (Value.ref (s.heap.objs.size + 1) :: us) := .cons rfl rx
  have rg := hb.rel rx2 rz
  have hl : (g (Value.ref (s.heap.objs.size + 1) :: us) ws).length = ps.length := by rw [← rg.length]; exact F.len _ _ _ _ hq
  refine wpAny_call (make_map (f := f) I.kIn Mc.makes Mc.init (beq_iff_eq.mp Mc.fn) (codeAny_mono (F.go _ X.stack _ _ ⟨Value.ref (s.heap.objs.size + 1) :: us, ks.zip ws⟩ (g (Value.ref (s.heap.objs.size + 1) :: us) ws) _ _ (WE W σ)
    (hr.make C us (ks.zip ws)) (guards_make hg) (I2.env0.make C us (ks.zip ws)) (hb.to _ (Value.ref (s.heap.objs.size + 1) :: us) ws I2.kIn hl) rg hq) ?_))
  intro res s' hq'
  cases res with
  | error e => exact passAt tk σ pins _ _ e s' I2 hq'
  | ok fl => cases fl with
    | ret u =>
      obtain ⟨v, H', I3, rv, ev, q3⟩ := I2.after hq'
      subst ev
      exact ⟨rv, ⟨V.ref (s.heap.objs.size + 1), H', I3, rfl, q3⟩⟩
    | next => exact hq'.elim
    | brk => exact hq'.elim
    | cont => exact hq'.elim
end
end Me
end
section
set_option Elab.async false
set_option linter.all false
set_option maxRecDepth 100000
namespace Me
open PySem PySem.Spec L2
open PyProof.Rows hiding St

/-! data without cells -/
mutual
def D.cf : D → Bool
  | .tup xs => D.cfL xs
  | .lst xs => D.cfL xs
  | .frl xs => D.cfL xs
  | .obj _ _ ds => D.cfL ds
  | .cell _ => false
  | .non => true
  | .bl _ => true
  | .int _ => true
  | .str _ => true
def D.cfL : List D → Bool
  | [] => true
  | d :: ds => d.cf && D.cfL ds
end
mutual
theorem Is.cfm {G : Gc} {H : Hp} {m m' : List Addr} : ∀ (d : D) (v : V), d.cf = true → Is G H m d v → Is G H m' d v
  | .non, _, _, h => by simpa only [Is] using h
  | .bl _, _, _, h => by simpa only [Is] using h
  | .int _, _, _, h => by simpa only [Is] using h
  | .str _, _, _, h => by simpa only [Is] using h
  | .tup xs, v, c, h => by
    simp only [D.cf] at c
    obtain ⟨a, vs, h1, h2, h3⟩ := is_tup.mp h
    exact is_tup.mpr ⟨a, vs, h1, h2, IsL.cfm xs vs c h3⟩
  | .lst xs, v, c, h => by
    simp only [D.cf] at c
    obtain ⟨a, vs, h1, h2, h3⟩ := is_lst.mp h
    exact is_lst.mpr ⟨a, vs, h1, h2, IsL.cfm xs vs c h3⟩
  | .frl xs, v, c, h => by
    simp only [D.cf] at c
    obtain ⟨a, vs, h1, h2, h3⟩ := is_frl.mp h
    exact is_frl.mpr ⟨a, vs, h1, h2, IsL.cfm xs vs c h3⟩
  | .obj n ns ds, v, c, h => by
    simp only [D.cf] at c
    obtain ⟨a, C, dx, fs, h1, h2, h3, h4, h5⟩ := is_obj.mp h
    exact is_obj.mpr ⟨a, C, dx, fs, h1, h2, h3, h4, IsL.cfm ds _ c h5⟩
  | .cell _, _, c, _ => by simp [D.cf] at c
theorem IsL.cfm {G : Gc} {H : Hp} {m m' : List Addr} : ∀ (ds : List D) (vs : List V), D.cfL ds = true → IsL G H m ds vs → IsL G H m' ds vs
  | [], vs, _, h => isl_nil.mpr (isl_nil.mp h)
  | d :: ds, vs, c, h => by
    simp only [D.cfL, Bool.and_eq_true] at c
    obtain ⟨v, r, e, h1, h2⟩ := isl_cons.mp h
    exact isl_cons.mpr ⟨v, r, e, Is.cfm d v c.1 h1, IsL.cfm ds r c.2 h2⟩
end
def Cel.cf : Cel → Bool
  | .lst ds => D.cfL ds
  | .ins _ _ ds => D.cfL ds
  | .dead => true
theorem CelAt.cfm {G : Gc} {H0 H : Hp} {m m' : List Addr} {a : Addr} {c : Cel} (hc : c.cf = true) (h : CelAt G H0 H m a c) : CelAt G H0 H m' a c := by
  cases c with
  | lst ds =>
    obtain ⟨vs, e1, e2⟩ := h
    exact ⟨vs, e1, IsL.cfm _ _ hc e2⟩
  | ins c ns ds =>
    obtain ⟨C, dx, fs, e1, e2, e3, e4⟩ := h
    exact ⟨C, dx, fs, e1, e2, e3, IsL.cfm _ _ hc e4⟩
  | dead => trivial

/-- a def's function on data -/
abbrev DF := List D → List Cel → R D
/-- its promise: it does what F says -/
def spM (G : Gc) (n : Nat) (F : DF) : Sp := fun vs H Q E => vs.length = n ∧ ∃ ds S m H0, IsL G H0 m ds vs ∧ Rl G m S H0 H ∧ Kt G (fun c d _ H => E c d H) [] m H0 H (F ds S) Q

theorem Rl.nil {G : Gc} {H : Hp} : Rl G [] [] H H := ⟨Same.refl _, rfl, List.nodup_nil, fun k c a h => by simp at h, fun k c a h => by simp at h, fun a h => by simp at h⟩
theorem Rl.empty {G : Gc} {H0 H : Hp} {m : List Addr} {S : List Cel} (r : Rl G m S H0 H) : Rl G [] [] H0 H := ⟨r.sub, rfl, List.nodup_nil, fun k c a h => by simp at h, fun k c a h => by simp at h, fun a h => by simp at h⟩
/-- behind a call that saw no cell -/
theorem Ext.up0 {H0 H : Hp} {m m' : List Addr} {H0' H' : Hp} (e : Ext [] H0 H m' H0' H') : Ext m H0 H m H0' H' where
  imm := e.imm
  pre := List.prefix_refl _
  keep := fun a o h _ => e.keep a o h (by simp)
  new := fun a h => Or.inl h
  fr := fun a o h => by
    rcases e.fr a o h with q | q | q
    · exact Or.inl q
    · exact Or.inr (Or.inl q)
    · simp at q
theorem Rl.up0 {G : Gc} {H0 H : Hp} {m m' : List Addr} {S S' : List Cel} {H0' H' : Hp} (r : Rl G m S H0 H) (e : Ext [] H0 H m' H0' H') (r' : Rl G m' S' H0' H') : Rl G m S H0' H' where
  sub := r'.sub
  len := r.len
  nd := r.nd
  at_ := fun k c a h1 h2 => (r.at_ k c a h1 h2).mono e.imm (List.prefix_refl _) fun o q => e.keep a o q (by simp)
  out := fun k c a h1 h2 hl => by
    cases q : H0' a with
    | none => rfl
    | some o =>
      rcases e.fr a o q with z | z | z
      · rw [r.out k c a h1 h2 hl] at z
        cases z
      · obtain ⟨u, y⟩ := r.trk a (List.mem_of_getElem? h2)
        rw [z] at y
        cases y
      · simp at z
  trk := fun a h => by
    obtain ⟨u, y⟩ := r.trk a h
    exact ⟨u, e.keep a u y (by simp)⟩

/-- a call without cells, its value without cells -/
def callP (F : DF) (ds : List D) (S : List Cel) : R D :=
  if D.cfL ds = true then (match F ds [] with
    | .ok d _ => if d.cf = true then .ok d S else .fail
    | .exc e _ => if D.cfL e.ds = true then .exc e S else .fail
    | .fail => .fail) else .fail
theorem callP_snd {G : Gc} {W : WX} {σ : L2.St} {m : List Addr} {H0 H : Hp} {S : List Cel} {n : Nat} {F : DF} {ds : List D} {vs : List V} {Q : VK} (hn : vs.length = n) (r : Rl G m S H0 H) (i : IsL G H0 m ds vs)
    (h : Kt G W σ m H0 H (callP F ds S) Q) : spM G n F vs H Q (WE W σ) := by
  unfold callP at h
  by_cases hc : D.cfL ds = true
  · rw [if_pos hc] at h
    refine ⟨hn, ds, [], [], H0, IsL.cfm _ _ hc i, r.empty, ?_⟩
    cases hF : F ds [] with
    | fail => rw [hF] at h; exact h
    | ok d S' =>
      rw [hF] at h
      intro v m' H0' H' e r' i'
      by_cases hd : d.cf = true
      · have h' : Kt G W σ m H0 H (.ok d S) Q := by simpa [hd] using h
        exact h' v m H0' H' e.up0 (r.up0 e r') (Is.cfm _ _ hd i')
      · simp [hd] at h
        exact h.elim
    | exc x S' =>
      rw [hF] at h
      intro c dd m' H0' H' e r' i'
      by_cases hd : D.cfL x.ds = true
      · have h' : Kt G W σ m H0 H (.exc x S) Q := by simpa [hd] using h
        obtain ⟨C, d, fs, x1, x2, x3, x4, x5, x6⟩ := i'
        exact h' c dd m H0' H' e.up0 (r.up0 e r') ⟨C, d, fs, x1, x2, x3, x4, x5, IsL.cfm _ _ hd x6⟩
      · simp [hd] at h
        exact h.elim
  · rw [if_neg hc] at h
    exact h.elim

theorem Ext.up1 {H0 H : Hp} {m m' : List Addr} {a : Addr} {H0' H' : Hp} (ha : a ∈ m) (e : Ext [a] H0 H m' H0' H') : Ext m H0 H m H0' H' where
  imm := e.imm
  pre := List.prefix_refl _
  keep := fun b o h n => e.keep b o h fun z => n (by simp at z; rw [z]; exact ha)
  new := fun a h => Or.inl h
  fr := fun b o h => by
    rcases e.fr b o h with q | q | q
    · exact Or.inl q
    · exact Or.inr (Or.inl q)
    · simp at q
      rw [q]
      exact Or.inr (Or.inr ha)
theorem Rl.one {G : Gc} {H0 H : Hp} {m : List Addr} {S : List Cel} {k : Nat} {c : Cel} {a : Addr} (r : Rl G m S H0 H) (h1 : S[k]? = some c) (h2 : m[k]? = some a) (hc : c.cf = true) : Rl G [a] [c] H0 H where
  sub := r.sub
  len := rfl
  nd := by simp
  at_ := fun j c' a' e1 e2 => by
    cases j with
    | zero =>
      simp at e1 e2
      subst e1 e2
      exact CelAt.cfm hc (r.at_ k _ _ h1 h2)
    | succ j => simp at e1
  out := fun j c' a' e1 e2 hl => by
    cases j with
    | zero =>
      simp at e1 e2
      subst e1 e2
      exact r.out k _ _ h1 h2 hl
    | succ j => simp at e1
  trk := fun b hb => by
    simp at hb
    rw [hb]
    exact r.trk a (List.mem_of_getElem? h2)
theorem nd_get {α : Type} {l : List α} (hN : l.Nodup) {i j : Nat} {x : α} (a : l[i]? = some x) (b : l[j]? = some x) : i = j := by
  obtain ⟨h1, e1⟩ := List.getElem?_eq_some_iff.mp a
  obtain ⟨h2, e2⟩ := List.getElem?_eq_some_iff.mp b
  exact (List.getElem_inj hN).mp (e1.trans e2.symm)
theorem Rl.up1 {G : Gc} {H0 H : Hp} {m m' : List Addr} {S S' : List Cel} {k : Nat} {c c' : Cel} {a : Addr} {H0' H' : Hp} (r : Rl G m S H0 H) (h1 : S[k]? = some c) (h2 : m[k]? = some a)
    (e : Ext [a] H0 H m' H0' H') (r' : Rl G m' S' H0' H') (h0 : S'[0]? = some c') (hc' : c'.cf = true) : Rl G m (S.set k c') H0' H' := by
  have ma : m'[0]? = some a := by
    obtain ⟨t, q⟩ := e.pre
    rw [← q]
    rfl
  refine ⟨r'.sub, by rw [List.length_set]; exact r.len, r.nd, fun j d b e1 e2 => ?_, fun j d b e1 e2 hl => ?_, fun b hb => ?_⟩
  · by_cases hj : k = j
    · subst hj
      rw [h2] at e2
      cases e2
      rw [List.getElem?_set, if_pos rfl] at e1
      split at e1
      · cases e1
        exact CelAt.cfm hc' (r'.at_ 0 _ _ h0 ma)
      · cases e1
    · rw [List.getElem?_set_ne hj] at e1
      exact (r.at_ j d b e1 e2).mono e.imm (List.prefix_refl _) fun o q => e.keep b o q fun z => hj (by simp at z; rw [z] at e2; exact nd_get r.nd h2 e2)
  · by_cases hj : k = j
    · subst hj
      rw [h2] at e2
      cases e2
      rw [List.getElem?_set, if_pos rfl] at e1
      split at e1
      · cases e1
        exact r'.out 0 _ _ h0 ma hl
      · cases e1
    · rw [List.getElem?_set_ne hj] at e1
      cases q : H0' b with
      | none => rfl
      | some o =>
        rcases e.fr b o q with z | z | z
        · rw [r.out j d b e1 e2 hl] at z
          cases z
        · obtain ⟨u, y⟩ := r.trk b (List.mem_of_getElem? e2)
          rw [z] at y
          cases y
        · simp at z
          rw [z] at e2
          exact absurd (nd_get r.nd h2 e2) hj
  · by_cases hb2 : b = a
    · rw [hb2]
      exact r'.trk a (List.mem_of_getElem? ma)
    · obtain ⟨u, y⟩ := r.trk b hb
      exact ⟨u, e.keep b u y (by simp [hb2])⟩

/-- a call whose first argument is a cell, its value without cells -/
def callB (F : DF) (ds : List D) (S : List Cel) : R D :=
  match ds with
  | .cell k :: rest => (match S[k]? with
    | some c => if (D.cfL rest && c.cf) = true then (match F (.cell 0 :: rest) [c] with
      | .ok d (c' :: _) => if (d.cf && c'.cf) = true then .ok d (S.set k c') else .fail
      | .exc e (c' :: _) => if (D.cfL e.ds && c'.cf) = true then .exc e (S.set k c') else .fail
      | _ => .fail) else .fail
    | none => .fail)
  | _ => .fail
theorem callB_snd {G : Gc} {W : WX} {σ : L2.St} {m : List Addr} {H0 H : Hp} {S : List Cel} {n : Nat} {F : DF} {ds : List D} {vs : List V} {Q : VK} (hn : vs.length = n) (r : Rl G m S H0 H) (i : IsL G H0 m ds vs)
    (h : Kt G W σ m H0 H (callB F ds S) Q) : spM G n F vs H Q (WE W σ) := by
  cases ds with
  | nil => exact h.elim
  | cons d0 rest =>
    cases d0 with
    | cell k =>
      obtain ⟨v0, vr, rfl, i0, ir⟩ := isl_cons.mp i
      obtain ⟨a, rfl, hm⟩ := is_cell.mp i0
      unfold callB at h
      cases hS : S[k]? with
      | none => simp [hS] at h; exact h.elim
      | some c =>
        simp only [hS] at h
        by_cases hc : (D.cfL rest && c.cf) = true
        · rw [if_pos hc] at h
          rw [Bool.and_eq_true] at hc
          refine ⟨hn, .cell 0 :: rest, [c], [a], H0, isl_cons.mpr ⟨_, _, rfl, is_cell.mpr ⟨a, rfl, rfl⟩, IsL.cfm _ _ hc.1 ir⟩, r.one hS hm hc.2, ?_⟩
          cases hF : F (.cell 0 :: rest) [c] with
          | fail => rw [hF] at h; exact h
          | ok d S' =>
            rw [hF] at h
            intro v m' H0' H' e r' i'
            cases S' with
            | nil => exact h.elim
            | cons c' g =>
              by_cases hd : (d.cf && c'.cf) = true
              · have h' : Kt G W σ m H0 H (.ok d (S.set k c')) Q := by simpa only [hd, if_true] using h
                rw [Bool.and_eq_true] at hd
                exact h' v m H0' H' (e.up1 (List.mem_of_getElem? hm)) (r.up1 hS hm e r' rfl hd.2) (Is.cfm _ _ hd.1 i')
              · simp [hd] at h
                exact h.elim
          | exc x S' =>
            rw [hF] at h
            intro cc dd m' H0' H' e r' i'
            cases S' with
            | nil => exact h.elim
            | cons c' g =>
              by_cases hd : (D.cfL x.ds && c'.cf) = true
              · have h' : Kt G W σ m H0 H (.exc x (S.set k c')) Q := by simpa only [hd, if_true] using h
                rw [Bool.and_eq_true] at hd
                obtain ⟨C, d, fs, x1, x2, x3, x4, x5, x6⟩ := i'
                exact h' cc dd m H0' H' (e.up1 (List.mem_of_getElem? hm)) (r.up1 hS hm e r' rfl hd.2) ⟨C, d, fs, x1, x2, x3, x4, x5, IsL.cfm _ _ hd.1 x6⟩
              · simp [hd] at h
                exact h.elim
        · rw [if_neg hc] at h
          exact h.elim
    | _ => exact h.elim

/-- a call without cells whose value is a list of its own that the caller may change -/
def callF (F : DF) (ds : List D) (S : List Cel) : R D :=
  if D.cfL ds = true then (match F ds [] with
    | .ok (.cell j) S' => (match S'[j]? with
      | some (.lst xs) => if D.cfL xs = true then .ok (.cell S.length) (S ++ [.lst xs]) else .fail
      | _ => .fail)
    | .exc e _ => if D.cfL e.ds = true then .exc e S else .fail
    | _ => .fail) else .fail
theorem getL_snoc {α : Type} {l : List α} {x : α} : (l ++ [x])[l.length]? = some x := by simp
theorem get_snoc {α : Type} {l : List α} {x y : α} {j : Nat} (h : (l ++ [x])[j]? = some y) : (j < l.length ∧ l[j]? = some y) ∨ (j = l.length ∧ y = x) := by
  by_cases hj : j < l.length
  · rw [List.getElem?_append_left hj] at h
    exact Or.inl ⟨hj, h⟩
  · by_cases e : j = l.length
    · subst e
      rw [getL_snoc] at h
      exact Or.inr ⟨rfl, (Option.some.inj h).symm⟩
    · rw [List.getElem?_eq_none (by simp; omega)] at h
      cases h
/-- a further cell -/
theorem Rl.snoc {G : Gc} {H0 H : Hp} {m : List Addr} {S : List Cel} {c : Cel} {b : Addr} (r : Rl G m S H0 H) (hb : b ∉ m) (hc : CelAt G H0 H (m ++ [b]) b c) (h0 : c.live = true → H0 b = none) (ht : ∃ o, H b = some o) : Rl G (m ++ [b]) (S ++ [c]) H0 H where
  sub := r.sub
  len := by rw [List.length_append, List.length_append, r.len]; rfl
  nd := by
    rw [List.nodup_append]
    refine ⟨r.nd, by simp, fun x hx y hy => ?_⟩
    simp at hy
    rw [hy]
    intro z
    rw [z] at hx
    exact hb hx
  at_ := fun j d a e1 e2 => by
    rcases get_snoc e1 with ⟨l1, e1⟩ | ⟨l1, e1⟩
    · rcases get_snoc e2 with ⟨l2, e2⟩ | ⟨l2, e2⟩
      · exact (r.at_ j d a e1 e2).mono (Same.refl _) (List.prefix_append _ _) fun o q => q
      · rw [← r.len] at l1
        omega
    · rcases get_snoc e2 with ⟨l2, e2⟩ | ⟨l2, e2⟩
      · rw [← r.len] at l1
        omega
      · rw [e1, e2]
        exact hc
  out := fun j d a e1 e2 hl => by
    rcases get_snoc e1 with ⟨l1, e1⟩ | ⟨l1, e1⟩
    · rcases get_snoc e2 with ⟨l2, e2⟩ | ⟨l2, e2⟩
      · exact r.out j d a e1 e2 hl
      · rw [← r.len] at l1
        omega
    · rcases get_snoc e2 with ⟨l2, e2⟩ | ⟨l2, e2⟩
      · rw [← r.len] at l1
        omega
      · rw [e2]
        rw [e1] at hl
        exact h0 hl
  trk := fun a ha => by
    rcases List.mem_append.mp ha with h | h
    · exact r.trk a h
    · simp at h
      rw [h]
      exact ht
theorem callF_snd {G : Gc} {W : WX} {σ : L2.St} {m : List Addr} {H0 H : Hp} {S : List Cel} {n : Nat} {F : DF} {ds : List D} {vs : List V} {Q : VK} (hn : vs.length = n) (r : Rl G m S H0 H) (i : IsL G H0 m ds vs)
    (h : Kt G W σ m H0 H (callF F ds S) Q) : spM G n F vs H Q (WE W σ) := by
  unfold callF at h
  by_cases hc : D.cfL ds = true
  · rw [if_pos hc] at h
    refine ⟨hn, ds, [], [], H0, IsL.cfm _ _ hc i, r.empty, ?_⟩
    cases hF : F ds [] with
    | fail => rw [hF] at h; exact h
    | exc x S' =>
      rw [hF] at h
      intro c dd m' H0' H' e r' i'
      by_cases hd : D.cfL x.ds = true
      · have h' : Kt G W σ m H0 H (.exc x S) Q := by simpa [hd] using h
        obtain ⟨C, d, fs, x1, x2, x3, x4, x5, x6⟩ := i'
        exact h' c dd m H0' H' e.up0 (r.up0 e r') ⟨C, d, fs, x1, x2, x3, x4, x5, IsL.cfm _ _ hd x6⟩
      · simp [hd] at h
        exact h.elim
    | ok d S' =>
      rw [hF] at h
      intro v m' H0' H' e r' i'
      cases d with
      | cell j =>
        simp only at h
        cases hj : S'[j]? with
        | none => simp [hj] at h; exact h.elim
        | some c =>
          cases c with
          | lst xs =>
            simp only [hj] at h
            by_cases hd : D.cfL xs = true
            · rw [if_pos hd] at h
              obtain ⟨b, rfl, hm⟩ := is_cell.mp i'
              have hb : H b = none := by
                rcases e.new b (List.mem_of_getElem? hm) with z | z
                · simp at z
                · exact z
              have nb : b ∉ m := fun z => by
                obtain ⟨u, y⟩ := r.trk b z
                rw [hb] at y
                cases y
              obtain ⟨ws, e1, e2⟩ := r'.at_ j _ _ hj hm
              have R2 := (r.up0 e r').snoc (c := .lst xs) nb ⟨ws, e1, IsL.cfm _ _ hd e2⟩ (fun _ => r'.out j _ _ hj hm rfl) ⟨_, e1⟩
              refine h (.ref b) (m ++ [b]) H0' H' ⟨e.imm, List.prefix_append _ _, fun a o q _ => e.keep a o q (by simp), fun a ha => ?_, fun a o q => ?_⟩ R2 (is_cell.mpr ⟨b, rfl, by rw [← r.len]; exact getL_snoc⟩)
              · rcases List.mem_append.mp ha with z | z
                · exact Or.inl z
                · simp at z
                  rw [z]
                  exact Or.inr hb
              · rcases e.fr a o q with z | z | z
                · exact Or.inl z
                · exact Or.inr (Or.inl z)
                · simp at z
            · rw [if_neg hd] at h
              exact h.elim
          | _ => simp [hj] at h; exact h.elim
      | _ => exact h.elim
  · rw [if_neg hc] at h
    exact h.elim
end Me
end
section
set_option Elab.async false
set_option linter.all false
set_option maxRecDepth 100000
namespace Me
open PySem PySem.Spec L2
open PyProof.Rows hiding St

section
variable {X : Cx} {W : WX} {f C : Addr} {fv : Value} {ks : List Str} {x mn : Str} {p pos apos : Pos} {e o : Expr} {es : List Expr} {kws : List Keyword} {t tk : TA} {ta : TE} {r : L2.St → List V → List V → Hp → VK → Prop}

/-- a known thing is called with written arguments -/
theorem pe_cx (hc : CallX X (.ref f) ks r) (hg : Gl X x) (hm : X.mg x = some (.ref f)) (hk : PySem.W.keepIn X.K (.ref f) = true) (ha : PA X (e :: es) t) (hkw : PK X kws tk)
    (hall : (backToKw pos (keywordEach kws X.env)).all (·.1.isSome) = true := by rfl) (hks : (backToKw pos (keywordEach kws X.env)).filterMap (·.1) = ks := by rfl) (hdb : (x == ("__debug__" : Str)) = false := by decide)
    (he : starEach (e :: es) X.env = (false, eval e X.env) :: starEach es X.env := by rfl) (hpl : ((backTo pos (starEach (e :: es) X.env)).any (·.1) || (backToKw pos (keywordEach kws X.env)).any (·.1.isNone)) = false := by rfl) :
    PE X (.Call (.Name x p) (e :: es) kws pos) (fun σ H Q => t σ H fun vs H1 => tk σ H1 fun zs H2 => r σ vs zs H2 Q) := by
  constructor
  intro pins s σ H Q I h
  apply wpAny_Call_Name_kw
  refine ld_glob I hg hm ?_ hdb
  refine PySem.W.callWith_KW (h₀ := X.base) I.ok.mod.kin hk hall ?_ hpl he
  refine thn (ha.run pos pins s σ H _ I h) ?_
  rintro us s1 ⟨vs, H1, I1, rv, q⟩
  refine thn (hkw.run pos pins s1 σ H1 _ I1 q) ?_
  rintro ws s2 ⟨zs, H2, I2, rz, q2⟩
  refine ⟨I2.kIn, ?_⟩
  rw [hks]
  exact hc pins s2 σ H2 vs us zs ws Q I2 rv rz q2
theorem pe_cx0 (hc : CallX X (.ref f) ks r) (hg : Gl X x) (hm : X.mg x = some (.ref f)) (hk : PySem.W.keepIn X.K (.ref f) = true) (hkw : PK X kws tk)
    (hall : (backToKw pos (keywordEach kws X.env)).all (·.1.isSome) = true := by rfl) (hks : (backToKw pos (keywordEach kws X.env)).filterMap (·.1) = ks := by rfl) (hdb : (x == ("__debug__" : Str)) = false := by decide)
    (hpl : ((backTo pos (starEach [] X.env)).any (·.1) || (backToKw pos (keywordEach kws X.env)).any (·.1.isNone)) = false := by rfl) :
    PE X (.Call (.Name x p) [] kws pos) (fun σ H Q => tk σ H fun zs H2 => r σ [] zs H2 Q) := by
  constructor
  intro pins s σ H Q I h
  apply wpAny_Call_Name_kw
  refine ld_glob I hg hm ?_ hdb
  refine PySem.W.callWith_KW0 (h₀ := X.base) I.ok.mod.kin hk hall ?_ hpl
  refine thn (hkw.run pos pins s σ H _ I h) ?_
  rintro ws s2 ⟨zs, H2, I2, rz, q2⟩
  refine ⟨I2.kIn, ?_⟩
  rw [hks]
  exact hc pins s2 σ H2 [] [] zs ws Q I2 .nil rz q2
/-- a method of an instance of the class at C -/
theorem pe_mx {pl : Sem Bool} (ho : PE X o ta) (c : Cls X.K C) (hm : Meth X.K C mn f) (hc : CallX X (.ref f) ks r) (ha : PA X (e :: es) t) (hkw : PK X kws tk)
    (hall : (backToKw pos (keywordEach kws X.env)).all (·.1.isSome) = true := by rfl) (hks : (backToKw pos (keywordEach kws X.env)).filterMap (·.1) = ks := by rfl)
    (he : starEach (e :: es) X.env = (false, eval e X.env) :: starEach es X.env := by rfl) (hpl : ((backTo pos (starEach (e :: es) X.env)).any (·.1) || (backToKw pos (keywordEach kws X.env)).any (·.1.isNone)) = false := by rfl)
    (ht : eval (.Call (.Attribute o mn apos) (e :: es) kws pos) X.env = (do
      let ov ← eval o X.env
      standAt apos.atName
      let (f, first) ← holding [ov] (getMethod ov mn pl)
      callWith pos f first (backTo pos (starEach (e :: es) X.env)) (backToKw pos (keywordEach kws X.env))) := by rfl) :
    PE X (.Call (.Attribute o mn apos) (e :: es) kws pos) (fun σ H Q => ta σ H fun v H1 => ∃ a dx fs, v = .ref a ∧ H1 a = some (.ins C dx fs) ∧ fs.lookup mn = none ∧ t σ H1 fun vs H2 => tk σ H2 fun zs H3 => r σ (v :: vs) zs H3 Q) := by
  constructor
  intro pins s σ H Q I h
  refine PySem.W.methodCall_KW (pl := pl) (thn (ho.run pins s σ H _ I h) ?_) ht
  rintro u s1 ⟨v, H1, I1, rv, a, dx, fs, ev, ea, l, q⟩
  subst ev
  obtain rfl : u = Value.ref a := rv
  refine getmeth_ok I1 ea c hm l ?_
  refine PySem.W.callWith_KW (first := [.ref a]) (h₀ := X.base) I.ok.mod.kin hm.kp hall ?_ hpl he
  refine thn (ha.run pos pins s1 σ H1 _ I1 q) ?_
  rintro us s2 ⟨vs, H2, I2, rvs, q2⟩
  refine thn (hkw.run pos pins s2 σ H2 _ I2 q2) ?_
  rintro ws s3 ⟨zs, H3, I3, rz, q3⟩
  refine ⟨I3.kIn, ?_⟩
  rw [hks]
  exact hc pins s3 σ H3 (.ref a :: vs) (.ref a :: us) zs ws Q I3 (.cons rfl rvs) rz q3
theorem pe_mx0 {pl : Sem Bool} (ho : PE X o ta) (c : Cls X.K C) (hm : Meth X.K C mn f) (hc : CallX X (.ref f) ks r) (hkw : PK X kws tk)
    (hall : (backToKw pos (keywordEach kws X.env)).all (·.1.isSome) = true := by rfl) (hks : (backToKw pos (keywordEach kws X.env)).filterMap (·.1) = ks := by rfl)
    (hpl : ((backTo pos (starEach [] X.env)).any (·.1) || (backToKw pos (keywordEach kws X.env)).any (·.1.isNone)) = false := by rfl)
    (ht : eval (.Call (.Attribute o mn apos) [] kws pos) X.env = (do
      let ov ← eval o X.env
      standAt apos.atName
      let (f, first) ← holding [ov] (getMethod ov mn pl)
      callWith pos f first (backTo pos (starEach [] X.env)) (backToKw pos (keywordEach kws X.env))) := by rfl) :
    PE X (.Call (.Attribute o mn apos) [] kws pos) (fun σ H Q => ta σ H fun v H1 => ∃ a dx fs, v = .ref a ∧ H1 a = some (.ins C dx fs) ∧ fs.lookup mn = none ∧ tk σ H1 fun zs H3 => r σ [v] zs H3 Q) := by
  constructor
  intro pins s σ H Q I h
  refine PySem.W.methodCall_KW (pl := pl) (thn (ho.run pins s σ H _ I h) ?_) ht
  rintro u s1 ⟨v, H1, I1, rv, a, dx, fs, ev, ea, l, q⟩
  subst ev
  obtain rfl : u = Value.ref a := rv
  refine getmeth_ok I1 ea c hm l ?_
  refine PySem.W.callWith_KW0 (first := [.ref a]) (h₀ := X.base) I.ok.mod.kin hm.kp hall ?_ hpl
  refine thn (hkw.run pos pins s1 σ H1 _ I1 q) ?_
  rintro ws s3 ⟨zs, H3, I3, rz, q3⟩
  refine ⟨I3.kIn, ?_⟩
  rw [hks]
  exact hc pins s3 σ H3 [.ref a] [.ref a] zs ws Q I3 (.cons rfl .nil) rz q3
end

/-! the same on data -/
def MK (X : Cx) (W : WX) (kws : List Keyword) (y : ML) : Prop := PK X kws (tML (gX X) W y)
section
variable {X : Cx} {W : WX} {kws : List Keyword}
theorem mk_nil : MK X W [] aNil := ⟨fun pos pins s σ H Q I h => pk_nil.run pos pins s σ H Q I (tml_nil h)⟩
theorem mk_cons {a : Expr} {nm : Option Str} {kpos : Pos} {x : M} {y : ML} (ha : ME X W a x) (hr : MK X W kws y) : MK X W (⟨nm, a, kpos⟩ :: kws) (aCons x y) :=
  ⟨fun pos pins s σ H Q I h => (pk_cons ha hr).run pos pins s σ H Q I (tml_cons h)⟩
end

abbrev CM := DF → List D → List Cel → R D
/-- a way to call is sound -/
def SndC (cm : CM) : Prop := ∀ {G : Gc} {W : WX} {σ : L2.St} {m : List Addr} {H0 H : Hp} {S : List Cel} {n : Nat} {F : DF} {ds : List D} {vs : List V} {Q : VK}, vs.length = n → Rl G m S H0 H → IsL G H0 m ds vs →
  Kt G W σ m H0 H (cm F ds S) Q → spM G n F vs H Q (WE W σ)
/-- data put in the parameters' order as values are -/
structure GOk (gD : List D → List D → List D) (gV : List V → List V → List V) : Prop where
  ok : ∀ {G : Gc} {H0 : Hp} {m : List Addr} {ds es : List D} {vs zs : List V}, IsL G H0 m ds vs → IsL G H0 m es zs → IsL G H0 m (gD ds es) (gV vs zs)

def eCall (cm : CM) (n : Nat) (F : DF) (gD : List D → List D → List D) (x y : ML) : M := fun r S => (x r S).bind fun ds S1 => (y r S1).bind fun es S2 =>
  if (gD ds es).length = n then cm F (gD ds es) S2 else .fail
section
variable {G : Gc} {W : WX} {σ : L2.St} {H : Hp}
theorem tml_two {x y : ML} {F : List D → List D → List Cel → R D} {Q : VK} (h : tM G W (fun r S => (x r S).bind fun ds S1 => (y r S1).bind fun es S2 => F ds es S2) σ H Q) :
    tML G W x σ H fun vs H1 => tML G W y σ H1 fun zs H2 => ∃ ds es S m H0, Rl G m S H0 H2 ∧ IsL G H0 m ds vs ∧ IsL G H0 m es zs ∧ Kt G W σ m H0 H2 (F ds es S) Q := by
  obtain ⟨r, S, m, H0, he, hr, hk⟩ := h
  refine ⟨r, S, m, H0, he, hr, ?_⟩
  cases hx : x r S with
  | fail => simp only [hx] at hk; exact hk
  | exc ex S1 => simp only [hx] at hk; exact hk
  | ok ds S1 =>
    simp only [hx] at hk
    intro vs m1 H01 H1 ex rl i
    refine ⟨r, S1, m1, H01, he.mono ex.imm ex.pre, rl, ?_⟩
    have hk2 : Kt G W σ m1 H01 H1 ((y r S1).bind fun es S2 => F ds es S2) Q := Kt.later ex hk
    cases hy : y r S1 with
    | fail => rw [hy] at hk2; exact hk2
    | exc ex S1 => rw [hy] at hk2; exact hk2
    | ok es S2 =>
      rw [hy] at hk2
      exact fun zs m2 H02 H2 ex2 rl2 i2 => ⟨ds, es, S2, m2, H02, rl2, IsL.mono ex2.imm ex2.pre _ _ i, i2, Kt.later ex2 hk2⟩
end
section
variable {X : Cx} {W : WX} {f C : Addr} {ks ps : List Str} {x mn : Str} {p pos apos : Pos} {e o : Expr} {es : List Expr} {kws : List Keyword} {k n : Nat} {fd : FuncData} {F : DF} {g : List Value → List Value → List Value} {gV : List V → List V → List V} {gD : List D → List D → List D} {cm : CM} {y z : ML}
theorem call_end (hcm : SndC cm) (hG : GOk gD gV) {σ : L2.St} {m : List Addr} {H0 H : Hp} {S : List Cel} {ds es : List D} {vs zs : List V} {Q : VK} (r : Rl (gX X) m S H0 H) (i : IsL (gX X) H0 m ds vs) (j : IsL (gX X) H0 m es zs)
    (h : Kt (gX X) W σ m H0 H (if (gD ds es).length = n then cm F (gD ds es) S else .fail) Q) : spM (gX X) n F (gV vs zs) H Q (WE W σ) := by
  by_cases hl : (gD ds es).length = n
  · rw [if_pos hl] at h
    have i2 := hG.ok i j
    exact hcm (by rw [← i2.len]; exact hl) r i2 h
  · rw [if_neg hl] at h
    exact h.elim
/-- f(a, .., k = b, ..), a def -/
theorem me_call (hcm : SndC cm) (hG : GOk gD gV) (Fn : FnG X.prog X.w X.K X.mg X.base k f fd ps (spM (gX X) n F)) (hb : KBinds X.K fd ps ks g gV) (hr : Room k X.A) (hgu : X.A.guards = some []) (tk : Takes X W)
    (hg : Gl X x) (hm : X.mg x = some (.ref f)) (hk : PySem.W.keepIn X.K (.ref f) = true) (ha : MA X W (e :: es) y) (hkw : MK X W kws z)
    (hall : (backToKw pos (keywordEach kws X.env)).all (·.1.isSome) = true := by rfl) (hks : (backToKw pos (keywordEach kws X.env)).filterMap (·.1) = ks := by rfl) (hdb : (x == ("__debug__" : Str)) = false := by decide)
    (he : starEach (e :: es) X.env = (false, eval e X.env) :: starEach es X.env := by rfl) (hpl : ((backTo pos (starEach (e :: es) X.env)).any (·.1) || (backToKw pos (keywordEach kws X.env)).any (·.1.isNone)) = false := by rfl) :
    ME X W (.Call (.Name x p) (e :: es) kws pos) (eCall cm n F gD y z) :=
  pe_imp (pe_cx (callx_fn Fn hr hgu hb tk) hg hm hk ha hkw hall hks hdb he hpl) fun σ H Q h => tml_mono (tml_two h) fun _ _ h1 => tml_mono h1 fun _ _ ⟨_, _, _, _, _, h2, h3, h4, h5⟩ => call_end hcm hG h2 h3 h4 h5
theorem me_call0 (hcm : SndC cm) (hG : GOk gD gV) (Fn : FnG X.prog X.w X.K X.mg X.base k f fd ps (spM (gX X) n F)) (hb : KBinds X.K fd ps ks g gV) (hr : Room k X.A) (hgu : X.A.guards = some []) (tk : Takes X W)
    (hg : Gl X x) (hm : X.mg x = some (.ref f)) (hk : PySem.W.keepIn X.K (.ref f) = true) (hkw : MK X W kws z)
    (hall : (backToKw pos (keywordEach kws X.env)).all (·.1.isSome) = true := by rfl) (hks : (backToKw pos (keywordEach kws X.env)).filterMap (·.1) = ks := by rfl) (hdb : (x == ("__debug__" : Str)) = false := by decide)
    (hpl : ((backTo pos (starEach [] X.env)).any (·.1) || (backToKw pos (keywordEach kws X.env)).any (·.1.isNone)) = false := by rfl) :
    ME X W (.Call (.Name x p) [] kws pos) (eCall cm n F gD aNil z) :=
  pe_imp (pe_cx0 (callx_fn Fn hr hgu hb tk) hg hm hk hkw hall hks hdb hpl) fun σ H Q h => by
    have h1 := tml_nil (tml_two h)
    exact tml_mono h1 fun _ _ ⟨_, _, _, _, _, h2, h3, h4, h5⟩ => call_end hcm hG h2 h3 h4 h5

/-- o.m(..), o a finished instance of the class named c -/
def eMeth (c mn : Str) (cm : CM) (n : Nat) (F : DF) (gD : List D → List D → List D) (o : M) (y z : ML) : M := eB o fun d => match d with
  | .obj c' ns _ => if c' = c ∧ mn ∉ ns then (fun r S => (y r S).bind fun ds S1 => (z r S1).bind fun es S2 => if (gD (d :: ds) es).length = n then cm F (gD (d :: ds) es) S2 else .fail) else fun _ _ => .fail
  | _ => fun _ _ => .fail
theorem look_none {fs : List (Str × V)} {ns : List Str} {mn : Str} (e : fs.map (·.1) = ns) (h : mn ∉ ns) : fs.lookup mn = none := by
  subst e
  induction fs with
  | nil => rfl
  | cons q r ih =>
    obtain ⟨a, b⟩ := q
    simp only [List.map_cons, List.mem_cons, not_or] at h
    have e1 : (mn == a) = false := by simpa using h.1
    simp [List.lookup, e1, ih h.2]
theorem tm_meth {G : Gc} {c : Str} {C : Addr} {σ : L2.St} {H : Hp} {Q : VK} {o : M} (hC : G.mg c = some (.ref C)) (h : tM G W (eMeth c mn cm n F gD o y z) σ H Q) :
    tM G W o σ H fun v H1 => ∃ a dx fs, v = .ref a ∧ H1 a = some (.ins C dx fs) ∧ fs.lookup mn = none ∧ tML G W y σ H1 fun vs H2 => tML G W z σ H2 fun zs H3 => ∃ d ds es S m H0, Rl G m S H0 H3 ∧ Is G H0 m d v ∧ IsL G H0 m ds vs ∧ IsL G H0 m es zs ∧
      Kt G W σ m H0 H3 (if (gD (d :: ds) es).length = n then cm F (gD (d :: ds) es) S else .fail) Q := by
  obtain ⟨r, S, m, H0, he, hr, hk⟩ := h
  refine ⟨r, S, m, H0, he, hr, ?_⟩
  unfold eMeth eB at hk
  cases hx : o r S with
  | fail => simp only [hx] at hk; exact hk
  | exc ex S1 => simp only [hx] at hk; exact hk
  | ok d S1 =>
    simp only [hx, R.bind] at hk
    intro v m1 H01 H1 ex rl i
    cases d with
    | obj c' ns ds' =>
      by_cases hc : c' = c ∧ mn ∉ ns
      · simp only [if_pos hc] at hk
        obtain ⟨a, C', dx, fs, e1, e2, e3, e4, e5⟩ := is_obj.mp i
        rw [hc.1, hC] at e2
        cases e2
        refine ⟨a, dx, fs, e1, rl.sub _ _ e3, look_none e4 hc.2, r, S1, m1, H01, he.mono ex.imm ex.pre, rl, ?_⟩
        have hk2 := Kt.later ex hk
        cases hy : y r S1 with
        | fail => simp only [hy] at hk2; exact hk2
        | exc ex S1 => simp only [hy] at hk2; exact hk2
        | ok ds S2 =>
          simp only [hy] at hk2
          intro vs m2 H02 H2 ex2 rl2 i2
          refine ⟨r, S2, m2, H02, (he.mono ex.imm ex.pre).mono ex2.imm ex2.pre, rl2, ?_⟩
          have hk3 := Kt.later ex2 hk2
          cases hz : z r S2 with
          | fail => simp only [hz] at hk3; exact hk3
          | exc ex S1 => simp only [hz] at hk3; exact hk3
          | ok es S3 =>
            simp only [hz] at hk3
            exact fun zs m3 H03 H3 ex3 rl3 i3 => ⟨_, ds, es, S3, m3, H03, rl3, Is.mono ex3.imm ex3.pre _ _ (Is.mono ex2.imm ex2.pre _ _ i), IsL.mono ex3.imm ex3.pre _ _ i2, i3, Kt.later ex3 hk3⟩
      · simp only [if_neg hc] at hk
        exact hk.elim
    | _ => exact hk.elim
theorem me_meth {pl : Sem Bool} {c : Str} {xo : M} (hC : X.mg c = some (.ref C)) (cl : Cls X.K C) (hm : Meth X.K C mn f) (hcm : SndC cm) (hG : GOk gD gV) (Fn : FnG X.prog X.w X.K X.mg X.base k f fd ps (spM (gX X) n F)) (hb : KBinds X.K fd ps ks g gV) (hr : Room k X.A) (hgu : X.A.guards = some []) (tk : Takes X W)
    (ho : ME X W o xo) (ha : MA X W (e :: es) y) (hkw : MK X W kws z)
    (hall : (backToKw pos (keywordEach kws X.env)).all (·.1.isSome) = true := by rfl) (hks : (backToKw pos (keywordEach kws X.env)).filterMap (·.1) = ks := by rfl)
    (he : starEach (e :: es) X.env = (false, eval e X.env) :: starEach es X.env := by rfl) (hpl : ((backTo pos (starEach (e :: es) X.env)).any (·.1) || (backToKw pos (keywordEach kws X.env)).any (·.1.isNone)) = false := by rfl)
    (ht : eval (.Call (.Attribute o mn apos) (e :: es) kws pos) X.env = (do
      let ov ← eval o X.env
      standAt apos.atName
      let (f, first) ← holding [ov] (getMethod ov mn pl)
      callWith pos f first (backTo pos (starEach (e :: es) X.env)) (backToKw pos (keywordEach kws X.env))) := by rfl) :
    ME X W (.Call (.Attribute o mn apos) (e :: es) kws pos) (eMeth c mn cm n F gD xo y z) :=
  pe_imp (pe_mx (pl := pl) ho cl hm (callx_fn Fn hr hgu hb tk) ha hkw hall hks he hpl ht) fun σ H Q h => tm_mono (tm_meth hC h) fun v H1 ⟨a, dx, fs, e1, e2, e3, h1⟩ =>
    ⟨a, dx, fs, e1, e2, e3, tml_mono h1 fun _ _ h2 => tml_mono h2 fun _ _ ⟨_, _, _, _, _, _, h2, h3, h4, h5, h6⟩ => call_end hcm hG h2 (isl_cons.mpr ⟨_, _, rfl, h3, h4⟩) h5 h6⟩
theorem me_meth0 {pl : Sem Bool} {c : Str} {xo : M} (hC : X.mg c = some (.ref C)) (cl : Cls X.K C) (hm : Meth X.K C mn f) (hcm : SndC cm) (hG : GOk gD gV) (Fn : FnG X.prog X.w X.K X.mg X.base k f fd ps (spM (gX X) n F)) (hb : KBinds X.K fd ps ks g gV) (hr : Room k X.A) (hgu : X.A.guards = some []) (tk : Takes X W)
    (ho : ME X W o xo) (hkw : MK X W kws z)
    (hall : (backToKw pos (keywordEach kws X.env)).all (·.1.isSome) = true := by rfl) (hks : (backToKw pos (keywordEach kws X.env)).filterMap (·.1) = ks := by rfl)
    (hpl : ((backTo pos (starEach [] X.env)).any (·.1) || (backToKw pos (keywordEach kws X.env)).any (·.1.isNone)) = false := by rfl)
    (ht : eval (.Call (.Attribute o mn apos) [] kws pos) X.env = (do
      let ov ← eval o X.env
      standAt apos.atName
      let (f, first) ← holding [ov] (getMethod ov mn pl)
      callWith pos f first (backTo pos (starEach [] X.env)) (backToKw pos (keywordEach kws X.env))) := by rfl) :
    ME X W (.Call (.Attribute o mn apos) [] kws pos) (eMeth c mn cm n F gD xo aNil z) :=
  pe_imp (pe_mx0 (pl := pl) ho cl hm (callx_fn Fn hr hgu hb tk) hkw hall hks hpl ht) fun σ H Q h => tm_mono (tm_meth hC h) fun v H1 ⟨a, dx, fs, e1, e2, e3, h1⟩ =>
    ⟨a, dx, fs, e1, e2, e3, tml_mono (tml_nil h1) fun _ _ ⟨_, _, _, _, _, _, h2, h3, h4, h5, h6⟩ => call_end hcm hG h2 (isl_cons.mpr ⟨_, _, rfl, h3, h4⟩) h5 h6⟩

/-- C(..), an own class with __init__ that does F on the new instance -/
def newD (c : Str) (F : DF) (ds : List D) (S : List Cel) : R D :=
  if D.cfL ds = true then (match F (.cell 0 :: ds) [.ins c [] []] with
    | .ok .non (.ins c' ns vs :: _) => if (D.cfL vs && decide (c' = c)) = true then .ok (.obj c ns vs) S else .fail
    | .exc x _ => if D.cfL x.ds = true then .exc x S else .fail
    | _ => .fail) else .fail
def eNew (c : Str) (n : Nat) (F : DF) (gD : List D → List D → List D) (y z : ML) : M := fun r S => (y r S).bind fun ds S1 => (z r S1).bind fun es S2 =>
  if (gD ds es).length = n then newD c F (gD ds es) S2 else .fail
theorem newD_snd {G : Gc} {σ : L2.St} {m : List Addr} {H0 H : Hp} {S : List Cel} {ds : List D} {vs : List V} {c : Str} {Q : VK} (hC : G.mg c = some (.ref C)) (hn : vs.length = n) (r : Rl G m S H0 H) (i : IsL G H0 m ds vs)
    (h : Kt G W σ m H0 H (newD c F ds S) Q) {x dx : Addr} (hx : H x = none) (hdx : H dx = none) (hne : dx ≠ x) :
    spM G (n + 1) F (.ref x :: vs) (upd (upd H dx (.own x)) x (.ins C dx [])) (fun v H2 => v = .non ∧ Q (.ref x) H2) (WE W σ) := by
  unfold newD at h
  by_cases hc : D.cfL ds = true
  · rw [if_pos hc] at h
    have h0x : H0 x = none := by
      cases q : H0 x with
      | none => rfl
      | some u =>
        have z := r.sub _ _ q
        rw [hx] at z
        cases z
    have up : ∀ a o, H a = some o → (upd (upd H dx (.own x)) x (.ins C dx [])) a = some o := fun a o q => by
      rw [upd_ne (ne_of_none q hx), upd_ne (ne_of_none q hdx)]
      exact q
    have dn : ∀ a, (upd (upd H dx (.own x)) x (.ins C dx [])) a = none → H a = none := fun a q => by
      cases z : H a with
      | none => rfl
      | some o =>
        rw [up a o z] at q
        cases q
    have s2 : Same H0 (upd (upd H dx (.own x)) x (.ins C dx [])) := fun a o q => up a o (r.sub _ _ q)
    refine ⟨by rw [List.length_cons, hn], .cell 0 :: ds, [.ins c [] []], [x], H0, isl_cons.mpr ⟨_, _, rfl, is_cell.mpr ⟨x, rfl, rfl⟩, IsL.cfm _ _ hc i⟩, ⟨s2, rfl, by simp, fun j c' a e1 e2 => ?_, fun j c' a e1 e2 _ => ?_, fun a ha => ?_⟩, ?_⟩
    · cases j with
      | zero =>
        simp at e1 e2
        subst e1 e2
        exact ⟨C, dx, [], hC, upd_same, rfl, isl_nil.mpr rfl⟩
      | succ j => simp at e1
    · cases j with
      | zero =>
        simp at e1 e2
        subst e1 e2
        exact h0x
      | succ j => simp at e1
    · simp at ha
      rw [ha]
      exact ⟨_, upd_same⟩
    · cases hF : F (.cell 0 :: ds) [.ins c [] []] with
      | fail => rw [hF] at h; exact h
      | exc e S' =>
        rw [hF] at h
        intro cc dd m' H0' H' ex r' i'
        by_cases hd : D.cfL e.ds = true
        · have h' : Kt G W σ m H0 H (.exc e S) Q := by simpa [hd] using h
          obtain ⟨C', d, fs, x1, x2, x3, x4, x5, x6⟩ := i'
          have ex2 : Ext m H0 H m H0' H' := ⟨ex.imm, List.prefix_refl _, fun a o q _ => ex.keep a o (up a o q) (by
              simp
              exact ne_of_none q hx), fun a q => Or.inl q, fun a o q => by
              rcases ex.fr a o q with z | z | z
              · exact Or.inl z
              · exact Or.inr (Or.inl (dn a z))
              · simp at z
                rw [z]
                exact Or.inr (Or.inl hx)⟩
          have r2 : Rl G m S H0' H' := ⟨r'.sub, r.len, r.nd, fun k c'' a h1 h2 => (r.at_ k c'' a h1 h2).mono ex.imm (List.prefix_refl _) fun o q => ex.keep a o (up a o q) (by
              simp
              exact ne_of_none q hx), fun k c'' a h1 h2 hl => by
              cases q : H0' a with
              | none => rfl
              | some o =>
                obtain ⟨u, y⟩ := r.trk a (List.mem_of_getElem? h2)
                rcases ex.fr a o q with z | z | z
                · rw [r.out k c'' a h1 h2 hl] at z
                  cases z
                · rw [dn a z] at y
                  cases y
                · simp at z
                  rw [z, hx] at y
                  exact absurd y (by simp), fun a ha => by
              obtain ⟨u, y⟩ := r.trk a ha
              exact ⟨u, ex.keep a u (up a u y) (by
                simp
                exact ne_of_none y hx)⟩⟩
          exact h' cc dd m H0' H' ex2 r2 ⟨C', d, fs, x1, x2, x3, x4, x5, IsL.cfm _ _ hd x6⟩
        · simp [hd] at h
          exact h.elim
      | ok d S' =>
        rw [hF] at h
        intro v m' H0' H' ex r' i'
        cases d with
        | non =>
          cases S' with
          | nil => exact h.elim
          | cons c0 g0 =>
            cases c0 with
            | ins c' ns ws =>
              simp only at h
              by_cases hd : (D.cfL ws && decide (c' = c)) = true
              · rw [if_pos hd] at h
                rw [Bool.and_eq_true] at hd
                have ec : c' = c := of_decide_eq_true hd.2
                subst ec
                have mx : m'[0]? = some x := by
                  obtain ⟨t, q⟩ := ex.pre
                  rw [← q]
                  rfl
                obtain ⟨C', dx', fs, y1, y2, y3, y4⟩ := r'.at_ 0 _ _ rfl mx
                have hout := r'.out 0 _ _ rfl mx rfl
                have nx : ∀ a o, H0' a = some o → a ≠ x := fun a o q z => by
                  rw [z, hout] at q
                  cases q
                have im2 : Same H0' (upd H0' x (.ins C' dx' fs)) := fun a o q => by
                  rw [upd_ne (nx a o q)]
                  exact q
                have ex2 : Ext m H0 H m (upd H0' x (.ins C' dx' fs)) H' := ⟨ex.imm.trans im2, List.prefix_refl _, fun a o q _ => ex.keep a o (up a o q) (by
                    simp
                    exact ne_of_none q hx), fun a q => Or.inl q, fun a o q => by
                    by_cases ea : a = x
                    · rw [ea]
                      exact Or.inr (Or.inl hx)
                    · rw [upd_ne ea] at q
                      rcases ex.fr a o q with z | z | z
                      · exact Or.inl z
                      · exact Or.inr (Or.inl (dn a z))
                      · simp at z
                        exact absurd z ea⟩
                have r2 : Rl G m S (upd H0' x (.ins C' dx' fs)) H' := ⟨fun a o q => by
                    by_cases ea : a = x
                    · rw [ea, upd_same] at q
                      cases q
                      rw [ea]
                      exact y2
                    · rw [upd_ne ea] at q
                      exact r'.sub a o q, r.len, r.nd, fun k c'' a h1 h2 => (r.at_ k c'' a h1 h2).mono (ex.imm.trans im2) (List.prefix_refl _) fun o q => ex.keep a o (up a o q) (by
                    simp
                    exact ne_of_none q hx), fun k c'' a h1 h2 hl => by
                    obtain ⟨u, y⟩ := r.trk a (List.mem_of_getElem? h2)
                    cases q : upd H0' x (.ins C' dx' fs) a with
                    | none => rfl
                    | some o =>
                      rw [upd_ne (ne_of_none y hx)] at q
                      rcases ex.fr a o q with z | z | z
                      · rw [r.out k c'' a h1 h2 hl] at z
                        cases z
                      · rw [dn a z] at y
                        cases y
                      · simp at z
                        rw [z, hx] at y
                        exact absurd y (by simp), fun a ha => by
                    obtain ⟨u, y⟩ := r.trk a ha
                    exact ⟨u, ex.keep a u (up a u y) (by
                      simp
                      exact ne_of_none y hx)⟩⟩
                exact ⟨is_non.mp i', h (.ref x) m _ H' ex2 r2 (is_obj.mpr ⟨x, C', dx', fs, rfl, y1, upd_same, y3, IsL.mono im2 (List.prefix_refl _) _ _ (IsL.cfm _ _ hd.1 y4)⟩)⟩
              · rw [if_neg hd] at h
                exact h.elim
            | _ => exact h.elim
        | _ => exact h.elim
  · rw [if_neg hc] at h
    exact h.elim
theorem me_new {c : Str} (Mc : Mk X.K C f) (hG : GOk gD gV) (hgc : ∀ a xs zs, gV (a :: xs) zs = a :: gV xs zs) (Fn : FnG X.prog X.w X.K X.mg X.base k f fd ps (spM (gX X) (n + 1) F)) (hb : KBinds X.K fd ps ks g gV) (hr : Room (k + 1) X.A) (hgu : X.A.guards = some []) (tk : Takes X W)
    (hg : Gl X c) (hm : X.mg c = some (.ref C)) (ha : MA X W (e :: es) y) (hkw : MK X W kws z)
    (hall : (backToKw pos (keywordEach kws X.env)).all (·.1.isSome) = true := by rfl) (hks : (backToKw pos (keywordEach kws X.env)).filterMap (·.1) = ks := by rfl) (hdb : (c == ("__debug__" : Str)) = false := by decide)
    (he : starEach (e :: es) X.env = (false, eval e X.env) :: starEach es X.env := by rfl) (hpl : ((backTo pos (starEach (e :: es) X.env)).any (·.1) || (backToKw pos (keywordEach kws X.env)).any (·.1.isNone)) = false := by rfl) :
    ME X W (.Call (.Name c p) (e :: es) kws pos) (eNew c n F gD y z) :=
  pe_imp (pe_cx (callx_make Mc Fn hr hgu hb tk) hg hm Mc.kp ha hkw hall hks hdb he hpl) fun σ H Q h => tml_mono (tml_two h) fun vs _ h1 => tml_mono h1 fun zs H2 ⟨ds, es', S, m, H0, h2, h3, h4, h5⟩ => by
    intro a dx na ndx nad
    rw [hgc]
    by_cases hl : (gD ds es').length = n
    · rw [if_pos hl] at h5
      have i2 := hG.ok h3 h4
      exact newD_snd hm (by rw [← i2.len]; exact hl) h2 i2 h5 na ndx nad
    · rw [if_neg hl] at h5
      exact h5.elim
end
end Me
end
section
set_option Elab.async false
set_option linter.all false
set_option maxRecDepth 100000
namespace Me
open PySem PySem.Spec L2
open PyProof.Rows hiding St

/-! ### lists, tuples as data -/
def lstD (S : List Cel) : D → Option (List D)
  | .lst xs => some xs
  | .frl xs => some xs
  | .cell k => (match S[k]? with
    | some (.lst xs) => some xs
    | _ => none)
  | _ => none
/-- what + and * take for a list -/
def lstW (S : List Cel) : D → Option (List D)
  | .lst xs => some xs
  | .cell k => (match S[k]? with
    | some (.lst xs) => some xs
    | _ => none)
  | _ => none
section
variable {G : Gc} {m : List Addr} {H0 H : Hp} {S : List Cel} {d : D} {v : V} {xs : List D}
theorem Rl.cel (r : Rl G m S H0 H) {k : Nat} {a : Addr} (h1 : S[k]? = some (.lst xs)) (h2 : m[k]? = some a) : ∃ vs, H a = some (.lst vs) ∧ IsL G H0 m xs vs := r.at_ k _ _ h1 h2
theorem lstW_ok (r : Rl G m S H0 H) (i : Is G H0 m d v) (h : lstW S d = some xs) : ∃ a vs, v = .ref a ∧ H a = some (.lst vs) ∧ IsL G H0 m xs vs := by
  cases d with
  | lst ys =>
    have e : ys = xs := by simpa [lstW] using h
    subst e
    obtain ⟨a, vs, e1, e2, e3⟩ := is_lst.mp i
    exact ⟨a, vs, e1, r.sub _ _ e2, e3⟩
  | cell k =>
    obtain ⟨a, e1, e2⟩ := is_cell.mp i
    simp only [lstW] at h
    cases hk : S[k]? with
    | none => simp [hk] at h
    | some c =>
      cases c with
      | lst ys =>
        have e : ys = xs := by simpa [hk] using h
        subst e
        obtain ⟨vs, e3, e4⟩ := r.cel hk e2
        exact ⟨a, vs, e1, e3, e4⟩
      | ins _ _ _ => simp [hk] at h
      | dead => simp [hk] at h
  | _ => simp [lstW] at h
theorem lstD_ok (r : Rl G m S H0 H) (i : Is G H0 m d v) (h : lstD S d = some xs) : ∃ a vs, v = .ref a ∧ SqL G.K H a vs ∧ IsL G H0 m xs vs := by
  cases d with
  | lst ys =>
    obtain ⟨a, vs, e1, e2, e3⟩ := lstW_ok r i (show lstW S (.lst ys) = some xs from h)
    exact ⟨a, vs, e1, SqL.of e2, e3⟩
  | cell k =>
    obtain ⟨a, vs, e1, e2, e3⟩ := lstW_ok r i (show lstW S (.cell k) = some xs from h)
    exact ⟨a, vs, e1, SqL.of e2, e3⟩
  | frl ys =>
    have e : ys = xs := by simpa [lstD] using h
    subst e
    obtain ⟨a, vs, e1, e2, e3⟩ := is_frl.mp i
    exact ⟨a, vs, e1, r.sub.seq e2, e3⟩
  | _ => simp [lstD] at h
theorem tup_ok (r : Rl G m S H0 H) (i : Is G H0 m (.tup xs) v) : ∃ a vs, v = .ref a ∧ SqT G.K H a vs ∧ IsL G H0 m xs vs := by
  obtain ⟨a, vs, e1, e2, e3⟩ := is_tup.mp i
  exact ⟨a, vs, e1, seqT_same r.sub e2, e3⟩

/-! ### numbers within -/
def intD : D → Option Int
  | .int i => some i
  | _ => none
def intsD : List D → Option (List Int)
  | [] => some []
  | .int i :: ds => (intsD ds).map (i :: ·)
  | _ :: _ => none
theorem ints_map (ns : List Int) : intsD (ns.map D.int) = some ns := by
  induction ns with
  | nil => rfl
  | cons a r ih => simp [intsD, ih]
theorem ints_eq : ∀ {ds : List D} {ns : List Int}, intsD ds = some ns → ds = ns.map D.int
  | [], ns, h => by simp [intsD] at h; subst h; rfl
  | d :: ds, ns, h => by
    cases d with
    | int i =>
      simp only [intsD, Option.map_eq_some_iff] at h
      obtain ⟨l, h1, rfl⟩ := h
      rw [ints_eq h1]
      rfl
    | _ => simp [intsD] at h
theorem isl_ints {ns : List Int} {vs : List V} (h : IsL G H0 m (ns.map D.int) vs) : vs = ns.map V.int := by
  induction ns generalizing vs with
  | nil => exact isl_nil.mp h
  | cons a r ih =>
    obtain ⟨v, w, rfl, h1, h2⟩ := isl_cons.mp h
    rw [is_int.mp h1, ih h2]
    rfl
def bls : List D → Option (List Bool)
  | [] => some []
  | .bl b :: ds => (bls ds).map (b :: ·)
  | _ :: _ => none
theorem bls_map (ns : List Bool) : bls (ns.map D.bl) = some ns := by
  induction ns with
  | nil => rfl
  | cons a r ih => simp [bls, ih]
theorem bls_eq : ∀ {ds : List D} {ns : List Bool}, bls ds = some ns → ds = ns.map D.bl
  | [], ns, h => by simp [bls] at h; subst h; rfl
  | d :: ds, ns, h => by
    cases d with
    | bl b =>
      simp only [bls, Option.map_eq_some_iff] at h
      obtain ⟨l, h1, rfl⟩ := h
      rw [bls_eq h1]
      rfl
    | _ => simp [bls] at h
theorem isl_bls {ns : List Bool} {vs : List V} (h : IsL G H0 m (ns.map D.bl) vs) : vs = ns.map V.bl := by
  induction ns generalizing vs with
  | nil => exact isl_nil.mp h
  | cons a r ih =>
    obtain ⟨v, w, rfl, h1, h2⟩ := isl_cons.mp h
    rw [is_bl.mp h1, ih h2]
    rfl
end

/-! ### plain data: PyData -/
mutual
def pyD (c : Nat → Option (List PyData)) : D → Option PyData
  | .non => some .none
  | .bl b => some (.bool b)
  | .int i => some (.int i)
  | .str x => some (.str x)
  | .tup xs => (pyL c xs).map .tuple
  | .lst xs => (pyL c xs).map .list
  | .frl xs => (pyL c xs).map .list
  | .obj _ _ _ => none
  | .cell k => (c k).map .list
def pyL (c : Nat → Option (List PyData)) : List D → Option (List PyData)
  | [] => some []
  | d :: ds => match pyD c d, pyL c ds with
    | some p, some ps => some (p :: ps)
    | _, _ => none
end
def cellPy : Nat → List Cel → Nat → Option (List PyData)
  | 0, _, _ => none
  | n + 1, S, k => match S[k]? with
    | some (.lst xs) => pyL (cellPy n S) xs
    | _ => none
def toPy (S : List Cel) (d : D) : Option PyData := pyD (cellPy 3 S) d
section
variable {G : Gc} {m : List Addr} {H0 H : Hp} {S : List Cel}
mutual
theorem pyD_ok (r : Rl G m S H0 H) (c : Nat → Option (List PyData)) (hc : ∀ k a ps, c k = some ps → m[k]? = some a → ∃ vs, SqL G.K H a vs ∧ DpAll G.K H vs ps) :
    ∀ (d : D) (v : V) (p : PyData), pyD c d = some p → Is G H0 m d v → Dp G.K H v p
  | .non, v, p, h, i => by simp only [pyD, Option.some.injEq] at h; rw [is_non.mp i, ← h]; exact .non
  | .bl b, v, p, h, i => by simp only [pyD, Option.some.injEq] at h; rw [is_bl.mp i, ← h]; exact .bl b
  | .int j, v, p, h, i => by simp only [pyD, Option.some.injEq] at h; rw [is_int.mp i, ← h]; exact .int j
  | .str x, v, p, h, i => by simp only [pyD, Option.some.injEq] at h; rw [is_str.mp i, ← h]; exact .str x
  | .tup xs, v, p, h, i => by
    simp only [pyD, Option.map_eq_some_iff] at h
    obtain ⟨ps, h1, rfl⟩ := h
    obtain ⟨a, vs, rfl, h2, h3⟩ := tup_ok r i
    exact .tup h2 (pyL_ok r c hc xs vs ps h1 h3)
  | .lst xs, v, p, h, i => by
    simp only [pyD, Option.map_eq_some_iff] at h
    obtain ⟨ps, h1, rfl⟩ := h
    obtain ⟨a, vs, rfl, h2, h3⟩ := lstD_ok r i (xs := xs) rfl
    exact .lst h2 (pyL_ok r c hc xs vs ps h1 h3)
  | .frl xs, v, p, h, i => by
    simp only [pyD, Option.map_eq_some_iff] at h
    obtain ⟨ps, h1, rfl⟩ := h
    obtain ⟨a, vs, rfl, h2, h3⟩ := lstD_ok r i (xs := xs) rfl
    exact .lst h2 (pyL_ok r c hc xs vs ps h1 h3)
  | .obj _ _ _, v, p, h, i => by simp only [pyD] at h; cases h
  | .cell k, v, p, h, i => by
    simp only [pyD, Option.map_eq_some_iff] at h
    obtain ⟨ps, h1, rfl⟩ := h
    obtain ⟨a, rfl, h2⟩ := is_cell.mp i
    obtain ⟨vs, h3, h4⟩ := hc k a ps h1 h2
    exact .lst h3 h4
theorem pyL_ok (r : Rl G m S H0 H) (c : Nat → Option (List PyData)) (hc : ∀ k a ps, c k = some ps → m[k]? = some a → ∃ vs, SqL G.K H a vs ∧ DpAll G.K H vs ps) :
    ∀ (ds : List D) (vs : List V) (ps : List PyData), pyL c ds = some ps → IsL G H0 m ds vs → DpAll G.K H vs ps
  | [], vs, ps, h, i => by simp only [pyL, Option.some.injEq] at h; rw [isl_nil.mp i, ← h]; exact .nil
  | d :: ds, vs, ps, h, i => by
    obtain ⟨v, w, rfl, i1, i2⟩ := isl_cons.mp i
    simp only [pyL] at h
    cases h1 : pyD c d with
    | none => simp [h1] at h
    | some p =>
      cases h2 : pyL c ds with
      | none => simp [h1, h2] at h
      | some qs =>
        have e : p :: qs = ps := by simpa [h1, h2] using h
        rw [← e]
        exact .cons (pyD_ok r c hc d v p h1 i1) (pyL_ok r c hc ds w qs h2 i2)
end
theorem cellPy_ok (r : Rl G m S H0 H) : ∀ (n : Nat) (k : Nat) (a : Addr) (ps : List PyData), cellPy n S k = some ps → m[k]? = some a → ∃ vs, SqL G.K H a vs ∧ DpAll G.K H vs ps
  | 0, _, _, _, h, _ => by simp [cellPy] at h
  | n + 1, k, a, ps, h, h2 => by
    simp only [cellPy] at h
    cases hk : S[k]? with
    | none => simp [hk] at h
    | some c =>
      cases c with
      | lst xs =>
        simp only [hk] at h
        obtain ⟨vs, e1, e2⟩ := r.cel hk h2
        exact ⟨vs, SqL.of e1, pyL_ok r _ (cellPy_ok r n) xs vs ps h e2⟩
      | ins _ _ _ => simp [hk] at h
      | dead => simp [hk] at h
theorem toPy_ok (r : Rl G m S H0 H) {d : D} {v : V} {p : PyData} (h : toPy S d = some p) (i : Is G H0 m d v) : Dp G.K H v p := pyD_ok r _ (cellPy_ok r 3) d v p h i
end

/-! ### operators on data -/
open Classical in
noncomputable def pI (C : Int → Int → Prop) (g : Int → Int → Int) (a b : D) (S : List Cel) : R D := match a, b with
  | .int i, .int j => if C i j then .ok (.int (g i j)) S else .fail
  | _, _ => .fail
theorem snd_i {G : Gc} (C : Int → Int → Prop) (g : Int → Int → Int) : Snd2 G (rI C fun i j => .int (g i j)) (pI C g) := by
  intro W σ m H0 H S x y a b Q r i j h
  unfold pI at h
  cases a with
  | int p =>
    cases b with
    | int q =>
      by_cases hc : C p q
      · simp only [if_pos hc] at h
        exact ⟨p, q, is_int.mp i, is_int.mp j, hc, kt_ok h r (is_int.mpr rfl)⟩
      · simp only [if_neg hc] at h
        exact h.elim
    | _ => exact h.elim
  | _ => exact h.elim
def pI0 (g : Int → Int → D) (a b : D) (S : List Cel) : R D := match a, b with
  | .int i, .int j => .ok (g i j) S
  | _, _ => .fail
theorem snd_i0 {G : Gc} (g : Int → Int → Int) : Snd2 G (rI0 fun i j => .int (g i j)) (pI0 fun i j => .int (g i j)) := by
  intro W σ m H0 H S x y a b Q r i j h
  unfold pI0 at h
  cases a with
  | int p =>
    cases b with
    | int q => exact ⟨p, q, is_int.mp i, is_int.mp j, kt_ok h r (is_int.mpr rfl)⟩
    | _ => exact h.elim
  | _ => exact h.elim
theorem snd_b0 {G : Gc} (g : Int → Int → Bool) : Snd2 G (rI0 fun i j => .bl (g i j)) (pI0 fun i j => .bl (g i j)) := by
  intro W σ m H0 H S x y a b Q r i j h
  unfold pI0 at h
  cases a with
  | int p =>
    cases b with
    | int q => exact ⟨p, q, is_int.mp i, is_int.mp j, kt_ok h r (is_bl.mpr rfl)⟩
    | _ => exact h.elim
  | _ => exact h.elim
/-- a rule out of two, the data's function one behind the other -/
def orR (f g : D → D → List Cel → R D) (a b : D) (S : List Cel) : R D := match f a b S with
  | .fail => g a b S
  | r => r
theorem snd_or {G : Gc} {r r' : R2} {f g : D → D → List Cel → R D} (h : Snd2 G r f) (h' : Snd2 G r' g) : Snd2 G (fun x y H Q => r x y H Q ∨ r' x y H Q) (orR f g) := by
  intro W σ m H0 H S x y a b Q rl i j hk
  unfold orR at hk
  cases hf : f a b S with
  | fail =>
    simp only [hf] at hk
    exact Or.inr (h' W σ m H0 H S x y a b Q rl i j hk)
  | ok d S' =>
    simp only [hf] at hk
    exact Or.inl (h W σ m H0 H S x y a b Q rl i j (by rw [hf]; exact hk))
  | exc e S' =>
    simp only [hf] at hk
    exact Or.inl (h W σ m H0 H S x y a b Q rl i j (by rw [hf]; exact hk))
/-- list + list -/
def pCat (a b : D) (S : List Cel) : R D := match lstW S a, lstW S b with
  | some xs, some ys => if xs.length + ys.length ≤ sizeLine then .ok (.lst (xs ++ ys)) S else .fail
  | _, _ => .fail
theorem snd_cat {G : Gc} : Snd2 G rCat pCat := by
  intro W σ m H0 H S x y a b Q r i j h
  unfold pCat at h
  cases h1 : lstW S a with
  | none => simp only [h1] at h; exact h.elim
  | some xs =>
    cases h2 : lstW S b with
    | none => simp only [h1, h2] at h; exact h.elim
    | some ys =>
      simp only [h1, h2] at h
      obtain ⟨p, vs, rfl, e1, e2⟩ := lstW_ok r i h1
      obtain ⟨q, ws, rfl, e3, e4⟩ := lstW_ok r j h2
      by_cases hl : xs.length + ys.length ≤ sizeLine
      · rw [if_pos hl] at h
        exact ⟨p, q, vs, ws, rfl, rfl, e1, e3, by rw [← e2.len, ← e4.len]; exact hl, fun z hz => kt_lst h r (e2.append e4) hz⟩
      · rw [if_neg hl] at h
        exact h.elim
def pAddS (a b : D) (S : List Cel) : R D := match a, b with
  | .str x, .str y => if x.length + y.length ≤ sizeLine then .ok (.str (x ++ y)) S else .fail
  | _, _ => .fail
theorem snd_adds {G : Gc} : Snd2 G (fun x y H Q => ∃ i j, x = .str i ∧ y = .str j ∧ i.length + j.length ≤ sizeLine ∧ Q (.str (i ++ j)) H) pAddS := by
  intro W σ m H0 H S x y a b Q r i j h
  unfold pAddS at h
  cases a with
  | str p =>
    cases b with
    | str q =>
      by_cases hl : p.length + q.length ≤ sizeLine
      · simp only [if_pos hl] at h
        exact ⟨p, q, is_str.mp i, is_str.mp j, hl, kt_ok h r (is_str.mpr rfl)⟩
      · simp only [if_neg hl] at h
        exact h.elim
    | _ => exact h.elim
  | _ => exact h.elim
/-- a + b: numbers, lists, texts -/
def pAdd : D → D → List Cel → R D := orR (pI0 fun i j => .int (i + j)) (orR pCat pAddS)
theorem op_addA {X : Cx} : OpR X (binaryOp .Add) (fun x y H Q => rI0 (fun i j => .int (i + j)) x y H Q ∨ (rCat x y H Q ∨ ∃ i j, x = .str i ∧ y = .str j ∧ i.length + j.length ≤ sizeLine ∧ Q (.str (i ++ j)) H)) := op_add.or (op_cat.or op_add_str)
theorem snd_addA {G : Gc} : Snd2 G (fun x y H Q => rI0 (fun i j => .int (i + j)) x y H Q ∨ (rCat x y H Q ∨ ∃ i j, x = .str i ∧ y = .str j ∧ i.length + j.length ≤ sizeLine ∧ Q (.str (i ++ j)) H)) pAdd := snd_or (snd_i0 _) (snd_or snd_cat snd_adds)
open Classical in
/-- list * number -/
noncomputable def pRep (a b : D) (S : List Cel) : R D := match lstW S a, b with
  | some xs, .int k => if -(2 ^ 63) ≤ k ∧ k < 2 ^ 63 ∧ xs.length * k.toNat ≤ sizeLine then .ok (.lst (List.replicate k.toNat xs).flatten) S else .fail
  | _, _ => .fail
theorem isl_rep {G : Gc} {m : List Addr} {H0 : Hp} {xs : List D} {vs : List V} (h : IsL G H0 m xs vs) : ∀ n : Nat, IsL G H0 m (List.replicate n xs).flatten (List.replicate n vs).flatten
  | 0 => isl_nil.mpr rfl
  | n + 1 => by
    rw [List.replicate_succ, List.replicate_succ, List.flatten_cons, List.flatten_cons]
    exact h.append (isl_rep h n)
theorem snd_rep {G : Gc} : Snd2 G rRep pRep := by
  intro W σ m H0 H S x y a b Q r i j h
  unfold pRep at h
  cases h1 : lstW S a with
  | none => simp only [h1] at h; exact h.elim
  | some xs =>
    cases b with
    | int k =>
      simp only [h1] at h
      obtain ⟨p, vs, rfl, e1, e2⟩ := lstW_ok r i h1
      by_cases hl : -(2 ^ 63) ≤ k ∧ k < 2 ^ 63 ∧ xs.length * k.toNat ≤ sizeLine
      · rw [if_pos hl] at h
        exact ⟨p, k, vs, rfl, is_int.mp j, e1, hl.1, hl.2.1, by rw [← e2.len]; exact hl.2.2, fun z hz => kt_lst h r (isl_rep e2 _) hz⟩
      · rw [if_neg hl] at h
        exact h.elim
    | _ => simp only [h1] at h; exact h.elim
noncomputable def pMul : D → D → List Cel → R D := orR (pI CMulW fun i j => i * j) pRep
theorem op_mulA {X : Cx} : OpR X (binaryOp .Mult) (fun x y H Q => rI CMulW (fun i j => .int (i * j)) x y H Q ∨ rRep x y H Q) := op_mulW.or op_rep
theorem snd_mulA {G : Gc} : Snd2 G (fun x y H Q => rI CMulW (fun i j => .int (i * j)) x y H Q ∨ rRep x y H Q) pMul := snd_or (snd_i _ _) snd_rep

/-- ==, != of plain data -/
def pEq (neg : Bool) (a b : D) (S : List Cel) : R D := match toPy S a, toPy S b with
  | some p, some q => if (SeqAt.shaped p && SeqAt.shaped q) = true then .ok (.bl (if neg = true then !PyData.eqv p q else PyData.eqv p q)) S else .fail
  | _, _ => .fail
theorem snd_eq {G : Gc} : Snd2 G (rEqD G.K) (pEq false) := by
  intro W σ m H0 H S x y a b Q r i j h
  unfold pEq at h
  cases h1 : toPy S a with
  | none => simp only [h1] at h; exact h.elim
  | some p =>
    cases h2 : toPy S b with
    | none => simp only [h1, h2] at h; exact h.elim
    | some q =>
      simp only [h1, h2] at h
      by_cases hl : (SeqAt.shaped p && SeqAt.shaped q) = true
      · rw [if_pos hl] at h
        rw [Bool.and_eq_true] at hl
        exact ⟨p, q, toPy_ok r h1 i, toPy_ok r h2 j, hl.1, hl.2, kt_ok h r (is_bl.mpr rfl)⟩
      · rw [if_neg hl] at h
        exact h.elim
theorem snd_ne {G : Gc} : Snd2 G (rNeD G.K) (pEq true) := by
  intro W σ m H0 H S x y a b Q r i j h
  unfold pEq at h
  cases h1 : toPy S a with
  | none => simp only [h1] at h; exact h.elim
  | some p =>
    cases h2 : toPy S b with
    | none => simp only [h1, h2] at h; exact h.elim
    | some q =>
      simp only [h1, h2] at h
      by_cases hl : (SeqAt.shaped p && SeqAt.shaped q) = true
      · rw [if_pos hl] at h
        rw [Bool.and_eq_true] at hl
        exact ⟨p, q, toPy_ok r h1 i, toPy_ok r h2 j, hl.1, hl.2, kt_ok h r (is_bl.mpr rfl)⟩
      · rw [if_neg hl] at h
        exact h.elim
/-- is None, is not None; is of two bools -/
def nonD : D → Bool
  | .non => true
  | _ => false
theorem nonD_ok {G : Gc} {H0 : Hp} {m : List Addr} {a : D} {x : V} (i : Is G H0 m a x) : decide (x = V.non) = nonD a := by
  cases a with
  | non => rw [is_non.mp i]; rfl
  | bl _ => rw [is_bl.mp i]; rfl
  | int _ => rw [is_int.mp i]; rfl
  | str _ => rw [is_str.mp i]; rfl
  | tup _ => obtain ⟨_, _, e, _⟩ := is_tup.mp i; rw [e]; rfl
  | lst _ => obtain ⟨_, _, e, _⟩ := is_lst.mp i; rw [e]; rfl
  | frl _ => obtain ⟨_, _, e, _⟩ := is_frl.mp i; rw [e]; rfl
  | obj _ _ _ => obtain ⟨_, _, _, _, e, _⟩ := is_obj.mp i; rw [e]; rfl
  | cell _ => obtain ⟨_, e, _⟩ := is_cell.mp i; rw [e]; rfl
def pIsN (neg : Bool) (a b : D) (S : List Cel) : R D := match b with
  | .non => .ok (.bl (if neg = true then !nonD a else nonD a)) S
  | _ => .fail
theorem snd_isN {G : Gc} : Snd2 G (fun x y H Q => y = .non ∧ Q (.bl (decide (x = .non))) H) (pIsN false) := by
  intro W σ m H0 H S x y a b Q r i j h
  cases b with
  | non =>
    refine ⟨is_non.mp j, ?_⟩
    rw [nonD_ok i]
    exact kt_ok h r (is_bl.mpr rfl)
  | _ => exact h.elim
theorem snd_notN {G : Gc} : Snd2 G (fun x y H Q => y = .non ∧ Q (.bl (!decide (x = .non))) H) (pIsN true) := by
  intro W σ m H0 H S x y a b Q r i j h
  cases b with
  | non =>
    refine ⟨is_non.mp j, ?_⟩
    rw [nonD_ok i]
    exact kt_ok h r (is_bl.mpr rfl)
  | _ => exact h.elim
def pIsB (neg : Bool) (a b : D) (S : List Cel) : R D := match a, b with
  | .bl x, .bl y => .ok (.bl (if neg = true then !decide (x = y) else decide (x = y))) S
  | _, _ => .fail
theorem snd_isB {G : Gc} : Snd2 G (fun x y H Q => ∃ a b, x = .bl a ∧ y = .bl b ∧ Q (.bl (decide (a = b))) H) (pIsB false) := by
  intro W σ m H0 H S x y a b Q r i j h
  cases a with
  | bl p =>
    cases b with
    | bl q => exact ⟨p, q, is_bl.mp i, is_bl.mp j, kt_ok h r (is_bl.mpr rfl)⟩
    | _ => exact h.elim
  | _ => exact h.elim
theorem snd_notB {G : Gc} : Snd2 G (fun x y H Q => ∃ a b, x = .bl a ∧ y = .bl b ∧ Q (.bl (!decide (a = b))) H) (pIsB true) := by
  intro W σ m H0 H S x y a b Q r i j h
  cases a with
  | bl p =>
    cases b with
    | bl q => exact ⟨p, q, is_bl.mp i, is_bl.mp j, kt_ok h r (is_bl.mpr rfl)⟩
    | _ => exact h.elim
  | _ => exact h.elim
/-- x in xs, a list or a tuple of plain data -/
def pIn (neg : Bool) (a b : D) (S : List Cel) : R D := match toPy S a, toPy S b with
  | some p, some (.list qs) => if (SeqAt.shaped p && SeqAt.shaped (.list qs)) = true then .ok (.bl (if neg = true then !qs.any fun z => PyData.eqv z p else qs.any fun z => PyData.eqv z p)) S else .fail
  | some p, some (.tuple qs) => if (SeqAt.shaped p && SeqAt.shaped (.tuple qs)) = true then .ok (.bl (if neg = true then !qs.any fun z => PyData.eqv z p else qs.any fun z => PyData.eqv z p)) S else .fail
  | _, _ => .fail
def rInT (K : PySem.W.Frag) : R2 := fun x y H Q => ∃ d ds, Dp K H x d ∧ Dp K H y (.tuple ds) ∧ SeqAt.shaped d = true ∧ SeqAt.shaped (.tuple ds) = true ∧ Q (.bl (ds.any fun z => PyData.eqv z d)) H
def rNotInT (K : PySem.W.Frag) : R2 := fun x y H Q => ∃ d ds, Dp K H x d ∧ Dp K H y (.tuple ds) ∧ SeqAt.shaped d = true ∧ SeqAt.shaped (.tuple ds) = true ∧ Q (.bl (!ds.any fun z => PyData.eqv z d)) H
theorem room_t {A : Around} {d : PyData} {ds : List PyData} (sd : SeqAt.shaped d = true) (hu : A.units + 65 < cLine) : A.units + 1 + min (PyData.depthAll ds) d.depth < cLine := by
  have h1 := SeqAt.depth_of_shaped sd
  have h2 : min (PyData.depthAll ds) d.depth ≤ d.depth := Nat.min_le_right _ _
  omega
theorem op_inT {X : Cx} (hu : X.A.units + 65 < cLine) : OpR X (compareOp .In) (rInT X.K) := by
  intro pins s σ H x y v u Q I rx ry h
  obtain ⟨d, ds, hd, he, sd, se, q⟩ := h
  obtain ⟨as, r1⟩ := Dp.reads I d x v hd rx
  obtain ⟨bs, r2⟩ := Dp.reads I (.tuple ds) y u he ry
  exact SeqAt.in_tuple_reads r2 r1 (SeqAt.canLay_of_shaped se) (SeqAt.canLay_of_shaped sd) (room_t sd hu) ⟨.bl _, H, I, rfl, q⟩
theorem op_notInT {X : Cx} (hu : X.A.units + 65 < cLine) : OpR X (compareOp .NotIn) (rNotInT X.K) := by
  intro pins s σ H x y v u Q I rx ry h
  obtain ⟨d, ds, hd, he, sd, se, q⟩ := h
  obtain ⟨as, r1⟩ := Dp.reads I d x v hd rx
  obtain ⟨bs, r2⟩ := Dp.reads I (.tuple ds) y u he ry
  exact SeqAt.notIn_tuple_reads r2 r1 (SeqAt.canLay_of_shaped se) (SeqAt.canLay_of_shaped sd) (room_t sd hu) ⟨.bl _, H, I, rfl, q⟩
theorem snd_in {G : Gc} : Snd2 G (fun x y H Q => rInD G.K x y H Q ∨ rInT G.K x y H Q) (pIn false) := by
  intro W σ m H0 H S x y a b Q r i j h
  unfold pIn at h
  cases h1 : toPy S a with
  | none => simp only [h1] at h; exact h.elim
  | some p =>
    cases h2 : toPy S b with
    | none => simp only [h1, h2] at h; exact h.elim
    | some q =>
      cases q with
      | list qs =>
        simp only [h1, h2] at h
        by_cases hl : (SeqAt.shaped p && SeqAt.shaped (.list qs)) = true
        · rw [if_pos hl] at h
          rw [Bool.and_eq_true] at hl
          exact Or.inl ⟨p, qs, toPy_ok r h1 i, toPy_ok r h2 j, hl.1, hl.2, kt_ok h r (is_bl.mpr rfl)⟩
        · rw [if_neg hl] at h
          exact h.elim
      | tuple qs =>
        simp only [h1, h2] at h
        by_cases hl : (SeqAt.shaped p && SeqAt.shaped (.tuple qs)) = true
        · rw [if_pos hl] at h
          rw [Bool.and_eq_true] at hl
          exact Or.inr ⟨p, qs, toPy_ok r h1 i, toPy_ok r h2 j, hl.1, hl.2, kt_ok h r (is_bl.mpr rfl)⟩
        · rw [if_neg hl] at h
          exact h.elim
      | _ => simp only [h1, h2] at h; exact h.elim
theorem snd_notIn {G : Gc} : Snd2 G (fun x y H Q => rNotInD G.K x y H Q ∨ rNotInT G.K x y H Q) (pIn true) := by
  intro W σ m H0 H S x y a b Q r i j h
  unfold pIn at h
  cases h1 : toPy S a with
  | none => simp only [h1] at h; exact h.elim
  | some p =>
    cases h2 : toPy S b with
    | none => simp only [h1, h2] at h; exact h.elim
    | some q =>
      cases q with
      | list qs =>
        simp only [h1, h2] at h
        by_cases hl : (SeqAt.shaped p && SeqAt.shaped (.list qs)) = true
        · rw [if_pos hl] at h
          rw [Bool.and_eq_true] at hl
          exact Or.inl ⟨p, qs, toPy_ok r h1 i, toPy_ok r h2 j, hl.1, hl.2, kt_ok h r (is_bl.mpr rfl)⟩
        · rw [if_neg hl] at h
          exact h.elim
      | tuple qs =>
        simp only [h1, h2] at h
        by_cases hl : (SeqAt.shaped p && SeqAt.shaped (.tuple qs)) = true
        · rw [if_pos hl] at h
          rw [Bool.and_eq_true] at hl
          exact Or.inr ⟨p, qs, toPy_ok r h1 i, toPy_ok r h2 j, hl.1, hl.2, kt_ok h r (is_bl.mpr rfl)⟩
        · rw [if_neg hl] at h
          exact h.elim
      | _ => simp only [h1, h2] at h; exact h.elim
/-- xs[i], a list or a tuple -/
def pIx (a b : D) (S : List Cel) : R D := match b with
  | .int i => (match a with
    | .tup xs => (match atI xs i with
      | some d => .ok d S
      | none => .fail)
    | a => (match lstD S a with
      | some xs => (match atI xs i with
        | some d => .ok d S
        | none => .fail)
      | none => .fail))
  | _ => .fail
theorem at_ok {G : Gc} {m : List Addr} {H0 : Hp} {xs : List D} {vs : List V} {i : Int} {d : D} (h : IsL G H0 m xs vs) (e : atI xs i = some d) : ∃ v, atI vs i = some v ∧ Is G H0 m d v := by
  unfold atI at e ⊢
  rw [← h.len]
  cases hj : ixN xs.length i with
  | none => rw [hj] at e; cases e
  | some j =>
    rw [hj] at e
    exact h.get e
theorem snd_ix {G : Gc} : Snd2 G (fun x y H Q => rIxL G.K x y H Q ∨ rIxT G.K x y H Q) pIx := by
  intro W σ m H0 H S x y a b Q r i j h
  cases b with
  | int k =>
    have lst : ∀ xs, lstD S a = some xs → Kt G W σ m H0 H (match atI xs k with
      | some d => R.ok d S
      | none => R.fail) Q → rIxL G.K x y H Q := by
      intro xs hx hk
      cases he : atI xs k with
      | none => rw [he] at hk; exact hk.elim
      | some d =>
        rw [he] at hk
        obtain ⟨p, vs, rfl, e1, e2⟩ := lstD_ok r i hx
        obtain ⟨v, e3, e4⟩ := at_ok e2 he
        exact ⟨p, vs, k, v, rfl, is_int.mp j, e1, e3, kt_ok hk r e4⟩
    have viaL : ∀ (hk : Kt G W σ m H0 H (match lstD S a with
      | some xs => (match atI xs k with
        | some d => R.ok d S
        | none => R.fail)
      | none => R.fail) Q), rIxL G.K x y H Q := by
      intro hk
      cases hx : lstD S a with
      | none => rw [hx] at hk; exact hk.elim
      | some xs => rw [hx] at hk; exact lst xs hx hk
    cases a with
    | tup xs =>
      have h' : Kt G W σ m H0 H (match atI xs k with
        | some d => R.ok d S
        | none => R.fail) Q := h
      cases he : atI xs k with
      | none => rw [he] at h'; exact h'.elim
      | some d =>
        rw [he] at h'
        obtain ⟨p, vs, rfl, e1, e2⟩ := tup_ok r i
        obtain ⟨v, e3, e4⟩ := at_ok e2 he
        exact Or.inr ⟨p, vs, k, v, rfl, is_int.mp j, e1, e3, kt_ok h' r e4⟩
    | lst xs => exact Or.inl (viaL h)
    | frl xs => exact Or.inl (viaL h)
    | cell c => exact Or.inl (viaL h)
    | non => exact Or.inl (viaL h)
    | bl _ => exact Or.inl (viaL h)
    | int _ => exact Or.inl (viaL h)
    | str _ => exact Or.inl (viaL h)
    | obj _ _ _ => exact Or.inl (viaL h)
  | _ => exact h.elim
section
variable {X : Cx} {W : WX}
theorem ix_lt : IxR X (fun x y H Q => rIxL X.K x y H Q ∨ rIxT X.K x y H Q) := ix_list.or ix_tup
theorem me_ix {a b : Expr} {x y : M} {pos : Pos} (ha : ME X W a x) (hb : ME X W b y) (hs : PlainIx b := by first | exact fun _ _ => rfl | (intro _ _; rfl)) : ME X W (.Subscript a b pos) (eBin pIx x y) :=
  pe_imp (pe_ix ix_lt ha hb hs) fun _ _ _ h => tm_mono (tm_bin h) fun _ _ h1 => tm_mono h1 fun _ _ ⟨_, _, _, _, _, h2, h3, h4, h5⟩ => snd_ix _ _ _ _ _ _ _ _ _ _ _ h2 h3 h4 h5
end
end Me
end
section
set_option Elab.async false
set_option linter.all false
set_option maxRecDepth 100000
namespace Me
open PySem PySem.Spec L2
open PyProof.Rows hiding St

/-! ### displays -/
section
variable {X : Cx} {W : WX} {G : Gc} {σ : L2.St} {H : Hp}
theorem tml_one {y : ML} {f : List D → List Cel → R D} {Q : VK} (h : tM G W (fun r S => (y r S).bind fun ds S1 => f ds S1) σ H Q) :
    tML G W y σ H fun vs H1 => ∃ ds S m H0, Rl G m S H0 H1 ∧ IsL G H0 m ds vs ∧ Kt G W σ m H0 H1 (f ds S) Q := by
  obtain ⟨r, S, m, H0, he, hr, hk⟩ := h
  refine ⟨r, S, m, H0, he, hr, ?_⟩
  cases hx : y r S with
  | fail => simp only [hx] at hk; exact hk
  | exc ex S1 => simp only [hx] at hk; exact hk
  | ok ds S1 =>
    simp only [hx] at hk
    exact fun vs m1 H01 H1 ex rl i => ⟨ds, S1, m1, H01, rl, i, Kt.later ex hk⟩
def eTup (y : ML) : M := fun r S => (y r S).bind fun ds S1 => if ds.length ≤ sizeLine then .ok (.tup ds) S1 else .fail
def eLst (y : ML) : M := fun r S => (y r S).bind fun ds S1 => if ds.length ≤ sizeLine then .ok (.lst ds) S1 else .fail
/-- a list that will be changed -/
def eCel (y : ML) : M := fun r S => (y r S).bind fun ds S1 => if ds.length ≤ sizeLine then .ok (.cell S1.length) (S1 ++ [.lst ds]) else .fail
theorem me_tup {es : List Expr} {y : ML} {x1 pos} (h : MA X W es y) : ME X W (.Tuple es x1 pos) (eTup y) :=
  pe_imp (pe_tup h) fun σ H Q h => tml_mono (tml_one h) fun vs H1 ⟨ds, S, m, H0, rl, i, k⟩ => by
    by_cases hl : ds.length ≤ sizeLine
    · rw [if_pos hl] at k
      exact ⟨by rw [← i.len]; exact hl, fun p hp => kt_tup k rl i hp⟩
    · rw [if_neg hl] at k
      exact k.elim
theorem me_lst {es : List Expr} {y : ML} {pos} (h : MA X W es y) : ME X W (.List es pos) (eLst y) :=
  pe_imp (pe_lst h) fun σ H Q h => tml_mono (tml_one h) fun vs H1 ⟨ds, S, m, H0, rl, i, k⟩ => by
    by_cases hl : ds.length ≤ sizeLine
    · rw [if_pos hl] at k
      exact ⟨by rw [← i.len]; exact hl, fun p hp => kt_lst k rl i hp⟩
    · rw [if_neg hl] at k
      exact k.elim
/-- a new object that is not (yet) immutable -/
theorem Rl.beside {m : List Addr} {S : List Cel} {H0 : Hp} {p : Addr} {o : HO} (r : Rl G m S H0 H) (hp : H p = none) : Rl G m S H0 (upd H p o) where
  sub := fun b u h => by
    rw [upd_ne (ne_of_none (r.sub _ _ h) hp)]
    exact r.sub _ _ h
  len := r.len
  nd := r.nd
  at_ := fun k c a h1 h2 => (r.at_ k c a h1 h2).mono (Same.refl _) (List.prefix_refl _) fun u h => by
    rw [upd_ne (ne_of_none h hp)]
    exact h
  out := r.out
  trk := fun a ha => by
    obtain ⟨u, h⟩ := r.trk a ha
    exact ⟨u, by rw [upd_ne (ne_of_none h hp)]; exact h⟩
theorem not_mem_new {m : List Addr} {S : List Cel} {H0 : Hp} {p : Addr} (r : Rl G m S H0 H) (hp : H p = none) : p ∉ m := fun z => by
  obtain ⟨u, h⟩ := r.trk p z
  rw [hp] at h
  cases h
theorem kt_cell {m : List Addr} {S : List Cel} {H0 : Hp} {ds : List D} {vs : List V} {p : Addr} {Q : VK} (h : Kt G W σ m H0 H (.ok (.cell S.length) (S ++ [.lst ds])) Q) (r : Rl G m S H0 H) (i : IsL G H0 m ds vs) (hp : H p = none) : Q (.ref p) (upd H p (.lst vs)) := by
  have np := not_mem_new r hp
  refine h (.ref p) (m ++ [p]) H0 (upd H p (.lst vs)) ⟨Same.refl _, List.prefix_append _ _, fun a o q _ => by rw [upd_ne (ne_of_none q hp)]; exact q, fun a ha => ?_, fun a o q => Or.inl q⟩ ((r.beside hp).snoc np ⟨vs, upd_same, IsL.mono (Same.refl _) (List.prefix_append _ _) _ _ i⟩ (fun _ => ?_) ⟨_, upd_same⟩) (is_cell.mpr ⟨p, rfl, by rw [← r.len]; exact getL_snoc⟩)
  · rcases List.mem_append.mp ha with z | z
    · exact Or.inl z
    · simp at z
      rw [z]
      exact Or.inr hp
  · cases q : H0 p with
    | none => rfl
    | some u =>
      have z := r.sub _ _ q
      rw [hp] at z
      cases z
theorem me_cel {es : List Expr} {y : ML} {pos} (h : MA X W es y) : ME X W (.List es pos) (eCel y) :=
  pe_imp (pe_lst h) fun σ H Q h => tml_mono (tml_one h) fun vs H1 ⟨ds, S, m, H0, rl, i, k⟩ => by
    by_cases hl : ds.length ≤ sizeLine
    · rw [if_pos hl] at k
      exact ⟨by rw [← i.len]; exact hl, fun p hp => kt_cell k rl i hp⟩
    · rw [if_neg hl] at k
      exact k.elim

/-! ### fields -/
def look (f : Str) : List Str → List D → Option D
  | n :: ns, d :: ds => if f = n then some d else look f ns ds
  | _, _ => none
theorem look_ok {H0 : Hp} {m : List Addr} {f : Str} : ∀ {fs : List (Str × V)} {ns : List Str} {ds : List D} {d : D}, fs.map (·.1) = ns → IsL G H0 m ds (fs.map (·.2)) → look f ns ds = some d → ∃ v, fs.lookup f = some v ∧ Is G H0 m d v
  | [], ns, ds, d, e, i, h => by
    subst e
    simp [look] at h
  | (a, b) :: fs, ns, ds, d, e, i, h => by
    subst e
    cases ds with
    | nil => simp [look] at h
    | cons d0 ds =>
      obtain ⟨v, w, e1, i1, i2⟩ := isl_cons.mp i
      obtain ⟨rfl, rfl⟩ := List.cons.inj e1
      simp only [List.map_cons, look] at h
      by_cases hf : f = a
      · rw [if_pos hf] at h
        cases h
        exact ⟨b, by rw [hf]; simp [List.lookup], i1⟩
      · rw [if_neg hf] at h
        obtain ⟨u, h1, h2⟩ := look_ok (fs := fs) rfl i2 h
        have e2 : (f == a) = false := by simpa using hf
        exact ⟨u, by simp [List.lookup, e2, h1], h2⟩
/-- o.f, o an instance of the class named c, finished or not -/
def eFld (c f : Str) (o : M) : M := eB o fun d _ S => match d with
  | .obj c' ns ds => if c' = c then (match look f ns ds with
    | some d => .ok d S
    | none => .fail) else .fail
  | .cell k => (match S[k]? with
    | some (.ins c' ns ds) => if c' = c then (match look f ns ds with
      | some d => .ok d S
      | none => .fail) else .fail
    | _ => .fail)
  | _ => .fail
theorem me_fld {c f : Str} {C : Addr} {e : Expr} {x : M} {pos : Pos} (hC : X.mg c = some (.ref C)) (cl : Cls X.K C) (na : NoAttr X.K C f) (he : ME X W e x) (hb : attributeBase e f X.env (eval e X.env) = eval e X.env := by rfl) :
    ME X W (.Attribute e f pos) (eFld c f x) :=
  pe_imp (pe_fld he hb) fun σ H Q h => tm_mono (tm_b h) fun v H1 ⟨d, r, S, m, H0, he', rl, i, k⟩ => by
    have fin : ∀ {a : Addr} {C' dx : Addr} {fs : List (Str × V)} {c' : Str} {ns : List Str} {ds : List D}, v = .ref a → X.mg c' = some (.ref C') → H1 a = some (.ins C' dx fs) → fs.map (·.1) = ns → IsL (gX X) H0 m ds (fs.map (·.2)) →
        Kt (gX X) W σ m H0 H1 (if c' = c then (match look f ns ds with
          | some d => .ok d S
          | none => .fail) else .fail) Q → ∃ a C dx fs u, v = .ref a ∧ H1 a = some (.ins C dx fs) ∧ Cls X.K C ∧ NoAttr X.K C f ∧ fs.lookup f = some u ∧ Q u H1 := by
      intro a C' dx fs c' ns ds e1 e2 e3 e4 e5 k
      by_cases hc : c' = c
      · rw [if_pos hc] at k
        rw [hc, hC] at e2
        cases e2
        cases hl : look f ns ds with
        | none => rw [hl] at k; exact k.elim
        | some d' =>
          rw [hl] at k
          obtain ⟨u, l1, l2⟩ := look_ok e4 e5 hl
          exact ⟨a, C, dx, fs, u, e1, e3, cl, na, l1, kt_ok k rl l2⟩
      · rw [if_neg hc] at k
        exact k.elim
    cases d with
    | obj c' ns ds =>
      obtain ⟨a, C', dx, fs, e1, e2, e3, e4, e5⟩ := is_obj.mp i
      exact fin e1 e2 (rl.sub _ _ e3) e4 e5 k
    | cell j =>
      obtain ⟨a, e1, e2⟩ := is_cell.mp i
      simp only at k
      cases hj : S[j]? with
      | none => simp only [hj] at k; exact k.elim
      | some c0 =>
        cases c0 with
        | ins c' ns ds =>
          simp only [hj] at k
          obtain ⟨C', dx, fs, y1, y2, y3, y4⟩ := rl.at_ j _ _ hj e2
          exact fin e1 y1 y2 y3 y4 k
        | _ => simp only [hj] at k; exact k.elim
    | _ => exact k.elim

/-! ### built-in functions -/
abbrev RA := List V → Hp → VK → Prop
def SndA (G : Gc) (r : RA) (f : List D → List Cel → R D) : Prop :=
  ∀ (W : WX) (σ : L2.St) (m : List Addr) (H0 H : Hp) (S : List Cel) (xs : List V) (ds : List D) (Q : VK), Rl G m S H0 H → IsL G H0 m ds xs → Kt G W σ m H0 H (f ds S) Q → r xs H Q
def eFn (f : List D → List Cel → R D) (y : ML) : M := fun r S => (y r S).bind fun ds S1 => f ds S1
theorem me_fn {id x : Str} {b : String} {r : RA} {f : List D → List Cel → R D} {y : ML} {p pos : Pos} {e : Expr} {es : List Expr} (hc : CallR X (.builtin b) r) (hs : SndA (gX X) r f) (hg : Gl X x) (hm : X.mg x = none) (hv : bootBuiltins x = some (.builtin b)) (ha : MA X W (e :: es) y) (hn : x ≠ "__name__" := by decide)
    (hdb : (x == ("__debug__" : Str)) = false := by decide) (he : starEach (e :: es) X.env = (false, eval e X.env) :: starEach es X.env := by rfl) (hpl : (backTo pos (starEach es X.env)).any (·.1) = false := by rfl) : ME X W (.Call (.Name x p) (e :: es) [] pos) (eFn f y) :=
  pe_imp (pe_callB hc hg hm hv ha hn hdb he hpl) fun σ H Q h => tml_mono (tml_one h) fun vs H1 ⟨ds, S, m, H0, rl, i, k⟩ => hs W σ m H0 H1 S vs ds Q rl i k
theorem me_ty {x : Str} {T : String} {r : RA} {f : List D → List Cel → R D} {y : ML} {p pos : Pos} {e : Expr} {es : List Expr} (hc : CallR X (.type T) r) (hs : SndA (gX X) r f) (hg : Gl X x) (hm : X.mg x = none) (hv : bootBuiltins x = some (.type T)) (ha : MA X W (e :: es) y) (hn : x ≠ "__name__" := by decide)
    (hdb : (x == ("__debug__" : Str)) = false := by decide) (he : starEach (e :: es) X.env = (false, eval e X.env) :: starEach es X.env := by rfl) (hpl : (backTo pos (starEach es X.env)).any (·.1) = false := by rfl) : ME X W (.Call (.Name x p) (e :: es) [] pos) (eFn f y) :=
  pe_imp (pe_callTy hc hg hm hv ha hn hdb he hpl) fun σ H Q h => tml_mono (tml_one h) fun vs H1 ⟨ds, S, m, H0, rl, i, k⟩ => hs W σ m H0 H1 S vs ds Q rl i k
end

theorem isl_one {G : Gc} {H0 : Hp} {m : List Addr} {d : D} {vs : List V} (h : IsL G H0 m [d] vs) : ∃ v, vs = [v] ∧ Is G H0 m d v := by
  obtain ⟨v, r, rfl, h1, h2⟩ := isl_cons.mp h
  rw [isl_nil.mp h2]
  exact ⟨v, rfl, h1⟩
theorem isl_two {G : Gc} {H0 : Hp} {m : List Addr} {d e : D} {vs : List V} (h : IsL G H0 m [d, e] vs) : ∃ v u, vs = [v, u] ∧ Is G H0 m d v ∧ Is G H0 m e u := by
  obtain ⟨v, r, rfl, h1, h2⟩ := isl_cons.mp h
  obtain ⟨u, rfl, h3⟩ := isl_one h2
  exact ⟨v, u, rfl, h1, h3⟩
/-- a function of one value -/
def f1 (g : D → List Cel → R D) (ds : List D) (S : List Cel) : R D := match ds with
  | [d] => g d S
  | _ => .fail
theorem snd_f1 {G : Gc} {r : RA} {g : D → List Cel → R D} (h : ∀ (W : WX) (σ : L2.St) (m : List Addr) (H0 H : Hp) (S : List Cel) (x : V) (d : D) (Q : VK), Rl G m S H0 H → Is G H0 m d x → Kt G W σ m H0 H (g d S) Q → r [x] H Q) : SndA G r (f1 g) := by
  intro W σ m H0 H S xs ds Q rl i k
  cases ds with
  | nil => exact k.elim
  | cons d ds =>
    cases ds with
    | nil =>
      obtain ⟨v, rfl, i1⟩ := isl_one i
      exact h W σ m H0 H S v d Q rl i1 k
    | cons _ _ => exact k.elim
def f2 (g : D → D → List Cel → R D) (ds : List D) (S : List Cel) : R D := match ds with
  | [d, e] => g d e S
  | _ => .fail
theorem snd_f2 {G : Gc} {r : RA} {g : D → D → List Cel → R D} (h : ∀ (W : WX) (σ : L2.St) (m : List Addr) (H0 H : Hp) (S : List Cel) (x y : V) (d e : D) (Q : VK), Rl G m S H0 H → Is G H0 m d x → Is G H0 m e y → Kt G W σ m H0 H (g d e S) Q → r [x, y] H Q) : SndA G r (f2 g) := by
  intro W σ m H0 H S xs ds Q rl i k
  cases ds with
  | nil => exact k.elim
  | cons d ds =>
    cases ds with
    | nil => exact k.elim
    | cons e ds =>
      cases ds with
      | nil =>
        obtain ⟨v, u, rfl, i1, i2⟩ := isl_two i
        exact h W σ m H0 H S v u d e Q rl i1 i2 k
      | cons _ _ => exact k.elim

/-- len -/
def pLen : D → List Cel → R D := fun d S => match d with
  | .str x => if x.length ≤ sizeLine then .ok (.int x.length) S else .fail
  | .tup xs => .ok (.int xs.length) S
  | d => match lstD S d with
    | some xs => .ok (.int xs.length) S
    | none => .fail
theorem snd_len {G : Gc} : SndA G (fun xs H Q => ∃ x n, xs = [x] ∧ LenV G.K x H n ∧ Q (.int (n : Nat)) H) (f1 pLen) := by
  refine snd_f1 fun W σ m H0 H S x d Q rl i k => ?_
  have lst : ∀ (k : Kt G W σ m H0 H (match lstD S d with
      | some xs => R.ok (.int xs.length) S
      | none => .fail) Q), ∃ x' n, [x] = [x'] ∧ LenV G.K x' H n ∧ Q (.int (n : Nat)) H := by
    intro k
    cases hx : lstD S d with
    | none => rw [hx] at k; exact k.elim
    | some xs =>
      rw [hx] at k
      obtain ⟨a, vs, rfl, e1, e2⟩ := lstD_ok rl i hx
      exact ⟨_, vs.length, rfl, Or.inl ⟨vs, e1, rfl⟩, by rw [← e2.len]; exact kt_ok k rl (is_int.mpr rfl)⟩
  cases d with
  | str y =>
    have k' : Kt G W σ m H0 H (if y.length ≤ sizeLine then .ok (.int y.length) S else .fail) Q := k
    by_cases hl : y.length ≤ sizeLine
    · rw [if_pos hl] at k'
      rw [is_str.mp i]
      exact ⟨_, y.length, rfl, ⟨hl, rfl⟩, kt_ok k' rl (is_int.mpr rfl)⟩
    · rw [if_neg hl] at k'
      exact k'.elim
  | tup ys =>
    have k' : Kt G W σ m H0 H (.ok (.int ys.length) S) Q := k
    obtain ⟨a, vs, rfl, e1, e2⟩ := tup_ok rl i
    exact ⟨_, vs.length, rfl, Or.inr ⟨vs, e1, rfl⟩, by rw [← e2.len]; exact kt_ok k' rl (is_int.mpr rfl)⟩
  | lst _ => exact lst k
  | frl _ => exact lst k
  | cell _ => exact lst k
  | non => exact lst k
  | bl _ => exact lst k
  | int _ => exact lst k
  | obj _ _ _ => exact lst k
/-- sum of numbers -/
def pSum : D → List Cel → R D := fun d S => match lstD S d with
  | some xs => (match intsD xs with
    | some ns => .ok (.int ns.sum) S
    | none => .fail)
  | none => .fail
theorem snd_sum {G : Gc} : SndA G (rSum G.K) (f1 pSum) := by
  refine snd_f1 fun W σ m H0 H S x d Q rl i k => ?_
  unfold pSum at k
  cases hx : lstD S d with
  | none => rw [hx] at k; exact k.elim
  | some xs =>
    simp only [hx] at k
    cases hn : intsD xs with
    | none => rw [hn] at k; exact k.elim
    | some ns =>
      rw [hn] at k
      obtain ⟨a, vs, rfl, e1, e2⟩ := lstD_ok rl i hx
      rw [ints_eq hn] at e2
      exact ⟨a, ns, rfl, by rw [← isl_ints e2]; exact e1, kt_ok k rl (is_int.mpr rfl)⟩
def pAll : D → List Cel → R D := fun d S => match lstD S d with
  | some xs => (match bls xs with
    | some ns => .ok (.bl (ns.all id)) S
    | none => .fail)
  | none => .fail
theorem snd_all {G : Gc} : SndA G (rAll G.K) (f1 pAll) := by
  refine snd_f1 fun W σ m H0 H S x d Q rl i k => ?_
  unfold pAll at k
  cases hx : lstD S d with
  | none => rw [hx] at k; exact k.elim
  | some xs =>
    simp only [hx] at k
    cases hn : bls xs with
    | none => rw [hn] at k; exact k.elim
    | some ns =>
      rw [hn] at k
      obtain ⟨a, vs, rfl, e1, e2⟩ := lstD_ok rl i hx
      rw [bls_eq hn] at e2
      exact ⟨a, ns, rfl, by rw [← isl_bls e2]; exact e1, kt_ok k rl (is_bl.mpr rfl)⟩
def sortI (ns : List Int) : List Int := ns.mergeSort (fun a b => decide (a ≤ b))
theorem sortI_perm (ns : List Int) : (sortI ns).Perm ns := List.mergeSort_perm _ _
theorem sortI_sorted (ns : List Int) : (sortI ns).Pairwise (· ≤ ·) := by
  have h := List.pairwise_mergeSort (le := fun a b : Int => decide (a ≤ b)) (fun a b c h1 h2 => by simp at *; omega) (fun a b => by simp; omega) ns
  exact h.imp fun h => by simpa using h
def pSort : D → List Cel → R D := fun d S => match lstD S d with
  | some xs => (match intsD xs with
    | some ns => .ok (.lst ((sortI ns).map D.int)) S
    | none => .fail)
  | none => .fail
theorem isl_mapI {G : Gc} {H0 : Hp} {m : List Addr} : ∀ ns : List Int, IsL G H0 m (ns.map D.int) (ns.map V.int)
  | [] => isl_nil.mpr rfl
  | a :: r => isl_cons.mpr ⟨_, _, rfl, is_int.mpr rfl, isl_mapI r⟩
theorem snd_sort {G : Gc} : SndA G (rSortedI G.K) (f1 pSort) := by
  refine snd_f1 fun W σ m H0 H S x d Q rl i k => ?_
  unfold pSort at k
  cases hx : lstD S d with
  | none => rw [hx] at k; exact k.elim
  | some xs =>
    simp only [hx] at k
    cases hn : intsD xs with
    | none => rw [hn] at k; exact k.elim
    | some ns =>
      rw [hn] at k
      obtain ⟨a, vs, rfl, e1, e2⟩ := lstD_ok rl i hx
      rw [ints_eq hn] at e2
      refine ⟨a, ns, rfl, by rw [← isl_ints e2]; exact e1, fun ns' p hp hs hnp => ?_⟩
      have e : ns' = sortI ns := PySem.W.ksm_same (hp.trans (sortI_perm ns).symm) hs (sortI_sorted ns)
      rw [e]
      exact kt_lst k rl (isl_mapI _) hnp
def pAbs : D → List Cel → R D := fun d S => match d with
  | .int i => .ok (.int (if i < 0 then -i else i)) S
  | _ => .fail
theorem snd_abs {G : Gc} : SndA G (fun xs H Q => ∃ i, xs = [.int i] ∧ Q (.int (if i < 0 then -i else i)) H) (f1 pAbs) := by
  refine snd_f1 fun W σ m H0 H S x d Q rl i k => ?_
  cases d with
  | int n => exact ⟨n, by rw [is_int.mp i], kt_ok k rl (is_int.mpr rfl)⟩
  | _ => exact k.elim
def pMax : D → D → List Cel → R D := fun a b S => match a, b with
  | .int i, .int j => .ok (.int (if j > i then j else i)) S
  | _, _ => .fail
theorem snd_max {G : Gc} : SndA G (fun xs H Q => ∃ i j, xs = [.int i, .int j] ∧ Q (.int (if j > i then j else i)) H) (f2 pMax) := by
  refine snd_f2 fun W σ m H0 H S x y d e Q rl i j k => ?_
  cases d with
  | int n =>
    cases e with
    | int l => exact ⟨n, l, by rw [is_int.mp i, is_int.mp j], kt_ok k rl (is_int.mpr rfl)⟩
    | _ => exact k.elim
  | _ => exact k.elim
def pMin : D → D → List Cel → R D := fun a b S => match a, b with
  | .int i, .int j => .ok (.int (if j < i then j else i)) S
  | _, _ => .fail
theorem snd_min {G : Gc} : SndA G (fun xs H Q => ∃ i j, xs = [.int i, .int j] ∧ Q (.int (if j < i then j else i)) H) (f2 pMin) := by
  refine snd_f2 fun W σ m H0 H S x y d e Q rl i j k => ?_
  cases d with
  | int n =>
    cases e with
    | int l => exact ⟨n, l, by rw [is_int.mp i, is_int.mp j], kt_ok k rl (is_int.mpr rfl)⟩
    | _ => exact k.elim
  | _ => exact k.elim
def pInt : D → List Cel → R D := fun d S => match d with
  | .int i => .ok (.int i) S
  | .bl b => .ok (.int (if b then 1 else 0)) S
  | _ => .fail
theorem snd_int {G : Gc} : SndA G (fun xs H Q => (∃ i, xs = [.int i] ∧ Q (.int i) H) ∨ ∃ k, xs = [.bl k] ∧ Q (.int (if k then 1 else 0)) H) (f1 pInt) := by
  refine snd_f1 fun W σ m H0 H S x d Q rl i k => ?_
  cases d with
  | int n => exact Or.inl ⟨n, by rw [is_int.mp i], kt_ok k rl (is_int.mpr rfl)⟩
  | bl b => exact Or.inr ⟨b, by rw [is_bl.mp i], kt_ok k rl (is_int.mpr rfl)⟩
  | _ => exact k.elim
def seqD (S : List Cel) : D → Option (List D)
  | .tup xs => some xs
  | d => lstD S d
theorem seqD_ok {G : Gc} {m : List Addr} {H0 H : Hp} {S : List Cel} {d : D} {v : V} {xs : List D} (r : Rl G m S H0 H) (i : Is G H0 m d v) (h : seqD S d = some xs) : ∃ a vs, v = .ref a ∧ (SqL G.K H a vs ∨ SqT G.K H a vs) ∧ IsL G H0 m xs vs := by
  have lst : lstD S d = some xs → ∃ a vs, v = .ref a ∧ (SqL G.K H a vs ∨ SqT G.K H a vs) ∧ IsL G H0 m xs vs := fun h => by
    obtain ⟨a, vs, e1, e2, e3⟩ := lstD_ok r i h
    exact ⟨a, vs, e1, Or.inl e2, e3⟩
  cases d with
  | tup ys =>
    have e : ys = xs := by simpa [seqD] using h
    subst e
    obtain ⟨a, vs, e1, e2, e3⟩ := tup_ok r i
    exact ⟨a, vs, e1, Or.inr e2, e3⟩
  | lst _ => exact lst h
  | frl _ => exact lst h
  | cell _ => exact lst h
  | non => exact lst h
  | bl _ => exact lst h
  | int _ => exact lst h
  | str _ => exact lst h
  | obj _ _ _ => exact lst h
/-- list(x): a new list; as a cell pListC -/
def pList : D → List Cel → R D := fun d S => match seqD S d with
  | some xs => .ok (.lst xs) S
  | none => .fail
def pListC : D → List Cel → R D := fun d S => match seqD S d with
  | some xs => .ok (.cell S.length) (S ++ [.lst xs])
  | none => .fail
abbrev rListOf (K : PySem.W.Frag) : RA := fun xs H Q => ∃ p ys, xs = [.ref p] ∧ (SqL K H p ys ∨ SqT K H p ys) ∧ ∀ l, H l = none → Q (.ref l) (upd H l (.lst ys))
theorem snd_list {G : Gc} : SndA G (rListOf G.K) (f1 pList) := by
  refine snd_f1 fun W σ m H0 H S x d Q rl i k => ?_
  unfold pList at k
  cases hx : seqD S d with
  | none => rw [hx] at k; exact k.elim
  | some xs =>
    rw [hx] at k
    obtain ⟨a, vs, rfl, e1, e2⟩ := seqD_ok rl i hx
    exact ⟨a, vs, rfl, e1, fun l hl => kt_lst k rl e2 hl⟩
theorem snd_listC {G : Gc} : SndA G (rListOf G.K) (f1 pListC) := by
  refine snd_f1 fun W σ m H0 H S x d Q rl i k => ?_
  unfold pListC at k
  cases hx : seqD S d with
  | none => rw [hx] at k; exact k.elim
  | some xs =>
    rw [hx] at k
    obtain ⟨a, vs, rfl, e1, e2⟩ := seqD_ok rl i hx
    exact ⟨a, vs, rfl, e1, fun l hl => kt_cell k rl e2 hl⟩
def pTuple : D → List Cel → R D := fun d S => match d with
  | .tup xs => .ok (.tup xs) S
  | d => match lstD S d with
    | some xs => .ok (.tup xs) S
    | none => .fail
theorem snd_tuple {G : Gc} : SndA G (fun xs H Q => ∃ p ys, xs = [.ref p] ∧ ((SqL G.K H p ys ∧ ∀ l, H l = none → Q (.ref l) (upd H l (.tup ys))) ∨ (SqT G.K H p ys ∧ Q (.ref p) H))) (f1 pTuple) := by
  refine snd_f1 fun W σ m H0 H S x d Q rl i k => ?_
  have lst : ∀ (k : Kt G W σ m H0 H (match lstD S d with
      | some xs => R.ok (.tup xs) S
      | none => .fail) Q), ∃ p ys, [x] = [.ref p] ∧ ((SqL G.K H p ys ∧ ∀ l, H l = none → Q (.ref l) (upd H l (.tup ys))) ∨ (SqT G.K H p ys ∧ Q (.ref p) H)) := by
    intro k
    cases hx : lstD S d with
    | none => rw [hx] at k; exact k.elim
    | some xs =>
      rw [hx] at k
      obtain ⟨a, vs, rfl, e1, e2⟩ := lstD_ok rl i hx
      exact ⟨a, vs, rfl, Or.inl ⟨e1, fun l hl => kt_tup k rl e2 hl⟩⟩
  cases d with
  | tup ys =>
    have k' : Kt G W σ m H0 H (.ok (.tup ys) S) Q := k
    obtain ⟨a, vs, rfl, e1, e2⟩ := tup_ok rl i
    exact ⟨a, vs, rfl, Or.inr ⟨e1, kt_ok k' rl i⟩⟩
  | lst _ => exact lst k
  | frl _ => exact lst k
  | cell _ => exact lst k
  | non => exact lst k
  | bl _ => exact lst k
  | int _ => exact lst k
  | str _ => exact lst k
  | obj _ _ _ => exact lst k

/-! ### repr -/
def rRepr (K : PySem.W.Frag) : RA := fun xs H Q => ∃ v p, xs = [v] ∧ Dp K H v p ∧ p.showable = true ∧ p.hasDict = false ∧ p.depth ≤ 60 ∧ p.shown.length ≤ sizeLine ∧ Q (.str p.shown) H
theorem call_reprD {X : Cx} (hgu : X.A.guards = some []) (hu : X.A.units + 64 < cLine) : CallR X (.builtin "repr") (rRepr X.K) := by
  intro pins s σ H xs us Q I r h
  obtain ⟨v, p, rfl, hd, h1, h2, h3, h4, q⟩ := h
  cases r with
  | cons rv rr =>
    rename_i u us'
    cases rr
    obtain ⟨as, hr⟩ := Dp.reads I p v u hd rv
    cases hd with
    | non => cases rv; exact PySem.P.repr_of_none ⟨.str _, H, I.tok _, ⟨_, rfl⟩, by simpa [PyData.shown] using q⟩
    | bl b => cases rv; exact PySem.P.repr_of_bool ⟨.str _, H, I.tok _, ⟨_, rfl⟩, by simpa [PyData.shown] using q⟩
    | int i =>
      obtain ⟨t, rfl⟩ := rv
      exact PySem.P.repr_of_int (by simpa [PyData.showable] using h1) ⟨.str _, H, I.tok _, ⟨_, rfl⟩, by simpa [PyData.shown] using q⟩
    | str x =>
      obtain ⟨t, rfl⟩ := rv
      exact PySem.P.repr_of_str ⟨.str _, H, I.tok _, ⟨_, rfl⟩, by simpa [PyData.shown] using q⟩ (by simpa [PyData.shown] using h4)
    | lst _ _ =>
      cases rv
      exact repr_of_reads' hr h1 (PyData.noDict_hsm h2) hgu (by omega) (fun _ _ e => e) (fun h' u tk hk => ⟨.str _, H, I.kept (t' := tk) hk, ⟨_, rfl⟩, q⟩) h4
    | tup _ _ =>
      cases rv
      exact repr_of_reads' hr h1 (PyData.noDict_hsm h2) hgu (by omega) (fun _ _ e => e) (fun h' u tk hk => ⟨.str _, H, I.kept (t' := tk) hk, ⟨_, rfl⟩, q⟩) h4
def pRepr : D → List Cel → R D := fun d S => match toPy S d with
  | some p => if (p.showable && (!p.hasDict && (decide (p.depth ≤ 60) && decide (p.shown.length ≤ sizeLine)))) = true then .ok (.str p.shown) S else .fail
  | none => .fail
theorem snd_repr {G : Gc} : SndA G (rRepr G.K) (f1 pRepr) := by
  refine snd_f1 fun W σ m H0 H S x d Q rl i k => ?_
  unfold pRepr at k
  cases hp : toPy S d with
  | none => rw [hp] at k; exact k.elim
  | some p =>
    simp only [hp] at k
    by_cases hl : (p.showable && (!p.hasDict && (decide (p.depth ≤ 60) && decide (p.shown.length ≤ sizeLine)))) = true
    · rw [if_pos hl] at k
      simp only [Bool.and_eq_true, Bool.not_eq_true', decide_eq_true_eq] at hl
      exact ⟨x, p, rfl, toPy_ok rl hp i, hl.1, hl.2.1, hl.2.2.1, hl.2.2.2, kt_ok k rl (is_str.mpr rfl)⟩
    · rw [if_neg hl] at k
      exact k.elim

/-! ### isinstance of plain data -/
def tyD : D → Option String
  | .non => some "NoneType"
  | .bl _ => some "bool"
  | .int _ => some "int"
  | .str _ => some "str"
  | .tup _ => some "tuple"
  | .lst _ => some "list"
  | _ => none
theorem tyD_ok {G : Gc} {m : List Addr} {H0 H : Hp} {S : List Cel} {d : D} {v : V} {T : String} (r : Rl G m S H0 H) (i : Is G H0 m d v) (h : tyD d = some T) : TyX G.K H v (.type T) := by
  cases d with
  | non => simp [tyD] at h; rw [is_non.mp i, ← h]; exact .base .non
  | bl b => simp [tyD] at h; rw [is_bl.mp i, ← h]; exact .base (.bl b)
  | int b => simp [tyD] at h; rw [is_int.mp i, ← h]; exact .base (.int b)
  | str b => simp [tyD] at h; rw [is_str.mp i, ← h]; exact .base (.str b)
  | tup xs =>
    simp [tyD] at h
    obtain ⟨a, vs, rfl, e1, _⟩ := tup_ok r i
    rw [← h]
    rcases e1 with (e | ⟨o, e⟩) | ⟨o, its, n, e1, e2, _⟩
    · exact .base (.tup e)
    · exact .fTuple e
    · exact .kTuple e1 e2
  | lst xs =>
    simp [tyD] at h
    obtain ⟨a, vs, rfl, e1, _⟩ := is_lst.mp i
    rw [← h]
    exact .base (.lst (r.sub _ _ e1))
  | _ => simp [tyD] at h
/-- isinstance(x, T) with a written type T: by a table of answers -/
def eIsi (tbl : String → Option Bool) (x : M) : M := eB x fun d _ S => match tyD d with
  | some T => (match tbl T with
    | some b => .ok (.bl b) S
    | none => .fail)
  | none => .fail
end Me
end
section
set_option Elab.async false
set_option linter.all false
set_option maxRecDepth 100000
namespace Me
open PySem PySem.Spec L2
open PyProof.Rows hiding St

/-! ### what is walked -/
/-- the items, and the cell that must not change meanwhile -/
structure Src where
  ds : List D
  ck : Option (Nat × List D)
def Src.ok (s : Src) (S : List Cel) : Prop := match s.ck with
  | none => True
  | some (k, xs) => S[k]? = some (.lst xs)
abbrev MSrc := Rho → List Cel → R Src
/-- J draws the items of s, wherever the heap has grown from H0b -/
def WalkD (G : Gc) (J : It) (H0b : Hp) (mb : List Addr) (s : Src) : Prop :=
  ∀ (S : List Cel) (m : List Addr) (H0 H : Hp) (i : Nat), Same H0b H0 → mb <+: m → Rl G m S H0 H → s.ok S →
    (∀ d, s.ds[i]? = some d → J.go i H ∧ ∀ x H', J.yld i H x H' → ∃ H0', Ext m H0 H m H0' H' ∧ Rl G m S H0' H' ∧ Is G H0' m d x) ∧ (s.ds.length = i → J.stop i H)
def KtI (G : Gc) (W : WX) (σ : L2.St) (m : List Addr) (H0 H : Hp) (r : R Src) (Q : It → Hp → Prop) : Prop :=
  match r with
  | .fail => False
  | .ok s S => ∀ J m' H0' H', Ext m H0 H m' H0' H' → Rl G m' S H0' H' → WalkD G J H0' m' s → Q J H'
  | .exc e S => ∀ cls dd m' H0' H', Ext m H0 H m' H0' H' → Rl G m' S H0' H' → ExIs G H0' m' H' e cls dd → W cls dd σ H'
def tMI (G : Gc) (W : WX) (x : MSrc) : TI := fun σ H Q => ∃ r S m H0, EnvR G H0 m r σ ∧ Rl G m S H0 H ∧ KtI G W σ m H0 H (x r S) Q
def MI (X : Cx) (W : WX) (tg iter : Expr) (x : MSrc) : Prop := PI X tg iter (tMI (gX X) W x)
theorem pi_imp {X : Cx} {tg iter : Expr} {t t' : TI} (h : PI X tg iter t) (w : ∀ σ H Q, t' σ H Q → t σ H Q) : PI X tg iter t' := ⟨fun pins s σ H Q I q => h.run pins s σ H Q I (w σ H Q q)⟩

def srcD (S : List Cel) : D → Option Src
  | .lst xs => some ⟨xs, none⟩
  | .frl xs => some ⟨xs, none⟩
  | .cell k => (match S[k]? with
    | some (.lst xs) => some ⟨xs, some (k, xs)⟩
    | _ => none)
  | _ => none
section
variable {X : Cx} {W : WX} {G : Gc} {tg : Expr}
theorem tmi_b {x : M} {f : D → List Cel → R Src} {σ : L2.St} {H : Hp} {Q : It → Hp → Prop} (h : tMI G W (fun r S => (x r S).bind fun d S1 => f d S1) σ H Q) :
    tM G W x σ H fun v H1 => ∃ d S m H0, Rl G m S H0 H1 ∧ Is G H0 m d v ∧ KtI G W σ m H0 H1 (f d S) Q := by
  obtain ⟨r, S, m, H0, he, hr, hk⟩ := h
  refine ⟨r, S, m, H0, he, hr, ?_⟩
  cases hx : x r S with
  | fail => simp only [hx] at hk; exact hk
  | exc ex S1 => simp only [hx] at hk; exact hk
  | ok d S1 =>
    simp only [hx] at hk
    intro v m' H0' H' ex rl i
    refine ⟨d, S1, m', H0', rl, i, ?_⟩
    have hk' : KtI G W σ m H0 H (f d S1) Q := hk
    cases hf : f d S1 with
    | fail => rw [hf] at hk'; exact hk'
    | exc e2 S2 => rw [hf] at hk'; exact fun c dd m2 H02 H2 x2 => hk' c dd m2 H02 H2 (ex.trans x2)
    | ok s S2 => rw [hf] at hk'; exact fun J m2 H02 H2 x2 => hk' J m2 H02 H2 (ex.trans x2)
/-- for .. in a list -/
def iLst (x : M) : MSrc := fun r S => (x r S).bind fun d S1 => match srcD S1 d with
  | some s => .ok s S1
  | none => .fail
theorem walk_lst {a : Addr} {H0b : Hp} {mb : List Addr} {s : Src}
    (h : ∀ (S : List Cel) (m : List Addr) (H0 H : Hp), Same H0b H0 → mb <+: m → Rl G m S H0 H → s.ok S → ∃ vs, SqL G.K H a vs ∧ IsL G H0 m s.ds vs) : WalkD G (Itl G.K a) H0b mb s := by
  intro S m H0 H i s0 p0 r hs
  obtain ⟨vs, e1, e2⟩ := h S m H0 H s0 p0 r hs
  refine ⟨fun d hd => ?_, fun hl => ⟨vs, e1, by rw [← e2.len]; exact Nat.le_of_eq hl⟩⟩
  obtain ⟨v, h1, h2⟩ := e2.get hd
  refine ⟨⟨vs, v, e1, h1⟩, ?_⟩
  rintro x H' ⟨rfl, hx⟩
  have q := hx vs e1
  rw [h1] at q
  cases q
  exact ⟨H0, Ext.refl _ _ _, r, h2⟩
theorem walk_tup {a : Addr} {H0b : Hp} {mb : List Addr} {s : Src}
    (h : ∀ (S : List Cel) (m : List Addr) (H0 H : Hp), Same H0b H0 → mb <+: m → Rl G m S H0 H → s.ok S → ∃ vs, SqT G.K H a vs ∧ IsL G H0 m s.ds vs) : WalkD G (Itt G.K a) H0b mb s := by
  intro S m H0 H i s0 p0 r hs
  obtain ⟨vs, e1, e2⟩ := h S m H0 H s0 p0 r hs
  refine ⟨fun d hd => ?_, fun hl => ⟨vs, e1, by rw [← e2.len]; exact Nat.le_of_eq hl⟩⟩
  obtain ⟨v, h1, h2⟩ := e2.get hd
  refine ⟨⟨vs, v, e1, h1⟩, ?_⟩
  rintro x H' ⟨rfl, hx⟩
  have q := hx vs e1
  rw [h1] at q
  cases q
  exact ⟨H0, Ext.refl _ _ _, r, h2⟩
/-- a list or a tuple is walked -/
def iSeqV (K : PySem.W.Frag) (tl : TE) : TI := fun σ H R => tl σ H fun x H1 => (∃ a, x = .ref a ∧ (∃ xs, SqL K H1 a xs) ∧ R (Itl K a) H1) ∨ ∃ a, x = .ref a ∧ (∃ xs, SqT K H1 a xs) ∧ R (Itt K a) H1
theorem pi_seqV {l : Expr} {tl : TE} (hl : PE X l tl) : PI X tg l (iSeqV X.K tl) := by
  constructor
  intro pins s σ H R I h
  refine thn (hl.run pins s σ H _ I h) ?_
  rintro v s1 ⟨x, H1, I1, r1, q1⟩
  rcases q1 with ⟨a, rfl, ⟨xs, hq⟩, q⟩ | ⟨a, rfl, ⟨xs, hq⟩, q⟩
  · cases r1
    obtain ⟨its, rv, p, hz⟩ := I1.list hq
    refine wpAny_pyIter_list p.isList ⟨s1.heap.objs.size, [s1.heap.objs.size], _, _, H1, rfl, I1.kept (t' := s1.toks) fun b o e => Heap.get?_push_of_some _ e, turn_list a _, ⟨_, Heap.get?_push_size _ rfl, rfl, rfl⟩, ?_, q⟩
    intro b hb
    obtain rfl : b = s1.heap.objs.size := by simpa using hb
    exact I1.fpOk (Nat.le_refl _) (I1.hok.fresh (Nat.le_refl _))
  · cases r1
    obtain ⟨its, rv, p, hz⟩ := I1.tuple hq
    refine wpAny_pyIter_tuple (show s1.heap.IsTuple a its.toArray from p) ⟨s1.heap.objs.size, [s1.heap.objs.size], _, _, H1, rfl, I1.kept (t' := s1.toks) fun b o e => Heap.get?_push_of_some _ e, turn_tuple a _, ⟨_, Heap.get?_push_size _ rfl, rfl, rfl⟩, ?_, q⟩
    intro b hb
    obtain rfl : b = s1.heap.objs.size := by simpa using hb
    exact I1.fpOk (Nat.le_refl _) (I1.hok.fresh (Nat.le_refl _))
/-- for .. in a list or a tuple -/
def iSeq (x : M) : MSrc := fun r S => (x r S).bind fun d S1 => match d with
  | .tup xs => .ok ⟨xs, none⟩ S1
  | d => match srcD S1 d with
    | some s => .ok s S1
    | none => .fail
theorem mi_seq {e : Expr} {x : M} (h : ME X W e x) : MI X W tg e (iSeq x) := by
  refine pi_imp (pi_seqV h) fun σ H Q hq => ?_
  refine tm_mono (tmi_b (f := fun d S1 => match d with
    | .tup xs => .ok ⟨xs, none⟩ S1
    | d => match srcD S1 d with
      | some s => .ok s S1
      | none => .fail) hq) ?_
  rintro v H1 ⟨d, S, m, H0, rl, i, k⟩
  have lst : ∀ (k : KtI (gX X) W σ m H0 H1 (match srcD S d with
      | some s => R.ok s S
      | none => .fail) Q), (∃ a, v = .ref a ∧ (∃ xs, SqL X.K H1 a xs) ∧ Q (Itl X.K a) H1) := by
    intro k
    cases hs : srcD S d with
    | none => rw [hs] at k; exact k.elim
    | some s =>
      rw [hs] at k
      cases d with
      | lst xs =>
        simp only [srcD, Option.some.injEq] at hs
        subst hs
        obtain ⟨a, vs, rfl, e1, e2⟩ := is_lst.mp i
        exact ⟨a, rfl, ⟨vs, SqL.of (rl.sub _ _ e1)⟩, k _ m H0 H1 (Ext.refl _ _ _) rl (walk_lst (G := gX X) fun S' m' H0' H' s0 p0 r' _ => ⟨vs, SqL.of (r'.sub _ _ (s0 _ _ e1)), IsL.mono s0 p0 _ _ e2⟩)⟩
      | frl xs =>
        simp only [srcD, Option.some.injEq] at hs
        subst hs
        obtain ⟨a, vs, rfl, e1, e2⟩ := is_frl.mp i
        exact ⟨a, rfl, ⟨vs, rl.sub.seq e1⟩, k _ m H0 H1 (Ext.refl _ _ _) rl (walk_lst (G := gX X) fun S' m' H0' H' s0 p0 r' _ => ⟨vs, r'.sub.seq (s0.seq e1), IsL.mono s0 p0 _ _ e2⟩)⟩
      | cell j =>
        obtain ⟨a, rfl, hm⟩ := is_cell.mp i
        simp only [srcD] at hs
        cases hj : S[j]? with
        | none => simp [hj] at hs
        | some c =>
          cases c with
          | lst xs =>
            simp only [hj, Option.some.injEq] at hs
            subst hs
            obtain ⟨vs, e1, e2⟩ := rl.cel hj hm
            exact ⟨a, rfl, ⟨vs, SqL.of e1⟩, k _ m H0 H1 (Ext.refl _ _ _) rl (walk_lst (G := gX X) fun S' m' H0' H' s0 p0 r' ok => by
              obtain ⟨ws, f1, f2⟩ := r'.cel (show S'[j]? = some (.lst xs) from ok) (pre_get p0 hm)
              exact ⟨ws, SqL.of f1, f2⟩)⟩
          | _ => simp [hj] at hs
      | _ => simp [srcD] at hs
  cases d with
  | tup xs =>
    have k' : KtI (gX X) W σ m H0 H1 (.ok ⟨xs, none⟩ S) Q := k
    obtain ⟨a, vs, rfl, e1, e2⟩ := is_tup.mp i
    exact Or.inr ⟨a, rfl, ⟨vs, seqT_same rl.sub e1⟩, k' _ m H0 H1 (Ext.refl _ _ _) rl (walk_tup (G := gX X) fun S' m' H0' H' s0 p0 r' _ => ⟨vs, seqT_same r'.sub (seqT_same s0 e1), IsL.mono s0 p0 _ _ e2⟩)⟩
  | lst _ => exact Or.inl (lst k)
  | frl _ => exact Or.inl (lst k)
  | cell _ => exact Or.inl (lst k)
  | non => exact Or.inl (lst k)
  | bl _ => exact Or.inl (lst k)
  | int _ => exact Or.inl (lst k)
  | str _ => exact Or.inl (lst k)
  | obj _ _ _ => exact Or.inl (lst k)
/-- range(n), range(a, b) -/
def rngL (lo : Int) (n : Nat) : List D := (List.range n).map fun i : Nat => D.int (lo + (i : Int))
theorem walk_rng {lo : Int} {n : Nat} {H0b : Hp} {mb : List Addr} : WalkD G (Itr lo n) H0b mb ⟨rngL lo n, none⟩ := by
  intro S m H0 H i s0 p0 r hs
  refine ⟨fun d hd => ?_, fun hl => by
    have e : (rngL lo n).length = n := by unfold rngL; rw [List.length_map, List.length_range]
    have hl := e.symm.trans hl
    exact Nat.le_of_eq hl⟩
  have hi : i < n := by
    have := (List.getElem?_eq_some_iff.mp hd).1
    simpa [rngL] using this
  have e : d = D.int (lo + (i : Int)) := by
    simp only [rngL, List.getElem?_map, List.getElem?_range hi, Option.map_some, Option.some.injEq] at hd
    exact hd.symm
  subst e
  refine ⟨hi, ?_⟩
  rintro x H' ⟨rfl, rfl⟩
  exact ⟨H0, Ext.refl _ _ _, r, is_int.mpr rfl⟩
/-- the numbers that range takes here (not to be counted out) -/
def Small (j : Int) : Prop := -(2 ^ 62) ≤ j ∧ j < 2 ^ 62
open Classical in
noncomputable def iRng1 (x : M) : MSrc := fun r S => (x r S).bind fun d S1 => match d with
  | .int j => if Small j then .ok ⟨rngL 0 j.toNat, none⟩ S1 else .fail
  | _ => .fail
open Classical in
theorem mi_rng1 {a : Expr} {x : M} {p pos : Pos} (hg : Gl X "range") (hm : X.mg "range" = none) (ha : ME X W a x) (hs : starEach [a] X.env = (false, eval a X.env) :: starEach [] X.env := by rfl) (hs' : starEach [a] X.env = [(false, eval a X.env)] := by rfl) : MI X W tg (.Call (.Name "range" p) [a] [] pos) (iRng1 x) := by
  refine pi_imp (pi_range1 hg hm (pa_cons ha pa_nil hs) hs') fun σ H Q hq => ?_
  refine tm_mono (tmi_b (f := fun d S1 => match d with
    | .int j => if Small j then .ok ⟨rngL 0 j.toNat, none⟩ S1 else .fail
    | _ => .fail) hq) ?_
  rintro v H1 ⟨d, S, m, H0, rl, i, k⟩
  cases d with
  | int j =>
    have k' : KtI (gX X) W σ m H0 H1 (if Small j then .ok ⟨rngL 0 j.toNat, none⟩ S else .fail) Q := k
    by_cases hj : Small j
    · rw [if_pos hj] at k'
      exact ⟨j, by rw [is_int.mp i], hj.1, hj.2, k' _ m H0 H1 (Ext.refl _ _ _) rl walk_rng⟩
    · rw [if_neg hj] at k'
      exact k'.elim
  | _ => exact k.elim
end
end Me
end
section
set_option Elab.async false
set_option linter.all false
set_option maxRecDepth 100000
namespace Me
open PySem PySem.Spec L2
open PyProof.Rows hiding St

/-! ### targets -/
abbrev GD := D → Rho → Option Rho
abbrev GDs := List D → Rho → Option Rho
/-- σ' is σ but at is -/
def Beyond (is : List Nat) (σ σ' : L2.St) : Prop := σ'.length = σ.length ∧ ∀ i, i ∉ is → σ'[i]? = σ[i]?
theorem Beyond.refl {is : List Nat} {σ : L2.St} : Beyond is σ σ := ⟨rfl, fun _ _ => rfl⟩
theorem Beyond.set {i : Nat} {is : List Nat} {σ : L2.St} {v : Option V} (h : i ∈ is) : Beyond is σ (σ.set i v) := by
  refine ⟨by rw [List.length_set], fun j hj => ?_⟩
  exact List.getElem?_set_ne (fun e : i = j => hj (e ▸ h))
theorem Beyond.trans {is : List Nat} {σ σ1 σ2 : L2.St} (a : Beyond is σ σ1) (b : Beyond is σ1 σ2) : Beyond is σ σ2 :=
  ⟨b.1.trans a.1, fun j hj => (b.2 j hj).trans (a.2 j hj)⟩
def tG (G : Gc) (is : List Nat) (g : GD) : TG := fun v σ H Q => ∃ d r S m H0 r', EnvR G H0 m r σ ∧ Rl G m S H0 H ∧ Is G H0 m d v ∧ g d r = some r' ∧ ∀ σ', EnvR G H0 m r' σ' → Beyond is σ σ' → Q σ' H
def tGs (G : Gc) (is : List Nat) (g : GDs) : TGs := fun vs σ H Q => ∃ ds r S m H0 r', EnvR G H0 m r σ ∧ Rl G m S H0 H ∧ IsL G H0 m ds vs ∧ g ds r = some r' ∧ ∀ σ', EnvR G H0 m r' σ' → Beyond is σ σ' → Q σ' H
def MG (X : Cx) (is : List Nat) (tg : Expr) (g : GD) : Prop := PG X tg (tG (gX X) is g)
def MGs (X : Cx) (is : List Nat) (tgs : List Expr) (g : GDs) : Prop := PGs X tgs (tGs (gX X) is g)
theorem pg_imp {X : Cx} {tg : Expr} {t t' : TG} (h : PG X tg t) (w : ∀ v σ H Q, t' v σ H Q → t v σ H Q) : PG X tg t' := ⟨fun pins s σ H v u Q I r q => h.run pins s σ H v u Q I r (w v σ H Q q)⟩
theorem pgs_imp {X : Cx} {tg : List Expr} {t t' : TGs} (h : PGs X tg t) (w : ∀ v σ H Q, t' v σ H Q → t v σ H Q) : PGs X tg t' := ⟨fun pins s σ H v u Q I r q => h.run pins s σ H v u Q I r (w v σ H Q q)⟩
def gN (i : Nat) : GD := fun d r => some (r.set i (some d))
def gT (n : Nat) (g : GDs) : GD := fun d r => match d with
  | .tup ds => if ds.length = n then g ds r else none
  | _ => none
def gZ : GDs := fun ds r => match ds with
  | [] => some r
  | _ => none
def gK (g : GD) (h : GDs) : GDs := fun ds r => match ds with
  | d :: ds => (match g d r with
    | some r1 => h ds r1
    | none => none)
  | [] => none
section
variable {X : Cx} {is : List Nat}
theorem mg_name (i : Nat) {x : Str} {pos : Pos} (hN : X.N.Nodup) (hi : X.N[i]? = some x := by rfl) (hx : Loc X.env.scope x := by first | exact Or.inl rfl | exact Or.inr rfl) (hm : i ∈ is := by decide)
    (hf : X.fn x = true ∨ X.env.scope.names.lookup x = some .local := by first | exact .inl rfl | exact .inr rfl) : MG X is (.Name x pos) (gN i) :=
  pg_imp (pg_name hN hi hx hf) fun v σ H Q ⟨d, r, S, m, H0, r', he, hr, i, hg, k⟩ => by
    cases hg
    exact k _ (he.put _ i) (Beyond.set hm)
theorem mgs_nil : MGs X is [] gZ :=
  pgs_imp pgs_nil fun vs σ H Q ⟨ds, r, S, m, H0, r', he, hr, i, hg, k⟩ => by
    cases ds with
    | nil =>
      cases hg
      exact ⟨isl_nil.mp i, k _ he Beyond.refl⟩
    | cons _ _ => cases hg
theorem mgs_cons {e : Expr} {es : List Expr} {g : GD} {gs : GDs} (h1 : MG X is e g) (h2 : MGs X is es gs)
    (hs : (assignEach (e :: es) X.env).map (·.2) = assign e X.env :: (assignEach es X.env).map (·.2) := by rfl) : MGs X is (e :: es) (gK g gs) :=
  pgs_imp (pgs_cons h1 h2 hs) fun vs σ H Q ⟨ds, r, S, m, H0, r', he, hr, i, hg, k⟩ => by
    cases ds with
    | nil => cases hg
    | cons d ds =>
      obtain ⟨v, w, e, i1, i2⟩ := isl_cons.mp i
      simp only [gK] at hg
      cases hq : g d r with
      | none => rw [hq] at hg; cases hg
      | some r1 =>
        rw [hq] at hg
        exact ⟨v, w, e, d, r, S, m, H0, r1, he, hr, i1, hq, fun σ1 e1 b1 => ⟨ds, r1, S, m, H0, r', e1, hr, i2, hg, fun σ2 e2 b2 => k σ2 e2 (b1.trans b2)⟩⟩
theorem mg_tup {es : List Expr} {kk : Nat} {pos : Pos} {g : GDs} {n : Nat} (hc : X.calm = true) (h : MGs X is es g)
    (hn : (assignEach es X.env).length = n := by rfl) (hst : (assignEach es X.env).findIdx? (·.1) = none := by rfl) : MG X is (.Tuple es kk pos) (gT n g) :=
  pg_imp (pg_tup hc h hn hst) fun v σ H Q ⟨d, r, S, m, H0, r', he, hr, i, hg, k⟩ => by
    cases d with
    | tup ds =>
      simp only [gT] at hg
      by_cases hl : ds.length = n
      · rw [if_pos hl] at hg
        obtain ⟨a, vs, e1, e2, e3⟩ := tup_ok hr i
        exact ⟨a, vs, e1, e2, by rw [← e3.len]; exact hl, ds, r, S, m, H0, r', he, hr, e3, hg, k⟩
      · rw [if_neg hl] at hg
        cases hg
    | _ => cases hg
end

/-! ### for -/
open Classical in
noncomputable def loopD (g : GD) (b : MS) (s : Src) : List D → Rho → List Cel → SR
  | [], r, S => .nx r S
  | d :: ds, r, S => match g d r with
    | none => .fail
    | some r1 => match b r1 S with
      | .nx r2 S2 => if s.ok S2 then loopD g b s ds r2 S2 else .fail
      | .ct r2 S2 => if s.ok S2 then loopD g b s ds r2 S2 else .fail
      | .bk r2 S2 => .nx r2 S2
      | .rt d S2 => .rt d S2
      | .exc e r2 S2 => .exc e r2 S2
      | .fail => .fail
open Classical in
noncomputable def sFor (x : MSrc) (g : GD) (b : MS) : MS := fun r S => match x r S with
  | .fail => .fail
  | .exc e S1 => .exc e r S1
  | .ok s S1 => if s.ok S1 then loopD g b s s.ds r S1 else .fail
section
variable {X : Cx} {W : WX} {G : Gc} {is : List Nat}
theorem tfor_ok {x : MSrc} {g : GD} {b : MS} {E : Ends} {σ : L2.St} {H : Hp} (h : tMS G W (sFor x g b) E σ H) : tFor (tMI G W x) (tG G is g) (tMS G W b) E σ H := by
  obtain ⟨r, S, m, H0, he, hr, hk⟩ := h
  refine ⟨r, S, m, H0, he, hr, ?_⟩
  unfold sFor at hk
  cases hx : x r S with
  | fail => rw [hx] at hk; exact hk
  | exc e S1 => rw [hx] at hk; exact fun c dd m' H0' H' ex rl i => hk c dd σ m' H0' H' ex rl (he.mono ex.imm ex.pre) i
  | ok s S1 =>
    rw [hx] at hk
    intro J mb H0b Hb ex rl wk
    by_cases hok : s.ok S1
    · simp only [if_pos hok] at hk
      have hk1 := KtS.later ex hk
      clear hk
      refine ⟨fun i n σ H => n = s.ds.length - i ∧ i ≤ s.ds.length ∧ ∃ r S m H0, Same H0b H0 ∧ mb <+: m ∧ EnvR G H0 m r σ ∧ Rl G m S H0 H ∧ s.ok S ∧ KtS G W m H0 H (loopD g b s (s.ds.drop i) r S) E,
        ⟨s.ds.length, by simp, Nat.zero_le _, r, S1, mb, H0b, Same.refl _, List.prefix_refl _, he.mono ex.imm ex.pre, rl, hok, hk1⟩, ?_⟩
      rintro i n σ H ⟨rfl, hi, r, S, m, H0, s0, p0, he, hr, ok, hk⟩
      have wki := wk S m H0 H i s0 p0 hr ok
      by_cases hlt : i < s.ds.length
      · right
        obtain ⟨go, yl⟩ := wki.1 s.ds[i] (by simp [hlt])
        refine ⟨go, fun σ H => s.ds.length - (i + 1) = s.ds.length - (i + 1) ∧ i + 1 ≤ s.ds.length ∧ ∃ r S m H0, Same H0b H0 ∧ mb <+: m ∧ EnvR G H0 m r σ ∧ Rl G m S H0 H ∧ s.ok S ∧ KtS G W m H0 H (loopD g b s (s.ds.drop (i + 1)) r S) E,
          fun σ' H' q => ⟨_, by omega, q⟩, fun v H' y => ?_⟩
        obtain ⟨H0', e1, r1, i1⟩ := yl v H' y
        rw [List.drop_eq_getElem_cons hlt] at hk
        have hk2 := KtS.later e1 hk
        unfold loopD at hk2
        cases hg : g s.ds[i] r with
        | none => rw [hg] at hk2; exact hk2.elim
        | some r' =>
          simp only [hg] at hk2
          refine ⟨s.ds[i], r, S, m, H0', r', he.mono e1.imm e1.pre, r1, i1, hg, fun σ' he' _ => ⟨r', S, m, H0', he', r1, ?_⟩⟩
          cases hb : b r' S with
          | fail => rw [hb] at hk2; exact hk2
          | rt d S2 => rw [hb] at hk2; exact hk2
          | bk r2 S2 => rw [hb] at hk2; exact hk2
          | exc e r2 S2 => rw [hb] at hk2; exact hk2
          | nx r2 S2 =>
            simp only [hb] at hk2
            by_cases ok2 : s.ok S2
            · rw [if_pos ok2] at hk2
              exact fun σ2 m2 H02 H2 e2 rl2 he2 => ⟨rfl, hlt, r2, S2, m2, H02, s0.trans (e1.imm.trans e2.imm), p0.trans e2.pre, he2, rl2, ok2, KtS.later e2 hk2⟩
            · rw [if_neg ok2] at hk2; exact hk2.elim
          | ct r2 S2 =>
            simp only [hb] at hk2
            by_cases ok2 : s.ok S2
            · rw [if_pos ok2] at hk2
              exact fun σ2 m2 H02 H2 e2 rl2 he2 => ⟨rfl, hlt, r2, S2, m2, H02, s0.trans (e1.imm.trans e2.imm), p0.trans e2.pre, he2, rl2, ok2, KtS.later e2 hk2⟩
            · rw [if_neg ok2] at hk2; exact hk2.elim
      · left
        have e : i = s.ds.length := by omega
        subst e
        rw [List.drop_length] at hk
        exact ⟨wki.2 rfl, hk σ m H0 H (Ext.refl _ _ _) hr he⟩
    · simp only [if_neg hok] at hk
      exact hk.elim
theorem mp_for {tg iter : Expr} {body : List Stmt} {x : MSrc} {g : GD} {b : MS} {pos : Pos} (hp : PassesOwn (model X.prog X.w) X.A X.env X.xe) (hc : X.calm = true) (hi : MI X W tg iter x) (hg : MG X is tg g) (hb : MPs X W body b)
    (hs : ∀ x, foldedSetIterable iter X.env x = pure x := by intro _; rfl) : MP X W (.For tg iter body [] pos) (sFor x g b) :=
  ps_imp (ps_for hp hc hi hg hb hs) fun _ _ _ h => tfor_ok h
end
end Me
end
section
set_option Elab.async false
set_option linter.all false
set_option maxRecDepth 100000
namespace Me
open PySem PySem.Spec L2
open PyProof.Rows hiding St

/-! ### an object that stands beside all that is told -/
section
variable {G : Gc} {m m1 : List Addr} {S : List Cel} {H0 H H01 H1 : Hp} {p : Addr} {o : HO}
structure Apart (m : List Addr) (H0 H : Hp) (p : Addr) (o : HO) : Prop where
  at_ : H p = some o
  nm : p ∉ m
  n0 : H0 p = none
theorem Apart.later (a : Apart m H0 H p o) (e : Ext m H0 H m1 H01 H1) : Apart m1 H01 H1 p o where
  at_ := e.keep p o a.at_ a.nm
  nm := fun z => by
    rcases e.new p z with q | q
    · exact a.nm q
    · rw [a.at_] at q
      cases q
  n0 := by
    cases q : H01 p with
    | none => rfl
    | some u =>
      rcases e.fr p u q with z | z | z
      · rw [a.n0] at z
        cases z
      · rw [a.at_] at z
        cases z
      · exact absurd z a.nm
theorem Apart.put {o' : HO} (a : Apart m H0 H p o) : Apart m H0 (upd H p o') p o' := ⟨upd_same, a.nm, a.n0⟩
theorem Apart.new (r : Rl G m S H0 H) (hp : H p = none) : Apart m H0 (upd H p o) p o := ⟨upd_same, not_mem_new r hp, by
  cases q : H0 p with
  | none => rfl
  | some u =>
    have z := r.sub _ _ q
    rw [hp] at z
    cases z⟩
theorem Rl.other {o' : HO} (r : Rl G m S H0 H) (nm : p ∉ m) (n0 : H0 p = none) : Rl G m S H0 (upd H p o') where
  sub := fun b u h => by
    rw [upd_ne (ne_of_none h n0)]
    exact r.sub _ _ h
  len := r.len
  nd := r.nd
  at_ := fun k c a h1 h2 => by
    have hne : a ≠ p := fun e => nm (e ▸ List.mem_of_getElem? h2)
    have h := r.at_ k c a h1 h2
    cases c with
    | lst ds =>
      obtain ⟨vs, e1, e2⟩ := h
      exact ⟨vs, by rw [upd_ne hne]; exact e1, e2⟩
    | ins c ns ds =>
      obtain ⟨C, dx, fs, e1, e2, e3, e4⟩ := h
      exact ⟨C, dx, fs, e1, by rw [upd_ne hne]; exact e2, e3, e4⟩
    | dead => trivial
  out := r.out
  trk := fun a ha => by
    have hne : a ≠ p := fun e => nm (e ▸ ha)
    obtain ⟨u, h⟩ := r.trk a ha
    exact ⟨u, by rw [upd_ne hne]; exact h⟩
theorem Ext.other (e : Ext m H0 H m1 H01 H1) (hp : H p = none) : Ext m H0 H m1 H01 (upd H1 p o) where
  imm := e.imm
  pre := e.pre
  keep := fun a u h n => by
    rw [upd_ne (ne_of_none h hp)]
    exact e.keep a u h n
  new := e.new
  fr := e.fr
theorem Ext.otherX (e : Ext m H0 H m1 H01 H1) (n0 : H01 p = none) (hp : H p = none) : Ext m H0 H m1 (upd H01 p o) H1 where
  imm := fun a u h => by
    rw [upd_ne (ne_of_none (e.imm _ _ h) n0)]
    exact e.imm _ _ h
  pre := e.pre
  keep := e.keep
  new := e.new
  fr := fun a u h => by
    by_cases q : a = p
    · exact Or.inr (Or.inl (by rw [q]; exact hp))
    · rw [upd_ne q] at h
      exact e.fr a u h
theorem Rl.otherX (r : Rl G m S H0 H) (a : Apart m H0 H p o) : Rl G m S (upd H0 p o) H where
  sub := fun b u h => by
    by_cases q : b = p
    · subst q
      rw [upd_same] at h
      cases h
      exact a.at_
    · rw [upd_ne q] at h
      exact r.sub _ _ h
  len := r.len
  nd := r.nd
  at_ := fun k c b h1 h2 => (r.at_ k c b h1 h2).mono (fun x u h => by rw [upd_ne (ne_of_none h a.n0)]; exact h) (List.prefix_refl _) fun _ q => q
  out := fun k c b h1 h2 hl => by
    have hne : b ≠ p := fun e => a.nm (e ▸ List.mem_of_getElem? h2)
    rw [upd_ne hne]
    exact r.out k c b h1 h2 hl
  trk := r.trk
end

/-! ### names put away -/
def wipeD (r : Rho) : List Nat → Rho
  | [] => r
  | v :: vs => (wipeD r vs).set v none
theorem EnvR.wiped {G : Gc} {H0 : Hp} {m : List Addr} {r : Rho} {σ : L2.St} (h : EnvR G H0 m r σ) : ∀ vs : List Nat, EnvR G H0 m (wipeD r vs) (wipe σ vs)
  | [] => h
  | v :: vs => by
    have ih := EnvR.wiped h vs
    refine ⟨by unfold wipeD wipe; rw [List.length_set, List.length_set]; exact ih.1, fun i d q => ?_⟩
    unfold wipeD at q
    by_cases e : v = i
    · subst e
      rw [List.getElem?_set] at q
      rw [if_pos rfl] at q
      split at q
      · cases q
      · cases q
    · rw [List.getElem?_set_ne e] at q
      unfold wipe
      rw [List.getElem?_set_ne e]
      exact ih.2 i d q
theorem wipe_in {σ : L2.St} {i : Nat} : ∀ {vs : List Nat}, i ∈ vs → i < σ.length → (wipe σ vs)[i]? = some none
  | [], h, _ => by cases h
  | v :: vs, h, hl => by
    unfold wipe
    by_cases e : v = i
    · subst e
      rw [List.getElem?_set, if_pos rfl, if_pos (by rw [wipe_length]; exact hl)]
    · rw [List.getElem?_set_ne e]
      rcases List.mem_cons.mp h with q | q
      · exact absurd q.symm e
      · exact wipe_in q hl
theorem wipe_beyond {σ σ' : L2.St} {is vs : List Nat} (b : Beyond is (wipe σ vs) σ') (h : ∀ i ∈ is, i ∈ vs) : wipe σ' vs = wipe σ vs := by
  apply List.ext_getElem?
  intro i
  have hl : σ'.length = σ.length := by rw [b.1, wipe_length]
  by_cases e : i ∈ vs
  · by_cases l : i < σ.length
    · rw [wipe_in e l, wipe_in e (by rw [hl]; exact l)]
    · rw [List.getElem?_eq_none (by rw [wipe_length]; omega), List.getElem?_eq_none (by rw [wipe_length]; omega)]
  · rw [wipe_out e, wipe_out e, b.2 i (fun q => e (h i q)), wipe_out e]
/-- the same within: names put away within names put away -/
theorem wipe_beyond1 {σ σ' : L2.St} {is vs : List Nat} (b : Beyond is (wipe σ vs) σ') (h : ∀ i ∈ is, i ∈ vs) : wipe σ' vs = wipe σ vs := wipe_beyond b h

/-! ### [e for tg in x if t] -/
open Classical in
noncomputable def lcL (g : GD) (t : MB) (e : M) (s : Src) (r : Rho) : List D → List D → List Cel → R (List D)
  | [], acc, S => .ok acc S
  | d :: ds, acc, S => match g d r with
    | none => .fail
    | some r1 => match t r1 S with
      | .ok true S1 => (match e r1 S1 with
        | .ok y S2 => if s.ok S2 ∧ acc.length < sizeLine then lcL g t e s r ds (acc ++ [y]) S2 else .fail
        | _ => .fail)
      | .ok false S1 => if s.ok S1 then lcL g t e s r ds acc S1 else .fail
      | _ => .fail
def W0 : WX := fun _ _ _ _ => False
def bYes : MB := fun _ S => .ok true S
def MTs (X : Cx) (W : WX) (ifs : List Expr) (t : MB) : Prop := PTs X ifs (tMB (gX X) W t)
theorem pts_imp {X : Cx} {ifs : List Expr} {t t' : TT} (h : PTs X ifs t) (w : ∀ σ H Q, t' σ H Q → t σ H Q) : PTs X ifs t' := ⟨fun pins s σ H Q I q => h.run pins s σ H Q I (w σ H Q q)⟩
theorem mts_nil {X : Cx} {W : WX} : MTs X W [] bYes := pts_imp pts_nil fun σ H Q ⟨r, S, m, H0, he, hr, hk⟩ => hk m H0 H (Ext.refl _ _ _) hr
theorem mts_one {X : Cx} {W : WX} {c : Expr} {t : MB} (h : MT X W c t) : MTs X W [c] t := pts_one h
/-- the list is told, or will be changed -/
def asLst (ds : List D) (S : List Cel) : R D := .ok (.lst ds) S
def asCel (ds : List D) (S : List Cel) : R D := .ok (.cell S.length) (S ++ [.lst ds])
def SndL (as : List D → List Cel → R D) : Prop := ∀ {G : Gc} {W : WX} {σ : L2.St} {m mb : List Addr} {H0 H H0b Hb : Hp} {S : List Cel} {p : Addr} {ds : List D} {vs : List V} {Q : VK}, Kt G W σ mb H0b Hb (as ds S) Q → Hb p = none → Ext mb H0b Hb m H0 H → Rl G m S H0 H → Apart m H0 H p (.lst vs) → IsL G H0 m ds vs → Q (.ref p) H
theorem snd_asLst : SndL asLst := by
  intro G W σ m mb H0 H H0b Hb S p ds vs Q k hp e r a i
  exact k (.ref p) m (upd H0 p (.lst vs)) H (e.otherX a.n0 hp) (r.otherX a) (is_lst.mpr ⟨p, vs, rfl, upd_same, IsL.mono (fun x u h => by rw [upd_ne (ne_of_none h a.n0)]; exact h) (List.prefix_refl _) _ _ i⟩)
theorem snd_asCel : SndL asCel := by
  intro G W σ m mb H0 H H0b Hb S p ds vs Q k hp e r a i
  refine k (.ref p) (m ++ [p]) H0 H ⟨e.imm, e.pre.trans (List.prefix_append _ _), e.keep, fun b hb => ?_, e.fr⟩ (r.snoc a.nm ⟨vs, a.at_, IsL.mono (Same.refl _) (List.prefix_append _ _) _ _ i⟩ (fun _ => a.n0) ⟨_, a.at_⟩) (is_cell.mpr ⟨p, rfl, by rw [← r.len]; exact getL_snoc⟩)
  rcases List.mem_append.mp hb with z | z
  · exact e.new b z
  · simp at z
    rw [z]
    exact Or.inr hp
open Classical in
noncomputable def eLc (as : List D → List Cel → R D) (x : MSrc) (vs : List Nat) (g : GD) (t : MB) (e : M) : M := fun r S => (x r S).bind fun s S1 => if s.ok S1 then (lcL g t e s (wipeD r vs) s.ds [] S1).bind fun ds S2 => as ds S2 else .fail
section
variable {G : Gc} {W : WX}
/-- one list's turns; K what follows its end -/
theorem lc_run {g : GD} {t : MB} {e : M} {s : Src} {is vs : List Nat} {J : It} {H0b : Hp} {mb : List Addr} {σ : L2.St} {r : Rho} {p : Addr} {K : Hp → Prop} {F : List D → List Cel → R D} {Q : VK} {σ0 : L2.St} {W1 : WX} {m1 : List Addr} {H01 H1 : Hp}
    (hv : ∀ i ∈ is, i ∈ vs) (hp : H1 p = none) (wk : WalkD G J H0b mb s) {Sb : List Cel} {Hb : Hp} {accb : List D} {avb : List V} (he : EnvR G H0b mb r (wipe σ vs)) (hr : Rl G mb Sb H0b Hb) (ok : s.ok Sb) (ap : Apart mb H0b Hb p (.lst avb)) (ia : IsL G H0b mb accb avb)
    (e1 : Ext m1 H01 H1 mb H0b Hb) (hk : Kt G W1 σ0 m1 H01 H1 ((lcL g t e s r s.ds accb Sb).bind F) Q)
    (hK : ∀ S m H0 H acc av, Same H0b H0 → mb <+: m → Rl G m S H0 H → Apart m H0 H p (.lst av) → IsL G H0 m acc av → Ext m1 H01 H1 m H0 H → Kt G W1 σ0 m1 H01 H1 (F acc S) Q → K H) :
    ∃ W2 : Nat → Nat → Hp → Prop, (∃ n, W2 0 n Hb) ∧ ∀ i n H, W2 i n H →
      (J.stop i H ∧ K H) ∨ (J.go i H ∧ ∃ Nx : Hp → Prop, (∀ H', Nx H' → ∃ n', n' < n ∧ W2 (i + 1) n' H') ∧ ∀ x H', J.yld i H x H' → tG G is g x (wipe σ vs) H' fun σ2 H2 => wipe σ2 vs = wipe σ vs ∧ tMB G W0 t σ2 H2 fun b H3 =>
        if b = true then tM G W0 e σ2 H3 fun y H4 => ∃ acc, H4 p = some (.lst acc) ∧ acc.length < sizeLine ∧ Nx (upd H4 p (.lst (acc ++ [y]))) else Nx H3) := by
  refine ⟨fun i n H => n = s.ds.length - i ∧ i ≤ s.ds.length ∧ ∃ S m H0 acc av, Same H0b H0 ∧ mb <+: m ∧ Rl G m S H0 H ∧ s.ok S ∧ Apart m H0 H p (.lst av) ∧ IsL G H0 m acc av ∧ Ext m1 H01 H1 m H0 H ∧ Kt G W1 σ0 m1 H01 H1 ((lcL g t e s r (s.ds.drop i) acc S).bind F) Q,
    ⟨s.ds.length, by simp, Nat.zero_le _, Sb, mb, H0b, accb, avb, Same.refl _, List.prefix_refl _, hr, ok, ap, ia, e1, hk⟩, ?_⟩
  rintro i n H ⟨rfl, hi, S, m, H0, acc, av, s0, p0, hr, ok, ap, ia, ex, hk⟩
  have wki := wk S m H0 H i s0 p0 hr ok
  by_cases hlt : i < s.ds.length
  · right
    obtain ⟨go, yl⟩ := wki.1 s.ds[i] (by simp [hlt])
    refine ⟨go, fun H => s.ds.length - (i + 1) = s.ds.length - (i + 1) ∧ i + 1 ≤ s.ds.length ∧ ∃ S m H0 acc av, Same H0b H0 ∧ mb <+: m ∧ Rl G m S H0 H ∧ s.ok S ∧ Apart m H0 H p (.lst av) ∧ IsL G H0 m acc av ∧ Ext m1 H01 H1 m H0 H ∧ Kt G W1 σ0 m1 H01 H1 ((lcL g t e s r (s.ds.drop (i + 1)) acc S).bind F) Q,
      fun H' q => ⟨_, by omega, q⟩, fun v H' y => ?_⟩
    obtain ⟨H0', e1, r1, i1⟩ := yl v H' y
    have ap1 := ap.later e1
    have ia1 := IsL.mono e1.imm e1.pre _ _ ia
    rw [List.drop_eq_getElem_cons hlt] at hk
    unfold lcL at hk
    cases hg : g s.ds[i] r with
    | none => rw [hg] at hk; exact hk.elim
    | some r' =>
      simp only [hg] at hk
      refine ⟨s.ds[i], r, S, m, H0', r', he.mono (s0.trans e1.imm) (p0.trans e1.pre), r1, i1, hg, fun σ2 he2 by2 => ⟨wipe_beyond by2 hv, r', S, m, H0', he2, r1, ?_⟩⟩
      cases hb : t r' S with
      | fail => simp only [hb] at hk; exact hk.elim
      | exc _ _ => simp only [hb] at hk; exact hk.elim
      | ok b S1 =>
        intro m2 H02 H2 e2 rl2
        have ap2 := ap1.later e2
        have ia2 := IsL.mono e2.imm e2.pre _ _ ia1
        cases b with
        | false =>
          simp only [hb] at hk
          by_cases ok2 : s.ok S1
          · rw [if_pos ok2] at hk
            exact ⟨rfl, hlt, S1, m2, H02, acc, av, s0.trans (e1.imm.trans e2.imm), p0.trans (e1.pre.trans e2.pre), rl2, ok2, ap2, ia2, ex.trans (e1.trans e2), hk⟩
          · rw [if_neg ok2] at hk; exact hk.elim
        | true =>
          simp only [hb] at hk
          refine ⟨r', S1, m2, H02, he2.mono e2.imm e2.pre, rl2, ?_⟩
          cases hy : e r' S1 with
          | fail => simp only [hy] at hk; exact hk.elim
          | exc _ _ => simp only [hy] at hk; exact hk.elim
          | ok y S2 =>
            simp only [hy] at hk
            by_cases ok2 : s.ok S2 ∧ acc.length < sizeLine
            · rw [if_pos ok2] at hk
              intro yv m3 H03 H3 e3 rl3 iy
              have ap3 := ap2.later e3
              have ia3 := IsL.mono e3.imm e3.pre _ _ ia2
              refine ⟨av, ap3.at_, by rw [← ia3.len]; exact ok2.2, rfl, hlt, S2, m3, H03, acc ++ [y], av ++ [yv], s0.trans (e1.imm.trans (e2.imm.trans e3.imm)), p0.trans (e1.pre.trans (e2.pre.trans e3.pre)), rl3.other ap3.nm ap3.n0, ok2.1, ap3.put, ia3.append (isl_cons.mpr ⟨yv, [], rfl, iy, isl_nil.mpr rfl⟩), (ex.trans (e1.trans (e2.trans e3))).other hp, hk⟩
            · rw [if_neg ok2] at hk; exact hk.elim
  · left
    have e : i = s.ds.length := by omega
    subst e
    rw [List.drop_length] at hk
    exact ⟨wki.2 rfl, hK S m H0 H acc av s0 p0 hr ap ia ex hk⟩
end
section
variable {X : Cx} {W : WX} {G : Gc} {is : List Nat}
theorem tlc_ok {as : List D → List Cel → R D} {x : MSrc} {vs : List Nat} {g : GD} {t : MB} {e : M} {σ : L2.St} {H : Hp} {Q : VK} (ha : SndL as) (hv : ∀ i ∈ is, i ∈ vs) (h : tM G W (eLc as x vs g t e) σ H Q) :
    tLc (tMI G W x) (tG G is g) (tMB G W0 t) (tM G W0 e) vs σ H Q := by
  obtain ⟨r, S, m, H0, he, hr, hk⟩ := h
  refine ⟨r, S, m, H0, he, hr, ?_⟩
  unfold eLc at hk
  cases hx : x r S with
  | fail => simp only [hx] at hk; exact hk
  | exc ex S1 => simp only [hx] at hk; exact hk
  | ok s S1 =>
    simp only [hx, R.bind] at hk
    intro J mb H0b Hb ex rl wk p hp
    by_cases ok : s.ok S1
    · rw [if_pos ok] at hk
      have hk1 := Kt.later ex hk
      refine lc_run (K := fun H => Q (.ref p) H) hv hp wk ((he.mono ex.imm ex.pre).wiped vs) (rl.beside hp) ok (Apart.new rl hp) (isl_nil.mpr rfl) ((Ext.refl _ _ _).other hp) hk1 ?_
      intro S m H0 H acc av s0 p0 hr ap ia ex2 k
      exact ha k hp ex2 hr ap ia
    · rw [if_neg ok] at hk
      exact hk.elim
variable {elt tg iter : Expr} {ifs : List Expr} {scope : Scope} {own : List (Str × Nat)} {pos : Pos} {x : MSrc} {g : GD} {t : MB} {e : M} {as : List D → List Cel → R D}
theorem me_lc (ha : SndL as) (hc : X.calm = true) (hN : X.N.Nodup) (hi : MI X W tg iter x) (ok : BlkOk X.N X.env.scope scope own) (hv : ∀ i ∈ is, i ∈ own.map (·.2))
    (hg : ∀ (s : Shared) (H : Hp) (C : Addr) (cl : List (Str × Addr)) (fp : List Addr), MG (X.blk s H scope (compEnvC scope cl C X.env) fp) is tg g) (ht : ∀ (s : Shared) (H : Hp) (C : Addr) (cl : List (Str × Addr)) (fp : List Addr), MTs (X.blk s H scope (compEnvC scope cl C X.env) fp) W0 ifs t)
    (he : ∀ (s : Shared) (H : Hp) (C : Addr) (cl : List (Str × Addr)) (fp : List Addr), ME (X.blk s H scope (compEnvC scope cl C X.env) fp) W0 elt e) (hs : ∀ x, foldedSetIterable iter X.env x = pure x := by intro _; rfl) :
    ME X W (.ListComp elt [⟨tg, iter, ifs, 0⟩] scope pos) (eLc as x (own.map (·.2)) g t e) :=
  pe_imp (pe_lc (g := tG (gX X) is g) (tt := tMB (gX X) W0 t) (te := tM (gX X) W0 e) hc hN hi ok hg ht he hs) fun σ H Q h => tlc_ok ha hv h
def sSet (i : Nat) (x : M) : MS := fun r S => match x r S with
  | .ok d S1 => .nx (r.set i (some d)) S1
  | .exc e S1 => .exc e r S1
  | .fail => .fail
theorem tset_ok {i : Nat} {x : M} {E : Ends} {σ : L2.St} {H : Hp} (h : tMS G W (sSet i x) E σ H) : tM G W x σ H fun v H1 => E.nx (σ.set i (some v)) H1 := by
  obtain ⟨r, S, m, H0, he, hr, hk⟩ := h
  refine ⟨r, S, m, H0, he, hr, ?_⟩
  unfold sSet at hk
  cases hx : x r S with
  | fail => rw [hx] at hk; exact hk
  | exc e S1 => rw [hx] at hk; exact fun c dd m' H0' H' ex rl i => hk c dd σ m' H0' H' ex rl (he.mono ex.imm ex.pre) i
  | ok d S1 =>
    rw [hx] at hk
    exact fun v m' H0' H' ex rl i => hk _ m' H0' H' ex rl ((he.mono ex.imm ex.pre).put _ i)
theorem mp_setLc {i : Nat} {y : Str} {py spos : Pos} (ha : SndL as) (hc : X.calm = true) (hN : X.N.Nodup) (hy : X.N[i]? = some y) (hyl : X.env.scope.names.lookup y = some .local)
    (hsw : swapsWith (.ListComp elt [⟨tg, iter, ifs, 0⟩] scope pos) (some (.Name y py)) spos.line X.env = pure true) (hi : MI X W tg iter x) (ok : BlkOk X.N X.env.scope scope own) (hv : ∀ i ∈ is, i ∈ own.map (·.2))
    (hg : ∀ (s : Shared) (H : Hp) (C : Addr) (cl : List (Str × Addr)) (fp : List Addr), MG (X.blk s H scope (compEnvC scope cl C X.env) fp) is tg g) (ht : ∀ (s : Shared) (H : Hp) (C : Addr) (cl : List (Str × Addr)) (fp : List Addr), MTs (X.blk s H scope (compEnvC scope cl C X.env) fp) W0 ifs t)
    (he : ∀ (s : Shared) (H : Hp) (C : Addr) (cl : List (Str × Addr)) (fp : List Addr), ME (X.blk s H scope (compEnvC scope cl C X.env) fp) W0 elt e) (hs : ∀ x, foldedSetIterable iter X.env x = pure x := by intro _; rfl) :
    MP X W (.Assign [.Name y py] (.ListComp elt [⟨tg, iter, ifs, 0⟩] scope pos) spos) (sSet i (eLc as x (own.map (·.2)) g t e)) :=
  ps_imp (ps_setLc (g := tG (gX X) is g) (tt := tMB (gX X) W0 t) (te := tM (gX X) W0 e) hc hN hy hyl hsw hi ok hg ht he hs) fun E σ H h => tlc_ok ha hv (tset_ok h)
end

/-! ### [e for tg in x if t for tg1 in x1 if t1] -/
open Classical in
noncomputable def lcL2 (g : GD) (t : MB) (x1 : MSrc) (vs1 : List Nat) (g1 : GD) (t1 : MB) (e : M) (s : Src) (r : Rho) : List D → List D → List Cel → R (List D)
  | [], acc, S => .ok acc S
  | d :: ds, acc, S => match g d r with
    | none => .fail
    | some r1 => match t r1 S with
      | .ok true S1 => (match x1 r1 S1 with
        | .ok s1 S2 => if s1.ok S2 then (match lcL g1 t1 e s1 (wipeD r1 vs1) s1.ds acc S2 with
          | .ok acc2 S3 => if s.ok S3 then lcL2 g t x1 vs1 g1 t1 e s r ds acc2 S3 else .fail
          | _ => .fail) else .fail
        | _ => .fail)
      | .ok false S1 => if s.ok S1 then lcL2 g t x1 vs1 g1 t1 e s r ds acc S1 else .fail
      | _ => .fail
open Classical in
noncomputable def eLc2 (as : List D → List Cel → R D) (x : MSrc) (vs : List Nat) (g : GD) (t : MB) (x1 : MSrc) (vs1 : List Nat) (g1 : GD) (t1 : MB) (e : M) : M := fun r S => (x r S).bind fun s S1 => if s.ok S1 then (lcL2 g t x1 vs1 g1 t1 e s (wipeD r vs) s.ds [] S1).bind fun ds S2 => as ds S2 else .fail
section
variable {X : Cx} {W : WX} {G : Gc} {is is1 : List Nat}
open Classical in
theorem tlc2_ok {as : List D → List Cel → R D} {x x1 : MSrc} {vs vs1 : List Nat} {g g1 : GD} {t t1 : MB} {e : M} {σ : L2.St} {H : Hp} {Q : VK} (ha : SndL as) (hv : ∀ i ∈ is, i ∈ vs) (hv1 : ∀ i ∈ is1, i ∈ vs1) (h : tM G W (eLc2 as x vs g t x1 vs1 g1 t1 e) σ H Q) :
    tLc2 (tMI G W x) (tG G is g) (tMB G W0 t) (tMI G W0 x1) (tG G is1 g1) (tMB G W0 t1) (tM G W0 e) vs vs1 σ H Q := by
  obtain ⟨r, S, m, H0, he, hr, hk⟩ := h
  refine ⟨r, S, m, H0, he, hr, ?_⟩
  unfold eLc2 at hk
  cases hx : x r S with
  | fail => simp only [hx] at hk; exact hk
  | exc ex S1 => simp only [hx] at hk; exact hk
  | ok s S1 =>
    simp only [hx, R.bind] at hk
    intro J mb H0b Hb ex rl wk p hp
    by_cases ok : s.ok S1
    · rw [if_pos ok] at hk
      have hk1 := Kt.later ex hk
      have he1 := (he.mono ex.imm ex.pre).wiped vs
      refine ⟨fun i n H => n = s.ds.length - i ∧ i ≤ s.ds.length ∧ ∃ S m H0 acc av, Same H0b H0 ∧ mb <+: m ∧ Rl G m S H0 H ∧ s.ok S ∧ Apart m H0 H p (.lst av) ∧ IsL G H0 m acc av ∧ Ext mb H0b Hb m H0 H ∧ Kt G W σ mb H0b Hb ((lcL2 g t x1 vs1 g1 t1 e s (wipeD r vs) (s.ds.drop i) acc S).bind fun ds S2 => as ds S2) Q,
        ⟨s.ds.length, by simp, Nat.zero_le _, S1, mb, H0b, [], [], Same.refl _, List.prefix_refl _, rl.beside hp, ok, Apart.new rl hp, isl_nil.mpr rfl, (Ext.refl _ _ _).other hp, hk1⟩, ?_⟩
      rintro i n H ⟨rfl, hi, S, m, H0, acc, av, s0, p0, hr, ok, ap, ia, ex, hk⟩
      have wki := wk S m H0 H i s0 p0 hr ok
      by_cases hlt : i < s.ds.length
      · right
        obtain ⟨go, yl⟩ := wki.1 s.ds[i] (by simp [hlt])
        refine ⟨go, fun H => s.ds.length - (i + 1) = s.ds.length - (i + 1) ∧ i + 1 ≤ s.ds.length ∧ ∃ S m H0 acc av, Same H0b H0 ∧ mb <+: m ∧ Rl G m S H0 H ∧ s.ok S ∧ Apart m H0 H p (.lst av) ∧ IsL G H0 m acc av ∧ Ext mb H0b Hb m H0 H ∧ Kt G W σ mb H0b Hb ((lcL2 g t x1 vs1 g1 t1 e s (wipeD r vs) (s.ds.drop (i + 1)) acc S).bind fun ds S2 => as ds S2) Q,
          fun H' q => ⟨_, by omega, q⟩, fun v H' y => ?_⟩
        obtain ⟨H0', e1, r1, i1⟩ := yl v H' y
        have ap1 := ap.later e1
        have ia1 := IsL.mono e1.imm e1.pre _ _ ia
        rw [List.drop_eq_getElem_cons hlt] at hk
        unfold lcL2 at hk
        cases hg : g s.ds[i] (wipeD r vs) with
        | none => rw [hg] at hk; exact hk.elim
        | some r' =>
          simp only [hg] at hk
          refine ⟨s.ds[i], wipeD r vs, S, m, H0', r', he1.mono (s0.trans e1.imm) (p0.trans e1.pre), r1, i1, hg, fun σ2 he2 by2 => ⟨wipe_beyond by2 hv, r', S, m, H0', he2, r1, ?_⟩⟩
          cases hb : t r' S with
          | fail => simp only [hb] at hk; exact hk.elim
          | exc _ _ => simp only [hb] at hk; exact hk.elim
          | ok b S1 =>
            intro m2 H02 H2 e2 rl2
            have ap2 := ap1.later e2
            have ia2 := IsL.mono e2.imm e2.pre _ _ ia1
            cases b with
            | false =>
              simp only [hb] at hk
              by_cases ok2 : s.ok S1
              · rw [if_pos ok2] at hk
                exact ⟨rfl, hlt, S1, m2, H02, acc, av, s0.trans (e1.imm.trans e2.imm), p0.trans (e1.pre.trans e2.pre), rl2, ok2, ap2, ia2, ex.trans (e1.trans e2), hk⟩
              · rw [if_neg ok2] at hk; exact hk.elim
            | true =>
              simp only [hb] at hk
              refine ⟨r', S1, m2, H02, he2.mono e2.imm e2.pre, rl2, ?_⟩
              cases hy : x1 r' S1 with
              | fail => simp only [hy] at hk; exact hk.elim
              | exc _ _ => simp only [hy] at hk; exact hk.elim
              | ok s1 S2 =>
                simp only [hy] at hk
                by_cases oks : s1.ok S2
                · rw [if_pos oks] at hk
                  intro J1 m3 H03 H3 e3 rl3 wk1
                  have ap3 := ap2.later e3
                  have ia3 := IsL.mono e3.imm e3.pre _ _ ia2
                  have ex3 := ex.trans (e1.trans (e2.trans e3))
                  have hk' : Kt G W σ mb H0b Hb ((lcL g1 t1 e s1 (wipeD r' vs1) s1.ds acc S2).bind fun acc2 S3 => (if s.ok S3 then lcL2 g t x1 vs1 g1 t1 e s (wipeD r vs) (s.ds.drop (i + 1)) acc2 S3 else .fail).bind fun ds S2 => as ds S2) Q := by
                    cases hq : lcL g1 t1 e s1 (wipeD r' vs1) s1.ds acc S2 with
                    | fail => simp only [hq] at hk; exact hk
                    | exc _ _ => simp only [hq] at hk; exact hk.elim
                    | ok acc2 S3 => simp only [hq] at hk; exact hk
                  refine lc_run (σ := σ2) (r := wipeD r' vs1) (K := _) hv1 hp wk1 ((he2.mono (e2.imm.trans e3.imm) (e2.pre.trans e3.pre)).wiped vs1) rl3 oks ap3 ia3 ex3 hk' ?_
                  intro S m H0 H acc av s0' p0' hr ap ia ex2 k
                  by_cases ok2 : s.ok S
                  · rw [if_pos ok2] at k
                    exact ⟨rfl, hlt, S, m, H0, acc, av, s0.trans (e1.imm.trans (e2.imm.trans (e3.imm.trans s0'))), p0.trans (e1.pre.trans (e2.pre.trans (e3.pre.trans p0'))), hr, ok2, ap, ia, ex2, k⟩
                  · rw [if_neg ok2] at k
                    exact k.elim
                · rw [if_neg oks] at hk
                  exact hk.elim
      · left
        have e : i = s.ds.length := by omega
        subst e
        rw [List.drop_length] at hk
        exact ⟨wki.2 rfl, ha hk hp ex hr ap ia⟩
    · rw [if_neg ok] at hk
      exact hk.elim
variable {elt tg iter tg1 iter1 : Expr} {ifs ifs1 : List Expr} {scope : Scope} {own : List (Str × Nat)} {vs1 : List Nat} {pos : Pos} {x x1 : MSrc} {g g1 : GD} {t t1 : MB} {e : M} {as : List D → List Cel → R D}
theorem me_lc2 (ha : SndL as) (hc : X.calm = true) (hN : X.N.Nodup) (hi : MI X W tg iter x) (ok : BlkOk X.N X.env.scope scope own) (hv : ∀ i ∈ is, i ∈ own.map (·.2)) (hv1 : ∀ i ∈ is1, i ∈ vs1) (hw : ∀ i ∈ vs1, i ∈ own.map (·.2))
    (hg : ∀ (s : Shared) (H : Hp) (C : Addr) (cl : List (Str × Addr)) (fp : List Addr), MG (X.blk s H scope (compEnvC scope cl C X.env) fp) is tg g) (ht : ∀ (s : Shared) (H : Hp) (C : Addr) (cl : List (Str × Addr)) (fp : List Addr), MTs (X.blk s H scope (compEnvC scope cl C X.env) fp) W0 ifs t)
    (hi1 : ∀ (s : Shared) (H : Hp) (C : Addr) (cl : List (Str × Addr)) (fp : List Addr), MI (X.blk s H scope (compEnvC scope cl C X.env) fp) W0 tg1 iter1 x1)
    (hg1 : ∀ (s : Shared) (H : Hp) (C : Addr) (cl : List (Str × Addr)) (fp : List Addr), MG (X.blk s H scope (compEnvC scope cl C X.env) fp) is1 tg1 g1) (ht1 : ∀ (s : Shared) (H : Hp) (C : Addr) (cl : List (Str × Addr)) (fp : List Addr), MTs (X.blk s H scope (compEnvC scope cl C X.env) fp) W0 ifs1 t1)
    (he : ∀ (s : Shared) (H : Hp) (C : Addr) (cl : List (Str × Addr)) (fp : List Addr), ME (X.blk s H scope (compEnvC scope cl C X.env) fp) W0 elt e) (hs : ∀ x, foldedSetIterable iter X.env x = pure x := by intro _; rfl) (hs1 : ∀ env x, foldedSetIterable iter1 env x = pure x := by intro _ _; rfl) :
    ME X W (.ListComp elt [⟨tg, iter, ifs, 0⟩, ⟨tg1, iter1, ifs1, 0⟩] scope pos) (eLc2 as x (own.map (·.2)) g t x1 vs1 g1 t1 e) :=
  pe_imp (pe_lc2 (g := tG (gX X) is g) (tt := tMB (gX X) W0 t) (te := tM (gX X) W0 e) (wi1 := tMI (gX X) W0 x1) (g1 := tG (gX X) is1 g1) (tt1 := tMB (gX X) W0 t1) hc hN hi ok hw hg ht hi1 hg1 ht1 he hs hs1) fun σ H Q h => tlc2_ok ha hv hv1 h
theorem mp_setLc2 {i : Nat} {y : Str} {py spos : Pos} (ha : SndL as) (hc : X.calm = true) (hN : X.N.Nodup) (hy : X.N[i]? = some y) (hyl : X.env.scope.names.lookup y = some .local)
    (hsw : swapsWith (.ListComp elt [⟨tg, iter, ifs, 0⟩, ⟨tg1, iter1, ifs1, 0⟩] scope pos) (some (.Name y py)) spos.line X.env = pure true) (hi : MI X W tg iter x) (ok : BlkOk X.N X.env.scope scope own) (hv : ∀ i ∈ is, i ∈ own.map (·.2)) (hv1 : ∀ i ∈ is1, i ∈ vs1) (hw : ∀ i ∈ vs1, i ∈ own.map (·.2))
    (hg : ∀ (s : Shared) (H : Hp) (C : Addr) (cl : List (Str × Addr)) (fp : List Addr), MG (X.blk s H scope (compEnvC scope cl C X.env) fp) is tg g) (ht : ∀ (s : Shared) (H : Hp) (C : Addr) (cl : List (Str × Addr)) (fp : List Addr), MTs (X.blk s H scope (compEnvC scope cl C X.env) fp) W0 ifs t)
    (hi1 : ∀ (s : Shared) (H : Hp) (C : Addr) (cl : List (Str × Addr)) (fp : List Addr), MI (X.blk s H scope (compEnvC scope cl C X.env) fp) W0 tg1 iter1 x1)
    (hg1 : ∀ (s : Shared) (H : Hp) (C : Addr) (cl : List (Str × Addr)) (fp : List Addr), MG (X.blk s H scope (compEnvC scope cl C X.env) fp) is1 tg1 g1) (ht1 : ∀ (s : Shared) (H : Hp) (C : Addr) (cl : List (Str × Addr)) (fp : List Addr), MTs (X.blk s H scope (compEnvC scope cl C X.env) fp) W0 ifs1 t1)
    (he : ∀ (s : Shared) (H : Hp) (C : Addr) (cl : List (Str × Addr)) (fp : List Addr), ME (X.blk s H scope (compEnvC scope cl C X.env) fp) W0 elt e) (hs : ∀ x, foldedSetIterable iter X.env x = pure x := by intro _; rfl) (hs1 : ∀ env x, foldedSetIterable iter1 env x = pure x := by intro _ _; rfl) :
    MP X W (.Assign [.Name y py] (.ListComp elt [⟨tg, iter, ifs, 0⟩, ⟨tg1, iter1, ifs1, 0⟩] scope pos) spos) (sSet i (eLc2 as x (own.map (·.2)) g t x1 vs1 g1 t1 e)) :=
  ps_imp (ps_setLc2 (g := tG (gX X) is g) (tt := tMB (gX X) W0 t) (te := tM (gX X) W0 e) (wi1 := tMI (gX X) W0 x1) (g1 := tG (gX X) is1 g1) (tt1 := tMB (gX X) W0 t1) hc hN hy hyl hsw hi ok hw hg ht hi1 hg1 ht1 he hs hs1) fun E σ H h => tlc2_ok ha hv hv1 (tset_ok h)
end
end Me
end
section
set_option Elab.async false
set_option linter.all false
set_option maxRecDepth 100000
namespace Me
open PySem PySem.Spec L2
open PyProof.Rows hiding St

/-! ### statements -/
def sNx : MS := fun r S => .nx r S
def sSeq (a b : MS) : MS := fun r S => match a r S with
  | .nx r1 S1 => b r1 S1
  | x => x
def sRet (x : M) : MS := fun r S => match x r S with
  | .ok d S1 => .rt d S1
  | .exc e S1 => .exc e r S1
  | .fail => .fail
def sRetN : MS := fun _ S => .rt .non S
def sBk : MS := fun r S => .bk r S
def sCt : MS := fun r S => .ct r S
def sNo : MS := fun _ _ => .fail
def sDrop (x : M) : MS := fun r S => match x r S with
  | .ok _ S1 => .nx r S1
  | .exc e S1 => .exc e r S1
  | .fail => .fail
def sIf (t : MB) (a b : MS) : MS := fun r S => match t r S with
  | .ok true S1 => a r S1
  | .ok false S1 => b r S1
  | .exc e S1 => .exc e r S1
  | .fail => .fail
def sAsg (x : M) (g : GD) : MS := fun r S => match x r S with
  | .ok d S1 => (match g d r with
    | some r1 => .nx r1 S1
    | none => .fail)
  | .exc e S1 => .exc e r S1
  | .fail => .fail
def putAll : List Nat → List D → Rho → Rho
  | i :: is, d :: ds, r => putAll is ds (r.set i (some d))
  | _, _, r => r
/-- several names at once -/
def sPar (is : List Nat) (y : ML) : MS := fun r S => match y r S with
  | .ok ds S1 => if ds.length = is.length then .nx (putAll is ds r) S1 else .fail
  | .exc e S1 => .exc e r S1
  | .fail => .fail
section
variable {X : Cx} {W : WX} {G : Gc} {pos : Pos} {σ : L2.St} {H : Hp} {E : Ends} {e : Expr} {x : M} {is : List Nat}
theorem tms_x {f : D → Rho → List Cel → SR} (h : tMS G W (fun r S => match x r S with
    | .ok d S1 => f d r S1
    | .exc e S1 => .exc e r S1
    | .fail => .fail) E σ H) : tM G W x σ H fun v H1 => ∃ d r S m H0, EnvR G H0 m r σ ∧ Rl G m S H0 H1 ∧ Is G H0 m d v ∧ KtS G W m H0 H1 (f d r S) E := by
  obtain ⟨r, S, m, H0, he, hr, hk⟩ := h
  refine ⟨r, S, m, H0, he, hr, ?_⟩
  cases hx : x r S with
  | fail => simp only [hx] at hk; exact hk
  | exc e S1 => simp only [hx] at hk; exact fun c dd m' H0' H' ex rl i => hk c dd σ m' H0' H' ex rl (he.mono ex.imm ex.pre) i
  | ok d S1 => simp only [hx] at hk; exact fun v m' H0' H' ex rl i => ⟨d, r, S1, m', H0', he.mono ex.imm ex.pre, rl, i, KtS.later ex hk⟩
theorem tms_xl {y : ML} {f : List D → Rho → List Cel → SR} (h : tMS G W (fun r S => match y r S with
    | .ok d S1 => f d r S1
    | .exc e S1 => .exc e r S1
    | .fail => .fail) E σ H) : tML G W y σ H fun v H1 => ∃ d r S m H0, EnvR G H0 m r σ ∧ Rl G m S H0 H1 ∧ IsL G H0 m d v ∧ KtS G W m H0 H1 (f d r S) E := by
  obtain ⟨r, S, m, H0, he, hr, hk⟩ := h
  refine ⟨r, S, m, H0, he, hr, ?_⟩
  cases hx : y r S with
  | fail => simp only [hx] at hk; exact hk
  | exc e S1 => simp only [hx] at hk; exact fun c dd m' H0' H' ex rl i => hk c dd σ m' H0' H' ex rl (he.mono ex.imm ex.pre) i
  | ok d S1 => simp only [hx] at hk; exact fun v m' H0' H' ex rl i => ⟨d, r, S1, m', H0', he.mono ex.imm ex.pre, rl, i, KtS.later ex hk⟩
theorem ks_nx {r : Rho} {S : List Cel} {m : List Addr} {H0 : Hp} (k : KtS G W m H0 H (.nx r S) E) (rl : Rl G m S H0 H) {σ' : L2.St} (he : EnvR G H0 m r σ') : E.nx σ' H := k σ' m H0 H (Ext.refl _ _ _) rl he
theorem mp_pass : MP X W (.Pass pos) sNx := ps_imp ps_pass fun E σ H ⟨r, S, m, H0, he, hr, hk⟩ => ks_nx hk hr he
theorem mp_break : MP X W (.Break pos) sBk := ps_imp ps_break fun E σ H ⟨r, S, m, H0, he, hr, hk⟩ => hk σ m H0 H (Ext.refl _ _ _) hr he
theorem mp_continue : MP X W (.Continue pos) sCt := ps_imp ps_continue fun E σ H ⟨r, S, m, H0, he, hr, hk⟩ => hk σ m H0 H (Ext.refl _ _ _) hr he
theorem mp_no {st : Stmt} : MP X W st sNo := ps_imp ps_never fun E σ H ⟨r, S, m, H0, he, hr, hk⟩ => hk
theorem mps_no {st : List Stmt} : MPs X W st sNo := pss_imp pss_never fun E σ H ⟨r, S, m, H0, he, hr, hk⟩ => hk
theorem mps_nil : MPs X W [] sNx := pss_imp pss_nil fun E σ H ⟨r, S, m, H0, he, hr, hk⟩ => ks_nx hk hr he
theorem mps_cons {st : Stmt} {rest : List Stmt} {a b : MS} (h1 : MP X W st a) (h2 : MPs X W rest b) : MPs X W (st :: rest) (sSeq a b) :=
  pss_imp (pss_cons h1 h2) fun E σ H ⟨r, S, m, H0, he, hr, hk⟩ => by
    refine ⟨r, S, m, H0, he, hr, ?_⟩
    unfold sSeq at hk
    cases ha : a r S with
    | nx r1 S1 =>
      simp only [ha] at hk
      exact fun σ' m' H0' H' ex rl he' => ⟨r1, S1, m', H0', he', rl, KtS.later ex hk⟩
    | fail => simp only [ha] at hk; exact hk
    | rt _ _ => simp only [ha] at hk; exact hk
    | bk _ _ => simp only [ha] at hk; exact hk
    | ct _ _ => simp only [ha] at hk; exact hk
    | exc _ _ _ => simp only [ha] at hk; exact hk
theorem mps_one {st : Stmt} {a : MS} (h1 : MP X W st a) : MPs X W [st] a := pss_one h1
theorem mp_doc {x : Str} {j p p' : _} : MP X W (.Expr (.Constant (.str x) j p) p') sNx := ps_imp ps_doc fun E σ H ⟨r, S, m, H0, he, hr, hk⟩ => ks_nx hk hr he
theorem mp_expr (h : ME X W e x) (hs : swapsWith e none pos.line X.env = pure false := by rfl) : MP X W (.Expr e pos) (sDrop x) :=
  ps_imp (ps_expr h hs) fun E σ H h => tm_mono (tms_x (f := fun _ r S => .nx r S) h) fun v H1 ⟨d, r, S, m, H0, he, rl, i, k⟩ => ks_nx k rl he
theorem mp_ret (h : ME X W e x) : MP X W (.Return (some e) pos) (sRet x) :=
  ps_imp (ps_ret h) fun E σ H h => tm_mono (tms_x (f := fun d _ S => .rt d S) h) fun v H1 ⟨d, r, S, m, H0, he, rl, i, k⟩ => k v m H0 H1 (Ext.refl _ _ _) rl i
theorem mp_retN : MP X W (.Return none pos) sRetN := ps_imp ps_retN fun E σ H ⟨r, S, m, H0, he, hr, hk⟩ => hk .non m H0 H (Ext.refl _ _ _) hr (is_non.mpr rfl)
theorem mp_if {a b : List Stmt} {t : MB} {x y : MS} (hc : MT X W e t) (ha : MPs X W a x) (hb : MPs X W b y) : MP X W (.If e a b pos) (sIf t x y) :=
  ps_imp (ps_if hc ha hb) fun E σ H ⟨r, S, m, H0, he, hr, hk⟩ => by
    refine ⟨r, S, m, H0, he, hr, ?_⟩
    unfold sIf at hk
    cases ht : t r S with
    | fail => simp only [ht] at hk; exact hk
    | exc _ _ => simp only [ht] at hk; exact fun c dd m' H0' H' ex rl i => hk c dd σ m' H0' H' ex rl (he.mono ex.imm ex.pre) i
    | ok b S1 =>
      intro m' H0' H' ex rl
      cases b with
      | true => simp only [ht] at hk; exact ⟨r, S1, m', H0', he.mono ex.imm ex.pre, rl, KtS.later ex hk⟩
      | false => simp only [ht] at hk; exact ⟨r, S1, m', H0', he.mono ex.imm ex.pre, rl, KtS.later ex hk⟩
theorem mp_set {i : Nat} {y : Str} {pos' : Pos} (hN : X.N.Nodup) (he : ME X W e x) (hi : X.N[i]? = some y := by rfl) (hx : Loc X.env.scope y := by first | exact Or.inl rfl | exact Or.inr rfl) (hs : swapsWith e (some (.Name y pos')) pos.line X.env = pure false := by rfl)
    (hf : X.fn y = true ∨ X.env.scope.names.lookup y = some .local := by first | exact .inl rfl | exact .inr rfl) : MP X W (.Assign [.Name y pos'] e pos) (sSet i x) :=
  ps_imp (ps_set hN hi hx he hs hf) fun E σ H h => tset_ok h
theorem mp_asg {tg : Expr} {g : GD} (he : ME X W e x) (hg : MG X is tg g) (hs : swapsWithSole [tg] e pos.line X.env = pure false := by rfl) (hw : swappedStores [tg] e X.env = pure none := by rfl)
    (h1 : (assignEach [tg] X.env).map (·.2) = [assign tg X.env] := by rfl) : MP X W (.Assign [tg] e pos) (sAsg x g) :=
  ps_imp (ps_asg he hg hs hw h1) fun E σ H h => tm_mono (tms_x (f := fun d r S1 => match g d r with
    | some r1 => .nx r1 S1
    | none => .fail) h) fun v H1 ⟨d, r, S, m, H0, he, rl, i, k⟩ => by
    cases hg : g d r with
    | none => rw [hg] at k; exact k.elim
    | some r1 =>
      simp only [hg] at k
      exact ⟨d, r, S, m, H0, r1, he, rl, i, hg, fun σ' he' _ => ks_nx k rl he'⟩
theorem mp_par {i j : Nat} {u y : Str} {a b : Expr} {l : ML} {px py pt : Pos} {kt k2 pt2} (hc : X.calm = true) (hN : X.N.Nodup) (ha : MA X W [a, b] l) (hi : X.N[i]? = some u := by rfl) (hj : X.N[j]? = some y := by rfl) (hij : i ≠ j := by decide)
    (hx : X.env.scope.names.lookup u = some .local := by rfl) (hy : X.env.scope.names.lookup y = some .local := by rfl)
    (hw : swappedStores [.Tuple [.Name u px, .Name y py] kt pt] (.Tuple [a, b] k2 pt2) X.env = pure (some [u, y]) := by rfl)
    (hs : swapsWithSole [.Tuple [.Name u px, .Name y py] kt pt] (.Tuple [a, b] k2 pt2) pos.line X.env = pure false := by rfl) :
    MP X W (.Assign [.Tuple [.Name u px, .Name y py] kt pt] (.Tuple [a, b] k2 pt2) pos) (sPar [i, j] l) :=
  ps_imp (ps_par hc hN hi hj hij hx hy ha hw hs) fun E σ H h => tml_mono (tms_xl (f := fun ds r S1 => if ds.length = [i, j].length then .nx (putAll [i, j] ds r) S1 else .fail) h) fun vs H1 ⟨ds, r, S, m, H0, he, rl, i1, k⟩ => by
    by_cases hl : ds.length = [i, j].length
    · simp only [if_pos hl] at k
      match ds, hl, i1, k with
      | [d1, d2], _, i1, k =>
        obtain ⟨v, w, rfl, i2, i3⟩ := isl_two i1
        exact ⟨v, w, rfl, ks_nx k rl ((he.put _ i2).put _ i3)⟩
    · simp only [if_neg hl] at k
      exact k.elim
theorem isl_three {H0 : Hp} {m : List Addr} {d e f : D} {vs : List V} (h : IsL G H0 m [d, e, f] vs) : ∃ v u w, vs = [v, u, w] ∧ Is G H0 m d v ∧ Is G H0 m e u ∧ Is G H0 m f w := by
  obtain ⟨v, r, rfl, h1, h2⟩ := isl_cons.mp h
  obtain ⟨u, w, rfl, h3, h4⟩ := isl_two h2
  exact ⟨v, u, w, rfl, h1, h3, h4⟩
theorem mp_par3 {i j l : Nat} {u y z : Str} {a b c : Expr} {ll : ML} {px py pz pt : Pos} {kt k2 pt2} (hc : X.calm = true) (hN : X.N.Nodup) (ha : MA X W [a, b, c] ll) (hi : X.N[i]? = some u := by rfl) (hj : X.N[j]? = some y := by rfl) (hl : X.N[l]? = some z := by rfl) (hij : i ≠ j := by decide) (hil : i ≠ l := by decide) (hjl : j ≠ l := by decide)
    (hx : X.env.scope.names.lookup u = some .local := by rfl) (hy : X.env.scope.names.lookup y = some .local := by rfl) (hz : X.env.scope.names.lookup z = some .local := by rfl)
    (hw : swappedStores [.Tuple [.Name u px, .Name y py, .Name z pz] kt pt] (.Tuple [a, b, c] k2 pt2) X.env = pure (some [u, y, z]) := by rfl)
    (hs : swapsWithSole [.Tuple [.Name u px, .Name y py, .Name z pz] kt pt] (.Tuple [a, b, c] k2 pt2) pos.line X.env = pure false := by rfl) :
    MP X W (.Assign [.Tuple [.Name u px, .Name y py, .Name z pz] kt pt] (.Tuple [a, b, c] k2 pt2) pos) (sPar [i, j, l] ll) :=
  ps_imp (ps_par3 hc hN hi hj hl hij hil hjl hx hy hz ha hw hs) fun E σ H h => tml_mono (tms_xl (f := fun ds r S1 => if ds.length = [i, j, l].length then .nx (putAll [i, j, l] ds r) S1 else .fail) h) fun vs H1 ⟨ds, r, S, m, H0, he, rl, i1, k⟩ => by
    by_cases hl : ds.length = [i, j, l].length
    · simp only [if_pos hl] at k
      match ds, hl, i1, k with
      | [d1, d2, d3], _, i1, k =>
        obtain ⟨v, w, q, rfl, i2, i3, i4⟩ := isl_three i1
        exact ⟨v, w, q, rfl, ks_nx k rl (((he.put _ i2).put _ i3).put _ i4)⟩
    · simp only [if_neg hl] at k
      exact k.elim

/-! ### o[i] = v -/
def sItem (o i x : M) : MS := fun r S => match x r S with
  | .ok d S1 => (match o r S1 with
    | .ok (.cell k) S2 => (match i r S2 with
      | .ok (.int j) S3 => (match S3[k]? with
        | some (.lst xs) => (match ixN xs.length j with
          | some n => .nx r (S3.set k (.lst (xs.set n d)))
          | none => .fail)
        | _ => .fail)
      | .exc e S1 => .exc e r S1
      | _ => .fail)
    | .exc e S1 => .exc e r S1
    | _ => .fail)
  | .exc e S1 => .exc e r S1
  | .fail => .fail
/-- a cell's list is another now -/
theorem Rl.setL {m : List Addr} {S : List Cel} {H0 : Hp} {k : Nat} {a : Addr} {c c' : Cel} {o : HO} (r : Rl G m S H0 H) (h1 : S[k]? = some c) (h2 : m[k]? = some a) (hl : c.live = true) (hc : CelAt G H0 (upd H a o) m a c') : Rl G m (S.set k c') H0 (upd H a o) where
  sub := fun b u h => by
    rw [upd_ne (ne_of_none h (r.out k c a h1 h2 hl))]
    exact r.sub _ _ h
  len := by rw [List.length_set]; exact r.len
  nd := r.nd
  at_ := fun j d b e1 e2 => by
    by_cases hj : k = j
    · subst hj
      rw [h2] at e2
      cases e2
      rw [List.getElem?_set, if_pos rfl] at e1
      split at e1
      · cases e1
        exact hc
      · cases e1
    · rw [List.getElem?_set_ne hj] at e1
      have hne : b ≠ a := fun e => hj (nd_get r.nd h2 (e ▸ e2))
      have h := r.at_ j d b e1 e2
      cases d with
      | lst ds =>
        obtain ⟨vs, e1, e2⟩ := h
        exact ⟨vs, by rw [upd_ne hne]; exact e1, e2⟩
      | ins c ns ds =>
        obtain ⟨C, dx, fs, e1, e2, e3, e4⟩ := h
        exact ⟨C, dx, fs, e1, by rw [upd_ne hne]; exact e2, e3, e4⟩
      | dead => trivial
  out := fun j d b e1 e2 hl' => by
    by_cases hj : k = j
    · subst hj
      rw [h2] at e2
      cases e2
      exact r.out k c _ h1 h2 hl
    · rw [List.getElem?_set_ne hj] at e1
      exact r.out j d b e1 e2 hl'
  trk := fun b hb => by
    by_cases e : b = a
    · subst e
      exact ⟨o, upd_same⟩
    · obtain ⟨u, h⟩ := r.trk b hb
      exact ⟨u, by rw [upd_ne e]; exact h⟩
theorem Ext.setL {m : List Addr} {H0 : Hp} {a : Addr} {o : HO} (h : a ∈ m) : Ext m H0 H m H0 (upd H a o) where
  imm := Same.refl _
  pre := List.prefix_refl _
  keep := fun b u h1 h2 => by
    have hne : b ≠ a := fun e => h2 (by rw [e]; exact h)
    rw [upd_ne hne]
    exact h1
  new := fun _ h => Or.inl h
  fr := fun _ _ h => Or.inl h
theorem mp_item {o i : Expr} {y j : M} {tpos : Pos} (ho : ME X W o y) (hi : ME X W i j) (he : ME X W e x) (ha : ∀ v, assign (.Subscript o i tpos) X.env v = (do
      let ov ← holding [v] (eval o X.env)
      let iv ← holding [v, ov] (eval i X.env)
      standAt tpos
      holding [v, ov, iv] (setItem ov iv v)
      release [v, ov, iv] []) := by intro _; rfl) (hs : swapsWithSole [.Subscript o i tpos] e pos.line X.env = pure false := by rfl) (hw : swappedStores [.Subscript o i tpos] e X.env = pure none := by rfl)
    (h1 : (assignEach [.Subscript o i tpos] X.env).map (·.2) = [assign (.Subscript o i tpos) X.env] := by rfl) : MP X W (.Assign [.Subscript o i tpos] e pos) (sItem y j x) :=
  ps_imp (ps_asg he (pg_sub ho hi set_list ha) hs hw h1) fun E σ H h => tm_mono (tms_x (f := fun d r S1 => (match y r S1 with
    | .ok (.cell k) S2 => (match j r S2 with
      | .ok (.int j) S3 => (match S3[k]? with
        | some (.lst xs) => (match ixN xs.length j with
          | some n => .nx r (S3.set k (.lst (xs.set n d)))
          | none => .fail)
        | _ => .fail)
      | .exc e S1 => .exc e r S1
      | _ => .fail)
    | .exc e S1 => .exc e r S1
    | _ => .fail)) h) fun v H1 ⟨d, r, S, m, H0, he, rl, i1, k⟩ => by
    refine ⟨r, S, m, H0, he, rl, ?_⟩
    cases hy : y r S with
    | fail => simp only [hy] at k; exact k
    | exc ex S1 => simp only [hy] at k; exact fun c dd m' H0' H' ex rl i => k c dd σ m' H0' H' ex rl (he.mono ex.imm ex.pre) i
    | ok od S2 =>
      intro ov m2 H02 H2 e2 rl2 i2
      cases od with
      | cell kk =>
        simp only [hy] at k
        have k2 := KtS.later e2 k
        refine ⟨r, S2, m2, H02, he.mono e2.imm e2.pre, rl2, ?_⟩
        cases hj : j r S2 with
        | fail => simp only [hj] at k2; exact k2
        | exc ex S1 => simp only [hj] at k2; exact fun c dd m' H0' H' ex rl i => k2 c dd σ m' H0' H' ex rl ((he.mono e2.imm e2.pre).mono ex.imm ex.pre) i
        | ok id S3 =>
          intro iv m3 H03 H3 e3 rl3 i3
          cases id with
          | int jj =>
            simp only [hj] at k2
            have k3 := KtS.later e3 k2
            obtain ⟨a, rfl, hm⟩ := is_cell.mp (Is.mono e3.imm e3.pre _ _ i2)
            cases hk : S3[kk]? with
            | none => simp only [hk] at k3; exact k3.elim
            | some c =>
              cases c with
              | lst xs =>
                simp only [hk] at k3
                cases hn : ixN xs.length jj with
                | none => simp only [hn] at k3; exact k3.elim
                | some n =>
                  simp only [hn] at k3
                  obtain ⟨vs, f1, f2⟩ := rl3.cel hk hm
                  refine ⟨a, vs, jj, n, rfl, is_int.mp i3, f1, by rw [← f2.len]; exact hn, ?_⟩
                  have hh := ((he.mono e2.imm e2.pre).mono e3.imm e3.pre)
                  exact k3 σ m3 H03 _ (Ext.setL (List.mem_of_getElem? hm)) (rl3.setL hk hm rfl ⟨_, upd_same, f2.set n (Is.mono e3.imm e3.pre _ _ (Is.mono e2.imm e2.pre _ _ i1))⟩) hh
              | _ => simp only [hk] at k3; exact k3.elim
          | _ => simp only [hj] at k2; exact k2.elim
      | _ => simp only [hy] at k; exact k.elim

/-! ### o.f = v -/
def putD (f : Str) (d : D) : List Str → List D → List Str × List D
  | n :: ns, e :: ds => if n = f then (n :: ns, d :: ds) else (n :: (putD f d ns ds).1, e :: (putD f d ns ds).2)
  | _, _ => ([f], [d])
def sFldD (c f : Str) (o x : M) : MS := fun r S => match x r S with
  | .ok d S1 => (match o r S1 with
    | .ok (.cell k) S2 => (match S2[k]? with
      | some (.ins c' ns ds) => if c' = c ∧ ns.length < 999 ∧ ns.length = ds.length then .nx r (S2.set k (.ins c (putD f d ns ds).1 (putD f d ns ds).2)) else .fail
      | _ => .fail)
    | .exc e S1 => .exc e r S1
    | _ => .fail)
  | .exc e S1 => .exc e r S1
  | .fail => .fail
theorem putD_ok {H0 : Hp} {m : List Addr} {f : Str} {d : D} {v : V} (i : Is G H0 m d v) : ∀ {fs : List (Str × V)} {ns : List Str} {ds : List D}, fs.map (·.1) = ns → IsL G H0 m ds (fs.map (·.2)) →
    (putF f v fs).map (·.1) = (putD f d ns ds).1 ∧ IsL G H0 m (putD f d ns ds).2 ((putF f v fs).map (·.2))
  | [], ns, ds, e, h => by
    subst e
    have : ds = [] := by
      cases ds with
      | nil => rfl
      | cons _ _ => have := h.len; simp at this
    subst this
    exact ⟨rfl, isl_cons.mpr ⟨v, [], rfl, i, isl_nil.mpr rfl⟩⟩
  | (g, u) :: fs, ns, ds, e, h => by
    subst e
    cases ds with
    | nil => have := h.len; simp at this
    | cons d0 ds =>
      obtain ⟨v0, w, e1, i1, i2⟩ := isl_cons.mp h
      obtain ⟨rfl, rfl⟩ := List.cons.inj e1
      unfold putF
      by_cases hg : g = f
      · subst hg
        simp only [if_pos rfl, List.map_cons, putD]
        exact ⟨rfl, isl_cons.mpr ⟨v, _, rfl, i, i2⟩⟩
      · have ih := putD_ok (f := f) (fs := fs) i rfl i2
        simp only [if_neg hg, List.map_cons, putD]
        exact ⟨by rw [ih.1], isl_cons.mpr ⟨u, _, rfl, i1, ih.2⟩⟩
theorem mp_fld {o value : Expr} {f : Str} {pos' : Pos} {c : Str} {C : Addr} {y : M} (hC : X.mg c = some (.ref C)) (cl : Cls X.K C) (na : NoAttr X.K C f) (ho : ME X W o y) (he : ME X W value x) (hs : swapsWith value (some (.Attribute o f pos')) pos.line X.env = pure false := by rfl) :
    MP X W (.Assign [.Attribute o f pos'] value pos) (sFldD c f y x) :=
  ps_imp (ps_fld ho he hs) fun E σ H h => tm_mono (tms_x (f := fun d r S1 => (match y r S1 with
    | .ok (.cell k) S2 => (match S2[k]? with
      | some (.ins c' ns ds) => if c' = c ∧ ns.length < 999 ∧ ns.length = ds.length then .nx r (S2.set k (.ins c (putD f d ns ds).1 (putD f d ns ds).2)) else .fail
      | _ => .fail)
    | .exc e S1 => .exc e r S1
    | _ => .fail)) h) fun v H1 ⟨d, r, S, m, H0, he, rl, i1, k⟩ => by
    refine ⟨r, S, m, H0, he, rl, ?_⟩
    cases hy : y r S with
    | fail => simp only [hy] at k; exact k
    | exc ex S1 => simp only [hy] at k; exact fun c dd m' H0' H' ex rl i => k c dd σ m' H0' H' ex rl (he.mono ex.imm ex.pre) i
    | ok od S2 =>
      intro ov m2 H02 H2 e2 rl2 i2
      cases od with
      | cell kk =>
        simp only [hy] at k
        have k2 := KtS.later e2 k
        obtain ⟨a, rfl, hm⟩ := is_cell.mp i2
        cases hk : S2[kk]? with
        | none => simp only [hk] at k2; exact k2.elim
        | some cc =>
          cases cc with
          | ins c' ns ds =>
            simp only [hk] at k2
            by_cases hc : c' = c ∧ ns.length < 999 ∧ ns.length = ds.length
            · rw [if_pos hc] at k2
              obtain ⟨C', dx, fs, f1, f2, f3, f4⟩ := rl2.at_ kk _ _ hk hm
              rw [hc.1] at f1
              have f1' : X.mg c = some (.ref C') := f1
              rw [hC] at f1'
              cases f1'
              have hlen : fs.length = ns.length := by rw [← f3, List.length_map]
              obtain ⟨p1, p2⟩ := putD_ok (f := f) (Is.mono e2.imm e2.pre _ _ i1) f3 f4
              refine ⟨a, C, dx, fs, rfl, f2, cl, na, by omega, ?_⟩
              exact k2 σ m2 H02 _ (Ext.setL (List.mem_of_getElem? hm)) (rl2.setL hk hm rfl ⟨C, dx, putF f v fs, hC, upd_same, p1, p2⟩) (he.mono e2.imm e2.pre)
            · rw [if_neg hc] at k2
              exact k2.elim
          | _ => simp only [hk] at k2; exact k2.elim
      | _ => simp only [hy] at k; exact k.elim
end
end Me
end
section
set_option Elab.async false
set_option linter.all false
set_option maxRecDepth 100000
namespace Me
open PySem PySem.Spec L2
open PyProof.Rows hiding St

/-! ### a value that no run comes to -/
def eNo : M := fun _ _ => .fail
def bNo : MB := fun _ _ => .fail
section
variable {X : Cx} {W : WX} {e : Expr}
theorem me_no : ME X W e eNo := ⟨fun _ _ _ _ _ _ ⟨_, _, _, _, _, _, h⟩ => h.elim⟩
theorem mt_no : MT X W e bNo := ⟨fun _ _ _ _ _ _ ⟨_, _, _, _, _, _, h⟩ => h.elim⟩
end

/-! ### methods of a list that is a cell -/
def eMut (f : List D → List D → Option (D × List D)) (o : M) (y : ML) : M := fun r S => (o r S).bind fun d S1 => match d with
  | .cell k => (match S1[k]? with
    | some (.lst _) => (y r S1).bind fun ds S2 => (match S2[k]? with
      | some (.lst xs) => (match f xs ds with
        | some (d, xs') => .ok d (S2.set k (.lst xs'))
        | none => .fail)
      | _ => .fail)
    | _ => .fail)
  | _ => .fail
abbrev RM := V → List V → Hp → VK → Prop
def SndM (G : Gc) (r : RM) (f : List D → List D → Option (D × List D)) : Prop := ∀ (m : List Addr) (H0 H : Hp) (S : List Cel) (a : Addr) (xs ds : List D) (vs us : List V) (d : D) (xs' : List D) (Q : VK),
  Rl G m S H0 H → H a = some (.lst vs) → IsL G H0 m xs vs → IsL G H0 m ds us → f xs ds = some (d, xs') → (∀ v vs', Is G H0 m d v → IsL G H0 m xs' vs' → Q v (upd H a (.lst vs'))) → r (.ref a) us H Q
section
variable {X : Cx} {W : WX} {e o : Expr} {es : List Expr} {x : M} {y : ML} {cpos apos : Pos} {f : List D → List D → Option (D × List D)} {r : RM} {name : Str} {id : String}
theorem tm_mut {G : Gc} (hs : SndM G r f) {σ : L2.St} {H : Hp} {Q : VK} (h : tM G W (eMut f x y) σ H Q) :
    tM G W x σ H fun v H1 => tyV G.K "list" v H1 ∧ tML G W y σ H1 fun us H2 => r v us H2 Q := by
  obtain ⟨rr, S, m, H0, he, hr, hk⟩ := h
  refine ⟨rr, S, m, H0, he, hr, ?_⟩
  unfold eMut at hk
  cases hx : x rr S with
  | fail => simp only [hx] at hk; exact hk
  | exc ex S1 => simp only [hx] at hk; exact hk
  | ok d S1 =>
    simp only [hx, R.bind] at hk
    intro v m1 H01 H1 e1 rl1 i1
    cases d with
    | cell k =>
      obtain ⟨a, rfl, hm⟩ := is_cell.mp i1
      have hk2 := Kt.later e1 hk
      cases hS : S1[k]? with
      | none => simp only [hS] at hk2; exact hk2.elim
      | some c =>
        cases c with
        | lst xs0 =>
          simp only [hS] at hk2
          obtain ⟨vs0, f1, f2⟩ := rl1.cel hS hm
          refine ⟨.inl ⟨rfl, vs0, SqL.of f1⟩, rr, S1, m1, H01, he.mono e1.imm e1.pre, rl1, ?_⟩
          cases hy : y rr S1 with
          | fail => simp only [hy] at hk2; exact hk2
          | exc ex S2 => simp only [hy] at hk2; exact hk2
          | ok ds S2 =>
            simp only [hy] at hk2
            intro us m2 H02 H2 e2 rl2 i2
            have hk3 := Kt.later e2 hk2
            have hm2 := pre_get e2.pre hm
            cases hS2 : S2[k]? with
            | none => simp only [hS2] at hk3; exact hk3.elim
            | some c2 =>
              cases c2 with
              | lst xs =>
                simp only [hS2] at hk3
                obtain ⟨vs, g1, g2⟩ := rl2.cel hS2 hm2
                cases hf : f xs ds with
                | none => simp only [hf] at hk3; exact hk3.elim
                | some q =>
                  obtain ⟨d', xs'⟩ := q
                  simp only [hf] at hk3
                  exact hs m2 H02 H2 S2 a xs ds vs us d' xs' Q rl2 g1 g2 i2 hf fun v vs' iv ivs => hk3 v m2 H02 _ (Ext.setL (List.mem_of_getElem? hm2)) (rl2.setL hS2 hm2 rfl ⟨vs', upd_same, ivs⟩) iv
              | _ => simp only [hS2] at hk3; exact hk3.elim
        | _ => simp only [hS] at hk2; exact hk2.elim
    | _ => exact hk.elim
theorem me_mut (slot : Slot "list" name id) (hty : typeOf (.builtin id) = pure (.type "method_descriptor")) (hm : MtR X id r) (hs : SndM (gX X) r f) (ho : ME X W o x) (ha : MA X W (e :: es) y)
    (hbase : attributeBase o name X.env (eval o X.env) = eval o X.env := by rfl)
    (hfew : ((backTo cpos (starEach (e :: es) X.env)).all (fun x => !x.1) && (backToKw cpos (keywordEach [] X.env)).all (fun x => x.1.isSome)
      && decide ((e :: es).length + ([] : List Keyword).length + (if ([] : List Keyword).isEmpty then 0 else 1) < 30)) = true := by rfl)
    (hline : (apos.endLine == cpos.line) = true := by rfl) (hst : starEach (e :: es) X.env = (false, eval e X.env) :: starEach es X.env := by rfl) (hplain : (backTo cpos (starEach es X.env)).any (·.1) = false := by rfl) :
    ME X W (.Call (.Attribute o name apos) (e :: es) [] cpos) (eMut f x y) :=
  pe_imp (pe_bm PySem.F.plainAttrs_list slot hty hm ho ha hbase hfew hline hst hplain) fun σ H Q h => tm_mut hs h
def fApp (xs ds : List D) : Option (D × List D) := match ds with
  | [d] => if xs.length < sizeLine then some (.non, xs ++ [d]) else none
  | _ => none
theorem snd_app {G : Gc} : SndM G rAppend fApp := by
  intro m H0 H S a xs ds vs us d xs' Q rl ha ix iu hf k
  match ds, hf, iu with
  | [d0], hf, iu =>
    obtain ⟨u, rfl, i1⟩ := isl_one iu
    simp only [fApp] at hf
    by_cases hl : xs.length < sizeLine
    · rw [if_pos hl] at hf
      cases hf
      exact ⟨a, vs, u, rfl, rfl, ha, by rw [← ix.len]; exact hl, k .non _ (is_non.mpr rfl) (ix.append (isl_cons.mpr ⟨u, [], rfl, i1, isl_nil.mpr rfl⟩))⟩
    · rw [if_neg hl] at hf
      cases hf
theorem me_app (ho : ME X W o x) (ha : MA X W [e] y)
    (hbase : attributeBase o "append" X.env (eval o X.env) = eval o X.env := by rfl)
    (hfew : ((backTo cpos (starEach [e] X.env)).all (fun x => !x.1) && (backToKw cpos (keywordEach [] X.env)).all (fun x => x.1.isSome)
      && decide ([e].length + ([] : List Keyword).length + (if ([] : List Keyword).isEmpty then 0 else 1) < 30)) = true := by rfl)
    (hline : (apos.endLine == cpos.line) = true := by rfl) (hst : starEach [e] X.env = (false, eval e X.env) :: starEach [] X.env := by rfl) (hplain : (backTo cpos (starEach [] X.env)).any (·.1) = false := by rfl) :
    ME X W (.Call (.Attribute o "append" apos) [e] [] cpos) (eMut fApp x y) :=
  me_mut PySem.F.slot_list_append PySem.F.type_list_append mt_append snd_app ho ha hbase hfew hline hst hplain
end

/-! ### isinstance -/
def isiB (a : String) (T : String) : Bool := a == T || (a == "bool" && T == "int")
theorem kit_all : ∀ a ∈ ["NoneType", "bool", "int", "str", "tuple", "list"], ∀ T ∈ ["bool", "int", "str", "tuple", "list"], kitB a T = some (isiB a T) := by decide +kernel
def tyS (S : List Cel) : D → Option String
  | .cell k => (match S[k]? with
    | some (.lst _) => some "list"
    | _ => none)
  | d => tyD d
theorem tyS_ok {G : Gc} {m : List Addr} {H0 H : Hp} {S : List Cel} {d : D} {v : V} {T : String} (r : Rl G m S H0 H) (i : Is G H0 m d v) (h : tyS S d = some T) : TyX G.K H v (.type T) ∧ T ∈ ["NoneType", "bool", "int", "str", "tuple", "list"] := by
  have mem : ∀ d, tyD d = some T → T ∈ ["NoneType", "bool", "int", "str", "tuple", "list"] := by
    intro d h
    cases d <;> simp [tyD] at h <;> subst h <;> decide
  have key : tyD d = some T → TyX G.K H v (.type T) ∧ T ∈ ["NoneType", "bool", "int", "str", "tuple", "list"] := fun h' => ⟨tyD_ok r i h', mem _ h'⟩
  cases d with
  | cell k =>
    obtain ⟨a, rfl, hm⟩ := is_cell.mp i
    simp only [tyS] at h
    cases hk : S[k]? with
    | none => simp [hk] at h
    | some c =>
      cases c with
      | lst xs =>
        simp only [hk, Option.some.injEq] at h
        subst h
        obtain ⟨vs, e1, _⟩ := r.cel hk hm
        exact ⟨.base (.lst e1), by decide⟩
      | _ => simp [hk] at h
  | _ => exact key h
def eIs (T : String) (x : M) : M := eB x fun d _ S => match tyS S d with
  | some a => .ok (.bl (isiB a T)) S
  | none => .fail
def eIs2 (T U : String) (x : M) : M := eB x fun d _ S => match tyS S d with
  | some a => .ok (.bl (isiB a T || isiB a U)) S
  | none => .fail
section
variable {X : Cx} {W : WX} {e : Expr} {x : M} {p pos p1 p2 tp : Pos}
theorem me_is {t : Str} {T : String} (hT : T ∈ ["bool", "int", "str", "tuple", "list"]) (hg : Gl X "isinstance") (hm : X.mg "isinstance" = none) (hg1 : Gl X t) (hm1 : X.mg t = none) (hv : bootBuiltins t = some (.type T)) (he : ME X W e x)
    (hn : t ≠ "__name__" := by decide) (hd : (t == ("__debug__" : Str)) = false := by decide)
    (hs1 : starEach [e, .Name t p1] X.env = (false, eval e X.env) :: starEach [.Name t p1] X.env := by rfl) (hs2 : starEach [.Name t p1] X.env = (false, eval (.Name t p1) X.env) :: starEach [] X.env := by rfl)
    (hpl : (backTo pos (starEach [.Name t p1] X.env)).any (·.1) = false := by rfl) : ME X W (.Call (.Name "isinstance" p) [e, .Name t p1] [] pos) (eIs T x) :=
  pe_imp (pe_callB call_isi hg hm PyProof.Rows.boot_isinstance (pa_cons he (pa_cons (pe_bltn hg1 hm1 hv (show RelV (.ty T) (.type T) from rfl) hn hd) pa_nil hs2) hs1) (by decide) (by decide) hs1 hpl) fun σ H Q h => tm_mono (tm_b h) fun v H1 ⟨d, r, S, m, H0, he, rl, i, k⟩ => by
    cases ht : tyS S d with
    | none => simp only [ht] at k; exact k.elim
    | some a =>
      simp only [ht] at k
      obtain ⟨ty, ha⟩ := tyS_ok rl i ht
      exact ⟨v, .ty T, .type a, .type T, isiB a T, rfl, .ty T, ty, kit_ty (kit_all a ha T hT), kt_ok k rl (is_bl.mpr rfl)⟩
theorem me_is2 {t u : Str} {T U : String} {kk : Nat} (hT : T ∈ ["bool", "int", "str", "tuple", "list"]) (hU : U ∈ ["bool", "int", "str", "tuple", "list"]) (hg : Gl X "isinstance") (hm : X.mg "isinstance" = none) (hg1 : Gl X t) (hm1 : X.mg t = none) (hv : bootBuiltins t = some (.type T)) (hg2 : Gl X u) (hm2 : X.mg u = none) (hv2 : bootBuiltins u = some (.type U)) (he : ME X W e x)
    (hn : t ≠ "__name__" := by decide) (hd : (t == ("__debug__" : Str)) = false := by decide) (hn2 : u ≠ "__name__" := by decide) (hd2 : (u == ("__debug__" : Str)) = false := by decide)
    (hs1 : starEach [e, .Tuple [.Name t p1, .Name u p2] kk tp] X.env = (false, eval e X.env) :: starEach [.Tuple [.Name t p1, .Name u p2] kk tp] X.env := by rfl) (hs2 : starEach [.Tuple [.Name t p1, .Name u p2] kk tp] X.env = (false, eval (.Tuple [.Name t p1, .Name u p2] kk tp) X.env) :: starEach [] X.env := by rfl)
    (hs3 : starEach [.Name t p1, .Name u p2] X.env = (false, eval (.Name t p1) X.env) :: starEach [.Name u p2] X.env := by rfl) (hs4 : starEach [.Name u p2] X.env = (false, eval (.Name u p2) X.env) :: starEach [] X.env := by rfl)
    (hpl : (backTo pos (starEach [.Tuple [.Name t p1, .Name u p2] kk tp] X.env)).any (·.1) = false := by rfl) : ME X W (.Call (.Name "isinstance" p) [e, .Tuple [.Name t p1, .Name u p2] kk tp] [] pos) (eIs2 T U x) :=
  pe_imp (pe_callB call_isiT hg hm PyProof.Rows.boot_isinstance (pa_cons he (pa_cons (pe_tup (pa_cons (pe_bltn hg1 hm1 hv (show RelV (.ty T) (.type T) from rfl) hn hd) (pa_cons (pe_bltn hg2 hm2 hv2 (show RelV (.ty U) (.type U) from rfl) hn2 hd2) pa_nil hs4) hs3)) pa_nil hs2) hs1) (by decide) (by decide) hs1 hpl) fun σ H Q h => tm_mono (tm_b h) fun v H1 ⟨d, r, S, m, H0, he, rl, i, k⟩ => by
    cases ht : tyS S d with
    | none => simp only [ht] at k; exact k.elim
    | some a =>
      simp only [ht] at k
      obtain ⟨ty, ha⟩ := tyS_ok rl i ht
      refine ⟨by show 2 ≤ sizeLine; rw [sizeLine_eq]; omega, fun q hq => ?_⟩
      obtain ⟨ty2, _⟩ := tyS_ok (rl.beside (o := .tup [.ty T, .ty U]) hq) i ht
      refine ⟨v, q, [.ty T, .ty U], .type a, [.type T, .type U], isiB a T || isiB a U, rfl, upd_same, .cons (.ty T) (.cons (.ty U) .nil), ty2, ?_, k _ m H0 _ ((Ext.refl _ _ _).other hq) (rl.beside hq) (is_bl.mpr rfl)⟩
      refine kitAny_cons (kit_ty (kit_all a ha T hT)) (fun hb => kitAny_cons (kit_ty (kit_all a ha U hU)) (fun hb2 => ?_) fun hb2 => ?_) fun hb => ?_
      · rw [hb, hb2]; exact kitAny_nil
      · rw [hb, hb2]; rfl
      · rw [hb]; rfl
end
end Me
end
section
set_option Elab.async false
set_option linter.all false
set_option maxRecDepth 100000
namespace Me
open PySem PySem.Spec L2
open PyProof.Rows hiding St

/-! ### enumerate -/
def enumD (n : Nat) : List D → List D
  | [] => []
  | d :: ds => .tup [.int (n : Int), d] :: enumD (n + 1) ds
theorem enumD_len : ∀ (ds : List D) (n : Nat), (enumD n ds).length = ds.length
  | [], _ => rfl
  | d :: ds, n => by unfold enumD; rw [List.length_cons, List.length_cons, enumD_len ds]
theorem enumD_get : ∀ (ds : List D) (n i : Nat), (enumD n ds)[i]? = (ds[i]?).map fun d => D.tup [.int ((n + i : Nat) : Int), d]
  | [], _, _ => by simp [enumD]
  | d :: ds, n, 0 => by simp [enumD]
  | d :: ds, n, i + 1 => by
    simp only [enumD, List.getElem?_cons_succ]
    rw [enumD_get ds (n + 1) i, show n + 1 + i = n + (i + 1) by omega]
/-- the tuple at a, each item in a new pair -/
def Iet (K : PySem.W.Frag) (a : Addr) : It where
  go := fun i H => ∃ (xs : List V) (x : V), SqT K H a xs ∧ xs[i]? = some x
  yld := fun i H v H' => ∃ T x, v = .ref T ∧ H T = none ∧ H' = upd H T (.tup [.int (i : Nat), x]) ∧ ∀ xs, SqT K H a xs → xs[i]? = some x
  stop := fun i H => ∃ xs : List V, SqT K H a xs ∧ xs.length = i
theorem turn_enumT {P : Program} {w : World} {K : PySem.W.Frag} {elts : List Expr} {kk : Nat} {tpos : Pos} (a e it : Addr) :
    Turn P w K (.Tuple elts kk tpos) (Iet K a) [e, it] e (fun i h => (∃ old, IsEnum h e it ((i : Nat) : Int) old) ∧ h.IsTupleIter it a i ∧ e ≠ it ∧ a ≠ it ∧ e ≠ a) where
  mem := by simp
  obj := fun i h st b hb => by
    obtain ⟨⟨old, he⟩, ⟨o, ho, hc, hd⟩, _⟩ := st
    rcases (show b = e ∨ b = it by simpa using hb) with rfl | rfl
    · exact ⟨_, he, fun v q => nomatch q⟩
    · exact ⟨o, ho, fun v q => by rw [hd] at q; cases q⟩
  keep := fun i h h' st k => let ⟨⟨old, he⟩, hi, hne⟩ := st; ⟨⟨old, k e (by simp) _ he⟩, hi.at fun o q => k it (by simp) o q, hne⟩
  item := by
    intro X hP hw hK hc i pins s σ H E I hf st hg
    subst hP hw hK
    obtain ⟨⟨old, he⟩, hit, hne, hai, hea⟩ := st
    obtain ⟨xs, x, hq, hx⟩ := hg
    obtain ⟨its, rv, p, hz⟩ := I.tuple hq
    obtain ⟨u, hu, ru⟩ := rv.get hx
    have hel : e < s.heap.objs.size := Heap.lt_size he
    have hil : it < s.heap.objs.size := by obtain ⟨_, q, _⟩ := hit; exact Heap.lt_size q
    have hlt : i < its.toArray.size := by
      rw [List.size_toArray, ← rv.length]
      exact (List.getElem?_eq_some_iff.mp hx).1
    refine wpAny_pyNext_enum_itemD (Draws.tuple (A := X.A.in1) (I.ok.hd hc) it a hai its.toArray) he ⟨hit, show s.heap.IsTuple a its.toArray from p⟩ hlt hne (by simp [hne, hea]) fun y h' tk hy ho st' hT hsz hk => ?_
    have ey : y = u := by
      have q : its[i]? = some y := by simpa using hy
      rw [hu] at q
      exact (Option.some.inj q).symm
    subst ey
    refine ⟨_, rfl, wpAny_letOwnedTupleGo_enum (s := { s with heap := h', toks := tk + 1 }) ho fun h'' he' sb => ?_⟩
    have hT2 : h''.get? s.heap.objs.size = some { cls := .type "tuple", data := .seq #[.int i tk, y] } := (sb.2 _ (Nat.ne_of_gt hel)).trans hT
    have new : ObjOk X.prog X.w (upd H s.heap.objs.size (.tup [.int (i : Nat), x])) h'' s.heap.objs.size (.tup [.int (i : Nat), x]) :=
      ⟨by show 2 ≤ sizeLine; decide, [.int i tk, y], .cons ⟨_, rfl⟩ (.cons ru .nil), ⟨_, hT2, rfl, _, rfl⟩⟩
    have I1 : Inv X pins σ (upd H s.heap.objs.size (.tup [.int (i : Nat), x])) { s with heap := h'', toks := tk + 1 } :=
      I.turnedNew (ch := [e, it]) (fun b ob hb q => (sb.2 b (fun z => hb (by simp [z]))).trans (hk b ob (fun z => hb (by simp [z])) (fun z => hb (by simp [z])) q)) hf (Nat.le_refl _) new
    refine ⟨.ref s.heap.objs.size, _, I1, rfl, ⟨_, x, rfl, I.hok.fresh (Nat.le_refl _), rfl, fun ys hy => by rw [I.tuple_inj hy hq]; exact hx⟩, ⟨⟨y, ?_⟩, st'.1.at fun o q => (sb.2 it (Ne.symm hne)).trans q, hne, hai, hea⟩, fun b hb => ?_⟩
    · have e1 : ((i + 1 : Nat) : Int) = (i : Int) + 1 := by omega
      rw [e1]; exact he'
    · have hb' : b < s.heap.objs.size := by
        rcases (show b = e ∨ b = it by simpa using hb) with rfl | rfl
        · exact hel
        · exact hil
      rw [upd_ne (Nat.ne_of_lt hb')]
      exact (hf b hb).1
  done := by
    intro X hP hw hK hc i pins s σ H E I hf st hg
    subst hP hw hK
    obtain ⟨⟨old, he⟩, hit, hne, hai, hea⟩ := st
    obtain ⟨xs, hq, hx⟩ := hg
    obtain ⟨its, rv, p, hz⟩ := I.tuple hq
    obtain ⟨f0, f1, f2, f3, f4, f5⟩ := hf it (by simp)
    have hl : i = its.toArray.size := by rw [List.size_toArray, ← rv.length]; exact hx.symm
    subst hl
    exact wpAny_pyNext_enum_endD (Draws.tuple (A := X.A.in1) (I.ok.hd hc) it a hai its.toArray) he ⟨hit, show s.heap.IsTuple a its.toArray from p⟩ fun h' eb => ⟨rfl, I.turned (t' := s.toks) (fun b o hb q => eb b o hb q) f0 f1 f3 f4 f5⟩
  self := fun A i s Q E st h => let ⟨⟨_, he⟩, _⟩ := st; wpAny_pyIter_enum he h
/-- enumerate's new object over a tuple's iterator -/
theorem enum_new {v : Value} {o : Obj} {P : Heap → Prop} (B : Begins v o P) :
    Meets (Builtin.«enumerate.__new__» ⟨[.type "enumerate", v], []⟩) (fun _ R s => P s.heap ∧
      R (.ok (.ret (.ref (s.heap.push o).objs.size))) { s with heap := (s.heap.push o).push { cls := .type "enumerate", data := .fields #[.none, .bool false, .ref s.heap.objs.size, rawInt 0, .none, .none] } }) :=
  .of_wp fun prog w A R s h => by
    obtain ⟨hp, g, d, tk, os⟩ := s
    obtain ⟨h1, h⟩ := h
    have hsub := sub_enumerate
    have q1 : ∀ {A' : Around} {E : Value → Shared → Prop} {Q : Value → Shared → Prop}, Q (.ref hp.objs.size) ⟨hp.push o, g, d, tk, os⟩ → wpAny (model prog w) A' (pyIter v) Q E ⟨hp, g, d, tk, os⟩ :=
      fun q => B.iter prog w _ _ ⟨hp, g, d, tk, os⟩ _ h1 q
    wp_walk using q1
    refine wpAny_stack_any fun st => wpAny_pure ?_
    split
    · rename_i c _ _ _ _ _
      by_cases hc : (c == Value.type "enumerate") = true
      · simp only [hc]
        wp_walk using q1
        exact ⟨_, rfl, h⟩
      · simp only [hc]
        wp_walk using q1
        exact ⟨_, rfl, h⟩
    · wp_walk using q1
      exact ⟨_, rfl, h⟩
theorem call_enumT {prog : Program} {w : World} {A : Around} {E : Value → Shared → Prop} {s : Shared} {v : Value} {o : Obj} {P : Heap → Prop} {Q : Value → Shared → Prop} (B : Begins v o P) (h1 : P s.heap)
    (h : ∀ h', IsEnum h' (s.heap.objs.size + 1) s.heap.objs.size 0 .none → h'.get? s.heap.objs.size = some o → (∀ b o, s.heap.get? b = some o → h'.get? b = some o) → Q (.ref (s.heap.objs.size + 1)) { s with heap := h' }) :
    wpAny (model prog w) A (call (.type "enumerate") [v]) Q E s := by
  refine callType_new F.called_enumerate (by decide) (F.typeCall_enumerate_1 _) (F.newCall_enumerate_1 _) (fun obj => F.args_object_init_2 obj _) F.entry_enumerate_new (enum_new B) ⟨h1, ?_⟩
  have hz : (s.heap.push o).objs.size = s.heap.objs.size + 1 := Heap.size_push ..
  show _ ∧ _
  rw [hz]
  have he := Heap.get?_push_size (s.heap.push o) (o := { cls := .type "enumerate", data := .fields #[.none, .bool false, .ref s.heap.objs.size, rawInt 0, .none, .none] }) rfl
  rw [hz] at he
  exact ⟨⟨_, he, rfl⟩, h _ he (Heap.get?_push_of_some _ (Heap.get?_push_size _ B.free)) fun b o x => Heap.get?_push_of_some _ (Heap.get?_push_of_some _ x)⟩
section
variable {X : Cx} {W : WX} {G : Gc} {e : Expr} {x : M} {p pos tpos : Pos} {elts : List Expr} {kk : Nat}
def iEnumV (K : PySem.W.Frag) (ta : TA) : TI := fun σ H R => ta σ H fun vs H1 => ∃ a, vs = [.ref a] ∧ (((∃ xs, SqL K H1 a xs) ∧ R (Ite K a) H1) ∨ ((∃ xs, SqT K H1 a xs) ∧ R (Iet K a) H1))
theorem pi_enumV {ta : TA} (hg : Gl X "enumerate") (hm : X.mg "enumerate" = none) (ha : PA X [e] ta) (hs : starEach [e] X.env = [(false, eval e X.env)] := by rfl) :
    PI X (.Tuple elts kk tpos) (.Call (.Name "enumerate" p) [e] [] pos) (iEnumV X.K ta) := by
  refine ⟨fun pins s σ H R I h => ?_⟩
  refine Call_ (ld_blt I hg hm boot_enumerate (PyProof.Rows.callWith_type1 (thn (ha.run pos pins s σ H _ I h) fun us s1 ⟨vs, H1, I1, r1, q1⟩ => ?_) hs rfl))
  obtain ⟨a, ex, q⟩ := q1
  subst ex
  obtain ⟨u, rfl, ru⟩ := r1.one
  cases ru
  have two : ∀ b ∈ ([s1.heap.objs.size + 1, s1.heap.objs.size] : List Addr), FpOk X pins H1 b := fun b hb => by
    have hle : s1.heap.objs.size ≤ b := by
      rcases (show b = s1.heap.objs.size + 1 ∨ b = s1.heap.objs.size by simpa using hb) with rfl | rfl
      · exact Nat.le_add_right _ _
      · exact Nat.le_refl _
    exact I1.fpOk hle (I1.hok.fresh hle)
  rcases q with ⟨⟨xs, hq⟩, q⟩ | ⟨⟨xs, hq⟩, q⟩
  · obtain ⟨its, rv, p', hz⟩ := I1.list hq
    exact call_enumerate_list p'.isList fun h' he hit hsz hk => wpAny_pyIter_enum he ⟨s1.heap.objs.size + 1, [s1.heap.objs.size + 1, s1.heap.objs.size], _, _, H1, rfl, I1.kept (t' := s1.toks) hk, turn_enum a (s1.heap.objs.size + 1) s1.heap.objs.size, ⟨⟨.none, he⟩, hit, Nat.succ_ne_self _⟩, two, q⟩
  · obtain ⟨its, rv, p', hz⟩ := I1.tuple hq
    have ht : s1.heap.IsTuple a its.toArray := p'
    have hlt : a < s1.heap.objs.size := by obtain ⟨o, g, _⟩ := p'; exact Heap.lt_size g
    exact call_enumT (begins_tuple a its.toArray) ht fun h' he ho hk => wpAny_pyIter_enum he ⟨s1.heap.objs.size + 1, [s1.heap.objs.size + 1, s1.heap.objs.size], _, _, H1, rfl, I1.kept (t' := s1.toks) hk, turn_enumT a (s1.heap.objs.size + 1) s1.heap.objs.size, ⟨⟨.none, he⟩, ⟨_, ho, rfl, rfl⟩, Nat.succ_ne_self _, Nat.ne_of_lt hlt, Nat.ne_of_gt (Nat.lt_succ_of_lt hlt)⟩, two, q⟩
/-- for i, a in enumerate(list or tuple) -/
def iEnu (x : M) : MSrc := fun r S => (x r S).bind fun d S1 => match d with
  | .tup xs => .ok ⟨enumD 0 xs, none⟩ S1
  | d => match srcD S1 d with
    | some s => .ok ⟨enumD 0 s.ds, s.ck⟩ S1
    | none => .fail
theorem walk_enum {J : It} {s : Src} {H0b : Hp} {mb : List Addr} {xs : List D}
    (h : ∀ (S : List Cel) (m : List Addr) (H0 H : Hp), Same H0b H0 → mb <+: m → Rl G m S H0 H → s.ok S → ∃ vs, IsL G H0 m xs vs ∧ ∀ i : Nat, (∀ v, vs[i]? = some v → J.go i H ∧ ∀ x H', J.yld i H x H' → ∃ T, x = .ref T ∧ H T = none ∧ H' = upd H T (.tup [.int (i : Nat), v])) ∧ (vs.length = i → J.stop i H)) (hx : s.ds = enumD 0 xs) : WalkD G J H0b mb s := by
  intro S m H0 H i s0 p0 r hs
  obtain ⟨vs, e2, hh⟩ := h S m H0 H s0 p0 r hs
  refine ⟨fun d hd => ?_, fun hl => (hh i).2 (by rw [← e2.len, ← enumD_len xs 0, ← hx]; exact hl)⟩
  rw [hx, enumD_get, Option.map_eq_some_iff] at hd
  obtain ⟨d0, h0, rfl⟩ := hd
  obtain ⟨v, h1, h2⟩ := e2.get h0
  obtain ⟨go, yl⟩ := (hh i).1 v h1
  refine ⟨go, fun x H' y => ?_⟩
  obtain ⟨T, rfl, hT, rfl⟩ := yl x H' y
  refine ⟨upd H0 T (.tup [.int (i : Nat), v]), Ext.laid hT r.sub, r.laid hT, is_tup.mpr ⟨T, _, rfl, SqT.of upd_same, isl_cons.mpr ⟨_, _, rfl, is_int.mpr (by rw [Nat.zero_add]), isl_cons.mpr ⟨_, _, rfl, ?_, isl_nil.mpr rfl⟩⟩⟩⟩
  exact Is.mono (new_mono (m := m) hT r.sub) (List.prefix_refl _) _ _ h2
theorem ite_do {K : PySem.W.Frag} {H : Hp} {a : Addr} {vs : List V} (e : SqL K H a vs) (i : Nat) : (∀ v, vs[i]? = some v → (Ite K a).go i H ∧ ∀ x H', (Ite K a).yld i H x H' → ∃ T, x = .ref T ∧ H T = none ∧ H' = upd H T (.tup [.int (i : Nat), v])) ∧ (vs.length = i → (Ite K a).stop i H) := by
  refine ⟨fun v hv => ⟨⟨vs, v, e, hv⟩, ?_⟩, fun hl => ⟨vs, e, Nat.le_of_eq hl⟩⟩
  rintro x H' ⟨T, y, rfl, hT, rfl, hy⟩
  have q := hy vs e
  rw [hv] at q
  cases q
  exact ⟨T, rfl, hT, rfl⟩
theorem iet_do {K : PySem.W.Frag} {H : Hp} {a : Addr} {vs : List V} (e : SqT K H a vs) (i : Nat) : (∀ v, vs[i]? = some v → (Iet K a).go i H ∧ ∀ x H', (Iet K a).yld i H x H' → ∃ T, x = .ref T ∧ H T = none ∧ H' = upd H T (.tup [.int (i : Nat), v])) ∧ (vs.length = i → (Iet K a).stop i H) := by
  refine ⟨fun v hv => ⟨⟨vs, v, e, hv⟩, ?_⟩, fun hl => ⟨vs, e, hl⟩⟩
  rintro x H' ⟨T, y, rfl, hT, rfl, hy⟩
  have q := hy vs e
  rw [hv] at q
  cases q
  exact ⟨T, rfl, hT, rfl⟩
theorem mi_enu (hg : Gl X "enumerate") (hm : X.mg "enumerate" = none) (he : ME X W e x) (hs : starEach [e] X.env = (false, eval e X.env) :: starEach [] X.env := by rfl) (hs' : starEach [e] X.env = [(false, eval e X.env)] := by rfl) :
    MI X W (.Tuple elts kk tpos) (.Call (.Name "enumerate" p) [e] [] pos) (iEnu x) := by
  refine pi_imp (pi_enumV hg hm (pa_cons he pa_nil hs) hs') fun σ H Q hq => ?_
  refine tm_mono (tmi_b (f := fun d S1 => match d with
    | .tup xs => .ok ⟨enumD 0 xs, none⟩ S1
    | d => match srcD S1 d with
      | some s => .ok ⟨enumD 0 s.ds, s.ck⟩ S1
      | none => .fail) hq) ?_
  rintro v H1 ⟨d, S, m, H0, rl, i, k⟩
  have lst : ∀ (k : KtI (gX X) W σ m H0 H1 (match srcD S d with
      | some s => R.ok ⟨enumD 0 s.ds, s.ck⟩ S
      | none => .fail) Q), ∃ a, [v] = [.ref a] ∧ (((∃ xs, SqL X.K H1 a xs) ∧ Q (Ite X.K a) H1) ∨ ((∃ xs, SqT X.K H1 a xs) ∧ Q (Iet X.K a) H1)) := by
    intro k
    cases hs : srcD S d with
    | none => rw [hs] at k; exact k.elim
    | some s =>
      rw [hs] at k
      cases d with
      | lst xs =>
        simp only [srcD, Option.some.injEq] at hs
        subst hs
        obtain ⟨a, vs, rfl, e1, e2⟩ := is_lst.mp i
        exact ⟨a, rfl, Or.inl ⟨⟨vs, SqL.of (rl.sub _ _ e1)⟩, k _ m H0 H1 (Ext.refl _ _ _) rl (walk_enum (G := gX X) (xs := xs) (fun S' m' H0' H' s0 p0 r' _ => ⟨vs, IsL.mono s0 p0 _ _ e2, ite_do (SqL.of (r'.sub _ _ (s0 _ _ e1)))⟩) rfl)⟩⟩
      | frl xs =>
        simp only [srcD, Option.some.injEq] at hs
        subst hs
        obtain ⟨a, vs, rfl, e1, e2⟩ := is_frl.mp i
        exact ⟨a, rfl, Or.inl ⟨⟨vs, rl.sub.seq e1⟩, k _ m H0 H1 (Ext.refl _ _ _) rl (walk_enum (G := gX X) (xs := xs) (fun S' m' H0' H' s0 p0 r' _ => ⟨vs, IsL.mono s0 p0 _ _ e2, ite_do (r'.sub.seq (s0.seq e1))⟩) rfl)⟩⟩
      | cell j =>
        obtain ⟨a, rfl, hm⟩ := is_cell.mp i
        simp only [srcD] at hs
        cases hj : S[j]? with
        | none => simp [hj] at hs
        | some c =>
          cases c with
          | lst xs =>
            simp only [hj, Option.some.injEq] at hs
            subst hs
            obtain ⟨vs, e1, e2⟩ := rl.cel hj hm
            exact ⟨a, rfl, Or.inl ⟨⟨vs, SqL.of e1⟩, k _ m H0 H1 (Ext.refl _ _ _) rl (walk_enum (G := gX X) (xs := xs) (fun S' m' H0' H' s0 p0 r' ok => by
              obtain ⟨ws, f1, f2⟩ := r'.cel (show S'[j]? = some (.lst xs) from ok) (pre_get p0 hm)
              exact ⟨ws, f2, ite_do (SqL.of f1)⟩) rfl)⟩⟩
          | _ => simp [hj] at hs
      | _ => simp [srcD] at hs
  cases d with
  | tup xs =>
    have k' : KtI (gX X) W σ m H0 H1 (.ok ⟨enumD 0 xs, none⟩ S) Q := k
    obtain ⟨a, vs, rfl, e1, e2⟩ := is_tup.mp i
    exact ⟨a, rfl, Or.inr ⟨⟨vs, seqT_same rl.sub e1⟩, k' _ m H0 H1 (Ext.refl _ _ _) rl (walk_enum (G := gX X) (xs := xs) (fun S' m' H0' H' s0 p0 r' _ => ⟨vs, IsL.mono s0 p0 _ _ e2, iet_do (seqT_same r'.sub (seqT_same s0 e1))⟩) rfl)⟩⟩
  | lst _ => exact lst k
  | frl _ => exact lst k
  | cell _ => exact lst k
  | non => exact lst k
  | bl _ => exact lst k
  | int _ => exact lst k
  | str _ => exact lst k
  | obj _ _ _ => exact lst k
end
end Me
end
section
set_option Elab.async false
set_option linter.all false
set_option maxRecDepth 100000
namespace Me
open PySem PySem.Spec L2
open PyProof.Rows hiding St

/-! ### -x -/
def eNeg (x : M) : M := eB x fun d _ S => match d with
  | .int i => .ok (.int (-i)) S
  | _ => .fail
section
variable {X : Cx} {W : WX} {e : Expr} {x : M} {pos : Pos}
theorem me_neg (h : ME X W e x) : ME X W (.UnaryOp .USub e pos) (eNeg x) :=
  pe_imp (pe_un un_neg h) fun σ H Q h => tm_mono (tm_b h) fun v H1 ⟨d, r, S, m, H0, he, rl, i, k⟩ => by
    cases d with
    | int j => exact ⟨j, is_int.mp i, kt_ok k rl (is_int.mpr rfl)⟩
    | _ => exact k.elim
end

/-! ### slices of a list -/
abbrev MO := Rho → List Cel → R (Option Int)
def KtO (G : Gc) (W : WX) (σ : L2.St) (m : List Addr) (H0 H : Hp) (r : R (Option Int)) (Q : Option Int → Hp → Prop) : Prop :=
  match r with
  | .fail => False
  | .ok b S => ∀ m' H0' H', Ext m H0 H m' H0' H' → Rl G m' S H0' H' → Q b H'
  | .exc e S => ∀ cls dd m' H0' H', Ext m H0 H m' H0' H' → Rl G m' S H0' H' → ExIs G H0' m' H' e cls dd → W cls dd σ H'
theorem KtO.later {G : Gc} {W : WX} {σ : L2.St} {m m1 : List Addr} {H0 H H01 H1 : Hp} {r : R (Option Int)} {Q : Option Int → Hp → Prop} (e : Ext m H0 H m1 H01 H1) (h : KtO G W σ m H0 H r Q) : KtO G W σ m1 H01 H1 r Q := by
  cases r with
  | fail => exact h
  | ok d S => exact fun m' H0' H' x => h m' H0' H' (e.trans x)
  | exc ex S => exact fun c d m' H0' H' x => h c d m' H0' H' (e.trans x)
def tMO (G : Gc) (W : WX) (x : MO) : TO := fun σ H Q => ∃ r S m H0, EnvR G H0 m r σ ∧ Rl G m S H0 H ∧ KtO G W σ m H0 H (x r S) Q
def MOp (X : Cx) (W : WX) (e : Option Expr) (x : MO) : Prop := PO X e (tMO (gX X) W x)
theorem po_imp {X : Cx} {e : Option Expr} {t t' : TO} (h : PO X e t) (w : ∀ σ H Q, t' σ H Q → t σ H Q) : PO X e t' := ⟨fun pins s σ H Q I q => h.run pins s σ H Q I (w σ H Q q)⟩
def oNo : MO := fun _ S => .ok none S
def oSo (x : M) : MO := fun r S => (x r S).bind fun d S1 => match d with
  | .int i => .ok (some i) S1
  | _ => .fail
def cutD (xs : List D) (lo hi : Option Int) : List D := (xs.drop (HT.sIx xs.length 0 lo)).take (HT.sIx xs.length xs.length hi - HT.sIx xs.length 0 lo)
def eSl (x : M) (lo hi : MO) : M := fun r S => (x r S).bind fun d S1 => (lo r S1).bind fun l S2 => (hi r S2).bind fun u S3 => match lstD S3 d with
  | some xs => .ok (.lst (cutD xs l u)) S3
  | none => (match d with
    | .tup xs => if ¬ (HT.sIx xs.length 0 l = 0 ∧ HT.sIx xs.length xs.length u = xs.length) then .ok (.tup (cutD xs l u)) S3 else .fail
    | _ => .fail)
theorem IsL.cut {G : Gc} {H0 : Hp} {m : List Addr} {xs : List D} {vs : List V} (h : IsL G H0 m xs vs) (lo hi : Option Int) : IsL G H0 m (cutD xs lo hi) (cutV vs lo hi) := by
  unfold cutD cutV
  rw [h.len]
  exact (h.drop _).take _
section
variable {X : Cx} {W : WX} {e : Expr} {x : M} {pos p2 : Pos} {lo hi : Option Expr} {l u : MO}
theorem mo_none : MOp X W none oNo := po_imp po_none fun σ H Q ⟨r, S, m, H0, he, hr, hk⟩ => hk m H0 H (Ext.refl _ _ _) hr
theorem mo_some (h : ME X W e x) : MOp X W (some e) (oSo x) := po_imp (po_some h) fun σ H Q ⟨r, S, m, H0, he, hr, hk⟩ => by
  refine ⟨r, S, m, H0, he, hr, ?_⟩
  unfold oSo at hk
  cases hx : x r S with
  | fail => simp only [hx] at hk; exact hk
  | exc ex S1 => simp only [hx] at hk; exact hk
  | ok d S1 =>
    simp only [hx, R.bind] at hk
    intro v m' H0' H' ex rl i
    cases d with
    | int j => exact ⟨j, is_int.mp i, hk m' H0' H' ex rl⟩
    | _ => exact hk.elim
theorem me_sl (h : ME X W e x) (hl : MOp X W lo l) (hh : MOp X W hi u) : ME X W (.Subscript e (.Slice lo hi none p2) pos) (eSl x l u) :=
  pe_imp (pe_slice (sl_list.or sl_tup) h hl hh) fun σ H Q ⟨r, S, m, H0, he, hr, hk⟩ => by
    refine ⟨r, S, m, H0, he, hr, ?_⟩
    unfold eSl at hk
    cases hx : x r S with
    | fail => simp only [hx] at hk; exact hk
    | exc ex S1 => simp only [hx] at hk; exact hk
    | ok d S1 =>
      simp only [hx, R.bind] at hk
      intro v m1 H01 H1 e1 rl1 i1
      refine ⟨r, S1, m1, H01, he.mono e1.imm e1.pre, rl1, ?_⟩
      have k1 := Kt.later e1 hk
      cases hl : l r S1 with
      | fail => simp only [hl] at k1; exact k1
      | exc ex S1 => simp only [hl] at k1; exact k1
      | ok a S2 =>
        simp only [hl] at k1
        intro m2 H02 H2 e2 rl2
        refine ⟨r, S2, m2, H02, (he.mono e1.imm e1.pre).mono e2.imm e2.pre, rl2, ?_⟩
        have k2 := Kt.later e2 k1
        cases hu : u r S2 with
        | fail => simp only [hu] at k2; exact k2
        | exc ex S1 => simp only [hu] at k2; exact k2
        | ok b S3 =>
          simp only [hu] at k2
          intro m3 H03 H3 e3 rl3
          have k3 := Kt.later e3 k2
          have i3 := Is.mono e3.imm e3.pre _ _ (Is.mono e2.imm e2.pre _ _ i1)
          cases hd : lstD S3 d with
          | some xs =>
            simp only [hd] at k3
            obtain ⟨p, vs, rfl, f1, f2⟩ := lstD_ok rl3 i3 hd
            exact Or.inl ⟨p, vs, rfl, f1, fun q hq => kt_lst k3 rl3 (f2.cut a b) hq⟩
          | none =>
            simp only [hd] at k3
            cases d with
            | tup xs =>
              by_cases hc : ¬ (HT.sIx xs.length 0 a = 0 ∧ HT.sIx xs.length xs.length b = xs.length)
              · simp only [if_pos hc] at k3
                obtain ⟨p, vs, rfl, f1, f2⟩ := tup_ok rl3 i3
                exact Or.inr ⟨p, vs, rfl, f1, by rw [← f2.len]; exact hc, fun q hq => kt_tup k3 rl3 (f2.cut a b) hq⟩
              · simp only [if_neg hc] at k3
                exact k3.elim
            | _ => exact k3.elim
end

/-! ### dict(pairs)[k] -/
def pairsD : List D → Option (List (Int × D))
  | [] => some []
  | .tup [.int k, d] :: r => (pairsD r).map ((k, d) :: ·)
  | _ => none
def lastV (k : Int) : List (Int × D) → Option D → Option D
  | [], o => o
  | (j, d) :: r, o => lastV k r (if k = j then some d else o)
def eDic (x i : M) : M := eB x fun d => match d with
  | d => fun r S => match (lstD S d).bind pairsD with
    | some ps => (i r S).bind fun k S1 => (match k with
      | .int j => (match lastV j ps none with
        | some d => .ok d S1
        | none => .fail)
      | _ => .fail)
    | none => .fail
section
variable {G : Gc} {m : List Addr} {H0 H : Hp}
theorem pairs_ok {S : List Cel} (rl : Rl G m S H0 H) : ∀ {ds : List D} {vs : List V} {ps : List (Int × D)}, IsL G H0 m ds vs → pairsD ds = some ps →
    ∃ (as : List Addr) (kvs : List (Key × V)), vs = as.map V.ref ∧ Paired (fun p kv => SqT G.K H p [kV kv.1, kv.2]) as kvs ∧ ∀ (k : Int) (acc : List (Key × V)) (o : Option D), (∀ d, o = some d → ∃ v, valV acc (.inl k) = some v ∧ Is G H0 m d v) →
      ∀ d, lastV k ps o = some d → ∃ v, valV (mergeK acc kvs) (.inl k) = some v ∧ Is G H0 m d v
  | [], vs, ps, i, h => by
    rw [isl_nil.mp i]
    simp [pairsD] at h
    subst h
    exact ⟨[], [], rfl, .nil, fun k acc o ho d hd => ho d hd⟩
  | d0 :: ds, vs, ps, i, h => by
    obtain ⟨v, w, rfl, i1, i2⟩ := isl_cons.mp i
    match d0, h, i1 with
    | .tup [.int k0, d1], h, i1 =>
      simp only [pairsD, Option.map_eq_some_iff] at h
      obtain ⟨qs, hq, rfl⟩ := h
      obtain ⟨as, kvs, rfl, hp, hv⟩ := pairs_ok rl i2 hq
      obtain ⟨a, us, rfl, e1, e2⟩ := tup_ok rl i1
      obtain ⟨u1, u2, rfl, f1, f2⟩ := isl_two e2
      rw [is_int.mp f1] at e1
      refine ⟨a :: as, (.inl k0, u2) :: kvs, rfl, .cons e1 hp, fun k acc o ho d hd => ?_⟩
      simp only [lastV] at hd
      refine hv k (putK acc (.inl k0) u2) _ (fun d' hd' => ?_) d hd
      rw [valV_put]
      by_cases hk : k = k0
      · subst hk
        rw [if_pos rfl] at hd' ⊢
        cases hd'
        exact ⟨u2, rfl, f2⟩
      · rw [if_neg hk] at hd'
        rw [if_neg (fun z => hk (Sum.inl.inj z))]
        exact ho d' hd'
end
section
variable {X : Cx} {W : WX} {e i : Expr} {x y : M} {pos cpos p : Pos}
theorem me_dic (hcalm : X.calm = true) (hu : X.A.units + 1 < cLine) (hg : Gl X "dict") (hm : X.mg "dict" = none) (hx : ME X W e x) (hi : ME X W i y) (hns : NoSl i := by intro _ _; rfl)
    (he : starEach [e] X.env = (false, eval e X.env) :: starEach [] X.env := by rfl) (hpl : (backTo cpos (starEach [] X.env)).any (·.1) = false := by rfl) :
    ME X W (.Subscript (.Call (.Name "dict" p) [e] [] cpos) i pos) (eDic x y) :=
  pe_imp (pe_dget hu (pe_callTy (call_dictP hcalm) hg hm (by rfl) (pa_cons hx pa_nil he) (by decide) (by decide) he hpl) hi hns) fun σ H Q h => tm_mono (tm_b h) fun v H1 ⟨d, r, S, m, H0, he, rl, i1, k⟩ => by
    cases hd : (lstD S d).bind pairsD with
    | none => simp only [hd] at k; exact k.elim
    | some ps =>
      simp only [hd] at k
      rw [Option.bind_eq_some_iff] at hd
      obtain ⟨xs, hl, hp⟩ := hd
      obtain ⟨a, vs, rfl, f1, f2⟩ := lstD_ok rl i1 hl
      obtain ⟨as, kvs, rfl, hpr, hv⟩ := pairs_ok rl f2 hp
      refine ⟨a, as, kvs, rfl, f1, hpr, fun q hq => ?_⟩
      have e1 : Ext m H0 H1 m H0 (upd H1 q (.dK (mergeK [] kvs))) := (Ext.refl _ _ _).other hq
      have rl1 := rl.beside (o := .dK (mergeK [] kvs)) hq
      have ap := Apart.new (o := .dK (mergeK [] kvs)) rl hq
      have k1 := Kt.later e1 k
      refine ⟨r, S, m, H0, he, rl1, ?_⟩
      cases hy : y r S with
      | fail => simp only [hy] at k1; exact k1
      | exc ex S1 => simp only [hy] at k1; exact k1
      | ok kd S1 =>
        simp only [hy, R.bind] at k1
        intro kv m2 H02 H2 e2 rl2 i2
        cases kd with
        | int j =>
          simp only at k1
          cases hla : lastV j ps none with
          | none => simp only [hla] at k1; exact k1.elim
          | some d' =>
            simp only [hla] at k1
            obtain ⟨v', g1, g2⟩ := hv j [] none (fun d h => by cases h) d' hla
            rw [is_int.mp i2]
            refine ⟨q, v', rfl, ?_, k1 v' m2 H02 H2 e2 rl2 (Is.mono e2.imm e2.pre _ _ g2)⟩
            have := DGet.k (k := .inl j) (ap.later e2).at_
            rw [g1] at this
            exact this
        | _ => exact k1.elim
end

/-! ### len of an own class's instance -/
/-- the lengths that len takes -/
def SmallN (n : Int) : Prop := 0 ≤ n ∧ n < 2 ^ 63
open Classical in
noncomputable def eLenO (c : Str) (F : DF) (x : M) : M := eB x fun d _ S => match d with
  | .obj c' _ _ => if c' = c then (match callP F [d] S with
    | .ok (.int n) S1 => if SmallN n then .ok (.int n) S1 else .fail
    | .exc e S1 => .exc e S1
    | _ => .fail) else .fail
  | _ => .fail
theorem lenO_run {P : Program} {w : World} {A : Around} {E : Value → Shared → Prop} {s : Shared} {K : PySem.W.Frag} {a C f : Addr} {ob : Obj} {od : Option Obj} {Q : Value → Shared → Prop} (hK : K.In s.heap) (J : PySem.W.InstAt s.heap a ob C od)
    (hs : PySem.W.findIn K (.ref C) "__len__" = some (some (.ref f))) (hf : PySem.W.isFn K (.ref f) = true) (h : wpAny (model P w) A.in1 (call (.ref f) [.ref a]) (fun v s' => ∃ (n : Int) (t : Tok), v = .int n t ∧ 0 ≤ n ∧ n < 2 ^ 63 ∧ Q (.int n s'.toks) { s' with toks := s'.toks + 1 }) E s) :
    wpAny (model P w) A (call (.builtin "len") [.ref a]) Q E s := by
  refine Calls.call_function_entry kind_len plain_len entry_len (args_len1 _) ?_
  unfold Builtin.«len»
  refine wpAny_bind (m := oneArg "len" _) (wpAny_pure (wpAny_bind (m := callSpecial? (.ref a) (Str.ofString "__len__")) (PySem.W.special_fn hK J hs (beq_iff_eq.mp hf) (wpAny_mono h (fun v s' hv => ?_) fun _ _ z => z))))
  obtain ⟨n, t, rfl, h0, h1, q⟩ := hv
  refine wpAny_bind (wpAny_holding (wpAny_pure (wpAny_bind (wpAny_letGo ?_))))
  show wpAny _ _ (if n < 0 then _ else _) _ _ _
  rw [if_neg (Int.not_lt.mpr h0)]
  show wpAny _ _ (if n ≥ 2 ^ 63 then _ else _) _ _ _
  rw [if_neg (Int.not_le.mpr h1)]
  exact wpAny_bind (wpAny_mkInt (wpAny_pure ⟨_, rfl, q⟩))
theorem guards_in1 {A : Around} (h : A.guards = some []) : A.in1.guards = some [] := h
section
variable {X : Cx} {W : WX} {e : Expr} {x : M} {pos p : Pos} {c : Str} {C f : Addr} {F : DF} {k : Nat} {fd : FuncData} {ps : List Str} {g : List Value → List Value → List Value} {gV : List V → List V → List V}
theorem call_lenO (cl : Cls X.K C) (hs : PySem.W.findIn X.K (.ref C) "__len__" = some (some (.ref f))) (hf : PySem.W.isFn X.K (.ref f) = true) (Fn : FnG X.prog X.w X.K X.mg X.base k f fd ps (spM (gX X) 1 F)) (hb : KBinds X.K fd ps [] g gV) (hgv : ∀ v, gV [v] [] = [v]) (hr : Room (k + 1) X.A) (hgu : X.A.guards = some []) (tk : Takes X W) :
    CallX X (.builtin "len") [] (fun σ xs zs H Q => ∃ a dx fs, xs = [.ref a] ∧ H a = some (.ins C dx fs) ∧ spM (gX X) 1 F xs H (fun v H1 => ∃ n, v = .int n ∧ 0 ≤ n ∧ n < 2 ^ 63 ∧ Q v H1) (WE W σ)) := by
  intro pins s σ H xs us zs ws Q I rx rz h
  obtain ⟨a, dx, fs, rfl, ha, h⟩ := h
  obtain ⟨u, rfl, ru⟩ := rx.one
  cases ru
  rw [show ([] : List Str).zip ws = [] from List.zip_nil_left]
  have rg := hb.rel (vs := [V.ref a]) (us := [Value.ref a]) (zs := []) (ws := []) (.cons rfl .nil) .nil
  rw [hgv] at rg
  have hl : (g [Value.ref a] []).length = ps.length := by rw [← rg.length]; exact Fn.len _ _ _ _ h
  obtain ⟨mA, O, _⟩ := ins_get I.hok ha
  obtain ⟨od, J, _⟩ := O.look
  refine lenO_run I.kIn J hs hf (wpAny_call ?_)
  refine codeAny_mono (Fn.go X.A.in1 X.stack s H ⟨[.ref a], []⟩ (g [Value.ref a] []) [.ref a] _ (WE W σ) hr.in1 (guards_in1 hgu) I.env0.in1 (hb.to s [.ref a] [] I.kIn hl) rg h) ?_
  intro res s' hq
  cases res with
  | error e => exact passAt tk σ pins H s e s' I hq
  | ok fl => cases fl with
    | ret u =>
      obtain ⟨v, H', I', rv, n, rfl, h0, h1, q⟩ := I.after hq
      obtain ⟨t, rfl⟩ := rv
      exact ⟨n, t, rfl, h0, h1, .int n, H', I'.tok _, ⟨_, rfl⟩, q⟩
    | next => exact hq.elim
    | brk => exact hq.elim
    | cont => exact hq.elim
theorem pe_bx {id : Str} {b : String} {r : L2.St → List V → List V → Hp → VK → Prop} {es : List Expr} {t : TA} (hc : CallX X (.builtin b) [] r) (hg : Gl X id) (hm : X.mg id = none) (hv : bootBuiltins id = some (.builtin b)) (ha : PA X (e :: es) t) (hn : id ≠ "__name__" := by decide)
    (hdb : (id == ("__debug__" : Str)) = false := by decide) (he : starEach (e :: es) X.env = (false, eval e X.env) :: starEach es X.env := by rfl) (hpl : (backTo pos (starEach es X.env)).any (·.1) = false := by rfl) :
    PE X (.Call (.Name id p) (e :: es) [] pos) (fun σ H Q => t σ H fun vs H1 => r σ vs [] H1 Q) := by
  refine ⟨fun pins s σ H Q I h => ?_⟩
  refine Call_ (ld_blt I hg hm hv ?_ hn hdb)
  exact PyProof.Rows.callWith_builtin1 (thn (ha.run pos pins s σ H _ I h) fun us s1 ⟨vs, H1, I1, r1, q1⟩ => hc pins s1 σ H1 vs us [] [] Q I1 r1 .nil q1) he hpl
theorem me_lenO (hC : X.mg c = some (.ref C)) (cl : Cls X.K C) (hs : PySem.W.findIn X.K (.ref C) "__len__" = some (some (.ref f))) (hf : PySem.W.isFn X.K (.ref f) = true) (Fn : FnG X.prog X.w X.K X.mg X.base k f fd ps (spM (gX X) 1 F)) (hb : KBinds X.K fd ps [] g gV) (hgv : ∀ v, gV [v] [] = [v]) (hr : Room (k + 1) X.A) (hgu : X.A.guards = some []) (tk : Takes X W)
    (hg : Gl X "len") (hm : X.mg "len" = none) (hx : ME X W e x) (he : starEach [e] X.env = (false, eval e X.env) :: starEach [] X.env := by rfl) (hpl : (backTo pos (starEach [] X.env)).any (·.1) = false := by rfl) :
    ME X W (.Call (.Name "len" p) [e] [] pos) (eLenO c F x) :=
  pe_imp (pe_bx (call_lenO cl hs hf Fn hb hgv hr hgu tk) hg hm (by rfl) (pa_cons hx pa_nil he) (by decide) (by decide) he hpl) fun σ H Q h => tm_mono (tm_b h) fun v H1 ⟨d, r, S, m, H0, he, rl, i, k⟩ => by
    cases d with
    | obj c' ns ds =>
      by_cases hc : c' = c
      · simp only [if_pos hc] at k
        obtain ⟨a, C', dx, fs, rfl, e2, e3, e4, e5⟩ := is_obj.mp i
        rw [hc] at e2
        have e2' : X.mg c = some (.ref C') := e2
        rw [hC] at e2'
        cases e2'
        refine ⟨a, dx, fs, rfl, rl.sub _ _ e3, ?_⟩
        refine callP_snd (S := S) rfl rl (isl_cons.mpr ⟨_, _, rfl, i, isl_nil.mpr rfl⟩) ?_
        cases hF : callP F [D.obj c' ns ds] S with
        | fail => simp only [hF] at k; exact k
        | exc ex S1 => simp only [hF] at k; exact k
        | ok d S1 =>
          simp only [hF] at k
          cases d with
          | int n =>
            by_cases hn : SmallN n
            · simp only [if_pos hn] at k
              exact fun v m' H0' H' ex rl' iv => ⟨n, is_int.mp iv, hn.1, hn.2, k v m' H0' H' ex rl' iv⟩
            · simp only [if_neg hn] at k; exact k.elim
          | _ => exact k.elim
      · simp only [if_neg hc] at k
        exact k.elim
    | _ => exact k.elim
end
end Me
end
section
set_option Elab.async false
set_option linter.all false
set_option maxRecDepth 100000
namespace Me
open PySem PySem.Spec L2
open PyProof.Rows hiding St

/-! ### a def's function by its body's -/
def stD (N : List Str) (ds : List D) : Rho := ds.map some ++ List.replicate (N.length - ds.length) none
def runF (N : List Str) (b : MS) : DF := fun ds S => match b (stD N ds) S with
  | .nx _ S1 => .ok .non S1
  | .rt d S1 => .ok d S1
  | .exc e _ S1 => .exc e S1
  | _ => .fail
theorem env_start {G : Gc} {H0 : Hp} {m : List Addr} {N : List Str} {ds : List D} {vs : List V} (h : IsL G H0 m ds vs) : EnvR G H0 m (stD N ds) (L2.start N vs) := by
  refine ⟨by simp [stD, L2.start, h.len], fun i d q => ?_⟩
  unfold stD at q
  unfold L2.start
  by_cases hi : i < ds.length
  · rw [List.getElem?_append_left (by simpa using hi), List.getElem?_map] at q
    rw [List.getElem?_append_left (by simpa [← h.len] using hi), List.getElem?_map]
    cases e : ds[i]? with
    | none => rw [e] at q; cases q
    | some d' =>
      rw [e] at q
      cases q
      obtain ⟨v, h1, h2⟩ := h.get e
      exact ⟨v, by rw [h1]; rfl, h2⟩
  · rw [List.getElem?_append_right (by simpa using Nat.le_of_not_lt hi)] at q
    have := List.mem_of_getElem? q
    simp at this
/-- what a body's context grants -/
structure Bc (X : Cx) (W : WX) (k : Nat) : Prop where
  calm : X.calm = true
  tk : Takes X W
  po : PassesOwn (model X.prog X.w) X.A X.env X.xe
  gu : X.A.guards = some []
  room : Room k X.A
  hN : X.N.Nodup
theorem takes_none {X : Cx} : Takes X W0 := fun _ _ ⟨_, _, _, _, _, _, _, _, _, _, _, _, _, _, _, _, h⟩ => h.elim
theorem Room.uni {k : Nat} {A : Around} (r : Room k A) : A.units + 64 < cLine := r.units
theorem FnG.of {P : Program} {w : World} {K : PySem.W.Frag} {mg : Str → Option Value} {base : Heap} {x qual : Str} {params : Arguments} {body : List Stmt} {scope : Scope} {dvs : List V} {kws : List (Str × V)} {f : Addr} {fd : FuncData} {N ps : List Str} {k : Nat} {b : MS}
    (F : FunD K x qual params body scope dvs kws f fd) (Sc : FnScope N ps scope)
    (h : ∀ (cdv : Value) (A : Around) (outer : List Env) (s : Shared) (H : Hp) (E : XK), Bc (cxOf (L2.CX P w) P w K mg base N qual scope f cdv A outer s H E) (fun c d _ H => E c d H) k → MPs (cxOf (L2.CX P w) P w K mg base N qual scope f cdv A outer s H E) (fun c d _ H => E c d H) body b) :
    FnG P w K mg base (k + 1) f fd ps (spM ⟨K, mg⟩ ps.length (runF N b)) := by
  refine FnG.mk' F Sc (fun vs H Q E h => h.1) fun cdv A outer s H vs Q E hr hg hsp => ?_
  refine ⟨_, h cdv A outer s H E ⟨rfl, takes_of rfl rfl rfl rfl, passes_of rfl, hg, hr, Sc.nd⟩, ?_⟩
  obtain ⟨hl, ds, S, m, H0, i, rl, k⟩ := hsp
  refine ⟨stD N ds, S, m, H0, env_start i, rl, ?_⟩
  unfold runF at k
  cases hb : b (stD N ds) S with
  | fail => rw [hb] at k; exact k
  | bk _ _ => rw [hb] at k; exact k.elim
  | ct _ _ => rw [hb] at k; exact k.elim
  | nx r S1 => rw [hb] at k; exact fun σ m' H0' H' ex rl' _ => k .non m' H0' H' ex rl' (is_non.mpr rfl)
  | rt d S1 => rw [hb] at k; exact k
  | exc e r S1 => rw [hb] at k; exact fun cls dd σ m' H0' H' ex rl' _ i => k cls dd m' H0' H' ex rl' i
/-- fewer levels -/
theorem FnG.mono {P : Program} {w : World} {K : PySem.W.Frag} {mg : Str → Option Value} {base : Heap} {k j : Nat} {f : Addr} {fd : FuncData} {ps : List Str} {sp : Sp} (F : FnG P w K mg base k f fd ps sp) (h : k ≤ j) : FnG P w K mg base j f fd ps sp :=
  ⟨F.len, fun A outer s H args us vs Q E hr => F.go A outer s H args us vs Q E (hr.mono h)⟩

/-! ### the law's end -/
theorem law_end {P : Program} {w : World} {K : PySem.W.Frag} {mg mb : Str → Option Value} {k : Nat} {fa a : Addr} {fd : FuncData} {x : Str} {F : DF} {s : Shared} {vs : List Value} {ns : List Int}
    (kin : K.In s.heap) (nsm : s.heap.Ns mainGlobals mg) (nsb : s.heap.Ns builtinsNs mb) (bb : ∀ x : Str, x ≠ "__name__" → mb x = bootBuiltins x) (nol : s.heap.NoLimit) (ng : s.gens = #[])
    (ha : s.heap.get? a = some { cls := .type "list", data := .seq vs.toArray }) (hi : IntsAre vs ns) (hl : ns.length ≤ sizeLine) (room : Room k callerA)
    (Fn : ∀ base : Heap, K.In base → base.Ns mainGlobals mg → FnG P w K mg base k fa fd [x] (spM ⟨K, mg⟩ 1 F)) (bind : ∀ (s : Shared) (u : Value), BindsTo s fd ⟨[u], []⟩ [(x, u)])
    (hF : ∃ S, F [.frl (ns.map D.int)] [] = .ok (.bl true) S) :
    codeAny (model P w) callerA (.call (.ref fa) ⟨[.ref a], []⟩) (fun r s' => r = .ok (.ret (.bool true)) ∧ OldK s.heap s'.heap ∧ s'.os = s.os ∧ AllBare s'.gens) s := by
  have rv := vals_ints hi
  have lv := hi.length
  have main : ∀ H : Hp, Only H → SqL K H a (ns.map V.int) → HOk P w H s.heap → (∀ b u, H b = some u → b = a) → (H a ≠ none → K.lookup a = none) →
      codeAny (model P w) callerA (.call (.ref fa) ⟨[.ref a], []⟩) (fun r s' => r = .ok (.ret (.bool true)) ∧ OldK s.heap s'.heap ∧ s'.os = s.os ∧ AllBare s'.gens) s := by
    intro H only sq hok one known
    have low : ∀ {b : Addr} {o : Obj}, s.heap.get? b = some o → b ≠ a → (hidT s.heap H).get? b = some o := fun {b o} e n => hidT_get e (by
      cases q : H b with
      | none => rfl
      | some u => exact absurd (one b u q) n)
    have nsl : ∀ {b : Addr} {m : Str → Option Value}, s.heap.Ns b m → (hidT s.heap H).Ns b m := fun {b m} ⟨o, es, ep, e, d, r⟩ => ⟨o, es, ep, low e (fun z => by
      rw [z, ha] at e
      cases e
      cases d), d, r⟩
    have kb : K.In (hidT s.heap H) := fun b o e => by
      by_cases z : H b = none
      · exact hidT_get (kin b o e) z
      · obtain ⟨u, q⟩ := Option.ne_none_iff_exists'.mp z
        have eb := one b u q
        rw [eb] at e z
        rw [known z] at e
        cases e
    have e0 : Env0 P w K mg (hidT s.heap H) callerA [] s H := ⟨rfl, ⟨kb, nsl nsm, ⟨mb, nsl nsb, bb⟩, let ⟨mc, h1, h2⟩ := nol; ⟨mc, nsl h1, h2⟩⟩, fun b o e => of_hidT e, Nat.le_of_eq (hidT_size _ _), trivial, fun b hb => absurd (show b ∈ ([] : List Addr) from hb) (by simp), hok, .of_eq ng⟩
    obtain ⟨S, hS⟩ := hF
    have sp : spM ⟨K, mg⟩ 1 F [.ref a] H (fun v _ => v = .bl true) (fun _ _ _ => False) := by
      refine ⟨rfl, [.frl (ns.map D.int)], [], [], H, isl_cons.mpr ⟨_, _, rfl, is_frl.mpr ⟨a, ns.map V.int, rfl, sq, ?_⟩, isl_nil.mpr rfl⟩, Rl.nil, ?_⟩
      · exact isl_mapI ns
      · rw [hS]
        exact fun v m' H0' H' _ _ i => is_bl.mp i
    refine codeAny_mono ((Fn _ kb (nsl nsm)).go callerA [] s H ⟨[.ref a], []⟩ [.ref a] [.ref a] _ _ room rfl e0 (bind s (.ref a)) (.cons rfl .nil) sp) fun r s' h => ?_
    cases r with
    | error e =>
      obtain ⟨_, _, _, _, _, _, _, _, _, _, _, _, z⟩ := h
      exact z.elim
    | ok fl =>
      cases fl with
      | ret u =>
        obtain ⟨v, H', os, bare, un, hok', rr, q⟩ := h
        have q' : v = .bl true := q
        subst q'
        obtain rfl : u = Value.bool true := rr
        refine ⟨rfl, OldK.of_keep fun b o e => ?_, os, bare⟩
        cases q : H b with
        | none => exact un.keep b o e q (fun z => absurd (show b ∈ ([] : List Addr) from z) (by simp)) (by simp)
        | some u =>
          rcases only b with z | ⟨ob, xs, z⟩
          · rw [q] at z
            cases z
          · obtain ⟨e1, _⟩ := hok b _ z
            obtain ⟨e2, _⟩ := hok' b _ (un.frzs b ob _ z)
            rw [e] at e1
            cases e1
            exact e2
      | next => exact False.elim h
      | brk => exact False.elim h
      | cont => exact False.elim h
  cases hk : K.lookup a with
  | some o =>
    have e := kin a o hk
    rw [ha] at e
    cases e
    exact main (fun _ => none) (fun _ => .inl rfl) (.inr ⟨_, vs.toArray, _, hk, rfl, rfl, rfl, by rw [List.size_toArray, lv]; exact hl, by simpa using rv⟩) (fun b u z => by cases z) (fun b u z => by cases z) fun z => absurd rfl z
  | none =>
    have at1 : ∀ b u, (if b = a then some (HO.frz { cls := .type "list", data := .seq vs.toArray } (.lst (ns.map V.int))) else none) = some u → b = a := fun b u z => by
      by_cases hb : b = a
      · exact hb
      · rw [if_neg hb] at z
        cases z
    refine main (fun b => if b = a then some (.frz { cls := .type "list", data := .seq vs.toArray } (.lst (ns.map V.int))) else none) (fun b => ?_) (.inl (.inr ⟨{ cls := .type "list", data := .seq vs.toArray }, if_pos rfl⟩)) (fun b u z => ?_) at1 fun _ => hk
    · by_cases hb : b = a
      · exact .inr ⟨_, _, if_pos hb⟩
      · exact .inl (if_neg hb)
    · have hb := at1 b u z
      subst hb
      have z' := (if_pos rfl).symm.trans z
      cases z'
      exact ⟨ha, by rw [List.length_map]; exact hl, vs, _, rv, ha⟩
theorem walk_end {l : PySem.W.OpenLaw} {n k : Nat} {q : Program} {loose : List Str} {XP : (Str → Option Value) → Heap → Prop} {YP : World → Heap → Prop} {d : DefRec} {x : Str} {F : DF}
    (hn : l.most = some n) (hn2 : n ≤ sizeLine) (hdf : d.params.defaults = []) (room : Room k callerA) (hF : ∀ ns : List Int, ns.length ≤ n → ∃ S, F [.frl (ns.map D.int)] [] = .ok (.bl true) S)
    (Fn : ∀ (w : World) (mg : Str → Option Value) (fa : Addr) (h : Heap), YP w h → h.Ns mainGlobals mg → mg d.name = some (.ref fa) →
      ∃ (K : PySem.W.Frag) (fd : FuncData), K.In h ∧ (∀ (s : Shared) (u : Value), BindsTo s fd ⟨[u], []⟩ [(x, u)]) ∧ ∀ base : Heap, K.In base → base.Ns mainGlobals mg → FnG l.prog w K mg base k fa fd [x] (spM ⟨K, mg⟩ 1 F)) :
    PySem.W.WalkO q loose XP YP l.row.toRowW d [] (fun f vs => PySem.call f vs) :=
  Att.attach_call hn hdf fun w s₀ s₁ mg mb fa o pm cd doc a vs ns G Y ho hd hcd hmg hobj hints hlen hg =>
    let ⟨K, fd, kin, hb, hf⟩ := Fn w mg fa _ Y G.T.g hmg
    law_end kin G.T.g G.T.b G.T.builtins G.T.nolimit hg hobj hints (Nat.le_trans hlen hn2) room hf hb (hF ns hlen)
end Me
end
section
set_option Elab.async false
set_option linter.all false
set_option maxRecDepth 100000
namespace Me
open PySem PySem.Spec L2
open PyProof.Rows hiding St

/-! ### a list is changed no more -/
def sFrz (i : Nat) (b : MS) : MS := fun r S => match r[i]? with
  | some (some (.cell k)) => (match S[k]? with
    | some (.lst xs) => b (r.set i (some (.lst xs))) (S.set k .dead)
    | _ => .fail)
  | _ => .fail
section
variable {X : Cx} {W : WX} {G : Gc}
theorem Rl.freeze {m : List Addr} {S : List Cel} {H0 H : Hp} {k : Nat} {a : Addr} {xs : List D} {vs : List V} (r : Rl G m S H0 H) (h1 : S[k]? = some (.lst xs)) (h2 : m[k]? = some a) (ha : H a = some (.lst vs)) : Rl G m (S.set k .dead) (upd H0 a (.lst vs)) H where
  sub := fun b u h => by
    by_cases e : b = a
    · subst e
      rw [upd_same] at h
      cases h
      exact ha
    · rw [upd_ne e] at h
      exact r.sub _ _ h
  len := by rw [List.length_set]; exact r.len
  nd := r.nd
  at_ := fun j c b e1 e2 => by
    by_cases hj : k = j
    · subst hj
      rw [List.getElem?_set, if_pos rfl] at e1
      split at e1
      · cases e1
        trivial
      · cases e1
    · rw [List.getElem?_set_ne hj] at e1
      refine (r.at_ j c b e1 e2).mono (fun x u h => ?_) (List.prefix_refl _) fun _ q => q
      rw [upd_ne (ne_of_none h (r.out k _ a h1 h2 rfl))]
      exact h
  out := fun j c b e1 e2 hl => by
    by_cases hj : k = j
    · subst hj
      rw [List.getElem?_set, if_pos rfl] at e1
      split at e1
      · cases e1
        cases hl
      · cases e1
    · rw [List.getElem?_set_ne hj] at e1
      have hne : b ≠ a := fun e => hj (nd_get r.nd h2 (by rw [← e]; exact e2))
      rw [upd_ne hne]
      exact r.out j c b e1 e2 hl
  trk := r.trk
theorem mps_frz (i : Nat) {sts : List Stmt} {b : MS} (h : MPs X W sts b) : MPs X W sts (sFrz i b) :=
  pss_imp h fun E σ H ⟨r, S, m, H0, he, hr, hk⟩ => by
    unfold sFrz at hk
    cases hi : r[i]? with
    | none => simp only [hi] at hk; exact hk.elim
    | some o =>
      cases o with
      | none => simp only [hi] at hk; exact hk.elim
      | some d =>
        cases d with
        | cell k =>
          cases hS : S[k]? with
          | none => simp only [hi, hS] at hk; exact hk.elim
          | some c =>
            cases c with
            | lst xs =>
              simp only [hi, hS] at hk
              obtain ⟨v, e1, e2⟩ := he.2 i _ hi
              obtain ⟨a, rfl, hm⟩ := is_cell.mp e2
              obtain ⟨vs, f1, f2⟩ := hr.cel hS hm
              have hout := hr.out k _ a hS hm rfl
              have im : Same H0 (upd H0 a (.lst vs)) := fun x u h => by
                rw [upd_ne (ne_of_none h hout)]
                exact h
              have ex : Ext m H0 H m (upd H0 a (.lst vs)) H := ⟨im, List.prefix_refl _, fun _ _ h _ => h, fun _ h => Or.inl h, fun x u h => by
                by_cases e : x = a
                · rw [e]
                  exact Or.inr (Or.inr (List.mem_of_getElem? hm))
                · rw [upd_ne e] at h
                  exact Or.inl h⟩
              have hp := (he.mono im (List.prefix_refl m)).put i (d := .lst xs) (v := .ref a) (is_lst.mpr ⟨a, vs, rfl, upd_same, IsL.mono im (List.prefix_refl m) _ _ f2⟩)
              have es : σ.set i (some (.ref a)) = σ := by
                apply List.ext_getElem?
                intro j
                by_cases hj : i = j
                · subst hj
                  rw [List.getElem?_set, if_pos rfl, if_pos (List.getElem?_eq_some_iff.mp e1).1, e1]
                · rw [List.getElem?_set_ne hj]
              rw [es] at hp
              exact ⟨_, _, m, _, hp, hr.freeze hS hm f1, KtS.later ex hk⟩
            | _ => simp only [hi, hS] at hk; exact hk.elim
        | _ => simp only [hi] at hk; exact hk.elim
/-- (a, b, ..) = a list -/
def gU (n : Nat) (g : GDs) : GD := fun d r => match d with
  | .lst ds => if ds.length = n then g ds r else none
  | _ => none
theorem mg_lst {is : List Nat} {es : List Expr} {kk : Nat} {pos : Pos} {g : GDs} {n : Nat} (hc : X.calm = true) (h : MGs X is es g)
    (hn : (assignEach es X.env).length = n := by rfl) (hst : (assignEach es X.env).findIdx? (·.1) = none := by rfl) : MG X is (.Tuple es kk pos) (gU n g) :=
  pg_imp (pg_unl hc h hn hst) fun v σ H Q ⟨d, r, S, m, H0, r', he, hr, i, hg, k⟩ => by
    cases d with
    | lst ds =>
      simp only [gU] at hg
      by_cases hl : ds.length = n
      · rw [if_pos hl] at hg
        obtain ⟨a, vs, e1, e2, e3⟩ := lstD_ok hr i (xs := ds) rfl
        exact ⟨a, vs, e1, e2, by rw [← e3.len]; exact hl, ds, r, S, m, H0, r', he, hr, e3, hg, k⟩
      · rw [if_neg hl] at hg
        cases hg
    | _ => cases hg
/-- a f b g c of numbers -/
def eCh (f g : Int → Int → Bool) (x y z : M) : M := eB x fun a => eB y fun b => match a, b with
  | .int i, .int j => if f i j = true then (fun r S => (z r S).bind fun c S1 => match c with
    | .int k => .ok (.bl (g j k)) S1
    | _ => .fail) else fun _ S => .ok (.bl false) S
  | _, _ => fun _ _ => .fail
theorem tm_ch {f g : Int → Int → Bool} {x y z : M} {σ : L2.St} {H : Hp} {Q : VK} (h : tM G W (eCh f g x y z) σ H Q) : tChain (rI0 fun i j => .bl (f i j)) (rI0 fun i j => .bl (g i j)) (tM G W x) (tM G W y) (tM G W z) σ H Q :=
  tm_mono (tm_b h) fun v H1 ⟨a, r, S, m, H0, he, rl, i, k⟩ => by
    refine ⟨r, S, m, H0, he, rl, ?_⟩
    unfold eB at k
    cases hy : y r S with
    | fail => simp only [hy] at k; exact k
    | exc ex S1 => simp only [hy] at k; exact k
    | ok b S1 =>
      simp only [hy, R.bind] at k
      intro u m2 H02 H2 e2 rl2 i2
      have k2 := Kt.later e2 k
      cases a with
      | int p =>
        cases b with
        | int q =>
          refine ⟨p, q, is_int.mp i, is_int.mp i2, f p q, rfl, ?_⟩
          by_cases hf : f p q = true
          · simp only [hf, if_true] at k2 ⊢
            refine ⟨r, S1, m2, H02, he.mono e2.imm e2.pre, rl2, ?_⟩
            cases hz : z r S1 with
            | fail => simp only [hz] at k2; exact k2
            | exc ex S1 => simp only [hz] at k2; exact k2
            | ok c S2 =>
              simp only [hz, R.bind] at k2
              intro t m3 H03 H3 e3 rl3 i3
              cases c with
              | int l => exact ⟨q, l, is_int.mp i2, is_int.mp i3, k2 _ m3 H03 H3 e3 rl3 (is_bl.mpr rfl)⟩
              | _ => exact k2.elim
          · simp only [hf] at k2 ⊢
            exact k2 _ m2 H02 H2 (Ext.refl _ _ _) rl2 (is_bl.mpr rfl)
        | _ => exact k2.elim
      | _ => exact k2.elim
theorem me_ch {op op' : CmpOp} {a b c : Expr} {pos : Pos} {f g : Int → Int → Bool} {x y z : M} (ho : OpR X (compareOp op) (rI0 fun i j => .bl (f i j))) (ho' : OpR X (compareOp op') (rI0 fun i j => .bl (g i j))) (ha : ME X W a x) (hb : ME X W b y) (hc : ME X W c z)
    (hm : lastMarks [op, op'] [b, c] = false := by with_unfolding_all rfl) : ME X W (.Compare a [op, op'] [b, c] pos) (eCh f g x y z) :=
  pe_imp (pe_chain ho ho' ha hb hc hm) fun _ _ _ h => tm_ch h
end

/-! ### how written arguments meet the parameters -/
def perm {α : Type} (n m : Nat) (is : List Nat) (us ws : List α) : List α := if us.length = n ∧ ws.length = m then is.filterMap fun i => (us ++ ws)[i]? else []
theorem vals_pick {vs : List V} {us : List Value} (h : Vals vs us) : ∀ is : List Nat, Vals (is.filterMap fun i => vs[i]?) (is.filterMap fun i => us[i]?)
  | [] => .nil
  | i :: is => by
    have ih := vals_pick h is
    cases e : vs[i]? with
    | none =>
      have e2 : us[i]? = none := by
        rw [List.getElem?_eq_none_iff] at e ⊢
        rw [← h.length]
        exact e
      simp only [List.filterMap_cons, e, e2]
      exact ih
    | some v =>
      obtain ⟨u, e2, r⟩ := h.get e
      simp only [List.filterMap_cons, e, e2]
      exact .cons r ih
theorem isl_pick {G : Gc} {H0 : Hp} {m : List Addr} {ds : List D} {vs : List V} (h : IsL G H0 m ds vs) : ∀ is : List Nat, IsL G H0 m (is.filterMap fun i => ds[i]?) (is.filterMap fun i => vs[i]?)
  | [] => isl_nil.mpr rfl
  | i :: is => by
    have ih := isl_pick h is
    cases e : ds[i]? with
    | none =>
      have e2 : vs[i]? = none := by
        rw [List.getElem?_eq_none_iff] at e ⊢
        rw [← h.len]
        exact e
      simp only [List.filterMap_cons, e, e2]
      exact ih
    | some v =>
      obtain ⟨u, e2, r⟩ := h.get e
      simp only [List.filterMap_cons, e, e2]
      exact isl_cons.mpr ⟨_, _, rfl, r, ih⟩
theorem gok_perm (n l : Nat) (is : List Nat) : GOk (perm (α := D) n l is) (perm (α := V) n l is) := ⟨fun {G H0 m ds es vs zs} h h' => by
  unfold perm
  rw [h.len, h'.len]
  split
  · exact isl_pick (h.append h') is
  · exact isl_nil.mpr rfl⟩
theorem rel_perm (n l : Nat) (is : List Nat) {vs zs : List V} {us ws : List Value} (h : Vals vs us) (h' : Vals zs ws) : Vals (perm n l is vs zs) (perm n l is us ws) := by
  unfold perm
  rw [show vs.length = us.length from h.length, show zs.length = ws.length from h'.length]
  split
  · exact vals_pick (Vals.append h h') is
  · exact .nil
/-- all by position -/
def posn {α : Type} (us _ws : List α) : List α := us
theorem gok_posn : GOk (posn (α := D)) (posn (α := V)) := ⟨fun h _ => h⟩
section
variable {K : PySem.W.Frag} {x qual : Str} {params : Arguments} {body : List Stmt} {scope : Scope} {dvs : List V} {kws : List (Str × V)} {f : Addr} {fd : FuncData} {ps : List Str}
theorem kb_pos (F : FunD K x qual params body scope [] kws f fd)
    (h : ∀ (kV doc pm : Value) (an : Option Addr) (cdv ct : Value) (us : List Value), us.length = ps.length → bindArgs (PySem.W.fnOf x qual params body scope .none kV doc pm an cdv ct) ⟨us, []⟩ = pure (ps.zip us)) : KBinds K fd ps [] posn posn := by
  have B := F.bindsN h
  refine ⟨fun s us ws X hl => ?_, fun r _ => r⟩
  rw [show ([] : List Str).zip ws = [] from List.zip_nil_left]
  have q := B s us X (by rw [List.append_nil]; exact hl)
  rw [List.append_nil] at q
  exact q
theorem kb_dfl (F : FunD K x qual params body scope dvs kws f fd) (hd : dvs ≠ [])
    (h : ∀ (T : Addr) (kV doc pm : Value) (an : Option Addr) (cdv ct : Value) (us its : List Value), us.length = ps.length → its.length = dvs.length →
      ∃ k, bindArgs (PySem.W.fnOf x qual params body scope (.ref T) kV doc pm an cdv ct) ⟨us, []⟩ = seqItems? (.ref T) >>= k ∧ k (some its.toArray) = pure (ps.zip (us ++ its.drop dvs.length))) : KBinds K fd ps [] posn posn := by
  obtain ⟨ds, rd, B⟩ := F.binds1 ps.length dvs.length hd (by omega) h
  have e : ds = [] := by
    have := rd.length
    rw [List.drop_length] at this
    exact List.length_eq_zero_iff.mp this.symm
  subst e
  refine ⟨fun s us ws X hl => ?_, fun r _ => r⟩
  rw [show ([] : List Str).zip ws = [] from List.zip_nil_left]
  have q := B s us X (by rw [List.append_nil]; exact hl)
  rw [List.append_nil] at q
  exact q
theorem kb_perm (F : FunD K x qual params body scope [] kws f fd) (n : Nat) (ks : List Str) (is : List Nat) (hps : 0 < ps.length)
    (h : ∀ (kV doc pm : Value) (an : Option Addr) (cdv ct : Value) (us ws : List Value), us.length = n → ws.length = ks.length → bindArgs (PySem.W.fnOf x qual params body scope .none kV doc pm an cdv ct) ⟨us, ks.zip ws⟩ = pure (ps.zip (perm n ks.length is us ws))) : KBinds K fd ps ks (perm n ks.length is) (perm n ks.length is) := by
  obtain ⟨oc, od, dV, kV, doc, pm, an, cdv, ct, osl, rfl, lk, hcd, hD, hK⟩ := F.ex
  rcases hD with ⟨_, rfl⟩ | ⟨e, _⟩
  · refine ⟨fun s us ws X hl => ?_, fun r r' => rel_perm _ _ _ r r'⟩
    by_cases hc : us.length = n ∧ ws.length = ks.length
    · exact .of_eq (h kV doc pm an cdv ct us ws hc.1 hc.2)
    · unfold perm at hl
      rw [if_neg hc] at hl
      rw [← hl] at hps
      exact absurd hps (by simp)
  · exact absurd rfl e
end
/-! ### the function object at a def's place -/
theorem some_fd : Nonempty FuncData := ⟨{ name := "", qualname := "", params := default, body := default, scope := default, globals := default, closure := default, defaults := default, kwdefaults := default }⟩
noncomputable def fdK (K : PySem.W.Frag) (p : PySem.Str × Option PySem.Str) : FuncData := @Classical.epsilon _ some_fd fun fd => ∃ oc od osl, K.lookup (He.fAd K p) = some ⟨oc, od, .func fd, osl⟩
theorem fd_at {fa : List He.Fa} {fn : List He.DefD} {K : PySem.W.Frag} (c : He.SaysD fa fn K) (i : Nat) {d : He.DefD} (h : fn[i]? = some d := by rfl) : FunD K d.name d.qual d.params d.body d.scope (d.dvs K) (d.kws K) (He.fAd K d.at_) (fdK K d.at_) := by
  obtain ⟨fd, F⟩ := c.def_ i h
  have e : fdK K d.at_ = fd := by
    obtain ⟨oc, od, dV, kV, doc, pm, an, cdv, ct, osl, e0, lk, _⟩ := F.ex
    have q : ∃ oc od osl, K.lookup (He.fAd K d.at_) = some ⟨oc, od, .func (fdK K d.at_), osl⟩ := @Classical.epsilon_spec_aux _ some_fd (fun fd => ∃ oc od osl, K.lookup (He.fAd K d.at_) = some ⟨oc, od, .func fd, osl⟩) ⟨fd, oc, od, osl, lk⟩
    obtain ⟨oc', od', osl', lk'⟩ := q
    rw [lk] at lk'
    have z := Option.some.inj lk'
    injection z with _ _ z _
    injection z with z
    exact z.symm
  rw [e]
  exact F
end Me
end
section
set_option Elab.async false
set_option linter.all false
set_option maxRecDepth 100000
namespace Me
open PySem PySem.Spec L2
open PyProof.Rows hiding St

theorem sndP : SndC callP := fun hn r i h => callP_snd hn r i h
theorem sndB : SndC callB := fun hn r i h => callB_snd hn r i h
theorem sndF : SndC callF := fun hn r i h => callF_snd hn r i h
theorem Bc.u65 {X : Cx} {W : WX} {k : Nat} (b : Bc X W k) : X.A.units + 65 < cLine := by have := b.room.un; omega
theorem Bc.u64 {X : Cx} {W : WX} {k : Nat} (b : Bc X W k) : X.A.units + 64 < cLine := by have := b.room.un; omega
theorem Bc.u1 {X : Cx} {W : WX} {k : Nat} (b : Bc X W k) : X.A.units + 1 < cLine := by have := b.room.un; omega
section
variable {X : Cx} {W : WX} {e a b c : Expr} {es : List Expr} {x y z : M} {l : ML} {p pos : Pos}
/-! operators, named -/
theorem me_add (ha : ME X W a x) (hb : ME X W b y) : ME X W (.BinOp a .Add b pos) (eBin pAdd x y) := me_bin op_addA snd_addA ha hb
def oSub : D → D → List Cel → R D := pI0 fun i j => .int (i - j)
theorem me_sub (ha : ME X W a x) (hb : ME X W b y) : ME X W (.BinOp a .Sub b pos) (eBin oSub x y) := me_bin op_sub (snd_i0 _) ha hb
theorem me_mul (ha : ME X W a x) (hb : ME X W b y) : ME X W (.BinOp a .Mult b pos) (eBin pMul x y) := me_bin op_mulA snd_mulA ha hb
noncomputable def oDiv : D → D → List Cel → R D := pI CDivW fun i j => i / j
theorem me_div (ha : ME X W a x) (hb : ME X W b y) : ME X W (.BinOp a .FloorDiv b pos) (eBin oDiv x y) := me_bin op_fdivW (snd_i _ _) ha hb
noncomputable def oMod : D → D → List Cel → R D := pI (fun _ j => 0 < j) fun i j => i % j
theorem me_mod (ha : ME X W a x) (hb : ME X W b y) : ME X W (.BinOp a .Mod b pos) (eBin oMod x y) := me_bin op_mod (snd_i _ _) ha hb
noncomputable def oPow : D → D → List Cel → R D := pI CPow fun i j => i ^ j.toNat
theorem me_pow (ha : ME X W a x) (hb : ME X W b y) : ME X W (.BinOp a .Pow b pos) (eBin oPow x y) := me_bin op_pow (snd_i _ _) ha hb
/-! comparisons, named: as values, as tests -/
def oLt : D → D → List Cel → R D := pI0 fun i j => .bl (decide (i < j))
def oLe : D → D → List Cel → R D := pI0 fun i j => .bl (decide (i ≤ j))
def oGt : D → D → List Cel → R D := pI0 fun i j => .bl (decide (j < i))
def oGe : D → D → List Cel → R D := pI0 fun i j => .bl (decide (j ≤ i))
theorem me_lt (ha : ME X W a x) (hb : ME X W b y) : ME X W (.Compare a [.Lt] [b] pos) (eBin oLt x y) := me_cmp op_lt (nomark _) (snd_b0 _) ha hb
theorem me_le (ha : ME X W a x) (hb : ME X W b y) : ME X W (.Compare a [.LtE] [b] pos) (eBin oLe x y) := me_cmp op_le (nomark _) (snd_b0 _) ha hb
theorem me_gt (ha : ME X W a x) (hb : ME X W b y) : ME X W (.Compare a [.Gt] [b] pos) (eBin oGt x y) := me_cmp op_gt (nomark _) (snd_b0 _) ha hb
theorem me_ge (ha : ME X W a x) (hb : ME X W b y) : ME X W (.Compare a [.GtE] [b] pos) (eBin oGe x y) := me_cmp op_ge (nomark _) (snd_b0 _) ha hb
/-- texts, else plain data -/
def pEqT (neg : Bool) (a b : D) (S : List Cel) : R D := match a, b with
  | .str x, .str y => .ok (.bl (if neg = true then !decide (x = y) else decide (x = y))) S
  | _, _ => .fail
theorem snd_eqT {G : Gc} : Snd2 G rEq (pEqT false) := by
  intro W σ m H0 H S x y a b Q r i j h
  unfold pEqT at h
  cases a with
  | str p =>
    cases b with
    | str q =>
      rw [is_str.mp i, is_str.mp j]
      refine ⟨rfl, ?_⟩
      have e : decide (V.str p = V.str q) = decide (p = q) := by
        by_cases z : p = q
        · subst z; simp
        · simp [z]
      rw [e]
      exact kt_ok h r (is_bl.mpr rfl)
    | _ => exact h.elim
  | _ => exact h.elim
theorem snd_neT {G : Gc} : Snd2 G rNe (pEqT true) := by
  intro W σ m H0 H S x y a b Q r i j h
  unfold pEqT at h
  cases a with
  | str p =>
    cases b with
    | str q =>
      rw [is_str.mp i, is_str.mp j]
      refine ⟨rfl, ?_⟩
      have e : decide (V.str p = V.str q) = decide (p = q) := by
        by_cases z : p = q
        · subst z; simp
        · simp [z]
      rw [e]
      exact kt_ok h r (is_bl.mpr rfl)
    | _ => exact h.elim
  | _ => exact h.elim
def pEqA (neg : Bool) : D → D → List Cel → R D := orR (pEqT neg) (pEq neg)
theorem me_eq (hu : X.A.units + 64 < cLine) (ha : ME X W a x) (hb : ME X W b y) : ME X W (.Compare a [.Eq] [b] pos) (eBin (pEqA false) x y) := me_cmp (op_eq.or (op_eqD hu)) (nomark _) (snd_or snd_eqT snd_eq) ha hb
theorem me_ne (hu : X.A.units + 64 < cLine) (ha : ME X W a x) (hb : ME X W b y) : ME X W (.Compare a [.NotEq] [b] pos) (eBin (pEqA true) x y) := me_cmp (op_ne.or (op_neD hu)) (nomark _) (snd_or snd_neT snd_ne) ha hb
theorem me_isN (ha : ME X W a x) (hb : ME X W b y) : ME X W (.Compare a [.Is] [b] pos) (eBin (pIsN false) x y) := me_cmp op_isN (nomark _) snd_isN ha hb
theorem me_notN (ha : ME X W a x) (hb : ME X W b y) : ME X W (.Compare a [.IsNot] [b] pos) (eBin (pIsN true) x y) := me_cmp op_notN (nomark _) snd_notN ha hb
theorem me_in (hu : X.A.units + 65 < cLine) (ha : ME X W a x) (hb : ME X W b y) (hm : behindInMarks .In b = false := by rfl) : ME X W (.Compare a [.In] [b] pos) (eBin (pIn false) x y) := me_cmp ((op_inD hu).or (op_inT hu)) hm snd_in ha hb
theorem me_nin (hu : X.A.units + 65 < cLine) (ha : ME X W a x) (hb : ME X W b y) (hm : behindInMarks .NotIn b = false := by rfl) : ME X W (.Compare a [.NotIn] [b] pos) (eBin (pIn true) x y) := me_cmp ((op_notInD hu).or (op_notInT hu)) hm snd_notIn ha hb
theorem mt_lt (ha : ME X W a x) (hb : ME X W b y) : MT X W (.Compare a [.Lt] [b] pos) (toB (eBin oLt x y)) := mt_cmp op_lt (nomark _) (snd_b0 _) ha hb
theorem mt_le (ha : ME X W a x) (hb : ME X W b y) : MT X W (.Compare a [.LtE] [b] pos) (toB (eBin oLe x y)) := mt_cmp op_le (nomark _) (snd_b0 _) ha hb
theorem mt_gt (ha : ME X W a x) (hb : ME X W b y) : MT X W (.Compare a [.Gt] [b] pos) (toB (eBin oGt x y)) := mt_cmp op_gt (nomark _) (snd_b0 _) ha hb
theorem mt_ge (ha : ME X W a x) (hb : ME X W b y) : MT X W (.Compare a [.GtE] [b] pos) (toB (eBin oGe x y)) := mt_cmp op_ge (nomark _) (snd_b0 _) ha hb
theorem mt_eq (hu : X.A.units + 64 < cLine) (ha : ME X W a x) (hb : ME X W b y) : MT X W (.Compare a [.Eq] [b] pos) (toB (eBin (pEqA false) x y)) := mt_cmp (op_eq.or (op_eqD hu)) (nomark _) (snd_or snd_eqT snd_eq) ha hb
theorem mt_ne (hu : X.A.units + 64 < cLine) (ha : ME X W a x) (hb : ME X W b y) : MT X W (.Compare a [.NotEq] [b] pos) (toB (eBin (pEqA true) x y)) := mt_cmp (op_ne.or (op_neD hu)) (nomark _) (snd_or snd_neT snd_ne) ha hb
theorem mt_isN (ha : ME X W a x) (hb : ME X W b y) : MT X W (.Compare a [.Is] [b] pos) (toB (eBin (pIsN false) x y)) := mt_cmp op_isN (nomark _) snd_isN ha hb
theorem mt_notN (ha : ME X W a x) (hb : ME X W b y) : MT X W (.Compare a [.IsNot] [b] pos) (toB (eBin (pIsN true) x y)) := mt_cmp op_notN (nomark _) snd_notN ha hb
theorem mt_in (hu : X.A.units + 65 < cLine) (ha : ME X W a x) (hb : ME X W b y) (hm : behindInMarks .In b = false := by rfl) : MT X W (.Compare a [.In] [b] pos) (toB (eBin (pIn false) x y)) := mt_cmp ((op_inD hu).or (op_inT hu)) hm snd_in ha hb
theorem mt_nin (hu : X.A.units + 65 < cLine) (ha : ME X W a x) (hb : ME X W b y) (hm : behindInMarks .NotIn b = false := by rfl) : MT X W (.Compare a [.NotIn] [b] pos) (toB (eBin (pIn true) x y)) := mt_cmp ((op_notInD hu).or (op_notInT hu)) hm snd_notIn ha hb
theorem me_chLL (ha : ME X W a x) (hb : ME X W b y) (hc : ME X W c z) (hm : lastMarks [.LtE, .LtE] [b, c] = false := by with_unfolding_all rfl) : ME X W (.Compare a [.LtE, .LtE] [b, c] pos) (eCh (fun i j => decide (i ≤ j)) (fun i j => decide (i ≤ j)) x y z) := me_ch op_le op_le ha hb hc hm
/-! built-in functions, named -/
section
variable (hn : starEach (e :: es) X.env = (false, eval e X.env) :: starEach es X.env) (hpl : (backTo pos (starEach es X.env)).any (·.1) = false)
theorem me_len (hg : Gl X "len") (hm : X.mg "len" = none) (ha : MA X W (e :: es) l) (he : starEach (e :: es) X.env = (false, eval e X.env) :: starEach es X.env := by rfl) (hpl : (backTo pos (starEach es X.env)).any (·.1) = false := by rfl) : ME X W (.Call (.Name "len" p) (e :: es) [] pos) (eFn (f1 pLen) l) :=
  me_fn (id := "len") call_len snd_len hg hm PySem.boot_len ha (by decide) (by decide) he hpl
theorem me_sum (hc : X.calm = true) (hg : Gl X "sum") (hm : X.mg "sum" = none) (ha : MA X W (e :: es) l) (he : starEach (e :: es) X.env = (false, eval e X.env) :: starEach es X.env := by rfl) (hpl : (backTo pos (starEach es X.env)).any (·.1) = false := by rfl) : ME X W (.Call (.Name "sum" p) (e :: es) [] pos) (eFn (f1 pSum) l) :=
  me_fn (id := "sum") (cr_sum hc) snd_sum hg hm PyProof.Rows.boot_sum ha (by decide) (by decide) he hpl
theorem me_all (hc : X.calm = true) (hg : Gl X "all") (hm : X.mg "all" = none) (ha : MA X W (e :: es) l) (he : starEach (e :: es) X.env = (false, eval e X.env) :: starEach es X.env := by rfl) (hpl : (backTo pos (starEach es X.env)).any (·.1) = false := by rfl) : ME X W (.Call (.Name "all" p) (e :: es) [] pos) (eFn (f1 pAll) l) :=
  me_fn (id := "all") (cr_all hc) snd_all hg hm PyProof.Rows.boot_all ha (by decide) (by decide) he hpl
theorem me_sorted (hg : Gl X "sorted") (hm : X.mg "sorted" = none) (ha : MA X W (e :: es) l) (he : starEach (e :: es) X.env = (false, eval e X.env) :: starEach es X.env := by rfl) (hpl : (backTo pos (starEach es X.env)).any (·.1) = false := by rfl) : ME X W (.Call (.Name "sorted" p) (e :: es) [] pos) (eFn (f1 pSort) l) :=
  me_fn (id := "sorted") cr_sortedI snd_sort hg hm PyProof.Rows.boot_sorted ha (by decide) (by decide) he hpl
theorem me_abs (hg : Gl X "abs") (hm : X.mg "abs" = none) (ha : MA X W (e :: es) l) (he : starEach (e :: es) X.env = (false, eval e X.env) :: starEach es X.env := by rfl) (hpl : (backTo pos (starEach es X.env)).any (·.1) = false := by rfl) : ME X W (.Call (.Name "abs" p) (e :: es) [] pos) (eFn (f1 pAbs) l) :=
  me_fn (id := "abs") call_abs snd_abs hg hm PyProof.Rows.boot_abs ha (by decide) (by decide) he hpl
theorem me_max (hc : X.calm = true) (hg : Gl X "max") (hm : X.mg "max" = none) (ha : MA X W (e :: es) l) (he : starEach (e :: es) X.env = (false, eval e X.env) :: starEach es X.env := by rfl) (hpl : (backTo pos (starEach es X.env)).any (·.1) = false := by rfl) : ME X W (.Call (.Name "max" p) (e :: es) [] pos) (eFn (f2 pMax) l) :=
  me_fn (id := "max") (call_max2 hc) snd_max hg hm PyProof.Rows.boot_max ha (by decide) (by decide) he hpl
theorem me_min (hc : X.calm = true) (hg : Gl X "min") (hm : X.mg "min" = none) (ha : MA X W (e :: es) l) (he : starEach (e :: es) X.env = (false, eval e X.env) :: starEach es X.env := by rfl) (hpl : (backTo pos (starEach es X.env)).any (·.1) = false := by rfl) : ME X W (.Call (.Name "min" p) (e :: es) [] pos) (eFn (f2 pMin) l) :=
  me_fn (id := "min") (call_min2 hc) snd_min hg hm PyProof.Rows.boot_min ha (by decide) (by decide) he hpl
theorem me_repr (hgu : X.A.guards = some []) (hu : X.A.units + 64 < cLine) (hg : Gl X "repr") (hm : X.mg "repr" = none) (ha : MA X W (e :: es) l) (he : starEach (e :: es) X.env = (false, eval e X.env) :: starEach es X.env := by rfl) (hpl : (backTo pos (starEach es X.env)).any (·.1) = false := by rfl) : ME X W (.Call (.Name "repr" p) (e :: es) [] pos) (eFn (f1 pRepr) l) :=
  me_fn (id := "repr") (call_reprD hgu hu) snd_repr hg hm PyProof.Rows.boot_repr ha (by decide) (by decide) he hpl
theorem me_toInt (hg : Gl X "int") (hm : X.mg "int" = none) (ha : MA X W (e :: es) l) (he : starEach (e :: es) X.env = (false, eval e X.env) :: starEach es X.env := by rfl) (hpl : (backTo pos (starEach es X.env)).any (·.1) = false := by rfl) : ME X W (.Call (.Name "int" p) (e :: es) [] pos) (eFn (f1 pInt) l) :=
  me_ty (x := "int") call_int1 snd_int hg hm PyProof.Rows.boot_int ha (by decide) (by decide) he hpl
theorem me_toList (hg : Gl X "list") (hm : X.mg "list" = none) (ha : MA X W (e :: es) l) (he : starEach (e :: es) X.env = (false, eval e X.env) :: starEach es X.env := by rfl) (hpl : (backTo pos (starEach es X.env)).any (·.1) = false := by rfl) : ME X W (.Call (.Name "list" p) (e :: es) [] pos) (eFn (f1 pList) l) :=
  me_ty (x := "list") call_list_of snd_list hg hm PyProof.Rows.boot_list ha (by decide) (by decide) he hpl
theorem me_toListC (hg : Gl X "list") (hm : X.mg "list" = none) (ha : MA X W (e :: es) l) (he : starEach (e :: es) X.env = (false, eval e X.env) :: starEach es X.env := by rfl) (hpl : (backTo pos (starEach es X.env)).any (·.1) = false := by rfl) : ME X W (.Call (.Name "list" p) (e :: es) [] pos) (eFn (f1 pListC) l) :=
  me_ty (x := "list") call_list_of snd_listC hg hm PyProof.Rows.boot_list ha (by decide) (by decide) he hpl
theorem me_toTuple (hg : Gl X "tuple") (hm : X.mg "tuple" = none) (ha : MA X W (e :: es) l) (he : starEach (e :: es) X.env = (false, eval e X.env) :: starEach es X.env := by rfl) (hpl : (backTo pos (starEach es X.env)).any (·.1) = false := by rfl) : ME X W (.Call (.Name "tuple" p) (e :: es) [] pos) (eFn (f1 pTuple) l) :=
  me_ty (x := "tuple") call_tuple_of snd_tuple hg hm PyProof.Rows.boot_tuple ha (by decide) (by decide) he hpl
end
end
end Me
end
section
set_option Elab.async false
set_option linter.all false
set_option maxRecDepth 100000
namespace L2
open PySem PySem.Spec PyProof.Rows
section
variable {P : Program} {w : World} {A : Around} {E : Value → Shared → Prop} {s : Shared}
abbrev bareSet (w : World) : Obj := { cls := .type "set", dict := none, data := .set #[] 0 (.fresh 0 0 (!w.params.followText "set-order")) }
set_option maxHeartbeats 3200000 in
/-- set(a list of numbers): its members, each once -/
theorem set_of_ints {l : Addr} {its : Array Value} (ns : List Int) {Q : Value → Shared → Prop} (calm : A.handled = none) (hl : s.heap.IsList l its) (hi : IntsAre its.toList ns) (few : ns.length + 1 < scanBound)
    (h : ∀ (h' : Heap) (tk c : Nat), SetR w h' s.heap.objs.size (fun j => decide (j ∈ ns)) c → c ≤ ns.length → (∀ b o, s.heap.get? b = some o → h'.get? b = some o) → Q (.ref s.heap.objs.size) { s with heap := h', toks := tk }) :
    wpAny (model P w) A (call (.type "set") [.ref l]) Q E s := by
  have size : its.size = ns.length := by rw [← Array.length_toList]; exact IntsAre.length hi
  obtain ⟨c0, tl0, mro⟩ := F.called_set.mro
  have made := F.called_set.made
  have own := F.called_set.sub
  have nt := F.called_set.notType
  have cc := F.called_set.canCreate
  have tc := F.typeCall_set_1 (.ref l)
  refine wpAny_call (codeAny_of_tree ?_)
  show wpAny _ _ (callAny (.type "set") _) _ _ _
  refine wpAny_pure ⟨Code.quiet_builtin _ (by decide +kernel), codeAny_builtin F.entry_type_call ?_⟩
  rw [Around.under_plain (weight_type_call_type "set" [.ref l] []) rfl]
  repeat (any_goals (first | assumption | wp_step))
  refine codeAny_mono (code_set_led1 (.ref l) (E := E) (Q₁ := fun v t => v = .ref s.heap.objs.size ∧ t = { s with heap := s.heap.push (bareSet w) }) ⟨rfl, rfl⟩) fun res t hres => ?_
  cases res with
  | error e => exact hres
  | ok fl =>
    cases fl with
    | ret v =>
      obtain ⟨rfl, rfl⟩ := hres
      have at0 : (s.heap.push (bareSet w)).get? s.heap.objs.size = some (bareSet w) := Heap.get?_push_size _ rfl
      have ty0 : Shared.TypeIs { s with heap := s.heap.push (bareSet w) } (.ref s.heap.objs.size) "set" := ⟨_, at0, rfl⟩
      have li := F.called_set.init.lookup
      have bi := F.called_set.init.bind (.ref s.heap.objs.size)
      repeat (any_goals (first | assumption | wp_step))
      refine codeAny_mono (codeAny_call_builtin (R := wants (fun v t => v = .none ∧ ∃ h' tk c, t = { s with heap := h', toks := tk } ∧ SetR w h' s.heap.objs.size (fun j => decide (j ∈ ns)) c ∧ c ≤ ns.length ∧ (∀ b o, s.heap.get? b = some o → h'.get? b = some o)) E)
        F.called_set.init.plain F.entry_set_init (check_set_init_1 ty0 ?_)) fun res2 t2 hres2 => ?_
      · obtain ⟨⟨oc, od, odt, osl⟩, hol, hcl, nl, hdl⟩ := hl
        simp only at hcl hdl
        subst hcl hdl
        have old : l < s.heap.objs.size := Heap.lt_size hol
        have at1 : (s.heap.push (bareSet w)).get? l = some { cls := .type "list", dict := od, data := .seq its nl, slots := osl } := Heap.get?_push_of_some _ hol
        have list1 : (s.heap.push (bareSet w)).IsList l its := ⟨_, at1, rfl, nl, rfl⟩
        have n1 := F.sub_list_set
        have n2 := F.sub_list_frozenset
        have n3 : (Value.type "list" == Value.type "dict") = false := by decide
        unfold Builtin.«set.__init__» noKeywords Builtin.Frozenset.updateFrom
        generalize hPI : pyIter = PI
        wp_walk
        subst hPI
        refine wpAny_pyIter_list list1 (wpAny_bind (wpAny_runValue ?_))
        have calm3 : A.in1.in1.in1.handled = none := by simp [calm]
        have sz1 : (s.heap.push (bareSet w)).objs.size = s.heap.objs.size + 1 := Heap.size_push ..
        have apart : l ≠ (s.heap.push (bareSet w)).objs.size := by
          rw [sz1]
          exact Nat.ne_of_lt (Nat.lt_succ_of_lt old)
        have out : s.heap.objs.size ∉ [(s.heap.push (bareSet w)).objs.size, l] := by
          rw [sz1]
          simp only [List.mem_cons, List.not_mem_nil, or_false, not_or]
          exact ⟨Nat.ne_of_lt (Nat.lt_succ_self _), Nat.ne_of_gt old⟩
        have vals : ∀ (i : Nat) (v : Value), its[i]? = some v → ∃ k t, ns[i]? = some k ∧ v = .int k t := fun i v hv => by
          have li := (Array.getElem?_eq_some_iff.mp hv).1
          rw [size] at li
          obtain ⟨t, e⟩ := PyProof.Rows.IntsAre.int_at hi i v (by rw [Array.getElem?_toList]; exact hv)
          refine ⟨ns[i], t, List.getElem?_eq_getElem li, ?_⟩
          rw [e, List.getD_eq_getElem?_getD, List.getElem?_eq_getElem li] <;> rfl
        refine set_update_ints ((Walks.list calm3 _ l apart its).toS) s.heap.objs.size out ns size few vals (its.size - 0) 0 _ (by omega) (Nat.zero_le _) ⟨⟨_, Heap.get?_push_size _ rfl, rfl, rfl⟩, list1.push _⟩ ⟨0, Nat.le_refl 0, setR_new_at (Heap.get?_push_of_some _ at0)⟩ fun s' c' hm hc' hS' => ?_
        obtain ⟨h', g2, d', tk', os'⟩ := s'
        obtain rfl : g2 = s.gens := hm.gens
        obtain rfl : d' = s.drawn := hm.drawn
        obtain rfl : os' = s.os := hm.os
        show wpAny _ _ _ _ _ _
        refine wpAny_pure ?_
        show wpAny _ _ (ret Value.none) _ _ _
        rw [size] at hc'
        refine wpAny_pure ⟨rfl, h', tk', c', rfl, hS', hc', fun b o e => ?_⟩
        have lb : b < s.heap.objs.size := Heap.lt_size e
        have b2 : b ≠ (s.heap.push (bareSet w)).objs.size := by
          rw [sz1]
          exact Nat.ne_of_lt (Nat.lt_succ_of_lt lb)
        exact hm.heap b o (by simp only [List.mem_cons, List.not_mem_nil, or_false, not_or]; exact ⟨Nat.ne_of_lt lb, b2⟩) (Heap.get?_push_of_some _ (Heap.get?_push_of_some _ e))
      · cases res2 with
        | error e => exact hres2
        | ok fl2 =>
          cases fl2 with
          | ret v2 =>
            obtain ⟨rfl, h', tk, c, rfl, hS, hc, hk⟩ := hres2
            repeat (any_goals (first | assumption | wp_step))
            exact h _ _ _ hS hc hk
          | _ => exact hres2.elim
    | _ => exact hres.elim
end
section
variable {X : Cx}
/-- sorted(set(a list of numbers)) -/
def tSset (K : PySem.W.Frag) (te : TE) : TE := fun σ H Q => te σ H fun x H1 => ∃ (l : Addr) (ns : List Int), x = .ref l ∧ SqL K H1 l (ns.map V.int) ∧ ns.length < 60 ∧ ∀ (out : List Int) (q : Addr), out.Pairwise (· < ·) → (∀ k, k ∈ out ↔ k ∈ ns) → H1 q = none → Q (.ref q) (upd H1 q (.lst (out.map V.int)))
theorem pe_sset {e : Expr} {te : TE} {p p2 pos pos2 : Pos} (hc : X.calm = true) (hg : Gl X "sorted") (hm : X.mg "sorted" = none) (hg2 : Gl X "set") (hm2 : X.mg "set" = none) (he : PE X e te)
    (na : starEach [e] X.env = (false, eval e X.env) :: starEach [] X.env := by rfl) : PE X (.Call (.Name "sorted" p) [.Call (.Name "set" p2) [e] [] pos2] [] pos) (tSset X.K te) := by
  refine ⟨fun pins s σ H Q I h => ?_⟩
  refine Call_ (ld_blt I hg hm PyProof.Rows.boot_sorted (PyProof.Rows.callWith_builtin1 (PyProof.Rows.args_cons ?_ rfl) rfl rfl))
  refine Call_ (ld_blt I hg2 hm2 PyProof.Rows.boot_set (PyProof.Rows.callWith_type1 (PyProof.Rows.args_cons (thn (he.run pins s σ H _ I h) fun v s1 ⟨x, H1, I1, r1, q1⟩ => PyProof.Rows.args_nil ?_) na) na rfl))
  obtain ⟨l, ns, rfl, hq, h60, q⟩ := q1
  cases r1
  obtain ⟨its, r, pl, _⟩ := I1.list hq
  refine set_of_ints ns (I1.ok.hd hc) pl.isList (ints_of_vals r) (by unfold scanBound; omega) fun h' tk c R1 hcn k1 => PyProof.Rows.args_nil ?_
  have I2 : Inv X pins σ H1 { s1 with heap := h', toks := tk } := I1.kept k1
  have R2 : SetR X.w ({ s1 with heap := h', toks := tk } : Shared).heap s1.heap.objs.size (fun j => decide (j ∈ ns)) c := R1
  generalize ({ s1 with heap := h', toks := tk } : Shared) = s2 at I2 R2 ⊢
  refine sorted_set R2 (I2.ok.hd hc) (by omega) fun s' q' out c2 os k g o hp hg' hi hs hmem hl => ?_
  have small : (os.map V.int).length ≤ sizeLine := by rw [List.length_map, hl, sizeLine_eq]; omega
  have free : H1 q' = none := I2.hok.fresh hp
  have J : Inv X pins σ (upd H1 q' (.lst (os.map V.int))) { s2 with heap := s'.heap, gens := s'.gens, drawn := s'.drawn, toks := s'.toks } :=
    I2.call (ch := []) (Un.laid k hp free) (I2.hok.laid k hp ⟨small, out.toList, c2, vals_of_ints hi, hg'⟩) (by rw [g]; exact I2.bare) (fun _ z => nomatch z)
  have e1 : s' = { s2 with heap := s'.heap, gens := s'.gens, drawn := s'.drawn, toks := s'.toks } := by
    cases s'
    cases s2
    cases o
    rfl
  rw [e1]
  exact ⟨.ref q', _, J, rfl, q os q' hs (fun j => by rw [hmem j, decide_eq_true_eq]) free⟩
end
end L2
namespace Me
open PySem PySem.Spec L2
open PyProof.Rows hiding St
def bodyC : Stmt → List Stmt
  | .ClassDef (body := b) .. => b
  | _ => []
/-! ### sorted(set(a list of numbers)) -/
/-- each once -/
def once : List Int → List Int
  | [] => []
  | a :: r => if a ∈ r then once r else a :: once r
theorem once_mem {k : Int} : ∀ {l : List Int}, k ∈ once l ↔ k ∈ l
  | [] => Iff.rfl
  | a :: r => by
    unfold once
    have ih := once_mem (k := k) (l := r)
    by_cases h : a ∈ r
    · rw [if_pos h, ih, List.mem_cons]
      refine ⟨Or.inr, fun z => z.elim (fun e => by rw [e]; exact h) id⟩
    · rw [if_neg h, List.mem_cons, List.mem_cons, ih]
theorem once_nodup : ∀ l : List Int, (once l).Nodup
  | [] => List.nodup_nil
  | a :: r => by
    unfold once
    by_cases h : a ∈ r
    · rw [if_pos h]
      exact once_nodup r
    · rw [if_neg h, List.nodup_cons]
      exact ⟨fun z => h (once_mem.mp z), once_nodup r⟩
theorem once_asc (l : List Int) : (sortI (once l)).Pairwise (· < ·) := by
  have h1 := sortI_sorted (once l)
  have h2 : (sortI (once l)).Nodup := (sortI_perm (once l)).nodup_iff.mpr (once_nodup l)
  exact (h1.and h2).imp fun {a b} h => by
    have h3 := h.1
    have h4 : a ≠ b := h.2
    omega
theorem asc_eq : ∀ {xs ys : List Int}, xs.Pairwise (· < ·) → ys.Pairwise (· < ·) → (∀ k, k ∈ xs ↔ k ∈ ys) → xs = ys
  | [], [], _, _, _ => rfl
  | [], y :: ys, _, _, h => by have := (h y).mpr (by simp); simp at this
  | x :: xs, [], _, _, h => by have := (h x).mp (by simp); simp at this
  | x :: xs, y :: ys, hx, hy, h => by
    rw [List.pairwise_cons] at hx hy
    have e : x = y := by
      have h1 := (h x).mp (by simp)
      have h2 := (h y).mpr (by simp)
      rcases List.mem_cons.mp h1 with z | z
      · exact z
      · rcases List.mem_cons.mp h2 with w | w
        · exact w.symm
        · have q1 := hy.1 x z
          have q2 := hx.1 y w
          omega
    subst e
    rw [asc_eq hx.2 hy.2 fun k => ?_]
    have hk := h k
    rw [List.mem_cons, List.mem_cons] at hk
    constructor
    · intro z
      have q := hx.1 k z
      rcases hk.mp (Or.inr z) with w | w
      · omega
      · exact w
    · intro z
      have q := hy.1 k z
      rcases hk.mpr (Or.inr z) with w | w
      · omega
      · exact w
def eSset (x : M) : M := eB x fun d _ S => match lstD S d with
  | some xs => (match intsD xs with
    | some ns => if ns.length < 60 then .ok (.lst ((sortI (once ns)).map D.int)) S else .fail
    | none => .fail)
  | none => .fail
theorem me_sset {X : Cx} {W : WX} {e : Expr} {x : M} {p p2 pos pos2 : Pos} (hc : X.calm = true) (hg : Gl X "sorted") (hm : X.mg "sorted" = none) (hg2 : Gl X "set") (hm2 : X.mg "set" = none) (hx : ME X W e x)
    (na : starEach [e] X.env = (false, eval e X.env) :: starEach [] X.env := by rfl) : ME X W (.Call (.Name "sorted" p) [.Call (.Name "set" p2) [e] [] pos2] [] pos) (eSset x) :=
  pe_imp (pe_sset hc hg hm hg2 hm2 hx na) fun σ H Q h => tm_mono (tm_b h) fun v H1 ⟨d, r, S, m, H0, he, rl, i, k⟩ => by
    cases hl : lstD S d with
    | none => simp only [hl] at k; exact k.elim
    | some xs =>
      simp only [hl] at k
      cases hn : intsD xs with
      | none => simp only [hn] at k; exact k.elim
      | some ns =>
        simp only [hn] at k
        by_cases h60 : ns.length < 60
        · rw [if_pos h60] at k
          obtain ⟨a, vs, rfl, e1, e2⟩ := lstD_ok rl i hl
          rw [ints_eq hn] at e2
          rw [isl_ints e2] at e1
          refine ⟨a, ns, rfl, e1, h60, fun out q ho hmem hq => ?_⟩
          have e3 : out = sortI (once ns) := asc_eq ho (once_asc ns) fun k => by rw [hmem k, (sortI_perm (once ns)).mem_iff, once_mem]
          rw [e3]
          exact kt_lst k rl (isl_mapI _) hq
        · rw [if_neg h60] at k
          exact k.elim
theorem ok_sset {S : List Cel} {x : M} {r : Rho} {P : D → List Cel → Prop} : True := trivial
end Me
end
section
set_option Elab.async false
set_option linter.all false
set_option maxRecDepth 100000
namespace Me
open PySem PySem.Spec L2
open PyProof.Rows hiding St

/-! ### what a mirror tells: goes well, and behind it P -/
def Ok {α : Type} (x : R α) (P : α → List Cel → Prop) : Prop := match x with
  | .ok a S => P a S
  | _ => False
def OkS (x : SR) (N : Rho → List Cel → Prop) (T : D → List Cel → Prop) : Prop := match x with
  | .nx r S => N r S
  | .rt d S => T d S
  | _ => False
section
variable {α β : Type} {r : Rho} {S : List Cel} {x y z : M} {l k : ML} {t u : MB} {a b : MS} {N : Rho → List Cel → Prop} {T : D → List Cel → Prop} {d e : D}
theorem Ok.imp {x : R α} {P P' : α → List Cel → Prop} (h : Ok x P) (w : ∀ a S, P a S → P' a S) : Ok x P' := by
  cases x with
  | ok a S => exact w a S h
  | _ => exact h
theorem OkS.imp {x : SR} {N N' : Rho → List Cel → Prop} {T T' : D → List Cel → Prop} (h : OkS x N T) (w : ∀ r S, N r S → N' r S) (w' : ∀ d S, T d S → T' d S) : OkS x N' T' := by
  cases x with
  | nx r S => exact w r S h
  | rt d S => exact w' d S h
  | _ => exact h
theorem ok_ok {a : α} {P : α → List Cel → Prop} : Ok (.ok a S) P = P a S := rfl
theorem ok_fail {P : α → List Cel → Prop} : Ok .fail P = False := rfl
theorem ok_bind {x : R α} {f : α → List Cel → R β} {P : β → List Cel → Prop} : Ok (x.bind f) P = Ok x fun a S => Ok (f a S) P := by cases x <;> rfl
theorem ok_ite {c : Prop} [Decidable c] {x y : R α} {P : α → List Cel → Prop} : Ok (if c then x else y) P = if c then Ok x P else Ok y P := by split <;> rfl
variable {P : D → List Cel → Prop} {PL : List D → List Cel → Prop} {PB : Bool → List Cel → Prop}
theorem ok_bin {f : D → D → List Cel → R D} : Ok (eBin f x y r S) P = Ok (x r S) fun a S1 => Ok (y r S1) fun b S2 => Ok (f a b S2) P := by
  unfold eBin eB
  rw [ok_bind]
  congr 1
  funext a S1
  rw [ok_bind]
theorem ok_eb {f : D → M} : Ok (eB x f r S) P = Ok (x r S) fun d S1 => Ok (f d r S1) P := ok_bind
theorem ok_c : Ok (eC d r S) P = P d S := rfl
theorem ok_var {i : Nat} : Ok (eVar i r S) P = match r[i]? with
  | some (some d) => P d S
  | _ => False := by
  unfold eVar
  cases r[i]? with
  | none => rfl
  | some o => cases o <;> rfl
theorem ok_var' {i : Nat} (h : r[i]? = some (some d)) (p : P d S) : Ok (eVar i r S) P := by
  rw [ok_var, h]
  exact p
theorem ok_tob : Ok (toB x r S) PB = Ok (x r S) fun d S1 => match d with
  | .bl b => PB b S1
  | _ => False := by
  unfold toB
  cases x r S with
  | ok d S1 => cases d <;> rfl
  | _ => rfl
theorem ok_bnot : Ok (bNot t r S) PB = Ok (t r S) fun b S1 => PB (!b) S1 := by
  unfold bNot
  cases t r S <;> rfl
theorem ok_band : Ok (bAnd t u r S) PB = Ok (t r S) fun b S1 => if b = true then Ok (u r S1) PB else PB false S1 := by
  unfold bAnd
  rw [ok_bind]
  congr 1
  funext b S1
  rw [ok_ite]
  rfl
theorem ok_bor : Ok (bOr t u r S) PB = Ok (t r S) fun b S1 => if b = true then PB true S1 else Ok (u r S1) PB := by
  unfold bOr
  rw [ok_bind]
  congr 1
  funext b S1
  rw [ok_ite]
  rfl
theorem ok_and : Ok (eAnd x y r S) P = Ok (x r S) fun d S1 => match d with
  | .bl true => Ok (y r S1) P
  | .bl false => P (.bl false) S1
  | _ => False := by
  unfold eAnd
  rw [ok_bind]
  congr 1
  funext d S1
  cases d with
  | bl b => cases b <;> rfl
  | _ => rfl
theorem ok_or : Ok (eOr x y r S) P = Ok (x r S) fun d S1 => match d with
  | .bl false => Ok (y r S1) P
  | .bl true => P (.bl true) S1
  | _ => False := by
  unfold eOr
  rw [ok_bind]
  congr 1
  funext d S1
  cases d with
  | bl b => cases b <;> rfl
  | _ => rfl
theorem ok_not : Ok (eNot x r S) P = Ok (x r S) fun d S1 => match d with
  | .bl b => P (.bl (!b)) S1
  | _ => False := by
  unfold eNot
  rw [ok_bind]
  congr 1
  funext d S1
  cases d <;> rfl
theorem ok_neg : Ok (eNeg x r S) P = Ok (x r S) fun d S1 => match d with
  | .int i => P (.int (-i)) S1
  | _ => False := by
  unfold eNeg
  rw [ok_eb]
  congr 1
  funext d S1
  cases d <;> rfl
theorem ok_if : Ok (eIf t x y r S) P = Ok (t r S) fun b S1 => if b = true then Ok (x r S1) P else Ok (y r S1) P := by
  unfold eIf
  rw [ok_bind]
  congr 1
  funext b S1
  rw [ok_ite]
theorem ok_anil : Ok (aNil r S) PL = PL [] S := rfl
theorem ok_acons : Ok (aCons x l r S) PL = Ok (x r S) fun d S1 => Ok (l r S1) fun ds S2 => PL (d :: ds) S2 := by
  unfold aCons
  rw [ok_bind]
  congr 1
  funext d S1
  rw [ok_bind]
  rfl
theorem ok_tup : Ok (eTup l r S) P = Ok (l r S) fun ds S1 => ds.length ≤ sizeLine ∧ P (.tup ds) S1 := by
  unfold eTup
  rw [ok_bind]
  congr 1
  funext d S1
  rw [ok_ite]
  by_cases h : d.length ≤ sizeLine
  · simp [h, ok_ok]
  · simp [h, ok_fail]
theorem ok_lst : Ok (eLst l r S) P = Ok (l r S) fun ds S1 => ds.length ≤ sizeLine ∧ P (.lst ds) S1 := by
  unfold eLst
  rw [ok_bind]
  congr 1
  funext d S1
  rw [ok_ite]
  by_cases h : d.length ≤ sizeLine
  · simp [h, ok_ok]
  · simp [h, ok_fail]
theorem ok_cel : Ok (eCel l r S) P = Ok (l r S) fun ds S1 => ds.length ≤ sizeLine ∧ P (.cell S1.length) (S1 ++ [.lst ds]) := by
  unfold eCel
  rw [ok_bind]
  congr 1
  funext d S1
  rw [ok_ite]
  by_cases h : d.length ≤ sizeLine
  · simp [h, ok_ok]
  · simp [h, ok_fail]
theorem ok_fn {f : List D → List Cel → R D} : Ok (eFn f l r S) P = Ok (l r S) fun ds S1 => Ok (f ds S1) P := ok_bind
theorem ok_f1 {g : D → List Cel → R D} : Ok (f1 g [d] S) P = Ok (g d S) P := rfl
theorem ok_f2 {g : D → D → List Cel → R D} : Ok (f2 g [d, e] S) P = Ok (g d e S) P := rfl
theorem ok_call {cm : CM} {n : Nat} {F : DF} {gD : List D → List D → List D} : Ok (eCall cm n F gD l k r S) P = Ok (l r S) fun ds S1 => Ok (k r S1) fun es S2 => (gD ds es).length = n ∧ Ok (cm F (gD ds es) S2) P := by
  unfold eCall
  rw [ok_bind]
  congr 1
  funext d S1
  rw [ok_bind]
  congr 1
  funext d2 S2
  rw [ok_ite]
  by_cases h : (gD d d2).length = n
  · simp [h]
  · simp [h, ok_fail]
theorem ok_meth {c mn : PySem.Str} {cm : CM} {n : Nat} {F : DF} {gD : List D → List D → List D} : Ok (eMeth c mn cm n F gD x l k r S) P = Ok (x r S) fun d S0 => match d with
  | .obj c' ns vs => (c' = c ∧ mn ∉ ns) ∧ Ok (l r S0) fun ds S1 => Ok (k r S1) fun es S2 => (gD (.obj c' ns vs :: ds) es).length = n ∧ Ok (cm F (gD (.obj c' ns vs :: ds) es) S2) P
  | _ => False := by
  unfold eMeth
  rw [ok_eb]
  congr 1
  funext d S0
  cases d with
  | obj c' ns vs =>
    by_cases h : c' = c ∧ mn ∉ ns
    · simp only [h, if_true, not_false_eq_true, and_self, true_and]
      rw [ok_bind]
      congr 1
      funext d S1
      rw [ok_bind]
      congr 1
      funext d2 S2
      rw [ok_ite]
      by_cases h : (gD (D.obj c ns vs :: d) d2).length = n
      · simp [h]
      · simp [h, ok_fail]
    · simp only [h, if_false, false_and]
      rfl
  | _ => rfl
theorem ok_new {c : PySem.Str} {n : Nat} {F : DF} {gD : List D → List D → List D} : Ok (eNew c n F gD l k r S) P = Ok (l r S) fun ds S1 => Ok (k r S1) fun es S2 => (gD ds es).length = n ∧ Ok (newD c F (gD ds es) S2) P := by
  unfold eNew
  rw [ok_bind]
  congr 1
  funext d S1
  rw [ok_bind]
  congr 1
  funext d2 S2
  rw [ok_ite]
  by_cases h : (gD d d2).length = n
  · simp [h]
  · simp [h, ok_fail]
/-! calls, by what the function does -/
theorem ok_callP {F : DF} {ds : List D} {Q : D → Prop} (h : Ok (F ds []) fun d _ => d.cf = true ∧ Q d) (hc : D.cfL ds = true) (hp : ∀ d, Q d → P d S) : Ok (callP F ds S) P := by
  unfold callP
  rw [if_pos hc]
  cases hF : F ds [] with
  | ok d S1 =>
    rw [hF] at h
    have h' : d.cf = true ∧ Q d := h
    simp only [h'.1, if_true]
    exact hp d h'.2
  | fail => rw [hF] at h; exact h.elim
  | exc _ _ => rw [hF] at h; exact h.elim
theorem ok_callB {F : DF} {i : Nat} {c : Cel} {ds : List D} {Q : D → Cel → Prop} (hS : S[i]? = some c) (h : Ok (F (.cell 0 :: ds) [c]) fun d S' => ∃ c' g, S' = c' :: g ∧ (d.cf && c'.cf) = true ∧ Q d c') (hc : (D.cfL ds && c.cf) = true) (hp : ∀ d c', Q d c' → P d (S.set i c')) : Ok (callB F (.cell i :: ds) S) P := by
  unfold callB
  simp only [hS, hc, if_true]
  cases hF : F (.cell 0 :: ds) [c] with
  | ok d S1 =>
    rw [hF] at h
    obtain ⟨c', g, rfl, h1, h2⟩ := h
    simp only [h1, if_true]
    exact hp d c' h2
  | fail => rw [hF] at h; exact h.elim
  | exc _ _ => rw [hF] at h; exact h.elim
theorem ok_callF {F : DF} {ds : List D} {Q : List D → Prop} (h : Ok (F ds []) fun d S' => ∃ j xs, d = .cell j ∧ S'[j]? = some (.lst xs) ∧ D.cfL xs = true ∧ Q xs) (hc : D.cfL ds = true) (hp : ∀ xs, Q xs → P (.cell S.length) (S ++ [.lst xs])) : Ok (callF F ds S) P := by
  unfold callF
  rw [if_pos hc]
  cases hF : F ds [] with
  | ok d S1 =>
    rw [hF] at h
    obtain ⟨j, xs, rfl, h1, h2, h3⟩ := h
    simp only [h1, h2, if_true]
    exact hp xs h3
  | fail => rw [hF] at h; exact h.elim
  | exc _ _ => rw [hF] at h; exact h.elim
/-! statements -/
theorem oks_nx : OkS (sNx r S) N T = N r S := rfl
theorem oks_no : OkS (sNo r S) N T = False := rfl
theorem oks_retN : OkS (sRetN r S) N T = T .non S := rfl
theorem oks_seq : OkS (sSeq a b r S) N T = OkS (a r S) (fun r1 S1 => OkS (b r1 S1) N T) T := by
  unfold sSeq
  cases a r S <;> rfl
theorem oks_ret : OkS (sRet x r S) N T = Ok (x r S) T := by
  unfold sRet
  cases x r S <;> rfl
theorem oks_drop : OkS (sDrop x r S) N T = Ok (x r S) fun _ S1 => N r S1 := by
  unfold sDrop
  cases x r S <;> rfl
theorem oks_if : OkS (sIf t a b r S) N T = Ok (t r S) fun c S1 => if c = true then OkS (a r S1) N T else OkS (b r S1) N T := by
  unfold sIf
  cases t r S with
  | ok c S1 => cases c <;> rfl
  | _ => rfl
theorem oks_set {i : Nat} : OkS (sSet i x r S) N T = Ok (x r S) fun d S1 => N (r.set i (some d)) S1 := by
  unfold sSet
  cases x r S <;> rfl
theorem oks_asg {g : GD} : OkS (sAsg x g r S) N T = Ok (x r S) fun d S1 => match g d r with
  | some r1 => N r1 S1
  | none => False := by
  unfold sAsg
  cases x r S with
  | ok d S1 =>
    show OkS (match g d r with
      | some r1 => .nx r1 S1
      | none => .fail) N T = match g d r with
      | some r1 => N r1 S1
      | none => False
    cases g d r <;> rfl
  | _ => rfl
theorem oks_par {is : List Nat} : OkS (sPar is l r S) N T = Ok (l r S) fun ds S1 => ds.length = is.length ∧ N (putAll is ds r) S1 := by
  unfold sPar
  cases l r S with
  | ok ds S1 =>
    by_cases h : ds.length = is.length
    · simp [h, OkS, Ok]
    · simp [h, OkS, Ok]
  | _ => rfl
theorem oks_item {o i : M} : OkS (sItem o i x r S) N T = Ok (x r S) fun d S1 => Ok (o r S1) fun od S2 => Ok (i r S2) fun id S3 => match od, id with
  | .cell k, .int j => (match S3[k]? with
    | some (.lst xs) => (match ixN xs.length j with
      | some n => N r (S3.set k (.lst (xs.set n d)))
      | none => False)
    | _ => False)
  | _, _ => False := by
  unfold sItem
  cases x r S with
  | ok d S1 =>
    simp only [Ok]
    cases o r S1 with
    | ok od S2 =>
      simp only
      cases od with
      | cell k =>
        simp only
        cases i r S2 with
        | ok id S3 =>
          cases id with
          | int j =>
            simp only
            cases S3[k]? with
            | none => rfl
            | some c =>
              cases c with
              | lst xs =>
                simp only
                cases ixN xs.length j <;> rfl
              | _ => rfl
          | _ => rfl
        | _ => rfl
      | _ => cases i r S2 <;> rfl
    | _ => rfl
  | _ => rfl
theorem oks_fld {c f : PySem.Str} {o : M} : OkS (sFldD c f o x r S) N T = Ok (x r S) fun d S1 => Ok (o r S1) fun od S2 => match od with
  | .cell k => (match S2[k]? with
    | some (.ins c' ns ds) => (c' = c ∧ ns.length < 999 ∧ ns.length = ds.length) ∧ N r (S2.set k (.ins c (putD f d ns ds).1 (putD f d ns ds).2))
    | _ => False)
  | _ => False := by
  unfold sFldD
  cases x r S with
  | ok d S1 =>
    simp only [Ok]
    cases o r S1 with
    | ok od S2 =>
      simp only
      cases od with
      | cell k =>
        simp only
        cases S2[k]? with
        | none => rfl
        | some cc =>
          cases cc with
          | ins c' ns ds =>
            by_cases h : c' = c ∧ ns.length < 999 ∧ ns.length = ds.length
            · simp only [if_pos h, OkS]
              exact propext ⟨fun q => ⟨h, q⟩, fun q => q.2⟩
            · simp only [if_neg h, OkS]
              exact propext ⟨fun q => q.elim, fun q => absurd q.1 h⟩
          | _ => rfl
      | _ => rfl
    | _ => rfl
  | _ => rfl
theorem oks_frz {i : Nat} : OkS (sFrz i a r S) N T = match r[i]? with
  | some (some (.cell k)) => (match S[k]? with
    | some (.lst xs) => OkS (a (r.set i (some (.lst xs))) (S.set k .dead)) N T
    | _ => False)
  | _ => False := by
  unfold sFrz
  cases r[i]? with
  | none => rfl
  | some o =>
    cases o with
    | none => rfl
    | some d =>
      cases d with
      | cell k =>
        simp only
        cases S[k]? with
        | none => rfl
        | some c => cases c <;> rfl
      | _ => rfl
theorem ok_mut {f : List D → List D → Option (D × List D)} : Ok (eMut f x l r S) P = Ok (x r S) fun d S1 => match d with
  | .cell k => (match S1[k]? with
    | some (.lst _) => Ok (l r S1) fun ds S2 => (match S2[k]? with
      | some (.lst xs) => (match f xs ds with
        | some (d, xs') => P d (S2.set k (.lst xs'))
        | none => False)
      | _ => False)
    | _ => False)
  | _ => False := by
  unfold eMut
  rw [ok_bind]
  congr 1
  funext d S1
  cases d with
  | cell k =>
    simp only
    cases S1[k]? with
    | none => rfl
    | some c =>
      cases c with
      | lst ys =>
        simp only
        rw [ok_bind]
        congr 1
        funext ds S2
        cases S2[k]? with
        | none => rfl
        | some c2 =>
          cases c2 with
          | lst xs =>
            simp only
            cases f xs ds <;> rfl
          | _ => rfl
      | _ => rfl
  | _ => rfl
theorem ok_fld {c f : PySem.Str} : Ok (eFld c f x r S) P = Ok (x r S) fun d S1 => match d with
  | .obj c' ns ds => c' = c ∧ (match look f ns ds with
    | some v => P v S1
    | none => False)
  | .cell k => (match S1[k]? with
    | some (.ins c' ns ds) => c' = c ∧ (match look f ns ds with
      | some v => P v S1
      | none => False)
    | _ => False)
  | _ => False := by
  unfold eFld
  rw [ok_eb]
  congr 1
  funext d S1
  cases d with
  | obj c' ns ds =>
    by_cases h : c' = c
    · simp only [h, if_true, true_and]
      cases look f ns ds <;> rfl
    · simp only [h, if_false, false_and]
      rfl
  | cell k =>
    simp only
    cases S1[k]? with
    | none => rfl
    | some cc =>
      cases cc with
      | ins c' ns ds =>
        by_cases h : c' = c
        · simp only [h, if_true, true_and]
          cases look f ns ds <;> rfl
        · simp only [h, if_false, false_and]
          rfl
      | _ => rfl
  | _ => rfl
theorem ok_sl {lo hi : MO} : Ok (eSl x lo hi r S) P = Ok (x r S) fun d S1 => Ok (lo r S1) fun l S2 => Ok (hi r S2) fun u S3 => Ok (match lstD S3 d with
  | some xs => .ok (.lst (cutD xs l u)) S3
  | none => (match d with
    | .tup xs => if ¬ (HT.sIx xs.length 0 l = 0 ∧ HT.sIx xs.length xs.length u = xs.length) then .ok (.tup (cutD xs l u)) S3 else .fail
    | _ => .fail)) P := by
  unfold eSl
  rw [ok_bind]
  congr 1
  funext d S1
  rw [ok_bind]
  congr 1
  funext d2 S2
  rw [ok_bind]
  all_goals rfl
theorem ok_ono {PO : Option Int → List Cel → Prop} : Ok (oNo r S) PO = PO none S := rfl
theorem ok_oso {PO : Option Int → List Cel → Prop} : Ok (oSo x r S) PO = Ok (x r S) fun d S1 => match d with
  | .int i => PO (some i) S1
  | _ => False := by
  unfold oSo
  rw [ok_bind]
  congr 1
  funext d S1
  cases d <;> rfl
theorem ok_is {U : String} : Ok (eIs U x r S) P = Ok (x r S) fun d S1 => match tyS S1 d with
  | some a => P (.bl (isiB a U)) S1
  | none => False := by
  unfold eIs
  rw [ok_eb]
  congr 1
  funext d S1
  cases tyS S1 d <;> rfl
theorem ok_is2 {U V : String} : Ok (eIs2 U V x r S) P = Ok (x r S) fun d S1 => match tyS S1 d with
  | some a => P (.bl (isiB a U || isiB a V)) S1
  | none => False := by
  unfold eIs2
  rw [ok_eb]
  congr 1
  funext d S1
  cases tyS S1 d <;> rfl
theorem ok_ch {f g : Int → Int → Bool} : Ok (eCh f g x y z r S) P = Ok (x r S) fun a S1 => Ok (y r S1) fun b S2 => match a, b with
  | .int i, .int j => if f i j = true then (Ok (z r S2) fun c S3 => match c with
    | .int k => P (.bl (g j k)) S3
    | _ => False) else P (.bl false) S2
  | _, _ => False := by
  unfold eCh
  rw [ok_eb]
  congr 1
  funext a S1
  rw [ok_eb]
  congr 1
  funext b S2
  cases a with
  | int i =>
    cases b with
    | int j =>
      by_cases h : f i j = true
      · simp only [h, if_true]
        rw [ok_bind]
        congr 1
        funext c S3
        cases c <;> rfl
      · simp only [h]
        rfl
    | _ => rfl
  | _ => cases b <;> rfl
end
end Me
end
section
set_option Elab.async false
set_option linter.all false
set_option maxRecDepth 100000
namespace Me
open PySem PySem.Spec L2
open PyProof.Rows hiding St

section
variable {r : Rho} {S : List Cel} {x x1 : MSrc} {g g1 : GD} {b : MS} {t t1 : MB} {e : M} {N : Rho → List Cel → Prop} {T : D → List Cel → Prop}
/-! ### loops -/
theorem loop_inv {s : Src} (I : Nat → Rho → List Cel → Prop) (hI : ∀ i d r S, s.ds[i]? = some d → s.ok S → I i r S → ∃ r1, g d r = some r1 ∧ OkS (b r1 S) (fun r2 S2 => s.ok S2 ∧ I (i + 1) r2 S2) T)
    (hN : ∀ r S, s.ok S → I s.ds.length r S → N r S) : ∀ (n i : Nat) (r : Rho) (S : List Cel), s.ds.length - i = n → i ≤ s.ds.length → s.ok S → I i r S → OkS (loopD g b s (s.ds.drop i) r S) N T
  | 0, i, r, S, hn, hi, ok, h => by
    have e : i = s.ds.length := by omega
    subst e
    rw [List.drop_length]
    exact hN r S ok h
  | n + 1, i, r, S, hn, hi, ok, h => by
    have hlt : i < s.ds.length := by omega
    rw [List.drop_eq_getElem_cons hlt]
    unfold loopD
    obtain ⟨r1, e1, h1⟩ := hI i s.ds[i] r S (by simp [hlt]) ok h
    simp only [e1]
    cases hb : b r1 S with
    | nx r2 S2 =>
      rw [hb] at h1
      have h2 : s.ok S2 ∧ I (i + 1) r2 S2 := h1
      simp only [if_pos h2.1]
      exact loop_inv I hI hN n (i + 1) r2 S2 (by omega) hlt h2.1 h2.2
    | rt d S2 => rw [hb] at h1; exact h1
    | fail => rw [hb] at h1; exact h1.elim
    | bk _ _ => rw [hb] at h1; exact h1.elim
    | ct _ _ => rw [hb] at h1; exact h1.elim
    | exc _ _ _ => rw [hb] at h1; exact h1.elim
theorem oks_for (I : Src → Nat → Rho → List Cel → Prop) (h : Ok (x r S) fun s S1 => s.ok S1 ∧ I s 0 r S1 ∧ (∀ i d r S, s.ds[i]? = some d → s.ok S → I s i r S → ∃ r1, g d r = some r1 ∧ OkS (b r1 S) (fun r2 S2 => s.ok S2 ∧ I s (i + 1) r2 S2) T) ∧ ∀ r S, s.ok S → I s s.ds.length r S → N r S) : OkS (sFor x g b r S) N T := by
  unfold sFor
  cases hx : x r S with
  | ok s S1 =>
    rw [hx] at h
    obtain ⟨h1, h2, h3, h4⟩ : s.ok S1 ∧ I s 0 r S1 ∧ _ ∧ _ := h
    simp only [if_pos h1]
    exact loop_inv (I s) h3 h4 _ 0 r S1 rfl (Nat.zero_le _) h1 h2
  | fail => rw [hx] at h; exact h.elim
  | exc _ _ => rw [hx] at h; exact h.elim
/-! ### comprehensions -/
variable {PL : List D → List Cel → Prop}
theorem lc_inv {s : Src} {rw : Rho} (I : Nat → List D → List Cel → Prop) (hI : ∀ i d acc S, s.ds[i]? = some d → s.ok S → I i acc S → ∃ r1, g d rw = some r1 ∧ Ok (t r1 S) fun c S1 => if c = true then Ok (e r1 S1) (fun y S2 => s.ok S2 ∧ acc.length < sizeLine ∧ I (i + 1) (acc ++ [y]) S2) else s.ok S1 ∧ I (i + 1) acc S1)
    (hN : ∀ acc S, s.ok S → I s.ds.length acc S → PL acc S) : ∀ (n i : Nat) (acc : List D) (S : List Cel), s.ds.length - i = n → i ≤ s.ds.length → s.ok S → I i acc S → Ok (lcL g t e s rw (s.ds.drop i) acc S) PL
  | 0, i, acc, S, hn, hi, ok, h => by
    have e : i = s.ds.length := by omega
    subst e
    rw [List.drop_length]
    exact hN acc S ok h
  | n + 1, i, acc, S, hn, hi, ok, h => by
    have hlt : i < s.ds.length := by omega
    rw [List.drop_eq_getElem_cons hlt]
    unfold lcL
    obtain ⟨r1, e1, h1⟩ := hI i s.ds[i] acc S (by simp [hlt]) ok h
    simp only [e1]
    cases ht : t r1 S with
    | ok c S1 =>
      rw [ht] at h1
      cases c with
      | true =>
        have h2 : Ok (e r1 S1) (fun y S2 => s.ok S2 ∧ acc.length < sizeLine ∧ I (i + 1) (acc ++ [y]) S2) := h1
        simp only
        cases he : e r1 S1 with
        | ok y S2 =>
          rw [he] at h2
          obtain ⟨k1, k2, k3⟩ : s.ok S2 ∧ acc.length < sizeLine ∧ I (i + 1) (acc ++ [y]) S2 := h2
          simp only [if_pos (And.intro k1 k2)]
          exact lc_inv I hI hN n (i + 1) _ S2 (by omega) hlt k1 k3
        | fail => rw [he] at h2; exact h2.elim
        | exc _ _ => rw [he] at h2; exact h2.elim
      | false =>
        obtain ⟨k1, k3⟩ : s.ok S1 ∧ I (i + 1) acc S1 := h1
        simp only [if_pos k1]
        exact lc_inv I hI hN n (i + 1) _ S1 (by omega) hlt k1 k3
    | fail => rw [ht] at h1; exact h1.elim
    | exc _ _ => rw [ht] at h1; exact h1.elim
variable {as : List D → List Cel → R D} {P : D → List Cel → Prop} {vs vs1 : List Nat}
theorem ok_lc (I : Src → Nat → List D → List Cel → Prop) (h : Ok (x r S) fun s S1 => s.ok S1 ∧ I s 0 [] S1 ∧ (∀ i d acc S, s.ds[i]? = some d → s.ok S → I s i acc S → ∃ r1, g d (wipeD r vs) = some r1 ∧ Ok (t r1 S) fun c S1 => if c = true then Ok (e r1 S1) (fun y S2 => s.ok S2 ∧ acc.length < sizeLine ∧ I s (i + 1) (acc ++ [y]) S2) else s.ok S1 ∧ I s (i + 1) acc S1) ∧
      ∀ acc S, s.ok S → I s s.ds.length acc S → Ok (as acc S) P) : Ok (eLc as x vs g t e r S) P := by
  unfold eLc
  rw [ok_bind]
  refine h.imp fun s S1 ⟨h1, h2, h3, h4⟩ => ?_
  rw [if_pos h1, ok_bind]
  exact lc_inv (I s) h3 h4 _ 0 [] S1 rfl (Nat.zero_le _) h1 h2
/-- nothing changes meanwhile: f tells each item's value, if any -/
theorem ok_lcP (f : D → Option D) (h : Ok (x r S) fun s S1 => s.ok S1 ∧ s.ds.length ≤ sizeLine ∧ (∀ d, d ∈ s.ds → ∃ r1, g d (wipeD r vs) = some r1 ∧ Ok (t r1 S1) fun c S2 => S2 = S1 ∧ if c = true then Ok (e r1 S2) (fun y S3 => S3 = S1 ∧ f d = some y) else f d = none) ∧ Ok (as (s.ds.filterMap f) S1) P) : Ok (eLc as x vs g t e r S) P := by
  unfold eLc
  rw [ok_bind]
  refine h.imp fun s S1 ⟨h1, hl, h3, h4⟩ => ?_
  rw [if_pos h1, ok_bind]
  refine lc_inv (fun i acc S => S = S1 ∧ acc = (s.ds.take i).filterMap f) (fun i d acc S hd _ hI => ?_) (fun acc S _ hI => ?_) _ 0 [] S1 rfl (Nat.zero_le _) h1 ⟨rfl, by simp⟩
  · obtain ⟨rfl, rfl⟩ := hI
    obtain ⟨r1, e1, h5⟩ := h3 d (List.mem_of_getElem? hd)
    refine ⟨r1, e1, h5.imp fun c S2 ⟨e2, h6⟩ => ?_⟩
    subst e2
    have hi := (List.getElem?_eq_some_iff.mp hd).1
    have tk : s.ds.take (i + 1) = s.ds.take i ++ [d] := by rw [List.take_add_one, hd]; rfl
    have len : ((s.ds.take i).filterMap f).length < sizeLine := by
      have h7 := List.length_filterMap_le f (s.ds.take i)
      rw [List.length_take] at h7
      omega
    cases c with
    | true =>
      refine Ok.imp h6 fun y S3 ⟨e3, h7⟩ => ?_
      subst e3
      exact ⟨h1, len, rfl, by rw [tk, List.filterMap_append]; simp [h7]⟩
    | false => exact ⟨h1, rfl, by rw [tk, List.filterMap_append]; simp [show f d = none from h6]⟩
  · obtain ⟨rfl, rfl⟩ := hI
    rw [List.take_length]
    exact h4
/-- one source's turns, from what has come so far -/
theorem lcP_run {s : Src} {rw : Rho} {acc0 : List D} (f : D → Option D) (ok : s.ok S) (hl : acc0.length + s.ds.length ≤ sizeLine) (h : ∀ d, d ∈ s.ds → ∃ r1, g d rw = some r1 ∧ Ok (t r1 S) fun c S2 => S2 = S ∧ if c = true then Ok (e r1 S2) (fun y S3 => S3 = S ∧ f d = some y) else f d = none) :
    Ok (lcL g t e s rw s.ds acc0 S) fun acc S2 => S2 = S ∧ acc = acc0 ++ s.ds.filterMap f := by
  refine lc_inv (fun i acc S2 => S2 = S ∧ acc = acc0 ++ (s.ds.take i).filterMap f) (fun i d acc S2 hd _ hI => ?_) (fun acc S2 _ hI => ?_) _ 0 acc0 S rfl (Nat.zero_le _) ok ⟨rfl, by simp⟩
  · obtain ⟨rfl, rfl⟩ := hI
    obtain ⟨r1, e1, h5⟩ := h d (List.mem_of_getElem? hd)
    refine ⟨r1, e1, h5.imp fun c S2 ⟨e2, h6⟩ => ?_⟩
    subst e2
    have hi := (List.getElem?_eq_some_iff.mp hd).1
    have tk : s.ds.take (i + 1) = s.ds.take i ++ [d] := by rw [List.take_add_one, hd]; rfl
    have len : (acc0 ++ (s.ds.take i).filterMap f).length < sizeLine := by
      have h7 := List.length_filterMap_le f (s.ds.take i)
      rw [List.length_take] at h7
      rw [List.length_append]
      omega
    cases c with
    | true =>
      refine Ok.imp h6 fun y S3 ⟨e3, h7⟩ => ?_
      subst e3
      exact ⟨ok, len, rfl, by rw [tk, List.filterMap_append]; simp [h7]⟩
    | false => exact ⟨ok, rfl, by rw [tk, List.filterMap_append]; simp [show f d = none from h6]⟩
  · obtain ⟨rfl, rfl⟩ := hI
    rw [List.take_length]
    exact ⟨rfl, rfl⟩
theorem lc2_run {s : Src} {rw : Rho} (f : D → List D) (ok : s.ok S) (h : ∀ d, d ∈ s.ds → ∀ acc : List D, acc.length ≤ 1000000 → ∃ r1, g d rw = some r1 ∧ Ok (t r1 S) fun c S2 => S2 = S ∧ c = true ∧ Ok (x1 r1 S) fun s1 S3 => S3 = S ∧ s1.ok S ∧ Ok (lcL g1 t1 e s1 (wipeD r1 vs1) s1.ds acc S) fun acc2 S4 => S4 = S ∧ acc2 = acc ++ f d)
    (hf : ∀ d ∈ s.ds, (f d).length ≤ 1000) : ∀ (ds : List D) (acc : List D), (∀ d ∈ ds, d ∈ s.ds) → acc.length + 1000 * ds.length ≤ 1000000 → Ok (lcL2 g t x1 vs1 g1 t1 e s rw ds acc S) fun acc2 S2 => S2 = S ∧ acc2 = acc ++ (ds.map f).flatten := by
  intro ds
  induction ds with
  | nil => exact fun acc _ _ => ⟨rfl, by simp⟩
  | cons d ds ih =>
    intro acc hm hl
    rw [List.length_cons] at hl
    obtain ⟨r1, e1, h1⟩ := h d (hm d (by simp)) acc (by omega)
    unfold lcL2
    simp only [e1]
    cases ht : t r1 S with
    | ok c S2 =>
      rw [ht] at h1
      obtain ⟨rfl, rfl, h2⟩ := h1
      simp only
      cases hx : x1 r1 S2 with
      | ok s1 S3 =>
        rw [hx] at h2
        obtain ⟨rfl, h3, h4⟩ := h2
        simp only [if_pos h3]
        cases hc : lcL g1 t1 e s1 (wipeD r1 vs1) s1.ds acc S3 with
        | ok acc2 S4 =>
          rw [hc] at h4
          obtain ⟨rfl, rfl⟩ := h4
          simp only [if_pos ok]
          have hd := hf d (hm d (by simp))
          refine (ih (acc ++ f d) (fun z hz => hm z (List.mem_cons_of_mem _ hz)) (by rw [List.length_append]; omega)).imp fun a S5 ⟨q1, q2⟩ => ⟨q1, ?_⟩
          rw [q2, List.map_cons, List.flatten_cons, List.append_assoc]
        | fail => rw [hc] at h4; exact h4.elim
        | exc _ _ => rw [hc] at h4; exact h4.elim
      | fail => rw [hx] at h2; exact h2.elim
      | exc _ _ => rw [hx] at h2; exact h2.elim
    | fail => rw [ht] at h1; exact h1.elim
    | exc _ _ => rw [ht] at h1; exact h1.elim
theorem ok_lc2 (f : D → List D) (h : Ok (x r S) fun s S1 => s.ok S1 ∧ (∀ d, d ∈ s.ds → ∀ acc : List D, acc.length ≤ 1000000 → ∃ r1, g d (wipeD r vs) = some r1 ∧ Ok (t r1 S1) fun c S2 => S2 = S1 ∧ c = true ∧ Ok (x1 r1 S1) fun s1 S3 => S3 = S1 ∧ s1.ok S1 ∧ Ok (lcL g1 t1 e s1 (wipeD r1 vs1) s1.ds acc S1) fun acc2 S4 => S4 = S1 ∧ acc2 = acc ++ f d) ∧
      (∀ d ∈ s.ds, (f d).length ≤ 1000) ∧ s.ds.length ≤ 1000 ∧ Ok (as (s.ds.map f).flatten S1) P) : Ok (eLc2 as x vs g t x1 vs1 g1 t1 e r S) P := by
  unfold eLc2
  rw [ok_bind]
  refine h.imp fun s S1 ⟨h1, h2, h3, h4, h5⟩ => ?_
  rw [if_pos h1, ok_bind]
  refine (lc2_run f h1 h2 h3 s.ds [] (fun _ q => q) (by simp; omega)).imp fun acc S2 ⟨e1, e2⟩ => ?_
  rw [e1, e2]
  exact h5
/-! ### what is walked -/
variable {X : M}
theorem ok_iseq {PS : Src → List Cel → Prop} : Ok (iSeq X r S) PS = Ok (X r S) fun d S1 => match d with
  | .tup xs => PS ⟨xs, none⟩ S1
  | .lst xs => PS ⟨xs, none⟩ S1
  | .frl xs => PS ⟨xs, none⟩ S1
  | .cell k => (match S1[k]? with
    | some (.lst xs) => PS ⟨xs, some (k, xs)⟩ S1
    | _ => False)
  | _ => False := by
  unfold iSeq
  rw [ok_bind]
  congr 1
  funext d S1
  cases d with
  | cell k =>
    simp only [srcD]
    cases S1[k]? with
    | none => rfl
    | some c => cases c <;> rfl
  | _ => rfl
theorem ok_irng {PS : Src → List Cel → Prop} : Ok (iRng1 X r S) PS = Ok (X r S) fun d S1 => match d with
  | .int j => Small j ∧ PS ⟨rngL 0 j.toNat, none⟩ S1
  | _ => False := by
  unfold iRng1
  rw [ok_bind]
  congr 1
  funext d S1
  cases d with
  | int j =>
    simp only
    by_cases h : Small j
    · rw [if_pos h]
      exact propext ⟨fun q => ⟨h, q⟩, fun q => q.2⟩
    · rw [if_neg h]
      exact propext ⟨fun q => q.elim, fun q => absurd q.1 h⟩
  | _ => rfl
theorem ok_ienuT {PS : Src → List Cel → Prop} {xs : List D} (h : Ok (X r S) fun d S1 => d = .tup xs ∧ PS ⟨enumD 0 xs, none⟩ S1) : Ok (iEnu X r S) PS := by
  unfold iEnu
  rw [ok_bind]
  refine h.imp fun d S1 ⟨e1, hp⟩ => ?_
  subst e1
  exact hp
theorem ok_ienuL {PS : Src → List Cel → Prop} {xs : List D} (h : Ok (X r S) fun d S1 => d = .lst xs ∧ PS ⟨enumD 0 xs, none⟩ S1) : Ok (iEnu X r S) PS := by
  unfold iEnu
  rw [ok_bind]
  refine h.imp fun d S1 ⟨e1, hp⟩ => ?_
  subst e1
  exact hp
theorem rngL_get {lo : Int} {n i : Nat} {d : D} (h : (rngL lo n)[i]? = some d) : i < n ∧ d = .int (lo + (i : Int)) := by
  have hi : i < n := by
    have := (List.getElem?_eq_some_iff.mp h).1
    simpa [rngL] using this
  simp only [rngL, List.getElem?_map, List.getElem?_range hi, Option.map_some, Option.some.injEq] at h
  exact ⟨hi, h.symm⟩
theorem rngL_len {lo : Int} {n : Nat} : (rngL lo n).length = n := by simp [rngL]
/-! ### a def's body -/
theorem ok_run {Ns : List Str} {B : MS} {ds : List D} {P : D → List Cel → Prop} (h : OkS (B (stD Ns ds) S) (fun _ S1 => P .non S1) P) : Ok (runF Ns B ds S) P := by
  unfold runF
  cases hb : B (stD Ns ds) S <;> (rw [hb] at h; exact h)
theorem ok_runE {Ns : List Str} {B : MS} {ds : List D} {P : D → List Cel → Prop} : Ok (runF Ns B ds S) P = OkS (B (stD Ns ds) S) (fun _ S1 => P .non S1) P := by
  unfold runF
  cases B (stD Ns ds) S <;> rfl
end
/-! ### operators -/
section
variable {S : List Cel} {P : D → List Cel → Prop} {i j : Int}
theorem ok_addI : Ok (pAdd (.int i) (.int j) S) P = P (.int (i + j)) S := rfl
theorem ok_addL {xs ys : List D} : Ok (pAdd (.lst xs) (.lst ys) S) P = (xs.length + ys.length ≤ sizeLine ∧ P (.lst (xs ++ ys)) S) := by
  unfold pAdd orR pI0 pCat
  simp only [lstW]
  by_cases h : xs.length + ys.length ≤ sizeLine
  · simp only [if_pos h]
    exact propext ⟨fun q => ⟨h, q⟩, fun q => q.2⟩
  · simp only [if_neg h]
    exact propext ⟨fun q => q.elim, fun q => absurd q.1 h⟩
theorem ok_subI : Ok (oSub (.int i) (.int j) S) P = P (.int (i - j)) S := rfl
theorem ok_mulI (h : CMulW i j) : Ok (pMul (.int i) (.int j) S) P = P (.int (i * j)) S := by
  unfold pMul orR pI
  simp [h, Ok]
theorem ok_divI (h : CDivW i j) : Ok (oDiv (.int i) (.int j) S) P = P (.int (i / j)) S := by
  unfold oDiv pI
  simp [h, Ok]
theorem ok_modI (h : 0 < j) : Ok (oMod (.int i) (.int j) S) P = P (.int (i % j)) S := by
  unfold oMod pI
  simp [h, Ok]
theorem ok_powI (h : CPow i j) : Ok (oPow (.int i) (.int j) S) P = P (.int (i ^ j.toNat)) S := by
  unfold oPow pI
  simp [h, Ok]
theorem ok_ltI : Ok (oLt (.int i) (.int j) S) P = P (.bl (decide (i < j))) S := rfl
theorem ok_leI : Ok (oLe (.int i) (.int j) S) P = P (.bl (decide (i ≤ j))) S := rfl
theorem ok_gtI : Ok (oGt (.int i) (.int j) S) P = P (.bl (decide (j < i))) S := rfl
theorem ok_geI : Ok (oGe (.int i) (.int j) S) P = P (.bl (decide (j ≤ i))) S := rfl
theorem atI_nat {α : Type} {xs : List α} {n : Nat} : atI xs (n : Int) = xs[n]? := by
  unfold atI ixN
  by_cases h : n < xs.length
  · have h2 : (n : Int) < (xs.length : Int) := by omega
    simp [h2]
  · have h2 : ¬ (n : Int) < (xs.length : Int) := by omega
    simp [h2]
    omega
theorem ixN_nat {k n : Nat} (h : n < k) : ixN k (n : Int) = some n := by
  unfold ixN
  have h2 : (n : Int) < (k : Int) := by omega
  simp [h2]
theorem ok_ixL {xs : List D} : Ok (pIx (.lst xs) (.int i) S) P = match atI xs i with
  | some d => P d S
  | none => False := by
  unfold pIx
  simp only [lstD]
  cases atI xs i <;> rfl
theorem ok_ixT {xs : List D} : Ok (pIx (.tup xs) (.int i) S) P = match atI xs i with
  | some d => P d S
  | none => False := by
  unfold pIx
  simp only
  cases atI xs i <;> rfl
theorem ok_ixF {xs : List D} : Ok (pIx (.frl xs) (.int i) S) P = match atI xs i with
  | some d => P d S
  | none => False := by
  unfold pIx
  simp only [lstD]
  cases atI xs i <;> rfl
theorem ok_ixC {k : Nat} : Ok (pIx (.cell k) (.int i) S) P = match S[k]? with
  | some (.lst xs) => (match atI xs i with
    | some d => P d S
    | none => False)
  | _ => False := by
  unfold pIx
  simp only [lstD]
  cases S[k]? with
  | none => rfl
  | some c =>
    cases c with
    | lst xs =>
      simp only
      cases atI xs i <;> rfl
    | _ => rfl
theorem atI_0 {α : Type} {a : α} {l : List α} : atI (a :: l) 0 = some a := atI_nat (xs := a :: l) (n := 0)
theorem atI_1 {α : Type} {a b : α} {l : List α} : atI (a :: b :: l) 1 = some b := atI_nat (xs := a :: b :: l) (n := 1)
theorem atI_2 {α : Type} {a b c : α} {l : List α} : atI (a :: b :: c :: l) 2 = some c := atI_nat (xs := a :: b :: c :: l) (n := 2)
theorem atI_3 {α : Type} {a b c d : α} {l : List α} : atI (a :: b :: c :: d :: l) 3 = some d := atI_nat (xs := a :: b :: c :: d :: l) (n := 3)
theorem ok_pInt : Ok (pInt (.int i) S) P = P (.int i) S := rfl
theorem ok_pIntB {b : Bool} : Ok (pInt (.bl b) S) P = P (.int (if b then 1 else 0)) S := rfl
theorem ok_pAbs : Ok (pAbs (.int i) S) P = P (.int (if i < 0 then -i else i)) S := rfl
theorem ok_pMax : Ok (pMax (.int i) (.int j) S) P = P (.int (if j > i then j else i)) S := rfl
theorem ok_pMin : Ok (pMin (.int i) (.int j) S) P = P (.int (if j < i then j else i)) S := rfl
theorem ok_lenL {xs : List D} : Ok (pLen (.lst xs) S) P = P (.int (xs.length : Int)) S := rfl
theorem ok_lenT {xs : List D} : Ok (pLen (.tup xs) S) P = P (.int (xs.length : Int)) S := rfl
theorem ok_lenF {xs : List D} : Ok (pLen (.frl xs) S) P = P (.int (xs.length : Int)) S := rfl
theorem ok_lenC {k : Nat} : Ok (pLen (.cell k) S) P = match S[k]? with
  | some (.lst xs) => P (.int (xs.length : Int)) S
  | _ => False := by
  unfold pLen
  simp only [lstD]
  cases S[k]? with
  | none => rfl
  | some c => cases c <;> rfl
theorem ok_sumL {l : List Int} : Ok (pSum (.lst (l.map D.int)) S) P = P (.int l.sum) S := by
  unfold pSum
  simp only [lstD, ints_map]
  rfl
theorem ok_asLst {xs : List D} : Ok (asLst xs S) P = P (.lst xs) S := rfl
theorem ok_asCel {xs : List D} : Ok (asCel xs S) P = P (.cell S.length) (S ++ [.lst xs]) := rfl
theorem ok_yes {r : Rho} {PB : Bool → List Cel → Prop} : Ok (bYes r S) PB = PB true S := rfl
theorem ok_tupL {xs : List D} : Ok (pTuple (.lst xs) S) P = P (.tup xs) S := rfl
theorem ok_sortL {l : List Int} : Ok (pSort (.lst (l.map D.int)) S) P = P (.lst ((sortI l).map D.int)) S := by
  unfold pSort
  simp only [lstD, ints_map]
  rfl
theorem ok_allL {l : List Bool} : Ok (pAll (.lst (l.map D.bl)) S) P = P (.bl (l.all id)) S := by
  unfold pAll
  simp only [lstD, bls_map]
  rfl
end
end Me
end
section
set_option Elab.async false
set_option linter.all false
set_option maxRecDepth 100000
namespace Me
open PySem PySem.Spec L2
open PyProof.Rows hiding St
theorem small_nat {n : Nat} (h : n ≤ 1000000) : Small (n : Int) := by
  unfold Small
  omega
theorem small_int {n : Int} (h0 : 0 ≤ n) (h : n ≤ 1000000) : Small n := by
  unfold Small
  omega
/-! ### plain data, of some shapes -/
def oD : Option Int → D
  | some i => .int i
  | none => .non
def pO : Option Int → PyData
  | some i => .int i
  | none => .none
def endD (p : Int × Bool) : D := .tup [.int p.1, .bl p.2]
def endP (p : Int × Bool) : PyData := .tuple [.int p.1, .bool p.2]
theorem py_ints {c : Nat → Option (List PyData)} : ∀ l : List Int, pyL c (l.map D.int) = some (l.map PyData.int)
  | [] => rfl
  | a :: l => by simp [pyL, pyD, py_ints l]
theorem py_oD {c : Nat → Option (List PyData)} : ∀ o : Option Int, pyD c (oD o) = some (pO o)
  | some _ => rfl
  | none => rfl
theorem py_map {α : Type} {c : Nat → Option (List PyData)} {f : α → D} {g : α → PyData} (h : ∀ a, pyD c (f a) = some (g a)) : ∀ l : List α, pyL c (l.map f) = some (l.map g)
  | [] => rfl
  | a :: l => by simp [pyL, h a, py_map h l]
theorem py_end {c : Nat → Option (List PyData)} (p : Int × Bool) : pyD c (endD p) = some (endP p) := rfl
theorem lay_map {α : Type} {g : α → PyData} (h : ∀ a, (g a).canLay0 = true) : ∀ l : List α, PyData.canLayAll0 (l.map g) = true
  | [] => rfl
  | a :: l => by simp [PyData.canLayAll0, h a, lay_map h l]
theorem depth_map {α : Type} {g : α → PyData} {n : Nat} (h : ∀ a, (g a).depth ≤ n) : ∀ l : List α, PyData.depthAll (l.map g) ≤ n
  | [] => by simp [PyData.depthAll]
  | a :: l => by
    have h1 := h a
    have h2 := depth_map h l
    simp only [List.map_cons, PyData.depthAll]
    omega
theorem shaped_list {α : Type} {g : α → PyData} {n : Nat} (hl : ∀ a, (g a).canLay0 = true) (hd : ∀ a, (g a).depth ≤ n) (hn : n < 60) (l : List α) : SeqAt.shaped (.list (l.map g)) = true := by
  have h := depth_map hd l
  have h2 : PyData.depth (.list (l.map g)) ≤ 64 := by
    simp only [PyData.depth]
    omega
  unfold SeqAt.shaped
  rw [Bool.and_eq_true]
  exact ⟨by simp only [PyData.canLay0]; exact lay_map hl l, decide_eq_true h2⟩
theorem shaped_tuple {α : Type} {g : α → PyData} {n : Nat} (hl : ∀ a, (g a).canLay0 = true) (hd : ∀ a, (g a).depth ≤ n) (hn : n < 60) (l : List α) : SeqAt.shaped (.tuple (l.map g)) = true := by
  have h := depth_map hd l
  have h2 : PyData.depth (.tuple (l.map g)) ≤ 64 := by
    simp only [PyData.depth]
    omega
  unfold SeqAt.shaped
  rw [Bool.and_eq_true]
  exact ⟨by simp only [PyData.canLay0]; exact lay_map hl l, decide_eq_true h2⟩
section
variable {S : List Cel} {P : D → List Cel → Prop} {i j : Int}
theorem ok_inI {neg : Bool} (l : List Int) : Ok (pIn neg (.int i) (.lst (l.map D.int)) S) P = P (.bl (if neg = true then !decide (i ∈ l) else decide (i ∈ l))) S := by
  have e2 : toPy S (.lst (l.map D.int)) = some (.list (l.map PyData.int)) := by simp [toPy, pyD, py_ints]
  have e1 : toPy S (.int i) = some (.int i) := rfl
  have sh : SeqAt.shaped (.list (l.map PyData.int)) = true := shaped_list (n := 1) (fun _ => rfl) (fun a => by simp [PyData.depth]) (by omega) l
  have s1 : SeqAt.shaped (.int i) = true := rfl
  have e3 : ((l.map PyData.int).any fun z => PyData.eqv z (.int i)) = decide (i ∈ l) := by
    rw [List.any_map, Bool.eq_iff_iff]
    simp [PyData.eqv]
  unfold pIn
  simp only [e1, e2, sh, s1, Bool.and_true, if_true, e3]
  rfl
theorem ok_inE {neg : Bool} {n : Int} {b : Bool} (l : List (Int × Bool)) : Ok (pIn neg (.tup [.int n, .bl b]) (.tup (l.map endD)) S) P = P (.bl (if neg = true then !decide ((n, b) ∈ l) else decide ((n, b) ∈ l))) S := by
  have e2 : toPy S (.tup (l.map endD)) = some (.tuple (l.map endP)) := by simp [toPy, pyD, py_map (g := endP) py_end l]
  have e1 : toPy S (.tup [.int n, .bl b]) = some (endP (n, b)) := rfl
  have sh : SeqAt.shaped (.tuple (l.map endP)) = true := shaped_tuple (n := 3) (fun _ => rfl) (fun a => by simp [PyData.depth, endP, PyData.depthAll]) (by omega) l
  have s1 : SeqAt.shaped (endP (n, b)) = true := rfl
  have e3 : ((l.map endP).any fun z => PyData.eqv z (endP (n, b))) = decide ((n, b) ∈ l) := by
    rw [List.any_map, Bool.eq_iff_iff]
    simp [PyData.eqv, PyData.eqvAll, endP]
  unfold pIn
  simp only [e1, e2, sh, s1, Bool.and_true, if_true, e3]
  rfl
theorem ok_eqI {neg : Bool} : Ok (pEqA neg (.int i) (.int j) S) P = P (.bl (if neg = true then !decide (i = j) else decide (i = j))) S := by
  have e1 : toPy S (.int i) = some (.int i) := rfl
  have e2 : toPy S (.int j) = some (.int j) := rfl
  have s1 : SeqAt.shaped (.int i) = true := rfl
  have s2 : SeqAt.shaped (.int j) = true := rfl
  have e3 : PyData.eqv (.int i) (.int j) = decide (i = j) := by
    rw [Bool.eq_iff_iff]
    simp [PyData.eqv]
  unfold pEqA orR pEqT pEq
  simp only [e1, e2, s1, s2, Bool.and_true, if_true, e3]
  rfl
theorem ok_eqO {neg : Bool} {o : Option Int} : Ok (pEqA neg (.int i) (oD o) S) P = P (.bl (if neg = true then !decide (some i = o) else decide (some i = o))) S := by
  cases o with
  | some j =>
    show Ok (pEqA neg (.int i) (.int j) S) P = _
    rw [ok_eqI]
    simp
  | none => cases neg <;> rfl
theorem ok_eqO2 {neg : Bool} {o : Option Int} : Ok (pEqA neg (oD o) (.int i) S) P = P (.bl (if neg = true then !decide (o = some i) else decide (o = some i))) S := by
  cases o with
  | some j =>
    show Ok (pEqA neg (.int j) (.int i) S) P = _
    rw [ok_eqI]
    simp
  | none => cases neg <;> rfl
end
/-! ### repr of the same -/
structure Sm (p : PyData) : Prop where
  sh : p.showable = true
  nd : p.hasDict = false
  dp : p.depth ≤ 60
  ln : p.shown.length ≤ sizeLine
theorem ok_repr {S : List Cel} {d : D} {p : PyData} {P : D → List Cel → Prop} (h : toPy S d = some p) (s : Sm p) (hp : P (.str p.shown) S) : Ok (pRepr d S) P := by
  unfold pRepr
  simp only [h, s.sh, s.nd, s.dp, s.ln, decide_true, Bool.not_false, Bool.and_self, if_true]
  exact hp
theorem ok_eqS {S : List Cel} {neg : Bool} {x y : Str} {P : D → List Cel → Prop} : Ok (pEqA neg (.str x) (.str y) S) P = P (.bl (if neg = true then !decide (x = y) else decide (x = y))) S := rfl
theorem sm_of {p : PyData} (h1 : p.showable = true) (h2 : p.hasDict = false) (h3 : p.depth ≤ 60) (h4 : p.leavesShort 40 = true) (h5 : p.weight ≤ 262144) : Sm p :=
  ⟨h1, h2, h3, by
    have := PyData.shown_le 40 (by decide) p h4
    have e : sizeLine = 16777216 := by rw [sizeLine_eq]
    omega⟩
end Me
end
section
set_option Elab.async false
set_option linter.all false
set_option maxRecDepth 100000
/-! sum of a tuple of numbers -/
namespace Me
open PySem PySem.Spec L2
open PyProof.Rows hiding St
section
variable {prog : Program} {w : World} {A : Around} {E : Value → Shared → Prop} {s : Shared} {l : Addr} {xs : Array (Int × Tok)}
theorem sum_tupI {Q : Value → Shared → Prop} (hh : A.handled = none) (hl : s.heap.IsTuple l (intItems xs))
    (h : ∀ h' tk t', (∀ b o, s.heap.get? b = some o → h'.get? b = some o) → Q (.int (preSum (numAt xs) xs.size) t') { s with heap := h', toks := tk }) :
    wpAny (model prog w) A (call (.builtin "sum") [.ref l]) Q E s := by
  have hlt : l < s.heap.objs.size := by
    obtain ⟨_, e, _⟩ := id hl
    exact Heap.lt_size e
  refine call_sum_walkG (wpAny_pyIter_tuple hl ?_)
  refine ⟨_, _, _, _, _, _, numAt xs, rfl, Walks.tuple (A := A.in1) hh _ l (Nat.ne_of_lt hlt) (intItems xs), ⟨⟨_, Heap.get?_push_size _ rfl, rfl, rfl⟩, ?_⟩, fun b hb => ?_, (fun _ _ => intItems_at), fun h' tk t' hk => ?_⟩
  · obtain ⟨o, e, r⟩ := id hl
    exact ⟨o, Heap.get?_push_of_some _ e, r⟩
  · show b < (s.heap.push _).objs.size
    rw [Heap.size_push]
    rcases List.mem_cons.mp hb with rfl | hb
    · exact Nat.lt_succ_self _
    · rcases List.mem_cons.mp hb with rfl | hb
      · exact Nat.lt_succ_of_lt hlt
      · cases hb
  · have := h h' tk t' fun b o e => hk b o (fun hm => by
      rcases List.mem_cons.mp hm with e1 | hm
      · exact absurd (e1 ▸ Heap.lt_size e) (Nat.lt_irrefl _)
      · cases hm) (Heap.get?_push_of_some _ e)
    simpa [intItems] using this
theorem sum_tupR {its : List Value} {ns : List Int} {Q : Value → Shared → Prop} (hh : A.handled = none) (hl : s.heap.IsTuple l its.toArray) (hi : IntsAre its ns)
    (h : ∀ h' tk t', (∀ b o, s.heap.get? b = some o → h'.get? b = some o) → Q (.int ns.sum t') { s with heap := h', toks := tk }) : wpAny (model prog w) A (call (.builtin "sum") [.ref l]) Q E s := by
  obtain ⟨xs, e⟩ := hi.allInts.items
  have hn : numsOf (intItems xs).toList = ns := by rw [← e]; exact hi.numsOf
  rw [nums_intItems] at hn
  rw [e] at hl
  refine sum_tupI hh hl fun h' tk t' hk => ?_
  have := h h' tk t' hk
  rw [preSum_eq, List.take_of_length_le (by simp), hn]
  exact this
end
section
variable {X : Cx}
def rSumA (K : PySem.W.Frag) : RA := fun vs H Q => ∃ (a : Addr) (ns : List Int), vs = [V.ref a] ∧ (SqL K H a (ns.map V.int) ∨ SqT K H a (ns.map V.int)) ∧ Q (.int ns.sum) H
theorem cr_sumA (hc : X.calm = true) : CallR X (.builtin "sum") (rSumA X.K) := by
  intro pins s σ H vs us Q I r h
  obtain ⟨a, ns, rfl, hs | hs, q⟩ := h
  · exact cr_sum hc pins s σ H _ us Q I r ⟨a, ns, rfl, hs, q⟩
  · obtain ⟨its, rv, hl, _⟩ := I.tuple hs
    rw [Vals.ref1 r]
    exact sum_tupR (I.ok.hd hc) hl rv.ints fun h' tk t' hk => ⟨.int _, H, I.kept hk, ⟨_, rfl⟩, q⟩
def pSumA : D → List Cel → R D := fun d S => match seqD S d with
  | some xs => (match intsD xs with
    | some ns => .ok (.int ns.sum) S
    | none => .fail)
  | none => .fail
theorem snd_sumA {G : Gc} : SndA G (rSumA G.K) (f1 pSumA) := by
  refine snd_f1 fun W σ m H0 H S x d Q rl i k => ?_
  unfold pSumA at k
  cases hx : seqD S d with
  | none => rw [hx] at k; exact k.elim
  | some xs =>
    simp only [hx] at k
    cases hn : intsD xs with
    | none => rw [hn] at k; exact k.elim
    | some ns =>
      rw [hn] at k
      obtain ⟨a, vs, rfl, e1, e2⟩ := seqD_ok rl i hx
      rw [ints_eq hn] at e2
      exact ⟨a, ns, rfl, by rw [← isl_ints e2]; exact e1, kt_ok k rl (is_int.mpr rfl)⟩
end
section
variable {X : Cx} {W : WX} {e a b c : Expr} {es : List Expr} {x y z : M} {l : ML} {p pos : Pos}
theorem me_sumA (hc : X.calm = true) (hg : Gl X "sum") (hm : X.mg "sum" = none) (ha : MA X W (e :: es) l) (he : starEach (e :: es) X.env = (false, eval e X.env) :: starEach es X.env := by rfl) (hpl : (backTo pos (starEach es X.env)).any (·.1) = false := by rfl) : ME X W (.Call (.Name "sum" p) (e :: es) [] pos) (eFn (f1 pSumA) l) :=
  me_fn (id := "sum") (cr_sumA hc) snd_sumA hg hm PyProof.Rows.boot_sum ha (by decide) (by decide) he hpl
end
section
variable {S : List Cel} {P : D → List Cel → Prop}
theorem ok_sumA {l : List Int} : Ok (pSumA (.lst (l.map D.int)) S) P = P (.int l.sum) S := by
  unfold pSumA
  simp only [seqD, lstD, Me.ints_map]
  rfl
theorem ok_sumT {l : List Int} : Ok (pSumA (.tup (l.map D.int)) S) P = P (.int l.sum) S := by
  unfold pSumA
  simp only [seqD, Me.ints_map]
  rfl
end
end Me
end
section
set_option Elab.async false
set_option linter.all false
set_option maxRecDepth 100000
namespace Me
open PySem PySem.Spec L2
open PyProof.Rows hiding St

/-! ### while -/
def loopW (t : MB) (b : MS) : Nat → MS
  | 0 => fun _ _ => .fail
  | n + 1 => fun r S => match t r S with
    | .ok true S1 => (match b r S1 with
      | .nx r2 S2 => loopW t b n r2 S2
      | .ct r2 S2 => loopW t b n r2 S2
      | .bk r2 S2 => .nx r2 S2
      | .rt d S2 => .rt d S2
      | .exc e r2 S2 => .exc e r2 S2
      | .fail => .fail)
    | .ok false S1 => .nx r S1
    | .exc e S1 => .exc e r S1
    | .fail => .fail
def sWh (n : Nat) (t : MB) (b : MS) : MS := loopW t b n
section
variable {X : Cx} {W : WX} {pos : Pos}
theorem mp_wh {c : Expr} {body : List Stmt} {t : MB} {b : MS} (f : Nat) (hp : PassesOwn (model X.prog X.w) X.A X.env X.xe) (hc : MT X W c t) (hb : MPs X W body b) : MP X W (.While c body [] pos) (sWh f t b) :=
  ps_imp (ps_while hp hc hb) fun E σ H h => by
    refine ⟨fun n σ H => tMS (gX X) W (loopW t b n) E σ H, ⟨f, h⟩, ?_⟩
    rintro n σ H ⟨r, S, m, H0, he, hr, hk⟩
    cases n with
    | zero => exact hk.elim
    | succ n =>
      refine ⟨r, S, m, H0, he, hr, ?_⟩
      unfold loopW at hk
      cases ht : t r S with
      | fail => simp only [ht] at hk; exact hk
      | exc _ _ => simp only [ht] at hk; exact fun c dd m' H0' H' ex rl i => hk c dd σ m' H0' H' ex rl (he.mono ex.imm ex.pre) i
      | ok bb S1 =>
        intro m1 H01 H1 e1 r1
        cases bb with
        | true =>
          simp only [ht] at hk
          have hk2 := KtS.later e1 hk
          rw [if_pos rfl]
          refine ⟨fun σ' H' => tMS (gX X) W (loopW t b n) E σ' H', fun σ' H' q => ⟨n, Nat.lt_succ_self n, q⟩, r, S1, m1, H01, he.mono e1.imm e1.pre, r1, ?_⟩
          cases hb2 : b r S1 with
          | fail => rw [hb2] at hk2; exact hk2
          | rt d S2 => rw [hb2] at hk2; exact hk2
          | bk r2 S2 => rw [hb2] at hk2; exact hk2
          | exc e r2 S2 => rw [hb2] at hk2; exact hk2
          | nx r2 S2 =>
            simp only [hb2] at hk2
            exact fun σ2 m2 H02 H2 e2 rl2 he2 => ⟨r2, S2, m2, H02, he2, rl2, KtS.later e2 hk2⟩
          | ct r2 S2 =>
            simp only [hb2] at hk2
            exact fun σ2 m2 H02 H2 e2 rl2 he2 => ⟨r2, S2, m2, H02, he2, rl2, KtS.later e2 hk2⟩
        | false =>
          simp only [ht] at hk
          rw [if_neg Bool.false_ne_true]
          exact KtS.later e1 hk σ m1 H01 H1 (Ext.refl _ _ _) r1 (he.mono e1.imm e1.pre)
end
section
variable {t : MB} {b : MS} {r : Rho} {S : List Cel} {N : Rho → List Cel → Prop} {T : D → List Cel → Prop}
theorem oks_loopW (I : Nat → Rho → List Cel → Prop) (step : ∀ k r S, I k r S → Ok (t r S) fun c S1 => if c = true then ∃ k', k = k' + 1 ∧ OkS (b r S1) (I k') T else N r S1) :
    ∀ (f k : Nat) (r : Rho) (S : List Cel), k < f → I k r S → OkS (loopW t b f r S) N T
  | 0, k, _, _, h, _ => absurd h (Nat.not_lt_zero k)
  | f + 1, k, r, S, h, hI => by
    have hs := step k r S hI
    unfold loopW
    cases ht : t r S with
    | fail => rw [ht] at hs; exact hs.elim
    | exc _ _ => rw [ht] at hs; exact hs.elim
    | ok c S1 =>
      rw [ht] at hs
      cases c with
      | false => exact hs
      | true =>
        obtain ⟨k', rfl, hb⟩ := hs
        show OkS (match b r S1 with
          | .nx r2 S2 => loopW t b f r2 S2
          | .ct r2 S2 => loopW t b f r2 S2
          | .bk r2 S2 => .nx r2 S2
          | .rt d S2 => .rt d S2
          | .exc e r2 S2 => .exc e r2 S2
          | .fail => .fail) N T
        cases hb2 : b r S1 with
        | nx r2 S2 => rw [hb2] at hb; exact oks_loopW I step f k' r2 S2 (by omega) hb
        | rt d S2 => rw [hb2] at hb; exact hb
        | fail => rw [hb2] at hb; exact hb.elim
        | bk _ _ => rw [hb2] at hb; exact hb.elim
        | ct _ _ => rw [hb2] at hb; exact hb.elim
        | exc _ _ _ => rw [hb2] at hb; exact hb.elim
theorem oks_wh {f : Nat} (I : Nat → Rho → List Cel → Prop) {k : Nat} (hk : k < f) (h0 : I k r S) (step : ∀ k r S, I k r S → Ok (t r S) fun c S1 => if c = true then ∃ k', k = k' + 1 ∧ OkS (b r S1) (I k') T else N r S1) :
    OkS (sWh f t b r S) N T := oks_loopW I step f k r S hk h0
end

/-! ### xs.pop(i) -/
/-- not to be counted out -/
def SmallJ (j : Int) : Prop := 0 ≤ j ∧ j < 1000000
open Classical in
noncomputable def fPop (xs ds : List D) : Option (D × List D) := match ds with
  | [.int i] => if SmallJ i then (match xs[i.toNat]? with
    | some d => some (d, xs.eraseIdx i.toNat)
    | none => none) else none
  | _ => none
theorem IsL.eraseIdx {G : Gc} {H0 : Hp} {m : List Addr} : ∀ {xs : List D} {vs : List V} (n : Nat), IsL G H0 m xs vs → IsL G H0 m (xs.eraseIdx n) (vs.eraseIdx n)
  | [], vs, n, h => by rw [isl_nil.mp h]; exact isl_nil.mpr rfl
  | d :: xs, vs, n, h => by
    obtain ⟨v, r, rfl, h1, h2⟩ := isl_cons.mp h
    cases n with
    | zero => exact h2
    | succ n => exact isl_cons.mpr ⟨v, _, rfl, h1, IsL.eraseIdx n h2⟩
theorem snd_pop {G : Gc} : SndM G rPopAt fPop := by
  intro m H0 H S a xs ds vs us d xs' Q rl ha ix iu hf k
  match ds, hf, iu with
  | [.int i], hf, iu =>
    obtain ⟨u, rfl, i1⟩ := isl_one iu
    obtain rfl := is_int.mp i1
    simp only [fPop] at hf
    by_cases hi : SmallJ i
    · rw [if_pos hi] at hf
      cases hx : xs[i.toNat]? with
      | none => rw [hx] at hf; cases hf
      | some y =>
        rw [hx] at hf
        cases hf
        obtain ⟨z, e1, e2⟩ := ix.get hx
        have hl := (List.getElem?_eq_some_iff.mp e1).1
        unfold SmallJ at hi
        exact ⟨a, vs, i, i.toNat, z, rfl, rfl, ha, by omega, by omega, seqIndex_of hi.1 (by omega), e1, k z _ e2 (ix.eraseIdx _)⟩
    · rw [if_neg hi] at hf
      cases hf
section
variable {X : Cx} {W : WX} {e o : Expr} {x : M} {y : ML} {cpos apos : Pos}
theorem me_pop (ho : ME X W o x) (ha : MA X W [e] y)
    (hbase : attributeBase o "pop" X.env (eval o X.env) = eval o X.env := by rfl)
    (hfew : ((backTo cpos (starEach [e] X.env)).all (fun x => !x.1) && (backToKw cpos (keywordEach [] X.env)).all (fun x => x.1.isSome)
      && decide ([e].length + ([] : List Keyword).length + (if ([] : List Keyword).isEmpty then 0 else 1) < 30)) = true := by rfl)
    (hline : (apos.endLine == cpos.line) = true := by rfl) (hst : starEach [e] X.env = (false, eval e X.env) :: starEach [] X.env := by rfl) (hplain : (backTo cpos (starEach [] X.env)).any (·.1) = false := by rfl) :
    ME X W (.Call (.Attribute o "pop" apos) [e] [] cpos) (eMut fPop x y) :=
  me_mut PySem.F.slot_list_pop PySem.F.type_list_pop mt_popAt snd_pop ho ha hbase hfew hline hst hplain
end

/-! ### list(range(n)), list(range(a, b)) -/
def rgD (a b : Int) : List D := (List.range (b - a).toNat).map fun i : Nat => D.int (a + (i : Int))
theorem isl_rg {G : Gc} {m : List Addr} {H0 : Hp} {a : Int} : ∀ l : List Nat, IsL G H0 m (l.map fun i : Nat => D.int (a + (i : Int))) (l.map fun i : Nat => V.int (a + (i : Nat)))
  | [] => isl_nil.mpr rfl
  | k :: r => isl_cons.mpr ⟨_, _, rfl, is_int.mpr rfl, isl_rg r⟩
def SmallR (a b : Int) : Prop := 0 ≤ a ∧ a ≤ 1000000 ∧ 0 ≤ b ∧ b ≤ 1000000
open Classical in
noncomputable def eLrg (c : Bool) (x : M) : M := eB x fun d _ S => match d with
  | .int b => if SmallR 0 b then (if c = true then .ok (.cell S.length) (S ++ [.lst (rgD 0 b)]) else .ok (.lst (rgD 0 b)) S) else .fail
  | _ => .fail
theorem rgok {a b : Int} (h : SmallR a b) : RgOk a b := by
  unfold SmallR at h
  unfold RgOk
  omega
section
variable {X : Cx} {W : WX} {e : Expr} {x : M} {p p2 pos pos2 : Pos}
theorem me_lrg (c : Bool) (hc : X.calm = true) (hg : Gl X "list") (hm : X.mg "list" = none) (hg2 : Gl X "range") (hm2 : X.mg "range" = none) (hx : ME X W e x)
    (na2 : starEach [e] X.env = (false, eval e X.env) :: starEach [] X.env := by rfl)
    (na : starEach [.Call (.Name "range" p2) [e] [] pos2] X.env = (false, eval (.Call (.Name "range" p2) [e] [] pos2) X.env) :: starEach [] X.env := by rfl) :
    ME X W (.Call (.Name "list" p) [.Call (.Name "range" p2) [e] [] pos2] [] pos) (eLrg c x) :=
  pe_imp (pe_listRg hc hg hm (prg_1 hg2 hm2 hx na2) na) fun σ H Q h => tm_mono (tm_b h) fun v H1 ⟨d, r, S, m, H0, he, rl, i, k⟩ => by
    cases d with
    | int j =>
      simp only at k
      by_cases hj : SmallR 0 j
      · rw [if_pos hj] at k
        refine ⟨j, is_int.mp i, rgok hj, fun q hq => ?_⟩
        cases c with
        | true => rw [if_pos rfl] at k; exact kt_cell k rl (isl_rg _) hq
        | false => rw [if_neg Bool.false_ne_true] at k; exact kt_lst k rl (isl_rg _) hq
      · rw [if_neg hj] at k; exact k.elim
    | _ => exact k.elim
end
section
variable {r : Rho} {S : List Cel} {x : M} {P : D → List Cel → Prop}
theorem ok_lrg : Ok (eLrg false x r S) P = Ok (x r S) fun d S1 => match d with
  | .int b => SmallR 0 b ∧ P (.lst (rgD 0 b)) S1
  | _ => False := by
  unfold eLrg
  rw [ok_eb]
  congr 1
  funext d S1
  cases d with
  | int j =>
    by_cases hj : SmallR 0 j
    · simp [hj, Ok]
    · simp [hj, Ok]
  | _ => rfl
theorem ok_lrgC : Ok (eLrg true x r S) P = Ok (x r S) fun d S1 => match d with
  | .int b => SmallR 0 b ∧ P (.cell S1.length) (S1 ++ [.lst (rgD 0 b)])
  | _ => False := by
  unfold eLrg
  rw [ok_eb]
  congr 1
  funext d S1
  cases d with
  | int j =>
    by_cases hj : SmallR 0 j
    · simp [hj, Ok]
    · simp [hj, Ok]
  | _ => rfl
end

/-! ### a list times a number, a list that will be changed -/
open Classical in
noncomputable def pRepC (a b : D) (S : List Cel) : R D := match lstW S a, b with
  | some xs, .int k => if -(2 ^ 63) ≤ k ∧ k < 2 ^ 63 ∧ xs.length * k.toNat ≤ sizeLine then .ok (.cell S.length) (S ++ [.lst (List.replicate k.toNat xs).flatten]) else .fail
  | _, _ => .fail
theorem snd_repC {G : Gc} : Snd2 G rRep pRepC := by
  intro W σ m H0 H S x y a b Q r i j h
  unfold pRepC at h
  cases h1 : lstW S a with
  | none => simp only [h1] at h; exact h.elim
  | some xs =>
    cases b with
    | int k =>
      simp only [h1] at h
      obtain ⟨p, vs, rfl, e1, e2⟩ := lstW_ok r i h1
      by_cases hl : -(2 ^ 63) ≤ k ∧ k < 2 ^ 63 ∧ xs.length * k.toNat ≤ sizeLine
      · rw [if_pos hl] at h
        exact ⟨p, k, vs, rfl, is_int.mp j, e1, hl.1, hl.2.1, by rw [← e2.len]; exact hl.2.2, fun z hz => kt_cell h r (isl_rep e2 _) hz⟩
      · rw [if_neg hl] at h
        exact h.elim
    | _ => simp only [h1] at h; exact h.elim
end Me
end
section
set_option Elab.async false
set_option linter.all false
set_option maxRecDepth 100000
set_option maxHeartbeats 2000000
namespace Me
open PySem PySem.Spec L2
open PyProof.Rows hiding St
/-! ### list(reversed(range(n))) -/
section
variable {prog : Program} {w : World} {A : Around} {E : Value → Shared → Prop} {s : Shared} {it : Addr} {x c : Int} {n : Nat}
theorem rit_hint {k : Int} {Q : Value → Shared → Prop} (hi : IsRangeIter s.heap it x k c) (hq : Q (.int k s.toks) { s with toks := s.toks + 1 }) : wpAny (model prog w) A (call (.builtin "range_iterator.__length_hint__") [.ref it]) Q E s := by
  have ty : s.TypeIs (.ref it) "range_iterator" := ⟨_, hi, rfl⟩
  refine wpAny_call_entry F.slot_range_iterator_length_hint ty F.entry_range_iterator_length_hint ?_ (F.args_range_iterator_length_hint_1 _)
  obtain ⟨hp, g, d, tk, os⟩ := s
  wp_walk using AutoSeq1.wpAny_loadPart' hi
  exact ⟨_, rfl, hq⟩
theorem rit_room {Q : Bool → Shared → Prop} (hi : IsRangeIter s.heap it x (n : Int) c) (small : n ≤ 16777216) (hq : ∀ tk, s.toks ≤ tk → Q false { s with toks := tk }) : wpAny (model prog w) A (Builtin.List.listLengthHint (.ref it)) Q E s := by
  have ty : s.TypeIs (.ref it) "range_iterator" := ⟨_, hi, rfl⟩
  unfold Builtin.List.listLengthHint
  refine wpAny_bind (wpAny_specialOf ty F.nolen_ra ?_)
  show wpAny _ A (specialOf (Value.ref it) (Str.ofString "__length_hint__") >>= _) _ _ _
  refine wpAny_bind (wpAny_specialOf ty F.hint_ra ?_)
  generalize hz : ("range_iterator.__length_hint__" : String) = z
  wp_delta
  rw [show splitId z = some ("range_iterator", "__length_hint__") from by subst hz; decide +kernel]
  subst hz
  refine wpAny_bind (wpAny_isInstance (b := true) ty (by rw [isSubtype_type]; kernel_rfl) ?_)
  show wpAny _ A (call (.builtin "range_iterator.__length_hint__") [.ref it] >>= _) _ _ _
  refine wpAny_bind (rit_hint hi ?_)
  refine wpAny_bind (m := asInt? (.int (n : Int) s.toks)) (wpAny_pure ?_)
  dsimp only
  have ht : Builtin.List.listTooLong ((n : Int).toNat) = false := by simp [Builtin.List.listTooLong, sizeLine]; omega
  rw [if_neg (by rw [ht]; exact Bool.false_ne_true)]
  exact wpAny_pure (hq _ (Nat.le_succ _))
theorem list_of_rit {Q : Value → Shared → Prop} (hh : A.handled = none) (hi : IsRangeIter s.heap it x (n : Int) c) (small : n ≤ 16777216)
    (hq : ∀ (h' : Heap) (tk : Nat) (acc : Array Value) (cap : Nat), (∀ b o, b ≠ it → s.heap.get? b = some o → h'.get? b = some o) →
      h'.get? s.heap.objs.size = some { cls := .type "list", dict := none, data := .seq acc cap, slots := #[] } → ItemsOf (fun i v => ∃ t, v = .int (x + i * c) t) acc n → Q (.ref s.heap.objs.size) { s with heap := h', toks := tk }) :
    wpAny (model prog w) A (call (.type "list") [.ref it]) Q E s := by
  have hlt : it < s.heap.objs.size := Heap.lt_size hi
  have hne : s.heap.objs.size ≠ it := Nat.ne_of_gt hlt
  refine callType_codes (Q₁ := fun v z => v = .ref s.heap.objs.size ∧ z = { s with heap := s.heap.push { cls := .type "list", data := .seq #[] } }) F.called_list (F.typeCall_list_1 _) F.entry_list_init (code_list_new _ ⟨rfl, rfl⟩) fun v z hz => ?_
  obtain ⟨rfl, rfl⟩ := hz
  have hL : (s.heap.push { cls := .type "list", data := .seq #[] }).get? s.heap.objs.size = some { cls := .type "list", data := .seq #[] } := Heap.get?_push_size _ rfl
  have hI : IsRangeIter (s.heap.push { cls := .type "list", data := .seq #[] }) it x (n : Int) c := Heap.get?_push_of_some _ hi
  refine ⟨⟨_, hL, rfl⟩, F.args_list_init_2 _ _, ?_⟩
  show wpAny _ _ (do let old ← Builtin.List.listItems (.ref s.heap.objs.size); Builtin.List.listUpdate (.ref s.heap.objs.size) (fun _ => #[]); letGo old.toList.reverse; Builtin.List.listExtendWith (.ref s.heap.objs.size) (.ref it) .none) _ _ _
  refine wpAny_bind ?_
  unfold Builtin.List.listItems
  refine wpAny_bind (wpAny_seqItems hL rfl (wpAny_pure ?_))
  show wpAny _ _ (updateSeq s.heap.objs.size (fun _ => #[]) >>= fun _ => letGo (#[] : Array Value).toList.reverse >>= fun _ => Builtin.List.listExtendWith (.ref s.heap.objs.size) (.ref it) .none) _ _ _
  refine wpAny_bind (wpAny_updateSeq hL rfl ?_)
  have hL2 := Heap.get?_update_self (Obj.mapSeq (fun _ => (#[] : Array Value))) hL rfl
  have hI2 := (Heap.get?_update_other (s.heap.push { cls := .type "list", data := .seq #[] }) (Obj.mapSeq (fun _ => (#[] : Array Value))) hne).trans hI
  refine wpAny_bind (wpAny_letGo ?_)
  unfold Builtin.List.listExtendWith
  refine wpAny_bind (wpAny_typeOf (T := "range_iterator") ⟨_, hI2, rfl⟩ ?_)
  have d1 : Builtin.List.listSameRef (.ref s.heap.objs.size) (.ref it) = false := by simp [Builtin.List.listSameRef, hne]
  rw [if_neg (by rw [d1]; decide)]
  refine wpAny_bind (wpAny_pyIter_rangeiter hI2 ?_)
  refine wpAny_bind (wpAny_holding (rit_room hI2 small fun tk htk => ?_))
  rw [if_neg (by decide)]
  have Wk := (Walks.range (prog := prog) (w := w) (A := A.in1.in1) hh it x c n).toS
  have hI3 : IsRangeIter ((s.heap.push { cls := .type "list", data := .seq #[] }).update s.heap.objs.size (Obj.mapSeq (fun _ => (#[] : Array Value)))) it (x + ((0 : Nat) : Int) * c) ((n : Int) - ((0 : Nat) : Int)) c := by
    have e1 : x + ((0 : Nat) : Int) * c = x := by simp
    have e2 : (n : Int) - ((0 : Nat) : Int) = (n : Int) := by simp
    rw [e1, e2]
    exact hI2
  refine wpAny_pure ⟨plainId_quiet F.plain_extend_loop _, ?_⟩
  refine codeAny_extend_loopS Wk (by rw [sizeLine_eq]; omega) s.heap.objs.size (fun hm => hne (List.mem_singleton.mp hm)) _ n 0 _ #[] _ rfl (Nat.zero_le _) hI3 hL2 (ItemsOf.nil _) fun s' acc' c' hm hS' hacc => ?_
  rw [Moved.eq_with hm]
  refine ⟨rfl, hq s'.heap s'.toks acc' c' (fun b o hb e => hm.heap b o (fun hmem => ?_) ?_) hS' hacc⟩
  · rcases List.mem_cons.mp hmem with q | q
    · exact absurd (Heap.lt_size e) (by rw [q]; exact Nat.lt_irrefl _)
    · exact hb (List.mem_singleton.mp q)
  · have hbl : s.heap.objs.size ≠ b := fun q => absurd (Heap.lt_size e) (by rw [← q]; exact Nat.lt_irrefl _)
    exact (Heap.get?_update_other _ _ hbl).trans (Heap.get?_push_of_some _ e)
end
section
variable {X : Cx} {W : WX} {e : Expr} {te : L2.St → Hp → (Int → Int → Hp → Prop) → Prop}
def rvV (a b : Int) : List V := (List.range (b - a).toNat).map fun i : Nat => V.int (b - 1 - (i : Int))
def tLrr (te : L2.St → Hp → (Int → Int → Hp → Prop) → Prop) : TE := fun σ H Q => te σ H fun a b H1 => (a ≤ b ∧ RgOk a b) ∧ ∀ q, H1 q = none → Q (.ref q) (upd H1 q (.lst (rvV a b)))
theorem vals_rv {a b : Int} (hab : a ≤ b) {acc : Array Value} (h : ItemsOf (fun i v => ∃ t, v = .int (a + (((b - a).toNat : Nat) - 1 : Int) * 1 + i * (-1)) t) acc (b - a).toNat) : Vals (rvV a b) acc.toList := by
  have e : acc.toList.length = (b - a).toNat := by rw [Array.length_toList]; exact h.1
  unfold rvV
  rw [← e]
  refine vals_of_get acc.toList (fun i : Nat => V.int (b - 1 - (i : Int))) fun j u hj => ?_
  obtain ⟨t, rfl⟩ := h.2 j u (by rw [← hj, Array.getElem?_toList])
  refine ⟨t, ?_⟩
  congr 1
  omega
theorem pe_lrr {p p2 pos pos2 : Pos} (hc : X.calm = true) (hg : Gl X "list") (hm : X.mg "list" = none) (hg2 : Gl X "reversed") (hm2 : X.mg "reversed" = none) (he : PRg X e te)
    (na2 : starEach [e] X.env = (false, eval e X.env) :: starEach [] X.env := by rfl)
    (na : starEach [.Call (.Name "reversed" p2) [e] [] pos2] X.env = (false, eval (.Call (.Name "reversed" p2) [e] [] pos2) X.env) :: starEach [] X.env := by rfl) :
    PE X (.Call (.Name "list" p) [.Call (.Name "reversed" p2) [e] [] pos2] [] pos) (tLrr te) := by
  refine ⟨fun pins s σ H Q I h => ?_⟩
  have rev : wpAny (model X.prog X.w) X.A (eval (.Call (.Name "reversed" p2) [e] [] pos2) X.env) (fun u s2 => ∃ (s1 : Shared) (a b : Int) (H1 : Hp), u = .ref s1.heap.objs.size ∧ s2 = { s1 with heap := s1.heap.push (rngRevObj a b 1) } ∧ Inv X pins σ H1 s1 ∧ (a ≤ b ∧ RgOk a b) ∧ ∀ q, H1 q = none → Q (.ref q) (upd H1 q (.lst (rvV a b)))) X.xe s := by
    refine Call_ (ld_blt I hg2 hm2 PyProof.Rows.boot_reversed (PyProof.Rows.callWith_type1 (args_cons (thn (he pins s σ H _ I h) fun u s1 hx => args_nil ?_) na2) na2))
    obtain ⟨r, a, b, t, w1, v, H1, eu, hr, I1, ok, q⟩ := hx
    subst eu
    exact call_reversed_range hr (smallRev_one ok.2.1 ok.2.2.1 ok.2.2.2.1 ok.2.2.2.2.1) ⟨s1, a, b, H1, rfl, rfl, I1, ok, q⟩
  refine Call_ (ld_blt I hg hm boot_list (PyProof.Rows.callWith_type1 (args_cons (thn rev fun u s2 hx => args_nil ?_) na) na))
  obtain ⟨s1, a, b, H1, rfl, rfl, I1, ⟨hab, ok⟩, q⟩ := hx
  have hn : Builtin.Range.rangeSize a b 1 = (((b - a).toNat : Nat) : Int) := rangeSize_nat a b
  obtain ⟨o1, o2, o3, o4, o5⟩ := ok
  have hit : IsRangeIter (s1.heap.push (rngRevObj a b 1)) s1.heap.objs.size (a + (((b - a).toNat : Nat) - 1 : Int) * 1) (((b - a).toNat : Nat) : Int) (-1) := by
    rw [← hn]
    exact Heap.get?_push_size _ rfl
  refine list_of_rit (s := { s1 with heap := s1.heap.push (rngRevObj a b 1) }) (I1.ok.hd hc) hit (by omega) fun h' tk acc cap keep e' items => ?_
  have sz2 : (s1.heap.push (rngRevObj a b 1)).objs.size = s1.heap.objs.size + 1 := by simp [Heap.push]
  have e2 : h'.get? (s1.heap.objs.size + 1) = some { cls := .type "list", dict := none, data := .seq acc cap, slots := #[] } := by rw [← sz2]; exact e'
  show EP X pins σ Q (.ref (s1.heap.push (rngRevObj a b 1)).objs.size) _
  rw [sz2]
  refine ⟨.ref (s1.heap.objs.size + 1), upd H1 (s1.heap.objs.size + 1) (.lst (rvV a b)), I1.laid (t' := tk) (fun c o z => keep c o (fun q => absurd (Heap.lt_size z) (by rw [q]; exact Nat.lt_irrefl _)) (Heap.get?_push_of_some _ z)) (Nat.le_succ _) (show ObjOk X.prog X.w _ _ _ (.lst (rvV a b)) from ⟨?_, acc.toList, cap, vals_rv hab items, ?_⟩), rfl, q _ (I1.hok.fresh (Nat.le_succ _))⟩
  · unfold rvV
    rw [List.length_map, List.length_range, sizeLine_eq]
    omega
  · rw [Array.toArray_toList]
    exact e2
def rvD (b : Int) : List D := (List.range b.toNat).map fun i : Nat => D.int (b - 1 - (i : Int))
open Classical in
noncomputable def eLrr (x : M) : M := eB x fun d _ S => match d with
  | .int b => if SmallR 0 b then .ok (.lst (rvD b)) S else .fail
  | _ => .fail
theorem isl_rv {G : Gc} {m : List Addr} {H0 : Hp} {b : Int} : ∀ l : List Nat, IsL G H0 m (l.map fun i : Nat => D.int (b - 1 - (i : Int))) (l.map fun i : Nat => V.int (b - 1 - (i : Int)))
  | [] => isl_nil.mpr rfl
  | k :: r => isl_cons.mpr ⟨_, _, rfl, is_int.mpr rfl, isl_rv r⟩
theorem me_lrr {x : M} {p p2 p3 pos pos2 pos3 : Pos} (hc : X.calm = true) (hg : Gl X "list") (hm : X.mg "list" = none) (hg2 : Gl X "reversed") (hm2 : X.mg "reversed" = none) (hg3 : Gl X "range") (hm3 : X.mg "range" = none) (hx : ME X W e x)
    (na3 : starEach [e] X.env = (false, eval e X.env) :: starEach [] X.env := by rfl)
    (na2 : starEach [.Call (.Name "range" p3) [e] [] pos3] X.env = (false, eval (.Call (.Name "range" p3) [e] [] pos3) X.env) :: starEach [] X.env := by rfl)
    (na : starEach [.Call (.Name "reversed" p2) [.Call (.Name "range" p3) [e] [] pos3] [] pos2] X.env = (false, eval (.Call (.Name "reversed" p2) [.Call (.Name "range" p3) [e] [] pos3] [] pos2) X.env) :: starEach [] X.env := by rfl) :
    ME X W (.Call (.Name "list" p) [.Call (.Name "reversed" p2) [.Call (.Name "range" p3) [e] [] pos3] [] pos2] [] pos) (eLrr x) :=
  pe_imp (pe_lrr hc hg hm hg2 hm2 (prg_1 hg3 hm3 hx na3) na2 na) fun σ H Q h => tm_mono (tm_b h) fun v H1 ⟨d, r, S, m, H0, he, rl, i, k⟩ => by
    cases d with
    | int j =>
      simp only at k
      by_cases hj : SmallR 0 j
      · rw [if_pos hj] at k
        have hj2 := hj
        unfold SmallR at hj2
        refine ⟨j, is_int.mp i, ⟨hj2.2.2.1, rgok hj⟩, fun q hq => ?_⟩
        have ev : rvV 0 j = (List.range j.toNat).map fun i : Nat => V.int (j - 1 - (i : Int)) := by unfold rvV; rw [Int.sub_zero]
        rw [ev]
        exact kt_lst k rl (isl_rv _) hq
      · rw [if_neg hj] at k; exact k.elim
    | _ => exact k.elim
theorem ok_lrr {r : Rho} {S : List Cel} {x : M} {P : D → List Cel → Prop} : Ok (eLrr x r S) P = Ok (x r S) fun d S1 => match d with
  | .int b => SmallR 0 b ∧ P (.lst (rvD b)) S1
  | _ => False := by
  unfold eLrr
  rw [ok_eb]
  congr 1
  funext d S1
  cases d with
  | int j =>
    by_cases hj : SmallR 0 j
    · simp [hj, Ok]
    · simp [hj, Ok]
  | _ => rfl
end
end Me
end
section
set_option Elab.async false
set_option linter.all false
set_option maxRecDepth 100000
set_option maxHeartbeats 2000000
namespace Me
open PySem PySem.Spec L2
open PyProof.Rows hiding St
/-! ### a call that sees all the caller's cells -/
def callT (F : DF) (ds : List D) (S : List Cel) : R D := F ds S
theorem sndT : SndC callT := fun {G W σ m H0 H S n F ds vs Q} hn r i h => by
  refine ⟨hn, ds, S, m, H0, i, r, ?_⟩
  unfold callT at h
  cases hF : F ds S with
  | fail => rw [hF] at h; exact h
  | ok d S' => rw [hF] at h; exact h
  | exc x S' => rw [hF] at h; exact fun c dd m' H0' H' e r' i' => h c dd m' H0' H' e r' i'
/-! ### is True, is not True -/
section
variable {X : Cx} {W : WX} {a b e : Expr} {x y : M} {pos : Pos}
theorem me_isB (ha : ME X W a x) (hb : ME X W b y) : ME X W (.Compare a [.Is] [b] pos) (eBin (pIsB false) x y) := me_cmp op_isBl (nomark _) snd_isB ha hb
theorem me_notB (ha : ME X W a x) (hb : ME X W b y) : ME X W (.Compare a [.IsNot] [b] pos) (eBin (pIsB true) x y) := me_cmp op_notBl (nomark _) snd_notB ha hb
theorem mt_isB (ha : ME X W a x) (hb : ME X W b y) : MT X W (.Compare a [.Is] [b] pos) (toB (eBin (pIsB false) x y)) := mt_cmp op_isBl (nomark _) snd_isB ha hb
theorem mt_notB (ha : ME X W a x) (hb : ME X W b y) : MT X W (.Compare a [.IsNot] [b] pos) (toB (eBin (pIsB true) x y)) := mt_cmp op_notBl (nomark _) snd_notB ha hb
theorem me_repC (ha : ME X W a x) (hb : ME X W b y) : ME X W (.BinOp a .Mult b pos) (eBin pRepC x y) := me_bin op_rep snd_repC ha hb
/-! ### a list's truth -/
def truL (x : M) : MB := fun r S => match x r S with
  | .ok d S1 => (match lstD S1 d with
    | some xs => .ok (!xs.isEmpty) S1
    | none => .fail)
  | .exc e S1 => .exc e S1
  | .fail => .fail
theorem mt_truL (h : ME X W e x) (he : ∀ whole, isTrue e X.env whole = (do let v ← whole; standAt e.pos; holding [v] (truthy v)) := by intro _; rfl) : MT X W e (truL x) :=
  pt_imp (pt_truth h he) fun σ H Q h => by
    obtain ⟨r, S, m, H0, he, hr, hk⟩ := h
    refine ⟨r, S, m, H0, he, hr, ?_⟩
    unfold truL at hk
    cases hx : x r S with
    | fail => simp only [hx] at hk; exact hk
    | exc ex S1 => simp only [hx] at hk; exact hk
    | ok d S1 =>
      simp only [hx] at hk
      intro v m1 H01 H1 e1 rl1 i1
      have hk2 := KtB.later e1 hk
      cases hl : lstD S1 d with
      | none => simp only [hl] at hk2; exact hk2.elim
      | some xs =>
        simp only [hl] at hk2
        obtain ⟨a, vs, rfl, q1, q2⟩ := lstD_ok rl1 i1 hl
        have q := hk2 m1 H01 H1 (Ext.refl _ _ _) rl1
        refine ⟨_, .inl ⟨vs, q1, rfl⟩, ?_⟩
        have e3 : vs.isEmpty = xs.isEmpty := by
          have := q2.len
          cases vs <;> cases xs <;> simp_all
        rw [e3]
        exact q
end
/-! ### range(a, b) -/
section
variable {X : Cx} {W : WX} {G : Gc} {tg : Expr}
theorem tmi_bl {y : ML} {f : List D → List Cel → R Src} {σ : L2.St} {H : Hp} {Q : It → Hp → Prop} (h : tMI G W (fun r S => (y r S).bind fun d S1 => f d S1) σ H Q) :
    tML G W y σ H fun vs H1 => ∃ ds S m H0, Rl G m S H0 H1 ∧ IsL G H0 m ds vs ∧ KtI G W σ m H0 H1 (f ds S) Q := by
  obtain ⟨r, S, m, H0, he, hr, hk⟩ := h
  refine ⟨r, S, m, H0, he, hr, ?_⟩
  cases hx : y r S with
  | fail => simp only [hx] at hk; exact hk
  | exc ex S1 => simp only [hx] at hk; exact hk
  | ok d S1 =>
    simp only [hx] at hk
    intro v m' H0' H' ex rl i
    refine ⟨d, S1, m', H0', rl, i, ?_⟩
    have hk' : KtI G W σ m H0 H (f d S1) Q := hk
    cases hf : f d S1 with
    | fail => rw [hf] at hk'; exact hk'
    | exc e2 S2 => rw [hf] at hk'; exact fun c dd m2 H02 H2 x2 => hk' c dd m2 H02 H2 (ex.trans x2)
    | ok s S2 => rw [hf] at hk'; exact fun J m2 H02 H2 x2 => hk' J m2 H02 H2 (ex.trans x2)
def two? : List D → Option (Int × Int)
  | ds => match intsD ds with
    | some ns => if ns.length = 2 then some (ns.getD 0 0, ns.getD 1 0) else none
    | none => none
open Classical in
noncomputable def rg2 (ds : List D) (S : List Cel) : R Src := match two? ds with
  | some p => if Small p.1 ∧ Small p.2 then .ok ⟨rngL p.1 (p.2 - p.1).toNat, none⟩ S else .fail
  | none => .fail
noncomputable def iRng2 (l : ML) : MSrc := fun r S => (l r S).bind fun ds S1 => rg2 ds S1
theorem two_ok {ds : List D} {p : Int × Int} (h : two? ds = some p) : ds = [.int p.1, .int p.2] := by
  unfold two? at h
  cases hn : intsD ds with
  | none => simp [hn] at h
  | some ns =>
    simp only [hn] at h
    by_cases h2 : ns.length = 2
    · rw [if_pos h2] at h
      cases h
      rw [ints_eq hn]
      match ns, h2 with
      | [a, b], _ => rfl
    · rw [if_neg h2] at h
      cases h
open Classical in
theorem mi_rng2 {a b : Expr} {l : ML} {p pos : Pos} (hg : Gl X "range") (hm : X.mg "range" = none) (ha : MA X W [a, b] l) (hs : starEach [a, b] X.env = [(false, eval a X.env), (false, eval b X.env)] := by rfl) (hs2 : starEach [b] X.env = [(false, eval b X.env)] := by rfl) :
    MI X W tg (.Call (.Name "range" p) [a, b] [] pos) (iRng2 l) := by
  refine pi_imp (pi_range2 hg hm ha hs hs2) fun σ H Q hq => ?_
  refine tml_mono (tmi_bl (f := rg2) hq) ?_
  rintro vs H1 ⟨ds, S, m, H0, rl, i, k⟩
  unfold rg2 at k
  cases h2 : two? ds with
  | none => simp only [h2] at k; exact k.elim
  | some q =>
    simp only [h2] at k
    rw [two_ok h2] at i
    obtain ⟨v, w, rfl, i1, i2⟩ := isl_two i
    obtain rfl := is_int.mp i1
    obtain rfl := is_int.mp i2
    by_cases hj : Small q.1 ∧ Small q.2
    · rw [if_pos hj] at k
      exact ⟨q.1, q.2, rfl, ⟨hj.1.1, hj.1.2, hj.2.1, hj.2.2⟩, k _ m H0 H1 (Ext.refl _ _ _) rl walk_rng⟩
    · rw [if_neg hj] at k
      exact k.elim
end
theorem ok_irng2 {l : ML} {r : Rho} {S : List Cel} {PS : Src → List Cel → Prop} : Ok (iRng2 l r S) PS = Ok (l r S) fun ds S1 => match two? ds with
  | some p => (Small p.1 ∧ Small p.2) ∧ PS ⟨rngL p.1 (p.2 - p.1).toNat, none⟩ S1
  | none => False := by
  unfold iRng2
  rw [ok_bind]
  congr 1
  funext ds S1
  unfold rg2
  cases two? ds with
  | none => rfl
  | some p =>
    by_cases h : Small p.1 ∧ Small p.2
    · simp [h, Ok]
    · simp [h, Ok]
theorem two_ints {i j : Int} : two? [.int i, .int j] = some (i, j) := rfl
theorem ok_truL {x : M} {r : Rho} {S : List Cel} {Q : Bool → List Cel → Prop} : Ok (truL x r S) Q = Ok (x r S) fun d S1 => match lstD S1 d with
  | some xs => Q (!xs.isEmpty) S1
  | none => False := by
  unfold truL
  cases x r S with
  | ok d S1 =>
    show Ok (match lstD S1 d with
      | some xs => .ok (!xs.isEmpty) S1
      | none => .fail) Q = match lstD S1 d with
      | some xs => Q (!xs.isEmpty) S1
      | none => False
    cases lstD S1 d <;> rfl
  | _ => rfl
/-! ### xs[i] += c, xs[i] -= c: names and a written number -/
open Classical in
noncomputable def sAugC (neg : Bool) (a b : Nat) (c : Int) : MS := fun r S => match r[a]?, r[b]? with
  | some (some (.cell k)), some (some (.int j)) => (match S[k]? with
    | some (.lst xs) => if SmallJ j then (match xs[j.toNat]? with
      | some (.int z) => .nx r (S.set k (.lst (xs.set j.toNat (.int (if neg = true then z - c else z + c)))))
      | _ => .fail) else .fail
    | _ => .fail)
  | _, _ => .fail
section
variable {X : Cx} {W : WX}
def rGetL : V → V → Hp → VK → Prop := fun o i H Q => ∃ p xs k v, o = .ref p ∧ i = .int k ∧ H p = some (.lst xs) ∧ 0 ≤ k ∧ k < 1000000 ∧ xs[k.toNat]? = some v ∧ Q v H
theorem get_list : PGet X rGetL := by
  intro pins s σ H o i ov iv Q I ro ri h
  obtain ⟨p, xs, k, v, rfl, rfl, hp, h0, h1, hv, q⟩ := h
  cases ro
  obtain ⟨t, rfl⟩ := ri
  obtain ⟨its, r, pl, hz⟩ := I.list (SqL.of hp)
  obtain ⟨w, ew, rw'⟩ := r.get hv
  exact wpAny_getItem_list pl.isList h0 (by omega) (by rw [List.getElem?_toArray]; exact ew) ⟨v, H, I, rw', q⟩
theorem mp_aug {neg : Bool} {op : Operator} {a b : Nat} {c : Int} {x y : Str} {px py tpos pos kp : _} {kk : _} (hop : PIp X op (ipI fun i j => if neg = true then i - j else i + j))
    (hN : X.N[a]? = some x := by rfl) (hM : X.N[b]? = some y := by rfl)
    (hv : Vis X.env.scope x := by first | exact Or.inl rfl | exact Or.inr (Or.inl rfl) | exact Or.inr (Or.inr rfl)) (hw : Vis X.env.scope y := by first | exact Or.inl rfl | exact Or.inr (Or.inl rfl) | exact Or.inr (Or.inr rfl))
    (hd : (x == ("__debug__" : Str)) = false := by decide) (he : (y == ("__debug__" : Str)) = false := by decide) (hcd : (x == ("__classdict__" : Str)) = false := by decide) (hce : (y == ("__classdict__" : Str)) = false := by decide)
    (ha : ∀ ov iv new, augStore (.Name y py) ov iv new = (do holding [new, ov, iv] (setItem ov iv new); release [new, ov, iv] []; pure .next) := by intros; rfl) :
    MP X W (.AugAssign (.Subscript (.Name x px) (.Name y py) tpos) op (.Constant (.int c) kk kp) pos) (sAugC neg a b c) :=
  ps_imp (ps_augS (pe_var hN hv hd hcd) (pe_var hM hw he hce) get_list pe_int hop set_list ha) fun E σ H ⟨r, S, m, H0, he, hr, hk⟩ => by
    unfold sAugC at hk
    cases h1 : r[a]? with
    | none => simp only [h1] at hk; exact hk.elim
    | some o =>
      cases o with
      | none => simp only [h1] at hk; exact hk.elim
      | some d =>
        cases d with
        | cell k =>
          cases h2 : r[b]? with
          | none => simp only [h1, h2] at hk; exact hk.elim
          | some o2 =>
            cases o2 with
            | none => simp only [h1, h2] at hk; exact hk.elim
            | some d2 =>
              cases d2 with
              | int j =>
                simp only [h1, h2] at hk
                obtain ⟨v, e1, i1⟩ := he.2 a _ h1
                obtain ⟨w, e2, i2⟩ := he.2 b _ h2
                obtain ⟨ad, rfl, hm⟩ := is_cell.mp i1
                obtain rfl := is_int.mp i2
                cases hS : S[k]? with
                | none => simp only [hS] at hk; exact hk.elim
                | some cc =>
                  cases cc with
                  | lst xs =>
                    simp only [hS] at hk
                    by_cases hj : SmallJ j
                    · rw [if_pos hj] at hk
                      cases hx : xs[j.toNat]? with
                      | none => simp only [hx] at hk; exact hk.elim
                      | some dz =>
                        cases dz with
                        | int z =>
                          simp only [hx] at hk
                          obtain ⟨vs, f1, f2⟩ := hr.cel hS hm
                          obtain ⟨vz, g1, g2⟩ := f2.get hx
                          obtain rfl := is_int.mp g2
                          have hl := (List.getElem?_eq_some_iff.mp g1).1
                          unfold SmallJ at hj
                          refine ⟨.ref ad, e1, .int j, e2, ad, vs, j, .int z, rfl, rfl, f1, hj.1, hj.2, g1, z, c, rfl, rfl, ad, vs, j, j.toNat, rfl, rfl, f1, ?_, ?_⟩
                          · unfold ixN
                            rw [if_pos hj.1, if_pos (by omega)]
                          · exact hk σ m H0 _ (Ext.setL (List.mem_of_getElem? hm)) (hr.setL hS hm rfl ⟨_, upd_same, f2.set _ (is_int.mpr rfl)⟩) he
                        | _ => simp only [hx] at hk; exact hk.elim
                    · rw [if_neg hj] at hk
                      exact hk.elim
                  | _ => simp only [hS] at hk; exact hk.elim
              | _ => simp only [h1, h2] at hk; exact hk.elim
        | _ => simp only [h1] at hk; exact hk.elim
theorem aug_sub : PIp X .Sub (ipI fun i j => if true = true then i - j else i + j) := ip_sub
theorem aug_add : PIp X .Add (ipI fun i j => if false = true then i - j else i + j) := ip_add
end
theorem oks_aug {neg : Bool} {a b : Nat} {c z : Int} {k j : Nat} {r : Rho} {S : List Cel} {xs : List D} {N : Rho → List Cel → Prop} {T : D → List Cel → Prop} (h1 : r[a]? = some (some (.cell k))) (h2 : r[b]? = some (some (.int (j : Int)))) (h3 : S[k]? = some (.lst xs)) (hj : j < 1000000) (h4 : xs[j]? = some (.int z))
    (h : N r (S.set k (.lst (xs.set j (.int (if neg = true then z - c else z + c)))))) : OkS (sAugC neg a b c r S) N T := by
  unfold sAugC
  simp only [h1, h2, h3, Int.toNat_natCast, h4]
  rw [if_pos (show SmallJ (j : Int) from ⟨by omega, by omega⟩)]
  exact h
end Me
end
section
set_option Elab.async false
set_option linter.all false
set_option maxRecDepth 100000
set_option maxHeartbeats 2000000
namespace Me
open PySem PySem.Spec L2
open PyProof.Rows hiding St
/-! ### a tuple times 1, times a number -/
theorem tuple_once (l : Addr) (items : Array Value) (n : Nat) (dd : Option Addr) (sl : Array (Option Value)) (u : Tok) :
    Meets (Builtin.«tuple.__mul__» ⟨[.ref l, .int 1 u], []⟩) (fun _ R s => s.heap.get? l = some { cls := .type "tuple", dict := dd, data := .seq items n, slots := sl } ∧ R (.ok (.ret (Value.ref l))) s) :=
  .of_wp fun prog w A R s h => by
    obtain ⟨hp, g, d, tk, os⟩ := s
    obtain ⟨hl, h⟩ := h
    have f1 := AutoSeq1.idx_int
    have ty : ({ heap := hp, gens := g, drawn := d, toks := tk, os := os } : Shared).TypeIs (.ref l) "tuple" := ⟨_, hl, rfl⟩
    wp_walk using AutoSeq1.wpAny_loadPart' hl, wpAny_typeOf ty
    exact ⟨_, rfl, h⟩
def rOnce (K : PySem.W.Frag) : R2 := fun x y H Q => ∃ l xs, x = .ref l ∧ y = .int 1 ∧ SqT K H l xs ∧ Q (.ref l) H
section
variable {X : Cx}
theorem op_once : OpR X (binaryOp .Mult) (rOnce X.K) := by
  intro pins s σ H x y v u Q I rx ry h
  obtain ⟨l, xs, rfl, rfl, hT, q⟩ := h
  cases rx
  obtain ⟨t, rfl⟩ := ry
  obtain ⟨its, r, ⟨⟨cls, dd, data, sl⟩, ho, hc, n, hd⟩, hs⟩ := I.tuple hT
  simp only at hc hd
  subst hc hd
  refine wpAny_binaryOp_repeat_ref (T := "tuple") (U := "int") (by decide) ⟨_, ho, rfl⟩ (fun s' => typeIs_int s' 1 t) noFill_tuple_mul F.fills_int_mul F.slot_int_rmul repeat_tuple F.slot_int_index.lookup
    (call_meets F.slot_int_rmul (typeIs_int s 1 t) F.entry_int_rmul (F.args_int_rmul_2 _ _) (int_rmul_tuple 1 t l its.toArray n dd sl)
      ⟨ho, rfl, ⟨_, ho, rfl⟩, call_meets F.slot_tuple_mul ⟨_, ho, rfl⟩ F.entry_tuple_mul (F.args_tuple_mul_2 _ _) (tuple_once l its.toArray n dd sl t) ⟨ho, ?_⟩⟩)
  exact ⟨.ref l, H, I, rfl, q⟩
end
open Classical in
noncomputable def pMulT (a b : D) (S : List Cel) : R D := match a, b with
  | .tup xs, .int k => if k = 1 then .ok (.tup xs) S else if xs ≠ [] ∧ 2 ≤ k ∧ k ≤ 1000 ∧ xs.length ≤ 1000 then .ok (.tup (List.replicate k.toNat xs).flatten) S else .fail
  | _, _ => .fail
theorem snd_mulT {G : Gc} : Snd2 G (fun x y H Q => rOnce G.K x y H Q ∨ rRepT G.K x y H Q) pMulT := by
  intro W σ m H0 H S x y a b Q r i j h
  unfold pMulT at h
  cases a with
  | tup xs =>
    cases b with
    | int k =>
      simp only at h
      obtain ⟨p, vs, rfl, e1, e2⟩ := tup_ok r i
      obtain rfl := is_int.mp j
      by_cases h1 : k = 1
      · rw [if_pos h1] at h
        subst h1
        exact .inl ⟨p, vs, rfl, rfl, e1, kt_ok h r i⟩
      · rw [if_neg h1] at h
        by_cases h2 : xs ≠ [] ∧ 2 ≤ k ∧ k ≤ 1000 ∧ xs.length ≤ 1000
        · rw [if_pos h2] at h
          refine .inr ⟨p, k, vs, rfl, rfl, e1, fun z => ?_, h2.2.1, h2.2.2.1, by rw [← e2.len]; exact h2.2.2.2, fun q hq => kt_tup h r (isl_rep e2 _) hq⟩
          have := e2.len
          rw [z] at this
          exact h2.1 (List.length_eq_zero_iff.mp this)
        · rw [if_neg h2] at h
          exact h.elim
    | _ => exact h.elim
  | _ => exact h.elim
section
variable {X : Cx} {W : WX} {a b e : Expr} {x y : M} {pos : Pos}
theorem me_mulT (ha : ME X W a x) (hb : ME X W b y) : ME X W (.BinOp a .Mult b pos) (eBin pMulT x y) := me_bin (op_once.or op_repT) snd_mulT ha hb
end
/-! ### a def called without its last parameter, which is None then -/
def gDn : List D → List D → List D := fun ds _ => ds ++ [.non]
def gVn : List V → List V → List V := fun vs _ => vs ++ [.non]
def gUn : List Value → List Value → List Value := fun us _ => us ++ [.none]
theorem gok_dfl : GOk gDn gVn := ⟨fun h _ => h.append (isl_cons.mpr ⟨.non, [], rfl, is_non.mpr rfl, isl_nil.mpr rfl⟩)⟩
theorem kb_non {K : PySem.W.Frag} {x qual : Str} {params : Arguments} {body : List Stmt} {scope : Scope} {dvs : List V} {kws : List (Str × V)} {f : Addr} {fd : FuncData} {ps : List Str} (F : FunD K x qual params body scope dvs kws f fd) (n : Nat) (hd : dvs = [.non]) (hn : n + 1 = ps.length)
    (h : ∀ (T : Addr) (kV doc pm : Value) (an : Option Addr) (cdv ct : Value) (us its : List Value), us.length = n → its.length = 1 →
      ∃ k, bindArgs (PySem.W.fnOf x qual params body scope (.ref T) kV doc pm an cdv ct) ⟨us, []⟩ = seqItems? (.ref T) >>= k ∧ k (some its.toArray) = pure (ps.zip (us ++ its))) : KBinds K fd ps [] gUn gVn := by
  subst hd
  obtain ⟨ds, rd, B⟩ := F.binds1 n 0 (by simp) (by simpa using hn) fun T kV doc pm an cdv ct us its h1 h2 => h T kV doc pm an cdv ct us its h1 h2
  have e : ds = [.none] := by
    obtain ⟨u, rfl, ru⟩ := Vals.one rd
    rw [show u = Value.none from ru]
  subst e
  refine ⟨fun s us ws X hl => ?_, fun r _ => Vals.append r (.cons rfl .nil)⟩
  rw [show ([] : List Str).zip ws = [] from List.zip_nil_left]
  exact B s us X hl
end Me
end
section
set_option Elab.async false
set_option linter.all false
set_option maxRecDepth 100000
namespace Me
open PySem PySem.Spec L2
open PyProof.Rows hiding St

/-! ### zip of two lists; a chain of two comparisons as a test -/
def zipD (xs ys : List D) : List D := List.zipWith (fun a b => D.tup [a, b]) xs ys
theorem zipD_get {xs ys : List D} {i : Nat} {d : D} (h : (zipD xs ys)[i]? = some d) : ∃ x y, xs[i]? = some x ∧ ys[i]? = some y ∧ d = .tup [x, y] := by
  unfold zipD at h
  rw [List.getElem?_zipWith] at h
  cases hx : xs[i]? with
  | none => rw [hx] at h; cases h
  | some x =>
    cases hy : ys[i]? with
    | none => rw [hx, hy] at h; cases h
    | some y => rw [hx, hy] at h; cases h; exact ⟨x, y, rfl, rfl, rfl⟩
def zp (ds : List D) (S : List Cel) : R Src := match ds with
  | [.lst xs, .lst ys] => .ok ⟨zipD xs ys, none⟩ S
  | _ => .fail
def iZipD (l : ML) : MSrc := fun r S => (l r S).bind fun ds S1 => zp ds S1
section
variable {X : Cx} {W : WX} {G : Gc}
theorem walk_zipD {a b : Addr} {H0b : Hp} {mb : List Addr} {xs ys : List D}
    (h : ∀ (S : List Cel) (m : List Addr) (H0 H : Hp), Same H0b H0 → mb <+: m → Rl G m S H0 H → ∃ vs ws, SqL G.K H a vs ∧ SqL G.K H b ws ∧ IsL G H0 m xs vs ∧ IsL G H0 m ys ws) : WalkD G (Itz G.K a b) H0b mb ⟨zipD xs ys, none⟩ := by
  intro S m H0 H i s0 p0 r hs
  obtain ⟨vs, ws, e1, e2, i1, i2⟩ := h S m H0 H s0 p0 r
  refine ⟨fun d hd => ?_, fun hl => ⟨vs, ws, e1, e2, ?_⟩⟩
  · obtain ⟨x, y, hx, hy, rfl⟩ := zipD_get hd
    obtain ⟨v, hv, iv⟩ := i1.get hx
    obtain ⟨u, hu, iu⟩ := i2.get hy
    refine ⟨⟨vs, ws, v, u, e1, e2, hv, hu⟩, ?_⟩
    rintro z H' ⟨T, p, q, rfl, hT, rfl, hp, hq⟩
    have q1 := hp vs e1
    rw [hv] at q1
    cases q1
    have q2 := hq ws e2
    rw [hu] at q2
    cases q2
    refine ⟨upd H0 T (.tup [v, u]), Ext.laid hT r.sub, r.laid hT, is_tup.mpr ⟨T, _, rfl, SqT.of upd_same, isl_cons.mpr ⟨_, _, rfl, ?_, isl_cons.mpr ⟨_, _, rfl, ?_, isl_nil.mpr rfl⟩⟩⟩⟩
    · exact Is.mono (new_mono (m := m) hT r.sub) (List.prefix_refl _) _ _ iv
    · exact Is.mono (new_mono (m := m) hT r.sub) (List.prefix_refl _) _ _ iu
  · have e3 : (zipD xs ys).length = i := hl
    unfold zipD at e3
    rw [List.length_zipWith, i1.len, i2.len] at e3
    omega
theorem isl_two' {H0 : Hp} {m : List Addr} {a b : D} {vs : List V} (h : IsL G H0 m [a, b] vs) : ∃ v w, vs = [v, w] ∧ Is G H0 m a v ∧ Is G H0 m b w := by
  obtain ⟨v, r, rfl, h1, h2⟩ := isl_cons.mp h
  obtain ⟨w, r', rfl, h3, h4⟩ := isl_cons.mp h2
  rw [isl_nil.mp h4]
  exact ⟨v, w, rfl, h1, h3⟩
theorem mi_zip {elts : List Expr} {kk : Nat} {a b : Expr} {l : ML} {p pos tpos : Pos} (hg : Gl X "zip") (hm : X.mg "zip" = none) (ha : MA X W [a, b] l)
    (hs : starEach [a, b] X.env = (false, eval a X.env) :: starEach [b] X.env := by rfl) (hpl : (backTo pos (starEach [b] X.env)).any (·.1) = false := by rfl) :
    MI X W (.Tuple elts kk tpos) (.Call (.Name "zip" p) [a, b] [] pos) (iZipD l) := by
  refine pi_imp (pi_zip hg hm ha hs hpl) fun σ H Q hq => ?_
  refine tml_mono (tmi_bl (f := zp) hq) ?_
  rintro vs H1 ⟨ds, S, m, H0, rl, i, k⟩
  match ds, k, i with
  | [.lst xs, .lst ys], k, i =>
    obtain ⟨v, w, rfl, i1, i2⟩ := isl_two' i
    obtain ⟨a1, vs1, rfl, e1, j1⟩ := is_lst.mp i1
    obtain ⟨a2, vs2, rfl, e2, j2⟩ := is_lst.mp i2
    exact ⟨a1, a2, vs1, vs2, rfl, SqL.of (rl.sub _ _ e1), SqL.of (rl.sub _ _ e2), k _ m H0 H1 (Ext.refl _ _ _) rl (walk_zipD (G := gX X) fun S' m' H0' H' s0 p0 r' =>
      ⟨vs1, vs2, SqL.of (r'.sub _ _ (s0 _ _ e1)), SqL.of (r'.sub _ _ (s0 _ _ e2)), IsL.mono s0 p0 _ _ j1, IsL.mono s0 p0 _ _ j2⟩)⟩
theorem ok_izip {l : ML} {r : Rho} {S : List Cel} {PS : Src → List Cel → Prop} : Ok (iZipD l r S) PS = Ok (l r S) fun ds S1 => Ok (zp ds S1) PS := ok_bind
theorem ok_zp {xs ys : List D} {S : List Cel} {PS : Src → List Cel → Prop} : Ok (zp [.lst xs, .lst ys] S) PS = PS ⟨zipD xs ys, none⟩ S := rfl
theorem mt_chLL {a b c : Expr} {x y z : M} {pos : Pos} (ha : ME X W a x) (hb : ME X W b y) (hc : ME X W c z) (hm : lastMarks [.LtE, .LtE] [b, c] = false := by with_unfolding_all rfl) :
    MT X W (.Compare a [.LtE, .LtE] [b, c] pos) (toB (eCh (fun i j => decide (i ≤ j)) (fun i j => decide (i ≤ j)) x y z)) :=
  pt_imp (pt_chain (op_le) (op_le) ha hb hc hm) fun _ _ _ h => tm_ch (tm_tob h)
end
end Me
end
section
set_option Elab.async false
set_option linter.all false
set_option maxRecDepth 100000
set_option maxHeartbeats 2000000
namespace Me
open PySem PySem.Spec L2
open PyProof.Rows hiding St
/-! ### a try with clauses of both forms, with a name and without -/
section
variable {X : Cx} {W : WX} {pins : List (Addr × Obj)} {B : Heap} {a : Addr} {cls : Value} {d : Option Addr} {σ : L2.St} {H : Hp} {t0 t : Shared}
/-- an exception of the body is held in this frame: t0 is where it left the body, t is now -/
structure Down (X : Cx) (pins : List (Addr × Obj)) (B : Heap) (a : Addr) (cls : Value) (d : Option Addr) (σ : L2.St) (H : Hp) (t0 t : Shared) : Prop where
  inv : L2.Inv X pins σ H t0
  old : ∀ (q : Addr) (o : Obj), t0.heap.get? q = some o → ¬q ∈ frs X.stack → B.get? q = some o
  fly : HandSPX.FlyingZ B (X.env :: X.outer) a (Zc cls d) t.heap
  up : t0.heap.UpToSlots t.heap
  fresh : H a = none
  os : t.os = t0.os
  bare : AllBare t.gens
theorem Down.now (w : Down X pins B a cls d σ H t0 t) : L2.Inv X pins σ H t := w.inv.landed w.old w.fly.1 w.up w.os w.bare
/-- the frame's objects are others -/
theorem Down.apart (w : Down X pins B a cls d σ H t0 t) (hf : X.env.frame = some X.env.locals) : ∃ (o : Obj) (fv : Array Value), t.heap.get? a = some o ∧ Zc cls d o ∧ o.data = .fields fv ∧ a ≠ X.env.locals ∧ a ∉ X.fs := by
  obtain ⟨o, fv, g1, g2, g3⟩ := w.fly.there
  have out : a ∉ frs (X.env :: X.outer) := fun q => by
    obtain ⟨_, o', g4, no⟩ := w.fly.2.2.1.mem q
    rw [g1] at g4
    cases g4
    exact no _ g3
  refine ⟨o, fv, g1, g2, g3, fun q => out (List.mem_filterMap.mpr ⟨X.env, List.mem_cons_self, by rw [hf, q]⟩), fun q => ?_⟩
  obtain ⟨f, f1, f2⟩ := List.mem_filterMap.mp q
  exact out (List.mem_filterMap.mpr ⟨f, List.mem_cons_of_mem _ f1, f2⟩)
/-- what a row of clauses does with it -/
def Catches (X : Cx) (hds : List ExceptHandler) (w : Ends → WX) : Prop :=
  ∀ (pins : List (Addr × Obj)) (B : Heap) (a : Addr) (cls : Value) (d : Option Addr) (σ : L2.St) (H : Hp) (t0 t : Shared) (D : Ends), Down X pins B a cls d σ H t0 t → w D cls d σ H →
    wpAny (model X.prog X.w) X.A (handleBy (.ref a) X.env hds) (SP X pins D) X.xe t
theorem catches_nil (hs : X.stack = X.env :: X.outer) (hf : X.env.frame = some X.env.locals) (tk : Takes X W) : Catches X [] fun _ => W := by
  intro pins B a cls d σ H t0 t D dn hw
  refine wpAny_handleBy_nil ?_
  obtain ⟨k1, k2, k3, o, fv, T, oT, ts, g1, g2, g3, g4, g5⟩ := id dn.fly
  have out : wpAny (model X.prog X.w) X.A (setFlight (.ref a) X.env.frame) (fun _ t4 => wpAny (model X.prog X.w) X.A (throw (.ref a) : Sem Flow) (SP X pins D) X.xe t4) X.xe t := by
    rw [hf]
    refine HandSPX.setFlight_upZ dn.fly fun hp z up => wpAny_throw (tk _ _ ?_)
    exact ⟨a, B, t0, pins, σ, H, cls, d, rfl, dn.inv, dn.old, dn.up.trans up, .inr (.inr (by rw [hs]; exact z)), dn.fresh, dn.os, dn.bare, hw⟩
  unfold PySem.passOn
  refine wpAny_bind (wpAny_field g1 g3 g4 ?_)
  rw [if_neg (show ¬((Value.ref T == Value.none) = true) by simp)]
  first
    | exact wpAny_bind (wpAny_pure (wpAny_bind out))
    | exact wpAny_bind out
/-- what a clause with a name wishes -/
def wClause (K : PySem.W.Frag) (c : Value) (i : Nat) (ts : Addr → Value → Option Addr → TS) (w : Ends → WX) (D : Ends) : WX := fun cls d σ H =>
  ∃ b, PySem.W.exmOne K cls c = some b ∧ (b = true → ∀ a, H a = none → ts a cls d
    { nx := fun σ' H' => D.nx (List.set σ' i none) H', rt := D.rt, bk := fun σ' H' => D.bk (List.set σ' i none) H', ct := fun σ' H' => D.ct (List.set σ' i none) H' } (List.set σ i (some (.ref a))) H) ∧
    (b = false → w D cls d σ H)
theorem catches_as {x n : Str} {c : Value} {i : Nat} {suite : List Stmt} {b₀ : Stmt} {np pos' : Pos} {ts : Addr → Value → Option Addr → TS} {hds : List ExceptHandler} {w : Ends → WX}
    (hf : X.env.frame = some X.env.locals) (hN : X.N.Nodup) (hi : X.N[i]? = some n) (hl : X.env.kindOf n = some .local) (hc : Names X x c)
    (hsu : ∀ (a : Addr) (o : Obj) (cls : Value) (d : Option Addr) (pn : List (Addr × Obj)), Zc cls d o → (∃ vs, o.data = .fields vs) → PSs (X.suite a ((a, o) :: pn)) (b₀ :: suite) (ts a cls d))
    (hr : Catches X hds w) : Catches X (.ExceptHandler (some (.Name x np)) (some n) (b₀ :: suite) pos' :: hds) (wClause X.K c i ts w) := by
  intro pins B a cls d σ H t0 t D dn ⟨b, m, yes, no⟩
  have now := dn.now
  have ok := now.ok
  obtain ⟨o, fv, g1, g2, g3, g4, g5⟩ := dn.apart hf
  have inside := now.suite g1 g3 dn.fresh g4 g5
  refine wpAny_handleBy_cons (codeAny_handlers_test ?_) nofun
  have seen : PySem.W.Looks (model X.prog X.w) t.heap (typeOf (.ref a)) cls := fun A Q E s k q => wpAny_typeOf_ref (k _ _ g1) (by rw [g2.1]; exact q)
  have told := PySem.W.exm_one (M := model X.prog X.w) now.kIn seen m
  have named : ∀ {Q E : Value → Shared → Prop}, Q c t → wpAny (model X.prog X.w) (X.A.mark (some (.ref a))) (eval (.Name x np) X.env) Q E t := fun {Q E} q => by
    obtain ⟨z1, z2, z3 | ⟨z3, z4, z5⟩⟩ := hc
    · exact ld_glob (X := X.suite a ((a, o) :: (X.pn ++ pins))) inside z1 z3 q z2
    · exact ld_blt (X := X.suite a ((a, o) :: (X.pn ++ pins))) inside z1 z3 z4 q z5 z2
  refine named (told.here ?_)
  cases b with
  | false =>
    show wpAny _ X.A (handleBy (.ref a) X.env hds) _ _ _
    exact hr _ _ _ _ _ _ _ _ _ _ dn (no rfl)
  | true =>
    refine codeAny_handlers_suite_as ?_
    refine HandSPX.lands_againZ dn.fly fun hp fl up => ?_
    have dn2 : Down X pins B a cls d σ H t0 { t with heap := hp } := ⟨dn.inv, dn.old, fl, dn.up.trans up, dn.fresh, dn.os, dn.bare⟩
    obtain ⟨o2, fv2, e1, e2, e3, e4, e5⟩ := dn2.apart hf
    refine store_ok (X := X.suite a ((a, o2) :: (X.pn ++ pins))) (v := .ref a) (dn2.now.suite e1 e3 dn.fresh e4 e5) hN hi (.inl hl) rfl (fun t5 I5 => ?_) (.inr hl)
    have leave : ∀ {σ6 : L2.St} {H6 : Hp} {t6 : Shared} {Q : Shared → Prop}, L2.Inv (X.suite a ((a, o2) :: (X.pn ++ pins))) [] σ6 H6 t6 → (∀ t7, L2.Inv X pins (σ6.set i none) H6 t7 → Q t7) →
        wpAny (model X.prog X.w) X.A (do bindName X.env n .none; unbindBehindTheSuite X.env n pos') (fun _ t7 => Q t7) X.xe t6 := fun I6 q => gone_ok (I6.unsuite ok) hN hi hl q
    refine wpAny_mono ((hsu a o2 cls d (X.pn ++ pins) e2 ⟨_, e3⟩).run [] t5 _ H _ I5 (yes rfl a dn.fresh)) (fun f t6 sp => ?_) fun _ _ z => False.elim z
    cases f with
    | ret u =>
      obtain ⟨v, σ6, H6, I6, rv, q⟩ := sp
      exact leave I6 fun t7 I7 => ⟨_, _, _, I7, rv, q⟩
    | next =>
      obtain ⟨σ6, H6, I6, q⟩ := sp
      exact leave I6 fun t7 I7 => ⟨_, _, I7, q⟩
    | brk =>
      obtain ⟨σ6, H6, I6, q⟩ := sp
      exact leave I6 fun t7 I7 => ⟨_, _, I7, q⟩
    | cont =>
      obtain ⟨σ6, H6, I6, q⟩ := sp
      exact leave I6 fun t7 I7 => ⟨_, _, I7, q⟩
theorem ps_tryC {body : List Stmt} {h₀ : ExceptHandler} {hds : List ExceptHandler} {pos : Pos} {tb : WX → TS} {w : Ends → WX} (hs : X.stack = X.env :: X.outer) (hf : X.env.frame = some X.env.locals)
    (hb : ∀ (W : WX) (pn : List (Addr × Obj)) (xe : Value → Shared → Prop), Takes (X.tr pn xe) W → PassesOwn (model X.prog X.w) X.A X.env xe → PSs (X.tr pn xe) body (tb W))
    (hh : Catches X (h₀ :: hds) w) : PS X (.Try body (h₀ :: hds) [] [] pos) fun D σ H => tb (w D) D σ H := by
  refine ⟨fun pins s σ H D I h => wpAny_Try_except ?_⟩
  have ok := I.ok
  have frames : X.A.frames = some (X.env :: X.outer) := by rw [ok.frames, hs]
  have caught : Takes (X.tr (X.pn ++ pins) fun e s₁ => wpAny (model X.prog X.w) X.A (noteFrame e X.env) (fun _ s₂ => wpAny (model X.prog X.w) X.A (setFlight e none) (fun _ s₃ => wpAny (model X.prog X.w) X.A (handleBy e X.env (h₀ :: hds)) (SP X pins D) X.xe s₃) X.xe s₂) X.xe s₁) (w D) := by
    rintro u t ⟨a, B, t0, pn', σ', H', cls, d, rfl, J, nb, up, sky, na, os, ag, hw⟩
    have sky' : Sky B (X.env :: X.outer) a (Zc cls d) X.env.locals t.heap := by rw [← hs]; exact sky
    show wpAny (model X.prog X.w) X.A (noteFrame (.ref a) X.env) _ _ _
    refine Sky.land Zc.steady frames hf sky' fun hp fl up3 => ?_
    exact hh _ _ _ _ _ _ _ _ _ _ ⟨J.ofTry ok, nb, fl, up.trans up3, na, os, ag⟩ hw
  refine wpAny_mono ((hb (w D) (X.pn ++ pins) _ caught PassesOwn.looking).run [] s σ H D (I.toTry _) h) (fun f t sp => ?_) fun _ _ z => z
  cases f with
  | ret u =>
    obtain ⟨v, σ', H', J, rv, q⟩ := sp
    exact ⟨v, σ', H', J.ofTry ok, rv, q⟩
  | next =>
    obtain ⟨σ', H', J, q⟩ := sp
    exact wpAny_execs_nil ⟨σ', H', J.ofTry ok, q⟩
  | brk =>
    obtain ⟨σ', H', J, q⟩ := sp
    exact ⟨σ', H', J.ofTry ok, q⟩
  | cont =>
    obtain ⟨σ', H', J, q⟩ := sp
    exact ⟨σ', H', J.ofTry ok, q⟩
end
end Me
end
section
set_option Elab.async false
set_option linter.all false
set_option maxRecDepth 100000
set_option maxHeartbeats 2000000
namespace Me
open PySem PySem.Spec L2
open PyProof.Rows hiding St
/-! ### classes of exceptions of the program, over ValueError -/
theorem oexB_ok {K : PySem.W.Frag} {C : Addr} (h : oexB K C = true) : OexC K C := by
  unfold oexB at h
  simp only [Bool.and_eq_true, decide_eq_true_eq] at h
  obtain ⟨h1, h2, h3, h4, h5⟩ := h
  refine ⟨?_, h2, h3, h4, h5⟩
  split at h1
  · rename_i dd z sl lk
    split at h1
    · rename_i q bm k0 k1 k2 k3 n k5 em es
      simp only [Bool.and_eq_true, decide_eq_true_eq, Bool.not_eq_true'] at h1
      obtain ⟨rfl, rfl, d1, d2, d3⟩ := h1
      obtain ⟨nm, bs, mro, ns, qn, hd, sn, sub, ab, col, del⟩ := z
      obtain ⟨ls⟩ := sl
      dsimp only at em d1 d2 es
      subst em d1 d2 es
      exact ⟨_, _, _, _, _, _, _, _, _, _, _, _, _, _, _, lk, d3⟩
    · cases h1
  · cases h1
/-- what a class's __init__ of one field does: the new exception keeps the value -/
def spI (K : PySem.W.Frag) (C : Addr) (f : Str) : Sp := fun vs H Q _ => ∃ (a : Addr) (v : V), vs = [.ref a, v] ∧ H a = some (exo a C none) ∧ ∀ dx, H dx = none → dx ≠ a → Q .non (upd (upd H dx (exd dx [(f, v)])) a (exo a C (some dx)))
abbrev CX0 : CXT := fun _ _ _ _ _ _ => False
theorem init_fn {P : Program} {w : World} {K : PySem.W.Frag} {mg : Str → Option Value} {base : Heap} {x qual : Str} {params : Arguments} {scope : Scope} {dvs : List V} {kws : List (Str × V)} {fI C : Addr} {fd : FuncData} {f : Str} {p1 p2 p3 p4 : Pos}
    (F : FunD K x qual params [.Assign [.Attribute (.Name "self" p1) f p2] (.Name f p3) p4] scope dvs kws fI fd) (Sc : FnScope ["self", f] ["self", f] scope) (T : OexC K C) (no : PySem.W.findIn K (.ref C) f = some none)
    (l1 : scope.names.lookup ("self" : Str) = some NameKind.local) (l2 : scope.names.lookup f = some NameKind.local) (d1 : (f == ("__debug__" : Str)) = false) (d2 : (f == ("__classdict__" : Str)) = false) : FnOk P w K mg base CX0 1 fI fd ["self", f] (spI K C f) := by
  obtain ⟨oc, od, dV, kV, doc, pm, an, cdv, ct, osl, rfl, lk, cd, _, _⟩ := F.ex
  refine fn_of lk cd Sc (fun vs H Q E ⟨a, v, e, _⟩ => by rw [e]; rfl) fun A outer s H vs Q E hr ⟨a, v, e, ha, hq⟩ => ?_
  subst e
  refine ⟨_, pss_one (ps_ost (pe_var (i := 0) rfl (Or.inl l1)) (pe_var (i := 1) rfl (Or.inl l2) d1 d2)), ?_⟩
  exact ⟨v, rfl, .ref a, rfl, a, C, rfl, T, no, .inl ⟨ha, hq⟩⟩
/-! ### raise -/
def sRaise (c f : Str) (x : M) : MS := fun r S => match x r S with
  | .ok d S1 => .exc ⟨c, [f], [d]⟩ r S1
  | .exc e S1 => .exc e r S1
  | .fail => .fail
theorem put_back {H1 : Hp} {a dx : Addr} {o1 o2 o3 o4 : HO} (ha : H1 a = none) (hne : dx ≠ a) : upd (del (upd (upd (upd H1 a o1) dx o2) a o3) a) dx o4 = upd H1 dx o4 := by
  funext b
  by_cases h1 : b = dx
  · subst h1
    simp [upd]
  · by_cases h2 : b = a
    · subst h2
      simp [upd, del, h1, ha]
    · simp [upd, del, h1, h2]
section
variable {X : Cx} {W : WX} {e : Expr} {x : M} {p pos pos' : Pos}
theorem mp_raise {cn f : Str} {C fI : Addr} {k : Nat} {fd : FuncData} (hc : X.calm = true) (tk : Takes X W) (T : OexC X.K C) (iC : PySem.W.findIn X.K (.ref C) "__init__" = some (some (.ref fI))) (tI : PySem.W.typeIn X.K (.ref fI) = some (.type "function"))
    (F : FnOk X.prog X.w X.K X.mg X.base CX0 k fI fd ["self", f] (spI X.K C f)) (hr : Room (k + 1) X.A) (hb : Binds X.K fd ["self", f] []) (hg : Gl X cn) (hm : X.mg cn = some (.ref C)) (he : ME X W e x)
    (hdb : (cn == ("__debug__" : Str)) = false := by decide) (hs : starEach [e] X.env = (false, eval e X.env) :: starEach [] X.env := by rfl) (hpl : (backTo pos (starEach ([] : List Expr) X.env)).any (·.1) = false := by rfl) :
    MP X W (.Raise (some (.Call (.Name cn p) [e] [] pos)) none pos') (sRaise cn f x) :=
  ps_imp (ps_raise hc tk (pmk_oex T iC tI F hr hb .nil (fun _ _ _ _ _ _ _ z => z.elim) hg hm (ma_cons he ma_nil hs) hdb hs hpl)) fun E σ H ⟨r, S, m, H0, henv, rl, hk⟩ => by
    refine ⟨r, S, m, H0, henv, rl, ?_⟩
    unfold sRaise at hk
    unfold aCons
    cases hx : x r S with
    | fail => simp only [hx] at hk; exact hk
    | exc e1 S1 => simp only [hx] at hk ⊢; exact fun c dd m' H0' H' ex rl' i => hk c dd σ m' H0' H' ex rl' (henv.mono ex.imm ex.pre) i
    | ok d S1 =>
      simp only [hx] at hk ⊢
      intro vs m' H0' H1 ex rl' i
      obtain ⟨u, vs', rfl, i1, i2⟩ := isl_cons.mp i
      obtain rfl := isl_nil.mp i2
      refine ⟨by simp, fun a ha => ⟨a, u, rfl, by simp [upd], fun dx hdx hne => ?_⟩⟩
      have hd1 : H1 dx = none := by
        simpa [upd, hne] using hdx
      refine ⟨rfl, dx, [(f, u)], by simp [upd], by simp [upd, hne], hd1, ?_⟩
      rw [put_back ha hne]
      exact hk _ _ σ m' H0' _ (ex.trans ((Ext.refl m' H0' H1).other hd1)) (rl'.beside hd1) (henv.mono ex.imm ex.pre) ⟨C, dx, [(f, u)], hm, rfl, rfl, by simp [upd], rfl, i⟩
end
end Me
end
section
set_option Elab.async false
set_option linter.all false
set_option maxRecDepth 100000
set_option maxHeartbeats 2000000
namespace Me
open PySem PySem.Spec L2
open PyProof.Rows hiding St
/-! ### isinstance, where the class is one of the object's own -/
open PySem.W in
theorem yes_ans {K : Frag} {x t c : Value} {P : Heap → Prop} (ty : ∀ (M : Model) (h : Heap), K.In h → P h → Looks M h (typeOf x) t) (e : kitOne K t c = some true) : Answers (fun s => K.In s.heap ∧ P s.heap) x c true := by
  rintro dep tk prog w A R ⟨hp, gs, dr, ts, os⟩ ⟨⟨kin, p⟩, k⟩
  have l1 := ty (model prog w) hp kin p
  unfold kitOne at e; unfold Builtin.«isinstance.nested»; refine wpAny_bind (l1.at ?_)
  by_cases q : (t == c) = true
  · rw [if_pos q]
    first
      | ((repeat lk); exact k ts)
      | exact wpAny_bind (wpAny_rule (k ts))
      | exact wpAny_bind (wpAny_rule (wpAny_pure (k ts)))
  · rw [if_neg q] at e
    rw [if_neg q]
    obtain ⟨c1, c2, c3⟩ := kit_cls (M := model prog w) kin e
    have l2 : Looks (model prog w) hp (isInstance x c) true := l1.andThen c3
    refine wpAny_bind (c1.at ?_); rw [if_pos (by decide)]
    k_delta "plainIsInstance"
    refine wpAny_bind (wpAny_bind (c2.at ?_)); simp only [Bool.not_true, Bool.false_eq_true, if_false]
    refine wpAny_bind (l2.at ?_)
    first
      | exact wpAny_pure (wpAny_pure (k ts))
      | (simp only [if_true]; first | exact wpAny_pure (wpAny_pure (k ts)) | exact wpAny_pure (k ts) | exact wpAny_bind (wpAny_pure (wpAny_pure (k ts))))
/-- isinstance(e, C) in a suite that holds e -/
def rYes (K : PySem.W.Frag) (cls : Value) (a : Addr) : List V → Hp → VK → Prop := fun xs H Q => ∃ (v : V) (c : Value), xs = [.ref a, v] ∧ (∀ u, RelV v u → u = c) ∧ PySem.W.kitOne K cls c = some true ∧ Q (.bl true) H
theorem call_yes {X : Cx} {a : Addr} {o : Obj} {cls : Value} {d : Option Addr} {pn : List (Addr × Obj)} (hz : Zc cls d o) : CallR (X.suite a ((a, o) :: pn)) (.builtin "isinstance") (rYes X.K cls a) := by
  rintro pins s σ H xs us Q I r ⟨v, c, rfl, hc, e, q⟩
  cases r with
  | cons r1 r2 =>
    cases r2 with
    | cons r3 r4 =>
      cases r4
      cases r1
      obtain rfl := hc _ r3
      obtain ⟨there, _⟩ := I.pin (a, o) (List.mem_append.mpr (.inl List.mem_cons_self))
      refine call_isinstance (S := fun _ R s => (X.K.In s.heap ∧ s.heap.get? a = some o) ∧ ∀ tk, R (.ok (.ret (.bool true))) { s with toks := tk }) (fun prog w A R s hs => isinstance_outer (yes_ans (P := fun h => h.get? a = some o) ?_ e 0 _ prog w A R s hs) (fun z => nomatch z)) ⟨⟨I.kIn, there⟩, fun tk => ⟨.bl true, H, I.kept (t' := tk) fun _ _ z => z, rfl, q⟩⟩
      intro M h _ g A Q E s k z
      exact wpAny_typeOf_ref (k _ _ g) (by rw [hz.1]; exact z)
end Me
end
section
set_option Elab.async false
set_option linter.all false
set_option maxRecDepth 100000
set_option maxHeartbeats 2000000
namespace Me
open PySem PySem.Spec L2
open PyProof.Rows hiding St
/-! ### what a clause returns: a list of texts and of the exception's fields -/
inductive It where
  | tx (z : Str)
  | fd (f : Str)
def It.val (e : Ex) : It → Option D
  | .tx z => some (.str z)
  | .fd f => look f e.ns e.ds
def hVals (e : Ex) : List It → Option (List D)
  | [] => some []
  | t :: ts => match t.val e, hVals e ts with
    | some d, some ds => some (d :: ds)
    | _, _ => none
def ItV (fs : List (Str × V)) : It → V → Prop
  | .tx z, v => v = .str z
  | .fd f, v => fs.lookup f = some v
/-- an item's value, where the slot i holds the exception at a -/
def tIt (i : Nat) (a C : Addr) (cls : Value) (d : Option Addr) (t : It) : TE := fun σ H Q => σ[i]? = some (some (.ref a)) ∧ cls = .ref C ∧ ∃ (dd : Addr) (fs : List (Str × V)) (v : V), d = some dd ∧ H dd = some (.xd fs) ∧ ItV fs t v ∧ Q v H
def ItVs (fs : List (Str × V)) : List It → List V → Prop
  | [], vs => vs = []
  | t :: ts, vs => ∃ v r, vs = v :: r ∧ ItV fs t v ∧ ItVs fs ts r
def tIts (i : Nat) (a C : Addr) (cls : Value) (d : Option Addr) (ts : List It) : TA := fun σ H Q => σ[i]? = some (some (.ref a)) ∧ cls = .ref C ∧ ∃ (dd : Addr) (fs : List (Str × V)) (vs : List V), d = some dd ∧ H dd = some (.xd fs) ∧ ItVs fs ts vs ∧ Q vs H
section
variable {X : Cx} {i : Nat} {a C : Addr} {cls : Value} {d : Option Addr} {o : Obj} {pn : List (Addr × Obj)} {e : Expr} {es : List Expr} {t : It} {ts : List It} {G : Gc}
theorem its_nil : PA X [] (tIts i a C cls d []) := pa_imp pa_nil fun σ H Q ⟨_, _, dd, fs, vs, _, _, h, q⟩ => by
  obtain rfl : vs = [] := h
  exact q
theorem its_cons (he : PE X e (tIt i a C cls d t)) (hr : PA X es (tIts i a C cls d ts)) (hs : starEach (e :: es) X.env = (false, eval e X.env) :: starEach es X.env := by rfl) : PA X (e :: es) (tIts i a C cls d (t :: ts)) :=
  pa_imp (pa_cons he hr hs) fun σ H Q ⟨h1, h2, dd, fs, vs, h3, h4, ⟨v, r, h5, h6, h7⟩, q⟩ => by
    subst h5
    exact ⟨h1, h2, dd, fs, v, h3, h4, h6, h1, h2, dd, fs, r, h3, h4, h7, q⟩
theorem it_fd {n f : Str} {p pos : Pos} (T : XfC X.K C) (no : PySem.W.findIn X.K (.ref C) f = some none) (hz : Zc cls d o) (hf : ∃ vs, o.data = .fields vs) (he : PE (X.suite a ((a, o) :: pn)) (.Name n p) (tVar i)) (hb : attributeBase (.Name n p) f X.env (eval (.Name n p) X.env) = eval (.Name n p) X.env := by rfl) :
    PE (X.suite a ((a, o) :: pn)) (.Attribute (.Name n p) f pos) (tIt i a C cls d (.fd f)) :=
  pe_imp (pe_xf T no hz hf he hb) fun σ H Q ⟨h1, h2, dd, fs, v, h3, h4, h5, q⟩ => ⟨.ref a, h1, rfl, h2, dd, fs, v, h3, h4, h5, q⟩
theorem it_str {z : Str} {j pos} : PE X (.Constant (.str z) j pos) (tIt i a C cls d (.tx z)) := pe_imp pe_str fun σ H Q ⟨_, _, dd, fs, v, _, _, h, q⟩ => by
  obtain rfl : v = .str z := h
  exact q
theorem it_if {n cn z z' : Str} {B : Addr} {p1 p2 p3 p4 p5 p6 p7 : Pos} {j j' : Nat} (hz : Zc cls d o) (g : Gl X "isinstance") (gm : X.mg "isinstance" = none) (gc : Gl X cn) (cm : X.mg cn = some (.ref B)) (cd : (cn == ("__debug__" : Str)) = false) (yes : PySem.W.kitOne X.K (.ref C) (.ref B) = some true)
    (he : PE (X.suite a ((a, o) :: pn)) (.Name n p2) (tVar i)) (h1 : starEach [.Name n p2, .Name cn p3] X.env = (false, eval (.Name n p2) X.env) :: starEach [.Name cn p3] X.env := by rfl) (h2 : starEach [.Name cn p3] X.env = (false, eval (.Name cn p3) X.env) :: starEach [] X.env := by rfl)
    (h3 : (backTo p4 (starEach [.Name cn p3] X.env)).any (·.1) = false := by rfl) :
    PE (X.suite a ((a, o) :: pn)) (.IfExp (.Call (.Name "isinstance" p1) [.Name n p2, .Name cn p3] [] p4) (.Constant (.str z) j p5) (.Constant (.str z') j' p6) p7) (tIt i a C cls d (.tx z)) :=
  pe_imp (pe_ifExp (pt_val (pe_callB (call_yes hz) g gm rfl (pa_cons he (pa_cons (pe_glob (X := X.suite a ((a, o) :: pn)) (v := .ref B) gc cm rfl cd) pa_nil h2) h1) (by decide) (by decide) h1 h3)) pe_str pe_str) fun σ H Q ⟨q1, q2, dd, fs, v, _, _, q3, q4⟩ => by
    obtain rfl : v = .str z := q3
    subst q2
    refine ⟨.ref a, q1, ?_⟩
    exact ⟨.ref B, .ref B, rfl, fun u h => h, yes, true, rfl, q4⟩
/-- what the clause's suite is read as -/
def tHd (G : Gc) (i : Nat) (C : Addr) (ts : List It) : Addr → Value → Option Addr → TS := fun a cls d E σ H => ∃ (e : Ex) (S : List Cel) (m : List Addr) (H0 : Hp), Rl G m S H0 H ∧ ExIs G H0 m H e cls d ∧ σ[i]? = some (some (.ref a)) ∧ cls = .ref C ∧
  match hVals e ts with
  | some ds => ds.length ≤ sizeLine ∧ ∀ v m' H0' H', Ext m H0 H m' H0' H' → Rl G m' S H0' H' → Is G H0' m' (.lst ds) v → E.rt v H'
  | none => False
theorem hvals_ok {H0 : Hp} {m : List Addr} {e : Ex} {fs : List (Str × V)} (hn : fs.map (·.1) = e.ns) (hi : IsL G H0 m e.ds (fs.map (·.2))) : ∀ {ts : List It} {ds : List D}, hVals e ts = some ds → ∃ vs, ItVs fs ts vs ∧ IsL G H0 m ds vs
  | [], ds, h => by
    cases h
    exact ⟨[], rfl, isl_nil.mpr rfl⟩
  | t :: ts, ds, h => by
    unfold hVals at h
    cases e1 : t.val e with
    | none => rw [e1] at h; cases h
    | some d =>
      cases e2 : hVals e ts with
      | none => rw [e1, e2] at h; cases h
      | some ds' =>
        rw [e1, e2] at h
        cases h
        obtain ⟨vs, h1, h2⟩ := hvals_ok hn hi e2
        cases t with
        | tx z =>
          cases e1
          exact ⟨.str z :: vs, ⟨_, _, rfl, rfl, h1⟩, isl_cons.mpr ⟨_, _, rfl, is_str.mpr rfl, h2⟩⟩
        | fd f =>
          obtain ⟨v, h3, h4⟩ := look_ok hn hi e1
          exact ⟨v :: vs, ⟨_, _, rfl, h3, h1⟩, isl_cons.mpr ⟨_, _, rfl, h4, h2⟩⟩
theorem suite_ok {p pos : Pos} (h : PA X es (tIts i a C cls d ts)) (hg : gX X = G) : PSs X [.Return (some (.List es p)) pos] (tHd G i C ts a cls d) :=
  pss_one (ps_imp (ps_ret (pe_lst h)) fun E σ H ⟨e, S, m, H0, rl, ⟨C', dd, fs, h1, h2, h3, h4, h5, h6⟩, hs, hc, hv⟩ => by
    cases ev : hVals e ts with
    | none => rw [ev] at hv; exact hv.elim
    | some ds =>
      rw [ev] at hv
      obtain ⟨vs, i1, i2⟩ := hvals_ok h5 h6 ev
      refine ⟨hs, hc, dd, fs, vs, h3, h4, i1, by rw [← i2.len]; exact hv.1, fun p hp => ?_⟩
      exact kt_lst (G := G) (W := fun _ _ _ _ => False) (σ := σ) (S := S) (Q := E.rt) hv.2 rl i2 hp)
end
end Me
end
section
set_option Elab.async false
set_option linter.all false
set_option maxRecDepth 100000
set_option maxHeartbeats 2000000
namespace Me
open PySem PySem.Spec L2
open PyProof.Rows hiding St
/-! ### try -/
def pickC : List (Str × List It) → Ex → Rho → List Cel → SR
  | [], e, r, S => .exc e r S
  | (c, ts) :: l, e, r, S => if e.c = c then (match hVals e ts with
    | some ds => if ds.length ≤ sizeLine then .rt (.lst ds) S else .fail
    | none => .fail) else pickC l e r S
/-- ok: the classes that may come out of the body; i: the clauses' name -/
def sTry (i : Nat) (ok : List Str) (l : List (Str × List It)) (b : MS) : MS := fun r S => match b r S with
  | .exc e r1 S1 => if e.c ∈ ok ∧ i < r1.length then pickC l e r1 S1 else .fail
  | x => x
structure Cl where
  c : Str
  C : Addr
  ts : List It
def wPick (X : Cx) (W : WX) (i : Nat) : List Cl → Ends → WX
  | [] => fun _ => W
  | q :: l => wClause X.K (.ref q.C) i (tHd (gX X) i q.C q.ts) (wPick X W i l)
section
variable {X : Cx} {W : WX} {i : Nat} {ok : List Str}
/-- which class is caught by which clause -/
structure ClsOk (X : Cx) (ok : List Str) (l : List Cl) : Prop where
  at_ : ∀ q ∈ l, X.mg q.c = some (.ref q.C)
  exm : ∀ q ∈ l, ∀ x ∈ ok, ∀ C, X.mg x = some (.ref C) → PySem.W.exmOne X.K (.ref C) (.ref q.C) = some (decide (x = q.c))
theorem pick_ok {e : Ex} {r : Rho} {S : List Cel} {m : List Addr} {H0 H : Hp} {D : Ends} {σ : L2.St} {cls : Value} {dd : Option Addr} (rl : Rl (gX X) m S H0 H) (env : EnvR (gX X) H0 m r σ) (ei : ExIs (gX X) H0 m H e cls dd) (he : e.c ∈ ok) (hi : i < σ.length) :
    ∀ {l : List Cl}, ClsOk X ok l → KtS (gX X) W m H0 H (pickC (l.map fun q => (q.c, q.ts)) e r S) D → wPick X W i l D cls dd σ H
  | [], _, hk => hk cls dd σ m H0 H (Ext.refl _ _ _) rl env ei
  | q :: l, hl, hk => by
    obtain ⟨C, d, fs, h1, h2, h3, h4, h5, h6⟩ := id ei
    refine ⟨decide (e.c = q.c), by rw [h2]; exact hl.exm q List.mem_cons_self _ he _ h1, fun yes a ha => ?_, fun no => ?_⟩
    · have ec : e.c = q.c := of_decide_eq_true yes
      have eC : C = q.C := by
        have z := hl.at_ q List.mem_cons_self
        rw [← ec] at z
        have z2 : X.mg e.c = some (.ref C) := h1
        rw [z2] at z
        cases z
        rfl
      simp only [List.map_cons, pickC, if_pos ec] at hk
      refine ⟨e, S, m, H0, rl, ei, by rw [List.getElem?_set]; simp [hi], by rw [h2, eC], ?_⟩
      cases ev : hVals e q.ts with
      | none => rw [ev] at hk; exact hk.elim
      | some ds =>
        rw [ev] at hk
        by_cases hn : ds.length ≤ sizeLine
        · simp only [if_pos hn] at hk
          exact ⟨hn, hk⟩
        · simp only [if_neg hn] at hk
          exact hk.elim
    · have ec : ¬e.c = q.c := of_decide_eq_false no
      simp only [List.map_cons, pickC, if_neg ec] at hk
      exact pick_ok rl env ei he hi ⟨fun z hz => hl.at_ z (List.mem_cons_of_mem _ hz), fun z hz => hl.exm z (List.mem_cons_of_mem _ hz)⟩ hk
theorem mp_try {body : List Stmt} {h₀ : ExceptHandler} {hds : List ExceptHandler} {pos : Pos} {l : List Cl} {b : MS} (hs : X.stack = X.env :: X.outer) (hf : X.env.frame = some X.env.locals) (hl : ClsOk X ok l) (hh : Catches X (h₀ :: hds) (wPick X W i l))
    (hb : ∀ (W' : WX) (pn : List (Addr × Obj)) (xe : Value → Shared → Prop), Takes (X.tr pn xe) W' → PassesOwn (model X.prog X.w) X.A X.env xe → MPs (X.tr pn xe) W' body b) :
    MP X W (.Try body (h₀ :: hds) [] [] pos) (sTry i ok (l.map fun q => (q.c, q.ts)) b) :=
  ps_imp (ps_tryC hs hf (tb := fun W' => tMS (gX X) W' b) hb hh) fun E σ H ⟨r, S, m, H0, env, rl, hk⟩ => by
    refine ⟨r, S, m, H0, env, rl, ?_⟩
    unfold sTry at hk
    cases hbr : b r S with
    | fail => rw [hbr] at hk; exact hk
    | nx _ _ => rw [hbr] at hk; exact hk
    | rt _ _ => rw [hbr] at hk; exact hk
    | bk _ _ => rw [hbr] at hk; exact hk
    | ct _ _ => rw [hbr] at hk; exact hk
    | exc e r1 S1 =>
      rw [hbr] at hk
      by_cases hc : e.c ∈ ok ∧ i < r1.length
      · simp only [if_pos hc] at hk
        exact fun cls dd σ' m' H0' H' ex rl' env' ei => pick_ok rl' env' ei hc.1 (by rw [← env'.1]; exact hc.2) hl (KtS.later ex hk)
      · simp only [if_neg hc] at hk
        exact hk.elim
/-- a clause `except C as n: return [..]` -/
theorem catch_ret {n x : Str} {np p pos pos' : Pos} {es : List Expr} {hds : List ExceptHandler} {q : Cl} {w : Ends → WX} (hf : X.env.frame = some X.env.locals) (hN : X.N.Nodup) (hi : X.N[i]? = some n) (hl : X.env.kindOf n = some .local) (hc : Names X x (.ref q.C))
    (h : ∀ (a : Addr) (o : Obj) (cls : Value) (d : Option Addr) (pn : List (Addr × Obj)), Zc cls d o → (∃ vs, o.data = .fields vs) → PA (X.suite a ((a, o) :: pn)) es (tIts i a q.C cls d q.ts)) (hr : Catches X hds w) :
    Catches X (.ExceptHandler (some (.Name x np)) (some n) [.Return (some (.List es p)) pos] pos' :: hds) (wClause X.K (.ref q.C) i (tHd (gX X) i q.C q.ts) w) :=
  catches_as hf hN hi hl hc (fun a o cls d pn hz hfl => suite_ok (h a o cls d pn hz hfl) rfl) hr
end
end Me
end
section
set_option Elab.async false
set_option linter.all false
set_option maxRecDepth 100000
set_option maxHeartbeats 2000000
namespace Me
open PySem PySem.Spec L2
open PyProof.Rows hiding St
/-! ### what the head must find of the exceptions: classes of one field each, over a class of the program -/
structure ExOk (K : PySem.W.Frag) (q : ExF) : Prop where
  ns : PySem.W.nsIn K mainGlobals q.c = some (some (.ref (He.ga K q.c)))
  ox : OexC K (He.ga K q.c)
  xf : XfC K (He.ga K q.c)
  no : PySem.W.findIn K (.ref (He.ga K q.c)) q.f = some none
  ini : PySem.W.findIn K (.ref (He.ga K q.c)) "__init__" = some (some (.ref (He.ma K (He.ga K q.c) "__init__")))
  fn : PySem.W.typeIn K (.ref (He.ma K (He.ga K q.c) "__init__")) = some (.type "function")
section
variable {K : PySem.W.Frag} {qs : List ExF} {base : Str} {q : ExF}
theorem excB_ok (h : excB K qs base = true) (hq : q ∈ qs) : ExOk K q := by
  have z := List.all_eq_true.mp h q hq
  rw [Bool.and_eq_true] at z
  have z1 := z.1
  unfold exfB at z1
  simp only [Bool.and_eq_true, decide_eq_true_eq] at z1
  obtain ⟨a1, a2, a3, a4, a5, a6⟩ := z1
  exact ⟨a1, oexB_ok a2, xfB_ok a3, a4, a5, a6⟩
theorem excB_kit (h : excB K qs base = true) (hq : q ∈ qs) : PySem.W.kitOne K (.ref (He.ga K q.c)) (.ref (He.ga K base)) = some true := by
  have z := List.all_eq_true.mp h q hq
  simp only [Bool.and_eq_true, decide_eq_true_eq] at z
  exact z.2.1
theorem excB_exm (h : excB K qs base = true) (hq : q ∈ qs) {p : ExF} (hp : p ∈ qs) : PySem.W.exmOne K (.ref (He.ga K q.c)) (.ref (He.ga K p.c)) = some (decide (q.c = p.c)) := by
  have z := List.all_eq_true.mp h q hq
  simp only [Bool.and_eq_true, decide_eq_true_eq] at z
  exact of_decide_eq_true (List.all_eq_true.mp z.2.2 p hp)
/-- the clauses of a try -/
theorem cls_of {X : Cx} {h : Heap} (kin : X.K.In h) (ns : h.Ns mainGlobals X.mg) (hx : excB X.K qs base = true) {ok : List Str} {l : List Cl} (h1 : ∀ x ∈ ok, ∃ q ∈ qs, q.c = x) (h2 : ∀ z ∈ l, ∃ q ∈ qs, q.c = z.c ∧ z.C = He.ga X.K q.c) : ClsOk X ok l where
  at_ := fun z hz => by
    obtain ⟨q, hq, e1, e2⟩ := h2 z hz
    rw [← e1, e2]
    exact PySem.W.mg_of kin ns (excB_ok hx hq).ns
  exm := fun z hz x hxo C hC => by
    obtain ⟨q, hq, e1, e2⟩ := h2 z hz
    obtain ⟨p, hp, rfl⟩ := h1 x hxo
    have e3 : X.mg p.c = some (.ref (He.ga X.K p.c)) := PySem.W.mg_of kin ns (excB_ok hx hp).ns
    rw [e3] at hC
    cases hC
    rw [e2, ← e1]
    exact excB_exm hx hp hq
end
end Me
end
section
set_option Elab.async false
set_option linter.all false
set_option maxRecDepth 100000
set_option maxHeartbeats 2000000
namespace Me
open PySem PySem.Spec L2
open PyProof.Rows hiding St
/-! ### isinstance of an object of the program, by its own class -/
theorem insB_ok {K : PySem.W.Frag} {C : Addr} (c : Cls K C) (h : insB K C = true) : C8.InsC K C := by
  unfold insB at h
  simp only [Bool.and_eq_true, decide_eq_true_eq] at h
  obtain ⟨h1, h2, h3, h4, h5⟩ := h
  exact ⟨c, h1, h2, h3, h4, h5⟩
def eIsC (c : Str) (x : M) : M := eB x fun d _ S => match d with
  | .obj c' _ _ => if c' = c then .ok (.bl true) S else .fail
  | _ => .fail
section
variable {X : Cx} {W : WX} {e : Expr} {x : M} {p pos p1 : Pos}
theorem me_isC {cn : Str} {C : Addr} (ic : C8.InsC X.K C) (hg : Gl X "isinstance") (hm : X.mg "isinstance" = none) (hg1 : Gl X cn) (hm1 : X.mg cn = some (.ref C)) (he : ME X W e x) (hd : (cn == ("__debug__" : Str)) = false := by decide)
    (hs1 : starEach [e, .Name cn p1] X.env = (false, eval e X.env) :: starEach [.Name cn p1] X.env := by rfl) (hs2 : starEach [.Name cn p1] X.env = (false, eval (.Name cn p1) X.env) :: starEach [] X.env := by rfl)
    (hpl : (backTo pos (starEach [.Name cn p1] X.env)).any (·.1) = false := by rfl) : ME X W (.Call (.Name "isinstance" p) [e, .Name cn p1] [] pos) (eIsC cn x) :=
  pe_imp (pe_callB (C8.call_isC ic) hg hm PyProof.Rows.boot_isinstance (pa_cons he (pa_cons (pe_glob (v := .ref C) hg1 hm1 rfl hd) pa_nil hs2) hs1) (by decide) (by decide) hs1 hpl) fun σ H Q h => tm_mono (tm_b h) fun v H1 ⟨d, r, S, m, H0, he, rl, i, k⟩ => by
    cases d with
    | obj c' ns ds =>
      by_cases hc : c' = cn
      · simp only [if_pos hc] at k
        obtain ⟨a, C', dx, fs, rfl, h1, h2, h3, h4⟩ := is_obj.mp i
        have e1 : X.mg cn = some (.ref C') := by rw [← hc]; exact h1
        rw [hm1] at e1
        cases e1
        exact ⟨a, dx, fs, rfl, rl.sub _ _ h2, kt_ok k rl (is_bl.mpr rfl)⟩
      · simp only [if_neg hc] at k
        exact k.elim
    | _ => exact k.elim
end
end Me
end
section
set_option Elab.async false
set_option linter.all false
set_option maxRecDepth 100000
namespace Me
open PySem PySem.Spec L2
open PyProof.Rows hiding St

/-! ### what a mirror tells where exceptions may fly: goes well, and behind it P; or an exception, and behind it E -/
def OkR {α : Type} (x : R α) (P : α → List Cel → Prop) (E : Ex → List Cel → Prop) : Prop := match x with
  | .ok a S => P a S
  | .exc e S => E e S
  | .fail => False
def OkX (x : SR) (N : Rho → List Cel → Prop) (T : D → List Cel → Prop) (E : Ex → Rho → List Cel → Prop) : Prop := match x with
  | .nx r S => N r S
  | .rt d S => T d S
  | .exc e r S => E e r S
  | _ => False
section
variable {α β : Type} {r : Rho} {S : List Cel} {x y z : M} {l k : ML} {t u : MB} {a b : MS} {N : Rho → List Cel → Prop} {T : D → List Cel → Prop} {d : D} {E : Ex → List Cel → Prop} {EX : Ex → Rho → List Cel → Prop} {P : D → List Cel → Prop} {PL : List D → List Cel → Prop}
theorem okr_of {x : R α} {P : α → List Cel → Prop} (h : Ok x P) : OkR x P E := by
  cases x with
  | ok a S => exact h
  | _ => exact h.elim
theorem okx_of {x : SR} (h : OkS x N T) : OkX x N T EX := by
  cases x with
  | nx r S => exact h
  | rt d S => exact h
  | _ => exact h.elim
theorem OkR.imp {x : R α} {P P' : α → List Cel → Prop} {E E' : Ex → List Cel → Prop} (h : OkR x P E) (w : ∀ a S, P a S → P' a S) (w' : ∀ e S, E e S → E' e S) : OkR x P' E' := by
  cases x with
  | ok a S => exact w a S h
  | exc e S => exact w' e S h
  | fail => exact h
/-- none flies -/
theorem ok_ofR {x : R α} {P : α → List Cel → Prop} (h : OkR x P fun _ _ => False) : Ok x P := by
  cases x with
  | ok a S => exact h
  | _ => exact h.elim
theorem okr_ok {a : α} {P : α → List Cel → Prop} : OkR (.ok a S) P E = P a S := rfl
theorem okr_bind {x : R α} {f : α → List Cel → R β} {P : β → List Cel → Prop} : OkR (x.bind f) P E = OkR x (fun a S => OkR (f a S) P E) E := by cases x <;> rfl
theorem okr_ite {c : Prop} [Decidable c] {x y : R α} {P : α → List Cel → Prop} : OkR (if c then x else y) P E = if c then OkR x P E else OkR y P E := by split <;> rfl
theorem okr_c : OkR (eC d r S) P E = P d S := rfl
theorem okr_var {i : Nat} : OkR (eVar i r S) P E = match r[i]? with
  | some (some d) => P d S
  | _ => False := by
  unfold eVar
  cases r[i]? with
  | none => rfl
  | some o => cases o <;> rfl
theorem okr_anil : OkR (aNil r S) PL E = PL [] S := rfl
theorem okr_acons : OkR (aCons x l r S) PL E = OkR (x r S) (fun d S1 => OkR (l r S1) (fun ds S2 => PL (d :: ds) S2) E) E := by
  unfold aCons
  rw [okr_bind]
  congr 1
  funext d S1
  rw [okr_bind]
  rfl
theorem okr_lst : OkR (eLst l r S) P E = OkR (l r S) (fun ds S1 => ds.length ≤ sizeLine ∧ P (.lst ds) S1) E := by
  unfold eLst
  rw [okr_bind]
  congr 1
  funext d S1
  rw [okr_ite]
  by_cases h : d.length ≤ sizeLine
  · simp [h, okr_ok]
  · simp only [h, if_false, false_and]
    rfl
theorem okr_tup : OkR (eTup l r S) P E = OkR (l r S) (fun ds S1 => ds.length ≤ sizeLine ∧ P (.tup ds) S1) E := by
  unfold eTup
  rw [okr_bind]
  congr 1
  funext d S1
  rw [okr_ite]
  by_cases h : d.length ≤ sizeLine
  · simp [h, okr_ok]
  · simp only [h, if_false, false_and]
    rfl
theorem okr_call {cm : CM} {n : Nat} {F : DF} {gD : List D → List D → List D} : OkR (eCall cm n F gD l k r S) P E = OkR (l r S) (fun ds S1 => OkR (k r S1) (fun es S2 => (gD ds es).length = n ∧ OkR (cm F (gD ds es) S2) P E) E) E := by
  unfold eCall
  rw [okr_bind]
  congr 1
  funext d S1
  rw [okr_bind]
  congr 1
  funext d2 S2
  rw [okr_ite]
  by_cases h : (gD d d2).length = n
  · simp [h]
  · simp only [h, if_false, false_and]
    rfl
theorem okr_callT {F : DF} {ds : List D} : OkR (callT F ds S) P E = OkR (F ds S) P E := rfl
theorem ok_callT {F : DF} {ds : List D} : Ok (callT F ds S) P = Ok (F ds S) P := rfl
theorem okr_run {Ns : List Str} {B : MS} {ds : List D} : OkR (runF Ns B ds S) P E = OkX (B (stD Ns ds) S) (fun _ S1 => P .non S1) P (fun e _ S1 => E e S1) := by
  unfold runF
  cases B (stD Ns ds) S <;> rfl
theorem okx_seq : OkX (sSeq a b r S) N T EX = OkX (a r S) (fun r1 S1 => OkX (b r1 S1) N T EX) T EX := by
  unfold sSeq
  cases a r S <;> rfl
theorem okx_nx : OkX (sNx r S) N T EX = N r S := rfl
theorem okx_ret : OkX (sRet x r S) N T EX = OkR (x r S) T (fun e S1 => EX e r S1) := by
  unfold sRet
  cases x r S <;> rfl
theorem okx_if : OkX (sIf t a b r S) N T EX = OkR (t r S) (fun c S1 => if c = true then OkX (a r S1) N T EX else OkX (b r S1) N T EX) (fun e S1 => EX e r S1) := by
  unfold sIf
  cases t r S with
  | ok c S1 => cases c <;> rfl
  | _ => rfl
theorem okx_set {i : Nat} : OkX (sSet i x r S) N T EX = OkR (x r S) (fun d S1 => N (r.set i (some d)) S1) (fun e S1 => EX e r S1) := by
  unfold sSet
  cases x r S <;> rfl
theorem okx_drop : OkX (sDrop x r S) N T EX = OkR (x r S) (fun _ S1 => N r S1) (fun e S1 => EX e r S1) := by
  unfold sDrop
  cases x r S <;> rfl
theorem okx_raise {c f : Str} : OkX (sRaise c f x r S) N T EX = OkR (x r S) (fun d S1 => EX ⟨c, [f], [d]⟩ r S1) (fun e S1 => EX e r S1) := by
  unfold sRaise
  cases x r S <;> rfl
theorem oks_try {i : Nat} {ok : List Str} {cl : List (Str × List It)} {b : MS} : OkS (sTry i ok cl b r S) N T = OkX (b r S) N T (fun e r1 S1 => (e.c ∈ ok ∧ i < r1.length) ∧ OkS (pickC cl e r1 S1) N T) := by
  unfold sTry
  cases b r S with
  | exc e r1 S1 =>
    show OkS (if e.c ∈ ok ∧ i < r1.length then pickC cl e r1 S1 else .fail) N T = _
    by_cases h : e.c ∈ ok ∧ i < r1.length
    · simp only [if_pos h, OkX]
      exact propext ⟨fun q => ⟨h, q⟩, fun q => q.2⟩
    · simp only [if_neg h, OkX]
      exact propext ⟨fun q => q.elim, fun q => absurd q.1 h⟩
  | _ => rfl
theorem ok_isC {c : Str} {x : M} : Ok (eIsC c x r S) P = Ok (x r S) fun d S1 => match d with
  | .obj c' _ _ => c' = c ∧ P (.bl true) S1
  | _ => False := by
  unfold eIsC
  rw [ok_eb]
  congr 1
  funext d S1
  cases d with
  | obj c' ns ds =>
    by_cases h : c' = c
    · simp only [h, if_true, true_and]
      rfl
    · simp only [h, if_false, false_and]
      rfl
  | _ => rfl
end
end Me
end
section
set_option Elab.async false
set_option linter.all false
set_option maxRecDepth 100000
set_option maxHeartbeats 4000000
namespace K05
open PySem PySem.Spec L2 Me
open PyProof.Rows hiding St
def N_u_law_box : List PySem.Str := ["great"]
noncomputable def B_u_law_box : MS :=
  (sRet (eCel (aCons (eFn (f1 pAbs) (aCons (eVar 0) aNil)) (aCons (eBin oGe (eFn (f1 pAbs) (aCons (eVar 0) aNil)) (eBin oPow (eC (.int 10)) (eC (.int 18)))) (aCons (eBin oMod (eFn (f1 pInt) (aCons (eFn (f1 pAbs) (aCons (eVar 0) aNil)) aNil)) (eC (.int 2147483629))) (aCons (eC (.int 0)) aNil))))))
noncomputable def F_u_law_box : DF := runF N_u_law_box B_u_law_box
def N_u_law_cell : List PySem.Str := ["script", "k"]
noncomputable def B_u_law_cell : MS :=
  (sRet (eIf (toB (eBin oLt (eVar 1) (eFn (f1 pLen) (aCons (eVar 0) aNil)))) (eBin pIx (eVar 0) (eVar 1)) (eBin pAdd (eBin pMul (eC (.int 6007)) (eVar 1)) (eBin oMod (eFn (f1 pSumA) (aCons (eSl (eVar 0) oNo (oSo (eC (.int 1)))) aNil)) (eC (.int 1000033))))))
noncomputable def F_u_law_cell : DF := runF N_u_law_cell B_u_law_cell
def N_is_integer : List PySem.Str := ["value"]
noncomputable def B_is_integer : MS :=
  (sRet (eAnd (eIs "int" (eVar 0)) (eNot (eIs "bool" (eVar 0)))))
noncomputable def F_is_integer : DF := runF N_is_integer B_is_integer
def N_is_count : List PySem.Str := ["value"]
noncomputable def B_is_count : MS :=
  (sRet (eAnd (eCall callP 1 F_is_integer posn (aCons (eVar 0) aNil) aNil) (eBin oGe (eVar 0) (eC (.int 0)))))
noncomputable def F_is_count : DF := runF N_is_count B_is_count
def N_is_index : List PySem.Str := ["value", "size"]
noncomputable def B_is_index : MS :=
  (sRet (eAnd (eCall callP 1 F_is_count posn (aCons (eVar 0) aNil) aNil) (eBin oLt (eVar 0) (eVar 1))))
noncomputable def F_is_index : DF := runF N_is_index B_is_index
def N_is_tuple_of : List PySem.Str := ["value", "size"]
noncomputable def B_is_tuple_of : MS :=
  (sRet (eAnd (eIs "tuple" (eVar 0)) (eBin (pEqA false) (eFn (f1 pLen) (aCons (eVar 0) aNil)) (eVar 1))))
noncomputable def F_is_tuple_of : DF := runF N_is_tuple_of B_is_tuple_of
def N_u_is_end : List PySem.Str := ["nodes", "value"]
noncomputable def B_u_is_end : MS :=
  (sRet (eAnd (eCall callP 2 F_is_tuple_of posn (aCons (eVar 1) (aCons (eC (.int 2)) aNil)) aNil) (eAnd (eCall callP 2 F_is_index posn (aCons (eBin pIx (eVar 1) (eC (.int 0))) (aCons (eVar 0) aNil)) aNil) (eIs "bool" (eBin pIx (eVar 1) (eC (.int 1)))))))
noncomputable def F_u_is_end : DF := runF N_u_is_end B_u_is_end
def N_is_ascending : List PySem.Str := ["row", "one", "other"]
noncomputable def B_is_ascending : MS :=
  (sRet (eFn (f1 pAll) (aCons (eLc asLst (iZipD (aCons (eVar 0) (aCons (eSl (eVar 0) (oSo (eC (.int 1))) oNo) aNil))) [1, 2] (gT 2 (gK (gN 1) (gK (gN 2) gZ))) bYes (eBin oLt (eVar 1) (eVar 2))) aNil)))
noncomputable def F_is_ascending : DF := runF N_is_ascending B_is_ascending
def N_u_is_task : List PySem.Str := ["nodes", "value", "most_ends", "end", "node", "_"]
noncomputable def B_u_is_task : MS :=
  (sSeq (sIf (bOr (bNot (toB (eIs "tuple" (eVar 1)))) (bNot (toB (eCh (fun i j => decide (i ≤ j)) (fun i j => decide (i ≤ j)) (eC (.int 1)) (eFn (f1 pLen) (aCons (eVar 1) aNil)) (eVar 2)))))
  (sRet (eC (.bl false)))
  sNx)
  (sRet (eAnd (eFn (f1 pAll) (aCons (eLc asLst (iSeq (eVar 1)) [3] (gN 3) bYes (eCall callP 2 F_u_is_end posn (aCons (eVar 0) (aCons (eVar 3) aNil)) aNil)) aNil)) (eCall callP 1 F_is_ascending posn (aCons (eLc asLst (iSeq (eVar 1)) [4, 5] (gT 2 (gK (gN 4) (gK (gN 5) gZ))) bYes (eVar 4)) aNil) aNil))))
noncomputable def F_u_is_task : DF := runF N_u_is_task B_u_is_task
def N_is_row : List PySem.Str := ["value"]
noncomputable def B_is_row : MS :=
  (sRet (eIs2 "list" "tuple" (eVar 0)))
noncomputable def F_is_row : DF := runF N_is_row B_is_row
def N_are_tasks : List PySem.Str := ["nodes", "value", "most", "most_ends", "task"]
noncomputable def B_are_tasks : MS :=
  (sSeq (sIf (bOr (bNot (toB (eCall callP 1 F_is_row posn (aCons (eVar 1) aNil) aNil))) (toB (eBin oGt (eFn (f1 pLen) (aCons (eVar 1) aNil)) (eVar 2))))
  (sRet (eC (.bl false)))
  sNx)
  (sRet (eFn (f1 pAll) (aCons (eLc asLst (iSeq (eVar 1)) [4] (gN 4) bYes (eCall callP 3 F_u_is_task posn (aCons (eVar 0) (aCons (eVar 4) (aCons (eVar 3) aNil))) aNil)) aNil))))
noncomputable def F_are_tasks : DF := runF N_are_tasks B_are_tasks
def N_is_from_to : List PySem.Str := ["value", "least", "most"]
noncomputable def B_is_from_to : MS :=
  (sRet (eAnd (eCall callP 1 F_is_integer posn (aCons (eVar 0) aNil) aNil) (eCh (fun i j => decide (i ≤ j)) (fun i j => decide (i ≤ j)) (eVar 1) (eVar 0) (eVar 2))))
noncomputable def F_is_from_to : DF := runF N_is_from_to B_is_from_to
def N_marks_of : List PySem.Str := ["tasks", "node", "at", "task", "end", "minds"]
noncomputable def B_marks_of : MS :=
  (sRet (eLc2 asLst (iEnu (eVar 0)) [2, 3, 4, 5] (gT 2 (gK (gN 2) (gK (gN 3) gZ))) bYes (iSeq (eVar 3)) [4, 5] (gT 2 (gK (gN 4) (gK (gN 5) gZ))) (toB (eBin (pEqA false) (eVar 4) (eVar 1))) (eTup (aCons (eVar 2) (aCons (eVar 5) aNil)))))
noncomputable def F_marks_of : DF := runF N_marks_of B_marks_of
def N_Net___init__ : List PySem.Str := ["self", "nodes", "tasks", "task", "node", "end"]
noncomputable def B_Net___init__ : MS :=
  (sSeq (sIf (bNot (toB (eCall callP 3 F_is_from_to posn (aCons (eVar 1) (aCons (eC (.int 1)) (aCons (eC (.int 24)) aNil))) aNil)))
  sNo
  sNx)
  (sSeq (sIf (bNot (toB (eCall callP 4 F_are_tasks posn (aCons (eVar 1) (aCons (eVar 2) (aCons (eC (.int 100)) (aCons (eC (.int 2)) aNil)))) aNil)))
  sNo
  sNx)
  (sSeq (sFldD "Net" "nodes" (eVar 0) (eVar 1))
  (sSeq (sFldD "Net" "tasks" (eVar 0) (eFn (f1 pTuple) (aCons (eVar 2) aNil)))
  (sSeq (sFldD "Net" "_ends" (eVar 0) (eFn (f1 pTuple) (aCons (eLc asLst (iSeq (eFld "Net" "tasks" (eVar 0))) [3] (gN 3) bYes (eFn (f1 pTuple) (aCons (eLc asLst (iSeq (eVar 3)) [5] (gN 5) bYes (eBin pIx (eVar 5) (eC (.int 0)))) aNil))) aNil)))
  (sFldD "Net" "_marks" (eVar 0) (eFn (f1 pTuple) (aCons (eLc asLst (iRng1 (eVar 1)) [4] (gN 4) bYes (eFn (f1 pTuple) (aCons (eCall callP 2 F_marks_of posn (aCons (eFld "Net" "tasks" (eVar 0)) (aCons (eVar 4) aNil)) aNil) aNil))) aNil))))))))
noncomputable def F_Net___init__ : DF := runF N_Net___init__ B_Net___init__
def N_Net___len__ : List PySem.Str := ["self"]
noncomputable def B_Net___len__ : MS :=
  (sRet (eFn (f1 pLen) (aCons (eFld "Net" "tasks" (eVar 0)) aNil)))
noncomputable def F_Net___len__ : DF := runF N_Net___len__ B_Net___len__
def N_check_task : List PySem.Str := ["net", "task"]
noncomputable def B_check_task : MS :=
  (sIf (bNot (toB (eCall callP 2 F_is_index posn (aCons (eVar 1) (aCons (eFn (f1 pLen) (aCons (eFld "Net" "tasks" (eVar 0)) aNil)) aNil)) aNil)))
  sNo
  sNx)
noncomputable def F_check_task : DF := runF N_check_task B_check_task
def N_Net_ends : List PySem.Str := ["self", "task"]
noncomputable def B_Net_ends : MS :=
  (sSeq (sDrop (eCall callP 2 F_check_task posn (aCons (eVar 0) (aCons (eVar 1) aNil)) aNil))
  (sRet (eBin pIx (eFld "Net" "_ends" (eVar 0)) (eVar 1))))
noncomputable def F_Net_ends : DF := runF N_Net_ends B_Net_ends
def N_u_is_last : List PySem.Str := ["net", "node", "value"]
noncomputable def B_u_is_last : MS :=
  (sRet (eOr (eBin (pIsN false) (eVar 2) (eC .non)) (eAnd (eCall callP 2 F_is_index posn (aCons (eVar 2) (aCons (eLenO "Net" F_Net___len__ (eVar 0)) aNil)) aNil) (eBin (pIn false) (eVar 1) (eMeth "Net" "ends" callP 2 F_Net_ends posn (eVar 0) (aCons (eVar 2) aNil) aNil)))))
noncomputable def F_u_is_last : DF := runF N_u_is_last B_u_is_last
def N_is_lasts : List PySem.Str := ["net", "value", "node", "item"]
noncomputable def B_is_lasts : MS :=
  (sSeq (sIf (bOr (bNot (toB (eCall callP 1 F_is_row posn (aCons (eVar 1) aNil) aNil))) (toB (eBin (pEqA true) (eFn (f1 pLen) (aCons (eVar 1) aNil)) (eFld "Net" "nodes" (eVar 0)))))
  (sRet (eC (.bl false)))
  sNx)
  (sRet (eFn (f1 pAll) (aCons (eLc asLst (iEnu (eVar 1)) [2, 3] (gT 2 (gK (gN 2) (gK (gN 3) gZ))) bYes (eCall callP 3 F_u_is_last posn (aCons (eVar 0) (aCons (eVar 2) (aCons (eVar 3) aNil))) aNil)) aNil))))
noncomputable def F_is_lasts : DF := runF N_is_lasts B_is_lasts
def N_check_lasts : List PySem.Str := ["net", "lasts"]
noncomputable def B_check_lasts : MS :=
  (sIf (bNot (toB (eCall callP 2 F_is_lasts posn (aCons (eVar 0) (aCons (eVar 1) aNil)) aNil)))
  sNo
  sNx)
noncomputable def F_check_lasts : DF := runF N_check_lasts B_check_lasts
def N_is_load : List PySem.Str := ["net", "value", "item"]
noncomputable def B_is_load : MS :=
  (sSeq (sIf (bOr (bNot (toB (eCall callP 1 F_is_row posn (aCons (eVar 1) aNil) aNil))) (toB (eBin (pEqA true) (eFn (f1 pLen) (aCons (eVar 1) aNil)) (eLenO "Net" F_Net___len__ (eVar 0)))))
  (sRet (eC (.bl false)))
  sNx)
  (sRet (eFn (f1 pAll) (aCons (eLc asLst (iSeq (eVar 1)) [2] (gN 2) bYes (eCall callP 1 F_is_count posn (aCons (eVar 2) aNil) aNil)) aNil))))
noncomputable def F_is_load : DF := runF N_is_load B_is_load
def N_check_load : List PySem.Str := ["net", "load"]
noncomputable def B_check_load : MS :=
  (sIf (bNot (toB (eCall callP 2 F_is_load posn (aCons (eVar 0) (aCons (eVar 1) aNil)) aNil)))
  sNo
  sNx)
noncomputable def F_check_load : DF := runF N_check_load B_check_load
def N_State___init__ : List PySem.Str := ["self", "net", "load", "lasts"]
noncomputable def B_State___init__ : MS :=
  (sSeq (sDrop (eCall callP 2 F_check_load posn (aCons (eVar 1) (aCons (eVar 2) aNil)) aNil))
  (sSeq (sIf (toB (eBin (pIsN true) (eVar 3) (eC .non)))
  (sDrop (eCall callP 2 F_check_lasts posn (aCons (eVar 1) (aCons (eVar 3) aNil)) aNil))
  sNx)
  (sSeq (sFldD "State" "net" (eVar 0) (eVar 1))
  (sSeq (sFldD "State" "load" (eVar 0) (eFn (f1 pTuple) (aCons (eVar 2) aNil)))
  (sFldD "State" "lasts" (eVar 0) (eIf (toB (eBin (pIsN false) (eVar 3) (eC .non))) (eBin pMulT (eTup (aCons (eC .non) aNil)) (eFld "Net" "nodes" (eVar 1))) (eFn (f1 pTuple) (aCons (eVar 3) aNil))))))))
noncomputable def F_State___init__ : DF := runF N_State___init__ B_State___init__
def N_u_law_bars : List PySem.Str := ["world", "lasts", "task", "node", "minds"]
noncomputable def B_u_law_bars : MS :=
  (sRet (eLc asLst (iSeq (eBin pIx (eBin pIx (eVar 0) (eC (.int 1))) (eVar 2))) [3, 4] (gT 2 (gK (gN 3) (gK (gN 4) gZ))) (bAnd (toB (eVar 4)) (toB (eBin (pEqA false) (eBin pIx (eVar 1) (eVar 3)) (eVar 2)))) (eVar 3)))
noncomputable def F_u_law_bars : DF := runF N_u_law_bars B_u_law_bars
def N_u_law_at : List PySem.Str := ["world", "node", "k", "end", "minds"]
noncomputable def B_u_law_at : MS :=
  (sSeq (sIf (toB (eBin oGt (eFn (f1 pLen) (aCons (eVar 0) aNil)) (eC (.int 2))))
  (sRet (eBin pIx (eBin pIx (eVar 0) (eC (.int 2))) (eVar 1)))
  sNx)
  (sRet (eLc asLst (iRng1 (eFn (f1 pLen) (aCons (eBin pIx (eVar 0) (eC (.int 1))) aNil))) [2] (gN 2) (toB (eBin (pIn false) (eVar 1) (eLc asLst (iSeq (eBin pIx (eBin pIx (eVar 0) (eC (.int 1))) (eVar 2))) [3, 4] (gT 2 (gK (gN 3) (gK (gN 4) gZ))) bYes (eVar 3)))) (eVar 2))))
noncomputable def F_u_law_at : DF := runF N_u_law_at B_u_law_at
def N_u_law_known : List PySem.Str := ["world", "node"]
noncomputable def B_u_law_known : MS :=
  (sRet (eLst (aCons (eBin pIx (eVar 0) (eC (.int 0))) (aCons (eBin pIx (eVar 0) (eC (.int 1))) (aCons (eLc asLst (iRng1 (eBin pIx (eVar 0) (eC (.int 0)))) [1] (gN 1) bYes (eCall callP 2 F_u_law_at posn (aCons (eVar 0) (aCons (eVar 1) aNil)) aNil)) aNil)))))
noncomputable def F_u_law_known : DF := runF N_u_law_known B_u_law_known
def N_u_law_take : List PySem.Str := ["box", "many", "mixed", "digit"]
noncomputable def B_u_law_take : MS :=
  (sSeq (sIf (bAnd (toB (eBin pIx (eVar 0) (eC (.int 1)))) (toB (eBin oGt (eBin pIx (eVar 0) (eC (.int 0))) (eC (.int 0)))))
  (sSeq (sSet 3 (eBin oMod (eFn (f1 pInt) (aCons (eBin pIx (eVar 0) (eC (.int 0))) aNil)) (eVar 1)))
  (sSeq (sItem (eVar 0) (eC (.int 0)) (eBin oDiv (eBin pIx (eVar 0) (eC (.int 0))) (eVar 1)))
  (sRet (eVar 3))))
  sNx)
  (sSeq (sItem (eVar 0) (eC (.int 3)) (eBin pAdd (eBin pIx (eVar 0) (eC (.int 3))) (eC (.int 1))))
  (sSeq (sSet 2 (eBin oMod (eFn (f1 pInt) (aCons (eBin oPow (eBin pAdd (eBin pAdd (eBin pIx (eVar 0) (eC (.int 2))) (eBin pMul (eC (.int 15485863)) (eBin pIx (eVar 0) (eC (.int 3))))) (eC (.int 179424673))) (eC (.int 5))) aNil)) (eC (.int 2147483647))))
  (sRet (eBin oMod (eBin oDiv (eBin oMod (eFn (f1 pInt) (aCons (eBin oPow (eBin pAdd (eBin pMul (eVar 2) (eC (.int 48271))) (eBin pMul (eC (.int 104729)) (eBin pIx (eVar 0) (eC (.int 3))))) (eC (.int 3))) aNil)) (eC (.int 2147483587))) (eC (.int 64))) (eVar 1))))))
noncomputable def F_u_law_take : DF := runF N_u_law_take B_u_law_take
def N_u_law_large : List PySem.Str := ["box", "menu", "nodes", "many", "tasks", "load", "k", "world", "lasts", "node", "ends", "near", "end"]
noncomputable def B_u_law_large : MS :=
  (sSeq (sAsg (eTup (aCons (eBin oSub (eC (.int 24)) (eCall callB 2 F_u_law_take posn (aCons (eVar 0) (aCons (eC (.int 18)) aNil)) aNil)) (aCons (eBin oSub (eC (.int 100)) (eCall callB 2 F_u_law_take posn (aCons (eVar 0) (aCons (eC (.int 92)) aNil)) aNil)) (aCons (eCel aNil) (aCons (eCel aNil) aNil))))) (gT 4 (gK (gN 2) (gK (gN 3) (gK (gN 4) (gK (gN 5) gZ))))))
  (sSeq (sFor (iRng1 (eVar 3)) (gN 6)
  (sSeq (sSet 10 (eSset (eLst (aCons (eCall callB 2 F_u_law_take posn (aCons (eVar 0) (aCons (eVar 2) aNil)) aNil) (aCons (eCall callB 2 F_u_law_take posn (aCons (eVar 0) (aCons (eVar 2) aNil)) aNil) aNil)))))
  (sSeq (sDrop (eMut fApp (eVar 4) (aCons (eFn (f1 pTuple) (aCons (eLc asLst (iSeq (eVar 10)) [12] (gN 12) bYes (eTup (aCons (eVar 12) (aCons (eBin oGt (eCall callB 2 F_u_law_take posn (aCons (eVar 0) (aCons (eC (.int 6)) aNil)) aNil) (eC (.int 0))) aNil)))) aNil)) aNil)))
  (sDrop (eMut fApp (eVar 5) (aCons (eBin pIx (eVar 1) (eCall callB 2 F_u_law_take posn (aCons (eVar 0) (aCons (eFn (f1 pLen) (aCons (eVar 1) aNil)) aNil)) aNil)) aNil))))))
  (sFrz 4 (sSeq (sSet 7 (eCall callP 1 F_u_law_known posn (aCons (eLst (aCons (eVar 2) (aCons (eVar 4) aNil))) aNil) aNil))
  (sSeq (sSet 8 (eCel aNil))
  (sSeq (sFor (iRng1 (eVar 2)) (gN 9)
  (sSeq (sSet 11 (eCall callP 2 F_u_law_at posn (aCons (eVar 7) (aCons (eVar 9) aNil)) aNil))
  (sDrop (eMut fApp (eVar 8) (aCons (eIf (bOr (toB (eBin (pEqA false) (eVar 11) (eLst aNil))) (toB (eBin (pEqA false) (eCall callB 2 F_u_law_take posn (aCons (eVar 0) (aCons (eC (.int 3)) aNil)) aNil) (eC (.int 0))))) (eC .non) (eBin pIx (eVar 11) (eCall callB 2 F_u_law_take posn (aCons (eVar 0) (aCons (eFn (f2 pMax) (aCons (eC (.int 1)) (aCons (eFn (f1 pLen) (aCons (eVar 11) aNil)) aNil))) aNil)) aNil))) aNil)))))
  (sRet (eLst (aCons (eVar 7) (aCons (eFn (f1 pTuple) (aCons (eVar 5) aNil)) (aCons (eFn (f1 pTuple) (aCons (eVar 8) aNil)) aNil)))))))))))
noncomputable def F_u_law_large : DF := runF N_u_law_large B_u_law_large
def N_u_law_legal : List PySem.Str := ["world", "load", "lasts", "k"]
noncomputable def B_u_law_legal : MS :=
  (sRet (eLc asLst (iRng1 (eFn (f1 pLen) (aCons (eVar 1) aNil))) [3] (gN 3) (bAnd (toB (eBin oGt (eBin pIx (eVar 1) (eVar 3)) (eC (.int 0)))) (toB (eBin (pEqA false) (eCall callP 3 F_u_law_bars posn (aCons (eVar 0) (aCons (eVar 2) (aCons (eVar 3) aNil))) aNil) (eLst aNil)))) (eVar 3)))
noncomputable def F_u_law_legal : DF := runF N_u_law_legal B_u_law_legal
def N_u_law_listed : List PySem.Str := ["told", "due"]
noncomputable def B_u_law_listed : MS :=
  (sSeq (sIf (bOr (bNot (toB (eIs "list" (eVar 0)))) (toB (eBin (pEqA true) (eFn (f1 pRepr) (aCons (eVar 0) aNil)) (eFn (f1 pRepr) (aCons (eVar 1) aNil)))))
  (sRet (eC (.bl false)))
  sNx)
  (sSeq (sDrop (eMut fApp (eVar 0) (aCons (eC .non) aNil)))
  (sRet (eC (.bl true)))))
noncomputable def F_u_law_listed : DF := runF N_u_law_listed B_u_law_listed
def N_u_law_is_state : List PySem.Str := ["told", "world", "load", "lasts"]
noncomputable def B_u_law_is_state : MS :=
  (sSeq (sIf (bOr (bNot (toB (eIsC "State" (eVar 0)))) (bOr (toB (eBin (pEqA true) (eFld "Net" "nodes" (eFld "State" "net" (eVar 0))) (eBin pIx (eVar 1) (eC (.int 0))))) (toB (eBin (pEqA true) (eFld "Net" "tasks" (eFld "State" "net" (eVar 0))) (eFn (f1 pTuple) (aCons (eBin pIx (eVar 1) (eC (.int 1))) aNil))))))
  (sRet (eC (.bl false)))
  sNx)
  (sRet (eAnd (eBin (pEqA false) (eFn (f1 pRepr) (aCons (eFld "State" "load" (eVar 0)) aNil)) (eFn (f1 pRepr) (aCons (eVar 2) aNil))) (eBin (pEqA false) (eFn (f1 pRepr) (aCons (eFld "State" "lasts" (eVar 0)) aNil)) (eFn (f1 pRepr) (aCons (eVar 3) aNil))))))
noncomputable def F_u_law_is_state : DF := runF N_u_law_is_state B_u_law_is_state
def N_Barred___init__ : List PySem.Str := ["self", "nodes"]
noncomputable def B_Barred___init__ : MS :=
  (sFldD "Barred" "nodes" (eVar 0) (eVar 1))
noncomputable def F_Barred___init__ : DF := runF N_Barred___init__ B_Barred___init__
def N_NothingLeft___init__ : List PySem.Str := ["self", "task"]
noncomputable def B_NothingLeft___init__ : MS :=
  (sFldD "NothingLeft" "task" (eVar 0) (eVar 1))
noncomputable def F_NothingLeft___init__ : DF := runF N_NothingLeft___init__ B_NothingLeft___init__
def N_bars_vc : List PySem.Str := ["state", "task", "node", "minds"]
noncomputable def B_bars_vc : MS :=
  (sSeq (sDrop (eCall callP 2 F_check_task posn (aCons (eFld "State" "net" (eVar 0)) (aCons (eVar 1) aNil)) aNil))
  (sRet (eLc asCel (iSeq (eBin pIx (eFld "Net" "tasks" (eFld "State" "net" (eVar 0))) (eVar 1))) [2, 3] (gT 2 (gK (gN 2) (gK (gN 3) gZ))) (bAnd (toB (eVar 3)) (toB (eBin (pEqA false) (eBin pIx (eFld "State" "lasts" (eVar 0)) (eVar 2)) (eVar 1)))) (eVar 2))))
noncomputable def F_bars_vc : DF := runF N_bars_vc B_bars_vc
def N_run_vt : List PySem.Str := ["state", "task", "nodes", "load", "lasts", "node"]
noncomputable def B_run_vt : MS :=
  (sSeq (sDrop (eCall callP 2 F_check_task posn (aCons (eFld "State" "net" (eVar 0)) (aCons (eVar 1) aNil)) aNil))
  (sSeq (sIf (toB (eBin (pEqA false) (eBin pIx (eFld "State" "load" (eVar 0)) (eVar 1)) (eC (.int 0))))
  (sRaise "NothingLeft" "task" (eVar 1))
  sNx)
  (sSeq (sSet 2 (eCall callF 2 F_bars_vc posn (aCons (eVar 0) (aCons (eVar 1) aNil)) aNil))
  (sSeq (sIf (truL (eVar 2))
  (sRaise "Barred" "nodes" (eVar 2))
  sNx)
  (sSeq (sSet 3 (eFn (f1 pListC) (aCons (eFld "State" "load" (eVar 0)) aNil)))
  (sSeq (sAugC true 3 1 1)
  (sSeq (sSet 4 (eFn (f1 pListC) (aCons (eFld "State" "lasts" (eVar 0)) aNil)))
  (sSeq (sFor (iSeq (eMeth "Net" "ends" callP 2 F_Net_ends posn (eFld "State" "net" (eVar 0)) (aCons (eVar 1) aNil) aNil)) (gN 5)
  (sItem (eVar 4) (eVar 5) (eVar 1)))
  (sFrz 3 (sFrz 4 (sRet (eNew "State" 3 F_State___init__ posn (aCons (eFld "State" "net" (eVar 0)) (aCons (eVar 3) (aCons (eVar 4) aNil))) aNil))))))))))))
noncomputable def F_run_vt : DF := runF N_run_vt B_run_vt
def N_u_law_met : List PySem.Str := ["here", "task", "e"]
noncomputable def B_u_law_met : MS :=
  (sTry 2 ["NothingLeft", "Barred"] [("NothingLeft", [.tx "nothing", .fd "task"]), ("Barred", [.tx "barred", .fd "nodes"])]
  (sRet (eLst (aCons (eC (.str "ran")) (aCons (eCall callT 2 F_run_vt posn (aCons (eVar 0) (aCons (eVar 1) aNil)) aNil) aNil)))))
noncomputable def F_u_law_met : DF := runF N_u_law_met B_u_law_met
def N_u_law_ran : List PySem.Str := ["world", "load", "lasts", "task", "less", "ends", "k", "node", "minds"]
noncomputable def B_u_law_ran : MS :=
  (sSeq (sSet 4 (eLc asLst (iRng1 (eFn (f1 pLen) (aCons (eVar 1) aNil))) [6] (gN 6) bYes (eBin oSub (eBin pIx (eVar 1) (eVar 6)) (eFn (f1 pInt) (aCons (eBin (pEqA false) (eVar 6) (eVar 3)) aNil)))))
  (sSeq (sSet 5 (eLc asLst (iSeq (eBin pIx (eBin pIx (eVar 0) (eC (.int 1))) (eVar 3))) [7, 8] (gT 2 (gK (gN 7) (gK (gN 8) gZ))) bYes (eVar 7)))
  (sRet (eTup (aCons (eFn (f1 pTuple) (aCons (eVar 4) aNil)) (aCons (eFn (f1 pTuple) (aCons (eLc asLst (iRng1 (eBin pIx (eVar 0) (eC (.int 0)))) [7] (gN 7) bYes (eIf (toB (eBin (pIn false) (eVar 7) (eVar 5))) (eVar 3) (eBin pIx (eVar 2) (eVar 7)))) aNil)) aNil))))))
noncomputable def F_u_law_ran : DF := runF N_u_law_ran B_u_law_ran
def N_u_law_run_right : List PySem.Str := ["world", "here", "load", "lasts", "task", "nodes", "met", "behind"]
noncomputable def B_u_law_run_right : MS :=
  (sSeq (sPar [5, 6] (aCons (eCall callP 3 F_u_law_bars posn (aCons (eVar 0) (aCons (eVar 3) (aCons (eVar 4) aNil))) aNil) (aCons (eCall callT 2 F_u_law_met posn (aCons (eVar 1) (aCons (eVar 4) aNil)) aNil) aNil)))
  (sSeq (sIf (toB (eBin (pEqA false) (eBin pIx (eVar 2) (eVar 4)) (eC (.int 0))))
  (sRet (eBin (pEqA false) (eFn (f1 pRepr) (aCons (eVar 6) aNil)) (eFn (f1 pRepr) (aCons (eLst (aCons (eC (.str "nothing")) (aCons (eVar 4) aNil))) aNil))))
  sNx)
  (sSeq (sIf (toB (eBin (pEqA true) (eVar 5) (eLst aNil)))
  (sRet (eAnd (eBin (pEqA false) (eBin pIx (eVar 6) (eC (.int 0))) (eC (.str "barred"))) (eCall callB 2 F_u_law_listed posn (aCons (eBin pIx (eVar 6) (eC (.int 1))) (aCons (eVar 5) aNil)) aNil)))
  sNx)
  (sSeq (sSet 7 (eCall callP 4 F_u_law_ran posn (aCons (eVar 0) (aCons (eVar 2) (aCons (eVar 3) (aCons (eVar 4) aNil)))) aNil))
  (sRet (eAnd (eBin (pEqA false) (eBin pIx (eVar 6) (eC (.int 0))) (eC (.str "ran"))) (eCall callP 4 F_u_law_is_state posn (aCons (eBin pIx (eVar 6) (eC (.int 1))) (aCons (eVar 0) (aCons (eBin pIx (eVar 7) (eC (.int 0))) (aCons (eBin pIx (eVar 7) (eC (.int 1))) aNil)))) aNil)))))))
noncomputable def F_u_law_run_right : DF := runF N_u_law_run_right B_u_law_run_right
def N_bars : List PySem.Str := ["state", "task", "node", "minds"]
noncomputable def B_bars : MS :=
  (sSeq (sDrop (eCall callP 2 F_check_task posn (aCons (eFld "State" "net" (eVar 0)) (aCons (eVar 1) aNil)) aNil))
  (sRet (eLc asLst (iSeq (eBin pIx (eFld "Net" "tasks" (eFld "State" "net" (eVar 0))) (eVar 1))) [2, 3] (gT 2 (gK (gN 2) (gK (gN 3) gZ))) (bAnd (toB (eVar 3)) (toB (eBin (pEqA false) (eBin pIx (eFld "State" "lasts" (eVar 0)) (eVar 2)) (eVar 1)))) (eVar 2))))
noncomputable def F_bars : DF := runF N_bars B_bars
def N_can_run : List PySem.Str := ["state", "task"]
noncomputable def B_can_run : MS :=
  (sRet (eAnd (eBin oGt (eBin pIx (eFld "State" "load" (eVar 0)) (eVar 1)) (eC (.int 0))) (eBin (pEqA false) (eCall callP 2 F_bars posn (aCons (eVar 0) (aCons (eVar 1) aNil)) aNil) (eLst aNil))))
noncomputable def F_can_run : DF := runF N_can_run B_can_run
def N_legal_vc : List PySem.Str := ["state", "task"]
noncomputable def B_legal_vc : MS :=
  (sRet (eLc asCel (iRng1 (eLenO "Net" F_Net___len__ (eFld "State" "net" (eVar 0)))) [1] (gN 1) (toB (eCall callP 2 F_can_run posn (aCons (eVar 0) (aCons (eVar 1) aNil)) aNil)) (eVar 1)))
noncomputable def F_legal_vc : DF := runF N_legal_vc B_legal_vc
def N_u_law_large_right : List PySem.Str := ["box", "world", "load", "lasts", "here", "task"]
noncomputable def B_u_law_large_right : MS :=
  (sSeq (sAsg (eCall callB 2 F_u_law_large posn (aCons (eVar 0) (aCons (eLst (aCons (eC (.int 0)) (aCons (eC (.int 1)) (aCons (eC (.int 2)) aNil)))) aNil)) aNil) (gU 3 (gK (gN 1) (gK (gN 2) (gK (gN 3) gZ)))))
  (sSeq (sSet 4 (eNew "State" 3 F_State___init__ posn (aCons (eNew "Net" 2 F_Net___init__ posn (aCons (eBin pIx (eVar 1) (eC (.int 0))) (aCons (eFn (f1 pList) (aCons (eBin pIx (eVar 1) (eC (.int 1))) aNil)) aNil)) aNil) (aCons (eFn (f1 pList) (aCons (eVar 2) aNil)) (aCons (eFn (f1 pList) (aCons (eVar 3) aNil)) aNil))) aNil))
  (sSeq (sIf (bNot (toB (eCall callB 2 F_u_law_listed posn (aCons (eCall callF 1 F_legal_vc posn (aCons (eVar 4) aNil) aNil) (aCons (eCall callP 3 F_u_law_legal posn (aCons (eVar 1) (aCons (eVar 2) (aCons (eVar 3) aNil))) aNil) aNil)) aNil)))
  (sRet (eC (.bl false)))
  sNx)
  (sSeq (sFor (iSeq (eLst (aCons (eBin oSub (eFn (f1 pLen) (aCons (eVar 2) aNil)) (eC (.int 1))) (aCons (eCall callB 2 F_u_law_take posn (aCons (eVar 0) (aCons (eFn (f1 pLen) (aCons (eVar 2) aNil)) aNil)) aNil) (aCons (eCall callB 2 F_u_law_take posn (aCons (eVar 0) (aCons (eFn (f1 pLen) (aCons (eVar 2) aNil)) aNil)) aNil) aNil))))) (gN 5)
  (sSeq (sIf (bNot (toB (eCall callB 2 F_u_law_listed posn (aCons (eCall callF 2 F_bars_vc posn (aCons (eVar 4) (aCons (eVar 5) aNil)) aNil) (aCons (eCall callP 3 F_u_law_bars posn (aCons (eVar 1) (aCons (eVar 3) (aCons (eVar 5) aNil))) aNil) aNil)) aNil)))
  (sRet (eC (.bl false)))
  sNx)
  (sIf (bNot (toB (eCall callP 5 F_u_law_run_right posn (aCons (eVar 1) (aCons (eVar 4) (aCons (eVar 2) (aCons (eVar 3) (aCons (eVar 5) aNil))))) aNil)))
  (sRet (eC (.bl false)))
  sNx)))
  (sRet (eC (.bl true)))))))
noncomputable def F_u_law_large_right : DF := runF N_u_law_large_right B_u_law_large_right
def N_u_law_past : List PySem.Str := ["box", "world", "many", "lasts", "turn", "free", "node", "k"]
noncomputable def B_u_law_past : MS :=
  (sSeq (sSet 3 (eFn (f1 pTuple) (aCons (eLc asLst (iRng1 (eBin pIx (eVar 1) (eC (.int 0)))) [6] (gN 6) bYes (eC .non)) aNil)))
  (sSeq (sFor (iRng1 (eVar 2)) (gN 4)
  (sSeq (sSet 5 (eLc asLst (iRng1 (eFn (f1 pLen) (aCons (eBin pIx (eVar 1) (eC (.int 1))) aNil))) [7] (gN 7) (toB (eBin (pEqA false) (eCall callP 3 F_u_law_bars posn (aCons (eVar 1) (aCons (eVar 3) (aCons (eVar 7) aNil))) aNil) (eLst aNil))) (eVar 7)))
  (sIf (toB (eBin (pEqA true) (eVar 5) (eLst aNil)))
  (sSet 3 (eBin pIx (eCall callP 4 F_u_law_ran posn (aCons (eVar 1) (aCons (eBin pMul (eLst (aCons (eC (.int 1)) aNil)) (eFn (f1 pLen) (aCons (eBin pIx (eVar 1) (eC (.int 1))) aNil))) (aCons (eVar 3) (aCons (eBin pIx (eVar 5) (eCall callB 2 F_u_law_take posn (aCons (eVar 0) (aCons (eFn (f1 pLen) (aCons (eVar 5) aNil)) aNil)) aNil)) aNil)))) aNil) (eC (.int 1))))
  sNx)))
  (sRet (eVar 3))))
noncomputable def F_u_law_past : DF := runF N_u_law_past B_u_law_past
def N_u_law_lasts : List PySem.Str := ["box", "world", "found", "node", "menu"]
noncomputable def B_u_law_lasts : MS :=
  (sSeq (sIf (toB (eBin (pEqA false) (eCall callB 2 F_u_law_take posn (aCons (eVar 0) (aCons (eC (.int 2)) aNil)) aNil) (eC (.int 0))))
  (sRet (eCall callB 3 F_u_law_past posn (aCons (eVar 0) (aCons (eVar 1) (aCons (eBin pAdd (eC (.int 1)) (eCall callB 2 F_u_law_take posn (aCons (eVar 0) (aCons (eC (.int 6)) aNil)) aNil)) aNil))) aNil))
  sNx)
  (sSeq (sSet 2 (eCel aNil))
  (sSeq (sFor (iRng1 (eBin pIx (eVar 1) (eC (.int 0)))) (gN 3)
  (sSeq (sSet 4 (eCall callP 2 F_u_law_at posn (aCons (eVar 1) (aCons (eVar 3) aNil)) aNil))
  (sDrop (eMut fApp (eVar 2) (aCons (eIf (bOr (toB (eBin (pEqA false) (eVar 4) (eLst aNil))) (toB (eBin (pEqA false) (eCall callB 2 F_u_law_take posn (aCons (eVar 0) (aCons (eC (.int 4)) aNil)) aNil) (eC (.int 0))))) (eC .non) (eBin pIx (eVar 4) (eCall callB 2 F_u_law_take posn (aCons (eVar 0) (aCons (eFn (f2 pMax) (aCons (eC (.int 1)) (aCons (eFn (f1 pLen) (aCons (eVar 4) aNil)) aNil))) aNil)) aNil))) aNil)))))
  (sRet (eFn (f1 pTuple) (aCons (eVar 2) aNil))))))
noncomputable def F_u_law_lasts : DF := runF N_u_law_lasts B_u_law_lasts
def N_u_law_load : List PySem.Str := ["box", "world", "great", "found", "k"]
noncomputable def B_u_law_load : MS :=
  (sSeq (sPar [2, 3] (aCons (eCall callB 2 F_u_law_take posn (aCons (eVar 0) (aCons (eC (.int 4)) aNil)) aNil) (aCons (eCel aNil) aNil)))
  (sSeq (sFor (iRng1 (eFn (f1 pLen) (aCons (eBin pIx (eVar 1) (eC (.int 1))) aNil))) (gN 4)
  (sDrop (eMut fApp (eVar 3) (aCons (eBin pIx (eLst (aCons (eC (.int 1)) (aCons (eC (.int 0)) (aCons (eC (.int 2)) (aCons (eC (.int 40)) (aCons (eC (.int 700)) (aCons (eC (.int 0)) aNil))))))) (eCall callB 2 F_u_law_take posn (aCons (eVar 0) (aCons (eC (.int 6)) aNil)) aNil)) aNil))))
  (sSeq (sIf (bAnd (toB (eBin (pEqA false) (eVar 2) (eC (.int 0)))) (toB (eBin (pEqA true) (eVar 3) (eLst aNil))))
  (sItem (eVar 3) (eCall callB 2 F_u_law_take posn (aCons (eVar 0) (aCons (eFn (f1 pLen) (aCons (eVar 3) aNil)) aNil)) aNil) (eBin pAdd (eBin oPow (eC (.int 10)) (eC (.int 19))) (eCall callB 2 F_u_law_take posn (aCons (eVar 0) (aCons (eC (.int 97)) aNil)) aNil)))
  sNx)
  (sRet (eFn (f1 pTuple) (aCons (eVar 3) aNil))))))
noncomputable def F_u_law_load : DF := runF N_u_law_load B_u_law_load
def N_u_law_moment : List PySem.Str := ["world", "here", "load", "lasts", "due", "task", "bound", "told", "rows", "k", "turn", "behind"]
noncomputable def B_u_law_moment : MS :=
  (sSeq (sSet 4 (eCall callP 3 F_u_law_legal posn (aCons (eVar 0) (aCons (eVar 2) (aCons (eVar 3) aNil))) aNil))
  (sSeq (sIf (bNot (toB (eCall callB 2 F_u_law_listed posn (aCons (eCall callF 1 F_legal_vc posn (aCons (eVar 1) aNil) aNil) (aCons (eVar 4) aNil)) aNil)))
  (sRet (eC (.bl false)))
  sNx)
  (sSeq (sFor (iRng1 (eFn (f1 pLen) (aCons (eVar 2) aNil))) (gN 5)
  (sFor (iRng1 (eC (.int 2))) (gN 10)
  (sSeq (sIf (bNot (toB (eCall callB 2 F_u_law_listed posn (aCons (eCall callF 2 F_bars_vc posn (aCons (eVar 1) (aCons (eVar 5) aNil)) aNil) (aCons (eCall callP 3 F_u_law_bars posn (aCons (eVar 0) (aCons (eVar 3) (aCons (eVar 5) aNil))) aNil) aNil)) aNil)))
  (sRet (eC (.bl false)))
  sNx)
  (sIf (bNot (toB (eCall callP 5 F_u_law_run_right posn (aCons (eVar 0) (aCons (eVar 1) (aCons (eVar 2) (aCons (eVar 3) (aCons (eVar 5) aNil))))) aNil)))
  (sRet (eC (.bl false)))
  sNx))))
  (sSeq (sSet 6 (eLc asLst (iRng1 (eFn (f1 pLen) (aCons (eVar 2) aNil))) [5] (gN 5) bYes (eCall callP 3 F_u_law_bars posn (aCons (eVar 0) (aCons (eVar 3) (aCons (eVar 5) aNil))) aNil)))
  (sSeq (sPar [7, 8] (aCons (eLc asLst (iSeq (eVar 4)) [5] (gN 5) bYes (eCall callT 2 F_u_law_met posn (aCons (eVar 1) (aCons (eVar 5) aNil)) aNil)) (aCons (eLc asLst (iRng1 (eFn (f1 pLen) (aCons (eVar 2) aNil))) [5] (gN 5) bYes (eCall callF 2 F_bars_vc posn (aCons (eVar 1) (aCons (eVar 5) aNil)) aNil)) aNil)))
  (sSeq (sFor (iRng1 (eFn (f1 pLen) (aCons (eVar 4) aNil))) (gN 9)
  (sSeq (sSet 11 (eCall callP 4 F_u_law_ran posn (aCons (eVar 0) (aCons (eVar 2) (aCons (eVar 3) (aCons (eBin pIx (eVar 4) (eVar 9)) aNil)))) aNil))
  (sIf (bOr (toB (eBin (pEqA true) (eBin pIx (eBin pIx (eVar 7) (eVar 9)) (eC (.int 0))) (eC (.str "ran")))) (bNot (toB (eCall callP 4 F_u_law_is_state posn (aCons (eBin pIx (eBin pIx (eVar 7) (eVar 9)) (eC (.int 1))) (aCons (eVar 0) (aCons (eBin pIx (eVar 11) (eC (.int 0))) (aCons (eBin pIx (eVar 11) (eC (.int 1))) aNil)))) aNil))))
  (sRet (eC (.bl false)))
  sNx)))
  (sRet (eAnd (eBin (pEqA false) (eFn (f1 pRepr) (aCons (eVar 8) aNil)) (eFn (f1 pRepr) (aCons (eVar 6) aNil))) (eAnd (eCall callB 2 F_u_law_listed posn (aCons (eCall callF 1 F_legal_vc posn (aCons (eVar 1) aNil) aNil) (aCons (eVar 4) aNil)) aNil) (eCall callP 4 F_u_law_is_state posn (aCons (eVar 1) (aCons (eVar 0) (aCons (eVar 2) (aCons (eVar 3) aNil)))) aNil))))))))))
noncomputable def F_u_law_moment : DF := runF N_u_law_moment B_u_law_moment
def N_run : List PySem.Str := ["state", "task", "nodes", "load", "lasts", "node"]
noncomputable def B_run : MS :=
  (sSeq (sDrop (eCall callP 2 F_check_task posn (aCons (eFld "State" "net" (eVar 0)) (aCons (eVar 1) aNil)) aNil))
  (sSeq (sIf (toB (eBin (pEqA false) (eBin pIx (eFld "State" "load" (eVar 0)) (eVar 1)) (eC (.int 0))))
  (sRaise "NothingLeft" "task" (eVar 1))
  sNx)
  (sSeq (sSet 2 (eCall callP 2 F_bars posn (aCons (eVar 0) (aCons (eVar 1) aNil)) aNil))
  (sSeq (sIf (truL (eVar 2))
  (sRaise "Barred" "nodes" (eVar 2))
  sNx)
  (sSeq (sSet 3 (eFn (f1 pListC) (aCons (eFld "State" "load" (eVar 0)) aNil)))
  (sSeq (sAugC true 3 1 1)
  (sSeq (sSet 4 (eFn (f1 pListC) (aCons (eFld "State" "lasts" (eVar 0)) aNil)))
  (sSeq (sFor (iSeq (eMeth "Net" "ends" callP 2 F_Net_ends posn (eFld "State" "net" (eVar 0)) (aCons (eVar 1) aNil) aNil)) (gN 5)
  (sItem (eVar 4) (eVar 5) (eVar 1)))
  (sFrz 3 (sFrz 4 (sRet (eNew "State" 3 F_State___init__ posn (aCons (eFld "State" "net" (eVar 0)) (aCons (eVar 3) (aCons (eVar 4) aNil))) aNil))))))))))))
noncomputable def F_run : DF := runF N_run B_run
def N_u_law_walk_right : List PySem.Str := ["box", "world", "here", "load", "lasts", "turn", "free", "task"]
noncomputable def B_u_law_walk_right : MS :=
  (sSeq (sFor (iRng1 (eBin pAdd (eC (.int 1)) (eCall callB 2 F_u_law_take posn (aCons (eVar 0) (aCons (eC (.int 4)) aNil)) aNil))) (gN 5)
  (sSeq (sSet 6 (eCall callP 3 F_u_law_legal posn (aCons (eVar 1) (aCons (eVar 3) (aCons (eVar 4) aNil))) aNil))
  (sIf (toB (eBin (pEqA true) (eVar 6) (eLst aNil)))
  (sSeq (sSet 7 (eBin pIx (eVar 6) (eCall callB 2 F_u_law_take posn (aCons (eVar 0) (aCons (eFn (f1 pLen) (aCons (eVar 6) aNil)) aNil)) aNil)))
  (sSeq (sSet 2 (eCall callP 2 F_run posn (aCons (eVar 2) (aCons (eVar 7) aNil)) aNil))
  (sSeq (sAsg (eCall callP 4 F_u_law_ran posn (aCons (eVar 1) (aCons (eVar 3) (aCons (eVar 4) (aCons (eVar 7) aNil)))) aNil) (gT 2 (gK (gN 3) (gK (gN 4) gZ))))
  (sIf (bNot (toB (eCall callP 4 F_u_law_moment posn (aCons (eVar 1) (aCons (eVar 2) (aCons (eVar 3) (aCons (eVar 4) aNil)))) aNil)))
  (sRet (eC (.bl false)))
  sNx))))
  sNx)))
  (sRet (eC (.bl true))))
noncomputable def F_u_law_walk_right : DF := runF N_u_law_walk_right B_u_law_walk_right
def N_u_law_mixed : List PySem.Str := ["box", "items", "left", "found"]
noncomputable def B_u_law_mixed : MS :=
  (sSeq (sPar [2, 3] (aCons (eFn (f1 pListC) (aCons (eVar 1) aNil)) (aCons (eCel aNil) aNil)))
  (sSeq (sWh 1000 (toB (eBin (pEqA true) (eVar 2) (eLst aNil)))
  (sDrop (eMut fApp (eVar 3) (aCons (eMut fPop (eVar 2) (aCons (eCall callB 2 F_u_law_take posn (aCons (eVar 0) (aCons (eFn (f1 pLen) (aCons (eVar 2) aNil)) aNil)) aNil) aNil)) aNil))))
  (sFrz 3 (sRet (eVar 3)))))
noncomputable def F_u_law_mixed : DF := runF N_u_law_mixed B_u_law_mixed
def N_u_law_pairs : List PySem.Str := ["box", "nodes", "way", "found", "turn", "one", "other", "k"]
noncomputable def B_u_law_pairs : MS :=
  (sSeq (sIf (toB (eBin (pEqA false) (eVar 1) (eC (.int 1))))
  (sRet (eLc asCel (iRng1 (eBin pAdd (eC (.int 1)) (eCall callB 2 F_u_law_take posn (aCons (eVar 0) (aCons (eC (.int 3)) aNil)) aNil))) [4] (gN 4) bYes (eLst (aCons (eC (.int 0)) aNil))))
  sNx)
  (sSeq (sIf (toB (eBin (pEqA false) (eVar 2) (eC (.int 0))))
  (sRet (eLc asCel (iRng1 (eVar 1)) [7] (gN 7) bYes (eLst (aCons (eVar 7) (aCons (eBin oMod (eBin pAdd (eVar 7) (eC (.int 1))) (eVar 1)) aNil)))))
  sNx)
  (sSeq (sIf (toB (eBin (pEqA false) (eVar 2) (eC (.int 1))))
  (sRet (eLc asCel (iRng2 (aCons (eC (.int 1)) (aCons (eVar 1) aNil))) [7] (gN 7) bYes (eLst (aCons (eVar 7) (aCons (eCall callB 2 F_u_law_take posn (aCons (eVar 0) (aCons (eVar 7) aNil)) aNil) aNil)))))
  sNx)
  (sSeq (sIf (toB (eBin (pEqA false) (eVar 2) (eC (.int 2))))
  (sRet (eLc asCel (iRng2 (aCons (eC (.int 1)) (aCons (eVar 1) aNil))) [7] (gN 7) bYes (eLst (aCons (eBin oSub (eVar 7) (eC (.int 1))) (aCons (eVar 7) aNil)))))
  sNx)
  (sSeq (sSet 3 (eCel aNil))
  (sSeq (sFor (iRng1 (eBin pAdd (eC (.int 1)) (eCall callB 2 F_u_law_take posn (aCons (eVar 0) (aCons (eBin pMul (eC (.int 2)) (eVar 1)) aNil)) aNil))) (gN 4)
  (sSeq (sSet 5 (eCall callB 2 F_u_law_take posn (aCons (eVar 0) (aCons (eVar 1) aNil)) aNil))
  (sSeq (sSet 6 (eBin oMod (eBin pAdd (eBin pAdd (eVar 5) (eC (.int 1))) (eCall callB 2 F_u_law_take posn (aCons (eVar 0) (aCons (eBin oSub (eVar 1) (eC (.int 1))) aNil)) aNil)) (eVar 1)))
  (sDrop (eMut fApp (eVar 3) (aCons (eIf (toB (eBin (pEqA false) (eCall callB 2 F_u_law_take posn (aCons (eVar 0) (aCons (eC (.int 5)) aNil)) aNil) (eC (.int 0)))) (eLst (aCons (eVar 5) aNil)) (eLst (aCons (eVar 5) (aCons (eVar 6) aNil)))) aNil))))))
  (sRet (eVar 3))))))))
noncomputable def F_u_law_pairs : DF := runF N_u_law_pairs B_u_law_pairs
def N_u_law_world : List PySem.Str := ["box", "most", "tasks", "nodes", "way", "minded", "more", "pairs", "turn", "names", "found", "pair", "one", "other", "ends", "node"]
noncomputable def B_u_law_world : MS :=
  (sSeq (sSet 3 (eFn (f2 pMin) (aCons (eVar 1) (aCons (eBin pIx (eLst (aCons (eC (.int 3)) (aCons (eC (.int 2)) (aCons (eC (.int 4)) (aCons (eC (.int 3)) (aCons (eC (.int 5)) (aCons (eC (.int 1)) (aCons (eC (.int 6)) (aCons (eC (.int 4)) aNil))))))))) (eCall callB 2 F_u_law_take posn (aCons (eVar 0) (aCons (eC (.int 8)) aNil)) aNil)) aNil))))
  (sSeq (sAsg (eTup (aCons (eCall callB 2 F_u_law_take posn (aCons (eVar 0) (aCons (eC (.int 5)) aNil)) aNil) (aCons (eCall callB 2 F_u_law_take posn (aCons (eVar 0) (aCons (eC (.int 3)) aNil)) aNil) (aCons (eCall callB 2 F_u_law_take posn (aCons (eVar 0) (aCons (eC (.int 4)) aNil)) aNil) aNil)))) (gT 3 (gK (gN 4) (gK (gN 5) (gK (gN 6) gZ)))))
  (sSeq (sSet 7 (eCall callT 3 F_u_law_pairs posn (aCons (eVar 0) (aCons (eVar 3) (aCons (eFn (f2 pMin) (aCons (eVar 4) (aCons (eC (.int 3)) aNil))) aNil))) aNil))
  (sSeq (sFor (iRng1 (eBin pIx (eLst (aCons (eC (.int 0)) (aCons (eC (.int 0)) (aCons (eC (.int 1)) (aCons (eC (.int 2)) aNil))))) (eVar 6))) (gN 8)
  (sSeq (sSet 12 (eCall callB 2 F_u_law_take posn (aCons (eVar 0) (aCons (eVar 3) aNil)) aNil))
  (sSeq (sSet 13 (eBin oMod (eBin pAdd (eBin pAdd (eVar 12) (eC (.int 1))) (eCall callB 2 F_u_law_take posn (aCons (eVar 0) (aCons (eFn (f2 pMax) (aCons (eC (.int 1)) (aCons (eBin oSub (eVar 3) (eC (.int 1))) aNil))) aNil)) aNil)) (eVar 3)))
  (sDrop (eMut fApp (eVar 7) (aCons (eIf (bAnd (toB (eBin (pEqA true) (eVar 12) (eVar 13))) (toB (eBin oGt (eCall callB 2 F_u_law_take posn (aCons (eVar 0) (aCons (eC (.int 3)) aNil)) aNil) (eC (.int 0))))) (eLst (aCons (eVar 12) (aCons (eVar 13) aNil))) (eLst (aCons (eVar 12) aNil))) aNil))))))
  (sFrz 7 (sSeq (sSet 9 (eCall callB 2 F_u_law_mixed posn (aCons (eVar 0) (aCons (eLrg false (eVar 3)) aNil)) aNil))
  (sSeq (sSet 10 (eCel aNil))
  (sSeq (sFor (iSeq (eSl (eCall callB 2 F_u_law_mixed posn (aCons (eVar 0) (aCons (eVar 7) aNil)) aNil) oNo (oSo (eVar 2)))) (gN 11)
  (sSeq (sSet 14 (eFn (f1 pSort) (aCons (eLc asLst (iSeq (eVar 11)) [15] (gN 15) bYes (eBin pIx (eVar 9) (eVar 15))) aNil)))
  (sDrop (eMut fApp (eVar 10) (aCons (eFn (f1 pTuple) (aCons (eLc asLst (iSeq (eVar 14)) [15] (gN 15) bYes (eTup (aCons (eVar 15) (aCons (eOr (eBin oGt (eVar 5) (eC (.int 0))) (eBin oGt (eCall callB 2 F_u_law_take posn (aCons (eVar 0) (aCons (eC (.int 3)) aNil)) aNil) (eC (.int 0)))) aNil)))) aNil)) aNil)))))
  (sFrz 10 (sRet (eLst (aCons (eVar 3) (aCons (eVar 10) aNil)))))))))))))
noncomputable def F_u_law_world : DF := runF N_u_law_world B_u_law_world
def N_legal : List PySem.Str := ["state", "task"]
noncomputable def B_legal : MS :=
  (sRet (eLc asLst (iRng1 (eLenO "Net" F_Net___len__ (eFld "State" "net" (eVar 0)))) [1] (gN 1) (toB (eCall callP 2 F_can_run posn (aCons (eVar 0) (aCons (eVar 1) aNil)) aNil)) (eVar 1)))
noncomputable def F_legal : DF := runF N_legal B_legal
def N_u_law_right : List PySem.Str := ["box", "large", "bare", "world", "net", "rows", "turn", "here", "load", "lasts", "row"]
noncomputable def B_u_law_right : MS :=
  (sSeq (sPar [1, 2] (aCons (eBin (pEqA false) (eCall callB 2 F_u_law_take posn (aCons (eVar 0) (aCons (eC (.int 4)) aNil)) aNil) (eC (.int 0))) (aCons (eBin (pEqA false) (eCall callB 2 F_u_law_take posn (aCons (eVar 0) (aCons (eC (.int 9)) aNil)) aNil) (eC (.int 0))) aNil)))
  (sSeq (sIf (bAnd (toB (eVar 1)) (bNot (toB (eCall callB 1 F_u_law_large_right posn (aCons (eVar 0) aNil) aNil))))
  (sRet (eC (.bl false)))
  sNx)
  (sSeq (sSet 3 (eCall callB 3 F_u_law_world posn (aCons (eVar 0) (aCons (eC (.int 6)) (aCons (eC (.int 8)) aNil))) aNil))
  (sSeq (sIf (toB (eVar 2))
  (sSet 3 (eLst (aCons (eBin pIx (eVar 3) (eC (.int 0))) (aCons (eLst aNil) aNil))))
  sNx)
  (sSeq (sPar [4, 5] (aCons (eNew "Net" 2 F_Net___init__ posn (aCons (eBin pIx (eVar 3) (eC (.int 0))) (aCons (eFn (f1 pList) (aCons (eBin pIx (eVar 3) (eC (.int 1))) aNil)) aNil)) aNil) (aCons (eCel aNil) aNil)))
  (sSeq (sFor (iRng1 (eC (.int 2))) (gN 6)
  (sSeq (sPar [8, 9] (aCons (eCall callB 2 F_u_law_load posn (aCons (eVar 0) (aCons (eVar 3) aNil)) aNil) (aCons (eCall callB 2 F_u_law_lasts posn (aCons (eVar 0) (aCons (eVar 3) aNil)) aNil) aNil)))
  (sDrop (eMut fApp (eVar 5) (aCons (eTup (aCons (eNew "State" 3 F_State___init__ posn (aCons (eVar 4) (aCons (eFn (f1 pList) (aCons (eVar 8) aNil)) (aCons (eFn (f1 pList) (aCons (eVar 9) aNil)) aNil))) aNil) (aCons (eVar 8) (aCons (eVar 9) aNil)))) aNil)))))
  (sSeq (sIf (toB (eBin (pEqA true) (eFn (f1 pRepr) (aCons (eLc asLst (iSeq (eVar 5)) [10] (gN 10) bYes (eCall callP 1 F_legal posn (aCons (eBin pIx (eVar 10) (eC (.int 0))) aNil) aNil)) aNil)) (eFn (f1 pRepr) (aCons (eLc asLst (iSeq (eVar 5)) [10] (gN 10) bYes (eCall callP 3 F_u_law_legal posn (aCons (eVar 3) (aCons (eBin pIx (eVar 10) (eC (.int 1))) (aCons (eBin pIx (eVar 10) (eC (.int 2))) aNil))) aNil)) aNil))))
  (sRet (eC (.bl false)))
  sNx)
  (sSeq (sFor (iSeq (eVar 5)) (gT 3 (gK (gN 7) (gK (gN 8) (gK (gN 9) gZ))))
  (sIf (bOr (bNot (toB (eCall callP 4 F_u_law_moment posn (aCons (eVar 3) (aCons (eVar 7) (aCons (eVar 8) (aCons (eVar 9) aNil)))) aNil))) (bNot (toB (eCall callB 5 F_u_law_walk_right posn (aCons (eVar 0) (aCons (eVar 3) (aCons (eVar 7) (aCons (eVar 8) (aCons (eVar 9) aNil))))) aNil))))
  (sRet (eC (.bl false)))
  sNx))
  (sSeq (sFor (iSeq (eVar 5)) (gT 3 (gK (gN 7) (gK (gN 8) (gK (gN 9) gZ))))
  (sIf (bNot (toB (eCall callP 4 F_u_law_moment posn (aCons (eVar 3) (aCons (eVar 7) (aCons (eVar 8) (aCons (eVar 9) aNil)))) aNil)))
  (sRet (eC (.bl false)))
  sNx))
  (sRet (eC (.bl true))))))))))))
noncomputable def F_u_law_right : DF := runF N_u_law_right B_u_law_right
def N_law : List PySem.Str := ["script", "k"]
noncomputable def B_law : MS :=
  (sSeq (sFor (iRng1 (eFn (f2 pMax) (aCons (eC (.int 2)) (aCons (eFn (f2 pMin) (aCons (eC (.int 3)) (aCons (eFn (f1 pLen) (aCons (eVar 0) aNil)) aNil))) aNil)))) (gN 1)
  (sIf (bNot (toB (eCall callB 1 F_u_law_right posn (aCons (eCall callF 1 F_u_law_box posn (aCons (eCall callP 2 F_u_law_cell posn (aCons (eVar 0) (aCons (eVar 1) aNil)) aNil) aNil) aNil) aNil) aNil)))
  (sRet (eC (.bl false)))
  sNx))
  (sRet (eC (.bl true))))
noncomputable def F_law : DF := runF N_law B_law
structure En (K : PySem.W.Frag) (mg : PySem.Str → Option Value) : Prop where
  c : He.SaysD fa fn K
  ns : ∃ h : Heap, K.In h ∧ h.Ns mainGlobals mg
  x : excB K excs "OtherError" = true
  i_State : insB K (He.ga K "State") = true
section
variable {P : Program} {w : World} {K : PySem.W.Frag} {mg : PySem.Str → Option Value} {base : Heap}
theorem g_len (e : En K mg) : mg "len" = none := let ⟨_, k, n⟩ := e.ns; He.free_ok k n (e.c.fact 0)
theorem g_min (e : En K mg) : mg "min" = none := let ⟨_, k, n⟩ := e.ns; He.free_ok k n (e.c.fact 1)
theorem g_max (e : En K mg) : mg "max" = none := let ⟨_, k, n⟩ := e.ns; He.free_ok k n (e.c.fact 2)
theorem g_range (e : En K mg) : mg "range" = none := let ⟨_, k, n⟩ := e.ns; He.free_ok k n (e.c.fact 3)
theorem g__law_cell (e : En K mg) : mg "_law_cell" = some (.ref (He.ga K "_law_cell")) := let ⟨_, k, n⟩ := e.ns; He.glo_ok k n (e.c.fact 4)
theorem g__law_box (e : En K mg) : mg "_law_box" = some (.ref (He.ga K "_law_box")) := let ⟨_, k, n⟩ := e.ns; He.glo_ok k n (e.c.fact 5)
theorem g__law_right (e : En K mg) : mg "_law_right" = some (.ref (He.ga K "_law_right")) := let ⟨_, k, n⟩ := e.ns; He.glo_ok k n (e.c.fact 6)
theorem g_abs (e : En K mg) : mg "abs" = none := let ⟨_, k, n⟩ := e.ns; He.free_ok k n (e.c.fact 7)
theorem g_int (e : En K mg) : mg "int" = none := let ⟨_, k, n⟩ := e.ns; He.free_ok k n (e.c.fact 8)
theorem g_sum (e : En K mg) : mg "sum" = none := let ⟨_, k, n⟩ := e.ns; He.free_ok k n (e.c.fact 9)
theorem g__law_take (e : En K mg) : mg "_law_take" = some (.ref (He.ga K "_law_take")) := let ⟨_, k, n⟩ := e.ns; He.glo_ok k n (e.c.fact 10)
theorem g__law_large_right (e : En K mg) : mg "_law_large_right" = some (.ref (He.ga K "_law_large_right")) := let ⟨_, k, n⟩ := e.ns; He.glo_ok k n (e.c.fact 11)
theorem g__law_world (e : En K mg) : mg "_law_world" = some (.ref (He.ga K "_law_world")) := let ⟨_, k, n⟩ := e.ns; He.glo_ok k n (e.c.fact 12)
theorem g_Net (e : En K mg) : mg "Net" = some (.ref (He.ga K "Net")) := let ⟨_, k, n⟩ := e.ns; He.glo_ok k n (e.c.fact 13)
theorem k_Net (e : En K mg) : Mk K (He.ga K "Net") (He.ma K (He.ga K "Net") "__init__") := He.mkr_ok (e.c.fact 14)
theorem m_Net___init__ (e : En K mg) : Meth K (He.ga K "Net") "__init__" (He.ma K (He.ga K "Net") "__init__") := He.meth_ok (e.c.fact 15)
theorem g_list (e : En K mg) : mg "list" = none := let ⟨_, k, n⟩ := e.ns; He.free_ok k n (e.c.fact 16)
theorem g__law_lasts (e : En K mg) : mg "_law_lasts" = some (.ref (He.ga K "_law_lasts")) := let ⟨_, k, n⟩ := e.ns; He.glo_ok k n (e.c.fact 17)
theorem g__law_load (e : En K mg) : mg "_law_load" = some (.ref (He.ga K "_law_load")) := let ⟨_, k, n⟩ := e.ns; He.glo_ok k n (e.c.fact 18)
theorem g_State (e : En K mg) : mg "State" = some (.ref (He.ga K "State")) := let ⟨_, k, n⟩ := e.ns; He.glo_ok k n (e.c.fact 19)
theorem k_State (e : En K mg) : Mk K (He.ga K "State") (He.ma K (He.ga K "State") "__init__") := He.mkr_ok (e.c.fact 20)
theorem m_State___init__ (e : En K mg) : Meth K (He.ga K "State") "__init__" (He.ma K (He.ga K "State") "__init__") := He.meth_ok (e.c.fact 21)
theorem g_legal (e : En K mg) : mg "legal" = some (.ref (He.ga K "legal")) := let ⟨_, k, n⟩ := e.ns; He.glo_ok k n (e.c.fact 22)
theorem g_repr (e : En K mg) : mg "repr" = none := let ⟨_, k, n⟩ := e.ns; He.free_ok k n (e.c.fact 23)
theorem g__law_legal (e : En K mg) : mg "_law_legal" = some (.ref (He.ga K "_law_legal")) := let ⟨_, k, n⟩ := e.ns; He.glo_ok k n (e.c.fact 24)
theorem g__law_walk_right (e : En K mg) : mg "_law_walk_right" = some (.ref (He.ga K "_law_walk_right")) := let ⟨_, k, n⟩ := e.ns; He.glo_ok k n (e.c.fact 25)
theorem g__law_moment (e : En K mg) : mg "_law_moment" = some (.ref (He.ga K "_law_moment")) := let ⟨_, k, n⟩ := e.ns; He.glo_ok k n (e.c.fact 26)
theorem g_MOST_NODES (e : En K mg) : ∃ t, mg "MOST_NODES" = some (.int 24 t) := let ⟨_, k, n⟩ := e.ns; He.int_ok k n (e.c.fact 27)
theorem g_is_from_to (e : En K mg) : mg "is_from_to" = some (.ref (He.ga K "is_from_to")) := let ⟨_, k, n⟩ := e.ns; He.glo_ok k n (e.c.fact 28)
theorem g_MOST_ENDS (e : En K mg) : ∃ t, mg "MOST_ENDS" = some (.int 2 t) := let ⟨_, k, n⟩ := e.ns; He.int_ok k n (e.c.fact 29)
theorem g_MOST_TASKS (e : En K mg) : ∃ t, mg "MOST_TASKS" = some (.int 100 t) := let ⟨_, k, n⟩ := e.ns; He.int_ok k n (e.c.fact 30)
theorem g_are_tasks (e : En K mg) : mg "are_tasks" = some (.ref (He.ga K "are_tasks")) := let ⟨_, k, n⟩ := e.ns; He.glo_ok k n (e.c.fact 31)
theorem c_Net (e : En K mg) : Cls K (He.ga K "Net") := He.cls_ok (e.c.fact 32)
theorem n_Net_nodes (e : En K mg) : NoAttr K (He.ga K "Net") "nodes" := He.noat_ok (e.c.fact 33)
theorem n_Net_tasks (e : En K mg) : NoAttr K (He.ga K "Net") "tasks" := He.noat_ok (e.c.fact 34)
theorem g_tuple (e : En K mg) : mg "tuple" = none := let ⟨_, k, n⟩ := e.ns; He.free_ok k n (e.c.fact 35)
theorem n_Net__ends (e : En K mg) : NoAttr K (He.ga K "Net") "_ends" := He.noat_ok (e.c.fact 36)
theorem n_Net__marks (e : En K mg) : NoAttr K (He.ga K "Net") "_marks" := He.noat_ok (e.c.fact 37)
theorem g_marks_of (e : En K mg) : mg "marks_of" = some (.ref (He.ga K "marks_of")) := let ⟨_, k, n⟩ := e.ns; He.glo_ok k n (e.c.fact 38)
theorem g_is_row (e : En K mg) : mg "is_row" = some (.ref (He.ga K "is_row")) := let ⟨_, k, n⟩ := e.ns; He.glo_ok k n (e.c.fact 39)
theorem g__is_task (e : En K mg) : mg "_is_task" = some (.ref (He.ga K "_is_task")) := let ⟨_, k, n⟩ := e.ns; He.glo_ok k n (e.c.fact 40)
theorem g_all (e : En K mg) : mg "all" = none := let ⟨_, k, n⟩ := e.ns; He.free_ok k n (e.c.fact 41)
theorem g_isinstance (e : En K mg) : mg "isinstance" = none := let ⟨_, k, n⟩ := e.ns; He.free_ok k n (e.c.fact 42)
theorem g_is_ascending (e : En K mg) : mg "is_ascending" = some (.ref (He.ga K "is_ascending")) := let ⟨_, k, n⟩ := e.ns; He.glo_ok k n (e.c.fact 43)
theorem g__is_end (e : En K mg) : mg "_is_end" = some (.ref (He.ga K "_is_end")) := let ⟨_, k, n⟩ := e.ns; He.glo_ok k n (e.c.fact 44)
theorem g_bool (e : En K mg) : mg "bool" = none := let ⟨_, k, n⟩ := e.ns; He.free_ok k n (e.c.fact 45)
theorem g_is_index (e : En K mg) : mg "is_index" = some (.ref (He.ga K "is_index")) := let ⟨_, k, n⟩ := e.ns; He.glo_ok k n (e.c.fact 46)
theorem g_is_tuple_of (e : En K mg) : mg "is_tuple_of" = some (.ref (He.ga K "is_tuple_of")) := let ⟨_, k, n⟩ := e.ns; He.glo_ok k n (e.c.fact 47)
theorem g_is_count (e : En K mg) : mg "is_count" = some (.ref (He.ga K "is_count")) := let ⟨_, k, n⟩ := e.ns; He.glo_ok k n (e.c.fact 48)
theorem g_is_integer (e : En K mg) : mg "is_integer" = some (.ref (He.ga K "is_integer")) := let ⟨_, k, n⟩ := e.ns; He.glo_ok k n (e.c.fact 49)
theorem g_zip (e : En K mg) : mg "zip" = none := let ⟨_, k, n⟩ := e.ns; He.free_ok k n (e.c.fact 50)
theorem g_enumerate (e : En K mg) : mg "enumerate" = none := let ⟨_, k, n⟩ := e.ns; He.free_ok k n (e.c.fact 51)
theorem g_check_load (e : En K mg) : mg "check_load" = some (.ref (He.ga K "check_load")) := let ⟨_, k, n⟩ := e.ns; He.glo_ok k n (e.c.fact 52)
theorem g_check_lasts (e : En K mg) : mg "check_lasts" = some (.ref (He.ga K "check_lasts")) := let ⟨_, k, n⟩ := e.ns; He.glo_ok k n (e.c.fact 53)
theorem c_State (e : En K mg) : Cls K (He.ga K "State") := He.cls_ok (e.c.fact 54)
theorem n_State_net (e : En K mg) : NoAttr K (He.ga K "State") "net" := He.noat_ok (e.c.fact 55)
theorem n_State_load (e : En K mg) : NoAttr K (He.ga K "State") "load" := He.noat_ok (e.c.fact 56)
theorem n_State_lasts (e : En K mg) : NoAttr K (He.ga K "State") "lasts" := He.noat_ok (e.c.fact 57)
theorem g_is_lasts (e : En K mg) : mg "is_lasts" = some (.ref (He.ga K "is_lasts")) := let ⟨_, k, n⟩ := e.ns; He.glo_ok k n (e.c.fact 58)
theorem g__is_last (e : En K mg) : mg "_is_last" = some (.ref (He.ga K "_is_last")) := let ⟨_, k, n⟩ := e.ns; He.glo_ok k n (e.c.fact 59)
theorem m_Net_ends (e : En K mg) : Meth K (He.ga K "Net") "ends" (He.ma K (He.ga K "Net") "ends") := He.meth_ok (e.c.fact 60)
theorem m_Net___len__ (e : En K mg) : Meth K (He.ga K "Net") "__len__" (He.ma K (He.ga K "Net") "__len__") := He.meth_ok (e.c.fact 61)
theorem g_check_task (e : En K mg) : mg "check_task" = some (.ref (He.ga K "check_task")) := let ⟨_, k, n⟩ := e.ns; He.glo_ok k n (e.c.fact 62)
theorem g_is_load (e : En K mg) : mg "is_load" = some (.ref (He.ga K "is_load")) := let ⟨_, k, n⟩ := e.ns; He.glo_ok k n (e.c.fact 63)
theorem g__law_large (e : En K mg) : mg "_law_large" = some (.ref (He.ga K "_law_large")) := let ⟨_, k, n⟩ := e.ns; He.glo_ok k n (e.c.fact 64)
theorem g__law_listed (e : En K mg) : mg "_law_listed" = some (.ref (He.ga K "_law_listed")) := let ⟨_, k, n⟩ := e.ns; He.glo_ok k n (e.c.fact 65)
theorem g__law_bars (e : En K mg) : mg "_law_bars" = some (.ref (He.ga K "_law_bars")) := let ⟨_, k, n⟩ := e.ns; He.glo_ok k n (e.c.fact 66)
theorem g_bars (e : En K mg) : mg "bars" = some (.ref (He.ga K "bars")) := let ⟨_, k, n⟩ := e.ns; He.glo_ok k n (e.c.fact 67)
theorem g__law_run_right (e : En K mg) : mg "_law_run_right" = some (.ref (He.ga K "_law_run_right")) := let ⟨_, k, n⟩ := e.ns; He.glo_ok k n (e.c.fact 68)
theorem g_sorted (e : En K mg) : mg "sorted" = none := let ⟨_, k, n⟩ := e.ns; He.free_ok k n (e.c.fact 69)
theorem g_set (e : En K mg) : mg "set" = none := let ⟨_, k, n⟩ := e.ns; He.free_ok k n (e.c.fact 70)
theorem g__law_known (e : En K mg) : mg "_law_known" = some (.ref (He.ga K "_law_known")) := let ⟨_, k, n⟩ := e.ns; He.glo_ok k n (e.c.fact 71)
theorem g__law_at (e : En K mg) : mg "_law_at" = some (.ref (He.ga K "_law_at")) := let ⟨_, k, n⟩ := e.ns; He.glo_ok k n (e.c.fact 72)
theorem g__law_met (e : En K mg) : mg "_law_met" = some (.ref (He.ga K "_law_met")) := let ⟨_, k, n⟩ := e.ns; He.glo_ok k n (e.c.fact 73)
theorem g__law_ran (e : En K mg) : mg "_law_ran" = some (.ref (He.ga K "_law_ran")) := let ⟨_, k, n⟩ := e.ns; He.glo_ok k n (e.c.fact 74)
theorem g__law_is_state (e : En K mg) : mg "_law_is_state" = some (.ref (He.ga K "_law_is_state")) := let ⟨_, k, n⟩ := e.ns; He.glo_ok k n (e.c.fact 75)
theorem g_OtherError (e : En K mg) : mg "OtherError" = some (.ref (He.ga K "OtherError")) := let ⟨_, k, n⟩ := e.ns; He.glo_ok k n (e.c.fact 76)
theorem g_run (e : En K mg) : mg "run" = some (.ref (He.ga K "run")) := let ⟨_, k, n⟩ := e.ns; He.glo_ok k n (e.c.fact 77)
theorem g_Barred (e : En K mg) : mg "Barred" = some (.ref (He.ga K "Barred")) := let ⟨_, k, n⟩ := e.ns; He.glo_ok k n (e.c.fact 78)
theorem g_NothingLeft (e : En K mg) : mg "NothingLeft" = some (.ref (He.ga K "NothingLeft")) := let ⟨_, k, n⟩ := e.ns; He.glo_ok k n (e.c.fact 79)
theorem g_can_run (e : En K mg) : mg "can_run" = some (.ref (He.ga K "can_run")) := let ⟨_, k, n⟩ := e.ns; He.glo_ok k n (e.c.fact 80)
theorem g__law_past (e : En K mg) : mg "_law_past" = some (.ref (He.ga K "_law_past")) := let ⟨_, k, n⟩ := e.ns; He.glo_ok k n (e.c.fact 81)
theorem g__law_pairs (e : En K mg) : mg "_law_pairs" = some (.ref (He.ga K "_law_pairs")) := let ⟨_, k, n⟩ := e.ns; He.glo_ok k n (e.c.fact 82)
theorem g__law_mixed (e : En K mg) : mg "_law_mixed" = some (.ref (He.ga K "_law_mixed")) := let ⟨_, k, n⟩ := e.ns; He.glo_ok k n (e.c.fact 83)
theorem g_law (e : En K mg) : mg "law" = some (.ref (He.ga K "law")) := let ⟨_, k, n⟩ := e.ns; He.glo_ok k n (e.c.fact 84)
theorem kp_u_law_box (e : En K mg) : PySem.W.keepIn K (.ref (He.ga K "_law_box")) = true := (fd_at e.c 0 (d := d_u_law_box)).kp
theorem kb_u_law_box (e : En K mg) : KBinds K (fdK K ("_law_box", none)) ["great"] [] posn posn := kb_pos (fd_at e.c 0 (d := d_u_law_box)) fun _ _ _ _ _ _ us hl => match us, hl with | [_], _ => rfl
theorem kp_u_law_cell (e : En K mg) : PySem.W.keepIn K (.ref (He.ga K "_law_cell")) = true := (fd_at e.c 1 (d := d_u_law_cell)).kp
theorem kb_u_law_cell (e : En K mg) : KBinds K (fdK K ("_law_cell", none)) ["script", "k"] [] posn posn := kb_pos (fd_at e.c 1 (d := d_u_law_cell)) fun _ _ _ _ _ _ us hl => match us, hl with | [_, _], _ => rfl
theorem kp_is_integer (e : En K mg) : PySem.W.keepIn K (.ref (He.ga K "is_integer")) = true := (fd_at e.c 2 (d := d_is_integer)).kp
theorem kb_is_integer (e : En K mg) : KBinds K (fdK K ("is_integer", none)) ["value"] [] posn posn := kb_pos (fd_at e.c 2 (d := d_is_integer)) fun _ _ _ _ _ _ us hl => match us, hl with | [_], _ => rfl
theorem kp_is_count (e : En K mg) : PySem.W.keepIn K (.ref (He.ga K "is_count")) = true := (fd_at e.c 3 (d := d_is_count)).kp
theorem kb_is_count (e : En K mg) : KBinds K (fdK K ("is_count", none)) ["value"] [] posn posn := kb_pos (fd_at e.c 3 (d := d_is_count)) fun _ _ _ _ _ _ us hl => match us, hl with | [_], _ => rfl
theorem kp_is_index (e : En K mg) : PySem.W.keepIn K (.ref (He.ga K "is_index")) = true := (fd_at e.c 4 (d := d_is_index)).kp
theorem kb_is_index (e : En K mg) : KBinds K (fdK K ("is_index", none)) ["value", "size"] [] posn posn := kb_pos (fd_at e.c 4 (d := d_is_index)) fun _ _ _ _ _ _ us hl => match us, hl with | [_, _], _ => rfl
theorem kp_is_tuple_of (e : En K mg) : PySem.W.keepIn K (.ref (He.ga K "is_tuple_of")) = true := (fd_at e.c 5 (d := d_is_tuple_of)).kp
theorem kb_is_tuple_of (e : En K mg) : KBinds K (fdK K ("is_tuple_of", none)) ["value", "size"] [] posn posn := kb_pos (fd_at e.c 5 (d := d_is_tuple_of)) fun _ _ _ _ _ _ us hl => match us, hl with | [_, _], _ => rfl
theorem kp_u_is_end (e : En K mg) : PySem.W.keepIn K (.ref (He.ga K "_is_end")) = true := (fd_at e.c 6 (d := d_u_is_end)).kp
theorem kb_u_is_end (e : En K mg) : KBinds K (fdK K ("_is_end", none)) ["nodes", "value"] [] posn posn := kb_pos (fd_at e.c 6 (d := d_u_is_end)) fun _ _ _ _ _ _ us hl => match us, hl with | [_, _], _ => rfl
theorem kp_is_ascending (e : En K mg) : PySem.W.keepIn K (.ref (He.ga K "is_ascending")) = true := (fd_at e.c 7 (d := d_is_ascending)).kp
theorem kb_is_ascending (e : En K mg) : KBinds K (fdK K ("is_ascending", none)) ["row"] [] posn posn := kb_pos (fd_at e.c 7 (d := d_is_ascending)) fun _ _ _ _ _ _ us hl => match us, hl with | [_], _ => rfl
theorem kp_u_is_task (e : En K mg) : PySem.W.keepIn K (.ref (He.ga K "_is_task")) = true := (fd_at e.c 8 (d := d_u_is_task)).kp
theorem kb_u_is_task (e : En K mg) : KBinds K (fdK K ("_is_task", none)) ["nodes", "value", "most_ends"] [] posn posn := kb_pos (fd_at e.c 8 (d := d_u_is_task)) fun _ _ _ _ _ _ us hl => match us, hl with | [_, _, _], _ => rfl
theorem kp_is_row (e : En K mg) : PySem.W.keepIn K (.ref (He.ga K "is_row")) = true := (fd_at e.c 9 (d := d_is_row)).kp
theorem kb_is_row (e : En K mg) : KBinds K (fdK K ("is_row", none)) ["value"] [] posn posn := kb_pos (fd_at e.c 9 (d := d_is_row)) fun _ _ _ _ _ _ us hl => match us, hl with | [_], _ => rfl
theorem kp_are_tasks (e : En K mg) : PySem.W.keepIn K (.ref (He.ga K "are_tasks")) = true := (fd_at e.c 10 (d := d_are_tasks)).kp
theorem kb_are_tasks (e : En K mg) : KBinds K (fdK K ("are_tasks", none)) ["nodes", "value", "most", "most_ends"] [] posn posn := kb_pos (fd_at e.c 10 (d := d_are_tasks)) fun _ _ _ _ _ _ us hl => match us, hl with | [_, _, _, _], _ => rfl
theorem kp_is_from_to (e : En K mg) : PySem.W.keepIn K (.ref (He.ga K "is_from_to")) = true := (fd_at e.c 11 (d := d_is_from_to)).kp
theorem kb_is_from_to (e : En K mg) : KBinds K (fdK K ("is_from_to", none)) ["value", "least", "most"] [] posn posn := kb_pos (fd_at e.c 11 (d := d_is_from_to)) fun _ _ _ _ _ _ us hl => match us, hl with | [_, _, _], _ => rfl
theorem kp_marks_of (e : En K mg) : PySem.W.keepIn K (.ref (He.ga K "marks_of")) = true := (fd_at e.c 12 (d := d_marks_of)).kp
theorem kb_marks_of (e : En K mg) : KBinds K (fdK K ("marks_of", none)) ["tasks", "node"] [] posn posn := kb_pos (fd_at e.c 12 (d := d_marks_of)) fun _ _ _ _ _ _ us hl => match us, hl with | [_, _], _ => rfl
theorem kp_Net___init__ (e : En K mg) : PySem.W.keepIn K (.ref (He.ma K (He.ga K "Net") "__init__")) = true := (fd_at e.c 13 (d := d_Net___init__)).kp
theorem kb_Net___init__ (e : En K mg) : KBinds K (fdK K ("Net", some "__init__")) ["self", "nodes", "tasks"] [] posn posn := kb_pos (fd_at e.c 13 (d := d_Net___init__)) fun _ _ _ _ _ _ us hl => match us, hl with | [_, _, _], _ => rfl
theorem kp_Net___len__ (e : En K mg) : PySem.W.keepIn K (.ref (He.ma K (He.ga K "Net") "__len__")) = true := (fd_at e.c 14 (d := d_Net___len__)).kp
theorem kb_Net___len__ (e : En K mg) : KBinds K (fdK K ("Net", some "__len__")) ["self"] [] posn posn := kb_pos (fd_at e.c 14 (d := d_Net___len__)) fun _ _ _ _ _ _ us hl => match us, hl with | [_], _ => rfl
theorem kp_check_task (e : En K mg) : PySem.W.keepIn K (.ref (He.ga K "check_task")) = true := (fd_at e.c 15 (d := d_check_task)).kp
theorem kb_check_task (e : En K mg) : KBinds K (fdK K ("check_task", none)) ["net", "task"] [] posn posn := kb_pos (fd_at e.c 15 (d := d_check_task)) fun _ _ _ _ _ _ us hl => match us, hl with | [_, _], _ => rfl
theorem kp_Net_ends (e : En K mg) : PySem.W.keepIn K (.ref (He.ma K (He.ga K "Net") "ends")) = true := (fd_at e.c 16 (d := d_Net_ends)).kp
theorem kb_Net_ends (e : En K mg) : KBinds K (fdK K ("Net", some "ends")) ["self", "task"] [] posn posn := kb_pos (fd_at e.c 16 (d := d_Net_ends)) fun _ _ _ _ _ _ us hl => match us, hl with | [_, _], _ => rfl
theorem kp_u_is_last (e : En K mg) : PySem.W.keepIn K (.ref (He.ga K "_is_last")) = true := (fd_at e.c 17 (d := d_u_is_last)).kp
theorem kb_u_is_last (e : En K mg) : KBinds K (fdK K ("_is_last", none)) ["net", "node", "value"] [] posn posn := kb_pos (fd_at e.c 17 (d := d_u_is_last)) fun _ _ _ _ _ _ us hl => match us, hl with | [_, _, _], _ => rfl
theorem kp_is_lasts (e : En K mg) : PySem.W.keepIn K (.ref (He.ga K "is_lasts")) = true := (fd_at e.c 18 (d := d_is_lasts)).kp
theorem kb_is_lasts (e : En K mg) : KBinds K (fdK K ("is_lasts", none)) ["net", "value"] [] posn posn := kb_pos (fd_at e.c 18 (d := d_is_lasts)) fun _ _ _ _ _ _ us hl => match us, hl with | [_, _], _ => rfl
theorem kp_check_lasts (e : En K mg) : PySem.W.keepIn K (.ref (He.ga K "check_lasts")) = true := (fd_at e.c 19 (d := d_check_lasts)).kp
theorem kb_check_lasts (e : En K mg) : KBinds K (fdK K ("check_lasts", none)) ["net", "lasts"] [] posn posn := kb_pos (fd_at e.c 19 (d := d_check_lasts)) fun _ _ _ _ _ _ us hl => match us, hl with | [_, _], _ => rfl
theorem kp_is_load (e : En K mg) : PySem.W.keepIn K (.ref (He.ga K "is_load")) = true := (fd_at e.c 20 (d := d_is_load)).kp
theorem kb_is_load (e : En K mg) : KBinds K (fdK K ("is_load", none)) ["net", "value"] [] posn posn := kb_pos (fd_at e.c 20 (d := d_is_load)) fun _ _ _ _ _ _ us hl => match us, hl with | [_, _], _ => rfl
theorem kp_check_load (e : En K mg) : PySem.W.keepIn K (.ref (He.ga K "check_load")) = true := (fd_at e.c 21 (d := d_check_load)).kp
theorem kb_check_load (e : En K mg) : KBinds K (fdK K ("check_load", none)) ["net", "load"] [] posn posn := kb_pos (fd_at e.c 21 (d := d_check_load)) fun _ _ _ _ _ _ us hl => match us, hl with | [_, _], _ => rfl
theorem kp_State___init__ (e : En K mg) : PySem.W.keepIn K (.ref (He.ma K (He.ga K "State") "__init__")) = true := (fd_at e.c 22 (d := d_State___init__)).kp
theorem kb_State___init__ (e : En K mg) : KBinds K (fdK K ("State", some "__init__")) ["self", "net", "load", "lasts"] [] posn posn := kb_dfl (fd_at e.c 22 (d := d_State___init__)) (by simp [He.DefD.dvs, d_State___init__]) fun _ _ _ _ _ _ _ us its hl hi => match us, its, hl, hi with | [_, _, _, _], [_], _, _ => ⟨_, rfl, rfl⟩
theorem kp_u_law_bars (e : En K mg) : PySem.W.keepIn K (.ref (He.ga K "_law_bars")) = true := (fd_at e.c 23 (d := d_u_law_bars)).kp
theorem kb_u_law_bars (e : En K mg) : KBinds K (fdK K ("_law_bars", none)) ["world", "lasts", "task"] [] posn posn := kb_pos (fd_at e.c 23 (d := d_u_law_bars)) fun _ _ _ _ _ _ us hl => match us, hl with | [_, _, _], _ => rfl
theorem kp_u_law_at (e : En K mg) : PySem.W.keepIn K (.ref (He.ga K "_law_at")) = true := (fd_at e.c 24 (d := d_u_law_at)).kp
theorem kb_u_law_at (e : En K mg) : KBinds K (fdK K ("_law_at", none)) ["world", "node"] [] posn posn := kb_pos (fd_at e.c 24 (d := d_u_law_at)) fun _ _ _ _ _ _ us hl => match us, hl with | [_, _], _ => rfl
theorem kp_u_law_known (e : En K mg) : PySem.W.keepIn K (.ref (He.ga K "_law_known")) = true := (fd_at e.c 25 (d := d_u_law_known)).kp
theorem kb_u_law_known (e : En K mg) : KBinds K (fdK K ("_law_known", none)) ["world"] [] posn posn := kb_pos (fd_at e.c 25 (d := d_u_law_known)) fun _ _ _ _ _ _ us hl => match us, hl with | [_], _ => rfl
theorem kp_u_law_take (e : En K mg) : PySem.W.keepIn K (.ref (He.ga K "_law_take")) = true := (fd_at e.c 26 (d := d_u_law_take)).kp
theorem kb_u_law_take (e : En K mg) : KBinds K (fdK K ("_law_take", none)) ["box", "many"] [] posn posn := kb_pos (fd_at e.c 26 (d := d_u_law_take)) fun _ _ _ _ _ _ us hl => match us, hl with | [_, _], _ => rfl
theorem kp_u_law_large (e : En K mg) : PySem.W.keepIn K (.ref (He.ga K "_law_large")) = true := (fd_at e.c 27 (d := d_u_law_large)).kp
theorem kb_u_law_large (e : En K mg) : KBinds K (fdK K ("_law_large", none)) ["box", "menu"] [] posn posn := kb_pos (fd_at e.c 27 (d := d_u_law_large)) fun _ _ _ _ _ _ us hl => match us, hl with | [_, _], _ => rfl
theorem kp_u_law_legal (e : En K mg) : PySem.W.keepIn K (.ref (He.ga K "_law_legal")) = true := (fd_at e.c 28 (d := d_u_law_legal)).kp
theorem kb_u_law_legal (e : En K mg) : KBinds K (fdK K ("_law_legal", none)) ["world", "load", "lasts"] [] posn posn := kb_pos (fd_at e.c 28 (d := d_u_law_legal)) fun _ _ _ _ _ _ us hl => match us, hl with | [_, _, _], _ => rfl
theorem kp_u_law_listed (e : En K mg) : PySem.W.keepIn K (.ref (He.ga K "_law_listed")) = true := (fd_at e.c 29 (d := d_u_law_listed)).kp
theorem kb_u_law_listed (e : En K mg) : KBinds K (fdK K ("_law_listed", none)) ["told", "due"] [] posn posn := kb_pos (fd_at e.c 29 (d := d_u_law_listed)) fun _ _ _ _ _ _ us hl => match us, hl with | [_, _], _ => rfl
theorem kp_u_law_is_state (e : En K mg) : PySem.W.keepIn K (.ref (He.ga K "_law_is_state")) = true := (fd_at e.c 30 (d := d_u_law_is_state)).kp
theorem kb_u_law_is_state (e : En K mg) : KBinds K (fdK K ("_law_is_state", none)) ["told", "world", "load", "lasts"] [] posn posn := kb_pos (fd_at e.c 30 (d := d_u_law_is_state)) fun _ _ _ _ _ _ us hl => match us, hl with | [_, _, _, _], _ => rfl
theorem kp_Barred___init__ (e : En K mg) : PySem.W.keepIn K (.ref (He.ma K (He.ga K "Barred") "__init__")) = true := (fd_at e.c 31 (d := d_Barred___init__)).kp
theorem kb_Barred___init__ (e : En K mg) : KBinds K (fdK K ("Barred", some "__init__")) ["self", "nodes"] [] posn posn := kb_pos (fd_at e.c 31 (d := d_Barred___init__)) fun _ _ _ _ _ _ us hl => match us, hl with | [_, _], _ => rfl
theorem kp_NothingLeft___init__ (e : En K mg) : PySem.W.keepIn K (.ref (He.ma K (He.ga K "NothingLeft") "__init__")) = true := (fd_at e.c 32 (d := d_NothingLeft___init__)).kp
theorem kb_NothingLeft___init__ (e : En K mg) : KBinds K (fdK K ("NothingLeft", some "__init__")) ["self", "task"] [] posn posn := kb_pos (fd_at e.c 32 (d := d_NothingLeft___init__)) fun _ _ _ _ _ _ us hl => match us, hl with | [_, _], _ => rfl
theorem kp_bars_vc (e : En K mg) : PySem.W.keepIn K (.ref (He.ga K "bars")) = true := (fd_at e.c 33 (d := d_bars_vc)).kp
theorem kb_bars_vc (e : En K mg) : KBinds K (fdK K ("bars", none)) ["state", "task"] [] posn posn := kb_pos (fd_at e.c 33 (d := d_bars_vc)) fun _ _ _ _ _ _ us hl => match us, hl with | [_, _], _ => rfl
theorem kp_run_vt (e : En K mg) : PySem.W.keepIn K (.ref (He.ga K "run")) = true := (fd_at e.c 34 (d := d_run_vt)).kp
theorem kb_run_vt (e : En K mg) : KBinds K (fdK K ("run", none)) ["state", "task"] [] posn posn := kb_pos (fd_at e.c 34 (d := d_run_vt)) fun _ _ _ _ _ _ us hl => match us, hl with | [_, _], _ => rfl
theorem kp_u_law_met (e : En K mg) : PySem.W.keepIn K (.ref (He.ga K "_law_met")) = true := (fd_at e.c 35 (d := d_u_law_met)).kp
theorem kb_u_law_met (e : En K mg) : KBinds K (fdK K ("_law_met", none)) ["here", "task"] [] posn posn := kb_pos (fd_at e.c 35 (d := d_u_law_met)) fun _ _ _ _ _ _ us hl => match us, hl with | [_, _], _ => rfl
theorem kp_u_law_ran (e : En K mg) : PySem.W.keepIn K (.ref (He.ga K "_law_ran")) = true := (fd_at e.c 36 (d := d_u_law_ran)).kp
theorem kb_u_law_ran (e : En K mg) : KBinds K (fdK K ("_law_ran", none)) ["world", "load", "lasts", "task"] [] posn posn := kb_pos (fd_at e.c 36 (d := d_u_law_ran)) fun _ _ _ _ _ _ us hl => match us, hl with | [_, _, _, _], _ => rfl
theorem kp_u_law_run_right (e : En K mg) : PySem.W.keepIn K (.ref (He.ga K "_law_run_right")) = true := (fd_at e.c 37 (d := d_u_law_run_right)).kp
theorem kb_u_law_run_right (e : En K mg) : KBinds K (fdK K ("_law_run_right", none)) ["world", "here", "load", "lasts", "task"] [] posn posn := kb_pos (fd_at e.c 37 (d := d_u_law_run_right)) fun _ _ _ _ _ _ us hl => match us, hl with | [_, _, _, _, _], _ => rfl
theorem kp_bars (e : En K mg) : PySem.W.keepIn K (.ref (He.ga K "bars")) = true := (fd_at e.c 33 (d := d_bars_vc)).kp
theorem kb_bars (e : En K mg) : KBinds K (fdK K ("bars", none)) ["state", "task"] [] posn posn := kb_pos (fd_at e.c 33 (d := d_bars_vc)) fun _ _ _ _ _ _ us hl => match us, hl with | [_, _], _ => rfl
theorem kp_can_run (e : En K mg) : PySem.W.keepIn K (.ref (He.ga K "can_run")) = true := (fd_at e.c 38 (d := d_can_run)).kp
theorem kb_can_run (e : En K mg) : KBinds K (fdK K ("can_run", none)) ["state", "task"] [] posn posn := kb_pos (fd_at e.c 38 (d := d_can_run)) fun _ _ _ _ _ _ us hl => match us, hl with | [_, _], _ => rfl
theorem kp_legal_vc (e : En K mg) : PySem.W.keepIn K (.ref (He.ga K "legal")) = true := (fd_at e.c 39 (d := d_legal_vc)).kp
theorem kb_legal_vc (e : En K mg) : KBinds K (fdK K ("legal", none)) ["state"] [] posn posn := kb_pos (fd_at e.c 39 (d := d_legal_vc)) fun _ _ _ _ _ _ us hl => match us, hl with | [_], _ => rfl
theorem kp_u_law_large_right (e : En K mg) : PySem.W.keepIn K (.ref (He.ga K "_law_large_right")) = true := (fd_at e.c 40 (d := d_u_law_large_right)).kp
theorem kb_u_law_large_right (e : En K mg) : KBinds K (fdK K ("_law_large_right", none)) ["box"] [] posn posn := kb_pos (fd_at e.c 40 (d := d_u_law_large_right)) fun _ _ _ _ _ _ us hl => match us, hl with | [_], _ => rfl
theorem kp_u_law_past (e : En K mg) : PySem.W.keepIn K (.ref (He.ga K "_law_past")) = true := (fd_at e.c 41 (d := d_u_law_past)).kp
theorem kb_u_law_past (e : En K mg) : KBinds K (fdK K ("_law_past", none)) ["box", "world", "many"] [] posn posn := kb_pos (fd_at e.c 41 (d := d_u_law_past)) fun _ _ _ _ _ _ us hl => match us, hl with | [_, _, _], _ => rfl
theorem kp_u_law_lasts (e : En K mg) : PySem.W.keepIn K (.ref (He.ga K "_law_lasts")) = true := (fd_at e.c 42 (d := d_u_law_lasts)).kp
theorem kb_u_law_lasts (e : En K mg) : KBinds K (fdK K ("_law_lasts", none)) ["box", "world"] [] posn posn := kb_pos (fd_at e.c 42 (d := d_u_law_lasts)) fun _ _ _ _ _ _ us hl => match us, hl with | [_, _], _ => rfl
theorem kp_u_law_load (e : En K mg) : PySem.W.keepIn K (.ref (He.ga K "_law_load")) = true := (fd_at e.c 43 (d := d_u_law_load)).kp
theorem kb_u_law_load (e : En K mg) : KBinds K (fdK K ("_law_load", none)) ["box", "world"] [] posn posn := kb_pos (fd_at e.c 43 (d := d_u_law_load)) fun _ _ _ _ _ _ us hl => match us, hl with | [_, _], _ => rfl
theorem kp_u_law_moment (e : En K mg) : PySem.W.keepIn K (.ref (He.ga K "_law_moment")) = true := (fd_at e.c 44 (d := d_u_law_moment)).kp
theorem kb_u_law_moment (e : En K mg) : KBinds K (fdK K ("_law_moment", none)) ["world", "here", "load", "lasts"] [] posn posn := kb_pos (fd_at e.c 44 (d := d_u_law_moment)) fun _ _ _ _ _ _ us hl => match us, hl with | [_, _, _, _], _ => rfl
theorem kp_run (e : En K mg) : PySem.W.keepIn K (.ref (He.ga K "run")) = true := (fd_at e.c 34 (d := d_run_vt)).kp
theorem kb_run (e : En K mg) : KBinds K (fdK K ("run", none)) ["state", "task"] [] posn posn := kb_pos (fd_at e.c 34 (d := d_run_vt)) fun _ _ _ _ _ _ us hl => match us, hl with | [_, _], _ => rfl
theorem kp_u_law_walk_right (e : En K mg) : PySem.W.keepIn K (.ref (He.ga K "_law_walk_right")) = true := (fd_at e.c 45 (d := d_u_law_walk_right)).kp
theorem kb_u_law_walk_right (e : En K mg) : KBinds K (fdK K ("_law_walk_right", none)) ["box", "world", "here", "load", "lasts"] [] posn posn := kb_pos (fd_at e.c 45 (d := d_u_law_walk_right)) fun _ _ _ _ _ _ us hl => match us, hl with | [_, _, _, _, _], _ => rfl
theorem kp_u_law_mixed (e : En K mg) : PySem.W.keepIn K (.ref (He.ga K "_law_mixed")) = true := (fd_at e.c 46 (d := d_u_law_mixed)).kp
theorem kb_u_law_mixed (e : En K mg) : KBinds K (fdK K ("_law_mixed", none)) ["box", "items"] [] posn posn := kb_pos (fd_at e.c 46 (d := d_u_law_mixed)) fun _ _ _ _ _ _ us hl => match us, hl with | [_, _], _ => rfl
theorem kp_u_law_pairs (e : En K mg) : PySem.W.keepIn K (.ref (He.ga K "_law_pairs")) = true := (fd_at e.c 47 (d := d_u_law_pairs)).kp
theorem kb_u_law_pairs (e : En K mg) : KBinds K (fdK K ("_law_pairs", none)) ["box", "nodes", "way"] [] posn posn := kb_pos (fd_at e.c 47 (d := d_u_law_pairs)) fun _ _ _ _ _ _ us hl => match us, hl with | [_, _, _], _ => rfl
theorem kp_u_law_world (e : En K mg) : PySem.W.keepIn K (.ref (He.ga K "_law_world")) = true := (fd_at e.c 48 (d := d_u_law_world)).kp
theorem kb_u_law_world (e : En K mg) : KBinds K (fdK K ("_law_world", none)) ["box", "most", "tasks"] [] posn posn := kb_pos (fd_at e.c 48 (d := d_u_law_world)) fun _ _ _ _ _ _ us hl => match us, hl with | [_, _, _], _ => rfl
theorem kp_legal (e : En K mg) : PySem.W.keepIn K (.ref (He.ga K "legal")) = true := (fd_at e.c 39 (d := d_legal_vc)).kp
theorem kb_legal (e : En K mg) : KBinds K (fdK K ("legal", none)) ["state"] [] posn posn := kb_pos (fd_at e.c 39 (d := d_legal_vc)) fun _ _ _ _ _ _ us hl => match us, hl with | [_], _ => rfl
theorem kp_u_law_right (e : En K mg) : PySem.W.keepIn K (.ref (He.ga K "_law_right")) = true := (fd_at e.c 49 (d := d_u_law_right)).kp
theorem kb_u_law_right (e : En K mg) : KBinds K (fdK K ("_law_right", none)) ["box"] [] posn posn := kb_pos (fd_at e.c 49 (d := d_u_law_right)) fun _ _ _ _ _ _ us hl => match us, hl with | [_], _ => rfl
theorem kp_law (e : En K mg) : PySem.W.keepIn K (.ref (He.ga K "law")) = true := (fd_at e.c 50 (d := d_law)).kp
theorem kb_law (e : En K mg) : KBinds K (fdK K ("law", none)) ["script"] [] posn posn := kb_pos (fd_at e.c 50 (d := d_law)) fun _ _ _ _ _ _ us hl => match us, hl with | [_], _ => rfl
theorem w_State (e : En K mg) : C8.InsC K (He.ga K "State") := insB_ok (c_State e) e.i_State
theorem x_NothingLeft (e : En K mg) : ExOk K ⟨"NothingLeft", "task"⟩ := excB_ok e.x (by simp [excs])
theorem y_NothingLeft (e : En K mg) : PySem.W.kitOne K (.ref (He.ga K "NothingLeft")) (.ref (He.ga K "OtherError")) = some true := excB_kit e.x (q := ⟨"NothingLeft", "task"⟩) (by simp [excs])
theorem i_NothingLeft (e : En K mg) : FnOk P w K mg base Me.CX0 1 (He.ma K (He.ga K "NothingLeft") "__init__") (fdK K ("NothingLeft", some "__init__")) ["self", "task"] (spI K (He.ga K "NothingLeft") "task") := init_fn (fd_at e.c 32 (d := d_NothingLeft___init__)) ⟨rfl, rfl, rfl, by decide +kernel, rfl, by decide +kernel, by decide +kernel⟩ (x_NothingLeft e).ox (x_NothingLeft e).no rfl rfl (by decide) (by decide)
theorem j_NothingLeft (e : En K mg) : L2.Binds K (fdK K ("NothingLeft", some "__init__")) ["self", "task"] [] := fun s us _ hl => by
  match us, hl with
  | [_, _], _ => exact FunD.bindsA (ps := ["self", "task"]) (fd_at e.c 32 (d := d_NothingLeft___init__)) (fun _ _ _ _ _ _ us hl => match us, hl with | [_, _], _ => rfl) s [_, _] rfl
theorem x_Barred (e : En K mg) : ExOk K ⟨"Barred", "nodes"⟩ := excB_ok e.x (by simp [excs])
theorem y_Barred (e : En K mg) : PySem.W.kitOne K (.ref (He.ga K "Barred")) (.ref (He.ga K "OtherError")) = some true := excB_kit e.x (q := ⟨"Barred", "nodes"⟩) (by simp [excs])
theorem i_Barred (e : En K mg) : FnOk P w K mg base Me.CX0 1 (He.ma K (He.ga K "Barred") "__init__") (fdK K ("Barred", some "__init__")) ["self", "nodes"] (spI K (He.ga K "Barred") "nodes") := init_fn (fd_at e.c 31 (d := d_Barred___init__)) ⟨rfl, rfl, rfl, by decide +kernel, rfl, by decide +kernel, by decide +kernel⟩ (x_Barred e).ox (x_Barred e).no rfl rfl (by decide) (by decide)
theorem j_Barred (e : En K mg) : L2.Binds K (fdK K ("Barred", some "__init__")) ["self", "nodes"] [] := fun s us _ hl => by
  match us, hl with
  | [_, _], _ => exact FunD.bindsA (ps := ["self", "nodes"]) (fd_at e.c 31 (d := d_Barred___init__)) (fun _ _ _ _ _ _ us hl => match us, hl with | [_, _], _ => rfl) s [_, _] rfl
theorem sc_u_law_box : FnScope N_u_law_box ["great"] (defScope st_u_law_box) := ⟨rfl, rfl, rfl, by decide +kernel, rfl, by decide +kernel, by decide +kernel⟩
theorem ok_u_law_box (e : En K mg) : FnG P w K mg base 2 (He.ga K "_law_box") (fdK K ("_law_box", none)) ["great"] (spM ⟨K, mg⟩ 1 F_u_law_box) :=
  FnG.of (fd_at e.c 0 (d := d_u_law_box)) sc_u_law_box fun _ _ _ _ _ _ b => (mps_one (mp_ret (me_cel (ma_cons (me_abs rfl (g_abs e) (ma_cons (me_var 0) ma_nil)) (ma_cons (me_ge (me_abs rfl (g_abs e) (ma_cons (me_var 0) ma_nil)) (me_pow me_int me_int)) (ma_cons (me_mod (me_toInt rfl (g_int e) (ma_cons (me_abs rfl (g_abs e) (ma_cons (me_var 0) ma_nil)) ma_nil)) me_int) (ma_cons me_int ma_nil)))))))
theorem sc_u_law_cell : FnScope N_u_law_cell ["script", "k"] (defScope st_u_law_cell) := ⟨rfl, rfl, rfl, by decide +kernel, rfl, by decide +kernel, by decide +kernel⟩
theorem ok_u_law_cell (e : En K mg) : FnG P w K mg base 2 (He.ga K "_law_cell") (fdK K ("_law_cell", none)) ["script", "k"] (spM ⟨K, mg⟩ 2 F_u_law_cell) :=
  FnG.of (fd_at e.c 1 (d := d_u_law_cell)) sc_u_law_cell fun _ _ _ _ _ _ b => (mps_one (mp_ret (me_if (mt_lt (me_var 1) (me_len rfl (g_len e) (ma_cons (me_var 0) ma_nil))) (me_ix (me_var 0) (me_var 1)) (me_add (me_mul me_int (me_var 1)) (me_mod (me_sumA b.calm rfl (g_sum e) (ma_cons (me_sl (me_var 0) mo_none (mo_some me_int)) ma_nil)) me_int)))))
theorem sc_is_integer : FnScope N_is_integer ["value"] (defScope st_is_integer) := ⟨rfl, rfl, rfl, by decide +kernel, rfl, by decide +kernel, by decide +kernel⟩
theorem ok_is_integer (e : En K mg) : FnG P w K mg base 2 (He.ga K "is_integer") (fdK K ("is_integer", none)) ["value"] (spM ⟨K, mg⟩ 1 F_is_integer) :=
  FnG.of (fd_at e.c 2 (d := d_is_integer)) sc_is_integer fun _ _ _ _ _ _ b => (mps_one (mp_ret (me_and (me_is (by decide) rfl (g_isinstance e) rfl (g_int e) boot_int (me_var 0)) (me_one (me_not (me_is (by decide) rfl (g_isinstance e) rfl (g_bool e) boot_bool (me_var 0)))))))
theorem sc_is_count : FnScope N_is_count ["value"] (defScope st_is_count) := ⟨rfl, rfl, rfl, by decide +kernel, rfl, by decide +kernel, by decide +kernel⟩
theorem ok_is_count (e : En K mg) : FnG P w K mg base 3 (He.ga K "is_count") (fdK K ("is_count", none)) ["value"] (spM ⟨K, mg⟩ 1 F_is_count) :=
  FnG.of (fd_at e.c 3 (d := d_is_count)) sc_is_count fun _ _ _ _ _ _ b => (mps_one (mp_ret (me_and (me_call sndP gok_posn (ok_is_integer e) (kb_is_integer e) (b.room.mono (by decide)) b.gu b.tk rfl (g_is_integer e) (kp_is_integer e) (ma_cons (me_var 0) ma_nil) mk_nil) (me_one (me_ge (me_var 0) me_int)))))
theorem sc_is_index : FnScope N_is_index ["value", "size"] (defScope st_is_index) := ⟨rfl, rfl, rfl, by decide +kernel, rfl, by decide +kernel, by decide +kernel⟩
theorem ok_is_index (e : En K mg) : FnG P w K mg base 4 (He.ga K "is_index") (fdK K ("is_index", none)) ["value", "size"] (spM ⟨K, mg⟩ 2 F_is_index) :=
  FnG.of (fd_at e.c 4 (d := d_is_index)) sc_is_index fun _ _ _ _ _ _ b => (mps_one (mp_ret (me_and (me_call sndP gok_posn (ok_is_count e) (kb_is_count e) (b.room.mono (by decide)) b.gu b.tk rfl (g_is_count e) (kp_is_count e) (ma_cons (me_var 0) ma_nil) mk_nil) (me_one (me_lt (me_var 0) (me_var 1))))))
theorem sc_is_tuple_of : FnScope N_is_tuple_of ["value", "size"] (defScope st_is_tuple_of) := ⟨rfl, rfl, rfl, by decide +kernel, rfl, by decide +kernel, by decide +kernel⟩
theorem ok_is_tuple_of (e : En K mg) : FnG P w K mg base 2 (He.ga K "is_tuple_of") (fdK K ("is_tuple_of", none)) ["value", "size"] (spM ⟨K, mg⟩ 2 F_is_tuple_of) :=
  FnG.of (fd_at e.c 5 (d := d_is_tuple_of)) sc_is_tuple_of fun _ _ _ _ _ _ b => (mps_one (mp_ret (me_and (me_is (by decide) rfl (g_isinstance e) rfl (g_tuple e) boot_tuple (me_var 0)) (me_one (me_eq b.u64 (me_len rfl (g_len e) (ma_cons (me_var 0) ma_nil)) (me_var 1))))))
theorem sc_u_is_end : FnScope N_u_is_end ["nodes", "value"] (defScope st_u_is_end) := ⟨rfl, rfl, rfl, by decide +kernel, rfl, by decide +kernel, by decide +kernel⟩
theorem ok_u_is_end (e : En K mg) : FnG P w K mg base 5 (He.ga K "_is_end") (fdK K ("_is_end", none)) ["nodes", "value"] (spM ⟨K, mg⟩ 2 F_u_is_end) :=
  FnG.of (fd_at e.c 6 (d := d_u_is_end)) sc_u_is_end fun _ _ _ _ _ _ b => (mps_one (mp_ret (me_and (me_call sndP gok_posn (ok_is_tuple_of e) (kb_is_tuple_of e) (b.room.mono (by decide)) b.gu b.tk rfl (g_is_tuple_of e) (kp_is_tuple_of e) (ma_cons (me_var 1) (ma_cons me_int ma_nil)) mk_nil) (me_and (me_call sndP gok_posn (ok_is_index e) (kb_is_index e) (b.room.mono (by decide)) b.gu b.tk rfl (g_is_index e) (kp_is_index e) (ma_cons (me_ix (me_var 1) me_int) (ma_cons (me_var 0) ma_nil)) mk_nil) (me_one (me_is (by decide) rfl (g_isinstance e) rfl (g_bool e) boot_bool (me_ix (me_var 1) me_int)))))))
theorem sc_is_ascending : FnScope N_is_ascending ["row"] (defScope st_is_ascending) := ⟨rfl, rfl, rfl, by decide +kernel, rfl, by decide +kernel, by decide +kernel⟩
theorem ok_is_ascending (e : En K mg) : FnG P w K mg base 2 (He.ga K "is_ascending") (fdK K ("is_ascending", none)) ["row"] (spM ⟨K, mg⟩ 1 F_is_ascending) :=
  FnG.of (fd_at e.c 7 (d := d_is_ascending)) sc_is_ascending fun _ _ _ _ _ _ b => (mps_one (mp_ret (me_all b.calm rfl (g_all e) (ma_cons (me_lc (own := [("one", 1), ("other", 2)]) (is := [1, 2]) snd_asLst b.calm b.hN (mi_zip rfl (g_zip e) (ma_cons (me_var 0) (ma_cons (me_sl (me_var 0) (mo_some me_int) mo_none) ma_nil))) (blkOk_by (by first | rfl | decide +kernel)) (by decide) (fun _ _ _ _ _ => (mg_tup b.calm (mgs_cons (mg_name 1 b.hN) (mgs_cons (mg_name 2 b.hN) mgs_nil)))) (fun _ _ _ _ _ => mts_nil) (fun _ _ _ _ _ => (me_lt (me_var 1) (me_var 2)))) ma_nil))))
theorem sc_u_is_task : FnScope N_u_is_task ["nodes", "value", "most_ends"] (defScope st_u_is_task) := ⟨rfl, rfl, rfl, by decide +kernel, rfl, by decide +kernel, by decide +kernel⟩
theorem ok_u_is_task (e : En K mg) : FnG P w K mg base 6 (He.ga K "_is_task") (fdK K ("_is_task", none)) ["nodes", "value", "most_ends"] (spM ⟨K, mg⟩ 3 F_u_is_task) :=
  FnG.of (fd_at e.c 8 (d := d_u_is_task)) sc_u_is_task fun _ _ _ _ _ _ b => (mps_cons (mp_if (mt_w (mw_or (mt_not (mt_val (me_is (by decide) rfl (g_isinstance e) rfl (g_tuple e) boot_tuple (me_var 1)))) (mw_or1 (mt_not (mt_chLL me_int (me_len rfl (g_len e) (ma_cons (me_var 1) ma_nil)) (me_var 2))))))
  (mps_one (mp_ret me_bl))
  mps_nil)
  (mps_one (mp_ret (me_and (me_all b.calm rfl (g_all e) (ma_cons (me_lc (own := [("end", 3)]) (is := [3]) snd_asLst b.calm b.hN (mi_seq (me_var 1)) (blkOk_by (by first | rfl | decide +kernel)) (by decide) (fun _ _ _ _ _ => (mg_name 3 b.hN)) (fun _ _ _ _ _ => mts_nil) (fun _ _ _ _ _ => (me_call sndP gok_posn (ok_u_is_end e) (kb_u_is_end e) (b.room.mono (by decide)) b.gu takes_none rfl (g__is_end e) (kp_u_is_end e) (ma_cons (me_var 0) (ma_cons (me_var 3) ma_nil)) mk_nil))) ma_nil)) (me_one (me_call sndP gok_posn (ok_is_ascending e) (kb_is_ascending e) (b.room.mono (by decide)) b.gu b.tk rfl (g_is_ascending e) (kp_is_ascending e) (ma_cons (me_lc (own := [("node", 4), ("_", 5)]) (is := [4, 5]) snd_asLst b.calm b.hN (mi_seq (me_var 1)) (blkOk_by (by first | rfl | decide +kernel)) (by decide) (fun _ _ _ _ _ => (mg_tup b.calm (mgs_cons (mg_name 4 b.hN) (mgs_cons (mg_name 5 b.hN) mgs_nil)))) (fun _ _ _ _ _ => mts_nil) (fun _ _ _ _ _ => (me_var 4))) ma_nil) mk_nil))))))
theorem sc_is_row : FnScope N_is_row ["value"] (defScope st_is_row) := ⟨rfl, rfl, rfl, by decide +kernel, rfl, by decide +kernel, by decide +kernel⟩
theorem ok_is_row (e : En K mg) : FnG P w K mg base 2 (He.ga K "is_row") (fdK K ("is_row", none)) ["value"] (spM ⟨K, mg⟩ 1 F_is_row) :=
  FnG.of (fd_at e.c 9 (d := d_is_row)) sc_is_row fun _ _ _ _ _ _ b => (mps_one (mp_ret (me_is2 (by decide) (by decide) rfl (g_isinstance e) rfl (g_list e) boot_list rfl (g_tuple e) boot_tuple (me_var 0))))
theorem sc_are_tasks : FnScope N_are_tasks ["nodes", "value", "most", "most_ends"] (defScope st_are_tasks) := ⟨rfl, rfl, rfl, by decide +kernel, rfl, by decide +kernel, by decide +kernel⟩
theorem ok_are_tasks (e : En K mg) : FnG P w K mg base 7 (He.ga K "are_tasks") (fdK K ("are_tasks", none)) ["nodes", "value", "most", "most_ends"] (spM ⟨K, mg⟩ 4 F_are_tasks) :=
  FnG.of (fd_at e.c 10 (d := d_are_tasks)) sc_are_tasks fun _ _ _ _ _ _ b => (mps_cons (mp_if (mt_w (mw_or (mt_not (mt_val (me_call sndP gok_posn (ok_is_row e) (kb_is_row e) (b.room.mono (by decide)) b.gu b.tk rfl (g_is_row e) (kp_is_row e) (ma_cons (me_var 1) ma_nil) mk_nil))) (mw_or1 (mt_gt (me_len rfl (g_len e) (ma_cons (me_var 1) ma_nil)) (me_var 2)))))
  (mps_one (mp_ret me_bl))
  mps_nil)
  (mps_one (mp_ret (me_all b.calm rfl (g_all e) (ma_cons (me_lc (own := [("task", 4)]) (is := [4]) snd_asLst b.calm b.hN (mi_seq (me_var 1)) (blkOk_by (by first | rfl | decide +kernel)) (by decide) (fun _ _ _ _ _ => (mg_name 4 b.hN)) (fun _ _ _ _ _ => mts_nil) (fun _ _ _ _ _ => (me_call sndP gok_posn (ok_u_is_task e) (kb_u_is_task e) (b.room.mono (by decide)) b.gu takes_none rfl (g__is_task e) (kp_u_is_task e) (ma_cons (me_var 0) (ma_cons (me_var 4) (ma_cons (me_var 3) ma_nil))) mk_nil))) ma_nil)))))
theorem sc_is_from_to : FnScope N_is_from_to ["value", "least", "most"] (defScope st_is_from_to) := ⟨rfl, rfl, rfl, by decide +kernel, rfl, by decide +kernel, by decide +kernel⟩
theorem ok_is_from_to (e : En K mg) : FnG P w K mg base 3 (He.ga K "is_from_to") (fdK K ("is_from_to", none)) ["value", "least", "most"] (spM ⟨K, mg⟩ 3 F_is_from_to) :=
  FnG.of (fd_at e.c 11 (d := d_is_from_to)) sc_is_from_to fun _ _ _ _ _ _ b => (mps_one (mp_ret (me_and (me_call sndP gok_posn (ok_is_integer e) (kb_is_integer e) (b.room.mono (by decide)) b.gu b.tk rfl (g_is_integer e) (kp_is_integer e) (ma_cons (me_var 0) ma_nil) mk_nil) (me_one (me_chLL (me_var 1) (me_var 0) (me_var 2))))))
theorem sc_marks_of : FnScope N_marks_of ["tasks", "node"] (defScope st_marks_of) := ⟨rfl, rfl, rfl, by decide +kernel, rfl, by decide +kernel, by decide +kernel⟩
theorem ok_marks_of (e : En K mg) : FnG P w K mg base 2 (He.ga K "marks_of") (fdK K ("marks_of", none)) ["tasks", "node"] (spM ⟨K, mg⟩ 2 F_marks_of) :=
  FnG.of (fd_at e.c 12 (d := d_marks_of)) sc_marks_of fun _ _ _ _ _ _ b => (mps_one (mp_ret (me_lc2 (own := [("at", 2), ("task", 3), ("end", 4), ("minds", 5)]) (is := [2, 3]) (is1 := [4, 5]) (vs1 := [4, 5]) snd_asLst b.calm b.hN (mi_enu rfl (g_enumerate e) (me_var 0)) (blkOk_by (by first | rfl | decide +kernel)) (by decide) (by decide) (by decide) (fun _ _ _ _ _ => (mg_tup b.calm (mgs_cons (mg_name 2 b.hN) (mgs_cons (mg_name 3 b.hN) mgs_nil)))) (fun _ _ _ _ _ => mts_nil) (fun _ _ _ _ _ => (mi_seq (me_var 3))) (fun _ _ _ _ _ => (mg_tup b.calm (mgs_cons (mg_name 4 b.hN) (mgs_cons (mg_name 5 b.hN) mgs_nil)))) (fun _ _ _ _ _ => (mts_one (mt_eq b.u64 (me_var 4) (me_var 1)))) (fun _ _ _ _ _ => (me_tup (ma_cons (me_var 2) (ma_cons (me_var 5) ma_nil)))))))
theorem sc_Net___init__ : FnScope N_Net___init__ ["self", "nodes", "tasks"] (defScope st_Net___init__) := ⟨rfl, rfl, rfl, by decide +kernel, rfl, by decide +kernel, by decide +kernel⟩
theorem ok_Net___init__ (e : En K mg) : FnG P w K mg base 8 (He.ma K (He.ga K "Net") "__init__") (fdK K ("Net", some "__init__")) ["self", "nodes", "tasks"] (spM ⟨K, mg⟩ 3 F_Net___init__) :=
  FnG.of (fd_at e.c 13 (d := d_Net___init__)) sc_Net___init__ fun _ _ _ _ _ _ b => (mps_cons (mp_if (mt_not (mt_val (me_call sndP gok_posn (ok_is_from_to e) (kb_is_from_to e) (b.room.mono (by decide)) b.gu b.tk rfl (g_is_from_to e) (kp_is_from_to e) (ma_cons (me_var 1) (ma_cons me_int (ma_cons (me_gint rfl (g_MOST_NODES e).choose_spec) ma_nil))) mk_nil)))
  (mps_one mp_no)
  mps_nil)
  (mps_cons (mp_if (mt_not (mt_val (me_call sndP gok_posn (ok_are_tasks e) (kb_are_tasks e) (b.room.mono (by decide)) b.gu b.tk rfl (g_are_tasks e) (kp_are_tasks e) (ma_cons (me_var 1) (ma_cons (me_var 2) (ma_cons (me_gint rfl (g_MOST_TASKS e).choose_spec) (ma_cons (me_gint rfl (g_MOST_ENDS e).choose_spec) ma_nil)))) mk_nil)))
  (mps_one mp_no)
  mps_nil)
  (mps_cons (mp_fld (g_Net e) (c_Net e) (n_Net_nodes e) (me_var 0) (me_var 1))
  (mps_cons (mp_fld (g_Net e) (c_Net e) (n_Net_tasks e) (me_var 0) (me_toTuple rfl (g_tuple e) (ma_cons (me_var 2) ma_nil)))
  (mps_cons (mp_fld (g_Net e) (c_Net e) (n_Net__ends e) (me_var 0) (me_toTuple rfl (g_tuple e) (ma_cons (me_lc (own := [("task", 3)]) (is := [3]) snd_asLst b.calm b.hN (mi_seq (me_fld (g_Net e) (c_Net e) (n_Net_tasks e) (me_var 0))) (blkOk_by (by first | rfl | decide +kernel)) (by decide) (fun _ _ _ _ _ => (mg_name 3 b.hN)) (fun _ _ _ _ _ => mts_nil) (fun _ _ _ _ _ => (me_toTuple rfl (g_tuple e) (ma_cons (me_lc (own := [("end", 5)]) (is := [5]) snd_asLst b.calm b.hN (mi_seq (me_var 3)) (blkOk_by (by first | rfl | decide +kernel)) (by decide) (fun _ _ _ _ _ => (mg_name 5 b.hN)) (fun _ _ _ _ _ => mts_nil) (fun _ _ _ _ _ => (me_ix (me_var 5) me_int))) ma_nil)))) ma_nil)))
  (mps_one (mp_fld (g_Net e) (c_Net e) (n_Net__marks e) (me_var 0) (me_toTuple rfl (g_tuple e) (ma_cons (me_lc (own := [("node", 4)]) (is := [4]) snd_asLst b.calm b.hN (mi_rng1 rfl (g_range e) (me_var 1)) (blkOk_by (by first | rfl | decide +kernel)) (by decide) (fun _ _ _ _ _ => (mg_name 4 b.hN)) (fun _ _ _ _ _ => mts_nil) (fun _ _ _ _ _ => (me_toTuple rfl (g_tuple e) (ma_cons (me_call sndP gok_posn (ok_marks_of e) (kb_marks_of e) (b.room.mono (by decide)) b.gu takes_none rfl (g_marks_of e) (kp_marks_of e) (ma_cons (me_fld (g_Net e) (c_Net e) (n_Net_tasks e) (me_var 0)) (ma_cons (me_var 4) ma_nil)) mk_nil) ma_nil)))) ma_nil)))))))))
theorem sc_Net___len__ : FnScope N_Net___len__ ["self"] (defScope st_Net___len__) := ⟨rfl, rfl, rfl, by decide +kernel, rfl, by decide +kernel, by decide +kernel⟩
theorem ok_Net___len__ (e : En K mg) : FnG P w K mg base 2 (He.ma K (He.ga K "Net") "__len__") (fdK K ("Net", some "__len__")) ["self"] (spM ⟨K, mg⟩ 1 F_Net___len__) :=
  FnG.of (fd_at e.c 14 (d := d_Net___len__)) sc_Net___len__ fun _ _ _ _ _ _ b => (mps_one (mp_ret (me_len rfl (g_len e) (ma_cons (me_fld (g_Net e) (c_Net e) (n_Net_tasks e) (me_var 0)) ma_nil))))
theorem sc_check_task : FnScope N_check_task ["net", "task"] (defScope st_check_task) := ⟨rfl, rfl, rfl, by decide +kernel, rfl, by decide +kernel, by decide +kernel⟩
theorem ok_check_task (e : En K mg) : FnG P w K mg base 5 (He.ga K "check_task") (fdK K ("check_task", none)) ["net", "task"] (spM ⟨K, mg⟩ 2 F_check_task) :=
  FnG.of (fd_at e.c 15 (d := d_check_task)) sc_check_task fun _ _ _ _ _ _ b => (mps_one (mp_if (mt_not (mt_val (me_call sndP gok_posn (ok_is_index e) (kb_is_index e) (b.room.mono (by decide)) b.gu b.tk rfl (g_is_index e) (kp_is_index e) (ma_cons (me_var 1) (ma_cons (me_len rfl (g_len e) (ma_cons (me_fld (g_Net e) (c_Net e) (n_Net_tasks e) (me_var 0)) ma_nil)) ma_nil)) mk_nil)))
  (mps_one mp_no)
  mps_nil))
theorem sc_Net_ends : FnScope N_Net_ends ["self", "task"] (defScope st_Net_ends) := ⟨rfl, rfl, rfl, by decide +kernel, rfl, by decide +kernel, by decide +kernel⟩
theorem ok_Net_ends (e : En K mg) : FnG P w K mg base 6 (He.ma K (He.ga K "Net") "ends") (fdK K ("Net", some "ends")) ["self", "task"] (spM ⟨K, mg⟩ 2 F_Net_ends) :=
  FnG.of (fd_at e.c 16 (d := d_Net_ends)) sc_Net_ends fun _ _ _ _ _ _ b => (mps_cons (mp_expr (me_call sndP gok_posn (ok_check_task e) (kb_check_task e) (b.room.mono (by decide)) b.gu b.tk rfl (g_check_task e) (kp_check_task e) (ma_cons (me_var 0) (ma_cons (me_var 1) ma_nil)) mk_nil))
  (mps_one (mp_ret (me_ix (me_fld (g_Net e) (c_Net e) (n_Net__ends e) (me_var 0)) (me_var 1)))))
theorem sc_u_is_last : FnScope N_u_is_last ["net", "node", "value"] (defScope st_u_is_last) := ⟨rfl, rfl, rfl, by decide +kernel, rfl, by decide +kernel, by decide +kernel⟩
theorem ok_u_is_last (e : En K mg) : FnG P w K mg base 7 (He.ga K "_is_last") (fdK K ("_is_last", none)) ["net", "node", "value"] (spM ⟨K, mg⟩ 3 F_u_is_last) :=
  FnG.of (fd_at e.c 17 (d := d_u_is_last)) sc_u_is_last fun _ _ _ _ _ _ b => (mps_one (mp_ret (me_or (me_isN (me_var 2) me_non) (me_one (me_and (me_call sndP gok_posn (ok_is_index e) (kb_is_index e) (b.room.mono (by decide)) b.gu b.tk rfl (g_is_index e) (kp_is_index e) (ma_cons (me_var 2) (ma_cons (me_lenO (g_Net e) (c_Net e) (m_Net___len__ e).at_ (m_Net___len__ e).fn (ok_Net___len__ e) (kb_Net___len__ e) (fun _ => rfl) (b.room.mono (by decide)) b.gu b.tk rfl (g_len e) (me_var 0)) ma_nil)) mk_nil) (me_one (me_in b.u65 (me_var 1) (me_meth (g_Net e) (c_Net e) (m_Net_ends e) sndP gok_posn (ok_Net_ends e) (kb_Net_ends e) (b.room.mono (by decide)) b.gu b.tk (me_var 0) (ma_cons (me_var 2) ma_nil) mk_nil))))))))
theorem sc_is_lasts : FnScope N_is_lasts ["net", "value"] (defScope st_is_lasts) := ⟨rfl, rfl, rfl, by decide +kernel, rfl, by decide +kernel, by decide +kernel⟩
theorem ok_is_lasts (e : En K mg) : FnG P w K mg base 8 (He.ga K "is_lasts") (fdK K ("is_lasts", none)) ["net", "value"] (spM ⟨K, mg⟩ 2 F_is_lasts) :=
  FnG.of (fd_at e.c 18 (d := d_is_lasts)) sc_is_lasts fun _ _ _ _ _ _ b => (mps_cons (mp_if (mt_w (mw_or (mt_not (mt_val (me_call sndP gok_posn (ok_is_row e) (kb_is_row e) (b.room.mono (by decide)) b.gu b.tk rfl (g_is_row e) (kp_is_row e) (ma_cons (me_var 1) ma_nil) mk_nil))) (mw_or1 (mt_ne b.u64 (me_len rfl (g_len e) (ma_cons (me_var 1) ma_nil)) (me_fld (g_Net e) (c_Net e) (n_Net_nodes e) (me_var 0))))))
  (mps_one (mp_ret me_bl))
  mps_nil)
  (mps_one (mp_ret (me_all b.calm rfl (g_all e) (ma_cons (me_lc (own := [("node", 2), ("item", 3)]) (is := [2, 3]) snd_asLst b.calm b.hN (mi_enu rfl (g_enumerate e) (me_var 1)) (blkOk_by (by first | rfl | decide +kernel)) (by decide) (fun _ _ _ _ _ => (mg_tup b.calm (mgs_cons (mg_name 2 b.hN) (mgs_cons (mg_name 3 b.hN) mgs_nil)))) (fun _ _ _ _ _ => mts_nil) (fun _ _ _ _ _ => (me_call sndP gok_posn (ok_u_is_last e) (kb_u_is_last e) (b.room.mono (by decide)) b.gu takes_none rfl (g__is_last e) (kp_u_is_last e) (ma_cons (me_var 0) (ma_cons (me_var 2) (ma_cons (me_var 3) ma_nil))) mk_nil))) ma_nil)))))
theorem sc_check_lasts : FnScope N_check_lasts ["net", "lasts"] (defScope st_check_lasts) := ⟨rfl, rfl, rfl, by decide +kernel, rfl, by decide +kernel, by decide +kernel⟩
theorem ok_check_lasts (e : En K mg) : FnG P w K mg base 9 (He.ga K "check_lasts") (fdK K ("check_lasts", none)) ["net", "lasts"] (spM ⟨K, mg⟩ 2 F_check_lasts) :=
  FnG.of (fd_at e.c 19 (d := d_check_lasts)) sc_check_lasts fun _ _ _ _ _ _ b => (mps_one (mp_if (mt_not (mt_val (me_call sndP gok_posn (ok_is_lasts e) (kb_is_lasts e) (b.room.mono (by decide)) b.gu b.tk rfl (g_is_lasts e) (kp_is_lasts e) (ma_cons (me_var 0) (ma_cons (me_var 1) ma_nil)) mk_nil)))
  (mps_one mp_no)
  mps_nil))
theorem sc_is_load : FnScope N_is_load ["net", "value"] (defScope st_is_load) := ⟨rfl, rfl, rfl, by decide +kernel, rfl, by decide +kernel, by decide +kernel⟩
theorem ok_is_load (e : En K mg) : FnG P w K mg base 4 (He.ga K "is_load") (fdK K ("is_load", none)) ["net", "value"] (spM ⟨K, mg⟩ 2 F_is_load) :=
  FnG.of (fd_at e.c 20 (d := d_is_load)) sc_is_load fun _ _ _ _ _ _ b => (mps_cons (mp_if (mt_w (mw_or (mt_not (mt_val (me_call sndP gok_posn (ok_is_row e) (kb_is_row e) (b.room.mono (by decide)) b.gu b.tk rfl (g_is_row e) (kp_is_row e) (ma_cons (me_var 1) ma_nil) mk_nil))) (mw_or1 (mt_ne b.u64 (me_len rfl (g_len e) (ma_cons (me_var 1) ma_nil)) (me_lenO (g_Net e) (c_Net e) (m_Net___len__ e).at_ (m_Net___len__ e).fn (ok_Net___len__ e) (kb_Net___len__ e) (fun _ => rfl) (b.room.mono (by decide)) b.gu b.tk rfl (g_len e) (me_var 0))))))
  (mps_one (mp_ret me_bl))
  mps_nil)
  (mps_one (mp_ret (me_all b.calm rfl (g_all e) (ma_cons (me_lc (own := [("item", 2)]) (is := [2]) snd_asLst b.calm b.hN (mi_seq (me_var 1)) (blkOk_by (by first | rfl | decide +kernel)) (by decide) (fun _ _ _ _ _ => (mg_name 2 b.hN)) (fun _ _ _ _ _ => mts_nil) (fun _ _ _ _ _ => (me_call sndP gok_posn (ok_is_count e) (kb_is_count e) (b.room.mono (by decide)) b.gu takes_none rfl (g_is_count e) (kp_is_count e) (ma_cons (me_var 2) ma_nil) mk_nil))) ma_nil)))))
theorem sc_check_load : FnScope N_check_load ["net", "load"] (defScope st_check_load) := ⟨rfl, rfl, rfl, by decide +kernel, rfl, by decide +kernel, by decide +kernel⟩
theorem ok_check_load (e : En K mg) : FnG P w K mg base 5 (He.ga K "check_load") (fdK K ("check_load", none)) ["net", "load"] (spM ⟨K, mg⟩ 2 F_check_load) :=
  FnG.of (fd_at e.c 21 (d := d_check_load)) sc_check_load fun _ _ _ _ _ _ b => (mps_one (mp_if (mt_not (mt_val (me_call sndP gok_posn (ok_is_load e) (kb_is_load e) (b.room.mono (by decide)) b.gu b.tk rfl (g_is_load e) (kp_is_load e) (ma_cons (me_var 0) (ma_cons (me_var 1) ma_nil)) mk_nil)))
  (mps_one mp_no)
  mps_nil))
theorem sc_State___init__ : FnScope N_State___init__ ["self", "net", "load", "lasts"] (defScope st_State___init__) := ⟨rfl, rfl, rfl, by decide +kernel, rfl, by decide +kernel, by decide +kernel⟩
theorem ok_State___init__ (e : En K mg) : FnG P w K mg base 10 (He.ma K (He.ga K "State") "__init__") (fdK K ("State", some "__init__")) ["self", "net", "load", "lasts"] (spM ⟨K, mg⟩ 4 F_State___init__) :=
  FnG.of (fd_at e.c 22 (d := d_State___init__)) sc_State___init__ fun _ _ _ _ _ _ b => (mps_cons (mp_expr (me_call sndP gok_posn (ok_check_load e) (kb_check_load e) (b.room.mono (by decide)) b.gu b.tk rfl (g_check_load e) (kp_check_load e) (ma_cons (me_var 1) (ma_cons (me_var 2) ma_nil)) mk_nil))
  (mps_cons (mp_if (mt_notN (me_var 3) me_non)
  (mps_one (mp_expr (me_call sndP gok_posn (ok_check_lasts e) (kb_check_lasts e) (b.room.mono (by decide)) b.gu b.tk rfl (g_check_lasts e) (kp_check_lasts e) (ma_cons (me_var 1) (ma_cons (me_var 3) ma_nil)) mk_nil)))
  mps_nil)
  (mps_cons (mp_fld (g_State e) (c_State e) (n_State_net e) (me_var 0) (me_var 1))
  (mps_cons (mp_fld (g_State e) (c_State e) (n_State_load e) (me_var 0) (me_toTuple rfl (g_tuple e) (ma_cons (me_var 2) ma_nil)))
  (mps_one (mp_fld (g_State e) (c_State e) (n_State_lasts e) (me_var 0) (me_if (mt_isN (me_var 3) me_non) (me_mulT (me_tup (ma_cons me_non ma_nil)) (me_fld (g_Net e) (c_Net e) (n_Net_nodes e) (me_var 1))) (me_toTuple rfl (g_tuple e) (ma_cons (me_var 3) ma_nil)))))))))
theorem sc_u_law_bars : FnScope N_u_law_bars ["world", "lasts", "task"] (defScope st_u_law_bars) := ⟨rfl, rfl, rfl, by decide +kernel, rfl, by decide +kernel, by decide +kernel⟩
theorem ok_u_law_bars (e : En K mg) : FnG P w K mg base 2 (He.ga K "_law_bars") (fdK K ("_law_bars", none)) ["world", "lasts", "task"] (spM ⟨K, mg⟩ 3 F_u_law_bars) :=
  FnG.of (fd_at e.c 23 (d := d_u_law_bars)) sc_u_law_bars fun _ _ _ _ _ _ b => (mps_one (mp_ret (me_lc (own := [("node", 3), ("minds", 4)]) (is := [3, 4]) snd_asLst b.calm b.hN (mi_seq (me_ix (me_ix (me_var 0) me_int) (me_var 2))) (blkOk_by (by first | rfl | decide +kernel)) (by decide) (fun _ _ _ _ _ => (mg_tup b.calm (mgs_cons (mg_name 3 b.hN) (mgs_cons (mg_name 4 b.hN) mgs_nil)))) (fun _ _ _ _ _ => (mts_one (mt_w (mw_and (mt_val (me_var 4)) (mw_and1 (mt_eq b.u64 (me_ix (me_var 1) (me_var 3)) (me_var 2))))))) (fun _ _ _ _ _ => (me_var 3)))))
theorem sc_u_law_at : FnScope N_u_law_at ["world", "node"] (defScope st_u_law_at) := ⟨rfl, rfl, rfl, by decide +kernel, rfl, by decide +kernel, by decide +kernel⟩
theorem ok_u_law_at (e : En K mg) : FnG P w K mg base 2 (He.ga K "_law_at") (fdK K ("_law_at", none)) ["world", "node"] (spM ⟨K, mg⟩ 2 F_u_law_at) :=
  FnG.of (fd_at e.c 24 (d := d_u_law_at)) sc_u_law_at fun _ _ _ _ _ _ b => (mps_cons (mp_if (mt_gt (me_len rfl (g_len e) (ma_cons (me_var 0) ma_nil)) me_int)
  (mps_one (mp_ret (me_ix (me_ix (me_var 0) me_int) (me_var 1))))
  mps_nil)
  (mps_one (mp_ret (me_lc (own := [("k", 2)]) (is := [2]) snd_asLst b.calm b.hN (mi_rng1 rfl (g_range e) (me_len rfl (g_len e) (ma_cons (me_ix (me_var 0) me_int) ma_nil))) (blkOk_by (by first | rfl | decide +kernel)) (by decide) (fun _ _ _ _ _ => (mg_name 2 b.hN)) (fun _ _ _ _ _ => (mts_one (mt_in b.u65 (me_var 1) (me_lc (own := [("end", 3), ("minds", 4)]) (is := [3, 4]) snd_asLst b.calm b.hN (mi_seq (me_ix (me_ix (me_var 0) me_int) (me_var 2))) (blkOk_by (by first | rfl | decide +kernel)) (by decide) (fun _ _ _ _ _ => (mg_tup b.calm (mgs_cons (mg_name 3 b.hN) (mgs_cons (mg_name 4 b.hN) mgs_nil)))) (fun _ _ _ _ _ => mts_nil) (fun _ _ _ _ _ => (me_var 3)))))) (fun _ _ _ _ _ => (me_var 2))))))
theorem sc_u_law_known : FnScope N_u_law_known ["world"] (defScope st_u_law_known) := ⟨rfl, rfl, rfl, by decide +kernel, rfl, by decide +kernel, by decide +kernel⟩
theorem ok_u_law_known (e : En K mg) : FnG P w K mg base 3 (He.ga K "_law_known") (fdK K ("_law_known", none)) ["world"] (spM ⟨K, mg⟩ 1 F_u_law_known) :=
  FnG.of (fd_at e.c 25 (d := d_u_law_known)) sc_u_law_known fun _ _ _ _ _ _ b => (mps_one (mp_ret (me_lst (ma_cons (me_ix (me_var 0) me_int) (ma_cons (me_ix (me_var 0) me_int) (ma_cons (me_lc (own := [("node", 1)]) (is := [1]) snd_asLst b.calm b.hN (mi_rng1 rfl (g_range e) (me_ix (me_var 0) me_int)) (blkOk_by (by first | rfl | decide +kernel)) (by decide) (fun _ _ _ _ _ => (mg_name 1 b.hN)) (fun _ _ _ _ _ => mts_nil) (fun _ _ _ _ _ => (me_call sndP gok_posn (ok_u_law_at e) (kb_u_law_at e) (b.room.mono (by decide)) b.gu takes_none rfl (g__law_at e) (kp_u_law_at e) (ma_cons (me_var 0) (ma_cons (me_var 1) ma_nil)) mk_nil))) ma_nil))))))
theorem sc_u_law_take : FnScope N_u_law_take ["box", "many"] (defScope st_u_law_take) := ⟨rfl, rfl, rfl, by decide +kernel, rfl, by decide +kernel, by decide +kernel⟩
theorem ok_u_law_take (e : En K mg) : FnG P w K mg base 2 (He.ga K "_law_take") (fdK K ("_law_take", none)) ["box", "many"] (spM ⟨K, mg⟩ 2 F_u_law_take) :=
  FnG.of (fd_at e.c 26 (d := d_u_law_take)) sc_u_law_take fun _ _ _ _ _ _ b => (mps_cons (mp_if (mt_w (mw_and (mt_val (me_ix (me_var 0) me_int)) (mw_and1 (mt_gt (me_ix (me_var 0) me_int) me_int))))
  (mps_cons (mp_set (i := 3) b.hN (me_mod (me_toInt rfl (g_int e) (ma_cons (me_ix (me_var 0) me_int) ma_nil)) (me_var 1)))
  (mps_cons (mp_item (me_var 0) me_int (me_div (me_ix (me_var 0) me_int) (me_var 1)))
  (mps_one (mp_ret (me_var 3)))))
  mps_nil)
  (mps_cons (mp_item (me_var 0) me_int (me_add (me_ix (me_var 0) me_int) me_int))
  (mps_cons (mp_set (i := 2) b.hN (me_mod (me_toInt rfl (g_int e) (ma_cons (me_pow (me_add (me_add (me_ix (me_var 0) me_int) (me_mul me_int (me_ix (me_var 0) me_int))) me_int) me_int) ma_nil)) me_int))
  (mps_one (mp_ret (me_mod (me_div (me_mod (me_toInt rfl (g_int e) (ma_cons (me_pow (me_add (me_mul (me_var 2) me_int) (me_mul me_int (me_ix (me_var 0) me_int))) me_int) ma_nil)) me_int) me_int) (me_var 1)))))))
theorem sc_u_law_large : FnScope N_u_law_large ["box", "menu"] (defScope st_u_law_large) := ⟨rfl, rfl, rfl, by decide +kernel, rfl, by decide +kernel, by decide +kernel⟩
theorem ok_u_law_large (e : En K mg) : FnG P w K mg base 4 (He.ga K "_law_large") (fdK K ("_law_large", none)) ["box", "menu"] (spM ⟨K, mg⟩ 2 F_u_law_large) :=
  FnG.of (fd_at e.c 27 (d := d_u_law_large)) sc_u_law_large fun _ _ _ _ _ _ b => (mps_cons (mp_asg (is := [2, 3, 4, 5]) (me_tup (ma_cons (me_sub me_int (me_call sndB gok_posn (ok_u_law_take e) (kb_u_law_take e) (b.room.mono (by decide)) b.gu b.tk rfl (g__law_take e) (kp_u_law_take e) (ma_cons (me_var 0) (ma_cons me_int ma_nil)) mk_nil)) (ma_cons (me_sub me_int (me_call sndB gok_posn (ok_u_law_take e) (kb_u_law_take e) (b.room.mono (by decide)) b.gu b.tk rfl (g__law_take e) (kp_u_law_take e) (ma_cons (me_var 0) (ma_cons me_int ma_nil)) mk_nil)) (ma_cons (me_cel ma_nil) (ma_cons (me_cel ma_nil) ma_nil))))) (mg_tup b.calm (mgs_cons (mg_name 2 b.hN) (mgs_cons (mg_name 3 b.hN) (mgs_cons (mg_name 4 b.hN) (mgs_cons (mg_name 5 b.hN) mgs_nil))))))
  (mps_cons (mp_for (is := [6]) b.po b.calm (mi_rng1 rfl (g_range e) (me_var 3)) (mg_name 6 b.hN)
  (mps_cons (mp_set (i := 10) b.hN (me_sset b.calm rfl (g_sorted e) rfl (g_set e) (me_lst (ma_cons (me_call sndB gok_posn (ok_u_law_take e) (kb_u_law_take e) (b.room.mono (by decide)) b.gu b.tk rfl (g__law_take e) (kp_u_law_take e) (ma_cons (me_var 0) (ma_cons (me_var 2) ma_nil)) mk_nil) (ma_cons (me_call sndB gok_posn (ok_u_law_take e) (kb_u_law_take e) (b.room.mono (by decide)) b.gu b.tk rfl (g__law_take e) (kp_u_law_take e) (ma_cons (me_var 0) (ma_cons (me_var 2) ma_nil)) mk_nil) ma_nil)))))
  (mps_cons (mp_expr (me_app (me_var 4) (ma_cons (me_toTuple rfl (g_tuple e) (ma_cons (me_lc (own := [("end", 12)]) (is := [12]) snd_asLst b.calm b.hN (mi_seq (me_var 10)) (blkOk_by (by first | rfl | decide +kernel)) (by decide) (fun _ _ _ _ _ => (mg_name 12 b.hN)) (fun _ _ _ _ _ => mts_nil) (fun _ _ _ _ _ => (me_tup (ma_cons (me_var 12) (ma_cons (me_gt (me_call sndB gok_posn (ok_u_law_take e) (kb_u_law_take e) (b.room.mono (by decide)) b.gu takes_none rfl (g__law_take e) (kp_u_law_take e) (ma_cons (me_var 0) (ma_cons me_int ma_nil)) mk_nil) me_int) ma_nil))))) ma_nil)) ma_nil)))
  (mps_one (mp_expr (me_app (me_var 5) (ma_cons (me_ix (me_var 1) (me_call sndB gok_posn (ok_u_law_take e) (kb_u_law_take e) (b.room.mono (by decide)) b.gu b.tk rfl (g__law_take e) (kp_u_law_take e) (ma_cons (me_var 0) (ma_cons (me_len rfl (g_len e) (ma_cons (me_var 1) ma_nil)) ma_nil)) mk_nil)) ma_nil)))))))
  (mps_frz 4 (mps_cons (mp_set (i := 7) b.hN (me_call sndP gok_posn (ok_u_law_known e) (kb_u_law_known e) (b.room.mono (by decide)) b.gu b.tk rfl (g__law_known e) (kp_u_law_known e) (ma_cons (me_lst (ma_cons (me_var 2) (ma_cons (me_var 4) ma_nil))) ma_nil) mk_nil))
  (mps_cons (mp_set (i := 8) b.hN (me_cel ma_nil))
  (mps_cons (mp_for (is := [9]) b.po b.calm (mi_rng1 rfl (g_range e) (me_var 2)) (mg_name 9 b.hN)
  (mps_cons (mp_set (i := 11) b.hN (me_call sndP gok_posn (ok_u_law_at e) (kb_u_law_at e) (b.room.mono (by decide)) b.gu b.tk rfl (g__law_at e) (kp_u_law_at e) (ma_cons (me_var 7) (ma_cons (me_var 9) ma_nil)) mk_nil))
  (mps_one (mp_expr (me_app (me_var 8) (ma_cons (me_if (mt_w (mw_or (mt_eq b.u64 (me_var 11) (me_lst ma_nil)) (mw_or1 (mt_eq b.u64 (me_call sndB gok_posn (ok_u_law_take e) (kb_u_law_take e) (b.room.mono (by decide)) b.gu b.tk rfl (g__law_take e) (kp_u_law_take e) (ma_cons (me_var 0) (ma_cons me_int ma_nil)) mk_nil) me_int)))) me_non (me_ix (me_var 11) (me_call sndB gok_posn (ok_u_law_take e) (kb_u_law_take e) (b.room.mono (by decide)) b.gu b.tk rfl (g__law_take e) (kp_u_law_take e) (ma_cons (me_var 0) (ma_cons (me_max b.calm rfl (g_max e) (ma_cons me_int (ma_cons (me_len rfl (g_len e) (ma_cons (me_var 11) ma_nil)) ma_nil))) ma_nil)) mk_nil))) ma_nil))))))
  (mps_one (mp_ret (me_lst (ma_cons (me_var 7) (ma_cons (me_toTuple rfl (g_tuple e) (ma_cons (me_var 5) ma_nil)) (ma_cons (me_toTuple rfl (g_tuple e) (ma_cons (me_var 8) ma_nil)) ma_nil))))))))))))
theorem sc_u_law_legal : FnScope N_u_law_legal ["world", "load", "lasts"] (defScope st_u_law_legal) := ⟨rfl, rfl, rfl, by decide +kernel, rfl, by decide +kernel, by decide +kernel⟩
theorem ok_u_law_legal (e : En K mg) : FnG P w K mg base 3 (He.ga K "_law_legal") (fdK K ("_law_legal", none)) ["world", "load", "lasts"] (spM ⟨K, mg⟩ 3 F_u_law_legal) :=
  FnG.of (fd_at e.c 28 (d := d_u_law_legal)) sc_u_law_legal fun _ _ _ _ _ _ b => (mps_one (mp_ret (me_lc (own := [("k", 3)]) (is := [3]) snd_asLst b.calm b.hN (mi_rng1 rfl (g_range e) (me_len rfl (g_len e) (ma_cons (me_var 1) ma_nil))) (blkOk_by (by first | rfl | decide +kernel)) (by decide) (fun _ _ _ _ _ => (mg_name 3 b.hN)) (fun _ _ _ _ _ => (mts_one (mt_w (mw_and (mt_gt (me_ix (me_var 1) (me_var 3)) me_int) (mw_and1 (mt_eq b.u64 (me_call sndP gok_posn (ok_u_law_bars e) (kb_u_law_bars e) (b.room.mono (by decide)) b.gu takes_none rfl (g__law_bars e) (kp_u_law_bars e) (ma_cons (me_var 0) (ma_cons (me_var 2) (ma_cons (me_var 3) ma_nil))) mk_nil) (me_lst ma_nil))))))) (fun _ _ _ _ _ => (me_var 3)))))
theorem sc_u_law_listed : FnScope N_u_law_listed ["told", "due"] (defScope st_u_law_listed) := ⟨rfl, rfl, rfl, by decide +kernel, rfl, by decide +kernel, by decide +kernel⟩
theorem ok_u_law_listed (e : En K mg) : FnG P w K mg base 2 (He.ga K "_law_listed") (fdK K ("_law_listed", none)) ["told", "due"] (spM ⟨K, mg⟩ 2 F_u_law_listed) :=
  FnG.of (fd_at e.c 29 (d := d_u_law_listed)) sc_u_law_listed fun _ _ _ _ _ _ b => (mps_cons (mp_if (mt_w (mw_or (mt_not (mt_val (me_is (by decide) rfl (g_isinstance e) rfl (g_list e) boot_list (me_var 0)))) (mw_or1 (mt_ne b.u64 (me_repr b.gu b.u64 rfl (g_repr e) (ma_cons (me_var 0) ma_nil)) (me_repr b.gu b.u64 rfl (g_repr e) (ma_cons (me_var 1) ma_nil))))))
  (mps_one (mp_ret me_bl))
  mps_nil)
  (mps_cons (mp_expr (me_app (me_var 0) (ma_cons me_non ma_nil)))
  (mps_one (mp_ret me_bl))))
theorem sc_u_law_is_state : FnScope N_u_law_is_state ["told", "world", "load", "lasts"] (defScope st_u_law_is_state) := ⟨rfl, rfl, rfl, by decide +kernel, rfl, by decide +kernel, by decide +kernel⟩
theorem ok_u_law_is_state (e : En K mg) : FnG P w K mg base 2 (He.ga K "_law_is_state") (fdK K ("_law_is_state", none)) ["told", "world", "load", "lasts"] (spM ⟨K, mg⟩ 4 F_u_law_is_state) :=
  FnG.of (fd_at e.c 30 (d := d_u_law_is_state)) sc_u_law_is_state fun _ _ _ _ _ _ b => (mps_cons (mp_if (mt_w (mw_or (mt_not (mt_val (me_isC (w_State e) rfl (g_isinstance e) rfl (g_State e) (me_var 0)))) (mw_or (mt_ne b.u64 (me_fld (g_Net e) (c_Net e) (n_Net_nodes e) (me_fld (g_State e) (c_State e) (n_State_net e) (me_var 0))) (me_ix (me_var 1) me_int)) (mw_or1 (mt_ne b.u64 (me_fld (g_Net e) (c_Net e) (n_Net_tasks e) (me_fld (g_State e) (c_State e) (n_State_net e) (me_var 0))) (me_toTuple rfl (g_tuple e) (ma_cons (me_ix (me_var 1) me_int) ma_nil)))))))
  (mps_one (mp_ret me_bl))
  mps_nil)
  (mps_one (mp_ret (me_and (me_eq b.u64 (me_repr b.gu b.u64 rfl (g_repr e) (ma_cons (me_fld (g_State e) (c_State e) (n_State_load e) (me_var 0)) ma_nil)) (me_repr b.gu b.u64 rfl (g_repr e) (ma_cons (me_var 2) ma_nil))) (me_one (me_eq b.u64 (me_repr b.gu b.u64 rfl (g_repr e) (ma_cons (me_fld (g_State e) (c_State e) (n_State_lasts e) (me_var 0)) ma_nil)) (me_repr b.gu b.u64 rfl (g_repr e) (ma_cons (me_var 3) ma_nil))))))))
theorem sc_bars_vc : FnScope N_bars_vc ["state", "task"] (defScope st_bars_vc) := ⟨rfl, rfl, rfl, by decide +kernel, rfl, by decide +kernel, by decide +kernel⟩
theorem ok_bars_vc (e : En K mg) : FnG P w K mg base 6 (He.ga K "bars") (fdK K ("bars", none)) ["state", "task"] (spM ⟨K, mg⟩ 2 F_bars_vc) :=
  FnG.of (fd_at e.c 33 (d := d_bars_vc)) sc_bars_vc fun _ _ _ _ _ _ b => (mps_cons (mp_expr (me_call sndP gok_posn (ok_check_task e) (kb_check_task e) (b.room.mono (by decide)) b.gu b.tk rfl (g_check_task e) (kp_check_task e) (ma_cons (me_fld (g_State e) (c_State e) (n_State_net e) (me_var 0)) (ma_cons (me_var 1) ma_nil)) mk_nil))
  (mps_one (mp_ret (me_lc (own := [("node", 2), ("minds", 3)]) (is := [2, 3]) snd_asCel b.calm b.hN (mi_seq (me_ix (me_fld (g_Net e) (c_Net e) (n_Net_tasks e) (me_fld (g_State e) (c_State e) (n_State_net e) (me_var 0))) (me_var 1))) (blkOk_by (by first | rfl | decide +kernel)) (by decide) (fun _ _ _ _ _ => (mg_tup b.calm (mgs_cons (mg_name 2 b.hN) (mgs_cons (mg_name 3 b.hN) mgs_nil)))) (fun _ _ _ _ _ => (mts_one (mt_w (mw_and (mt_val (me_var 3)) (mw_and1 (mt_eq b.u64 (me_ix (me_fld (g_State e) (c_State e) (n_State_lasts e) (me_var 0)) (me_var 2)) (me_var 1))))))) (fun _ _ _ _ _ => (me_var 2))))))
theorem sc_run_vt : FnScope N_run_vt ["state", "task"] (defScope st_run_vt) := ⟨rfl, rfl, rfl, by decide +kernel, rfl, by decide +kernel, by decide +kernel⟩
theorem ok_run_vt (e : En K mg) : FnG P w K mg base 12 (He.ga K "run") (fdK K ("run", none)) ["state", "task"] (spM ⟨K, mg⟩ 2 F_run_vt) :=
  FnG.of (fd_at e.c 34 (d := d_run_vt)) sc_run_vt fun _ _ _ _ _ _ b => (mps_cons (mp_expr (me_call sndP gok_posn (ok_check_task e) (kb_check_task e) (b.room.mono (by decide)) b.gu b.tk rfl (g_check_task e) (kp_check_task e) (ma_cons (me_fld (g_State e) (c_State e) (n_State_net e) (me_var 0)) (ma_cons (me_var 1) ma_nil)) mk_nil))
  (mps_cons (mp_if (mt_eq b.u64 (me_ix (me_fld (g_State e) (c_State e) (n_State_load e) (me_var 0)) (me_var 1)) me_int)
  (mps_one (mp_raise (k := 1) b.calm b.tk (x_NothingLeft e).ox (x_NothingLeft e).ini (x_NothingLeft e).fn (i_NothingLeft e) (b.room.mono (by decide)) (j_NothingLeft e) rfl (g_NothingLeft e) (me_var 1)))
  mps_nil)
  (mps_cons (mp_set (i := 2) b.hN (me_call sndF gok_posn (ok_bars_vc e) (kb_bars_vc e) (b.room.mono (by decide)) b.gu b.tk rfl (g_bars e) (kp_bars_vc e) (ma_cons (me_var 0) (ma_cons (me_var 1) ma_nil)) mk_nil))
  (mps_cons (mp_if (mt_truL (me_var 2))
  (mps_one (mp_raise (k := 1) b.calm b.tk (x_Barred e).ox (x_Barred e).ini (x_Barred e).fn (i_Barred e) (b.room.mono (by decide)) (j_Barred e) rfl (g_Barred e) (me_var 2)))
  mps_nil)
  (mps_cons (mp_set (i := 3) b.hN (me_toListC rfl (g_list e) (ma_cons (me_fld (g_State e) (c_State e) (n_State_load e) (me_var 0)) ma_nil)))
  (mps_cons (mp_aug (a := 3) (b := 1) aug_sub)
  (mps_cons (mp_set (i := 4) b.hN (me_toListC rfl (g_list e) (ma_cons (me_fld (g_State e) (c_State e) (n_State_lasts e) (me_var 0)) ma_nil)))
  (mps_cons (mp_for (is := [5]) b.po b.calm (mi_seq (me_meth (g_Net e) (c_Net e) (m_Net_ends e) sndP gok_posn (ok_Net_ends e) (kb_Net_ends e) (b.room.mono (by decide)) b.gu b.tk (me_fld (g_State e) (c_State e) (n_State_net e) (me_var 0)) (ma_cons (me_var 1) ma_nil) mk_nil)) (mg_name 5 b.hN)
  (mps_one (mp_item (me_var 4) (me_var 5) (me_var 1))))
  (mps_frz 3 (mps_frz 4 (mps_one (mp_ret (me_new (k_State e) gok_posn (fun _ _ _ => rfl) (ok_State___init__ e) (kb_State___init__ e) (b.room.mono (by decide)) b.gu b.tk rfl (g_State e) (ma_cons (me_fld (g_State e) (c_State e) (n_State_net e) (me_var 0)) (ma_cons (me_var 3) (ma_cons (me_var 4) ma_nil))) mk_nil)))))))))))))
theorem sc_u_law_met : FnScope N_u_law_met ["here", "task"] (defScope st_u_law_met) := ⟨rfl, rfl, rfl, by decide +kernel, rfl, by decide +kernel, by decide +kernel⟩
theorem ok_u_law_met (e : En K mg) : FnG P w K mg base 13 (He.ga K "_law_met") (fdK K ("_law_met", none)) ["here", "task"] (spM ⟨K, mg⟩ 2 F_u_law_met) :=
  FnG.of (fd_at e.c 35 (d := d_u_law_met)) sc_u_law_met fun _ _ _ _ _ _ b => (mps_one (mp_try (i := 2) (ok := ["NothingLeft", "Barred"]) (l := [⟨"NothingLeft", He.ga K "NothingLeft", [.tx "nothing", .fd "task"]⟩, ⟨"Barred", He.ga K "Barred", [.tx "barred", .fd "nodes"]⟩]) rfl rfl (let ⟨_, k, n⟩ := e.ns; cls_of (qs := excs) (base := "OtherError") k n e.x (by simp [excs]) (by
    intro z hz
    simp only [List.mem_cons, List.not_mem_nil, or_false] at hz
    rcases hz with rfl | rfl
    · exact ⟨⟨"NothingLeft", "task"⟩, by simp [excs], rfl, rfl⟩
    · exact ⟨⟨"Barred", "nodes"⟩, by simp [excs], rfl, rfl⟩)) (catch_ret (q := ⟨"NothingLeft", He.ga K "NothingLeft", [.tx "nothing", .fd "task"]⟩) rfl b.hN rfl rfl ⟨rfl, by decide, .inl (g_NothingLeft e)⟩ (fun _ _ _ _ _ hz hf => (its_cons (it_if hz rfl (g_isinstance e) rfl (g_OtherError e) (by decide) (y_NothingLeft e) (pv 2)) (its_cons (it_fd (x_NothingLeft e).xf (x_NothingLeft e).no hz hf (pv 2)) its_nil))) (catch_ret (q := ⟨"Barred", He.ga K "Barred", [.tx "barred", .fd "nodes"]⟩) rfl b.hN rfl rfl ⟨rfl, by decide, .inl (g_Barred e)⟩ (fun _ _ _ _ _ hz hf => (its_cons (it_if hz rfl (g_isinstance e) rfl (g_OtherError e) (by decide) (y_Barred e) (pv 2)) (its_cons (it_fd (x_Barred e).xf (x_Barred e).no hz hf (pv 2)) its_nil))) (catches_nil rfl rfl b.tk))) fun W2 pn2 xe2 tk po => let b : Bc (Cx.tr _ pn2 xe2) W2 _ := ⟨b.calm, tk, po, b.gu, b.room, b.hN⟩
  (mps_one (mp_ret (me_lst (ma_cons me_str (ma_cons (me_call sndT gok_posn (ok_run_vt e) (kb_run_vt e) (b.room.mono (by decide)) b.gu b.tk rfl (g_run e) (kp_run_vt e) (ma_cons (me_var 0) (ma_cons (me_var 1) ma_nil)) mk_nil) ma_nil)))))))
theorem sc_u_law_ran : FnScope N_u_law_ran ["world", "load", "lasts", "task"] (defScope st_u_law_ran) := ⟨rfl, rfl, rfl, by decide +kernel, rfl, by decide +kernel, by decide +kernel⟩
theorem ok_u_law_ran (e : En K mg) : FnG P w K mg base 2 (He.ga K "_law_ran") (fdK K ("_law_ran", none)) ["world", "load", "lasts", "task"] (spM ⟨K, mg⟩ 4 F_u_law_ran) :=
  FnG.of (fd_at e.c 36 (d := d_u_law_ran)) sc_u_law_ran fun _ _ _ _ _ _ b => (mps_cons (mp_setLc (i := 4) (own := [("k", 6)]) (is := [6]) snd_asLst b.calm b.hN rfl rfl (sw_true rfl rfl rfl rfl) (mi_rng1 rfl (g_range e) (me_len rfl (g_len e) (ma_cons (me_var 1) ma_nil))) (blkOk_by (by first | rfl | decide +kernel)) (by decide) (fun _ _ _ _ _ => (mg_name 6 b.hN)) (fun _ _ _ _ _ => mts_nil) (fun _ _ _ _ _ => (me_sub (me_ix (me_var 1) (me_var 6)) (me_toInt rfl (g_int e) (ma_cons (me_eq b.u64 (me_var 6) (me_var 3)) ma_nil)))))
  (mps_cons (mp_set (i := 5) b.hN (me_lc (own := [("node", 7), ("minds", 8)]) (is := [7, 8]) snd_asLst b.calm b.hN (mi_seq (me_ix (me_ix (me_var 0) me_int) (me_var 3))) (blkOk_by (by first | rfl | decide +kernel)) (by decide) (fun _ _ _ _ _ => (mg_tup b.calm (mgs_cons (mg_name 7 b.hN) (mgs_cons (mg_name 8 b.hN) mgs_nil)))) (fun _ _ _ _ _ => mts_nil) (fun _ _ _ _ _ => (me_var 7))))
  (mps_one (mp_ret (me_tup (ma_cons (me_toTuple rfl (g_tuple e) (ma_cons (me_var 4) ma_nil)) (ma_cons (me_toTuple rfl (g_tuple e) (ma_cons (me_lc (own := [("node", 7)]) (is := [7]) snd_asLst b.calm b.hN (mi_rng1 rfl (g_range e) (me_ix (me_var 0) me_int)) (blkOk_by (by first | rfl | decide +kernel)) (by decide) (fun _ _ _ _ _ => (mg_name 7 b.hN)) (fun _ _ _ _ _ => mts_nil) (fun _ _ _ _ _ => (me_if (mt_in b.u65 (me_var 7) (me_var 5)) (me_var 3) (me_ix (me_var 2) (me_var 7))))) ma_nil)) ma_nil)))))))
theorem sc_u_law_run_right : FnScope N_u_law_run_right ["world", "here", "load", "lasts", "task"] (defScope st_u_law_run_right) := ⟨rfl, rfl, rfl, by decide +kernel, rfl, by decide +kernel, by decide +kernel⟩
theorem ok_u_law_run_right (e : En K mg) : FnG P w K mg base 14 (He.ga K "_law_run_right") (fdK K ("_law_run_right", none)) ["world", "here", "load", "lasts", "task"] (spM ⟨K, mg⟩ 5 F_u_law_run_right) :=
  FnG.of (fd_at e.c 37 (d := d_u_law_run_right)) sc_u_law_run_right fun _ _ _ _ _ _ b => (mps_cons (mp_par (i := 5) (j := 6) b.calm b.hN (ma_cons (me_call sndP gok_posn (ok_u_law_bars e) (kb_u_law_bars e) (b.room.mono (by decide)) b.gu b.tk rfl (g__law_bars e) (kp_u_law_bars e) (ma_cons (me_var 0) (ma_cons (me_var 3) (ma_cons (me_var 4) ma_nil))) mk_nil) (ma_cons (me_call sndT gok_posn (ok_u_law_met e) (kb_u_law_met e) (b.room.mono (by decide)) b.gu b.tk rfl (g__law_met e) (kp_u_law_met e) (ma_cons (me_var 1) (ma_cons (me_var 4) ma_nil)) mk_nil) ma_nil)))
  (mps_cons (mp_if (mt_eq b.u64 (me_ix (me_var 2) (me_var 4)) me_int)
  (mps_one (mp_ret (me_eq b.u64 (me_repr b.gu b.u64 rfl (g_repr e) (ma_cons (me_var 6) ma_nil)) (me_repr b.gu b.u64 rfl (g_repr e) (ma_cons (me_lst (ma_cons me_str (ma_cons (me_var 4) ma_nil))) ma_nil)))))
  mps_nil)
  (mps_cons (mp_if (mt_ne b.u64 (me_var 5) (me_lst ma_nil))
  (mps_one (mp_ret (me_and (me_eq b.u64 (me_ix (me_var 6) me_int) me_str) (me_one (me_call sndB gok_posn (ok_u_law_listed e) (kb_u_law_listed e) (b.room.mono (by decide)) b.gu b.tk rfl (g__law_listed e) (kp_u_law_listed e) (ma_cons (me_ix (me_var 6) me_int) (ma_cons (me_var 5) ma_nil)) mk_nil)))))
  mps_nil)
  (mps_cons (mp_set (i := 7) b.hN (me_call sndP gok_posn (ok_u_law_ran e) (kb_u_law_ran e) (b.room.mono (by decide)) b.gu b.tk rfl (g__law_ran e) (kp_u_law_ran e) (ma_cons (me_var 0) (ma_cons (me_var 2) (ma_cons (me_var 3) (ma_cons (me_var 4) ma_nil)))) mk_nil))
  (mps_one (mp_ret (me_and (me_eq b.u64 (me_ix (me_var 6) me_int) me_str) (me_one (me_call sndP gok_posn (ok_u_law_is_state e) (kb_u_law_is_state e) (b.room.mono (by decide)) b.gu b.tk rfl (g__law_is_state e) (kp_u_law_is_state e) (ma_cons (me_ix (me_var 6) me_int) (ma_cons (me_var 0) (ma_cons (me_ix (me_var 7) me_int) (ma_cons (me_ix (me_var 7) me_int) ma_nil)))) mk_nil)))))))))
theorem sc_bars : FnScope N_bars ["state", "task"] (defScope st_bars) := ⟨rfl, rfl, rfl, by decide +kernel, rfl, by decide +kernel, by decide +kernel⟩
theorem ok_bars (e : En K mg) : FnG P w K mg base 6 (He.ga K "bars") (fdK K ("bars", none)) ["state", "task"] (spM ⟨K, mg⟩ 2 F_bars) :=
  FnG.of (fd_at e.c 33 (d := d_bars_vc)) sc_bars fun _ _ _ _ _ _ b => (mps_cons (mp_expr (me_call sndP gok_posn (ok_check_task e) (kb_check_task e) (b.room.mono (by decide)) b.gu b.tk rfl (g_check_task e) (kp_check_task e) (ma_cons (me_fld (g_State e) (c_State e) (n_State_net e) (me_var 0)) (ma_cons (me_var 1) ma_nil)) mk_nil))
  (mps_one (mp_ret (me_lc (own := [("node", 2), ("minds", 3)]) (is := [2, 3]) snd_asLst b.calm b.hN (mi_seq (me_ix (me_fld (g_Net e) (c_Net e) (n_Net_tasks e) (me_fld (g_State e) (c_State e) (n_State_net e) (me_var 0))) (me_var 1))) (blkOk_by (by first | rfl | decide +kernel)) (by decide) (fun _ _ _ _ _ => (mg_tup b.calm (mgs_cons (mg_name 2 b.hN) (mgs_cons (mg_name 3 b.hN) mgs_nil)))) (fun _ _ _ _ _ => (mts_one (mt_w (mw_and (mt_val (me_var 3)) (mw_and1 (mt_eq b.u64 (me_ix (me_fld (g_State e) (c_State e) (n_State_lasts e) (me_var 0)) (me_var 2)) (me_var 1))))))) (fun _ _ _ _ _ => (me_var 2))))))
theorem sc_can_run : FnScope N_can_run ["state", "task"] (defScope st_can_run) := ⟨rfl, rfl, rfl, by decide +kernel, rfl, by decide +kernel, by decide +kernel⟩
theorem ok_can_run (e : En K mg) : FnG P w K mg base 7 (He.ga K "can_run") (fdK K ("can_run", none)) ["state", "task"] (spM ⟨K, mg⟩ 2 F_can_run) :=
  FnG.of (fd_at e.c 38 (d := d_can_run)) sc_can_run fun _ _ _ _ _ _ b => (mps_one (mp_ret (me_and (me_gt (me_ix (me_fld (g_State e) (c_State e) (n_State_load e) (me_var 0)) (me_var 1)) me_int) (me_one (me_eq b.u64 (me_call sndP gok_posn (ok_bars e) (kb_bars e) (b.room.mono (by decide)) b.gu b.tk rfl (g_bars e) (kp_bars e) (ma_cons (me_var 0) (ma_cons (me_var 1) ma_nil)) mk_nil) (me_lst ma_nil))))))
theorem sc_legal_vc : FnScope N_legal_vc ["state"] (defScope st_legal_vc) := ⟨rfl, rfl, rfl, by decide +kernel, rfl, by decide +kernel, by decide +kernel⟩
theorem ok_legal_vc (e : En K mg) : FnG P w K mg base 8 (He.ga K "legal") (fdK K ("legal", none)) ["state"] (spM ⟨K, mg⟩ 1 F_legal_vc) :=
  FnG.of (fd_at e.c 39 (d := d_legal_vc)) sc_legal_vc fun _ _ _ _ _ _ b => (mps_one (mp_ret (me_lc (own := [("task", 1)]) (is := [1]) snd_asCel b.calm b.hN (mi_rng1 rfl (g_range e) (me_lenO (g_Net e) (c_Net e) (m_Net___len__ e).at_ (m_Net___len__ e).fn (ok_Net___len__ e) (kb_Net___len__ e) (fun _ => rfl) (b.room.mono (by decide)) b.gu b.tk rfl (g_len e) (me_fld (g_State e) (c_State e) (n_State_net e) (me_var 0)))) (blkOk_by (by first | rfl | decide +kernel)) (by decide) (fun _ _ _ _ _ => (mg_name 1 b.hN)) (fun _ _ _ _ _ => (mts_one (mt_val (me_call sndP gok_posn (ok_can_run e) (kb_can_run e) (b.room.mono (by decide)) b.gu takes_none rfl (g_can_run e) (kp_can_run e) (ma_cons (me_var 0) (ma_cons (me_var 1) ma_nil)) mk_nil)))) (fun _ _ _ _ _ => (me_var 1)))))
theorem sc_u_law_large_right : FnScope N_u_law_large_right ["box"] (defScope st_u_law_large_right) := ⟨rfl, rfl, rfl, by decide +kernel, rfl, by decide +kernel, by decide +kernel⟩
theorem ok_u_law_large_right (e : En K mg) : FnG P w K mg base 15 (He.ga K "_law_large_right") (fdK K ("_law_large_right", none)) ["box"] (spM ⟨K, mg⟩ 1 F_u_law_large_right) :=
  FnG.of (fd_at e.c 40 (d := d_u_law_large_right)) sc_u_law_large_right fun _ _ _ _ _ _ b => (mps_cons (mp_asg (is := [1, 2, 3]) (me_call sndB gok_posn (ok_u_law_large e) (kb_u_law_large e) (b.room.mono (by decide)) b.gu b.tk rfl (g__law_large e) (kp_u_law_large e) (ma_cons (me_var 0) (ma_cons (me_lst (ma_cons me_int (ma_cons me_int (ma_cons me_int ma_nil)))) ma_nil)) mk_nil) (mg_lst b.calm (mgs_cons (mg_name 1 b.hN) (mgs_cons (mg_name 2 b.hN) (mgs_cons (mg_name 3 b.hN) mgs_nil)))))
  (mps_cons (mp_set (i := 4) b.hN (me_new (k_State e) gok_posn (fun _ _ _ => rfl) (ok_State___init__ e) (kb_State___init__ e) (b.room.mono (by decide)) b.gu b.tk rfl (g_State e) (ma_cons (me_new (k_Net e) gok_posn (fun _ _ _ => rfl) (ok_Net___init__ e) (kb_Net___init__ e) (b.room.mono (by decide)) b.gu b.tk rfl (g_Net e) (ma_cons (me_ix (me_var 1) me_int) (ma_cons (me_toList rfl (g_list e) (ma_cons (me_ix (me_var 1) me_int) ma_nil)) ma_nil)) mk_nil) (ma_cons (me_toList rfl (g_list e) (ma_cons (me_var 2) ma_nil)) (ma_cons (me_toList rfl (g_list e) (ma_cons (me_var 3) ma_nil)) ma_nil))) mk_nil))
  (mps_cons (mp_if (mt_not (mt_val (me_call sndB gok_posn (ok_u_law_listed e) (kb_u_law_listed e) (b.room.mono (by decide)) b.gu b.tk rfl (g__law_listed e) (kp_u_law_listed e) (ma_cons (me_call sndF gok_posn (ok_legal_vc e) (kb_legal_vc e) (b.room.mono (by decide)) b.gu b.tk rfl (g_legal e) (kp_legal_vc e) (ma_cons (me_var 4) ma_nil) mk_nil) (ma_cons (me_call sndP gok_posn (ok_u_law_legal e) (kb_u_law_legal e) (b.room.mono (by decide)) b.gu b.tk rfl (g__law_legal e) (kp_u_law_legal e) (ma_cons (me_var 1) (ma_cons (me_var 2) (ma_cons (me_var 3) ma_nil))) mk_nil) ma_nil)) mk_nil)))
  (mps_one (mp_ret me_bl))
  mps_nil)
  (mps_cons (mp_for (is := [5]) b.po b.calm (mi_seq (me_lst (ma_cons (me_sub (me_len rfl (g_len e) (ma_cons (me_var 2) ma_nil)) me_int) (ma_cons (me_call sndB gok_posn (ok_u_law_take e) (kb_u_law_take e) (b.room.mono (by decide)) b.gu b.tk rfl (g__law_take e) (kp_u_law_take e) (ma_cons (me_var 0) (ma_cons (me_len rfl (g_len e) (ma_cons (me_var 2) ma_nil)) ma_nil)) mk_nil) (ma_cons (me_call sndB gok_posn (ok_u_law_take e) (kb_u_law_take e) (b.room.mono (by decide)) b.gu b.tk rfl (g__law_take e) (kp_u_law_take e) (ma_cons (me_var 0) (ma_cons (me_len rfl (g_len e) (ma_cons (me_var 2) ma_nil)) ma_nil)) mk_nil) ma_nil))))) (mg_name 5 b.hN)
  (mps_cons (mp_if (mt_not (mt_val (me_call sndB gok_posn (ok_u_law_listed e) (kb_u_law_listed e) (b.room.mono (by decide)) b.gu b.tk rfl (g__law_listed e) (kp_u_law_listed e) (ma_cons (me_call sndF gok_posn (ok_bars_vc e) (kb_bars_vc e) (b.room.mono (by decide)) b.gu b.tk rfl (g_bars e) (kp_bars_vc e) (ma_cons (me_var 4) (ma_cons (me_var 5) ma_nil)) mk_nil) (ma_cons (me_call sndP gok_posn (ok_u_law_bars e) (kb_u_law_bars e) (b.room.mono (by decide)) b.gu b.tk rfl (g__law_bars e) (kp_u_law_bars e) (ma_cons (me_var 1) (ma_cons (me_var 3) (ma_cons (me_var 5) ma_nil))) mk_nil) ma_nil)) mk_nil)))
  (mps_one (mp_ret me_bl))
  mps_nil)
  (mps_one (mp_if (mt_not (mt_val (me_call sndP gok_posn (ok_u_law_run_right e) (kb_u_law_run_right e) (b.room.mono (by decide)) b.gu b.tk rfl (g__law_run_right e) (kp_u_law_run_right e) (ma_cons (me_var 1) (ma_cons (me_var 4) (ma_cons (me_var 2) (ma_cons (me_var 3) (ma_cons (me_var 5) ma_nil))))) mk_nil)))
  (mps_one (mp_ret me_bl))
  mps_nil))))
  (mps_one (mp_ret me_bl))))))
theorem sc_u_law_past : FnScope N_u_law_past ["box", "world", "many"] (defScope st_u_law_past) := ⟨rfl, rfl, rfl, by decide +kernel, rfl, by decide +kernel, by decide +kernel⟩
theorem ok_u_law_past (e : En K mg) : FnG P w K mg base 3 (He.ga K "_law_past") (fdK K ("_law_past", none)) ["box", "world", "many"] (spM ⟨K, mg⟩ 3 F_u_law_past) :=
  FnG.of (fd_at e.c 41 (d := d_u_law_past)) sc_u_law_past fun _ _ _ _ _ _ b => (mps_cons (mp_set (i := 3) b.hN (me_toTuple rfl (g_tuple e) (ma_cons (me_lc (own := [("node", 6)]) (is := [6]) snd_asLst b.calm b.hN (mi_rng1 rfl (g_range e) (me_ix (me_var 1) me_int)) (blkOk_by (by first | rfl | decide +kernel)) (by decide) (fun _ _ _ _ _ => (mg_name 6 b.hN)) (fun _ _ _ _ _ => mts_nil) (fun _ _ _ _ _ => me_non)) ma_nil)))
  (mps_cons (mp_for (is := [4]) b.po b.calm (mi_rng1 rfl (g_range e) (me_var 2)) (mg_name 4 b.hN)
  (mps_cons (mp_setLc (i := 5) (own := [("k", 7)]) (is := [7]) snd_asLst b.calm b.hN rfl rfl (sw_true rfl rfl rfl rfl) (mi_rng1 rfl (g_range e) (me_len rfl (g_len e) (ma_cons (me_ix (me_var 1) me_int) ma_nil))) (blkOk_by (by first | rfl | decide +kernel)) (by decide) (fun _ _ _ _ _ => (mg_name 7 b.hN)) (fun _ _ _ _ _ => (mts_one (mt_eq b.u64 (me_call sndP gok_posn (ok_u_law_bars e) (kb_u_law_bars e) (b.room.mono (by decide)) b.gu takes_none rfl (g__law_bars e) (kp_u_law_bars e) (ma_cons (me_var 1) (ma_cons (me_var 3) (ma_cons (me_var 7) ma_nil))) mk_nil) (me_lst ma_nil)))) (fun _ _ _ _ _ => (me_var 7)))
  (mps_one (mp_if (mt_ne b.u64 (me_var 5) (me_lst ma_nil))
  (mps_one (mp_set (i := 3) b.hN (me_ix (me_call sndP gok_posn (ok_u_law_ran e) (kb_u_law_ran e) (b.room.mono (by decide)) b.gu b.tk rfl (g__law_ran e) (kp_u_law_ran e) (ma_cons (me_var 1) (ma_cons (me_mul (me_lst (ma_cons me_int ma_nil)) (me_len rfl (g_len e) (ma_cons (me_ix (me_var 1) me_int) ma_nil))) (ma_cons (me_var 3) (ma_cons (me_ix (me_var 5) (me_call sndB gok_posn (ok_u_law_take e) (kb_u_law_take e) (b.room.mono (by decide)) b.gu b.tk rfl (g__law_take e) (kp_u_law_take e) (ma_cons (me_var 0) (ma_cons (me_len rfl (g_len e) (ma_cons (me_var 5) ma_nil)) ma_nil)) mk_nil)) ma_nil)))) mk_nil) me_int)))
  mps_nil))))
  (mps_one (mp_ret (me_var 3)))))
theorem sc_u_law_lasts : FnScope N_u_law_lasts ["box", "world"] (defScope st_u_law_lasts) := ⟨rfl, rfl, rfl, by decide +kernel, rfl, by decide +kernel, by decide +kernel⟩
theorem ok_u_law_lasts (e : En K mg) : FnG P w K mg base 4 (He.ga K "_law_lasts") (fdK K ("_law_lasts", none)) ["box", "world"] (spM ⟨K, mg⟩ 2 F_u_law_lasts) :=
  FnG.of (fd_at e.c 42 (d := d_u_law_lasts)) sc_u_law_lasts fun _ _ _ _ _ _ b => (mps_cons (mp_if (mt_eq b.u64 (me_call sndB gok_posn (ok_u_law_take e) (kb_u_law_take e) (b.room.mono (by decide)) b.gu b.tk rfl (g__law_take e) (kp_u_law_take e) (ma_cons (me_var 0) (ma_cons me_int ma_nil)) mk_nil) me_int)
  (mps_one (mp_ret (me_call sndB gok_posn (ok_u_law_past e) (kb_u_law_past e) (b.room.mono (by decide)) b.gu b.tk rfl (g__law_past e) (kp_u_law_past e) (ma_cons (me_var 0) (ma_cons (me_var 1) (ma_cons (me_add me_int (me_call sndB gok_posn (ok_u_law_take e) (kb_u_law_take e) (b.room.mono (by decide)) b.gu b.tk rfl (g__law_take e) (kp_u_law_take e) (ma_cons (me_var 0) (ma_cons me_int ma_nil)) mk_nil)) ma_nil))) mk_nil)))
  mps_nil)
  (mps_cons (mp_set (i := 2) b.hN (me_cel ma_nil))
  (mps_cons (mp_for (is := [3]) b.po b.calm (mi_rng1 rfl (g_range e) (me_ix (me_var 1) me_int)) (mg_name 3 b.hN)
  (mps_cons (mp_set (i := 4) b.hN (me_call sndP gok_posn (ok_u_law_at e) (kb_u_law_at e) (b.room.mono (by decide)) b.gu b.tk rfl (g__law_at e) (kp_u_law_at e) (ma_cons (me_var 1) (ma_cons (me_var 3) ma_nil)) mk_nil))
  (mps_one (mp_expr (me_app (me_var 2) (ma_cons (me_if (mt_w (mw_or (mt_eq b.u64 (me_var 4) (me_lst ma_nil)) (mw_or1 (mt_eq b.u64 (me_call sndB gok_posn (ok_u_law_take e) (kb_u_law_take e) (b.room.mono (by decide)) b.gu b.tk rfl (g__law_take e) (kp_u_law_take e) (ma_cons (me_var 0) (ma_cons me_int ma_nil)) mk_nil) me_int)))) me_non (me_ix (me_var 4) (me_call sndB gok_posn (ok_u_law_take e) (kb_u_law_take e) (b.room.mono (by decide)) b.gu b.tk rfl (g__law_take e) (kp_u_law_take e) (ma_cons (me_var 0) (ma_cons (me_max b.calm rfl (g_max e) (ma_cons me_int (ma_cons (me_len rfl (g_len e) (ma_cons (me_var 4) ma_nil)) ma_nil))) ma_nil)) mk_nil))) ma_nil))))))
  (mps_one (mp_ret (me_toTuple rfl (g_tuple e) (ma_cons (me_var 2) ma_nil)))))))
theorem sc_u_law_load : FnScope N_u_law_load ["box", "world"] (defScope st_u_law_load) := ⟨rfl, rfl, rfl, by decide +kernel, rfl, by decide +kernel, by decide +kernel⟩
theorem ok_u_law_load (e : En K mg) : FnG P w K mg base 3 (He.ga K "_law_load") (fdK K ("_law_load", none)) ["box", "world"] (spM ⟨K, mg⟩ 2 F_u_law_load) :=
  FnG.of (fd_at e.c 43 (d := d_u_law_load)) sc_u_law_load fun _ _ _ _ _ _ b => (mps_cons (mp_par (i := 2) (j := 3) b.calm b.hN (ma_cons (me_call sndB gok_posn (ok_u_law_take e) (kb_u_law_take e) (b.room.mono (by decide)) b.gu b.tk rfl (g__law_take e) (kp_u_law_take e) (ma_cons (me_var 0) (ma_cons me_int ma_nil)) mk_nil) (ma_cons (me_cel ma_nil) ma_nil)))
  (mps_cons (mp_for (is := [4]) b.po b.calm (mi_rng1 rfl (g_range e) (me_len rfl (g_len e) (ma_cons (me_ix (me_var 1) me_int) ma_nil))) (mg_name 4 b.hN)
  (mps_one (mp_expr (me_app (me_var 3) (ma_cons (me_ix (me_lst (ma_cons me_int (ma_cons me_int (ma_cons me_int (ma_cons me_int (ma_cons me_int (ma_cons me_int ma_nil))))))) (me_call sndB gok_posn (ok_u_law_take e) (kb_u_law_take e) (b.room.mono (by decide)) b.gu b.tk rfl (g__law_take e) (kp_u_law_take e) (ma_cons (me_var 0) (ma_cons me_int ma_nil)) mk_nil)) ma_nil)))))
  (mps_cons (mp_if (mt_w (mw_and (mt_eq b.u64 (me_var 2) me_int) (mw_and1 (mt_ne b.u64 (me_var 3) (me_lst ma_nil)))))
  (mps_one (mp_item (me_var 3) (me_call sndB gok_posn (ok_u_law_take e) (kb_u_law_take e) (b.room.mono (by decide)) b.gu b.tk rfl (g__law_take e) (kp_u_law_take e) (ma_cons (me_var 0) (ma_cons (me_len rfl (g_len e) (ma_cons (me_var 3) ma_nil)) ma_nil)) mk_nil) (me_add (me_pow me_int me_int) (me_call sndB gok_posn (ok_u_law_take e) (kb_u_law_take e) (b.room.mono (by decide)) b.gu b.tk rfl (g__law_take e) (kp_u_law_take e) (ma_cons (me_var 0) (ma_cons me_int ma_nil)) mk_nil))))
  mps_nil)
  (mps_one (mp_ret (me_toTuple rfl (g_tuple e) (ma_cons (me_var 3) ma_nil)))))))
theorem sc_u_law_moment : FnScope N_u_law_moment ["world", "here", "load", "lasts"] (defScope st_u_law_moment) := ⟨rfl, rfl, rfl, by decide +kernel, rfl, by decide +kernel, by decide +kernel⟩
theorem ok_u_law_moment (e : En K mg) : FnG P w K mg base 15 (He.ga K "_law_moment") (fdK K ("_law_moment", none)) ["world", "here", "load", "lasts"] (spM ⟨K, mg⟩ 4 F_u_law_moment) :=
  FnG.of (fd_at e.c 44 (d := d_u_law_moment)) sc_u_law_moment fun _ _ _ _ _ _ b => (mps_cons (mp_set (i := 4) b.hN (me_call sndP gok_posn (ok_u_law_legal e) (kb_u_law_legal e) (b.room.mono (by decide)) b.gu b.tk rfl (g__law_legal e) (kp_u_law_legal e) (ma_cons (me_var 0) (ma_cons (me_var 2) (ma_cons (me_var 3) ma_nil))) mk_nil))
  (mps_cons (mp_if (mt_not (mt_val (me_call sndB gok_posn (ok_u_law_listed e) (kb_u_law_listed e) (b.room.mono (by decide)) b.gu b.tk rfl (g__law_listed e) (kp_u_law_listed e) (ma_cons (me_call sndF gok_posn (ok_legal_vc e) (kb_legal_vc e) (b.room.mono (by decide)) b.gu b.tk rfl (g_legal e) (kp_legal_vc e) (ma_cons (me_var 1) ma_nil) mk_nil) (ma_cons (me_var 4) ma_nil)) mk_nil)))
  (mps_one (mp_ret me_bl))
  mps_nil)
  (mps_cons (mp_for (is := [5]) b.po b.calm (mi_rng1 rfl (g_range e) (me_len rfl (g_len e) (ma_cons (me_var 2) ma_nil))) (mg_name 5 b.hN)
  (mps_one (mp_for (is := [10]) b.po b.calm (mi_rng1 rfl (g_range e) me_int) (mg_name 10 b.hN)
  (mps_cons (mp_if (mt_not (mt_val (me_call sndB gok_posn (ok_u_law_listed e) (kb_u_law_listed e) (b.room.mono (by decide)) b.gu b.tk rfl (g__law_listed e) (kp_u_law_listed e) (ma_cons (me_call sndF gok_posn (ok_bars_vc e) (kb_bars_vc e) (b.room.mono (by decide)) b.gu b.tk rfl (g_bars e) (kp_bars_vc e) (ma_cons (me_var 1) (ma_cons (me_var 5) ma_nil)) mk_nil) (ma_cons (me_call sndP gok_posn (ok_u_law_bars e) (kb_u_law_bars e) (b.room.mono (by decide)) b.gu b.tk rfl (g__law_bars e) (kp_u_law_bars e) (ma_cons (me_var 0) (ma_cons (me_var 3) (ma_cons (me_var 5) ma_nil))) mk_nil) ma_nil)) mk_nil)))
  (mps_one (mp_ret me_bl))
  mps_nil)
  (mps_one (mp_if (mt_not (mt_val (me_call sndP gok_posn (ok_u_law_run_right e) (kb_u_law_run_right e) (b.room.mono (by decide)) b.gu b.tk rfl (g__law_run_right e) (kp_u_law_run_right e) (ma_cons (me_var 0) (ma_cons (me_var 1) (ma_cons (me_var 2) (ma_cons (me_var 3) (ma_cons (me_var 5) ma_nil))))) mk_nil)))
  (mps_one (mp_ret me_bl))
  mps_nil))))))
  (mps_cons (mp_setLc (i := 6) (own := [("task", 5)]) (is := [5]) snd_asLst b.calm b.hN rfl rfl (sw_true rfl rfl rfl rfl) (mi_rng1 rfl (g_range e) (me_len rfl (g_len e) (ma_cons (me_var 2) ma_nil))) (blkOk_by (by first | rfl | decide +kernel)) (by decide) (fun _ _ _ _ _ => (mg_name 5 b.hN)) (fun _ _ _ _ _ => mts_nil) (fun _ _ _ _ _ => (me_call sndP gok_posn (ok_u_law_bars e) (kb_u_law_bars e) (b.room.mono (by decide)) b.gu takes_none rfl (g__law_bars e) (kp_u_law_bars e) (ma_cons (me_var 0) (ma_cons (me_var 3) (ma_cons (me_var 5) ma_nil))) mk_nil)))
  (mps_cons (mp_par (i := 7) (j := 8) b.calm b.hN (ma_cons (me_lc (own := [("task", 5)]) (is := [5]) snd_asLst b.calm b.hN (mi_seq (me_var 4)) (blkOk_by (by first | rfl | decide +kernel)) (by decide) (fun _ _ _ _ _ => (mg_name 5 b.hN)) (fun _ _ _ _ _ => mts_nil) (fun _ _ _ _ _ => (me_call sndT gok_posn (ok_u_law_met e) (kb_u_law_met e) (b.room.mono (by decide)) b.gu takes_none rfl (g__law_met e) (kp_u_law_met e) (ma_cons (me_var 1) (ma_cons (me_var 5) ma_nil)) mk_nil))) (ma_cons (me_lc (own := [("task", 5)]) (is := [5]) snd_asLst b.calm b.hN (mi_rng1 rfl (g_range e) (me_len rfl (g_len e) (ma_cons (me_var 2) ma_nil))) (blkOk_by (by first | rfl | decide +kernel)) (by decide) (fun _ _ _ _ _ => (mg_name 5 b.hN)) (fun _ _ _ _ _ => mts_nil) (fun _ _ _ _ _ => (me_call sndF gok_posn (ok_bars_vc e) (kb_bars_vc e) (b.room.mono (by decide)) b.gu takes_none rfl (g_bars e) (kp_bars_vc e) (ma_cons (me_var 1) (ma_cons (me_var 5) ma_nil)) mk_nil))) ma_nil)))
  (mps_cons (mp_for (is := [9]) b.po b.calm (mi_rng1 rfl (g_range e) (me_len rfl (g_len e) (ma_cons (me_var 4) ma_nil))) (mg_name 9 b.hN)
  (mps_cons (mp_set (i := 11) b.hN (me_call sndP gok_posn (ok_u_law_ran e) (kb_u_law_ran e) (b.room.mono (by decide)) b.gu b.tk rfl (g__law_ran e) (kp_u_law_ran e) (ma_cons (me_var 0) (ma_cons (me_var 2) (ma_cons (me_var 3) (ma_cons (me_ix (me_var 4) (me_var 9)) ma_nil)))) mk_nil))
  (mps_one (mp_if (mt_w (mw_or (mt_ne b.u64 (me_ix (me_ix (me_var 7) (me_var 9)) me_int) me_str) (mw_or1 (mt_not (mt_val (me_call sndP gok_posn (ok_u_law_is_state e) (kb_u_law_is_state e) (b.room.mono (by decide)) b.gu b.tk rfl (g__law_is_state e) (kp_u_law_is_state e) (ma_cons (me_ix (me_ix (me_var 7) (me_var 9)) me_int) (ma_cons (me_var 0) (ma_cons (me_ix (me_var 11) me_int) (ma_cons (me_ix (me_var 11) me_int) ma_nil)))) mk_nil))))))
  (mps_one (mp_ret me_bl))
  mps_nil))))
  (mps_one (mp_ret (me_and (me_eq b.u64 (me_repr b.gu b.u64 rfl (g_repr e) (ma_cons (me_var 8) ma_nil)) (me_repr b.gu b.u64 rfl (g_repr e) (ma_cons (me_var 6) ma_nil))) (me_and (me_call sndB gok_posn (ok_u_law_listed e) (kb_u_law_listed e) (b.room.mono (by decide)) b.gu b.tk rfl (g__law_listed e) (kp_u_law_listed e) (ma_cons (me_call sndF gok_posn (ok_legal_vc e) (kb_legal_vc e) (b.room.mono (by decide)) b.gu b.tk rfl (g_legal e) (kp_legal_vc e) (ma_cons (me_var 1) ma_nil) mk_nil) (ma_cons (me_var 4) ma_nil)) mk_nil) (me_one (me_call sndP gok_posn (ok_u_law_is_state e) (kb_u_law_is_state e) (b.room.mono (by decide)) b.gu b.tk rfl (g__law_is_state e) (kp_u_law_is_state e) (ma_cons (me_var 1) (ma_cons (me_var 0) (ma_cons (me_var 2) (ma_cons (me_var 3) ma_nil)))) mk_nil))))))))))))
theorem sc_run : FnScope N_run ["state", "task"] (defScope st_run) := ⟨rfl, rfl, rfl, by decide +kernel, rfl, by decide +kernel, by decide +kernel⟩
theorem ok_run (e : En K mg) : FnG P w K mg base 12 (He.ga K "run") (fdK K ("run", none)) ["state", "task"] (spM ⟨K, mg⟩ 2 F_run) :=
  FnG.of (fd_at e.c 34 (d := d_run_vt)) sc_run fun _ _ _ _ _ _ b => (mps_cons (mp_expr (me_call sndP gok_posn (ok_check_task e) (kb_check_task e) (b.room.mono (by decide)) b.gu b.tk rfl (g_check_task e) (kp_check_task e) (ma_cons (me_fld (g_State e) (c_State e) (n_State_net e) (me_var 0)) (ma_cons (me_var 1) ma_nil)) mk_nil))
  (mps_cons (mp_if (mt_eq b.u64 (me_ix (me_fld (g_State e) (c_State e) (n_State_load e) (me_var 0)) (me_var 1)) me_int)
  (mps_one (mp_raise (k := 1) b.calm b.tk (x_NothingLeft e).ox (x_NothingLeft e).ini (x_NothingLeft e).fn (i_NothingLeft e) (b.room.mono (by decide)) (j_NothingLeft e) rfl (g_NothingLeft e) (me_var 1)))
  mps_nil)
  (mps_cons (mp_set (i := 2) b.hN (me_call sndP gok_posn (ok_bars e) (kb_bars e) (b.room.mono (by decide)) b.gu b.tk rfl (g_bars e) (kp_bars e) (ma_cons (me_var 0) (ma_cons (me_var 1) ma_nil)) mk_nil))
  (mps_cons (mp_if (mt_truL (me_var 2))
  (mps_one (mp_raise (k := 1) b.calm b.tk (x_Barred e).ox (x_Barred e).ini (x_Barred e).fn (i_Barred e) (b.room.mono (by decide)) (j_Barred e) rfl (g_Barred e) (me_var 2)))
  mps_nil)
  (mps_cons (mp_set (i := 3) b.hN (me_toListC rfl (g_list e) (ma_cons (me_fld (g_State e) (c_State e) (n_State_load e) (me_var 0)) ma_nil)))
  (mps_cons (mp_aug (a := 3) (b := 1) aug_sub)
  (mps_cons (mp_set (i := 4) b.hN (me_toListC rfl (g_list e) (ma_cons (me_fld (g_State e) (c_State e) (n_State_lasts e) (me_var 0)) ma_nil)))
  (mps_cons (mp_for (is := [5]) b.po b.calm (mi_seq (me_meth (g_Net e) (c_Net e) (m_Net_ends e) sndP gok_posn (ok_Net_ends e) (kb_Net_ends e) (b.room.mono (by decide)) b.gu b.tk (me_fld (g_State e) (c_State e) (n_State_net e) (me_var 0)) (ma_cons (me_var 1) ma_nil) mk_nil)) (mg_name 5 b.hN)
  (mps_one (mp_item (me_var 4) (me_var 5) (me_var 1))))
  (mps_frz 3 (mps_frz 4 (mps_one (mp_ret (me_new (k_State e) gok_posn (fun _ _ _ => rfl) (ok_State___init__ e) (kb_State___init__ e) (b.room.mono (by decide)) b.gu b.tk rfl (g_State e) (ma_cons (me_fld (g_State e) (c_State e) (n_State_net e) (me_var 0)) (ma_cons (me_var 3) (ma_cons (me_var 4) ma_nil))) mk_nil)))))))))))))
theorem sc_u_law_walk_right : FnScope N_u_law_walk_right ["box", "world", "here", "load", "lasts"] (defScope st_u_law_walk_right) := ⟨rfl, rfl, rfl, by decide +kernel, rfl, by decide +kernel, by decide +kernel⟩
theorem ok_u_law_walk_right (e : En K mg) : FnG P w K mg base 16 (He.ga K "_law_walk_right") (fdK K ("_law_walk_right", none)) ["box", "world", "here", "load", "lasts"] (spM ⟨K, mg⟩ 5 F_u_law_walk_right) :=
  FnG.of (fd_at e.c 45 (d := d_u_law_walk_right)) sc_u_law_walk_right fun _ _ _ _ _ _ b => (mps_cons (mp_for (is := [5]) b.po b.calm (mi_rng1 rfl (g_range e) (me_add me_int (me_call sndB gok_posn (ok_u_law_take e) (kb_u_law_take e) (b.room.mono (by decide)) b.gu b.tk rfl (g__law_take e) (kp_u_law_take e) (ma_cons (me_var 0) (ma_cons me_int ma_nil)) mk_nil))) (mg_name 5 b.hN)
  (mps_cons (mp_set (i := 6) b.hN (me_call sndP gok_posn (ok_u_law_legal e) (kb_u_law_legal e) (b.room.mono (by decide)) b.gu b.tk rfl (g__law_legal e) (kp_u_law_legal e) (ma_cons (me_var 1) (ma_cons (me_var 3) (ma_cons (me_var 4) ma_nil))) mk_nil))
  (mps_one (mp_if (mt_ne b.u64 (me_var 6) (me_lst ma_nil))
  (mps_cons (mp_set (i := 7) b.hN (me_ix (me_var 6) (me_call sndB gok_posn (ok_u_law_take e) (kb_u_law_take e) (b.room.mono (by decide)) b.gu b.tk rfl (g__law_take e) (kp_u_law_take e) (ma_cons (me_var 0) (ma_cons (me_len rfl (g_len e) (ma_cons (me_var 6) ma_nil)) ma_nil)) mk_nil)))
  (mps_cons (mp_set (i := 2) b.hN (me_call sndP gok_posn (ok_run e) (kb_run e) (b.room.mono (by decide)) b.gu b.tk rfl (g_run e) (kp_run e) (ma_cons (me_var 2) (ma_cons (me_var 7) ma_nil)) mk_nil))
  (mps_cons (mp_asg (is := [3, 4]) (me_call sndP gok_posn (ok_u_law_ran e) (kb_u_law_ran e) (b.room.mono (by decide)) b.gu b.tk rfl (g__law_ran e) (kp_u_law_ran e) (ma_cons (me_var 1) (ma_cons (me_var 3) (ma_cons (me_var 4) (ma_cons (me_var 7) ma_nil)))) mk_nil) (mg_tup b.calm (mgs_cons (mg_name 3 b.hN) (mgs_cons (mg_name 4 b.hN) mgs_nil))))
  (mps_one (mp_if (mt_not (mt_val (me_call sndP gok_posn (ok_u_law_moment e) (kb_u_law_moment e) (b.room.mono (by decide)) b.gu b.tk rfl (g__law_moment e) (kp_u_law_moment e) (ma_cons (me_var 1) (ma_cons (me_var 2) (ma_cons (me_var 3) (ma_cons (me_var 4) ma_nil)))) mk_nil)))
  (mps_one (mp_ret me_bl))
  mps_nil)))))
  mps_nil))))
  (mps_one (mp_ret me_bl)))
theorem sc_u_law_mixed : FnScope N_u_law_mixed ["box", "items"] (defScope st_u_law_mixed) := ⟨rfl, rfl, rfl, by decide +kernel, rfl, by decide +kernel, by decide +kernel⟩
theorem ok_u_law_mixed (e : En K mg) : FnG P w K mg base 3 (He.ga K "_law_mixed") (fdK K ("_law_mixed", none)) ["box", "items"] (spM ⟨K, mg⟩ 2 F_u_law_mixed) :=
  FnG.of (fd_at e.c 46 (d := d_u_law_mixed)) sc_u_law_mixed fun _ _ _ _ _ _ b => (mps_cons (mp_par (i := 2) (j := 3) b.calm b.hN (ma_cons (me_toListC rfl (g_list e) (ma_cons (me_var 1) ma_nil)) (ma_cons (me_cel ma_nil) ma_nil)))
  (mps_cons (mp_wh 1000 b.po (mt_ne b.u64 (me_var 2) (me_lst ma_nil))
  (mps_one (mp_expr (me_app (me_var 3) (ma_cons (me_pop (me_var 2) (ma_cons (me_call sndB gok_posn (ok_u_law_take e) (kb_u_law_take e) (b.room.mono (by decide)) b.gu b.tk rfl (g__law_take e) (kp_u_law_take e) (ma_cons (me_var 0) (ma_cons (me_len rfl (g_len e) (ma_cons (me_var 2) ma_nil)) ma_nil)) mk_nil) ma_nil)) ma_nil)))))
  (mps_frz 3 (mps_one (mp_ret (me_var 3))))))
theorem sc_u_law_pairs : FnScope N_u_law_pairs ["box", "nodes", "way"] (defScope st_u_law_pairs) := ⟨rfl, rfl, rfl, by decide +kernel, rfl, by decide +kernel, by decide +kernel⟩
theorem ok_u_law_pairs (e : En K mg) : FnG P w K mg base 3 (He.ga K "_law_pairs") (fdK K ("_law_pairs", none)) ["box", "nodes", "way"] (spM ⟨K, mg⟩ 3 F_u_law_pairs) :=
  FnG.of (fd_at e.c 47 (d := d_u_law_pairs)) sc_u_law_pairs fun _ _ _ _ _ _ b => (mps_cons (mp_if (mt_eq b.u64 (me_var 1) me_int)
  (mps_one (mp_ret (me_lc (own := [("turn", 4)]) (is := [4]) snd_asCel b.calm b.hN (mi_rng1 rfl (g_range e) (me_add me_int (me_call sndB gok_posn (ok_u_law_take e) (kb_u_law_take e) (b.room.mono (by decide)) b.gu b.tk rfl (g__law_take e) (kp_u_law_take e) (ma_cons (me_var 0) (ma_cons me_int ma_nil)) mk_nil))) (blkOk_by (by first | rfl | decide +kernel)) (by decide) (fun _ _ _ _ _ => (mg_name 4 b.hN)) (fun _ _ _ _ _ => mts_nil) (fun _ _ _ _ _ => (me_lst (ma_cons me_int ma_nil))))))
  mps_nil)
  (mps_cons (mp_if (mt_eq b.u64 (me_var 2) me_int)
  (mps_one (mp_ret (me_lc (own := [("k", 7)]) (is := [7]) snd_asCel b.calm b.hN (mi_rng1 rfl (g_range e) (me_var 1)) (blkOk_by (by first | rfl | decide +kernel)) (by decide) (fun _ _ _ _ _ => (mg_name 7 b.hN)) (fun _ _ _ _ _ => mts_nil) (fun _ _ _ _ _ => (me_lst (ma_cons (me_var 7) (ma_cons (me_mod (me_add (me_var 7) me_int) (me_var 1)) ma_nil)))))))
  mps_nil)
  (mps_cons (mp_if (mt_eq b.u64 (me_var 2) me_int)
  (mps_one (mp_ret (me_lc (own := [("k", 7)]) (is := [7]) snd_asCel b.calm b.hN (mi_rng2 rfl (g_range e) (ma_cons me_int (ma_cons (me_var 1) ma_nil))) (blkOk_by (by first | rfl | decide +kernel)) (by decide) (fun _ _ _ _ _ => (mg_name 7 b.hN)) (fun _ _ _ _ _ => mts_nil) (fun _ _ _ _ _ => (me_lst (ma_cons (me_var 7) (ma_cons (me_call sndB gok_posn (ok_u_law_take e) (kb_u_law_take e) (b.room.mono (by decide)) b.gu takes_none rfl (g__law_take e) (kp_u_law_take e) (ma_cons (me_var 0) (ma_cons (me_var 7) ma_nil)) mk_nil) ma_nil)))))))
  mps_nil)
  (mps_cons (mp_if (mt_eq b.u64 (me_var 2) me_int)
  (mps_one (mp_ret (me_lc (own := [("k", 7)]) (is := [7]) snd_asCel b.calm b.hN (mi_rng2 rfl (g_range e) (ma_cons me_int (ma_cons (me_var 1) ma_nil))) (blkOk_by (by first | rfl | decide +kernel)) (by decide) (fun _ _ _ _ _ => (mg_name 7 b.hN)) (fun _ _ _ _ _ => mts_nil) (fun _ _ _ _ _ => (me_lst (ma_cons (me_sub (me_var 7) me_int) (ma_cons (me_var 7) ma_nil)))))))
  mps_nil)
  (mps_cons (mp_set (i := 3) b.hN (me_cel ma_nil))
  (mps_cons (mp_for (is := [4]) b.po b.calm (mi_rng1 rfl (g_range e) (me_add me_int (me_call sndB gok_posn (ok_u_law_take e) (kb_u_law_take e) (b.room.mono (by decide)) b.gu b.tk rfl (g__law_take e) (kp_u_law_take e) (ma_cons (me_var 0) (ma_cons (me_mul me_int (me_var 1)) ma_nil)) mk_nil))) (mg_name 4 b.hN)
  (mps_cons (mp_set (i := 5) b.hN (me_call sndB gok_posn (ok_u_law_take e) (kb_u_law_take e) (b.room.mono (by decide)) b.gu b.tk rfl (g__law_take e) (kp_u_law_take e) (ma_cons (me_var 0) (ma_cons (me_var 1) ma_nil)) mk_nil))
  (mps_cons (mp_set (i := 6) b.hN (me_mod (me_add (me_add (me_var 5) me_int) (me_call sndB gok_posn (ok_u_law_take e) (kb_u_law_take e) (b.room.mono (by decide)) b.gu b.tk rfl (g__law_take e) (kp_u_law_take e) (ma_cons (me_var 0) (ma_cons (me_sub (me_var 1) me_int) ma_nil)) mk_nil)) (me_var 1)))
  (mps_one (mp_expr (me_app (me_var 3) (ma_cons (me_if (mt_eq b.u64 (me_call sndB gok_posn (ok_u_law_take e) (kb_u_law_take e) (b.room.mono (by decide)) b.gu b.tk rfl (g__law_take e) (kp_u_law_take e) (ma_cons (me_var 0) (ma_cons me_int ma_nil)) mk_nil) me_int) (me_lst (ma_cons (me_var 5) ma_nil)) (me_lst (ma_cons (me_var 5) (ma_cons (me_var 6) ma_nil)))) ma_nil)))))))
  (mps_one (mp_ret (me_var 3)))))))))
theorem sc_u_law_world : FnScope N_u_law_world ["box", "most", "tasks"] (defScope st_u_law_world) := ⟨rfl, rfl, rfl, by decide +kernel, rfl, by decide +kernel, by decide +kernel⟩
theorem ok_u_law_world (e : En K mg) : FnG P w K mg base 4 (He.ga K "_law_world") (fdK K ("_law_world", none)) ["box", "most", "tasks"] (spM ⟨K, mg⟩ 3 F_u_law_world) :=
  FnG.of (fd_at e.c 48 (d := d_u_law_world)) sc_u_law_world fun _ _ _ _ _ _ b => (mps_cons (mp_set (i := 3) b.hN (me_min b.calm rfl (g_min e) (ma_cons (me_var 1) (ma_cons (me_ix (me_lst (ma_cons me_int (ma_cons me_int (ma_cons me_int (ma_cons me_int (ma_cons me_int (ma_cons me_int (ma_cons me_int (ma_cons me_int ma_nil))))))))) (me_call sndB gok_posn (ok_u_law_take e) (kb_u_law_take e) (b.room.mono (by decide)) b.gu b.tk rfl (g__law_take e) (kp_u_law_take e) (ma_cons (me_var 0) (ma_cons me_int ma_nil)) mk_nil)) ma_nil))))
  (mps_cons (mp_asg (is := [4, 5, 6]) (me_tup (ma_cons (me_call sndB gok_posn (ok_u_law_take e) (kb_u_law_take e) (b.room.mono (by decide)) b.gu b.tk rfl (g__law_take e) (kp_u_law_take e) (ma_cons (me_var 0) (ma_cons me_int ma_nil)) mk_nil) (ma_cons (me_call sndB gok_posn (ok_u_law_take e) (kb_u_law_take e) (b.room.mono (by decide)) b.gu b.tk rfl (g__law_take e) (kp_u_law_take e) (ma_cons (me_var 0) (ma_cons me_int ma_nil)) mk_nil) (ma_cons (me_call sndB gok_posn (ok_u_law_take e) (kb_u_law_take e) (b.room.mono (by decide)) b.gu b.tk rfl (g__law_take e) (kp_u_law_take e) (ma_cons (me_var 0) (ma_cons me_int ma_nil)) mk_nil) ma_nil)))) (mg_tup b.calm (mgs_cons (mg_name 4 b.hN) (mgs_cons (mg_name 5 b.hN) (mgs_cons (mg_name 6 b.hN) mgs_nil)))))
  (mps_cons (mp_set (i := 7) b.hN (me_call sndT gok_posn (ok_u_law_pairs e) (kb_u_law_pairs e) (b.room.mono (by decide)) b.gu b.tk rfl (g__law_pairs e) (kp_u_law_pairs e) (ma_cons (me_var 0) (ma_cons (me_var 3) (ma_cons (me_min b.calm rfl (g_min e) (ma_cons (me_var 4) (ma_cons me_int ma_nil))) ma_nil))) mk_nil))
  (mps_cons (mp_for (is := [8]) b.po b.calm (mi_rng1 rfl (g_range e) (me_ix (me_lst (ma_cons me_int (ma_cons me_int (ma_cons me_int (ma_cons me_int ma_nil))))) (me_var 6))) (mg_name 8 b.hN)
  (mps_cons (mp_set (i := 12) b.hN (me_call sndB gok_posn (ok_u_law_take e) (kb_u_law_take e) (b.room.mono (by decide)) b.gu b.tk rfl (g__law_take e) (kp_u_law_take e) (ma_cons (me_var 0) (ma_cons (me_var 3) ma_nil)) mk_nil))
  (mps_cons (mp_set (i := 13) b.hN (me_mod (me_add (me_add (me_var 12) me_int) (me_call sndB gok_posn (ok_u_law_take e) (kb_u_law_take e) (b.room.mono (by decide)) b.gu b.tk rfl (g__law_take e) (kp_u_law_take e) (ma_cons (me_var 0) (ma_cons (me_max b.calm rfl (g_max e) (ma_cons me_int (ma_cons (me_sub (me_var 3) me_int) ma_nil))) ma_nil)) mk_nil)) (me_var 3)))
  (mps_one (mp_expr (me_app (me_var 7) (ma_cons (me_if (mt_w (mw_and (mt_ne b.u64 (me_var 12) (me_var 13)) (mw_and1 (mt_gt (me_call sndB gok_posn (ok_u_law_take e) (kb_u_law_take e) (b.room.mono (by decide)) b.gu b.tk rfl (g__law_take e) (kp_u_law_take e) (ma_cons (me_var 0) (ma_cons me_int ma_nil)) mk_nil) me_int)))) (me_lst (ma_cons (me_var 12) (ma_cons (me_var 13) ma_nil))) (me_lst (ma_cons (me_var 12) ma_nil))) ma_nil)))))))
  (mps_frz 7 (mps_cons (mp_set (i := 9) b.hN (me_call sndB gok_posn (ok_u_law_mixed e) (kb_u_law_mixed e) (b.room.mono (by decide)) b.gu b.tk rfl (g__law_mixed e) (kp_u_law_mixed e) (ma_cons (me_var 0) (ma_cons (me_lrg false b.calm rfl (g_list e) rfl (g_range e) (me_var 3)) ma_nil)) mk_nil))
  (mps_cons (mp_set (i := 10) b.hN (me_cel ma_nil))
  (mps_cons (mp_for (is := [11]) b.po b.calm (mi_seq (me_sl (me_call sndB gok_posn (ok_u_law_mixed e) (kb_u_law_mixed e) (b.room.mono (by decide)) b.gu b.tk rfl (g__law_mixed e) (kp_u_law_mixed e) (ma_cons (me_var 0) (ma_cons (me_var 7) ma_nil)) mk_nil) mo_none (mo_some (me_var 2)))) (mg_name 11 b.hN)
  (mps_cons (mp_set (i := 14) b.hN (me_sorted rfl (g_sorted e) (ma_cons (me_lc (own := [("node", 15)]) (is := [15]) snd_asLst b.calm b.hN (mi_seq (me_var 11)) (blkOk_by (by first | rfl | decide +kernel)) (by decide) (fun _ _ _ _ _ => (mg_name 15 b.hN)) (fun _ _ _ _ _ => mts_nil) (fun _ _ _ _ _ => (me_ix (me_var 9) (me_var 15)))) ma_nil)))
  (mps_one (mp_expr (me_app (me_var 10) (ma_cons (me_toTuple rfl (g_tuple e) (ma_cons (me_lc (own := [("node", 15)]) (is := [15]) snd_asLst b.calm b.hN (mi_seq (me_var 14)) (blkOk_by (by first | rfl | decide +kernel)) (by decide) (fun _ _ _ _ _ => (mg_name 15 b.hN)) (fun _ _ _ _ _ => mts_nil) (fun _ _ _ _ _ => (me_tup (ma_cons (me_var 15) (ma_cons (me_or (me_gt (me_var 5) me_int) (me_one (me_gt (me_call sndB gok_posn (ok_u_law_take e) (kb_u_law_take e) (b.room.mono (by decide)) b.gu takes_none rfl (g__law_take e) (kp_u_law_take e) (ma_cons (me_var 0) (ma_cons me_int ma_nil)) mk_nil) me_int))) ma_nil))))) ma_nil)) ma_nil))))))
  (mps_frz 10 (mps_one (mp_ret (me_lst (ma_cons (me_var 3) (ma_cons (me_var 10) ma_nil))))))))))))))
theorem sc_legal : FnScope N_legal ["state"] (defScope st_legal) := ⟨rfl, rfl, rfl, by decide +kernel, rfl, by decide +kernel, by decide +kernel⟩
theorem ok_legal (e : En K mg) : FnG P w K mg base 8 (He.ga K "legal") (fdK K ("legal", none)) ["state"] (spM ⟨K, mg⟩ 1 F_legal) :=
  FnG.of (fd_at e.c 39 (d := d_legal_vc)) sc_legal fun _ _ _ _ _ _ b => (mps_one (mp_ret (me_lc (own := [("task", 1)]) (is := [1]) snd_asLst b.calm b.hN (mi_rng1 rfl (g_range e) (me_lenO (g_Net e) (c_Net e) (m_Net___len__ e).at_ (m_Net___len__ e).fn (ok_Net___len__ e) (kb_Net___len__ e) (fun _ => rfl) (b.room.mono (by decide)) b.gu b.tk rfl (g_len e) (me_fld (g_State e) (c_State e) (n_State_net e) (me_var 0)))) (blkOk_by (by first | rfl | decide +kernel)) (by decide) (fun _ _ _ _ _ => (mg_name 1 b.hN)) (fun _ _ _ _ _ => (mts_one (mt_val (me_call sndP gok_posn (ok_can_run e) (kb_can_run e) (b.room.mono (by decide)) b.gu takes_none rfl (g_can_run e) (kp_can_run e) (ma_cons (me_var 0) (ma_cons (me_var 1) ma_nil)) mk_nil)))) (fun _ _ _ _ _ => (me_var 1)))))
theorem sc_u_law_right : FnScope N_u_law_right ["box"] (defScope st_u_law_right) := ⟨rfl, rfl, rfl, by decide +kernel, rfl, by decide +kernel, by decide +kernel⟩
theorem ok_u_law_right (e : En K mg) : FnG P w K mg base 17 (He.ga K "_law_right") (fdK K ("_law_right", none)) ["box"] (spM ⟨K, mg⟩ 1 F_u_law_right) :=
  FnG.of (fd_at e.c 49 (d := d_u_law_right)) sc_u_law_right fun _ _ _ _ _ _ b => (mps_cons (mp_par (i := 1) (j := 2) b.calm b.hN (ma_cons (me_eq b.u64 (me_call sndB gok_posn (ok_u_law_take e) (kb_u_law_take e) (b.room.mono (by decide)) b.gu b.tk rfl (g__law_take e) (kp_u_law_take e) (ma_cons (me_var 0) (ma_cons me_int ma_nil)) mk_nil) me_int) (ma_cons (me_eq b.u64 (me_call sndB gok_posn (ok_u_law_take e) (kb_u_law_take e) (b.room.mono (by decide)) b.gu b.tk rfl (g__law_take e) (kp_u_law_take e) (ma_cons (me_var 0) (ma_cons me_int ma_nil)) mk_nil) me_int) ma_nil)))
  (mps_cons (mp_if (mt_w (mw_and (mt_val (me_var 1)) (mw_and1 (mt_not (mt_val (me_call sndB gok_posn (ok_u_law_large_right e) (kb_u_law_large_right e) (b.room.mono (by decide)) b.gu b.tk rfl (g__law_large_right e) (kp_u_law_large_right e) (ma_cons (me_var 0) ma_nil) mk_nil))))))
  (mps_one (mp_ret me_bl))
  mps_nil)
  (mps_cons (mp_set (i := 3) b.hN (me_call sndB gok_posn (ok_u_law_world e) (kb_u_law_world e) (b.room.mono (by decide)) b.gu b.tk rfl (g__law_world e) (kp_u_law_world e) (ma_cons (me_var 0) (ma_cons me_int (ma_cons me_int ma_nil))) mk_nil))
  (mps_cons (mp_if (mt_val (me_var 2))
  (mps_one (mp_set (i := 3) b.hN (me_lst (ma_cons (me_ix (me_var 3) me_int) (ma_cons (me_lst ma_nil) ma_nil)))))
  mps_nil)
  (mps_cons (mp_par (i := 4) (j := 5) b.calm b.hN (ma_cons (me_new (k_Net e) gok_posn (fun _ _ _ => rfl) (ok_Net___init__ e) (kb_Net___init__ e) (b.room.mono (by decide)) b.gu b.tk rfl (g_Net e) (ma_cons (me_ix (me_var 3) me_int) (ma_cons (me_toList rfl (g_list e) (ma_cons (me_ix (me_var 3) me_int) ma_nil)) ma_nil)) mk_nil) (ma_cons (me_cel ma_nil) ma_nil)))
  (mps_cons (mp_for (is := [6]) b.po b.calm (mi_rng1 rfl (g_range e) me_int) (mg_name 6 b.hN)
  (mps_cons (mp_par (i := 8) (j := 9) b.calm b.hN (ma_cons (me_call sndB gok_posn (ok_u_law_load e) (kb_u_law_load e) (b.room.mono (by decide)) b.gu b.tk rfl (g__law_load e) (kp_u_law_load e) (ma_cons (me_var 0) (ma_cons (me_var 3) ma_nil)) mk_nil) (ma_cons (me_call sndB gok_posn (ok_u_law_lasts e) (kb_u_law_lasts e) (b.room.mono (by decide)) b.gu b.tk rfl (g__law_lasts e) (kp_u_law_lasts e) (ma_cons (me_var 0) (ma_cons (me_var 3) ma_nil)) mk_nil) ma_nil)))
  (mps_one (mp_expr (me_app (me_var 5) (ma_cons (me_tup (ma_cons (me_new (k_State e) gok_posn (fun _ _ _ => rfl) (ok_State___init__ e) (kb_State___init__ e) (b.room.mono (by decide)) b.gu b.tk rfl (g_State e) (ma_cons (me_var 4) (ma_cons (me_toList rfl (g_list e) (ma_cons (me_var 8) ma_nil)) (ma_cons (me_toList rfl (g_list e) (ma_cons (me_var 9) ma_nil)) ma_nil))) mk_nil) (ma_cons (me_var 8) (ma_cons (me_var 9) ma_nil)))) ma_nil))))))
  (mps_cons (mp_if (mt_ne b.u64 (me_repr b.gu b.u64 rfl (g_repr e) (ma_cons (me_lc (own := [("row", 10)]) (is := [10]) snd_asLst b.calm b.hN (mi_seq (me_var 5)) (blkOk_by (by first | rfl | decide +kernel)) (by decide) (fun _ _ _ _ _ => (mg_name 10 b.hN)) (fun _ _ _ _ _ => mts_nil) (fun _ _ _ _ _ => (me_call sndP gok_posn (ok_legal e) (kb_legal e) (b.room.mono (by decide)) b.gu takes_none rfl (g_legal e) (kp_legal e) (ma_cons (me_ix (me_var 10) me_int) ma_nil) mk_nil))) ma_nil)) (me_repr b.gu b.u64 rfl (g_repr e) (ma_cons (me_lc (own := [("row", 10)]) (is := [10]) snd_asLst b.calm b.hN (mi_seq (me_var 5)) (blkOk_by (by first | rfl | decide +kernel)) (by decide) (fun _ _ _ _ _ => (mg_name 10 b.hN)) (fun _ _ _ _ _ => mts_nil) (fun _ _ _ _ _ => (me_call sndP gok_posn (ok_u_law_legal e) (kb_u_law_legal e) (b.room.mono (by decide)) b.gu takes_none rfl (g__law_legal e) (kp_u_law_legal e) (ma_cons (me_var 3) (ma_cons (me_ix (me_var 10) me_int) (ma_cons (me_ix (me_var 10) me_int) ma_nil))) mk_nil))) ma_nil)))
  (mps_one (mp_ret me_bl))
  mps_nil)
  (mps_cons (mp_for (is := [7, 8, 9]) b.po b.calm (mi_seq (me_var 5)) (mg_tup b.calm (mgs_cons (mg_name 7 b.hN) (mgs_cons (mg_name 8 b.hN) (mgs_cons (mg_name 9 b.hN) mgs_nil))))
  (mps_one (mp_if (mt_w (mw_or (mt_not (mt_val (me_call sndP gok_posn (ok_u_law_moment e) (kb_u_law_moment e) (b.room.mono (by decide)) b.gu b.tk rfl (g__law_moment e) (kp_u_law_moment e) (ma_cons (me_var 3) (ma_cons (me_var 7) (ma_cons (me_var 8) (ma_cons (me_var 9) ma_nil)))) mk_nil))) (mw_or1 (mt_not (mt_val (me_call sndB gok_posn (ok_u_law_walk_right e) (kb_u_law_walk_right e) (b.room.mono (by decide)) b.gu b.tk rfl (g__law_walk_right e) (kp_u_law_walk_right e) (ma_cons (me_var 0) (ma_cons (me_var 3) (ma_cons (me_var 7) (ma_cons (me_var 8) (ma_cons (me_var 9) ma_nil))))) mk_nil))))))
  (mps_one (mp_ret me_bl))
  mps_nil)))
  (mps_cons (mp_for (is := [7, 8, 9]) b.po b.calm (mi_seq (me_var 5)) (mg_tup b.calm (mgs_cons (mg_name 7 b.hN) (mgs_cons (mg_name 8 b.hN) (mgs_cons (mg_name 9 b.hN) mgs_nil))))
  (mps_one (mp_if (mt_not (mt_val (me_call sndP gok_posn (ok_u_law_moment e) (kb_u_law_moment e) (b.room.mono (by decide)) b.gu b.tk rfl (g__law_moment e) (kp_u_law_moment e) (ma_cons (me_var 3) (ma_cons (me_var 7) (ma_cons (me_var 8) (ma_cons (me_var 9) ma_nil)))) mk_nil)))
  (mps_one (mp_ret me_bl))
  mps_nil)))
  (mps_one (mp_ret me_bl)))))))))))
theorem sc_law : FnScope N_law ["script"] (defScope st_law) := ⟨rfl, rfl, rfl, by decide +kernel, rfl, by decide +kernel, by decide +kernel⟩
theorem ok_law (e : En K mg) : FnG P w K mg base 18 (He.ga K "law") (fdK K ("law", none)) ["script"] (spM ⟨K, mg⟩ 1 F_law) :=
  FnG.of (fd_at e.c 50 (d := d_law)) sc_law fun _ _ _ _ _ _ b => (mps_cons (mp_for (is := [1]) b.po b.calm (mi_rng1 rfl (g_range e) (me_max b.calm rfl (g_max e) (ma_cons me_int (ma_cons (me_min b.calm rfl (g_min e) (ma_cons me_int (ma_cons (me_len rfl (g_len e) (ma_cons (me_var 0) ma_nil)) ma_nil))) ma_nil)))) (mg_name 1 b.hN)
  (mps_one (mp_if (mt_not (mt_val (me_call sndB gok_posn (ok_u_law_right e) (kb_u_law_right e) (b.room.mono (by decide)) b.gu b.tk rfl (g__law_right e) (kp_u_law_right e) (ma_cons (me_call sndF gok_posn (ok_u_law_box e) (kb_u_law_box e) (b.room.mono (by decide)) b.gu b.tk rfl (g__law_box e) (kp_u_law_box e) (ma_cons (me_call sndP gok_posn (ok_u_law_cell e) (kb_u_law_cell e) (b.room.mono (by decide)) b.gu b.tk rfl (g__law_cell e) (kp_u_law_cell e) (ma_cons (me_var 0) (ma_cons (me_var 1) ma_nil)) mk_nil) ma_nil) mk_nil) ma_nil) mk_nil)))
  (mps_one (mp_ret me_bl))
  mps_nil)))
  (mps_one (mp_ret me_bl)))
end
end K05
end
section
set_option Elab.async false
set_option linter.all false
set_option maxRecDepth 100000
namespace K05
open PySem PySem.Spec L2 Me
open PyProof.Rows hiding St
def boxC (a : Int) (f : Bool) (c n : Int) : Cel := .lst [.int a, .bl f, .int c, .int n]
def Bx (m : Nat) (C : Cel) : Prop := ∃ a f c n, C = boxC a f c n ∧ 0 ≤ a ∧ 0 ≤ c ∧ c < 2147483629 ∧ 0 ≤ n ∧ n ≤ m
theorem Bx.cf {m : Nat} {C : Cel} (h : Bx m C) : C.cf = true := by
  obtain ⟨a, f, c, n, rfl, _⟩ := h
  rfl
theorem log2_small {n : Nat} (h : n < 2 ^ 400) : n.log2 < 400 := by
  by_cases h0 : n = 0
  · subst h0; decide
  · exact (Nat.log2_lt h0).mpr h
set_option exponentiation.threshold 500
theorem mulW {i j : Int} (hi : i.natAbs < 2 ^ 400) (hj : j.natAbs < 2 ^ 400) : CMulW i j := by
  have h1 := log2_small hi
  have h2 := log2_small hj
  unfold CMulW
  omega
theorem divW {i j : Int} (h0 : 0 < j) (hj : j.natAbs < 2 ^ 400) : CDivW i j := ⟨h0, by have := log2_small hj; omega⟩
theorem powW {i : Int} {j : Int} (h0 : 0 ≤ i) (h1 : i < 2 ^ 64) (h2 : 0 ≤ j) (h3 : j ≤ 1000000) : CPow i j := ⟨h2, h3, by omega⟩
theorem get0 {α : Type} {a : α} {l : List α} : (a :: l)[0]? = some a := rfl
theorem get1 {α : Type} {a b : α} {l : List α} : (a :: b :: l)[1]? = some b := rfl
theorem get2 {α : Type} {a b c : α} {l : List α} : (a :: b :: c :: l)[2]? = some c := rfl
theorem get3 {α : Type} {a b c d : α} {l : List α} : (a :: b :: c :: d :: l)[3]? = some d := rfl
theorem take_body {a c n many : Int} {f : Bool} (ha : 0 ≤ a) (hc : 0 ≤ c) (hc2 : c < 2147483629) (hn : 0 ≤ n) (hn2 : n < 1000000000) (hm : 0 < many) (hm2 : many ≤ 1000000) :
    Ok (F_u_law_take [.cell 0, .int many] [boxC a f c n]) fun d S' => ∃ i a' n', d = .int i ∧ 0 ≤ i ∧ i < many ∧ S' = [boxC a' f c n'] ∧ 0 ≤ a' ∧ 0 ≤ n' ∧ n' ≤ n + 1 := by
  refine Me.ok_run ?_
  have e0 : stD N_u_law_take [.cell 0, .int many] = [some (.cell 0), some (.int many), none, none] := rfl
  rw [e0]
  unfold B_u_law_take boxC
  have x3 : ixN [D.int a, D.bl f, D.int c, D.int n].length 3 = some 3 := rfl
  have x0 : ixN [D.int a, D.bl f, D.int c, D.int n].length 0 = some 0 := rfl
  by_cases hf : f = true ∧ 0 < a
  · obtain ⟨rfl, h0⟩ := hf
    simp only [oks_seq, oks_if, oks_set, oks_item, oks_ret, ok_band, ok_tob, ok_bin, ok_var, ok_c, ok_fn, ok_f1, ok_acons, ok_anil, ok_ixC, get0, get1, get2, get3, atI_0, atI_1, atI_2, atI_3, ok_gtI, h0, decide_true, if_true, ok_pInt, ok_modI hm, List.set_cons_succ, List.set_cons_zero, ok_divI (divW (i := a) hm (by omega)), x0]
    exact ⟨a % many, a / many, n, rfl, Int.emod_nonneg _ (by omega), Int.emod_lt_of_pos _ hm, rfl, Int.ediv_nonneg ha (by omega), hn, by omega⟩
  · have hk : f = false ∨ (f = true ∧ decide (0 < a) = false) := by
      cases f with
      | false => exact Or.inl rfl
      | true =>
        refine Or.inr ⟨rfl, ?_⟩
        by_cases h : 0 < a
        · exact absurd ⟨rfl, h⟩ hf
        · simp [h]
    have p1 : CMulW 15485863 (n + 1) := mulW (by omega) (by omega)
    have q1 : (0 : Int) ≤ c + 15485863 * (n + 1) + 179424673 := by omega
    have q2 : c + 15485863 * (n + 1) + 179424673 < 2 ^ 64 := by omega
    have p2 := powW (j := 5) q1 q2 (by omega) (by omega)
    have b1 : 0 ≤ (c + 15485863 * (n + 1) + 179424673) ^ (5 : Int).toNat % 2147483647 := Int.emod_nonneg _ (by omega)
    have b2 : (c + 15485863 * (n + 1) + 179424673) ^ (5 : Int).toNat % 2147483647 < 2147483647 := Int.emod_lt_of_pos _ (by omega)
    have p3 : ∀ mx : Int, 0 ≤ mx → mx < 2147483647 → CMulW mx 48271 := fun mx h1 h2 => mulW (by omega) (by omega)
    have p4 : CMulW 104729 (n + 1) := mulW (by omega) (by omega)
    have p5 : ∀ mx : Int, 0 ≤ mx → mx < 2147483647 → CPow (mx * 48271 + 104729 * (n + 1)) 3 := fun mx h1 h2 => powW (by omega) (by omega) (by omega) (by omega)
    rcases hk with rfl | ⟨rfl, h0⟩
    · simp only [oks_seq, oks_if, oks_set, oks_item, oks_ret, ok_band, ok_tob, ok_bin, ok_var, ok_c, ok_fn, ok_f1, ok_acons, ok_anil, ok_ixC, get0, get1, get2, get3, atI_0, atI_1, atI_2, atI_3, ok_gtI, ok_pInt, oks_nx, List.set_cons_succ, List.set_cons_zero, ok_addI, x3, ok_mulI p1, ok_powI p2, ok_modI (show (0 : Int) < 2147483647 by omega), Bool.false_eq_true, if_false]
      generalize (c + 15485863 * (n + 1) + 179424673) ^ (5 : Int).toNat % 2147483647 = mx at b1 b2 ⊢
      simp only [ok_mulI (p3 mx b1 b2), ok_ixC, get0, atI_3, ok_mulI p4, ok_addI, ok_powI (p5 mx b1 b2), ok_pInt, ok_modI (show (0 : Int) < 2147483587 by omega), ok_divI (divW (show (0 : Int) < 64 by omega) (by omega)), ok_modI hm]
      exact ⟨_, a, n + 1, rfl, Int.emod_nonneg _ (by omega), Int.emod_lt_of_pos _ hm, rfl, ha, by omega, by omega⟩
    · simp only [oks_seq, oks_if, oks_set, oks_item, oks_ret, ok_band, ok_tob, ok_bin, ok_var, ok_c, ok_fn, ok_f1, ok_acons, ok_anil, ok_ixC, get0, get1, get2, get3, atI_0, atI_1, atI_2, atI_3, ok_gtI, ok_pInt, oks_nx, List.set_cons_succ, List.set_cons_zero, ok_addI, x3, ok_mulI p1, ok_powI p2, ok_modI (show (0 : Int) < 2147483647 by omega), Bool.false_eq_true, if_false, if_true, h0]
      generalize (c + 15485863 * (n + 1) + 179424673) ^ (5 : Int).toNat % 2147483647 = mx at b1 b2 ⊢
      simp only [ok_mulI (p3 mx b1 b2), ok_ixC, get0, atI_3, ok_mulI p4, ok_addI, ok_powI (p5 mx b1 b2), ok_pInt, ok_modI (show (0 : Int) < 2147483587 by omega), ok_divI (divW (show (0 : Int) < 64 by omega) (by omega)), ok_modI hm]
      exact ⟨_, a, n + 1, rfl, Int.emod_nonneg _ (by omega), Int.emod_lt_of_pos _ hm, rfl, ha, by omega, by omega⟩
theorem take_ok {m k : Nat} {C : Cel} {S : List Cel} {many : Int} {P : D → List Cel → Prop} (hS : S[k]? = some C) (hB : Bx m C) (hm : m < 1000000000) (h0 : 0 < many) (h1 : many ≤ 1000000) (hp : ∀ i : Nat, (i : Int) < many → ∀ C', Bx (m + 1) C' → P (.int (i : Int)) (S.set k C')) :
    Ok (callB F_u_law_take [.cell k, .int many] S) P := by
  have cf := hB.cf
  obtain ⟨a, f, c, n, rfl, ha, hc, hc2, hn, hn2⟩ := hB
  refine ok_callB (Q := fun d C' => ∃ i : Nat, d = .int (i : Int) ∧ (i : Int) < many ∧ Bx (m + 1) C') hS ((take_body ha hc hc2 hn (by omega) h0 h1).imp fun d S' ⟨i, a', n', e1, e2, e3, e4, e5, e6, e7⟩ => ?_) (by simp [D.cfL, D.cf, cf]) fun d C' ⟨i, e1, e2, e3⟩ => ?_
  · subst e1 e4
    refine ⟨_, _, rfl, rfl, i.toNat, by rw [Int.toNat_of_nonneg e2], by omega, a', f, c, n', rfl, e5, hc, hc2, e6, by omega⟩
  · subst e1
    exact hp i e2 C' e3
/-! ### the law's own rules of nets -/
abbrev Tk := List (Int × Bool)
def tskD (t : Tk) : D := .tup (t.map endD)
def worldD (n : Int) (ts : List Tk) : D := .lst [.int n, .lst (ts.map tskD)]
def isAt (ts : List Tk) (node : Int) (k : Nat) : Bool := decide (node ∈ (ts.getD k []).map (·.1))
def atN (ts : List Tk) (node : Int) : List Nat := (List.range ts.length).filter (isAt ts node)
def nats (l : List Nat) : List D := l.map fun k : Nat => D.int (k : Int)
theorem tsk_get {ts : List Tk} {k : Nat} (h : k < ts.length) : (ts.map tskD)[k]? = some (tskD (ts.getD k [])) := by
  rw [List.getElem?_map, List.getElem?_eq_getElem h, List.getD_eq_getElem?_getD, List.getElem?_eq_getElem h]
  rfl
theorem rngL_eq (n : Nat) : rngL 0 n = nats (List.range n) := by
  unfold rngL nats
  simp
/-- all tasks are no longer than two ends -/
def Sh (ts : List Tk) : Prop := ts.length ≤ 100 ∧ ∀ t ∈ ts, t.length ≤ 2
theorem nats_cf (l : List Nat) : D.cfL (nats l) = true := by
  induction l with
  | nil => rfl
  | cons a l ih => exact ih
theorem ints_cf (l : List Int) : D.cfL (l.map D.int) = true := by
  induction l with
  | nil => rfl
  | cons a l ih => exact ih
theorem ends_cf (t : Tk) : D.cfL (t.map endD) = true := by
  induction t with
  | nil => rfl
  | cons a l ih => exact ih
theorem tsks_cf (ts : List Tk) : D.cfL (ts.map tskD) = true := by
  induction ts with
  | nil => rfl
  | cons t l ih =>
    simp only [List.map_cons, D.cfL, ih, Bool.and_true]
    exact ends_cf t
theorem world_cf (n : Int) (ts : List Tk) : (worldD n ts).cf = true := by
  simp only [worldD, D.cf, D.cfL, tsks_cf, Bool.and_true]
theorem olasts_cf (l : List (Option Int)) : D.cfL (l.map oD) = true := by
  induction l with
  | nil => rfl
  | cons a l ih => cases a <;> exact ih
theorem atN_lt {ts : List Tk} {node : Int} {k : Nat} (h : k ∈ atN ts node) : k < ts.length := List.mem_range.mp (List.mem_filter.mp h).1
theorem atN_len (ts : List Tk) (node : Int) : (atN ts node).length ≤ ts.length := by
  have := List.length_filter_le (isAt ts node) (List.range ts.length)
  rw [List.length_range] at this
  exact this
/-- a call of it -/
def loadD (l : List Int) : D := .lst (l.map D.int)
def lastsD (l : List (Option Int)) : D := .lst (l.map oD)
def workN (ts : List Tk) (l : List Int) (node : Int) : Int := ((atN ts node).map fun k => l.getD k 0).sum
theorem ints_get {l : List Int} {k : Nat} (h : k < l.length) : (l.map D.int)[k]? = some (.int (l.getD k 0)) := by
  rw [List.getElem?_map, List.getElem?_eq_getElem h, List.getD_eq_getElem?_getD, List.getElem?_eq_getElem h]
  rfl
theorem nats_mem {l : List Nat} {d : D} (h : d ∈ nats l) : ∃ k ∈ l, d = .int (k : Int) := by
  obtain ⟨k, h1, h2⟩ := List.mem_map.mp h
  exact ⟨k, h1, h2.symm⟩
theorem sz : sizeLine = 16777216 := by rw [sizeLine_eq]
/-- a comprehension over places -/
theorem fm_nats {f : D → Option D} {g : Nat → D} (l : List Nat) (h : ∀ k ∈ l, f (.int (k : Int)) = some (g k)) : (nats l).filterMap f = l.map g := by
  induction l with
  | nil => rfl
  | cons a l ih =>
    rw [show nats (a :: l) = .int (a : Int) :: nats l from rfl, List.filterMap_cons, h a (by simp), List.map_cons, ih fun k hk => h k (List.mem_cons_of_mem _ hk)]
/-! ### slacks by the law's own counts -/
def minded (ts : List Tk) (node : Int) (k : Nat) : Bool := decide ((node, true) ∈ ts.getD k [])
def isLast (la : List (Option Int)) (node : Nat) (k : Nat) : Int := if la.getD node none = some (k : Int) then 1 else 0
def slk (ts : List Tk) (l : List Int) (la : List (Option Int)) (node : Nat) (k : Nat) : Int := workN ts l node + 1 - 2 * l.getD k 0 - isLast la node k
def slN (ts : List Tk) (l : List Int) (la : List (Option Int)) (node : Nat) : List Nat := (atN ts node).filter (minded ts node)
def pairD (p : Nat × Int) : D := .tup [.int (p.1 : Int), .int p.2]
theorem olasts_get {la : List (Option Int)} {k : Nat} (h : k < la.length) : (la.map oD)[k]? = some (oD (la.getD k none)) := by
  rw [List.getElem?_map, List.getElem?_eq_getElem h, List.getD_eq_getElem?_getD, List.getElem?_eq_getElem h]
  rfl
theorem nats_get {l : List Nat} {i : Nat} {d : D} (h : (nats l)[i]? = some d) : ∃ k, l[i]? = some k ∧ d = .int (k : Int) := by
  unfold nats at h
  rw [List.getElem?_map, Option.map_eq_some_iff] at h
  obtain ⟨k, h1, h2⟩ := h
  exact ⟨k, h1, h2.symm⟩
theorem take_next {α : Type} {l : List α} {i : Nat} {a : α} (h : l[i]? = some a) : l.take (i + 1) = l.take i ++ [a] := by rw [List.take_add_one, h]; rfl
/-! ### cells and boxes -/
theorem box_call {g : Int} {S : List Cel} {P : D → List Cel → Prop} (hp : ∀ C, Bx 0 C → P (.cell S.length) (S ++ [C])) : Ok (callF F_u_law_box [.int g] S) P := by
  refine ok_callF (Q := fun xs => Bx 0 (.lst xs)) ?_ rfl fun xs h => hp _ h
  unfold F_u_law_box
  rw [ok_runE]
  have e0 : stD N_u_law_box [.int g] = [some (.int g)] := rfl
  rw [e0]
  unfold B_u_law_box
  have pw : CPow 10 18 := powW (by omega) (by omega) (by omega) (by omega)
  simp only [oks_ret, ok_cel, ok_acons, ok_anil, ok_fn, ok_f1, ok_bin, ok_var, ok_c, get0, ok_pAbs, ok_powI pw, ok_geI, ok_pInt, ok_modI (show (0 : Int) < 2147483629 by omega)]
  have ab : 0 ≤ (if g < 0 then -g else g) := by split <;> omega
  refine ⟨by rw [sz]; simp, 0, _, rfl, rfl, rfl, _, _, _, _, rfl, ab, Int.emod_nonneg _ (by omega), Int.emod_lt_of_pos _ (by omega), by omega, by omega⟩
theorem cell_call {ns : List Int} {k : Nat} {S : List Cel} {P : D → List Cel → Prop} (hl : ns.length ≤ 63) (hk : k ≤ 100) (hp : ∀ g : Int, P (.int g) S) : Ok (callP F_u_law_cell [.frl (ns.map D.int), .int (k : Int)] S) P := by
  refine ok_callP (Q := fun d => ∃ g : Int, d = .int g) ?_ (by simp only [D.cfL, D.cf, ints_cf, Bool.and_true]) fun d ⟨g, e⟩ => by rw [e]; exact hp g
  unfold F_u_law_cell
  rw [ok_runE]
  have e0 : stD N_u_law_cell [.frl (ns.map D.int), .int (k : Int)] = [some (.frl (ns.map D.int)), some (.int (k : Int))] := rfl
  rw [e0]
  unfold B_u_law_cell
  simp only [oks_ret, ok_if, ok_tob, ok_bin, ok_fn, ok_f1, ok_acons, ok_anil, ok_var, get0, get1, ok_lenF, ok_ltI, List.length_map, decide_eq_true_eq]
  by_cases hk2 : (k : Int) < (ns.length : Int)
  · rw [if_pos hk2]
    have h3 : k < ns.length := by omega
    simp only [ok_ixF, Me.atI_nat, ints_get h3]
    exact ⟨rfl, _, rfl⟩
  · rw [if_neg hk2]
    have p1 : CMulW 6007 (k : Int) := mulW (by omega) (by omega)
    have cut1 : ∃ l : List Int, Me.cutD (ns.map D.int) none (some 1) = l.map D.int := by
      unfold Me.cutD
      rw [← List.map_drop, ← List.map_take]
      exact ⟨_, rfl⟩
    obtain ⟨l, hcut⟩ := cut1
    simp only [ok_c, ok_mulI p1, ok_sl, ok_ono, ok_oso, ok_var, get0, lstD, hcut, ok_ok, ok_sumA, ok_modI (show (0 : Int) < 1000033 by omega), ok_addI]
    exact ⟨rfl, _, rfl⟩
/-! ### lasts -/
def okLast (ts : List Tk) (node : Nat) (o : Option Int) : Prop := ∀ i, o = some i → ∃ k : Nat, i = (k : Int) ∧ k ∈ atN ts node
/-! ### worlds -/
/-- a task of n nodes -/
def Vt (n : Int) (t : Tk) : Prop := (∃ a b, t = [(a, b)] ∧ 0 ≤ a ∧ a < n) ∨ ∃ a b c d, t = [(a, b), (c, d)] ∧ 0 ≤ a ∧ a < c ∧ c < n
theorem Bx.mono {a b : Nat} {C : Cel} (h : Bx a C) (hab : a ≤ b) : Bx b C := by
  obtain ⟨a1, f, c, n1, e, h1, h2, h3, h4, h5⟩ := h
  exact ⟨a1, f, c, n1, e, h1, h2, h3, h4, by omega⟩
theorem sort2 {a b : Int} (h : a ≠ b) : ∃ x y, sortI [a, b] = [x, y] ∧ x < y ∧ ((x = a ∧ y = b) ∨ (x = b ∧ y = a)) := by
  have hp := sortI_perm [a, b]
  have hs := sortI_sorted [a, b]
  have hl := hp.length_eq
  match he : sortI [a, b], hl with
  | [x, y], _ =>
    rw [he] at hp hs
    have hxy : x ≤ y := by simpa using hs
    have hm : x ∈ [a, b] := hp.mem_iff.mp (by simp)
    have hm2 : y ∈ [a, b] := hp.mem_iff.mp (by simp)
    have hma : a ∈ [x, y] := hp.mem_iff.mpr (by simp)
    have hmb : b ∈ [x, y] := hp.mem_iff.mpr (by simp)
    simp at hm hm2 hma hmb
    refine ⟨x, y, rfl, by omega, by omega⟩
/-- the ends drawn for these nodes -/
theorem ends_ok {rw_ : Rho} {i j : Nat} {g : GD} {nd : List Int} {m : Nat} {C : Cel} {S : List Cel} {P : D → List Cel → Prop} {e : M} {x : MSrc} {r : Rho} {vs : List Nat} (hl : nd.length ≤ 3)
    (hx : ∀ PS : Src → List Cel → Prop, PS ⟨nd.map D.int, none⟩ (C :: S) → Ok (x r (C :: S)) PS) (hB : Bx m C) (hm : m ≤ 1000000)
    (hg : ∀ a : Int, ∃ r1, g (.int a) (wipeD r vs) = some r1 ∧ ∀ (C : Cel) (mm : Nat) (P : D → List Cel → Prop), Bx mm C → mm ≤ 1000003 → (∀ b C', Bx (mm + 1) C' → P (endD (a, b)) (C' :: S)) → Ok (e r1 (C :: S)) P)
    (hp : ∀ bs : List Bool, bs.length = nd.length → ∀ C', Bx (m + nd.length) C' → P (.lst ((nd.zip bs).map endD)) (C' :: S)) : Ok (eLc asLst x vs g bYes e r (C :: S)) P := by
  refine ok_lc (fun s k acc S' => s = ⟨nd.map D.int, none⟩ ∧ ∃ (bs : List Bool) (C' : Cel), bs.length = k ∧ acc = ((nd.take k).zip bs).map endD ∧ S' = C' :: S ∧ Bx (m + k) C') ?_
  refine hx _ ⟨trivial, ⟨rfl, [], C, rfl, by simp, rfl, hB⟩, fun k d acc S' hd _ hI => ?_, fun acc S' _ hI => ?_⟩
  · obtain ⟨_, bs, C', hb, rfl, rfl, hbx⟩ := hI
    rw [List.getElem?_map, Option.map_eq_some_iff] at hd
    obtain ⟨a, ha, rfl⟩ := hd
    have hk := (List.getElem?_eq_some_iff.mp ha).1
    obtain ⟨r1, e1, h1⟩ := hg a
    refine ⟨r1, e1, ?_⟩
    rw [ok_yes]
    simp only [if_true]
    refine h1 C' (m + k) _ hbx (by omega) fun b C2 hb2 => ⟨trivial, ?_, trivial, bs ++ [b], C2, by simp [hb], ?_, rfl, hb2⟩
    · rw [List.length_map, List.length_zip, List.length_take, sz]
      omega
    · rw [take_next ha, List.zip_append (by rw [List.length_take, hb]; omega), List.map_append]
      rfl
  · obtain ⟨_, bs, C', hb, rfl, rfl, hbx⟩ := hI
    rw [List.length_map] at hb hbx
    rw [ok_asLst, List.length_map, List.take_length]
    exact hp bs hb C' hbx
theorem idx8 {l : List D} {j : Nat} {S : List Cel} {P : D → List Cel → Prop} (hl : l.length = 8) (hj : (j : Int) < 8) (h : ∀ d ∈ l, P d S) : Ok (pIx (.lst l) (.int (j : Int)) S) P := by
  have hj2 : j < l.length := by omega
  rw [ok_ixL, Me.atI_nat, List.getElem?_eq_getElem hj2]
  exact h _ (List.getElem_mem hj2)
/-! ### loads -/
theorem toPy_nats {S : List Cel} (l : List Nat) : toPy S (.lst (nats l)) = some (.list (l.map fun k : Nat => PyData.int (k : Int))) := by
  have := py_map (c := cellPy 3 S) (f := fun k : Nat => D.int (k : Int)) (g := fun k : Nat => PyData.int (k : Int)) (fun _ => rfl) l
  simp [toPy, pyD, nats, this]
theorem ok_eqNil {S : List Cel} {P : D → List Cel → Prop} {neg : Bool} {l : List Nat} : Ok (pEqA neg (.lst (nats l)) (.lst []) S) P = P (.bl (if neg = true then !decide (l = []) else decide (l = []))) S := by
  have e2 : toPy S (.lst []) = some (.list []) := rfl
  have sh : SeqAt.shaped (.list (l.map fun k : Nat => PyData.int (k : Int))) = true := shaped_list (n := 1) (fun _ => rfl) (fun a => by simp [PyData.depth]) (by omega) l
  have s2 : SeqAt.shaped (.list []) = true := rfl
  have e3 : PyData.eqv (.list (l.map fun k : Nat => PyData.int (k : Int))) (.list []) = decide (l = []) := by
    cases l <;> simp [PyData.eqv, PyData.eqvAll]
  unfold pEqA orR pEqT pEq
  simp only [toPy_nats, e2, sh, s2, Bool.and_true, if_true, e3]
  rfl
def Lb (l : List Int) (B : Int) : Prop := ∀ x ∈ l, 0 ≤ x ∧ x ≤ B
theorem Lb.sum {B : Int} (hB : 0 ≤ B) : ∀ {l : List Int}, Lb l B → 0 ≤ l.sum ∧ l.sum ≤ B * (l.length : Int)
  | [], _ => by simp
  | a :: l, h => by
    have h1 := h a (by simp)
    have h2 := Lb.sum hB (l := l) fun x hx => h x (List.mem_cons_of_mem _ hx)
    simp only [List.sum_cons, List.length_cons]
    have e : B * ((l.length + 1 : Nat) : Int) = B * (l.length : Int) + B := by
      rw [show ((l.length + 1 : Nat) : Int) = (l.length : Int) + 1 by omega, Int.mul_add, Int.mul_one]
    rw [e]
    omega
theorem Lb.get {l : List Int} {B : Int} (h : Lb l B) (hB : 0 ≤ B) (k : Nat) : 0 ≤ l.getD k 0 ∧ l.getD k 0 ≤ B := by
  rw [List.getD_eq_getElem?_getD]
  by_cases hk : k < l.length
  · rw [List.getElem?_eq_getElem hk]
    exact h _ (List.getElem_mem hk)
  · rw [List.getElem?_eq_none (by omega)]
    exact ⟨Int.le_refl _, hB⟩
theorem fm_const {α : Type} {f : α → D} : ∀ l : List α, (l.map f).filterMap (fun _ => some (D.int 0)) = (List.replicate l.length (0 : Int)).map D.int
  | [] => rfl
  | a :: l => by
    rw [List.map_cons, List.filterMap_cons, fm_const l]
    rfl
/-- the counts of the others -/
def restN (ts : List Tk) (l : List Int) (node : Int) (t : Nat) : Int := (((atN ts node).filter fun k => decide (k ≠ t)).map fun k => l.getD k 0).sum
end K05
end
section
set_option Elab.async false
set_option linter.all false
set_option maxRecDepth 100000
namespace K05
open PySem PySem.Spec L2 Me
open PyProof.Rows hiding St
/-! ### kinds, checks -/
theorem integer_call {i : Int} {S : List Cel} {P : D → List Cel → Prop} (hp : P (.bl true) S) : Ok (callP F_is_integer [.int i] S) P := by
  refine ok_callP (Q := fun d => d = .bl true) ?_ rfl fun d e => by rw [e]; exact hp
  unfold F_is_integer
  rw [ok_runE]
  unfold B_is_integer
  have e0 : stD N_is_integer [.int i] = [some (.int i)] := rfl
  rw [e0]
  simp only [oks_ret, ok_and, ok_not, ok_is, ok_var, get0, tyS, tyD]
  exact ⟨rfl, rfl⟩
theorem count_call {i : Int} {S : List Cel} {P : D → List Cel → Prop} (hp : P (.bl (decide (0 ≤ i))) S) : Ok (callP F_is_count [.int i] S) P := by
  refine ok_callP (Q := fun d => d = .bl (decide (0 ≤ i))) ?_ rfl fun d e => by rw [e]; exact hp
  unfold F_is_count
  rw [ok_runE]
  unfold B_is_count
  have e0 : stD N_is_count [.int i] = [some (.int i)] := rfl
  rw [e0]
  simp only [oks_ret, ok_and, ok_call, ok_acons, ok_anil, ok_bin, ok_c, ok_var, get0, posn]
  refine ⟨rfl, integer_call ?_⟩
  simp only [ok_geI]
  exact ⟨rfl, trivial⟩
theorem index_call {i n : Int} {S : List Cel} {P : D → List Cel → Prop} (hp : P (.bl (decide (0 ≤ i ∧ i < n))) S) : Ok (callP F_is_index [.int i, .int n] S) P := by
  refine ok_callP (Q := fun d => d = .bl (decide (0 ≤ i ∧ i < n))) ?_ rfl fun d e => by rw [e]; exact hp
  unfold F_is_index
  rw [ok_runE]
  unfold B_is_index
  have e0 : stD N_is_index [.int i, .int n] = [some (.int i), some (.int n)] := rfl
  rw [e0]
  simp only [oks_ret, ok_and, ok_call, ok_acons, ok_anil, ok_bin, ok_c, ok_var, get0, get1, posn]
  refine ⟨rfl, count_call ?_⟩
  by_cases h : 0 ≤ i
  · simp only [h, decide_true, ok_ltI, true_and]
    exact ⟨rfl, trivial⟩
  · simp only [h, decide_false, false_and]
    exact ⟨rfl, trivial⟩
/-! ### rows of a node, as the program asks for them -/
structure Row where
  t : Nat
  m : Bool
  c : Int
def rowD (r : Row) : D := .tup [.int (r.t : Int), .bl r.m, .int r.c]
def rowsD (rs : List Row) : D := .lst (rs.map rowD)
theorem rows_cf (rs : List Row) : D.cfL (rs.map rowD) = true := by
  induction rs with
  | nil => rfl
  | cons a l ih => exact ih
theorem fm_rows {f : D → Option D} {g : Row → Option D} (h : ∀ r, f (rowD r) = g r) : ∀ rs : List Row, (rs.map rowD).filterMap f = rs.filterMap g
  | [] => rfl
  | r :: rs => by
    rw [List.map_cons, List.filterMap_cons, List.filterMap_cons, h r, fm_rows h rs]
/-- the slack of a row -/
def slkR (rs : List Row) (last : Option Int) (r : Row) : Int := (rs.map (·.c)).sum + 1 - 2 * r.c - if decide (some (r.t : Int) = last) = true then 1 else 0
/-- the first row that is just tight -/
def tightR (rs : List Row) (last : Option Int) : Option Int := ((rs.filter (·.m)).find? fun r => decide (slkR rs last r = 0)).map fun r => (r.t : Int)
end K05
end
section
set_option Elab.async false
set_option linter.all false
set_option maxRecDepth 100000
namespace K05
open PySem PySem.Spec L2 Me
open PyProof.Rows hiding St
/-! ### nets -/
theorem tupleOf_call {xs : List D} {n : Int} {S : List Cel} {P : D → List Cel → Prop} (hc : D.cfL xs = true) (hp : P (.bl (decide ((xs.length : Int) = n))) S) : Ok (callP F_is_tuple_of [.tup xs, .int n] S) P := by
  refine ok_callP (Q := fun d => d = .bl (decide ((xs.length : Int) = n))) ?_ (by simp only [D.cfL, D.cf, hc, Bool.and_true]) fun d e => by rw [e]; exact hp
  unfold F_is_tuple_of
  rw [ok_runE]
  unfold B_is_tuple_of
  have e0 : stD N_is_tuple_of [.tup xs, .int n] = [some (.tup xs), some (.int n)] := rfl
  rw [e0]
  simp only [oks_ret, ok_and, ok_is, ok_var, get0, get1, tyS, tyD, ok_bin, ok_fn, ok_acons, ok_anil, ok_f1, ok_lenT, ok_eqI, Bool.false_eq_true, if_false]
  exact ⟨rfl, trivial⟩
theorem isEnd_call {n : Int} {p : Int × Bool} {S : List Cel} {P : D → List Cel → Prop} (hp : P (.bl (decide (0 ≤ p.1 ∧ p.1 < n))) S) : Ok (callP F_u_is_end [.int n, endD p] S) P := by
  refine ok_callP (Q := fun d => d = .bl (decide (0 ≤ p.1 ∧ p.1 < n))) ?_ rfl fun d e => by rw [e]; exact hp
  unfold F_u_is_end
  rw [ok_runE]
  unfold B_u_is_end
  have e0 : stD N_u_is_end [.int n, endD p] = [some (.int n), some (endD p)] := rfl
  rw [e0]
  simp only [oks_ret, ok_and, ok_call, ok_acons, ok_anil, ok_c, ok_var, get1, posn]
  refine ⟨rfl, tupleOf_call rfl ?_⟩
  have e1 : decide (((2 : Nat) : Int) = 2) = true := rfl
  rw [show decide ((([D.int p.1, D.bl p.2] : List D).length : Int) = 2) = true from rfl]
  simp only [ok_bin, ok_var, get0, get1, endD, ok_ixT, atI_0]
  refine ⟨rfl, index_call ?_⟩
  by_cases h : 0 ≤ p.1 ∧ p.1 < n
  · simp only [h, decide_true, and_self, ok_is, ok_bin, ok_var, ok_c, get1, ok_ixT, atI_1, tyS, tyD]
    exact ⟨rfl, rfl⟩
  · simp only [h, decide_false]
    exact ⟨rfl, trivial⟩
theorem all_bl {α : Type} (f : α → D) : ∀ l : List α, (l.map f).filterMap (fun _ => some (D.bl true)) = (List.replicate l.length true).map D.bl
  | [] => rfl
  | a :: l => by rw [List.map_cons, List.filterMap_cons, all_bl f l]; rfl
theorem ascending_call {l : List Int} {S : List Cel} {P : D → List Cel → Prop} (h : (∃ a, l = [a]) ∨ ∃ a c, l = [a, c] ∧ a < c) (hp : P (.bl true) S) : Ok (callP F_is_ascending [.lst (l.map D.int)] S) P := by
  refine ok_callP (Q := fun d => d = .bl true) ?_ (by simp only [D.cfL, D.cf, ints_cf, Bool.and_true]) fun d e => by rw [e]; exact hp
  unfold F_is_ascending
  rw [ok_runE]
  unfold B_is_ascending
  have e0 : stD N_is_ascending [.lst (l.map D.int)] = [some (.lst (l.map D.int)), none, none] := rfl
  rw [e0, oks_ret, ok_fn, ok_acons]
  refine ok_lcP (fun _ => some (.bl true)) ?_
  have cut : Me.cutD (l.map D.int) (some 1) none = (l.drop 1).map D.int := by
    rcases h with ⟨a, rfl⟩ | ⟨a, c, rfl, _⟩ <;> rfl
  simp only [ok_izip, ok_acons, ok_anil, ok_var, get0, ok_sl, ok_oso, ok_ono, ok_c, lstD, cut, ok_ok, ok_zp]
  have fin : ∀ (z : List D) (x : List Bool), z.filterMap (fun _ => some (D.bl true)) = x.map D.bl → x.all id = true → Ok (asLst (z.filterMap fun _ => some (D.bl true)) []) (fun d S1 => Ok (aNil [some (.lst (l.map D.int)), none, none] S1) fun ds S2 => Ok (f1 pAll (d :: ds) S2) fun d _ => d.cf = true ∧ d = .bl true) := fun z x h1 h2 => by
    rw [ok_asLst, h1, ok_anil, ok_f1, ok_allL, h2]
    exact ⟨rfl, rfl⟩
  rcases h with ⟨a, rfl⟩ | ⟨a, c, rfl, hac⟩
  · exact ⟨trivial, by rw [sz]; simp [zipD], fun d hd => by simp [zipD] at hd, fin _ [] rfl rfl⟩
  · refine ⟨trivial, by rw [sz]; simp [zipD], fun d hd => ?_, fin _ [true] rfl rfl⟩
    have e2 : d = .tup [.int a, .int c] := by simpa [zipD] using hd
    subst e2
    refine ⟨_, rfl, ?_⟩
    have e1 : ((wipeD [some (D.lst (([a, c] : List Int).map D.int)), none, none] [1, 2]).set 1 (some (.int a))).set 2 (some (.int c)) = [some (D.lst (([a, c] : List Int).map D.int)), some (.int a), some (.int c)] := rfl
    rw [ok_yes, e1]
    simp only [if_true, ok_bin, ok_var, get1, get2, ok_ltI, decide_eq_true hac]
    exact ⟨trivial, trivial, trivial⟩
theorem isTask_call {n : Int} {t : Tk} {S : List Cel} {P : D → List Cel → Prop} (ht : Vt n t) (hp : P (.bl true) S) : Ok (callP F_u_is_task [.int n, tskD t, .int 2] S) P := by
  refine ok_callP (Q := fun d => d = .bl true) ?_ (by simp only [D.cfL, D.cf, tskD, ends_cf, Bool.and_true]) fun d e => by rw [e]; exact hp
  have hin : ∀ p ∈ t, 0 ≤ p.1 ∧ p.1 < n := by
    rcases ht with ⟨a, b, rfl, h0, h1⟩ | ⟨a, b, c, d, rfl, h0, h1, h2⟩
    · intro p hpm
      simp at hpm
      subst hpm
      exact ⟨h0, h1⟩
    · intro p hpm
      simp at hpm
      rcases hpm with rfl | rfl
      · exact ⟨h0, by show a < n; omega⟩
      · exact ⟨by show 0 ≤ c; omega, h2⟩
  have hlen : 1 ≤ t.length ∧ t.length ≤ 2 := by
    rcases ht with ⟨a, b, rfl, _⟩ | ⟨a, b, c, d, rfl, _⟩ <;> simp
  have hasc : (∃ a, t.map (·.1) = [a]) ∨ ∃ a c, t.map (·.1) = [a, c] ∧ a < c := by
    rcases ht with ⟨a, b, rfl, _⟩ | ⟨a, b, c, d, rfl, _, hac, _⟩
    · exact Or.inl ⟨a, rfl⟩
    · exact Or.inr ⟨a, c, rfl, hac⟩
  unfold F_u_is_task
  rw [ok_runE]
  unfold B_u_is_task
  have e0 : stD N_u_is_task [.int n, tskD t, .int 2] = [some (.int n), some (.tup (t.map endD)), some (.int 2), none, none, none] := rfl
  rw [e0]
  have l1 : (t.map endD).length = t.length := List.length_map _
  have a1 : decide ((1 : Int) ≤ (t.length : Int)) = true := decide_eq_true (by omega)
  have a2 : decide ((t.length : Int) ≤ 2) = true := decide_eq_true (by omega)
  rw [oks_seq, oks_if]
  simp only [ok_bor, ok_bnot, ok_tob, ok_is, ok_ch, ok_fn, ok_acons, ok_anil, ok_f1, ok_c, ok_var, get1, get2, tyS, tyD, ok_lenT, l1, a1, a2, if_true]
  rw [if_neg (by decide), if_neg (by decide), oks_nx, oks_ret, ok_and, ok_fn, ok_acons]
  refine ok_lcP (fun _ => some (.bl true)) ?_
  simp only [ok_iseq, ok_var, get1]
  refine ⟨trivial, by rw [sz, l1]; omega, fun d hd => ?_, ?_⟩
  · obtain ⟨p, hpm, rfl⟩ := List.mem_map.mp hd
    refine ⟨_, rfl, ?_⟩
    have e1 : (wipeD [some (.int n), some (D.tup (t.map endD)), some (.int 2), none, none, none] [3]).set 3 (some (endD p)) = [some (.int n), some (D.tup (t.map endD)), some (.int 2), some (endD p), none, none] := rfl
    rw [ok_yes, e1]
    simp only [if_true, ok_call, ok_acons, ok_anil, ok_var, get0, get3, posn]
    refine ⟨trivial, rfl, isEnd_call ?_⟩
    simp [hin p hpm]
  rw [ok_asLst, all_bl endD, ok_anil, ok_f1, ok_allL]
  rw [show (List.replicate t.length true).all id = true by simp]
  simp only [ok_call, ok_acons, ok_anil, posn]
  refine ok_lcP (fun d => match d with
    | .tup [.int i, _] => some (.int i)
    | _ => none) ?_
  simp only [ok_iseq, ok_var, get1]
  refine ⟨trivial, by rw [sz, l1]; omega, fun d hd => ?_, ?_⟩
  · obtain ⟨p, hpm, rfl⟩ := List.mem_map.mp hd
    refine ⟨_, rfl, ?_⟩
    have e1 : ((wipeD [some (.int n), some (D.tup (t.map endD)), some (.int 2), none, none, none] [4, 5]).set 4 (some (.int p.1))).set 5 (some (.bl p.2)) = [some (.int n), some (D.tup (t.map endD)), some (.int 2), none, some (.int p.1), some (.bl p.2)] := rfl
    rw [ok_yes, e1]
    simp only [if_true, ok_var]
    exact ⟨trivial, trivial, rfl⟩
  have e3 : (t.map endD).filterMap (fun d => match d with
    | .tup [.int i, _] => some (D.int i)
    | _ => none) = (t.map (·.1)).map D.int := by
    clear e0 hp ht hin hlen l1 a1 a2 hasc
    induction t with
    | nil => rfl
    | cons p t ih => rw [List.map_cons, List.filterMap_cons, ih]; rfl
  rw [e3, ok_asLst]
  exact ⟨rfl, ascending_call hasc ⟨rfl, rfl⟩⟩
theorem isNodes_call {n : Nat} {S : List Cel} {P : D → List Cel → Prop} (h1 : 1 ≤ n) (h2 : n ≤ 24) (hp : P (.bl true) S) : Ok (callP F_is_from_to [.int (n : Int), .int 1, .int 24] S) P := by
  refine ok_callP (Q := fun d => d = .bl true) ?_ rfl fun d e => by rw [e]; exact hp
  unfold F_is_from_to
  rw [ok_runE]
  unfold B_is_from_to
  have e0 : stD N_is_from_to [.int (n : Int), .int 1, .int 24] = [some (.int (n : Int)), some (.int 1), some (.int 24)] := rfl
  rw [e0]
  simp only [oks_ret, ok_and, ok_call, ok_acons, ok_anil, ok_ch, ok_var, get0, get1, get2, posn]
  refine ⟨rfl, integer_call ?_⟩
  have a1 : decide ((1 : Int) ≤ (n : Int)) = true := decide_eq_true (by omega)
  have a2 : decide ((n : Int) ≤ 24) = true := decide_eq_true (by omega)
  simp only [a1, a2, if_true]
  exact ⟨rfl, trivial⟩
theorem isTasks_call {n : Int} {ts : List Tk} {S : List Cel} {P : D → List Cel → Prop} (hl : ts.length ≤ 100) (hv : ∀ t ∈ ts, Vt n t) (hp : P (.bl true) S) : Ok (callP F_are_tasks [.int n, .lst (ts.map tskD), .int 100, .int 2] S) P := by
  refine ok_callP (Q := fun d => d = .bl true) ?_ (by simp only [D.cfL, D.cf, tsks_cf, Bool.and_true]) fun d e => by rw [e]; exact hp
  unfold F_are_tasks
  rw [ok_runE]
  unfold B_are_tasks
  have e0 : stD N_are_tasks [.int n, .lst (ts.map tskD), .int 100, .int 2] = [some (.int n), some (.lst (ts.map tskD)), some (.int 100), some (.int 2), none] := rfl
  rw [e0, oks_seq, oks_if]
  have isrow : ∀ (S : List Cel) (P : D → List Cel → Prop), P (.bl true) S → Ok (callP F_is_row [.lst (ts.map tskD)] S) P := fun S P hp => by
    refine ok_callP (Q := fun d => d = .bl true) ?_ (by simp only [D.cfL, D.cf, tsks_cf, Bool.and_true]) fun d e => by rw [e]; exact hp
    unfold F_is_row
    rw [ok_runE]
    unfold B_is_row
    have e1 : stD N_is_row [.lst (ts.map tskD)] = [some (.lst (ts.map tskD))] := rfl
    rw [e1]
    simp only [oks_ret, ok_is2, ok_var, get0, tyS, tyD]
    exact ⟨rfl, rfl⟩
  simp only [ok_bor, ok_bnot, ok_tob, ok_call, ok_acons, ok_anil, ok_var, get1, posn]
  refine ⟨rfl, isrow _ _ ?_⟩
  have a1 : decide (((100 : Int)) < (ts.length : Int)) = false := decide_eq_false (by omega)
  simp only [Bool.not_true, Bool.false_eq_true, if_false, ok_tob, ok_bin, ok_fn, ok_acons, ok_anil, ok_f1, ok_var, ok_c, get1, get2, ok_lenL, ok_gtI, List.length_map, a1]
  rw [oks_nx, oks_ret, ok_fn, ok_acons]
  refine ok_lcP (fun _ => some (.bl true)) ?_
  simp only [ok_iseq, ok_var, get1]
  refine ⟨trivial, by rw [sz, List.length_map]; omega, fun d hd => ?_, ?_⟩
  · obtain ⟨t, htm, rfl⟩ := List.mem_map.mp hd
    refine ⟨_, rfl, ?_⟩
    have e1 : (wipeD [some (.int n), some (D.lst (ts.map tskD)), some (.int 100), some (.int 2), none] [4]).set 4 (some (tskD t)) = [some (.int n), some (D.lst (ts.map tskD)), some (.int 100), some (.int 2), some (tskD t)] := rfl
    have g4 : ∀ {α : Type} {a b c d e : α} {l : List α}, (a :: b :: c :: d :: e :: l)[4]? = some e := rfl
    rw [ok_yes, e1]
    simp only [if_true, ok_call, ok_acons, ok_anil, ok_var, get0, get3, g4, posn]
    exact ⟨trivial, rfl, isTask_call (hv t htm) ⟨rfl, rfl⟩⟩
  · rw [ok_asLst, all_bl tskD, ok_anil, ok_f1, ok_allL]
    exact ⟨rfl, by simp⟩
/-- what a net marks at a node -/
def mkOf (ts : List Tk) (node : Int) (k : Nat) : List D := ((ts.getD k []).filter fun p => decide (p.1 = node)).map fun p => D.tup [.int (k : Int), .bl p.2]
def marksD (ts : List Tk) (node : Int) : List D := ((List.range ts.length).map (mkOf ts node)).flatten
theorem enumD_eq (ts : List Tk) : ∀ n, enumD n (ts.map tskD) = (List.range ts.length).map fun i => D.tup [.int ((n + i : Nat) : Int), tskD (ts.getD i [])] := by
  intro n
  apply List.ext_getElem?
  intro i
  rw [enumD_get, List.getElem?_map, List.getElem?_map]
  by_cases h : i < ts.length
  · rw [List.getElem?_range h]
    simp [h]
  · rw [List.getElem?_eq_none (by omega), List.getElem?_eq_none (by rw [List.length_range]; omega)]
    rfl
theorem marksOf_call {node : Int} {ts : List Tk} {S : List Cel} {P : D → List Cel → Prop} (h : Sh ts) (hp : P (.lst (marksD ts node)) S) : Ok (callP F_marks_of [.tup (ts.map tskD), .int node] S) P := by
  have cfm : D.cfL (marksD ts node) = true := by
    have key : ∀ l : List D, (∀ d ∈ l, d.cf = true) → D.cfL l = true := fun l => by
      induction l with
      | nil => exact fun _ => rfl
      | cons a l ih =>
        intro hh
        simp only [D.cfL, hh a (by simp), Bool.true_and]
        exact ih fun d hd => hh d (List.mem_cons_of_mem _ hd)
    refine key _ fun d hd => ?_
    unfold marksD at hd
    rw [List.mem_flatten] at hd
    obtain ⟨l, hl, hd⟩ := hd
    obtain ⟨k, _, rfl⟩ := List.mem_map.mp hl
    obtain ⟨p, _, rfl⟩ := List.mem_map.mp hd
    rfl
  refine ok_callP (Q := fun d => d = .lst (marksD ts node)) ?_ (by simp only [D.cfL, D.cf, tsks_cf, Bool.and_true]) fun d e => by rw [e]; exact hp
  unfold F_marks_of
  rw [ok_runE]
  unfold B_marks_of
  have e0 : stD N_marks_of [.tup (ts.map tskD), .int node] = [some (.tup (ts.map tskD)), some (.int node), none, none, none, none] := rfl
  rw [e0, oks_ret]
  have hh := h.1
  refine ok_lc2 (fun d => match d with
    | .tup [.int k, _] => mkOf ts node k.toNat
    | _ => []) (ok_ienuT (xs := ts.map tskD) ?_)
  rw [ok_var, get0]
  refine ⟨rfl, trivial, fun d hd acc hacc => ?_, fun d hd => ?_, by rw [enumD_len, List.length_map]; omega, ?_⟩
  · rw [enumD_eq] at hd
    obtain ⟨i, hi, rfl⟩ := List.mem_map.mp hd
    rw [List.mem_range] at hi
    rw [Nat.zero_add]
    have hs2 : (ts.getD i []).length ≤ 2 := by
      rw [List.getD_eq_getElem?_getD, List.getElem?_eq_getElem hi]
      exact h.2 _ (List.getElem_mem hi)
    refine ⟨_, rfl, ?_⟩
    rw [ok_yes]
    have e1 : (((wipeD [some (D.tup (ts.map tskD)), some (.int node), none, none, none, none] [2, 3, 4, 5]).set 2 (some (.int (i : Int)))).set 3 (some (tskD (ts.getD i [])))) = [some (D.tup (ts.map tskD)), some (.int node), some (.int (i : Int)), some (tskD (ts.getD i [])), none, none] := rfl
    rw [e1]
    simp only [ok_iseq, ok_var, get3, tskD]
    refine ⟨trivial, trivial, trivial, trivial, (lcP_run (s := ⟨(ts.getD i []).map endD, none⟩) (S := []) (fun d => match d with
      | .tup [.int a, .bl b] => if decide (a = node) = true then some (.tup [.int (i : Int), .bl b]) else none
      | _ => none) trivial (by rw [List.length_map, sz]; omega) fun d hd => ?_).imp fun acc2 S2 ⟨q1, q2⟩ => ⟨q1, ?_⟩⟩
    · obtain ⟨p, hpm, rfl⟩ := List.mem_map.mp hd
      refine ⟨_, rfl, ?_⟩
      have get4 : ∀ {α : Type} {a b c d e : α} {l : List α}, (a :: b :: c :: d :: e :: l)[4]? = some e := rfl
      have get5 : ∀ {α : Type} {a b c d e f : α} {l : List α}, (a :: b :: c :: d :: e :: f :: l)[5]? = some f := rfl
      have e2 : (((wipeD [some (D.tup (ts.map tskD)), some (.int node), some (.int (i : Int)), some (D.tup ((ts.getD i []).map endD)), none, none] [4, 5]).set 4 (some (.int p.1))).set 5 (some (.bl p.2))) = [some (D.tup (ts.map tskD)), some (.int node), some (.int (i : Int)), some (D.tup ((ts.getD i []).map endD)), some (.int p.1), some (.bl p.2)] := rfl
      rw [e2]
      simp only [ok_tob, ok_bin, ok_var, get4, get1, ok_eqI, Bool.false_eq_true, if_false]
      by_cases hpn : p.1 = node
      · simp only [hpn, decide_true, if_true, ok_tup, ok_acons, ok_anil, ok_var, get2, get5, endD]
        exact ⟨trivial, by rw [sz]; simp, trivial, trivial⟩
      · simp [hpn, endD]
    · rw [q2]
      congr 1
      unfold mkOf
      rw [Int.toNat_natCast]
      generalize ts.getD i [] = tt
      induction tt with
      | nil => rfl
      | cons p tt ih =>
        rw [List.map_cons, List.filterMap_cons, List.filter_cons, ih]
        by_cases hpn : p.1 = node
        · simp [endD, hpn]
        · simp [endD, hpn]
  · rw [enumD_eq] at hd
    obtain ⟨i, hi, rfl⟩ := List.mem_map.mp hd
    rw [List.mem_range] at hi
    have hs2 : (ts.getD i []).length ≤ 2 := by
      rw [List.getD_eq_getElem?_getD, List.getElem?_eq_getElem hi]
      exact h.2 _ (List.getElem_mem hi)
    simp only [Nat.zero_add, Int.toNat_natCast, mkOf, List.length_map]
    have := List.length_filter_le (fun p : Int × Bool => decide (p.1 = node)) (ts.getD i [])
    omega
  · rw [enumD_eq, List.map_map, ok_asLst]
    have e3 : ((List.range ts.length).map ((fun d => match d with
      | .tup [.int k, _] => mkOf ts node k.toNat
      | _ => []) ∘ fun i => D.tup [.int ((0 + i : Nat) : Int), tskD (ts.getD i [])])) = (List.range ts.length).map (mkOf ts node) := by
      apply List.map_congr_left
      intro i _
      simp
    rw [e3]
    exact ⟨cfm, rfl⟩
/-- the ends' nodes -/
def endsD (t : Tk) : D := .tup (t.map fun p => .int p.1)
def netD (n : Nat) (ts : List Tk) : D := .obj "Net" ["nodes", "tasks", "_ends", "_marks"] [.int (n : Int), .tup (ts.map tskD), .tup (ts.map endsD), .tup ((List.range n).map fun i : Nat => .tup (marksD ts (i : Int)))]
theorem cfL_of {l : List D} (h : ∀ d ∈ l, d.cf = true) : D.cfL l = true := by
  induction l with
  | nil => rfl
  | cons a l ih =>
    simp only [D.cfL, h a (by simp), Bool.true_and]
    exact ih fun d hd => h d (List.mem_cons_of_mem _ hd)
theorem marks_cf (ts : List Tk) (node : Int) : D.cfL (marksD ts node) = true := by
  refine cfL_of fun d hd => ?_
  unfold marksD at hd
  rw [List.mem_flatten] at hd
  obtain ⟨l, hl, hd⟩ := hd
  obtain ⟨k, _, rfl⟩ := List.mem_map.mp hl
  obtain ⟨p, _, rfl⟩ := List.mem_map.mp hd
  rfl
theorem net_cf (n : Nat) (ts : List Tk) : (netD n ts).cf = true := by
  have h1 : D.cfL (ts.map endsD) = true := cfL_of fun d hd => by
    obtain ⟨t, _, rfl⟩ := List.mem_map.mp hd
    exact cfL_of fun d hd => by
      obtain ⟨p, _, rfl⟩ := List.mem_map.mp hd
      rfl
  have h2 : D.cfL ((List.range n).map fun i : Nat => D.tup (marksD ts (i : Int))) = true := cfL_of fun d hd => by
    obtain ⟨i, _, rfl⟩ := List.mem_map.mp hd
    exact marks_cf ts i
  simp only [netD, D.cf, D.cfL, tsks_cf, h1, h2, Bool.and_true]
theorem fm_all {α : Type} {f : α → D} {h : D → Option D} {g : α → D} (hh : ∀ a, h (f a) = some (g a)) : ∀ l : List α, (l.map f).filterMap h = l.map g
  | [] => rfl
  | a :: l => by rw [List.map_cons, List.filterMap_cons, hh a, fm_all hh l, List.map_cons]
theorem Vt.len {n : Int} {t : Tk} (h : Vt n t) : t.length ≤ 2 := by
  rcases h with ⟨a, b, rfl, _⟩ | ⟨a, b, c, d, rfl, _⟩ <;> simp
theorem put1 (a : D) : putD "nodes" a [] [] = ((["nodes"] : List PySem.Str), [a]) := rfl
theorem put2 (a b : D) : putD "tasks" b ["nodes"] [a] = ((["nodes", "tasks"] : List PySem.Str), [a, b]) := rfl
theorem put3 (a b c : D) : putD "_ends" c ["nodes", "tasks"] [a, b] = ((["nodes", "tasks", "_ends"] : List PySem.Str), [a, b, c]) := rfl
theorem put4 (a b c d : D) : putD "_marks" d ["nodes", "tasks", "_ends"] [a, b, c] = ((["nodes", "tasks", "_ends", "_marks"] : List PySem.Str), [a, b, c, d]) := rfl
theorem look2 (a b : D) : look "tasks" ["nodes", "tasks"] [a, b] = some b := rfl
theorem look3 (a b c : D) : look "tasks" ["nodes", "tasks", "_ends"] [a, b, c] = some b := rfl
theorem newNet {n : Nat} {ts : List Tk} {S : List Cel} {P : D → List Cel → Prop} (h1 : 1 ≤ n) (h2 : n ≤ 24) (hl : ts.length ≤ 100) (hv : ∀ t ∈ ts, Vt n t) (hp : P (netD n ts) S) : Ok (newD "Net" F_Net___init__ [.int (n : Int), .lst (ts.map tskD)] S) P := by
  have sh : Sh ts := ⟨hl, fun t ht => (hv t ht).len⟩
  have body : Ok (F_Net___init__ (.cell 0 :: [.int (n : Int), .lst (ts.map tskD)]) [.ins "Net" [] []]) fun d S' => d = .non ∧ S' = [.ins "Net" ["nodes", "tasks", "_ends", "_marks"] [.int (n : Int), .tup (ts.map tskD), .tup (ts.map endsD), .tup ((List.range n).map fun i : Nat => .tup (marksD ts (i : Int)))]] := by
    unfold F_Net___init__
    rw [ok_runE]
    unfold B_Net___init__
    have e0 : stD N_Net___init__ [.cell 0, .int (n : Int), .lst (ts.map tskD)] = [some (.cell 0), some (.int (n : Int)), some (.lst (ts.map tskD)), none, none, none] := rfl
    rw [e0, oks_seq, oks_if]
    simp only [ok_bnot, ok_tob, ok_call, ok_acons, ok_anil, ok_c, ok_var, get1, posn]
    refine ⟨rfl, isNodes_call h1 h2 ?_⟩
    simp only [Bool.not_true, Bool.false_eq_true, if_false]
    rw [oks_nx, oks_seq, oks_if]
    simp only [ok_bnot, ok_tob, ok_call, ok_acons, ok_anil, ok_c, ok_var, get1, get2, posn]
    refine ⟨rfl, isTasks_call hl hv ?_⟩
    simp only [Bool.not_true, Bool.false_eq_true, if_false]
    rw [oks_nx, oks_seq, oks_fld]
    simp only [ok_var, get0, get1]
    refine ⟨⟨trivial, by simp, rfl⟩, ?_⟩
    rw [oks_seq, oks_fld]
    simp only [ok_fn, ok_acons, ok_anil, ok_f1, ok_var, get0, get2, ok_tupL, put1, List.set_cons_zero]
    refine ⟨⟨trivial, by simp, rfl⟩, ?_⟩
    rw [oks_seq, oks_fld]
    simp only [ok_fn, ok_acons, ok_anil, ok_f1]
    refine ok_lcP (fun d => match d with
      | .tup es => some (.tup (es.filterMap fun e => match e with
        | .tup (x :: _) => some x
        | _ => none))
      | _ => none) ?_
    simp only [ok_iseq, ok_fld, ok_var, get0, put2, look2]
    refine ⟨trivial, trivial, by rw [sz, List.length_map]; omega, fun d hd => ?_, ?_⟩
    · obtain ⟨t, htm, rfl⟩ := List.mem_map.mp hd
      refine ⟨_, rfl, ?_⟩
      rw [ok_yes]
      have e1 : (wipeD [some (D.cell 0), some (.int (n : Int)), some (.lst (ts.map tskD)), none, none, none] [3]).set 3 (some (tskD t)) = [some (D.cell 0), some (.int (n : Int)), some (.lst (ts.map tskD)), some (tskD t), none, none] := rfl
      rw [e1]
      simp only [if_true, ok_fn, ok_acons, ok_anil, ok_f1]
      refine ⟨trivial, ok_lcP (fun e => match e with
        | .tup (x :: _) => some x
        | _ => none) ?_⟩
      simp only [ok_iseq, ok_var, get3, tskD]
      refine ⟨trivial, by rw [sz, List.length_map]; have := (hv t htm).len; omega, fun d hd => ?_, ?_⟩
      · obtain ⟨p, hpm, rfl⟩ := List.mem_map.mp hd
        refine ⟨_, rfl, ?_⟩
        have get5 : ∀ {α : Type} {a b c d e f : α} {l : List α}, (a :: b :: c :: d :: e :: f :: l)[5]? = some f := rfl
        have e2 : (wipeD [some (D.cell 0), some (.int (n : Int)), some (.lst (ts.map tskD)), some (D.tup (t.map endD)), none, none] [5]).set 5 (some (endD p)) = [some (D.cell 0), some (.int (n : Int)), some (.lst (ts.map tskD)), some (D.tup (t.map endD)), none, some (endD p)] := rfl
        rw [ok_yes, e2]
        simp only [if_true, ok_bin, ok_var, ok_c, get5, endD, ok_ixT, atI_0]
        exact ⟨trivial, trivial, trivial⟩
      · rw [ok_asLst, ok_tupL]
        exact ⟨(by first | rfl | trivial), rfl⟩
    · rw [ok_asLst, ok_tupL]
      have e3 : (ts.map tskD).filterMap (fun d => match d with
        | .tup es => some (D.tup (es.filterMap fun e => match e with
          | .tup (x :: _) => some x
          | _ => none))
        | _ => none) = ts.map endsD := fm_all (fun t => by
          simp only [tskD, endsD]
          exact congrArg (fun z => some (D.tup z)) (fm_all (f := endD) (g := fun p : Int × Bool => D.int p.1) (fun p => rfl) t)) ts
      rw [e3]
      simp only [List.set_cons_zero, put3]
      refine ⟨⟨(by first | rfl | trivial), by simp, (by first | rfl | trivial)⟩, ?_⟩
      rw [oks_fld]
      simp only [ok_fn, ok_acons, ok_anil, ok_f1]
      refine ok_lcP (fun d => match d with
        | .int i => some (.tup (marksD ts i))
        | _ => none) ?_
      simp only [ok_irng, ok_var, get1, Int.toNat_natCast]
      refine ⟨small_nat (by omega), trivial, by rw [rngL_len, sz]; omega, fun d hd => ?_, ?_⟩
      · obtain ⟨i, hi⟩ := List.getElem?_of_mem hd
        obtain ⟨_, rfl⟩ := rngL_get hi
        refine ⟨_, rfl, ?_⟩
        rw [ok_yes]
        have get4 : ∀ {α : Type} {a b c d e : α} {l : List α}, (a :: b :: c :: d :: e :: l)[4]? = some e := rfl
        have e4 : (wipeD [some (D.cell 0), some (.int (n : Int)), some (.lst (ts.map tskD)), none, none, none] [4]).set 4 (some (.int (0 + (i : Int)))) = [some (D.cell 0), some (.int (n : Int)), some (.lst (ts.map tskD)), none, some (.int (0 + (i : Int))), none] := rfl
        rw [e4]
        simp only [if_true, ok_fn, ok_acons, ok_anil, ok_f1, ok_call, ok_fld, ok_var, get0, get4, look3, posn]
        exact ⟨(by first | rfl | trivial), (by first | rfl | trivial), rfl, marksOf_call sh (by rw [ok_tupL]; exact ⟨(by first | rfl | trivial), rfl⟩)⟩
      · have e5 : (rngL 0 n).filterMap (fun d => match d with
          | .int i => some (D.tup (marksD ts i))
          | _ => none) = (List.range n).map fun i : Nat => D.tup (marksD ts (i : Int)) := by
          rw [rngL_eq]
          exact fm_nats (g := fun i : Nat => D.tup (marksD ts (i : Int))) _ fun _ _ => rfl
        rw [ok_asLst, e5, ok_tupL]
        simp only [ok_var, get0, put4, List.set_cons_zero]
        exact ⟨⟨(by first | rfl | trivial), (by rw [put3]; simp), (by first | rfl | trivial)⟩, (by first | rfl | trivial), (by first | rfl | trivial)⟩
  unfold newD
  simp only [D.cfL, D.cf, tsks_cf, Bool.and_true, if_true]
  cases hF : F_Net___init__ (.cell 0 :: [.int (n : Int), .lst (ts.map tskD)]) [.ins "Net" [] []] with
  | ok d S' =>
    rw [hF] at body
    obtain ⟨rfl, rfl⟩ := body
    have c := net_cf n ts
    simp only [netD, D.cf] at c
    simp only [c, decide_true, Bool.and_self, if_true]
    exact hp
  | fail => rw [hF] at body; exact body.elim
  | exc _ _ => rw [hF] at body; exact body.elim
end K05
end
section
set_option Elab.async false
set_option linter.all false
set_option maxRecDepth 100000
namespace K05
open PySem PySem.Spec L2 Me
open PyProof.Rows hiding St
/-! ### a net's methods -/
theorem lk_nodes (a b c d : D) : look "nodes" ["nodes", "tasks", "_ends", "_marks"] [a, b, c, d] = some a := rfl
theorem lk_tasks (a b c d : D) : look "tasks" ["nodes", "tasks", "_ends", "_marks"] [a, b, c, d] = some b := rfl
theorem lk_ends (a b c d : D) : look "_ends" ["nodes", "tasks", "_ends", "_marks"] [a, b, c, d] = some c := rfl
theorem lk_marks (a b c d : D) : look "_marks" ["nodes", "tasks", "_ends", "_marks"] [a, b, c, d] = some d := rfl
theorem lenNet_call {n : Nat} {ts : List Tk} {S : List Cel} {P : D → List Cel → Prop} (hp : P (.int (ts.length : Int)) S) : Ok (callP F_Net___len__ [netD n ts] S) P := by
  refine ok_callP (Q := fun d => d = .int (ts.length : Int)) ?_ (by simp only [D.cfL, net_cf, Bool.and_true]) fun d e => by rw [e]; exact hp
  unfold F_Net___len__
  rw [ok_runE]
  unfold B_Net___len__
  have e0 : stD N_Net___len__ [netD n ts] = [some (netD n ts)] := rfl
  rw [e0]
  simp only [oks_ret, ok_fn, ok_acons, ok_anil, ok_f1, ok_fld, ok_var, get0, netD, lk_tasks, ok_lenT, List.length_map]
  exact ⟨trivial, rfl, trivial⟩
theorem checkTask_call {n k : Nat} {ts : List Tk} {S : List Cel} {P : D → List Cel → Prop} (hk : k < ts.length) (hp : P .non S) : Ok (callP F_check_task [netD n ts, .int (k : Int)] S) P := by
  refine ok_callP (Q := fun d => d = .non) ?_ (by simp only [D.cfL, net_cf, D.cf, Bool.and_true]) fun d e => by rw [e]; exact hp
  unfold F_check_task
  rw [ok_runE]
  unfold B_check_task
  have e0 : stD N_check_task [netD n ts, .int (k : Int)] = [some (netD n ts), some (.int (k : Int))] := rfl
  rw [e0, oks_if]
  simp only [ok_bnot, ok_tob, ok_call, ok_acons, ok_anil, ok_fn, ok_f1, ok_fld, ok_var, get0, get1, netD, lk_tasks, ok_lenT, List.length_map, posn]
  refine ⟨trivial, rfl, index_call ?_⟩
  have a1 : decide ((0 : Int) ≤ (k : Int) ∧ (k : Int) < (ts.length : Int)) = true := decide_eq_true (by omega)
  simp only [a1, Bool.not_true, Bool.false_eq_true, if_false, oks_nx]
  exact ⟨rfl, trivial⟩
theorem ends_call {n k : Nat} {ts : List Tk} {S : List Cel} {P : D → List Cel → Prop} (hk : k < ts.length) (hp : P (endsD (ts.getD k [])) S) : Ok (callP F_Net_ends [netD n ts, .int (k : Int)] S) P := by
  have cf1 : ∀ t : Tk, (endsD t).cf = true := fun t => cfL_of fun d hd => by
    obtain ⟨p, _, rfl⟩ := List.mem_map.mp hd
    rfl
  refine ok_callP (Q := fun d => d = endsD (ts.getD k [])) ?_ (by simp only [D.cfL, net_cf, D.cf, Bool.and_true]) fun d e => by rw [e]; exact hp
  unfold F_Net_ends
  rw [ok_runE]
  unfold B_Net_ends
  have e0 : stD N_Net_ends [netD n ts, .int (k : Int)] = [some (netD n ts), some (.int (k : Int))] := rfl
  rw [e0, oks_seq, oks_drop, ok_call]
  simp only [ok_acons, ok_anil, ok_var, get0, get1, posn]
  refine ⟨rfl, checkTask_call hk ?_⟩
  have e1 : (ts.map endsD)[k]? = some (endsD (ts.getD k [])) := by
    rw [List.getElem?_map, List.getElem?_eq_getElem hk, List.getD_eq_getElem?_getD, List.getElem?_eq_getElem hk]
    rfl
  simp only [oks_ret, ok_bin, ok_fld, ok_var, get0, get1, netD, lk_ends, ok_ixT, Me.atI_nat, e1]
  exact ⟨trivial, cf1 _, trivial⟩
/-! ### loads and lasts judged -/
theorem lenO_ok {n : Nat} {ts : List Tk} {S : List Cel} {P : D → List Cel → Prop} {x : M} {r : Rho} (hl : ts.length ≤ 100) (hx : ∀ Q : D → List Cel → Prop, Q (netD n ts) S → Ok (x r S) Q) (hp : P (.int (ts.length : Int)) S) : Ok (eLenO "Net" F_Net___len__ x r S) P := by
  unfold eLenO
  rw [ok_eb]
  refine hx _ ?_
  simp only [netD, if_true]
  have h := lenNet_call (n := n) (ts := ts) (S := S) (P := fun d S1 => d = .int (ts.length : Int) ∧ S1 = S) ⟨rfl, rfl⟩
  cases hc : callP F_Net___len__ [netD n ts] S with
  | ok d S1 =>
    rw [hc] at h
    obtain ⟨rfl, rfl⟩ := h
    rw [netD] at hc
    simp only [hc]
    have hs : SmallN (ts.length : Int) := by
      unfold SmallN
      omega
    rw [if_pos hs]
    exact hp
  | fail => rw [hc] at h; exact h.elim
  | exc _ _ => rw [hc] at h; exact h.elim
theorem row_call {xs : List D} {S : List Cel} {P : D → List Cel → Prop} (hc : D.cfL xs = true) (hp : P (.bl true) S) : Ok (callP F_is_row [.lst xs] S) P := by
  refine ok_callP (Q := fun d => d = .bl true) ?_ (by simp only [D.cfL, D.cf, hc, Bool.and_true]) fun d e => by rw [e]; exact hp
  unfold F_is_row
  rw [ok_runE]
  unfold B_is_row
  have e1 : stD N_is_row [.lst xs] = [some (.lst xs)] := rfl
  rw [e1]
  simp only [oks_ret, ok_is2, ok_var, get0, tyS, tyD]
  exact ⟨rfl, rfl⟩
theorem all_true {α : Type} {f : α → D} : ∀ l : List α, (l.map f).filterMap (fun _ => some (D.bl true)) = (List.replicate l.length true).map D.bl
  | [] => rfl
  | a :: l => by
    rw [List.map_cons, List.filterMap_cons, all_true l]
    rfl
theorem isLoad_call {n : Nat} {ts : List Tk} {l : List Int} {S : List Cel} {P : D → List Cel → Prop} (hl : l.length = ts.length) (h100 : ts.length ≤ 100) (h0 : ∀ x ∈ l, 0 ≤ x) (hp : P (.bl true) S) : Ok (callP F_is_load [netD n ts, loadD l] S) P := by
  refine ok_callP (Q := fun d => d = .bl true) ?_ (by simp only [D.cfL, net_cf, D.cf, loadD, ints_cf, Bool.and_true]) fun d e => by rw [e]; exact hp
  unfold F_is_load
  rw [ok_runE]
  unfold B_is_load
  have e0 : stD N_is_load [netD n ts, loadD l] = [some (netD n ts), some (loadD l), none] := rfl
  rw [e0, oks_seq, oks_if]
  simp only [ok_bor, ok_bnot, ok_tob, ok_call, ok_acons, ok_anil, ok_var, get1, posn, loadD]
  refine ⟨rfl, row_call (ints_cf l) ?_⟩
  simp only [Bool.not_true, Bool.false_eq_true, if_false, ok_tob, ok_bin, ok_fn, ok_acons, ok_anil, ok_f1, ok_var, get1, ok_lenL, List.length_map]
  refine lenO_ok (n := n) h100 (fun Q h => by rw [ok_var, get0]; exact h) ?_
  have a1 : decide ((l.length : Int) = (ts.length : Int)) = true := decide_eq_true (by omega)
  simp only [ok_eqI, if_true, a1, Bool.not_true, Bool.false_eq_true, if_false]
  rw [oks_nx, oks_ret, ok_fn, ok_acons]
  refine ok_lcP (fun _ => some (.bl true)) ?_
  simp only [ok_iseq, ok_var, get1]
  refine ⟨trivial, by rw [sz, List.length_map]; omega, fun d hd => ?_, ?_⟩
  · obtain ⟨x, hx, rfl⟩ := List.mem_map.mp hd
    refine ⟨_, rfl, ?_⟩
    have e1 : (wipeD [some (netD n ts), some (D.lst (l.map D.int)), none] [2]).set 2 (some (.int x)) = [some (netD n ts), some (D.lst (l.map D.int)), some (.int x)] := rfl
    rw [ok_yes, e1]
    simp only [if_true, ok_call, ok_acons, ok_anil, ok_var, get2, posn]
    refine ⟨trivial, rfl, count_call ?_⟩
    simp [h0 x hx]
  · rw [ok_asLst, all_true, ok_anil, ok_f1, ok_allL]
    exact ⟨rfl, by simp⟩
theorem ok_inTI {S : List Cel} {P : D → List Cel → Prop} {i : Int} {neg : Bool} (l : List Int) : Ok (pIn neg (.int i) (.tup (l.map D.int)) S) P = P (.bl (if neg = true then !decide (i ∈ l) else decide (i ∈ l))) S := by
  have e2 : toPy S (.tup (l.map D.int)) = some (.tuple (l.map PyData.int)) := by simp [toPy, pyD, py_ints]
  have e1 : toPy S (.int i) = some (.int i) := rfl
  have sh : SeqAt.shaped (.tuple (l.map PyData.int)) = true := shaped_tuple (n := 1) (fun _ => rfl) (fun a => by simp [PyData.depth]) (by omega) l
  have s1 : SeqAt.shaped (.int i) = true := rfl
  have e3 : ((l.map PyData.int).any fun z => PyData.eqv z (.int i)) = decide (i ∈ l) := by
    rw [List.any_map, Bool.eq_iff_iff]
    simp [PyData.eqv]
  unfold pIn
  simp only [e1, e2, sh, s1, Bool.and_true, if_true, e3]
  rfl
theorem isLast_call {n node : Nat} {ts : List Tk} {o : Option Int} {S : List Cel} {P : D → List Cel → Prop} (h : Sh ts) (ho : okLast ts node o) (hp : P (.bl true) S) : Ok (callP F_u_is_last [netD n ts, .int (node : Int), oD o] S) P := by
  have cfo : (oD o).cf = true := by cases o <;> rfl
  refine ok_callP (Q := fun d => d = .bl true) ?_ (by simp only [D.cfL, net_cf, D.cf, cfo, Bool.and_true]) fun d e => by rw [e]; exact hp
  unfold F_u_is_last
  rw [ok_runE]
  unfold B_u_is_last
  have e0 : stD N_u_is_last [netD n ts, .int (node : Int), oD o] = [some (netD n ts), some (.int (node : Int)), some (oD o)] := rfl
  rw [e0, oks_ret, ok_or]
  simp only [ok_bin, ok_var, ok_c, get2]
  cases o with
  | none => exact ⟨(by first | rfl | trivial), (by first | rfl | trivial)⟩
  | some i =>
    obtain ⟨k, rfl, hk⟩ := ho i rfl
    have hkl := atN_lt hk
    show Ok (eAnd _ _ _ _) _
    rw [ok_and]
    simp only [ok_call, ok_acons, ok_anil, ok_var, get2, posn, oD]
    refine lenO_ok (n := n) h.1 (fun Q h => by rw [ok_var, get0]; exact h) ⟨rfl, index_call ?_⟩
    have a1 : decide ((0 : Int) ≤ (k : Int) ∧ (k : Int) < (ts.length : Int)) = true := decide_eq_true (by omega)
    simp only [a1, ok_bin, ok_meth, ok_acons, ok_anil, ok_var, get0, get1, get2, netD, posn]
    refine ⟨⟨trivial, by decide⟩, rfl, ends_call hkl ?_⟩
    have e2 : endsD (ts.getD k []) = .tup (((ts.getD k []).map (·.1)).map D.int) := by
      unfold endsD
      rw [List.map_map]
      rfl
    have a2 : decide ((node : Int) ∈ (ts.getD k []).map (·.1)) = true := (List.mem_filter.mp hk).2
    rw [e2, ok_inTI, a2]
    exact ⟨rfl, rfl⟩
theorem lasts_ok {n : Nat} {ts : List Tk} {la : List (Option Int)} {S : List Cel} {P : D → List Cel → Prop} (h : Sh ts) (h2 : n ≤ 24) (hl : la.length = n) (ho : ∀ node, node < n → okLast ts node (la.getD node none)) (hp : P (.bl true) S) : Ok (callP F_is_lasts [netD n ts, lastsD la] S) P := by
  refine ok_callP (Q := fun d => d = .bl true) ?_ (by simp only [D.cfL, net_cf, D.cf, lastsD, olasts_cf, Bool.and_true]) fun d e => by rw [e]; exact hp
  unfold F_is_lasts
  rw [ok_runE]
  unfold B_is_lasts
  have e0 : stD N_is_lasts [netD n ts, lastsD la] = [some (netD n ts), some (lastsD la), none, none] := rfl
  rw [e0, oks_seq, oks_if]
  simp only [ok_bor, ok_bnot, ok_tob, ok_call, ok_acons, ok_anil, ok_var, get1, posn, lastsD]
  refine ⟨rfl, row_call (olasts_cf la) ?_⟩
  have a1 : decide ((la.length : Int) = (n : Int)) = true := decide_eq_true (by omega)
  simp only [Bool.not_true, Bool.false_eq_true, if_false, ok_tob, ok_bin, ok_fn, ok_acons, ok_anil, ok_f1, ok_var, get0, get1, ok_lenL, List.length_map, ok_fld, netD, lk_nodes, ok_eqI, if_true, a1]
  refine ⟨trivial, ?_⟩
  rw [oks_nx, oks_ret, ok_fn, ok_acons]
  rw [show D.obj "Net" ["nodes", "tasks", "_ends", "_marks"] [.int (n : Int), .tup (ts.map tskD), .tup (ts.map endsD), .tup ((List.range n).map fun i : Nat => .tup (marksD ts (i : Int)))] = netD n ts from rfl]
  refine ok_lcP (fun _ => some (.bl true)) (ok_ienuL (xs := la.map oD) ?_)
  rw [ok_var, get1]
  have eo : enumD 0 (la.map oD) = (List.range n).map fun i : Nat => D.tup [.int (i : Int), oD (la.getD i none)] := by
    apply List.ext_getElem?
    intro i
    rw [enumD_get, List.getElem?_map, List.getElem?_map]
    by_cases hi : i < n
    · rw [List.getElem?_range hi]
      have : i < la.length := by omega
      simp [this]
    · rw [List.getElem?_eq_none (by omega), List.getElem?_eq_none (by rw [List.length_range]; omega)]
      rfl
  refine ⟨rfl, trivial, by rw [enumD_len, sz, List.length_map]; omega, fun d hd => ?_, ?_⟩
  · rw [eo] at hd
    obtain ⟨i, hi, rfl⟩ := List.mem_map.mp hd
    rw [List.mem_range] at hi
    refine ⟨_, rfl, ?_⟩
    have e1 : ((wipeD [some (netD n ts), some (D.lst (la.map oD)), none, none] [2, 3]).set 2 (some (.int (i : Int)))).set 3 (some (oD (la.getD i none))) = [some (netD n ts), some (D.lst (la.map oD)), some (.int (i : Int)), some (oD (la.getD i none))] := rfl
    rw [ok_yes, e1]
    simp only [if_true, ok_call, ok_acons, ok_anil, ok_var, get0, get2, get3, posn]
    exact ⟨trivial, rfl, isLast_call h (ho i hi) ⟨rfl, rfl⟩⟩
  · rw [eo, ok_asLst, all_true, ok_anil, ok_f1, ok_allL]
    exact ⟨rfl, by simp⟩
/-! ### states -/
def stateD (n : Nat) (ts : List Tk) (l : List Int) (la : List (Option Int)) : D := .obj "State" ["net", "load", "lasts"] [netD n ts, .tup (l.map D.int), .tup (la.map oD)]
theorem state_cf (n : Nat) (ts : List Tk) (l : List Int) (la : List (Option Int)) : (stateD n ts l la).cf = true := by
  simp only [stateD, D.cf, D.cfL, net_cf, ints_cf, olasts_cf, Bool.and_true]
theorem pus1 (a : D) : putD "net" a [] [] = ((["net"] : List PySem.Str), [a]) := rfl
theorem pus2 (a b : D) : putD "load" b ["net"] [a] = ((["net", "load"] : List PySem.Str), [a, b]) := rfl
theorem pus3 (a b c : D) : putD "lasts" c ["net", "load"] [a, b] = ((["net", "load", "lasts"] : List PySem.Str), [a, b, c]) := rfl
theorem checkLoad_call {n : Nat} {ts : List Tk} {l : List Int} {S : List Cel} {P : D → List Cel → Prop} (hl : l.length = ts.length) (h100 : ts.length ≤ 100) (h0 : ∀ x ∈ l, 0 ≤ x) (hp : P .non S) : Ok (callP F_check_load [netD n ts, loadD l] S) P := by
  refine ok_callP (Q := fun d => d = .non) ?_ (by simp only [D.cfL, net_cf, D.cf, loadD, ints_cf, Bool.and_true]) fun d e => by rw [e]; exact hp
  unfold F_check_load
  rw [ok_runE]
  unfold B_check_load
  have e0 : stD N_check_load [netD n ts, loadD l] = [some (netD n ts), some (loadD l)] := rfl
  rw [e0, oks_if]
  simp only [ok_bnot, ok_tob, ok_call, ok_acons, ok_anil, ok_var, get0, get1, posn]
  refine ⟨rfl, isLoad_call hl h100 h0 ?_⟩
  simp only [Bool.not_true, Bool.false_eq_true, if_false, oks_nx]
  exact ⟨rfl, trivial⟩
theorem checkLasts_call {n : Nat} {ts : List Tk} {la : List (Option Int)} {S : List Cel} {P : D → List Cel → Prop} (h : Sh ts) (h2 : n ≤ 24) (hl : la.length = n) (ho : ∀ node, node < n → okLast ts node (la.getD node none)) (hp : P .non S) : Ok (callP F_check_lasts [netD n ts, lastsD la] S) P := by
  refine ok_callP (Q := fun d => d = .non) ?_ (by simp only [D.cfL, net_cf, D.cf, lastsD, olasts_cf, Bool.and_true]) fun d e => by rw [e]; exact hp
  unfold F_check_lasts
  rw [ok_runE]
  unfold B_check_lasts
  have e0 : stD N_check_lasts [netD n ts, lastsD la] = [some (netD n ts), some (lastsD la)] := rfl
  rw [e0, oks_if]
  simp only [ok_bnot, ok_tob, ok_call, ok_acons, ok_anil, ok_var, get0, get1, posn]
  refine ⟨rfl, lasts_ok h h2 hl ho ?_⟩
  simp only [Bool.not_true, Bool.false_eq_true, if_false, oks_nx]
  exact ⟨rfl, trivial⟩
theorem newState {n : Nat} {ts : List Tk} {l : List Int} {la : List (Option Int)} {S : List Cel} {P : D → List Cel → Prop} (h : Sh ts) (h2 : n ≤ 24) (hl : l.length = ts.length) (h0 : ∀ x ∈ l, 0 ≤ x) (hla : la.length = n) (ho : ∀ node, node < n → okLast ts node (la.getD node none)) (hp : P (stateD n ts l la) S) : Ok (newD "State" F_State___init__ [netD n ts, loadD l, lastsD la] S) P := by
  have body : Ok (F_State___init__ (.cell 0 :: [netD n ts, loadD l, lastsD la]) [.ins "State" [] []]) fun d S' => d = .non ∧ S' = [.ins "State" ["net", "load", "lasts"] [netD n ts, .tup (l.map D.int), .tup (la.map oD)]] := by
    unfold F_State___init__
    rw [ok_runE]
    unfold B_State___init__
    have e0 : stD N_State___init__ [.cell 0, netD n ts, loadD l, lastsD la] = [some (.cell 0), some (netD n ts), some (loadD l), some (lastsD la)] := rfl
    have notN : ∀ (S : List Cel) (P : D → List Cel → Prop), Ok (pIsN true (lastsD la) .non S) P = P (.bl true) S := fun _ _ => rfl
    have isN : ∀ (S : List Cel) (P : D → List Cel → Prop), Ok (pIsN false (lastsD la) .non S) P = P (.bl false) S := fun _ _ => rfl
    rw [e0, oks_seq, oks_drop]
    simp only [ok_call, ok_acons, ok_anil, ok_var, get1, get2, posn]
    refine ⟨rfl, checkLoad_call hl h.1 h0 ?_⟩
    rw [oks_seq, oks_if]
    simp only [ok_tob, ok_bin, ok_c, ok_var, get3, notN, if_true]
    rw [oks_drop]
    simp only [ok_call, ok_acons, ok_anil, ok_var, get1, get3, posn]
    refine ⟨rfl, checkLasts_call h h2 hla ho ?_⟩
    rw [oks_seq, oks_fld]
    simp only [ok_var, get0, get1]
    refine ⟨⟨(by first | rfl | trivial), by simp, (by first | rfl | trivial)⟩, ?_⟩
    rw [oks_seq, oks_fld]
    simp only [ok_fn, ok_acons, ok_anil, ok_f1, ok_var, get0, get2, loadD, ok_tupL, pus1, List.set_cons_zero]
    refine ⟨⟨(by first | rfl | trivial), by simp, (by first | rfl | trivial)⟩, ?_⟩
    rw [oks_fld]
    simp only [ok_if, ok_tob, ok_bin, ok_c, ok_var, get0, get3, isN, Bool.false_eq_true, if_false, ok_fn, ok_acons, ok_anil, ok_f1, pus2, List.set_cons_zero]
    rw [lastsD, ok_tupL]
    simp only [ok_var, get0, pus3, List.set_cons_zero]
    refine ⟨⟨(by first | rfl | trivial), by simp, (by first | rfl | trivial)⟩, (by first | rfl | trivial), (by first | rfl | trivial)⟩
  unfold newD
  simp only [D.cfL, D.cf, net_cf, loadD, lastsD, ints_cf, olasts_cf, Bool.and_true, if_true]
  simp only [loadD, lastsD] at body
  cases hF : F_State___init__ (.cell 0 :: [netD n ts, .lst (l.map D.int), .lst (la.map oD)]) [.ins "State" [] []] with
  | ok d S' =>
    rw [hF] at body
    obtain ⟨rfl, rfl⟩ := body
    have c := state_cf n ts l la
    simp only [stateD, D.cf] at c
    simp only [c, decide_true, Bool.and_self, if_true]
    exact hp
  | fail => rw [hF] at body; exact body.elim
  | exc _ _ => rw [hF] at body; exact body.elim
/-! ### the same, of tuples -/
def loadT (l : List Int) : D := .tup (l.map D.int)
def lastsT (l : List (Option Int)) : D := .tup (l.map oD)
theorem ok_tupTT {xs : List D} {S : List Cel} {P : D → List Cel → Prop} : Ok (pTuple (.tup xs) S) P = P (.tup xs) S := rfl
theorem rowT_call {xs : List D} {S : List Cel} {P : D → List Cel → Prop} (hc : D.cfL xs = true) (hp : P (.bl true) S) : Ok (callP F_is_row [.tup xs] S) P := by
  refine ok_callP (Q := fun d => d = .bl true) ?_ (by simp only [D.cfL, D.cf, hc, Bool.and_true]) fun d e => by rw [e]; exact hp
  unfold F_is_row
  rw [ok_runE]
  unfold B_is_row
  have e1 : stD N_is_row [.tup xs] = [some (.tup xs)] := rfl
  rw [e1]
  simp only [oks_ret, ok_is2, ok_var, get0, tyS, tyD]
  exact ⟨rfl, rfl⟩
theorem isLoadT_call {n : Nat} {ts : List Tk} {l : List Int} {S : List Cel} {P : D → List Cel → Prop} (hl : l.length = ts.length) (h100 : ts.length ≤ 100) (h0 : ∀ x ∈ l, 0 ≤ x) (hp : P (.bl true) S) : Ok (callP F_is_load [netD n ts, loadT l] S) P := by
  refine ok_callP (Q := fun d => d = .bl true) ?_ (by simp only [D.cfL, net_cf, D.cf, loadT, ints_cf, Bool.and_true]) fun d e => by rw [e]; exact hp
  unfold F_is_load
  rw [ok_runE]
  unfold B_is_load
  have e0 : stD N_is_load [netD n ts, loadT l] = [some (netD n ts), some (loadT l), none] := rfl
  rw [e0, oks_seq, oks_if]
  simp only [ok_bor, ok_bnot, ok_tob, ok_call, ok_acons, ok_anil, ok_var, get1, posn, loadT]
  refine ⟨rfl, rowT_call (ints_cf l) ?_⟩
  simp only [Bool.not_true, Bool.false_eq_true, if_false, ok_tob, ok_bin, ok_fn, ok_acons, ok_anil, ok_f1, ok_var, get1, ok_lenT, List.length_map]
  refine lenO_ok (n := n) h100 (fun Q h => by rw [ok_var, get0]; exact h) ?_
  have a1 : decide ((l.length : Int) = (ts.length : Int)) = true := decide_eq_true (by omega)
  simp only [ok_eqI, if_true, a1, Bool.not_true, Bool.false_eq_true, if_false]
  rw [oks_nx, oks_ret, ok_fn, ok_acons]
  refine ok_lcP (fun _ => some (.bl true)) ?_
  simp only [ok_iseq, ok_var, get1]
  refine ⟨trivial, by rw [sz, List.length_map]; omega, fun d hd => ?_, ?_⟩
  · obtain ⟨x, hx, rfl⟩ := List.mem_map.mp hd
    refine ⟨_, rfl, ?_⟩
    have e1 : (wipeD [some (netD n ts), some (D.tup (l.map D.int)), none] [2]).set 2 (some (.int x)) = [some (netD n ts), some (D.tup (l.map D.int)), some (.int x)] := rfl
    rw [ok_yes, e1]
    simp only [if_true, ok_call, ok_acons, ok_anil, ok_var, get2, posn]
    refine ⟨trivial, rfl, count_call ?_⟩
    simp [h0 x hx]
  · rw [ok_asLst, all_true, ok_anil, ok_f1, ok_allL]
    exact ⟨rfl, by simp⟩
theorem lastsT_ok {n : Nat} {ts : List Tk} {la : List (Option Int)} {S : List Cel} {P : D → List Cel → Prop} (h : Sh ts) (h2 : n ≤ 24) (hl : la.length = n) (ho : ∀ node, node < n → okLast ts node (la.getD node none)) (hp : P (.bl true) S) : Ok (callP F_is_lasts [netD n ts, lastsT la] S) P := by
  refine ok_callP (Q := fun d => d = .bl true) ?_ (by simp only [D.cfL, net_cf, D.cf, lastsT, olasts_cf, Bool.and_true]) fun d e => by rw [e]; exact hp
  unfold F_is_lasts
  rw [ok_runE]
  unfold B_is_lasts
  have e0 : stD N_is_lasts [netD n ts, lastsT la] = [some (netD n ts), some (lastsT la), none, none] := rfl
  rw [e0, oks_seq, oks_if]
  simp only [ok_bor, ok_bnot, ok_tob, ok_call, ok_acons, ok_anil, ok_var, get1, posn, lastsT]
  refine ⟨rfl, rowT_call (olasts_cf la) ?_⟩
  have a1 : decide ((la.length : Int) = (n : Int)) = true := decide_eq_true (by omega)
  simp only [Bool.not_true, Bool.false_eq_true, if_false, ok_tob, ok_bin, ok_fn, ok_acons, ok_anil, ok_f1, ok_var, get0, get1, ok_lenT, List.length_map, ok_fld, netD, lk_nodes, ok_eqI, if_true, a1]
  refine ⟨trivial, ?_⟩
  rw [oks_nx, oks_ret, ok_fn, ok_acons]
  rw [show D.obj "Net" ["nodes", "tasks", "_ends", "_marks"] [.int (n : Int), .tup (ts.map tskD), .tup (ts.map endsD), .tup ((List.range n).map fun i : Nat => .tup (marksD ts (i : Int)))] = netD n ts from rfl]
  refine ok_lcP (fun _ => some (.bl true)) (ok_ienuT (xs := la.map oD) ?_)
  rw [ok_var, get1]
  have eo : enumD 0 (la.map oD) = (List.range n).map fun i : Nat => D.tup [.int (i : Int), oD (la.getD i none)] := by
    apply List.ext_getElem?
    intro i
    rw [enumD_get, List.getElem?_map, List.getElem?_map]
    by_cases hi : i < n
    · rw [List.getElem?_range hi]
      have : i < la.length := by omega
      simp [this]
    · rw [List.getElem?_eq_none (by omega), List.getElem?_eq_none (by rw [List.length_range]; omega)]
      rfl
  refine ⟨rfl, trivial, by rw [enumD_len, sz, List.length_map]; omega, fun d hd => ?_, ?_⟩
  · rw [eo] at hd
    obtain ⟨i, hi, rfl⟩ := List.mem_map.mp hd
    rw [List.mem_range] at hi
    refine ⟨_, rfl, ?_⟩
    have e1 : ((wipeD [some (netD n ts), some (D.tup (la.map oD)), none, none] [2, 3]).set 2 (some (.int (i : Int)))).set 3 (some (oD (la.getD i none))) = [some (netD n ts), some (D.tup (la.map oD)), some (.int (i : Int)), some (oD (la.getD i none))] := rfl
    rw [ok_yes, e1]
    simp only [if_true, ok_call, ok_acons, ok_anil, ok_var, get0, get2, get3, posn]
    exact ⟨trivial, rfl, isLast_call h (ho i hi) ⟨rfl, rfl⟩⟩
  · rw [eo, ok_asLst, all_true, ok_anil, ok_f1, ok_allL]
    exact ⟨rfl, by simp⟩
theorem checkLoadT_call {n : Nat} {ts : List Tk} {l : List Int} {S : List Cel} {P : D → List Cel → Prop} (hl : l.length = ts.length) (h100 : ts.length ≤ 100) (h0 : ∀ x ∈ l, 0 ≤ x) (hp : P .non S) : Ok (callP F_check_load [netD n ts, loadT l] S) P := by
  refine ok_callP (Q := fun d => d = .non) ?_ (by simp only [D.cfL, net_cf, D.cf, loadT, ints_cf, Bool.and_true]) fun d e => by rw [e]; exact hp
  unfold F_check_load
  rw [ok_runE]
  unfold B_check_load
  have e0 : stD N_check_load [netD n ts, loadT l] = [some (netD n ts), some (loadT l)] := rfl
  rw [e0, oks_if]
  simp only [ok_bnot, ok_tob, ok_call, ok_acons, ok_anil, ok_var, get0, get1, posn]
  refine ⟨rfl, isLoadT_call hl h100 h0 ?_⟩
  simp only [Bool.not_true, Bool.false_eq_true, if_false, oks_nx]
  exact ⟨rfl, trivial⟩
theorem checkLastsT_call {n : Nat} {ts : List Tk} {la : List (Option Int)} {S : List Cel} {P : D → List Cel → Prop} (h : Sh ts) (h2 : n ≤ 24) (hl : la.length = n) (ho : ∀ node, node < n → okLast ts node (la.getD node none)) (hp : P .non S) : Ok (callP F_check_lasts [netD n ts, lastsT la] S) P := by
  refine ok_callP (Q := fun d => d = .non) ?_ (by simp only [D.cfL, net_cf, D.cf, lastsT, olasts_cf, Bool.and_true]) fun d e => by rw [e]; exact hp
  unfold F_check_lasts
  rw [ok_runE]
  unfold B_check_lasts
  have e0 : stD N_check_lasts [netD n ts, lastsT la] = [some (netD n ts), some (lastsT la)] := rfl
  rw [e0, oks_if]
  simp only [ok_bnot, ok_tob, ok_call, ok_acons, ok_anil, ok_var, get0, get1, posn]
  refine ⟨rfl, lastsT_ok h h2 hl ho ?_⟩
  simp only [Bool.not_true, Bool.false_eq_true, if_false, oks_nx]
  exact ⟨rfl, trivial⟩
theorem newStateT {n : Nat} {ts : List Tk} {l : List Int} {la : List (Option Int)} {S : List Cel} {P : D → List Cel → Prop} (h : Sh ts) (h2 : n ≤ 24) (hl : l.length = ts.length) (h0 : ∀ x ∈ l, 0 ≤ x) (hla : la.length = n) (ho : ∀ node, node < n → okLast ts node (la.getD node none)) (hp : P (stateD n ts l la) S) : Ok (newD "State" F_State___init__ [netD n ts, loadT l, lastsT la] S) P := by
  have body : Ok (F_State___init__ (.cell 0 :: [netD n ts, loadT l, lastsT la]) [.ins "State" [] []]) fun d S' => d = .non ∧ S' = [.ins "State" ["net", "load", "lasts"] [netD n ts, .tup (l.map D.int), .tup (la.map oD)]] := by
    unfold F_State___init__
    rw [ok_runE]
    unfold B_State___init__
    have e0 : stD N_State___init__ [.cell 0, netD n ts, loadT l, lastsT la] = [some (.cell 0), some (netD n ts), some (loadT l), some (lastsT la)] := rfl
    have notN : ∀ (S : List Cel) (P : D → List Cel → Prop), Ok (pIsN true (lastsT la) .non S) P = P (.bl true) S := fun _ _ => rfl
    have isN : ∀ (S : List Cel) (P : D → List Cel → Prop), Ok (pIsN false (lastsT la) .non S) P = P (.bl false) S := fun _ _ => rfl
    rw [e0, oks_seq, oks_drop]
    simp only [ok_call, ok_acons, ok_anil, ok_var, get1, get2, posn]
    refine ⟨rfl, checkLoadT_call hl h.1 h0 ?_⟩
    rw [oks_seq, oks_if]
    simp only [ok_tob, ok_bin, ok_c, ok_var, get3, notN, if_true]
    rw [oks_drop]
    simp only [ok_call, ok_acons, ok_anil, ok_var, get1, get3, posn]
    refine ⟨rfl, checkLastsT_call h h2 hla ho ?_⟩
    rw [oks_seq, oks_fld]
    simp only [ok_var, get0, get1]
    refine ⟨⟨(by first | rfl | trivial), by simp, (by first | rfl | trivial)⟩, ?_⟩
    rw [oks_seq, oks_fld]
    simp only [ok_fn, ok_acons, ok_anil, ok_f1, ok_var, get0, get2, loadT, ok_tupTT, pus1, List.set_cons_zero]
    refine ⟨⟨(by first | rfl | trivial), by simp, (by first | rfl | trivial)⟩, ?_⟩
    rw [oks_fld]
    simp only [ok_if, ok_tob, ok_bin, ok_c, ok_var, get0, get3, isN, Bool.false_eq_true, if_false, ok_fn, ok_acons, ok_anil, ok_f1, pus2, List.set_cons_zero]
    rw [lastsT, ok_tupTT]
    simp only [ok_var, get0, pus3, List.set_cons_zero]
    refine ⟨⟨(by first | rfl | trivial), by simp, (by first | rfl | trivial)⟩, (by first | rfl | trivial), (by first | rfl | trivial)⟩
  unfold newD
  simp only [D.cfL, D.cf, net_cf, loadT, lastsT, ints_cf, olasts_cf, Bool.and_true, if_true]
  simp only [loadT, lastsT] at body
  cases hF : F_State___init__ (.cell 0 :: [netD n ts, .tup (l.map D.int), .tup (la.map oD)]) [.ins "State" [] []] with
  | ok d S' =>
    rw [hF] at body
    obtain ⟨rfl, rfl⟩ := body
    have c := state_cf n ts l la
    simp only [stateD, D.cf] at c
    simp only [c, decide_true, Bool.and_self, if_true]
    exact hp
  | fail => rw [hF] at body; exact body.elim
  | exc _ _ => rw [hF] at body; exact body.elim
end K05
end
section
set_option Elab.async false
set_option linter.all false
set_option maxRecDepth 100000
namespace K05
open PySem PySem.Spec L2 Me
open PyProof.Rows hiding St
/-! ### rows of a state -/
def rowsN (ts : List Tk) (l : List Int) (node : Int) : List Row := (atN ts node).map fun k => ⟨k, minded ts node k, l.getD k 0⟩
theorem one_mark {n : Int} {t : Tk} (h : Vt n t) (node : Int) : t.filter (fun p => decide (p.1 = node)) = if decide (node ∈ t.map (·.1)) = true then [(node, decide ((node, true) ∈ t))] else [] := by
  rcases h with ⟨a, b, rfl, _⟩ | ⟨a, b, c, d, rfl, _, hac, _⟩
  · by_cases h : a = node
    · subst h
      cases b <;> simp
    · have h2 : ¬ node = a := fun e => h e.symm
      simp [h, h2]
  · by_cases h : a = node
    · subst h
      have h2 : ¬ c = a := by omega
      have h3 : ¬ a = c := by omega
      cases b <;> simp [h2, h3]
    · have h2 : ¬ node = a := fun e => h e.symm
      by_cases h3 : c = node
      · subst h3
        cases d <;> simp [h, h2]
      · have h4 : ¬ node = c := fun e => h3 e.symm
        simp [h, h2, h3, h4]
theorem marks_eq {n : Int} {ts : List Tk} (hv : ∀ t ∈ ts, Vt n t) (node : Int) : marksD ts node = (atN ts node).map fun k : Nat => D.tup [.int (k : Int), .bl (minded ts node k)] := by
  unfold marksD atN
  have key : ∀ r : List Nat, (∀ k ∈ r, k < ts.length) → (r.map (mkOf ts node)).flatten = (r.filter (isAt ts node)).map fun k : Nat => D.tup [.int (k : Int), .bl (minded ts node k)] := fun r => by
    induction r with
    | nil => exact fun _ => rfl
    | cons k r ih =>
      intro hr
      rw [List.map_cons, List.flatten_cons, ih fun z hz => hr z (List.mem_cons_of_mem _ hz), List.filter_cons]
      have hk := hr k (by simp)
      have hvt : Vt n (ts.getD k []) := by
        rw [List.getD_eq_getElem?_getD, List.getElem?_eq_getElem hk]
        exact hv _ (List.getElem_mem hk)
      unfold mkOf
      rw [one_mark hvt node, show decide (node ∈ (ts.getD k []).map (·.1)) = isAt ts node k from rfl, show decide ((node, true) ∈ ts.getD k []) = minded ts node k from rfl]
      by_cases hq : isAt ts node k = true
      · simp [hq]
      · simp [hq]
  exact key _ fun k hk => List.mem_range.mp hk
theorem ls_net (a b c : D) : look "net" ["net", "load", "lasts"] [a, b, c] = some a := rfl
theorem ls_load (a b c : D) : look "load" ["net", "load", "lasts"] [a, b, c] = some b := rfl
theorem ls_lasts (a b c : D) : look "lasts" ["net", "load", "lasts"] [a, b, c] = some c := rfl
theorem rows_sum (ts : List Tk) (l : List Int) (node : Int) : ((rowsN ts l node).map (·.c)).sum = workN ts l node := by
  unfold rowsN workN
  rw [List.map_map]
  rfl
theorem rows_slk (ts : List Tk) (l : List Int) (la : List (Option Int)) (node : Nat) (k : Nat) (m : Bool) : slkR (rowsN ts l node) (la.getD node none) ⟨k, m, l.getD k 0⟩ = slk ts l la node k := by
  unfold slkR slk isLast
  rw [rows_sum]
  by_cases h : la.getD node none = some (k : Int)
  · rw [if_pos h, if_pos (decide_eq_true h.symm)]
  · rw [if_neg h, if_neg (by simpa using fun e => h e.symm)]
theorem rows_minded (ts : List Tk) (l : List Int) (node : Int) : (rowsN ts l node).filter (·.m) = ((atN ts node).filter (minded ts node)).map fun k => Row.mk k (minded ts node k) (l.getD k 0) := by
  unfold rowsN
  rw [List.filter_map]
  rfl
theorem rows_len (ts : List Tk) (l : List Int) (node : Int) : (rowsN ts l node).length ≤ ts.length := by
  unfold rowsN
  rw [List.length_map]
  exact atN_len ts node
theorem rows_bound {ts : List Tk} {l : List Int} {node : Int} (hb : ∀ k, (l.getD k 0).natAbs < 2 ^ 300) : ∀ r ∈ rowsN ts l node, r.c.natAbs < 2 ^ 300 := by
  intro r hr
  obtain ⟨k, _, rfl⟩ := List.mem_map.mp hr
  exact hb k
/-- a state as the law draws it -/
structure Good (n : Nat) (ts : List Tk) (l : List Int) (la : List (Option Int)) : Prop where
  h1 : 1 ≤ n
  h2 : n ≤ 24
  hs : ts.length ≤ 100
  hv : ∀ t ∈ ts, Vt n t
  hl : l.length = ts.length
  hb : Lb l 100000000000000000000
  hla : la.length = n
  ho : ∀ node, node < n → okLast ts node (la.getD node none)
theorem Good.sh {n : Nat} {ts : List Tk} {l : List Int} {la : List (Option Int)} (g : Good n ts l la) : Sh ts := ⟨g.hs, fun t ht => (g.hv t ht).len⟩
theorem Good.big {n : Nat} {ts : List Tk} {l : List Int} {la : List (Option Int)} (g : Good n ts l la) (k : Nat) : (l.getD k 0).natAbs < 2 ^ 300 := by
  have h := g.hb.get (by omega) k
  have h3 : (l.getD k 0).natAbs < 2 ^ 100 := by omega
  exact Nat.lt_trans h3 (by decide)
/-- the task that is just tight -/
def tightN (ts : List Tk) (l : List Int) (la : List (Option Int)) (node : Nat) : Option Int := ((slN ts l la node).find? fun k => decide (slk ts l la node k = 0)).map fun k : Nat => (k : Int)
theorem tight_eq (ts : List Tk) (l : List Int) (la : List (Option Int)) (node : Nat) : tightR (rowsN ts l node) (la.getD node none) = tightN ts l la node := by
  unfold tightR tightN slN
  rw [rows_minded, List.find?_map, Option.map_map]
  have e : ((fun r => decide (slkR (rowsN ts l node) (la.getD node none) r = 0)) ∘ fun k => Row.mk k (minded ts node k) (l.getD k 0)) = fun k => decide (slk ts l la node k = 0) := by
    funext k
    simp only [Function.comp, rows_slk]
  rw [e]
  rfl
section
variable {n node : Nat} {ts : List Tk} {l : List Int} {la : List (Option Int)} {S : List Cel} {P : D → List Cel → Prop}
theorem olast_ix (g : Good n ts l la) (hn : node < n) : (la.map oD)[node]? = some (oD (la.getD node none)) := olasts_get (by rw [g.hla]; exact hn)
theorem cf_o (o : Option Int) : (oD o).cf = true := by cases o <;> rfl
end
end K05
end
section
set_option Elab.async false
set_option linter.all false
set_option maxRecDepth 100000
set_option exponentiation.threshold 500
namespace K05
open PySem PySem.Spec L2 Me
open PyProof.Rows hiding St
section
variable {n node : Nat} {ts : List Tk} {l : List Int} {la : List (Option Int)} {S : List Cel} {P : D → List Cel → Prop} {w : D}
theorem g4 {α : Type} {a b c d e : α} {l : List α} : (a :: b :: c :: d :: e :: l)[4]? = some e := rfl
theorem g5 {α : Type} {a b c d e f : α} {l : List α} : (a :: b :: c :: d :: e :: f :: l)[5]? = some f := rfl
theorem g6 {α : Type} {a b c d e f g : α} {l : List α} : (a :: b :: c :: d :: e :: f :: g :: l)[6]? = some g := rfl
theorem g7 {α : Type} {a b c d e f g h : α} {l : List α} : (a :: b :: c :: d :: e :: f :: g :: h :: l)[7]? = some h := rfl
theorem g8 {α : Type} {a b c d e f g h i : α} {l : List α} : (a :: b :: c :: d :: e :: f :: g :: h :: i :: l)[8]? = some i := rfl
theorem g9 {α : Type} {a b c d e f g h i j : α} {l : List α} : (a :: b :: c :: d :: e :: f :: g :: h :: i :: j :: l)[9]? = some j := rfl
theorem g10 {α : Type} {a b c d e f g h i j k : α} {l : List α} : (a :: b :: c :: d :: e :: f :: g :: h :: i :: j :: k :: l)[10]? = some k := rfl
theorem g11 {α : Type} {a b c d e f g h i j k m : α} {l : List α} : (a :: b :: c :: d :: e :: f :: g :: h :: i :: j :: k :: m :: l)[11]? = some m := rfl
theorem g12 {α : Type} {a b c d e f g h i j k m n : α} {l : List α} : (a :: b :: c :: d :: e :: f :: g :: h :: i :: j :: k :: m :: n :: l)[12]? = some n := rfl
theorem g13 {α : Type} {a b c d e f g h i j k m n o : α} {l : List α} : (a :: b :: c :: d :: e :: f :: g :: h :: i :: j :: k :: m :: n :: o :: l)[13]? = some o := rfl
theorem g14 {α : Type} {a b c d e f g h i j k m n o p : α} {l : List α} : (a :: b :: c :: d :: e :: f :: g :: h :: i :: j :: k :: m :: n :: o :: p :: l)[14]? = some p := rfl
theorem g15 {α : Type} {a b c d e f g h i j k m n o p q : α} {l : List α} : (a :: b :: c :: d :: e :: f :: g :: h :: i :: j :: k :: m :: n :: o :: p :: q :: l)[15]? = some q := rfl
theorem filt_true {α : Type} (l : List α) : l.filter (fun _ => true) = l := List.filter_eq_self.mpr fun _ _ => rfl
/-- a comprehension over data of one kind, the store as before -/
theorem ok_lcA {α : Type} {x : MSrc} {vs : List Nat} {g : GD} {t : MB} {e : M} {as : List D → List Cel → R D} {r : Rho} (xs : List α) (φ : α → D) (p : α → Bool) (v : α → D)
    (h : Ok (x r S) fun s S1 => S1 = S ∧ s.ok S ∧ s.ds = xs.map φ ∧ xs.length ≤ 1000000 ∧ (∀ a ∈ xs, ∃ r1, g (φ a) (wipeD r vs) = some r1 ∧ Ok (t r1 S) fun c S2 => S2 = S ∧ c = p a ∧ (p a = true → Ok (e r1 S) fun y S3 => S3 = S ∧ y = v a)) ∧ Ok (as ((xs.filter p).map v) S) P) :
    Ok (eLc as x vs g t e r S) P := by
  refine ok_lc (fun s i acc S' => S' = S ∧ s.ds = xs.map φ ∧ acc = ((xs.take i).filter p).map v) (h.imp fun s S1 ⟨e1, ok, ed, len, step, fin⟩ => ?_)
  subst e1
  refine ⟨ok, ⟨rfl, ed, by simp⟩, fun i d acc S' hd _ hI => ?_, fun acc S' _ hI => ?_⟩
  · obtain ⟨rfl, _, rfl⟩ := hI
    rw [ed, List.getElem?_map, Option.map_eq_some_iff] at hd
    obtain ⟨a, ha, rfl⟩ := hd
    obtain ⟨r1, e1, hb⟩ := step a (List.mem_of_getElem? ha)
    refine ⟨r1, e1, hb.imp fun c S2 ⟨q1, q2, q3⟩ => ?_⟩
    subst q1 q2
    have tk : ((xs.take (i + 1)).filter p).map v = ((xs.take i).filter p).map v ++ ([a].filter p).map v := by rw [take_next ha, List.filter_append, List.map_append]
    by_cases hp : p a = true
    · rw [if_pos hp]
      refine (q3 hp).imp fun y S3 ⟨q4, q5⟩ => ?_
      subst q4 q5
      refine ⟨ok, ?_, rfl, ed, ?_⟩
      · rw [List.length_map, sz]
        have h1 := List.length_filter_le p (xs.take i)
        rw [List.length_take] at h1
        omega
      · rw [tk]
        simp [hp]
    · rw [if_neg hp]
      refine ⟨ok, rfl, ed, ?_⟩
      rw [tk]
      simp [hp]
  · obtain ⟨rfl, _, rfl⟩ := hI
    have e2 : xs.take s.ds.length = xs := by rw [ed, List.length_map, List.take_length]
    rw [e2]
    exact fin
/-! ### worlds, also with the tasks at each node -/
def worldK (n : Nat) (ts : List Tk) : D := .lst [.int (n : Int), .lst (ts.map tskD), .lst ((List.range n).map fun i : Nat => .lst (nats (atN ts (i : Int))))]
def Wld (w : D) (n : Nat) (ts : List Tk) : Prop := w = worldD (n : Int) ts ∨ w = worldK n ts
theorem worldK_cf : (worldK n ts).cf = true := by
  simp only [worldK, D.cf, D.cfL, tsks_cf, Bool.and_true, Bool.true_and]
  exact cfL_of fun d hd => by
    obtain ⟨i, _, rfl⟩ := List.mem_map.mp hd
    exact nats_cf _
theorem Wld.cf (h : Wld w n ts) : w.cf = true := by
  rcases h with rfl | rfl
  · exact world_cf _ _
  · exact worldK_cf
theorem w0 (h : Wld w n ts) : Ok (pIx w (.int 0) S) P = P (.int (n : Int)) S := by
  rcases h with rfl | rfl
  · simp only [worldD, ok_ixL, atI_0]
  · simp only [worldK, ok_ixL, atI_0]
theorem w1 (h : Wld w n ts) : Ok (pIx w (.int 1) S) P = P (.lst (ts.map tskD)) S := by
  rcases h with rfl | rfl
  · simp only [worldD, ok_ixL, atI_1]
  · simp only [worldK, ok_ixL, atI_1]
theorem tsk_ix {k : Nat} (h : k < ts.length) : Ok (pIx (.lst (ts.map tskD)) (.int (k : Int)) S) P = P (.tup ((ts.getD k []).map endD)) S := by
  rw [ok_ixL, Me.atI_nat, tsk_get h]
  rfl
theorem at_call (h : Wld w n ts) (sh : Sh ts) (hn : node < n) (h30 : n ≤ 1000) (hp : P (.lst (nats (atN ts (node : Int)))) S) : Ok (callP F_u_law_at [w, .int (node : Int)] S) P := by
  refine ok_callP (Q := fun d => d = .lst (nats (atN ts (node : Int)))) ?_ (by simp only [D.cfL, D.cf, h.cf, Bool.and_true]) fun d e => by rw [e]; exact hp
  unfold F_u_law_at
  rw [ok_runE]
  have e0 : stD N_u_law_at [w, .int (node : Int)] = [some w, some (.int (node : Int)), none, none, none] := rfl
  rw [e0]
  unfold B_u_law_at
  rw [oks_seq, oks_if]
  rcases h with rfl | rfl
  · simp only [ok_var, ok_c, ok_bin, ok_acons, ok_anil, ok_fn, ok_f1, ok_f2, ok_call, ok_meth, ok_tob, ok_tup, ok_lst, ok_bnot, ok_band, ok_bor, posn, wipeD, List.set_cons_succ, List.set_cons_zero, get0, get1, get2, get3, g4, g5, g6, g7, g8, g9, g10, g11, g12, g13, g14, g15, worldD, ok_lenL, List.length_cons, List.length_nil, ok_gtI]
    rw [if_neg (by decide), oks_nx, oks_ret]
    rw [show D.lst [D.int (n : Int), .lst (ts.map tskD)] = worldD (n : Int) ts from rfl]
    have hh := sh.1
    refine ok_lcA (List.range ts.length) (fun k : Nat => .int (k : Int)) (isAt ts (node : Int)) (fun k : Nat => .int (k : Int)) ?_
    simp only [ok_irng, ok_var, ok_c, ok_bin, ok_acons, ok_anil, ok_fn, ok_f1, ok_f2, ok_call, ok_meth, ok_tob, ok_tup, ok_lst, ok_bnot, ok_band, ok_bor, posn, wipeD, List.set_cons_succ, List.set_cons_zero, get0, get1, get2, get3, g4, g5, g6, g7, g8, g9, g10, g11, g12, g13, g14, g15, w1 (Or.inl rfl), ok_lenL, List.length_map, Int.toNat_natCast]
    refine ⟨small_nat (by omega), (by first | rfl | trivial), (by first | rfl | trivial), rngL_eq _, by rw [List.length_range]; omega, fun k hk => ⟨_, rfl, ?_⟩, ?_⟩
    · rw [List.mem_range] at hk
      simp only [ok_var, ok_c, ok_bin, ok_acons, ok_anil, ok_fn, ok_f1, ok_f2, ok_call, ok_meth, ok_tob, ok_tup, ok_lst, ok_bnot, ok_band, ok_bor, posn, wipeD, List.set_cons_succ, List.set_cons_zero, get0, get1, get2, get3, g4, g5, g6, g7, g8, g9, g10, g11, g12, g13, g14, g15]
      refine ok_lcA (ts.getD k []) endD (fun _ => true) (fun e => .int e.1) ?_
      have hs2 : (ts.getD k []).length ≤ 2 := by
        rw [List.getD_eq_getElem?_getD, List.getElem?_eq_getElem hk]
        exact sh.2 _ (List.getElem_mem hk)
      simp only [ok_iseq, ok_var, ok_c, ok_bin, ok_acons, ok_anil, ok_fn, ok_f1, ok_f2, ok_call, ok_meth, ok_tob, ok_tup, ok_lst, ok_bnot, ok_band, ok_bor, posn, wipeD, List.set_cons_succ, List.set_cons_zero, get0, get1, get2, get3, g4, g5, g6, g7, g8, g9, g10, g11, g12, g13, g14, g15, w1 (Or.inl rfl), tsk_ix hk]
      refine ⟨trivial, trivial, trivial, by omega, fun e he => ⟨_, rfl, ?_⟩, ?_⟩
      · rw [ok_yes]
        simp only [ok_var, ok_c, ok_bin, ok_acons, ok_anil, ok_fn, ok_f1, ok_f2, ok_call, ok_meth, ok_tob, ok_tup, ok_lst, ok_bnot, ok_band, ok_bor, posn, wipeD, List.set_cons_succ, List.set_cons_zero, get0, get1, get2, get3, g4, g5, g6, g7, g8, g9, g10, g11, g12, g13, g14, g15]
        exact ⟨trivial, trivial, fun _ => ⟨trivial, trivial⟩⟩
      · have e3 : ((ts.getD k []).filter fun _ => true).map (fun e => D.int e.1) = ((ts.getD k []).map (·.1)).map D.int := by rw [filt_true, List.map_map]; rfl
        rw [ok_asLst, e3, ok_inI]
        exact ⟨(by first | rfl | trivial), (by first | rfl | trivial), fun _ => ⟨(by first | rfl | trivial), (by first | rfl | trivial)⟩⟩
    · rw [ok_asLst]
      exact ⟨nats_cf _, rfl⟩
  · simp only [ok_var, ok_c, ok_bin, ok_acons, ok_anil, ok_fn, ok_f1, ok_f2, ok_call, ok_meth, ok_tob, ok_tup, ok_lst, ok_bnot, ok_band, ok_bor, posn, wipeD, List.set_cons_succ, List.set_cons_zero, get0, get1, get2, get3, g4, g5, g6, g7, g8, g9, g10, g11, g12, g13, g14, g15, worldK, ok_lenL, List.length_cons, List.length_nil, ok_gtI]
    rw [if_pos (by decide), oks_ret]
    simp only [ok_var, ok_c, ok_bin, ok_acons, ok_anil, ok_fn, ok_f1, ok_f2, ok_call, ok_meth, ok_tob, ok_tup, ok_lst, ok_bnot, ok_band, ok_bor, posn, wipeD, List.set_cons_succ, List.set_cons_zero, get0, get1, get2, get3, g4, g5, g6, g7, g8, g9, g10, g11, g12, g13, g14, g15, ok_ixL, atI_2, Me.atI_nat]
    have e1 : ((List.range n).map fun i : Nat => D.lst (nats (atN ts (i : Int))))[node]? = some (.lst (nats (atN ts (node : Int)))) := by rw [List.getElem?_map, List.getElem?_range hn]; rfl
    simp only [e1]
    exact ⟨nats_cf _, trivial⟩
/-! ### who bars -/
theorem Vt.mem {m : Int} {t : Tk} (h : Vt m t) {e : Int × Bool} (he : e ∈ t) : 0 ≤ e.1 ∧ e.1 < m := by
  rcases h with ⟨a, b, rfl, h1, h2⟩ | ⟨a, b, c, d, rfl, h1, h2, h3⟩
  · simp at he; subst he; exact ⟨h1, h2⟩
  · simp at he
    rcases he with rfl | rfl
    · exact ⟨h1, by simp only; omega⟩
    · exact ⟨by simp only; omega, h3⟩
theorem tv (hv : ∀ t ∈ ts, Vt (n : Int) t) {k : Nat} (hk : k < ts.length) : Vt (n : Int) (ts.getD k []) := by
  rw [List.getD_eq_getElem?_getD, List.getElem?_eq_getElem hk]
  exact hv _ (List.getElem_mem hk)
def bar (la : List (Option Int)) (k : Nat) (e : Int × Bool) : Bool := e.2 && decide (la.getD e.1.toNat none = some (k : Int))
def barsN (ts : List Tk) (la : List (Option Int)) (k : Nat) : List Int := ((ts.getD k []).filter (bar la k)).map (·.1)
theorem lasts_ix {i : Int} (h0 : 0 ≤ i) (h1 : i < la.length) : Ok (pIx (.tup (la.map oD)) (.int i) S) P = P (oD (la.getD i.toNat none)) S := by
  obtain ⟨j, rfl⟩ : ∃ j : Nat, i = (j : Int) := ⟨i.toNat, by omega⟩
  rw [ok_ixT, Me.atI_nat, olasts_get (by omega)]
  rfl
theorem bars_lc {x : MSrc} {vs : List Nat} {g : GD} {t : MB} {e : M} {r : Rho} {k : Nat} (hx : ∀ Q : Src → List Cel → Prop, Q ⟨(ts.getD k []).map endD, none⟩ S → Ok (x r S) Q) (v : Vt (n : Int) (ts.getD k []))
    (hb : ∀ a ∈ ts.getD k [], ∃ r1, g (endD a) (wipeD r vs) = some r1 ∧ Ok (t r1 S) fun c S2 => S2 = S ∧ c = bar la k a ∧ (bar la k a = true → Ok (e r1 S) fun y S3 => S3 = S ∧ y = .int a.1)) (hp : P (.lst ((barsN ts la k).map D.int)) S) : Ok (eLc asLst x vs g t e r S) P := by
  refine ok_lcA (ts.getD k []) endD (bar la k) (fun a => .int a.1) (hx _ ⟨rfl, trivial, rfl, by have := v.len; omega, hb, ?_⟩)
  rw [ok_asLst]
  have e1 : ((ts.getD k []).filter (bar la k)).map (fun a => D.int a.1) = (barsN ts la k).map D.int := by unfold barsN; rw [List.map_map]; rfl
  rw [e1]
  exact hp
theorem lawBars_call {k : Nat} (h : Wld w n ts) (hv : ∀ t ∈ ts, Vt (n : Int) t) (hk : k < ts.length) (hla : la.length = n) (hp : P (.lst ((barsN ts la k).map D.int)) S) : Ok (callP F_u_law_bars [w, lastsT la, .int (k : Int)] S) P := by
  refine ok_callP (Q := fun d => d = .lst ((barsN ts la k).map D.int)) ?_ (by simp only [D.cfL, D.cf, h.cf, lastsT, olasts_cf, Bool.and_true]) fun d e => by rw [e]; exact hp
  unfold F_u_law_bars
  rw [ok_runE]
  have e0 : stD N_u_law_bars [w, lastsT la, .int (k : Int)] = [some w, some (lastsT la), some (.int (k : Int)), none, none] := rfl
  rw [e0]
  unfold B_u_law_bars
  rw [oks_ret]
  refine bars_lc (k := k) (fun Q hq => ?_) (tv hv hk) (fun a ha => ⟨_, rfl, ?_⟩) ⟨ints_cf _, rfl⟩
  · simp only [ok_iseq, ok_var, ok_c, ok_bin, ok_acons, ok_anil, ok_fn, ok_f1, ok_f2, ok_call, ok_meth, ok_tob, ok_tup, ok_lst, ok_bnot, ok_band, ok_bor, posn, wipeD, List.set_cons_succ, List.set_cons_zero, get0, get1, get2, get3, g4, g5, g6, g7, g8, g9, g10, g11, g12, g13, g14, g15, w1 h, tsk_ix hk]
    exact hq
  · obtain ⟨a0, a1⟩ := (tv hv hk).mem ha
    have a2 : a.1 < (la.length : Int) := by omega
    simp only [ok_var, ok_c, ok_bin, ok_acons, ok_anil, ok_fn, ok_f1, ok_f2, ok_call, ok_meth, ok_tob, ok_tup, ok_lst, ok_bnot, ok_band, ok_bor, posn, wipeD, List.set_cons_succ, List.set_cons_zero, get0, get1, get2, get3, g4, g5, g6, g7, g8, g9, g10, g11, g12, g13, g14, g15, lastsT]
    unfold bar
    cases hb : a.2 with
    | false =>
      simp only [Bool.false_eq_true, if_false, Bool.false_and]
      exact ⟨trivial, trivial, fun z => by simp at z⟩
    | true =>
      simp only [if_true, ok_var, ok_c, ok_bin, ok_acons, ok_anil, ok_fn, ok_f1, ok_f2, ok_call, ok_meth, ok_tob, ok_tup, ok_lst, ok_bnot, ok_band, ok_bor, posn, wipeD, List.set_cons_succ, List.set_cons_zero, get0, get1, get2, get3, g4, g5, g6, g7, g8, g9, g10, g11, g12, g13, g14, g15, lasts_ix a0 a2, ok_eqO2, Bool.false_eq_true, if_false, Bool.true_and]
      exact ⟨trivial, trivial, fun _ => ⟨trivial, trivial⟩⟩
theorem bars_call {k : Nat} (g : Good n ts l la) (hk : k < ts.length) (hp : P (.lst ((barsN ts la k).map D.int)) S) : Ok (callP F_bars [stateD n ts l la, .int (k : Int)] S) P := by
  refine ok_callP (Q := fun d => d = .lst ((barsN ts la k).map D.int)) ?_ (by simp only [D.cfL, D.cf, state_cf, Bool.and_true]) fun d e => by rw [e]; exact hp
  unfold F_bars
  rw [ok_runE]
  have e0 : stD N_bars [stateD n ts l la, .int (k : Int)] = [some (stateD n ts l la), some (.int (k : Int)), none, none] := rfl
  rw [e0]
  unfold B_bars
  rw [oks_seq, oks_drop]
  have hla := g.hla
  have fnet : ∀ (S : List Cel) (r : Rho) (P : D → List Cel → Prop), r[0]? = some (some (stateD n ts l la)) → Ok (eFld "State" "net" (eVar 0) r S) P = P (netD n ts) S := fun S r P h => by
    simp only [ok_fld, ok_var, h, stateD, ls_net]
    exact propext ⟨fun q => q.2, fun q => ⟨trivial, q⟩⟩
  simp only [ok_call, ok_acons, ok_anil, fnet _ _ _ get0, ok_var, get1, posn]
  refine ⟨rfl, checkTask_call hk ?_⟩
  rw [oks_ret]
  refine bars_lc (k := k) (fun Q hq => ?_) (tv g.hv hk) (fun a ha => ⟨_, rfl, ?_⟩) ⟨ints_cf _, rfl⟩
  · simp only [ok_iseq, ok_bin, ok_fld, ok_var, get0, get1, stateD, ls_net, netD, lk_tasks, ok_ixT, Me.atI_nat, tsk_get hk]
    exact ⟨trivial, trivial, hq⟩
  · obtain ⟨a0, a1⟩ := (tv g.hv hk).mem ha
    have a2 : a.1 < (la.length : Int) := by omega
    simp only [ok_var, ok_c, ok_bin, ok_acons, ok_anil, ok_fn, ok_f1, ok_f2, ok_call, ok_meth, ok_tob, ok_tup, ok_lst, ok_bnot, ok_band, ok_bor, posn, wipeD, List.set_cons_succ, List.set_cons_zero, get0, get1, get2, get3, g4, g5, g6, g7, g8, g9, g10, g11, g12, g13, g14, g15]
    unfold bar
    cases hb : a.2 with
    | false =>
      simp only [Bool.false_eq_true, if_false, Bool.false_and]
      exact ⟨trivial, trivial, fun z => by simp at z⟩
    | true =>
      simp only [if_true, ok_var, ok_c, ok_bin, ok_acons, ok_anil, ok_fn, ok_f1, ok_f2, ok_call, ok_meth, ok_tob, ok_tup, ok_lst, ok_bnot, ok_band, ok_bor, posn, wipeD, List.set_cons_succ, List.set_cons_zero, get0, get1, get2, get3, g4, g5, g6, g7, g8, g9, g10, g11, g12, g13, g14, g15, ok_fld, stateD, ls_lasts, lasts_ix a0 a2, ok_eqO2, Bool.false_eq_true, if_false, Bool.true_and]
      exact ⟨trivial, trivial, trivial, fun _ => ⟨trivial, trivial⟩⟩
end

end K05
end
section
set_option Elab.async false
set_option linter.all false
set_option maxRecDepth 100000
set_option exponentiation.threshold 500
namespace K05
open PySem PySem.Spec L2 Me
open PyProof.Rows hiding St
section
variable {n node : Nat} {ts : List Tk} {l : List Int} {la : List (Option Int)} {S : List Cel} {P : D → List Cel → Prop} {w : D} {k : Nat}
theorem ok_eqInts {neg : Bool} {xs : List Int} : Ok (pEqA neg (.lst (xs.map D.int)) (.lst []) S) P = P (.bl (if neg = true then !decide (xs = []) else decide (xs = []))) S := by
  have e1 : toPy S (.lst (xs.map D.int)) = some (.list (xs.map PyData.int)) := by simp [toPy, pyD, py_ints]
  have e2 : toPy S (.lst []) = some (.list []) := rfl
  have sh : SeqAt.shaped (.list (xs.map PyData.int)) = true := shaped_list (n := 1) (fun _ => rfl) (fun a => by simp [PyData.depth]) (by omega) xs
  have s2 : SeqAt.shaped (.list []) = true := rfl
  have e3 : PyData.eqv (.list (xs.map PyData.int)) (.list []) = decide (xs = []) := by
    cases xs <;> simp [PyData.eqv, PyData.eqvAll]
  unfold pEqA orR pEqT pEq
  simp only [e1, e2, sh, s2, Bool.and_true, if_true, e3]
  rfl
/-! ### legal tasks -/
def legalB (ts : List Tk) (l : List Int) (la : List (Option Int)) (k : Nat) : Bool := decide (0 < l.getD k 0) && decide (barsN ts la k = [])
def legalN (ts : List Tk) (l : List Int) (la : List (Option Int)) : List Nat := (List.range l.length).filter (legalB ts l la)
def LdT (d : D) (l : List Int) : Prop := d = loadT l ∨ d = loadD l
theorem LdT.cf {d : D} (h : LdT d l) : d.cf = true := by
  rcases h with rfl | rfl
  · simp only [loadT, D.cf, ints_cf]
  · simp only [loadD, D.cf, ints_cf]
theorem ld_ix {d : D} (h : LdT d l) (hk : k < l.length) : Ok (pIx d (.int (k : Int)) S) P = P (.int (l.getD k 0)) S := by
  rcases h with rfl | rfl
  · simp only [loadT, ok_ixT, Me.atI_nat, ints_get hk]
  · simp only [loadD, ok_ixL, Me.atI_nat, ints_get hk]
theorem ld_len {d : D} (h : LdT d l) : Ok (pLen d S) P = P (.int (l.length : Int)) S := by
  rcases h with rfl | rfl
  · simp only [loadT, ok_lenT, List.length_map]
  · simp only [loadD, ok_lenL, List.length_map]
theorem lawLegal_call (h : Wld w n ts) (g : Good n ts l la) (hp : P (.lst (nats (legalN ts l la))) S) : Ok (callP F_u_law_legal [w, loadT l, lastsT la] S) P := by
  refine ok_callP (Q := fun d => d = .lst (nats (legalN ts l la))) ?_ (by simp only [D.cfL, D.cf, h.cf, loadT, ints_cf, lastsT, olasts_cf, Bool.and_true]) fun d e => by rw [e]; exact hp
  unfold F_u_law_legal
  rw [ok_runE]
  have e0 : stD N_u_law_legal [w, loadT l, lastsT la] = [some w, some (loadT l), some (lastsT la), none] := rfl
  rw [e0]
  unfold B_u_law_legal
  rw [oks_ret]
  have hs := g.hs
  have hl := g.hl
  refine ok_lcA (List.range l.length) (fun k : Nat => .int (k : Int)) (legalB ts l la) (fun k : Nat => .int (k : Int)) ?_
  simp only [ok_irng, ok_var, ok_c, ok_bin, ok_acons, ok_anil, ok_fn, ok_f1, ok_f2, ok_call, ok_meth, ok_tob, ok_tup, ok_lst, ok_bnot, ok_band, ok_bor, posn, wipeD, List.set_cons_succ, List.set_cons_zero, get0, get1, get2, get3, g4, g5, g6, g7, g8, g9, g10, g11, g12, g13, g14, g15, ld_len (Or.inl rfl), Int.toNat_natCast]
  refine ⟨small_nat (by omega), (by first | rfl | trivial), (by first | rfl | trivial), rngL_eq _, by rw [List.length_range]; omega, fun k hk => ⟨_, rfl, ?_⟩, ?_⟩
  · rw [List.mem_range] at hk
    simp only [ok_var, ok_c, ok_bin, ok_acons, ok_anil, ok_fn, ok_f1, ok_f2, ok_call, ok_meth, ok_tob, ok_tup, ok_lst, ok_bnot, ok_band, ok_bor, posn, wipeD, List.set_cons_succ, List.set_cons_zero, get0, get1, get2, get3, g4, g5, g6, g7, g8, g9, g10, g11, g12, g13, g14, g15, ld_ix (Or.inl rfl) hk, ok_gtI]
    unfold legalB
    by_cases h0 : 0 < l.getD k 0
    · simp only [h0, decide_true, if_true, ok_var, ok_c, ok_bin, ok_acons, ok_anil, ok_fn, ok_f1, ok_f2, ok_call, ok_meth, ok_tob, ok_tup, ok_lst, ok_bnot, ok_band, ok_bor, posn, wipeD, List.set_cons_succ, List.set_cons_zero, get0, get1, get2, get3, g4, g5, g6, g7, g8, g9, g10, g11, g12, g13, g14, g15, Bool.true_and]
      refine ⟨rfl, lawBars_call h g.hv (by omega) g.hla ?_⟩
      simp only [List.length_nil, ok_eqInts, Bool.false_eq_true, if_false]
      exact ⟨Nat.zero_le _, (by first | rfl | trivial), (by first | rfl | trivial), fun _ => ⟨(by first | rfl | trivial), (by first | rfl | trivial)⟩⟩
    · simp only [h0, decide_false, Bool.false_eq_true, if_false, Bool.false_and]
      exact ⟨(by first | rfl | trivial), (by first | rfl | trivial), fun z => by simp at z⟩
  · rw [ok_asLst]
    exact ⟨nats_cf _, rfl⟩
theorem canRun_call (g : Good n ts l la) (hk : k < ts.length) (hp : P (.bl (legalB ts l la k)) S) : Ok (callP F_can_run [stateD n ts l la, .int (k : Int)] S) P := by
  refine ok_callP (Q := fun d => d = .bl (legalB ts l la k)) ?_ (by simp only [D.cfL, D.cf, state_cf, Bool.and_true]) fun d e => by rw [e]; exact hp
  unfold F_can_run
  rw [ok_runE]
  have e0 : stD N_can_run [stateD n ts l la, .int (k : Int)] = [some (stateD n ts l la), some (.int (k : Int))] := rfl
  rw [e0]
  unfold B_can_run
  rw [oks_ret, ok_and]
  have hk2 : k < l.length := by rw [g.hl]; exact hk
  have fl : ∀ (S : List Cel) (r : Rho) (P : D → List Cel → Prop), r[0]? = some (some (stateD n ts l la)) → Ok (eFld "State" "load" (eVar 0) r S) P = P (loadT l) S := fun S r P h => by
    simp only [ok_fld, ok_var, h, stateD, ls_load]
    exact propext ⟨fun q => q.2, fun q => ⟨trivial, q⟩⟩
  simp only [ok_bin, fl _ _ _ get0, ok_var, get1, ld_ix (Or.inl rfl) hk2, ok_c, ok_gtI]
  unfold legalB
  by_cases h0 : 0 < l.getD k 0
  · simp only [h0, decide_true, if_true, Bool.true_and, ok_var, ok_c, ok_bin, ok_acons, ok_anil, ok_fn, ok_f1, ok_f2, ok_call, ok_meth, ok_tob, ok_tup, ok_lst, ok_bnot, ok_band, ok_bor, posn, wipeD, List.set_cons_succ, List.set_cons_zero, get0, get1, get2, get3, g4, g5, g6, g7, g8, g9, g10, g11, g12, g13, g14, g15]
    refine ⟨rfl, bars_call g hk ?_⟩
    simp only [List.length_nil, ok_eqInts, Bool.false_eq_true, if_false]
    exact ⟨Nat.zero_le _, (by first | rfl | trivial), (by first | rfl | trivial)⟩
  · simp only [h0, decide_false, Bool.false_eq_true, if_false, Bool.false_and]
    exact ⟨(by first | rfl | trivial), (by first | rfl | trivial)⟩
theorem legal_lc {as : List D → List Cel → R D} (g : Good n ts l la) {P : D → List Cel → Prop} (hp : Ok (as (nats (legalN ts l la)) S) P) :
    Ok (eLc as (iRng1 (eLenO "Net" F_Net___len__ (eFld "State" "net" (eVar 0)))) [1] (gN 1) (toB (eCall callP 2 F_can_run posn (aCons (eVar 0) (aCons (eVar 1) aNil)) aNil)) (eVar 1) [some (stateD n ts l la), none] S) P := by
  have hs := g.hs
  have hl := g.hl
  refine ok_lcA (List.range l.length) (fun k : Nat => .int (k : Int)) (legalB ts l la) (fun k : Nat => .int (k : Int)) ?_
  rw [ok_irng]
  refine lenO_ok (n := n) g.hs (fun Q h => by simp only [ok_fld, ok_var, get0, stateD, ls_net]; exact ⟨trivial, h⟩) ?_
  simp only [Int.toNat_natCast]
  refine ⟨small_nat (by omega), (by first | rfl | trivial), (by first | rfl | trivial), by rw [rngL_eq, hl]; rfl, by rw [List.length_range]; omega, fun k hk => ⟨_, rfl, ?_⟩, ?_⟩
  · rw [List.mem_range] at hk
    simp only [ok_var, ok_c, ok_bin, ok_acons, ok_anil, ok_fn, ok_f1, ok_f2, ok_call, ok_meth, ok_tob, ok_tup, ok_lst, ok_bnot, ok_band, ok_bor, posn, wipeD, List.set_cons_succ, List.set_cons_zero, get0, get1, get2, get3, g4, g5, g6, g7, g8, g9, g10, g11, g12, g13, g14, g15]
    refine ⟨rfl, canRun_call g (by omega) ?_⟩
    exact ⟨(by first | rfl | trivial), (by first | rfl | trivial), fun _ => ⟨(by first | rfl | trivial), (by first | rfl | trivial)⟩⟩
  · exact hp
theorem legal_call (g : Good n ts l la) (hp : P (.lst (nats (legalN ts l la))) S) : Ok (callP F_legal [stateD n ts l la] S) P := by
  refine ok_callP (Q := fun d => d = .lst (nats (legalN ts l la))) ?_ (by simp only [D.cfL, state_cf, Bool.and_true]) fun d e => by rw [e]; exact hp
  unfold F_legal
  rw [ok_runE]
  have e0 : stD N_legal [stateD n ts l la] = [some (stateD n ts l la), none] := rfl
  rw [e0]
  unfold B_legal
  rw [oks_ret]
  refine legal_lc g ?_
  rw [ok_asLst]
  exact ⟨nats_cf _, rfl⟩
theorem legalC_call (g : Good n ts l la) (hp : P (.cell S.length) (S ++ [.lst (nats (legalN ts l la))])) : Ok (callF F_legal_vc [stateD n ts l la] S) P := by
  refine ok_callF (Q := fun xs => xs = nats (legalN ts l la)) ?_ (by simp only [D.cfL, state_cf, Bool.and_true]) fun xs e => by rw [e]; exact hp
  unfold F_legal_vc
  rw [ok_runE]
  have e0 : stD N_legal_vc [stateD n ts l la] = [some (stateD n ts l la), none] := rfl
  rw [e0]
  unfold B_legal_vc
  rw [oks_ret]
  refine legal_lc g ?_
  rw [ok_asCel]
  exact ⟨0, _, rfl, rfl, nats_cf _, rfl⟩
/-! ### what is behind a run -/
def ranL (l : List Int) (k : Nat) : List Int := l.set k (l.getD k 0 - 1)
def ranA (ts : List Tk) (la : List (Option Int)) (k : Nat) : List (Option Int) := (List.range la.length).map fun i : Nat => if isAt ts (i : Int) k = true then some (k : Int) else la.getD i none
theorem less_eq : (List.range l.length).map (fun j : Nat => l.getD j 0 - if decide ((j : Int) = (k : Int)) = true then 1 else 0) = ranL l k := by
  unfold ranL
  apply List.ext_getElem?
  intro j
  rw [List.getElem?_map]
  by_cases hj : j < l.length
  · rw [List.getElem?_range hj, List.getElem?_set]
    simp only [Option.map_some]
    by_cases e : k = j
    · subst e
      simp [hj]
    · have e2 : ¬ (j : Int) = (k : Int) := by omega
      simp [e, e2, hj]
  · rw [List.getElem?_eq_none (by rw [List.length_range]; omega), List.getElem?_eq_none (by rw [List.length_set]; omega)]
    rfl
theorem ran_call {d : D} (h : Wld w n ts) (hd : LdT d l) (hs : ts.length ≤ 100) (hn : n ≤ 1000) (hv : ∀ t ∈ ts, Vt (n : Int) t) (hk : k < ts.length) (hl : l.length = ts.length) (hla : la.length = n) (hp : P (.tup [loadT (ranL l k), lastsT (ranA ts la k)]) S) : Ok (callP F_u_law_ran [w, d, lastsT la, .int (k : Int)] S) P := by
  refine ok_callP (Q := fun x => x = .tup [loadT (ranL l k), lastsT (ranA ts la k)]) ?_ (by simp only [D.cfL, D.cf, h.cf, hd.cf, lastsT, olasts_cf, Bool.and_true]) fun d e => by rw [e]; exact hp
  unfold F_u_law_ran
  rw [ok_runE]
  have e0 : stD N_u_law_ran [w, d, lastsT la, .int (k : Int)] = [some w, some d, some (lastsT la), some (.int (k : Int)), none, none, none, none, none] := rfl
  rw [e0]
  unfold B_u_law_ran
  rw [oks_seq, oks_set]
  have v := tv hv hk
  refine ok_lcA (List.range l.length) (fun k : Nat => .int (k : Int)) (fun _ => true) (fun j : Nat => .int (l.getD j 0 - if decide ((j : Int) = (k : Int)) = true then 1 else 0)) ?_
  simp only [ok_irng, ok_var, ok_c, ok_bin, ok_acons, ok_anil, ok_fn, ok_f1, ok_f2, ok_call, ok_meth, ok_tob, ok_tup, ok_lst, ok_bnot, ok_band, ok_bor, posn, wipeD, List.set_cons_succ, List.set_cons_zero, get0, get1, get2, get3, g4, g5, g6, g7, g8, g9, g10, g11, g12, g13, g14, g15, ld_len hd, Int.toNat_natCast]
  refine ⟨small_nat (by omega), (by first | rfl | trivial), (by first | rfl | trivial), rngL_eq _, by rw [List.length_range]; omega, fun j hj => ⟨_, rfl, ?_⟩, ?_⟩
  · rw [List.mem_range] at hj
    rw [ok_yes]
    simp only [ok_var, ok_c, ok_bin, ok_acons, ok_anil, ok_fn, ok_f1, ok_f2, ok_call, ok_meth, ok_tob, ok_tup, ok_lst, ok_bnot, ok_band, ok_bor, posn, wipeD, List.set_cons_succ, List.set_cons_zero, get0, get1, get2, get3, g4, g5, g6, g7, g8, g9, g10, g11, g12, g13, g14, g15, ld_ix hd hj, ok_eqI, ok_pIntB, ok_subI, Bool.false_eq_true, if_false]
    exact ⟨(by first | rfl | trivial), (by first | rfl | trivial), fun _ => ⟨(by first | rfl | trivial), (by first | rfl | trivial)⟩⟩
  rw [filt_true, ok_asLst]
  have e1 : (List.range l.length).map (fun j : Nat => D.int (l.getD j 0 - if decide ((j : Int) = (k : Int)) = true then 1 else 0)) = (ranL l k).map D.int := by rw [← less_eq, List.map_map]; rfl
  rw [e1]
  try simp only [wipeD, List.set_cons_succ, List.set_cons_zero, get0, get1, get2, get3, g4, g5, g6, g7, g8, g9, g10, g11, g12, g13, g14, g15]
  rw [oks_seq, oks_set]
  refine ok_lcA (ts.getD k []) endD (fun _ => true) (fun e => .int e.1) ?_
  simp only [ok_iseq, ok_var, ok_c, ok_bin, ok_acons, ok_anil, ok_fn, ok_f1, ok_f2, ok_call, ok_meth, ok_tob, ok_tup, ok_lst, ok_bnot, ok_band, ok_bor, posn, wipeD, List.set_cons_succ, List.set_cons_zero, get0, get1, get2, get3, g4, g5, g6, g7, g8, g9, g10, g11, g12, g13, g14, g15, w1 h, tsk_ix hk]
  refine ⟨(by first | rfl | trivial), (by first | rfl | trivial), (by first | rfl | trivial), by have := v.len; omega, fun e he => ⟨_, rfl, ?_⟩, ?_⟩
  · rw [ok_yes]
    simp only [ok_var, ok_c, ok_bin, ok_acons, ok_anil, ok_fn, ok_f1, ok_f2, ok_call, ok_meth, ok_tob, ok_tup, ok_lst, ok_bnot, ok_band, ok_bor, posn, wipeD, List.set_cons_succ, List.set_cons_zero, get0, get1, get2, get3, g4, g5, g6, g7, g8, g9, g10, g11, g12, g13, g14, g15]
    exact ⟨(by first | rfl | trivial), (by first | rfl | trivial), fun _ => ⟨(by first | rfl | trivial), (by first | rfl | trivial)⟩⟩
  rw [filt_true, ok_asLst]
  have e2 : (ts.getD k []).map (fun e => D.int e.1) = ((ts.getD k []).map (·.1)).map D.int := by rw [List.map_map]; rfl
  rw [e2]
  try simp only [wipeD, List.set_cons_succ, List.set_cons_zero, get0, get1, get2, get3, g4, g5, g6, g7, g8, g9, g10, g11, g12, g13, g14, g15]
  rw [oks_ret]
  simp only [ok_tup, ok_acons, ok_fn, ok_f1, ok_var, g4, ok_anil, ok_tupL]
  refine ok_lcA (List.range n) (fun k : Nat => .int (k : Int)) (fun _ => true) (fun i : Nat => oD (if isAt ts (i : Int) k = true then some (k : Int) else la.getD i none)) ?_
  simp only [ok_irng, ok_var, ok_c, ok_bin, ok_acons, ok_anil, ok_fn, ok_f1, ok_f2, ok_call, ok_meth, ok_tob, ok_tup, ok_lst, ok_bnot, ok_band, ok_bor, posn, wipeD, List.set_cons_succ, List.set_cons_zero, get0, get1, get2, get3, g4, g5, g6, g7, g8, g9, g10, g11, g12, g13, g14, g15, w0 h, Int.toNat_natCast]
  refine ⟨small_nat (by omega), (by first | rfl | trivial), (by first | rfl | trivial), rngL_eq _, by rw [List.length_range]; omega, fun i hi => ⟨_, rfl, ?_⟩, ?_⟩
  · rw [List.mem_range] at hi
    rw [ok_yes]
    refine ⟨rfl, rfl, fun _ => ?_⟩
    simp only [ok_if, ok_var, ok_c, ok_bin, ok_acons, ok_anil, ok_fn, ok_f1, ok_f2, ok_call, ok_meth, ok_tob, ok_tup, ok_lst, ok_bnot, ok_band, ok_bor, posn, wipeD, List.set_cons_succ, List.set_cons_zero, get0, get1, get2, get3, g4, g5, g6, g7, g8, g9, g10, g11, g12, g13, g14, g15, ok_inI, Bool.false_eq_true, if_false]
    rw [show decide ((i : Int) ∈ (ts.getD k []).map (·.1)) = isAt ts (i : Int) k from rfl]
    have hi2 : (i : Int) < (la.length : Int) := by omega
    cases hq : isAt ts (i : Int) k with
    | true => simp only [if_true, ok_var, ok_c, ok_bin, ok_acons, ok_anil, ok_fn, ok_f1, ok_f2, ok_call, ok_meth, ok_tob, ok_tup, ok_lst, ok_bnot, ok_band, ok_bor, posn, wipeD, List.set_cons_succ, List.set_cons_zero, get0, get1, get2, get3, g4, g5, g6, g7, g8, g9, g10, g11, g12, g13, g14, g15]; exact ⟨(by first | rfl | trivial), (by first | rfl | trivial)⟩
    | false => simp only [Bool.false_eq_true, if_false, ok_var, ok_c, ok_bin, ok_acons, ok_anil, ok_fn, ok_f1, ok_f2, ok_call, ok_meth, ok_tob, ok_tup, ok_lst, ok_bnot, ok_band, ok_bor, posn, wipeD, List.set_cons_succ, List.set_cons_zero, get0, get1, get2, get3, g4, g5, g6, g7, g8, g9, g10, g11, g12, g13, g14, g15, lastsT, lasts_ix (show (0 : Int) ≤ (i : Int) by omega) hi2, Int.toNat_natCast]; exact ⟨(by first | rfl | trivial), (by first | rfl | trivial)⟩
  rw [filt_true, ok_asLst]
  have e3 : (List.range n).map (fun i : Nat => oD (if isAt ts (i : Int) k = true then some (k : Int) else la.getD i none)) = (ranA ts la k).map oD := by unfold ranA; rw [List.map_map, hla]; rfl
  rw [e3]
  simp only [ok_f1, ok_tupL, ok_anil]
  exact ⟨by rw [sz]; simp, by simp only [D.cf, D.cfL, ints_cf, olasts_cf, Bool.and_true], rfl⟩
/-! ### runs -/
theorem ends_sets {t : Tk} (h : Vt (n : Int) t) (hla : la.length = n) (z : Option Int) : ((t.map (·.1)).foldl (fun a e => a.set e.toNat z) la) = (List.range la.length).map fun i : Nat => if decide ((i : Int) ∈ t.map (·.1)) = true then z else la.getD i none := by
  apply List.ext_getElem?
  intro j
  by_cases hj : j < la.length
  · rw [List.getElem?_map, List.getElem?_range hj]
    simp only [Option.map_some]
    rcases h with ⟨a, b, rfl, h1, h2⟩ | ⟨a, b, c, d, rfl, h1, h2, h3⟩
    · simp only [List.map_cons, List.map_nil, List.foldl_cons, List.foldl_nil, List.mem_cons, List.not_mem_nil, or_false]
      rw [List.getElem?_set]
      by_cases e : a.toNat = j
      · have e2 : (j : Int) = a := by omega
        simp [e, e2, hj]
      · have e2 : ¬ (j : Int) = a := by omega
        simp [e, e2, hj]
    · simp only [List.map_cons, List.map_nil, List.foldl_cons, List.foldl_nil, List.mem_cons, List.not_mem_nil, or_false]
      rw [List.getElem?_set, List.getElem?_set]
      simp only [List.length_set]
      by_cases e : c.toNat = j
      · have e2 : (j : Int) = c := by omega
        simp [e, e2, hj]
      · have e2 : ¬ (j : Int) = c := by omega
        by_cases e3 : a.toNat = j
        · have e4 : (j : Int) = a := by omega
          simp [e, e3, e4, hj]
        · have e4 : ¬ (j : Int) = a := by omega
          simp [e, e2, e3, e4, hj]
  · have fl : ∀ (q : List Int) (x : List (Option Int)), (q.foldl (fun a e => a.set e.toNat z) x).length = x.length := fun q => by
      induction q with
      | nil => exact fun _ => rfl
      | cons e q ih => intro x; rw [List.foldl_cons, ih, List.length_set]
    rw [List.getElem?_eq_none (by rw [fl]; omega), List.getElem?_eq_none (by rw [List.length_map, List.length_range]; omega)]
theorem Good.run (g : Good n ts l la) (hk : k < ts.length) (h0 : 0 < l.getD k 0) : Good n ts (ranL l k) (ranA ts la k) where
  h1 := g.h1
  h2 := g.h2
  hs := g.hs
  hv := g.hv
  hl := by unfold ranL; rw [List.length_set]; exact g.hl
  hb := fun x hx => by
    rcases List.mem_or_eq_of_mem_set hx with h | h
    · exact g.hb x h
    · have := g.hb.get (by omega) k
      rw [h]
      omega
  hla := by unfold ranA; rw [List.length_map, List.length_range]; exact g.hla
  ho := fun node hn i hi => by
    unfold ranA at hi
    rw [List.getD_eq_getElem?_getD, List.getElem?_map, List.getElem?_range (by rw [g.hla]; exact hn)] at hi
    simp only [Option.map_some, Option.getD_some] at hi
    by_cases hq : isAt ts (node : Int) k = true
    · rw [if_pos hq] at hi
      cases hi
      exact ⟨k, rfl, List.mem_filter.mpr ⟨List.mem_range.mpr hk, hq⟩⟩
    · rw [if_neg hq] at hi
      exact g.ho node hn i hi
theorem run_call (g : Good n ts l la) (hk : k < ts.length) (hL : legalB ts l la k = true) (hp : P (stateD n ts (ranL l k) (ranA ts la k)) S) : Ok (callP F_run [stateD n ts l la, .int (k : Int)] S) P := by
  refine ok_callP (Q := fun d => d = stateD n ts (ranL l k) (ranA ts la k)) ?_ (by simp only [D.cfL, D.cf, state_cf, Bool.and_true]) fun d e => by rw [e]; exact hp
  unfold legalB at hL
  rw [Bool.and_eq_true, decide_eq_true_eq, decide_eq_true_eq] at hL
  obtain ⟨h0, hB⟩ := hL
  have g2 := g.run hk h0
  have hkl : k < l.length := by rw [g.hl]; exact hk
  have hs := g.hs
  unfold F_run
  rw [ok_runE]
  have e0 : stD N_run [stateD n ts l la, .int (k : Int)] = [some (stateD n ts l la), some (.int (k : Int)), none, none, none, none] := rfl
  rw [e0]
  unfold B_run
  have fnet : ∀ (S : List Cel) (r : Rho) (P : D → List Cel → Prop), r[0]? = some (some (stateD n ts l la)) → Ok (eFld "State" "net" (eVar 0) r S) P = P (netD n ts) S := fun S r P h => by
    simp only [ok_fld, ok_var, h, stateD, ls_net]
    exact propext ⟨fun q => q.2, fun q => ⟨trivial, q⟩⟩
  have fload : ∀ (S : List Cel) (r : Rho) (P : D → List Cel → Prop), r[0]? = some (some (stateD n ts l la)) → Ok (eFld "State" "load" (eVar 0) r S) P = P (loadT l) S := fun S r P h => by
    simp only [ok_fld, ok_var, h, stateD, ls_load]
    exact propext ⟨fun q => q.2, fun q => ⟨trivial, q⟩⟩
  have flast : ∀ (S : List Cel) (r : Rho) (P : D → List Cel → Prop), r[0]? = some (some (stateD n ts l la)) → Ok (eFld "State" "lasts" (eVar 0) r S) P = P (lastsT la) S := fun S r P h => by
    simp only [ok_fld, ok_var, h, stateD, ls_lasts]
    exact propext ⟨fun q => q.2, fun q => ⟨trivial, q⟩⟩
  have lC : ∀ (xs : List D) (S : List Cel) (P : D → List Cel → Prop), Ok (pListC (.tup xs) S) P = P (.cell S.length) (S ++ [.lst xs]) := fun _ _ _ => rfl
  rw [oks_seq, oks_drop]
  simp only [ok_call, ok_acons, ok_anil, fnet _ _ _ get0, ok_var, get1, posn]
  refine ⟨rfl, checkTask_call hk ?_⟩
  rw [oks_seq, oks_if]
  simp only [ok_tob, ok_bin, fload _ _ _ get0, ok_var, get1, ld_ix (Or.inl rfl) hkl, ok_c, ok_eqI, Bool.false_eq_true, if_false]
  rw [if_neg (by rw [decide_eq_true_eq]; omega), oks_nx, oks_seq, oks_set]
  simp only [ok_call, ok_acons, ok_anil, ok_var, get0, get1, posn]
  refine ⟨rfl, bars_call g hk ?_⟩
  rw [hB]
  simp only [List.map_nil, List.set_cons_succ, List.set_cons_zero]
  rw [oks_seq, oks_if, ok_truL]
  simp only [ok_var, get2, lstD, List.isEmpty_nil, Bool.not_true, Bool.false_eq_true, if_false]
  rw [oks_nx, oks_seq, oks_set]
  simp only [ok_fn, ok_acons, ok_anil, fload _ _ _ get0, ok_f1, loadT, lC, List.length_nil, List.nil_append, List.set_cons_succ, List.set_cons_zero]
  rw [oks_seq]
  refine oks_aug (neg := true) (a := 3) (b := 1) (c := 1) (k := 0) (j := k) (xs := l.map D.int) (z := l.getD k 0) (r := [some (stateD n ts l la), some (.int (k : Int)), some (.lst []), some (.cell 0), none, none]) (S := [.lst (l.map D.int)]) rfl rfl rfl (by omega) (ints_get hkl) ?_
  have e1 : (l.map D.int).set k (.int (if true = true then l.getD k 0 - 1 else l.getD k 0 + 1)) = (ranL l k).map D.int := by unfold ranL; rw [List.map_set]; rfl
  rw [e1]
  rw [oks_seq, oks_set]
  simp only [ok_fn, ok_acons, ok_anil, flast _ _ _ get0, ok_f1, lastsT, lC, List.length_cons, List.length_nil, List.cons_append, List.nil_append, List.set_cons_succ, List.set_cons_zero]
  rw [oks_seq]
  have v := tv g.hv hk
  refine oks_for (fun s i r S' => (∃ o, r = [some (stateD n ts l la), some (.int (k : Int)), some (.lst []), some (.cell 0), some (.cell 1), o]) ∧ S' = [.lst ((ranL l k).map D.int), .lst (((((ts.getD k []).map (·.1)).take i).foldl (fun a e => a.set e.toNat (some (k : Int))) la).map oD)]) ?_
  rw [ok_iseq, ok_meth, fnet _ _ _ get0]
  simp only [ok_acons, ok_anil, ok_var, get1, posn]
  refine ⟨⟨(by first | rfl | trivial), by decide⟩, rfl, ends_call hk ?_⟩
  refine ⟨trivial, ⟨⟨_, rfl⟩, rfl⟩, fun i d r S' hd _ hI => ?_, fun r S' _ hI => ?_⟩
  · obtain ⟨⟨o, rfl⟩, rfl⟩ := hI
    rw [List.getElem?_map, Option.map_eq_some_iff] at hd
    obtain ⟨e, he, rfl⟩ := hd
    obtain ⟨a0, a1⟩ := v.mem (List.mem_of_getElem? he)
    obtain ⟨a, ha⟩ : ∃ a : Nat, e.1 = (a : Int) := ⟨e.1.toNat, by omega⟩
    refine ⟨_, rfl, ?_⟩
    have e2 : ([some (stateD n ts l la), some (.int (k : Int)), some (.lst []), some (.cell 0), some (.cell 1), o] : Rho).set 5 (some (.int e.1)) = [some (stateD n ts l la), some (.int (k : Int)), some (.lst []), some (.cell 0), some (.cell 1), some (.int (a : Int))] := by rw [ha]; rfl
    rw [e2, oks_item]
    have fl : ∀ (q : List Int) (x : List (Option Int)), (q.foldl (fun a e => a.set e.toNat (some (k : Int))) x).length = x.length := fun q => by
      induction q with
      | nil => exact fun _ => rfl
      | cons e q ih => intro x; rw [List.foldl_cons, ih, List.length_set]
    have hla := g.hla
    have len : a < (((((ts.getD k []).map (·.1)).take i).foldl (fun a e => a.set e.toNat (some (k : Int))) la).map oD).length := by rw [List.length_map, fl]; omega
    simp only [ok_var, get1, g4, g5, ixN_nat len, List.set_cons_succ, List.set_cons_zero]
    refine ⟨trivial, ⟨_, rfl⟩, ?_⟩
    have he2 : ((ts.getD k []).map (·.1))[i]? = some (a : Int) := by rw [List.getElem?_map, he, ← ha]; rfl
    rw [take_next he2, List.foldl_append, List.foldl_cons, List.foldl_nil, List.map_set, Int.toNat_natCast]
    rfl
  · obtain ⟨⟨o, rfl⟩, rfl⟩ := hI
    have e3 : ((((ts.getD k []).map (·.1)).take ((ts.getD k []).map fun p : Int × Bool => D.int p.1).length).foldl (fun a e => a.set e.toNat (some (k : Int))) la) = ranA ts la k := by
      rw [List.length_map, List.take_of_length_le (by rw [List.length_map]; omega), ends_sets v g.hla]
      rfl
    rw [e3, oks_frz, get3]
    simp only [get0, List.set_cons_succ, List.set_cons_zero]
    rw [oks_frz, g4]
    simp only [get1, List.set_cons_succ, List.set_cons_zero]
    rw [oks_ret]
    simp only [ok_new, ok_acons, ok_anil, fnet _ _ _ get0, ok_var, get3, g4, posn]
    refine ⟨rfl, newState g.sh g.h2 g2.hl (fun x hx => (g2.hb x hx).1) g2.hla g2.ho ⟨state_cf _ _ _ _, rfl⟩⟩
end

end K05
end
section
set_option Elab.async false
set_option linter.all false
set_option maxRecDepth 100000
set_option exponentiation.threshold 500
namespace K05
open PySem PySem.Spec L2 Me
open PyProof.Rows hiding St
section
variable {n node : Nat} {ts : List Tk} {l : List Int} {la : List (Option Int)} {S : List Cel} {P : D → List Cel → Prop} {w : D} {k : Nat}
/-! ### what can be printed -/
theorem log_of {i : Int} (h : i.natAbs < 10 ^ 38) : i.natAbs.log2 < 300 := by
  by_cases e : i.natAbs = 0
  · rw [e]; decide
  · rw [Nat.log2_lt e]
    exact Nat.lt_trans h (by decide +kernel)
theorem short_int {i : Int} (h : i.natAbs < 10 ^ 38) : PyData.leavesShort 40 (.int i) = true := by
  have e := int_text_length_le10 (k := 38) (by decide) h
  simp only [PyData.leavesShort, decide_eq_true_eq]
  have e2 : (PyData.int i).shown = Str.ofString (toString i) := rfl
  rw [e2, PySem.ofString_length]
  omega
structure Fn (w d : Nat) (p : PyData) : Prop where
  sh : p.showable = true
  nd : p.hasDict = false
  ls : p.leavesShort 40 = true
  wt : p.weight ≤ w
  dp : p.depth ≤ d
theorem Fn.sm {w d : Nat} {p : PyData} (h : Fn w d p) (hw : w ≤ 262144) (hd : d ≤ 60) : Sm p := sm_of h.sh h.nd (Nat.le_trans h.dp hd) h.ls (Nat.le_trans h.wt hw)
theorem fn_int {i : Int} {b : Nat} (h : i.natAbs < 2 ^ b) (hb : b ≤ 100) : Fn b 1 (.int i) where
  sh := by
    have h3 : i.natAbs < 2 ^ 100 := Nat.lt_of_lt_of_le h (Nat.pow_le_pow_right (by omega) hb)
    have h2 := log_of (i := i) (Nat.lt_trans h3 (by decide +kernel))
    simp only [PyData.showable, decide_eq_true_eq]
    omega
  nd := rfl
  ls := by
    have h3 : i.natAbs < 2 ^ 100 := Nat.lt_of_lt_of_le h (Nat.pow_le_pow_right (by omega) hb)
    exact short_int (Nat.lt_trans h3 (by decide +kernel))
  wt := by
    simp only [PyData.weight]
    split
    · omega
    · next e =>
      have e2 : i.natAbs ≠ 0 := by
        intro e3
        have : i = 0 := by omega
        simp [this] at e
      have := (Nat.log2_lt e2).mpr h
      omega
  dp := by simp [PyData.depth]
theorem fn_all {α : Type} {g : α → PyData} {w d : Nat} : ∀ xs : List α, (∀ x ∈ xs, Fn w d (g x)) → PyData.showableAll (xs.map g) = true ∧ PyData.hasDictAll (xs.map g) = false ∧ PyData.leavesShortAll 40 (xs.map g) = true ∧ PyData.weightAll (xs.map g) ≤ (w + 1) * xs.length ∧ PyData.depthAll (xs.map g) ≤ d
  | [], _ => by simp [PyData.showableAll, PyData.hasDictAll, PyData.leavesShortAll, PyData.weightAll, PyData.depthAll]
  | a :: xs, h => by
    have h1 := h a (by simp)
    obtain ⟨a1, a2, a3, a4, a5⟩ := fn_all xs fun x hx => h x (List.mem_cons_of_mem _ hx)
    have b4 := h1.wt
    have b5 := h1.dp
    rw [List.map_cons, List.length_cons, Nat.mul_add]
    refine ⟨?_, ?_, ?_, ?_, ?_⟩
    · rw [PyData.showableAll, h1.sh, a1]; rfl
    · rw [PyData.hasDictAll, h1.nd, a2]; rfl
    · rw [PyData.leavesShortAll, h1.ls, a3]; rfl
    · rw [PyData.weightAll]; omega
    · rw [PyData.depthAll]; omega
theorem fn_list {α : Type} {g : α → PyData} {w d : Nat} (xs : List α) (h : ∀ x ∈ xs, Fn w d (g x)) : Fn ((w + 1) * xs.length + 4) (d + 1) (.list (xs.map g)) := by
  obtain ⟨a1, a2, a3, a4, a5⟩ := fn_all xs h
  refine ⟨?_, ?_, ?_, ?_, ?_⟩
  all_goals simp only [PyData.showable, PyData.hasDict, PyData.leavesShort, PyData.depth, PyData.weight, a1, a2, a3]
  all_goals omega
theorem fn_tup {α : Type} {g : α → PyData} {w d : Nat} (xs : List α) (h : ∀ x ∈ xs, Fn w d (g x)) : Fn ((w + 1) * xs.length + 4) (d + 1) (.tuple (xs.map g)) := by
  obtain ⟨a1, a2, a3, a4, a5⟩ := fn_all xs h
  refine ⟨?_, ?_, ?_, ?_, ?_⟩
  all_goals simp only [PyData.showable, PyData.hasDict, PyData.leavesShort, PyData.depth, PyData.weight, a1, a2, a3]
  all_goals omega
theorem Fn.mono {w d w' d' : Nat} {p : PyData} (h : Fn w d p) (hw : w ≤ w') (hd : d ≤ d') : Fn w' d' p := ⟨h.sh, h.nd, h.ls, Nat.le_trans h.wt hw, Nat.le_trans h.dp hd⟩
def natP (k : Nat) : PyData := .int (k : Int)
def natsP (xs : List Nat) : PyData := .list (xs.map natP)
theorem fn_nats {xs : List Nat} (h : ∀ k ∈ xs, k < 128) (hl : xs.length ≤ 200) : Fn 2000 2 (natsP xs) := by
  refine (fn_list (g := natP) (w := 7) (d := 1) xs fun k hk => fn_int (by have := h k hk; show ((k : Int)).natAbs < 2 ^ 7; omega) (by omega)).mono (by omega) (by omega)
def tripP (x : Nat × Nat × Int) : PyData := .tuple [.int (x.1 : Int), .int (x.2.1 : Int), .int x.2.2]
structure Tr (x : Nat × Nat × Int) : Prop where
  a : x.1 < 128
  b : x.2.1 < 128
  c : x.2.2.natAbs < 128
theorem fn_trip {x : Nat × Nat × Int} (t : Tr x) : Fn 40 3 (tripP x) := by
  have a := t.a
  have b := t.b
  have h := fn_tup (g := fun i : Int => PyData.int i) (w := 7) (d := 1) [(x.1 : Int), (x.2.1 : Int), x.2.2] fun i hi => by
    simp only [List.mem_cons, List.not_mem_nil, or_false] at hi
    rcases hi with rfl | rfl | rfl
    · exact fn_int (by omega) (by omega)
    · exact fn_int (by omega) (by omega)
    · exact fn_int (Nat.lt_of_lt_of_le t.c (by decide)) (by omega)
  exact Fn.mono h (by simp) (by omega)
def tripsP (xs : List (Nat × Nat × Int)) : PyData := .list (xs.map tripP)
theorem fn_trips {xs : List (Nat × Nat × Int)} (h : ∀ k ∈ xs, Tr k) (hl : xs.length ≤ 200) : Fn 10000 4 (tripsP xs) :=
  (fn_list (g := tripP) (w := 40) (d := 3) xs fun k hk => fn_trip (h k hk)).mono (by omega) (by omega)
/-- a list as data, in a cell or not -/
def Py (xs : List D) (ps : List PyData) : Prop := ∀ (m : Nat) (S : List Cel), pyL (cellPy (m + 1) S) xs = some ps
theorem py_nats (xs : List Nat) : Py (nats xs) (xs.map natP) := fun m S => py_map (c := cellPy (m + 1) S) (f := fun k : Nat => D.int (k : Int)) (g := natP) (fun _ => rfl) xs
theorem Py.lst {xs : List D} {ps : List PyData} (h : Py xs ps) : toPy S (.lst xs) = some (.list ps) := by
  have := h 2 S
  simp [toPy, pyD, this]
theorem Py.cell {xs : List D} {ps : List PyData} (h : Py xs ps) {j m : Nat} (hj : S[j]? = some (.lst xs)) : cellPy (m + 2) S j = some ps := by
  show (match S[j]? with
    | some (.lst xs) => pyL (cellPy (m + 1) S) xs
    | _ => none) = _
  rw [hj]
  exact h m S
theorem Py.atC {xs : List D} {ps : List PyData} (h : Py xs ps) {j : Nat} (hj : S[j]? = some (.lst xs)) : toPy S (.cell j) = some (.list ps) := by
  show (cellPy 3 S j).map PyData.list = _
  rw [h.cell (m := 1) hj]
  rfl
/-! ### a list that is told, and changed then -/
theorem listed_call {xs : List D} {ps : List PyData} {j : Nat} (hc : D.cfL xs = true) (h : Py xs ps) (s : Sm (.list ps)) (hl : xs.length ≤ 10000) (hj : S[j]? = some (.lst xs)) (hp : P (.bl true) (S.set j (.lst (xs ++ [.non])))) : Ok (callB F_u_law_listed [.cell j, .lst xs] S) P := by
  have cf2 : D.cfL (xs ++ [.non]) = true := cfL_of fun d hd => by
    rcases List.mem_append.mp hd with q | q
    · have : ∀ (ys : List D), D.cfL ys = true → ∀ d ∈ ys, d.cf = true := fun ys => by
        induction ys with
        | nil => intro _ d hd; simp at hd
        | cons a ys ih =>
          intro hq d hd
          rw [D.cfL, Bool.and_eq_true] at hq
          rcases List.mem_cons.mp hd with rfl | hd
          · exact hq.1
          · exact ih hq.2 d hd
      exact this xs hc d q
    · simp at q; subst q; rfl
  refine ok_callB (Q := fun d C' => d = .bl true ∧ C' = .lst (xs ++ [.non])) hj ?_ (by simp only [D.cfL, D.cf, Cel.cf, hc, Bool.and_true]) fun d C' ⟨e1, e2⟩ => by rw [e1, e2]; exact hp
  unfold F_u_law_listed
  rw [ok_runE]
  have e0 : stD N_u_law_listed [.cell 0, .lst xs] = [some (.cell 0), some (.lst xs)] := rfl
  rw [e0]
  unfold B_u_law_listed
  rw [oks_seq, oks_if]
  have tl : tyS [Cel.lst xs] (.cell 0) = some "list" := rfl
  have ib : isiB "list" "list" = true := by decide
  simp only [ok_bor, ok_bnot, ok_tob, ok_is, ok_var, get0, tl, ib, Bool.not_true, Bool.false_eq_true, if_false, ok_bin, ok_fn, ok_f1, ok_acons, ok_anil, get1]
  refine ok_repr (h.atC rfl) s ?_
  refine ok_repr h.lst s ?_
  simp only [ok_eqS, if_true, decide_true, Bool.not_true, Bool.false_eq_true, if_false, oks_nx]
  rw [oks_seq, oks_drop]
  have len1 : xs.length < sizeLine := by rw [sz]; omega
  simp only [ok_mut, ok_var, ok_c, ok_bin, ok_acons, ok_anil, ok_fn, ok_f1, ok_f2, ok_call, ok_meth, ok_tob, ok_tup, ok_lst, ok_bnot, ok_band, ok_bor, posn, wipeD, List.set_cons_succ, List.set_cons_zero, get0, get1, get2, get3, g4, g5, g6, g7, g8, g9, g10, g11, g12, g13, g14, g15, fApp, if_pos len1]
  rw [oks_ret, ok_c]
  exact ⟨_, _, rfl, by simp only [D.cf, Cel.cf, cf2, Bool.and_self], rfl, rfl⟩
/-! ### tasks that spoil -/
theorem cut_one (xs : List D) : Me.cutD xs none (some 1) = xs.take 1 := by
  unfold Me.cutD
  have e1 : HT.sIx xs.length 0 none = 0 := rfl
  have e2 : HT.sIx xs.length xs.length (some 1) = min 1 xs.length := HT.sIx_nat _ _ 1
  rw [e1, e2, List.drop_zero, Nat.sub_zero]
  cases xs with
  | nil => rfl
  | cons a r =>
    rw [List.length_cons, show min 1 (r.length + 1) = 1 by omega]
theorem legal_mem (g : Good n ts l la) (h : k ∈ legalN ts l la) : k < ts.length ∧ legalB ts l la k = true := by
  have h1 := List.mem_filter.mp h
  have h2 := List.mem_range.mp h1.1
  have h3 := g.hl
  exact ⟨by omega, h1.2⟩
theorem legal_len (g : Good n ts l la) : (legalN ts l la).length ≤ 100 := by
  unfold legalN
  have h1 := List.length_filter_le (legalB ts l la) (List.range l.length)
  rw [List.length_range] at h1
  have h2 := g.hl
  have h3 := g.hs
  omega
end

end K05
end
section
set_option Elab.async false
set_option linter.all false
set_option maxRecDepth 100000
set_option exponentiation.threshold 500
namespace K05
open PySem PySem.Spec L2 Me
open PyProof.Rows hiding St
section
variable {n node : Nat} {ts : List Tk} {l : List Int} {la : List (Option Int)} {S : List Cel} {P : D → List Cel → Prop} {w : D} {k : Nat}
/-! ### counts stay fine just behind safe runs -/
theorem getD_set (l : List Int) (k j : Nat) (v : Int) (hk : k < l.length) : (l.set k v).getD j 0 = if j = k then v else l.getD j 0 := by
  rw [List.getD_eq_getElem?_getD, List.getElem?_set]
  by_cases h : k = j
  · subst h
    simp [hk]
  · have h2 : ¬ j = k := fun e => h e.symm
    simp [h, h2, List.getD_eq_getElem?_getD]
theorem ranL_get (hk : k < l.length) (j : Nat) : (ranL l k).getD j 0 = l.getD j 0 - if j = k then 1 else 0 := by
  unfold ranL
  rw [getD_set _ _ _ _ hk]
  by_cases h : j = k
  · subst h; simp
  · simp [h]
theorem ranA_get (hn : node < la.length) : (ranA ts la k).getD node none = if isAt ts (node : Int) k = true then some (k : Int) else la.getD node none := by
  unfold ranA
  rw [List.getD_eq_getElem?_getD, List.getElem?_map, List.getElem?_range hn]
  rfl
theorem sum_less {f : Nat → Int} : ∀ xs : List Nat, xs.Nodup → (xs.map fun j => f j - if j = k then 1 else 0).sum = (xs.map f).sum - if k ∈ xs then 1 else 0
  | [], _ => by simp
  | a :: xs, h => by
    obtain ⟨h1, h2⟩ := List.nodup_cons.mp h
    have ih := sum_less (f := f) xs h2
    simp only [List.map_cons, List.sum_cons, List.mem_cons]
    rw [ih]
    by_cases e : a = k
    · subst e
      simp [h1]
      omega
    · have e2 : ¬ k = a := fun z => e z.symm
      simp [e, e2]
      split <;> omega
theorem ran_work (hk : k < ts.length) (hl : l.length = ts.length) : workN ts (ranL l k) (node : Int) = workN ts l (node : Int) - if isAt ts (node : Int) k = true then 1 else 0 := by
  unfold workN
  have e1 : ((atN ts (node : Int)).map fun j => (ranL l k).getD j 0) = (atN ts (node : Int)).map fun j => l.getD j 0 - if j = k then 1 else 0 := List.map_congr_left fun j _ => ranL_get (by omega) j
  have nd : (atN ts (node : Int)).Nodup := List.nodup_range.filter _
  rw [e1, sum_less _ nd]
  have e2 : (k ∈ atN ts (node : Int)) = (isAt ts (node : Int) k = true) := by
    unfold atN
    rw [List.mem_filter, List.mem_range]
    exact propext ⟨fun h => h.2, fun h => ⟨hk, h⟩⟩
  simp only [e2]
theorem ran_slk (g : Good n ts l la) (hk : k < ts.length) (hn : node < n) (j : Nat) : slk ts (ranL l k) (ranA ts la k) node j = if isAt ts (node : Int) k = true then (if j = k then workN ts l (node : Int) + 1 - 2 * l.getD k 0 else workN ts l (node : Int) - 2 * l.getD j 0) else slk ts l la node j + if j = k then 2 else 0 := by
  have hl := g.hl
  have hla := g.hla
  unfold slk isLast
  rw [ran_work hk hl, ranL_get (by omega), ranA_get (by omega)]
  by_cases ha : isAt ts (node : Int) k = true
  · rw [if_pos ha, if_pos ha, if_pos ha]
    by_cases hj : j = k
    · subst hj
      simp
      omega
    · have h2 : ¬ some (k : Int) = some (j : Int) := fun z => hj (by have := Option.some.inj z; omega)
      rw [if_neg h2, if_neg hj, if_neg hj]
      omega
  · rw [if_neg ha, if_neg ha, if_neg ha]
    split <;> split <;> omega
end

end K05
end
section
set_option Elab.async false
set_option linter.all false
set_option maxRecDepth 100000
set_option exponentiation.threshold 500
namespace K05
open PySem PySem.Spec L2 Me
open PyProof.Rows hiding St
section
variable {S : List Cel} {P : D → List Cel → Prop}
/-! ### mixed -/
theorem ok_eqC0 {α : Type} {f : α → D} {g : α → PyData} (hf : ∀ (c : Nat → Option (List PyData)) (a : α), pyD c (f a) = some (g a)) (lay : ∀ a, (g a).canLay0 = true) (dep : ∀ a, (g a).depth ≤ 20) {neg : Bool} {j : Nat} {xs : List α} (h : S[j]? = some (.lst (xs.map f))) :
    Ok (pEqA neg (.cell j) (.lst []) S) P = P (.bl (if neg = true then !decide (xs = []) else decide (xs = []))) S := by
  have e1 : toPy S (.cell j) = some (.list (xs.map g)) := by
    have e : cellPy 3 S j = some (xs.map g) := by
      show (match S[j]? with
        | some (.lst xs) => pyL (cellPy 2 S) xs
        | _ => none) = _
      rw [h]
      exact py_map (c := cellPy 2 S) (f := f) (g := g) (fun a => hf _ a) xs
    show (cellPy 3 S j).map PyData.list = _
    rw [e]
    rfl
  have e2 : toPy S (.lst []) = some (.list []) := rfl
  have sh : SeqAt.shaped (.list (xs.map g)) = true := shaped_list (n := 20) lay dep (by omega) xs
  have s2 : SeqAt.shaped (.list []) = true := rfl
  have e3 : PyData.eqv (.list (xs.map g)) (.list []) = decide (xs = []) := by
    cases xs <;> simp [PyData.eqv, PyData.eqvAll]
  unfold pEqA orR pEqT pEq
  simp only [e1, e2, sh, s2, Bool.and_true, if_true, e3]
  rfl
theorem erase_map {α β : Type} (f : α → β) : ∀ (l : List α) (i : Nat), (l.map f).eraseIdx i = (l.eraseIdx i).map f
  | [], _ => rfl
  | _ :: _, 0 => rfl
  | a :: l, i + 1 => by
    rw [List.map_cons, List.eraseIdx_cons_succ, List.eraseIdx_cons_succ, List.map_cons, erase_map f l i]
theorem pick_perm {α : Type} : ∀ (l : List α) (i : Nat) (h : i < l.length), (l[i] :: l.eraseIdx i).Perm l
  | [], i, h => by simp at h
  | a :: l, 0, _ => List.Perm.refl _
  | a :: l, i + 1, h => by
    have hi : i < l.length := by simpa using h
    have ih := pick_perm l i hi
    rw [List.getElem_cons_succ, List.eraseIdx_cons_succ]
    exact (List.Perm.swap a l[i] _).trans (ih.cons a)
theorem mixed_call {α : Type} (f : α → D) (g : α → PyData) (hf : ∀ (c : Nat → Option (List PyData)) (a : α), pyD c (f a) = some (g a)) (lay : ∀ a, (g a).canLay0 = true) (dep : ∀ a, (g a).depth ≤ 20) (cf : ∀ a, (f a).cf = true) {xs : List α} (hl : xs.length ≤ 400) {m k : Nat} {C : Cel} (hS : S[k]? = some C) (hB : Bx m C) (hm : m ≤ 900000)
    (hp : ∀ (ys : List α) (C' : Cel), ys.Perm xs → Bx (m + 400) C' → P (.lst (ys.map f)) (S.set k C')) : Ok (callB F_u_law_mixed [.cell k, .lst (xs.map f)] S) P := by
  have cfx : ∀ ys : List α, D.cfL (ys.map f) = true := fun ys => cfL_of fun d hd => by
    obtain ⟨a, _, rfl⟩ := List.mem_map.mp hd
    exact cf a
  refine ok_callB (Q := fun d C' => ∃ ys : List α, d = .lst (ys.map f) ∧ ys.Perm xs ∧ Bx (m + 400) C') hS ?_ (by simp only [D.cfL, D.cf, cfx, hB.cf, Bool.and_true]) fun d C' ⟨ys, e, h1, h2⟩ => by rw [e]; exact hp ys C' h1 h2
  unfold F_u_law_mixed
  rw [ok_runE]
  have e0 : stD N_u_law_mixed [.cell 0, .lst (xs.map f)] = [some (.cell 0), some (.lst (xs.map f)), none, none] := rfl
  rw [e0]
  unfold B_u_law_mixed
  have lC : ∀ (ys : List D) (S : List Cel) (P : D → List Cel → Prop), Ok (pListC (.lst ys) S) P = P (.cell S.length) (S ++ [.lst ys]) := fun _ _ _ => rfl
  rw [oks_seq, oks_par]
  simp only [ok_acons, ok_anil, ok_fn, ok_f1, ok_var, get1, lC, ok_cel, List.length_cons, List.length_nil, List.cons_append, List.nil_append]
  refine ⟨Nat.zero_le _, (by first | rfl | trivial), ?_⟩
  simp only [Me.putAll, wipeD, List.set_cons_succ, List.set_cons_zero, get0, get1, get2, get3, g4, g5, g6, g7, g8, g9, g10, g11, g12, g13, g14, g15, Nat.zero_add, Nat.reduceAdd]
  rw [oks_seq]
  refine oks_wh (fun j r S' => r = [some (.cell 0), some (.lst (xs.map f)), some (.cell 1), some (.cell 2)] ∧ ∃ (left found : List α) (C' : Cel), S' = [C', .lst (left.map f), .lst (found.map f)] ∧ left.length = j ∧ (found ++ left).Perm xs ∧ Bx (m + (xs.length - j)) C') (k := xs.length) (by omega) ⟨rfl, xs, [], C, rfl, rfl, List.Perm.refl _, by rw [Nat.sub_self]; exact hB⟩ fun j r S' hI => ?_
  obtain ⟨rfl, left, found, C', rfl, rfl, hperm, hb⟩ := hI
  have hle : left.length ≤ xs.length := by
    have := hperm.length_eq
    rw [List.length_append] at this
    omega
  have hfl : found.length ≤ xs.length := by
    have := hperm.length_eq
    rw [List.length_append] at this
    omega
  simp only [ok_tob, ok_bin, ok_var, get2, ok_lst, ok_anil, List.length_nil]
  refine ⟨Nat.zero_le _, ?_⟩
  rw [ok_eqC0 hf lay dep (xs := left) rfl]
  simp only [if_true]
  cases hz : left with
  | nil =>
    rw [hz] at hperm
    simp only [decide_true, Bool.not_true, Bool.false_eq_true, if_false, List.map_nil]
    rw [oks_frz, get3]
    simp only [get2, wipeD, List.set_cons_succ, List.set_cons_zero, get0, get1, get2, get3, g4, g5, g6, g7, g8, g9, g10, g11, g12, g13, g14, g15, oks_ret, ok_var, get3]
    refine ⟨C', _, rfl, by simp only [D.cf, cfx, hb.cf, Bool.and_self], found, rfl, by simpa using hperm, hb.mono (by omega)⟩
  | cons a rest =>
    simp only [reduceCtorEq, decide_false, Bool.not_false, if_true]
    rw [← hz]
    refine ⟨rest.length, by rw [hz]; rfl, ?_⟩
    have hpos : 0 < left.length := by rw [hz]; simp
    have hrl : rest.length + 1 = left.length := by rw [hz]; rfl
    rw [oks_drop, ok_mut]
    simp only [ok_var, get3, get2, ok_acons, ok_mut, get1, ok_call, ok_fn, ok_f1, ok_anil, get0, ok_lenC, List.length_map, posn]
    refine ⟨rfl, take_ok (k := 0) rfl hb (by omega) (by omega) (by omega) fun i hi C2 hb2 => ?_⟩
    have hi2 : i < left.length := by omega
    have e1 : fPop (left.map f) [.int (i : Int)] = some (f left[i], (left.eraseIdx i).map f) := by
      unfold fPop
      simp only
      rw [if_pos (show SmallJ (i : Int) from ⟨by omega, by omega⟩)]
      simp only [Int.toNat_natCast, List.getElem?_map, List.getElem?_eq_getElem hi2, Option.map_some, erase_map]
    have len1 : (found.map f).length < sizeLine := by rw [List.length_map, sz]; omega
    simp only [wipeD, List.set_cons_succ, List.set_cons_zero, get0, get1, get2, get3, g4, g5, g6, g7, g8, g9, g10, g11, g12, g13, g14, g15, e1, fApp, if_pos len1]
    refine ⟨trivial, left.eraseIdx i, found ++ [left[i]], C2, ?_, ?_, ?_, hb2.mono (by omega)⟩
    · rw [List.map_append]; rfl
    · rw [List.length_eraseIdx_of_lt hi2]; omega
    · rw [List.append_assoc]
      exact ((pick_perm left i hi2).append_left found).trans hperm
/-! ### pairs of nodes -/
def Pn (n : Int) (p : List Int) : Prop := (∃ a, p = [a] ∧ 0 ≤ a ∧ a < n) ∨ ∃ a b, p = [a, b] ∧ 0 ≤ a ∧ a < n ∧ 0 ≤ b ∧ b < n ∧ a ≠ b
def prD (p : List Int) : D := .lst (p.map D.int)
def prP (p : List Int) : PyData := .list (p.map PyData.int)
theorem prD_cf (p : List Int) : (prD p).cf = true := by simp only [prD, D.cf, ints_cf]
theorem prs_cf (ps : List (List Int)) : D.cfL (ps.map prD) = true := cfL_of fun d hd => by
  obtain ⟨p, _, rfl⟩ := List.mem_map.mp hd
  exact prD_cf p
theorem other_ne {n : Nat} {a t : Int} (hn : 2 ≤ n) (h0 : 0 ≤ a) (h1 : a < n) (t0 : 0 ≤ t) (t1 : t < (n : Int) - 1) : 0 ≤ (a + 1 + t) % (n : Int) ∧ (a + 1 + t) % (n : Int) < n ∧ a ≠ (a + 1 + t) % (n : Int) := by
  have g0 := Int.emod_nonneg (a + 1 + t) (show (n : Int) ≠ 0 by omega)
  have g1 := Int.emod_lt_of_pos (a + 1 + t) (show (0 : Int) < (n : Int) by omega)
  refine ⟨g0, g1, ?_⟩
  by_cases h : a + 1 + t < n
  · rw [Int.emod_eq_of_lt (by omega) h]
    omega
  · have e : (a + 1 + t) % (n : Int) = (a + 1 + t - n) % (n : Int) := by
      have := Int.add_emod_right (a + 1 + t - n) (n : Int)
      rw [Int.sub_add_cancel] at this
      exact this
    rw [e, Int.emod_eq_of_lt (by omega) (by omega)]
    omega
theorem pairs_call {n : Nat} {wy : Int} {m : Nat} {C : Cel} (hn1 : 1 ≤ n) (hn : n ≤ 6) (hB : Bx m C) (hm : m ≤ 900000)
    (hp : ∀ (ps : List (List Int)) (C' : Cel), ps.length ≤ 20 → (∀ p ∈ ps, Pn n p) → Bx (m + 100) C' → P (.cell 1) [C', .lst (ps.map prD)]) : Ok (callT F_u_law_pairs [.cell 0, .int (n : Int), .int wy] [C]) P := by
  unfold callT F_u_law_pairs
  rw [ok_runE]
  have e0 : stD N_u_law_pairs [.cell 0, .int (n : Int), .int wy] = [some (.cell 0), some (.int (n : Int)), some (.int wy), none, none, none, none, none] := rfl
  rw [e0]
  unfold B_u_law_pairs
  rw [oks_seq, oks_if]
  simp only [ok_var, ok_c, ok_bin, ok_acons, ok_anil, ok_fn, ok_f1, ok_f2, ok_call, ok_meth, ok_tob, ok_tup, ok_lst, ok_bnot, ok_band, ok_bor, posn, wipeD, List.set_cons_succ, List.set_cons_zero, get0, get1, get2, get3, g4, g5, g6, g7, g8, g9, g10, g11, g12, g13, g14, g15, ok_eqI, Bool.false_eq_true, if_false, decide_eq_true_eq]
  by_cases h1 : (n : Int) = 1
  · rw [if_pos h1, oks_ret]
    refine ok_lc (fun s i acc S' => ∃ C', S' = [C'] ∧ s.ds.length ≤ 3 ∧ Bx (m + 1) C' ∧ acc = (List.replicate i [(0 : Int)]).map prD) ?_
    simp only [ok_irng, ok_var, ok_c, ok_bin, ok_acons, ok_anil, ok_fn, ok_f1, ok_f2, ok_call, ok_meth, ok_tob, ok_tup, ok_lst, ok_bnot, ok_band, ok_bor, posn, wipeD, List.set_cons_succ, List.set_cons_zero, get0, get1, get2, get3, g4, g5, g6, g7, g8, g9, g10, g11, g12, g13, g14, g15]
    refine ⟨rfl, take_ok (k := 0) rfl hB (by omega) (by omega) (by omega) fun j hj C1 hb1 => ?_⟩
    rw [ok_addI]
    obtain ⟨z, ez, hz⟩ : ∃ z : Nat, (1 : Int) + (j : Int) = (z : Int) ∧ z ≤ 3 := ⟨1 + j, by omega, by omega⟩
    simp only [ez, Int.toNat_natCast]
    refine ⟨small_nat (by omega), trivial, ⟨C1, rfl, by rw [rngL_len]; omega, hb1, rfl⟩, fun i d acc S' hd _ hI => ?_, fun acc S' _ hI => ?_⟩
    · obtain ⟨C', rfl, hq, hb, rfl⟩ := hI
      refine ⟨_, rfl, ?_⟩
      rw [ok_yes]
      simp only [if_true, ok_var, ok_c, ok_bin, ok_acons, ok_anil, ok_fn, ok_f1, ok_f2, ok_call, ok_meth, ok_tob, ok_tup, ok_lst, ok_bnot, ok_band, ok_bor, posn, wipeD, List.set_cons_succ, List.set_cons_zero, get0, get1, get2, get3, g4, g5, g6, g7, g8, g9, g10, g11, g12, g13, g14, g15]
      refine ⟨by rw [sz]; simp, trivial, ?_, C', rfl, hq, hb, ?_⟩
      · have := (List.getElem?_eq_some_iff.mp hd).1
        rw [List.length_map, List.length_replicate, sz]
        have h3 := hq
        omega
      · rw [List.replicate_succ', List.map_append]
        rfl
    · obtain ⟨C', rfl, hq, hb, rfl⟩ := hI
      rw [ok_asCel]
      refine hp _ C' (by rw [List.length_replicate]; omega) (fun p hpm => ?_) (hb.mono (by omega))
      rw [List.eq_of_mem_replicate hpm]
      exact Or.inl ⟨0, rfl, by omega, by omega⟩
  rw [if_neg h1, oks_nx, oks_seq, oks_if]
  have hn2 : 2 ≤ n := by omega
  simp only [ok_var, ok_c, ok_bin, ok_acons, ok_anil, ok_fn, ok_f1, ok_f2, ok_call, ok_meth, ok_tob, ok_tup, ok_lst, ok_bnot, ok_band, ok_bor, posn, wipeD, List.set_cons_succ, List.set_cons_zero, get0, get1, get2, get3, g4, g5, g6, g7, g8, g9, g10, g11, g12, g13, g14, g15, ok_eqI, Bool.false_eq_true, if_false, decide_eq_true_eq]
  by_cases hw0 : wy = 0
  · rw [if_pos hw0, oks_ret]
    refine ok_lcA (S := [C]) (List.range n) (fun i : Nat => .int (i : Int)) (fun _ => true) (fun i : Nat => prD [(i : Int), ((i : Int) + 1) % (n : Int)]) ?_
    simp only [ok_irng, ok_var, ok_c, ok_bin, ok_acons, ok_anil, ok_fn, ok_f1, ok_f2, ok_call, ok_meth, ok_tob, ok_tup, ok_lst, ok_bnot, ok_band, ok_bor, posn, wipeD, List.set_cons_succ, List.set_cons_zero, get0, get1, get2, get3, g4, g5, g6, g7, g8, g9, g10, g11, g12, g13, g14, g15, Int.toNat_natCast]
    refine ⟨small_nat (by omega), (by first | rfl | trivial), (by first | rfl | trivial), rngL_eq _, by rw [List.length_range]; omega, fun i hi => ⟨_, rfl, ?_⟩, ?_⟩
    · rw [ok_yes]
      refine ⟨rfl, rfl, fun _ => ?_⟩
      simp only [gN, ok_var, ok_c, ok_bin, ok_acons, ok_anil, ok_fn, ok_f1, ok_f2, ok_call, ok_meth, ok_tob, ok_tup, ok_lst, ok_bnot, ok_band, ok_bor, posn, wipeD, List.set_cons_succ, List.set_cons_zero, get0, get1, get2, get3, g4, g5, g6, g7, g8, g9, g10, g11, g12, g13, g14, g15, ok_addI, ok_modI (show (0 : Int) < (n : Int) by omega)]
      exact ⟨by rw [sz]; simp, (by first | rfl | trivial), (by first | rfl | trivial)⟩
    rw [filt_true, ok_asCel]
    have e1 : (List.range n).map (fun i : Nat => prD [(i : Int), ((i : Int) + 1) % (n : Int)]) = ((List.range n).map fun i : Nat => [(i : Int), ((i : Int) + 1) % (n : Int)]).map prD := by rw [List.map_map]; rfl
    rw [e1]
    refine hp _ C (by rw [List.length_map, List.length_range]; omega) (fun p hpm => ?_) (hB.mono (by omega))
    obtain ⟨i, hi, rfl⟩ := List.mem_map.mp hpm
    have hi2 := List.mem_range.mp hi
    have ho := other_ne (n := n) (a := (i : Int)) (t := 0) hn2 (by omega) (by omega) (by omega) (by omega)
    rw [Int.add_zero] at ho
    exact Or.inr ⟨_, _, rfl, by omega, by omega, ho.1, ho.2.1, ho.2.2⟩
  rw [if_neg hw0, oks_nx, oks_seq, oks_if]
  simp only [ok_var, ok_c, ok_bin, ok_acons, ok_anil, ok_fn, ok_f1, ok_f2, ok_call, ok_meth, ok_tob, ok_tup, ok_lst, ok_bnot, ok_band, ok_bor, posn, wipeD, List.set_cons_succ, List.set_cons_zero, get0, get1, get2, get3, g4, g5, g6, g7, g8, g9, g10, g11, g12, g13, g14, g15, ok_eqI, Bool.false_eq_true, if_false, decide_eq_true_eq]
  by_cases hw1 : wy = 1
  · rw [if_pos hw1, oks_ret]
    refine ok_lc (fun s i acc S' => s = ⟨rngL 1 (n - 1), none⟩ ∧ ∃ (ps : List (List Int)) (C' : Cel), S' = [C'] ∧ Bx (m + i) C' ∧ acc = ps.map prD ∧ ps.length = i ∧ ∀ p ∈ ps, Pn n p) ?_
    simp only [ok_irng2, ok_var, ok_c, ok_bin, ok_acons, ok_anil, ok_fn, ok_f1, ok_f2, ok_call, ok_meth, ok_tob, ok_tup, ok_lst, ok_bnot, ok_band, ok_bor, posn, wipeD, List.set_cons_succ, List.set_cons_zero, get0, get1, get2, get3, g4, g5, g6, g7, g8, g9, g10, g11, g12, g13, g14, g15, two_ints]
    rw [show ((n : Int) - 1).toNat = n - 1 by omega]
    refine ⟨⟨small_int (by omega) (by omega), small_nat (by omega)⟩, trivial, ⟨(by first | rfl | trivial), [], C, rfl, hB, rfl, rfl, fun p h => by simp at h⟩, fun i d acc S' hd _ hI => ?_, fun acc S' _ hI => ?_⟩
    · obtain ⟨es, ps, C', rfl, hb, rfl, hpl, hps⟩ := hI
      obtain ⟨hi, rfl⟩ := rngL_get hd
      refine ⟨_, rfl, ?_⟩
      rw [ok_yes]
      simp only [if_true, gN, ok_var, ok_c, ok_bin, ok_acons, ok_anil, ok_fn, ok_f1, ok_f2, ok_call, ok_meth, ok_tob, ok_tup, ok_lst, ok_bnot, ok_band, ok_bor, posn, wipeD, List.set_cons_succ, List.set_cons_zero, get0, get1, get2, get3, g4, g5, g6, g7, g8, g9, g10, g11, g12, g13, g14, g15]
      refine ⟨rfl, take_ok (k := 0) rfl hb (by omega) (by omega) (by omega) fun j hj C2 hb2 => ?_⟩
      refine ⟨by rw [sz]; simp, trivial, by rw [List.length_map, sz]; omega, (by first | rfl | trivial), ps ++ [[(1 : Int) + (i : Int), (j : Int)]], C2, rfl, hb2.mono (by omega), by rw [List.map_append]; rfl, by simp [hpl], fun p hpm => ?_⟩
      rcases List.mem_append.mp hpm with h | h
      · exact hps p h
      · simp at h
        subst h
        exact Or.inr ⟨_, _, rfl, by omega, by omega, by omega, by omega, by omega⟩
    · obtain ⟨es, ps, C', rfl, hb, rfl, hpl, hps⟩ := hI
      rw [rngL_len] at hpl hb
      rw [ok_asCel]
      exact hp ps C' (by omega) hps (hb.mono (by omega))
  rw [if_neg hw1, oks_nx, oks_seq, oks_if]
  simp only [ok_var, ok_c, ok_bin, ok_acons, ok_anil, ok_fn, ok_f1, ok_f2, ok_call, ok_meth, ok_tob, ok_tup, ok_lst, ok_bnot, ok_band, ok_bor, posn, wipeD, List.set_cons_succ, List.set_cons_zero, get0, get1, get2, get3, g4, g5, g6, g7, g8, g9, g10, g11, g12, g13, g14, g15, ok_eqI, Bool.false_eq_true, if_false, decide_eq_true_eq]
  by_cases hw2 : wy = 2
  · rw [if_pos hw2, oks_ret]
    refine ok_lcA (S := [C]) (List.range (n - 1)) (fun i : Nat => .int ((1 : Int) + (i : Int))) (fun _ => true) (fun i : Nat => prD [(i : Int), (1 : Int) + (i : Int)]) ?_
    simp only [ok_irng2, ok_var, ok_c, ok_bin, ok_acons, ok_anil, ok_fn, ok_f1, ok_f2, ok_call, ok_meth, ok_tob, ok_tup, ok_lst, ok_bnot, ok_band, ok_bor, posn, wipeD, List.set_cons_succ, List.set_cons_zero, get0, get1, get2, get3, g4, g5, g6, g7, g8, g9, g10, g11, g12, g13, g14, g15, two_ints]
    rw [show ((n : Int) - 1).toNat = n - 1 by omega]
    refine ⟨⟨small_int (by omega) (by omega), small_nat (by omega)⟩, (by first | rfl | trivial), (by first | rfl | trivial), rfl, by rw [List.length_range]; omega, fun i hi => ⟨_, rfl, ?_⟩, ?_⟩
    · rw [ok_yes]
      refine ⟨rfl, rfl, fun _ => ?_⟩
      simp only [gN, ok_var, ok_c, ok_bin, ok_acons, ok_anil, ok_fn, ok_f1, ok_f2, ok_call, ok_meth, ok_tob, ok_tup, ok_lst, ok_bnot, ok_band, ok_bor, posn, wipeD, List.set_cons_succ, List.set_cons_zero, get0, get1, get2, get3, g4, g5, g6, g7, g8, g9, g10, g11, g12, g13, g14, g15, ok_subI]
      rw [show (1 : Int) + (i : Int) - 1 = (i : Int) by omega]
      exact ⟨by rw [sz]; simp, (by first | rfl | trivial), (by first | rfl | trivial)⟩
    rw [filt_true, ok_asCel]
    have e1 : (List.range (n - 1)).map (fun i : Nat => prD [(i : Int), (1 : Int) + (i : Int)]) = ((List.range (n - 1)).map fun i : Nat => [(i : Int), (1 : Int) + (i : Int)]).map prD := by rw [List.map_map]; rfl
    rw [e1]
    refine hp _ C (by rw [List.length_map, List.length_range]; omega) (fun p hpm => ?_) (hB.mono (by omega))
    obtain ⟨i, hi, rfl⟩ := List.mem_map.mp hpm
    have hi2 := List.mem_range.mp hi
    exact Or.inr ⟨_, _, rfl, by omega, by omega, by omega, by omega, by omega⟩
  rw [if_neg hw2, oks_nx, oks_seq, oks_set, ok_cel]
  simp only [ok_anil, List.length_nil, List.length_cons, List.cons_append, List.nil_append, wipeD, List.set_cons_succ, List.set_cons_zero, get0, get1, get2, get3, g4, g5, g6, g7, g8, g9, g10, g11, g12, g13, g14, g15]
  refine ⟨Nat.zero_le _, ?_⟩
  rw [oks_seq]
  refine oks_for (fun s i r S' => (∃ o4 o5 o6, r = [some (.cell 0), some (.int (n : Int)), some (.int wy), some (.cell 1), o4, o5, o6, none]) ∧ s.ds.length ≤ 12 ∧ ∃ (ps : List (List Int)) (C' : Cel), S' = [C', .lst (ps.map prD)] ∧ Bx (m + 1 + 3 * i) C' ∧ ps.length = i ∧ ∀ p ∈ ps, Pn n p) ?_
  have p1 : CMulW 2 (n : Int) := mulW (by omega) (by omega)
  simp only [ok_irng, ok_var, ok_c, ok_bin, ok_acons, ok_anil, ok_fn, ok_f1, ok_f2, ok_call, ok_meth, ok_tob, ok_tup, ok_lst, ok_bnot, ok_band, ok_bor, posn, wipeD, List.set_cons_succ, List.set_cons_zero, get0, get1, get2, get3, g4, g5, g6, g7, g8, g9, g10, g11, g12, g13, g14, g15, ok_mulI p1]
  refine ⟨rfl, take_ok (k := 0) rfl hB (by omega) (by omega) (by omega) fun j hj C1 hb1 => ?_⟩
  rw [ok_addI]
  obtain ⟨z, ez, hz⟩ : ∃ z : Nat, (1 : Int) + (j : Int) = (z : Int) ∧ z ≤ 12 := ⟨1 + j, by omega, by omega⟩
  simp only [ez, Int.toNat_natCast, List.set_cons_zero]
  refine ⟨small_nat (by omega), trivial, ⟨⟨_, _, _, rfl⟩, by rw [rngL_len]; omega, [], C1, rfl, hb1, rfl, fun p h => by simp at h⟩, fun i d r S' hd _ hI => ?_, fun r S' _ hI => ?_⟩
  · obtain ⟨⟨o4, o5, o6, rfl⟩, hq, ps, C', rfl, hb, hpl, hps⟩ := hI
    have hi := (List.getElem?_eq_some_iff.mp hd).1
    have hi12 : i < 12 := Nat.lt_of_lt_of_le hi hq
    refine ⟨_, rfl, ?_⟩
    simp only [gN, wipeD, List.set_cons_succ, List.set_cons_zero, get0, get1, get2, get3, g4, g5, g6, g7, g8, g9, g10, g11, g12, g13, g14, g15]
    rw [oks_seq, oks_set]
    simp only [ok_var, ok_c, ok_bin, ok_acons, ok_anil, ok_fn, ok_f1, ok_f2, ok_call, ok_meth, ok_tob, ok_tup, ok_lst, ok_bnot, ok_band, ok_bor, posn, wipeD, List.set_cons_succ, List.set_cons_zero, get0, get1, get2, get3, g4, g5, g6, g7, g8, g9, g10, g11, g12, g13, g14, g15]
    refine ⟨rfl, take_ok (k := 0) rfl hb (by omega) (by omega) (by omega) fun a ha C2 hb2 => ?_⟩
    simp only [wipeD, List.set_cons_succ, List.set_cons_zero, get0, get1, get2, get3, g4, g5, g6, g7, g8, g9, g10, g11, g12, g13, g14, g15]
    rw [oks_seq, oks_set]
    simp only [ok_var, ok_c, ok_bin, ok_acons, ok_anil, ok_fn, ok_f1, ok_f2, ok_call, ok_meth, ok_tob, ok_tup, ok_lst, ok_bnot, ok_band, ok_bor, posn, wipeD, List.set_cons_succ, List.set_cons_zero, get0, get1, get2, get3, g4, g5, g6, g7, g8, g9, g10, g11, g12, g13, g14, g15, ok_addI, ok_subI]
    refine ⟨rfl, take_ok (k := 0) rfl hb2 (by omega) (by omega) (by omega) fun t ht C3 hb3 => ?_⟩
    simp only [ok_addI, ok_modI (show (0 : Int) < (n : Int) by omega), wipeD, List.set_cons_succ, List.set_cons_zero, get0, get1, get2, get3, g4, g5, g6, g7, g8, g9, g10, g11, g12, g13, g14, g15]
    have ho := other_ne (n := n) (a := (a : Int)) (t := (t : Int)) hn2 (by omega) ha (by omega) (by omega)
    generalize ((a : Int) + 1 + (t : Int)) % (n : Int) = b at ho
    rw [oks_drop, ok_mut]
    simp only [ok_var, get3, get1, ok_acons, ok_if, ok_var, ok_c, ok_bin, ok_acons, ok_anil, ok_fn, ok_f1, ok_f2, ok_call, ok_meth, ok_tob, ok_tup, ok_lst, ok_bnot, ok_band, ok_bor, posn, wipeD, List.set_cons_succ, List.set_cons_zero, get0, get1, get2, get3, g4, g5, g6, g7, g8, g9, g10, g11, g12, g13, g14, g15]
    refine ⟨rfl, take_ok (k := 0) rfl hb3 (by omega) (by omega) (by omega) fun u hu C4 hb4 => ?_⟩
    have len1 : (ps.map prD).length < sizeLine := by rw [List.length_map, sz]; omega
    simp only [ok_eqI, Bool.false_eq_true, if_false, decide_eq_true_eq, wipeD, List.set_cons_succ, List.set_cons_zero, get0, get1, get2, get3, g4, g5, g6, g7, g8, g9, g10, g11, g12, g13, g14, g15]
    by_cases hu0 : (u : Int) = 0
    · rw [if_pos hu0]
      refine ⟨by rw [sz]; simp, ?_⟩
      simp only [ok_anil, get1, fApp, if_pos len1, wipeD, List.set_cons_succ, List.set_cons_zero, get0, get1, get2, get3, g4, g5, g6, g7, g8, g9, g10, g11, g12, g13, g14, g15]
      refine ⟨trivial, ⟨_, _, _, rfl⟩, hq, ps ++ [[(a : Int)]], C4, by rw [List.map_append]; rfl, hb4.mono (by omega), by simp [hpl], fun p hpm => ?_⟩
      rcases List.mem_append.mp hpm with h | h
      · exact hps p h
      · simp at h
        subst h
        exact Or.inl ⟨_, rfl, by omega, ha⟩
    · rw [if_neg hu0]
      refine ⟨by rw [sz]; simp, ?_⟩
      simp only [ok_anil, get1, fApp, if_pos len1, wipeD, List.set_cons_succ, List.set_cons_zero, get0, get1, get2, get3, g4, g5, g6, g7, g8, g9, g10, g11, g12, g13, g14, g15]
      refine ⟨trivial, ⟨_, _, _, rfl⟩, hq, ps ++ [[(a : Int), b]], C4, by rw [List.map_append]; rfl, hb4.mono (by omega), by simp [hpl], fun p hpm => ?_⟩
      rcases List.mem_append.mp hpm with h | h
      · exact hps p h
      · simp at h
        subst h
        exact Or.inr ⟨_, _, rfl, by omega, ha, ho.1, ho.2.1, ho.2.2⟩
  · obtain ⟨⟨o4, o5, o6, rfl⟩, hq, ps, C', rfl, hb, hpl, hps⟩ := hI
    rw [oks_ret, ok_var, get3]
    exact hp ps C' (by omega) hps (hb.mono (by omega))
end

end K05
end
section
set_option Elab.async false
set_option linter.all false
set_option maxRecDepth 100000
set_option exponentiation.threshold 500
namespace K05
open PySem PySem.Spec L2 Me
open PyProof.Rows hiding St
section
variable {S : List Cel} {P : D → List Cel → Prop}
/-! ### worlds that are drawn -/
theorem prD_py (c : Nat → Option (List PyData)) (p : List Int) : pyD c (prD p) = some (prP p) := by
  have := py_map (c := c) (f := D.int) (g := PyData.int) (fun _ => rfl) p
  simp only [prD, pyD, this, Option.map_some]
  rfl
theorem lay_ints (p : List Int) : PyData.canLayAll0 (p.map PyData.int) = true := by
  induction p with
  | nil => rfl
  | cons a p ih => simp [PyData.canLayAll0, PyData.canLay0, ih]
theorem prP_lay (p : List Int) : (prP p).canLay0 = true := by
  unfold prP
  simp only [PyData.canLay0, lay_ints]
theorem dep_ints (p : List Int) : PyData.depthAll (p.map PyData.int) ≤ 1 := by
  induction p with
  | nil => simp [PyData.depthAll]
  | cons a p ih =>
    rw [List.map_cons, PyData.depthAll]
    have : PyData.depth (.int a) ≤ 1 := by simp [PyData.depth]
    omega
theorem prP_dep (p : List Int) : (prP p).depth ≤ 20 := by
  unfold prP
  have := dep_ints p
  simp only [PyData.depth]
  omega
theorem natD_py (c : Nat → Option (List PyData)) (k : Nat) : pyD c (.int (k : Int)) = some (natP k) := rfl
/-- names: each node once -/
structure Nm (n : Nat) (ys : List Nat) : Prop where
  perm : ys.Perm (List.range n)
theorem Nm.len {n : Nat} {ys : List Nat} (h : Nm n ys) : ys.length = n := by rw [h.perm.length_eq, List.length_range]
theorem Nm.get {n : Nat} {ys : List Nat} (h : Nm n ys) {a : Int} (h0 : 0 ≤ a) (h1 : a < n) : ∃ y : Nat, y < n ∧ ys[a.toNat]? = some y := by
  have hl := h.len
  have hi : a.toNat < ys.length := by omega
  exact ⟨ys[a.toNat], List.mem_range.mp (h.perm.mem_iff.mp (List.getElem_mem hi)), List.getElem?_eq_getElem hi⟩
theorem Nm.inj {n : Nat} {ys : List Nat} (h : Nm n ys) {a b : Int} {y : Nat} (h0 : 0 ≤ a) (h1 : 0 ≤ b) (e1 : ys[a.toNat]? = some y) (e2 : ys[b.toNat]? = some y) : a = b := by
  have nd : ys.Nodup := h.perm.nodup_iff.mpr List.nodup_range
  obtain ⟨i1, j1⟩ := List.getElem?_eq_some_iff.mp e1
  obtain ⟨i2, j2⟩ := List.getElem?_eq_some_iff.mp e2
  have := (List.getElem_inj nd).mp (j1.trans j2.symm)
  omega
/-- the named ends of a pair, sorted -/
theorem named_call {n : Nat} {ys : List Nat} {p : List Int} (hN : Nm n ys) (hp : Pn (n : Int) p) {r : Rho} {x v : Nat} {vs : List Nat} (hx : r[x]? = some (some (prD p))) (hgn : ∀ a : D, ((wipeD r [v]).set v (some a))[v]? = some (some a)) {nm : Nat} (hnm : ∀ a : D, ((wipeD r [v]).set v (some a))[nm]? = some (some (.lst (nats ys))))
    (h : ∀ nd : List Int, 1 ≤ nd.length → nd.length ≤ 2 → (∀ bs : List Bool, bs.length = nd.length → Vt n (nd.zip bs)) → P (.lst (nd.map D.int)) S) :
    Ok (eFn (f1 pSort) (aCons (eLc asLst (iSeq (eVar x)) [v] (gN v) bYes (eBin pIx (eVar nm) (eVar v))) aNil) r S) P := by
  have hl : p.length ≤ 2 := by rcases hp with ⟨a, rfl, _⟩ | ⟨a, b, rfl, _⟩ <;> simp
  have hm : ∀ a ∈ p, 0 ≤ a ∧ a < (n : Int) := fun a ha => by
    rcases hp with ⟨b, rfl, h1, h2⟩ | ⟨b, c, rfl, h1, h2, h3, h4, _⟩
    · simp at ha; subst ha; exact ⟨h1, h2⟩
    · simp at ha
      rcases ha with rfl | rfl
      · exact ⟨h1, h2⟩
      · exact ⟨h3, h4⟩
  rw [ok_fn, ok_acons]
  refine ok_lcA p D.int (fun _ => true) (fun a => .int ((ys.getD a.toNat 0 : Nat) : Int)) ?_
  simp only [ok_iseq, ok_var, hx, prD]
  refine ⟨(by first | rfl | trivial), (by first | rfl | trivial), (by first | rfl | trivial), by omega, fun a ha => ⟨_, rfl, ?_⟩, ?_⟩
  · rw [ok_yes]
    refine ⟨rfl, rfl, fun _ => ?_⟩
    obtain ⟨y, hy, e⟩ := hN.get (hm a ha).1 (hm a ha).2
    obtain ⟨i, hi⟩ : ∃ i : Nat, a = (i : Int) := ⟨a.toNat, by have := (hm a ha).1; omega⟩
    subst hi
    simp only [ok_bin, ok_var, hnm, hgn, ok_ixL, Me.atI_nat]
    have e2 : (nats ys)[i]? = some (.int (y : Int)) := by
      rw [Int.toNat_natCast] at e
      unfold nats
      rw [List.getElem?_map, e]
      rfl
    rw [e2, List.getD_eq_getElem?_getD, e]
    exact ⟨(by first | rfl | trivial), (by first | rfl | trivial)⟩
  rw [filt_true, ok_asLst]
  have e1 : p.map (fun a => D.int ((ys.getD a.toNat 0 : Nat) : Int)) = (p.map fun a => ((ys.getD a.toNat 0 : Nat) : Int)).map D.int := by rw [List.map_map]; rfl
  simp only [ok_anil, ok_f1]
  rw [e1, ok_sortL]
  rcases hp with ⟨a, rfl, h1, h2⟩ | ⟨a, b, rfl, h1, h2, h3, h4, h5⟩
  · obtain ⟨y, hy, e⟩ := hN.get h1 h2
    have e2 : sortI [((ys.getD a.toNat 0 : Nat) : Int)] = [((ys.getD a.toNat 0 : Nat) : Int)] := List.perm_singleton.mp (sortI_perm _)
    simp only [List.map_cons, List.map_nil]
    rw [e2]
    refine h _ (by simp) (by simp) fun bs hbs => ?_
    rw [List.getD_eq_getElem?_getD, e]
    match bs, hbs with
    | [c], _ => exact Or.inl ⟨y, c, rfl, by omega, by omega⟩
  · obtain ⟨y, hy, e⟩ := hN.get h1 h2
    obtain ⟨z, hz, e'⟩ := hN.get h3 h4
    have hyz : ((ys.getD a.toNat 0 : Nat) : Int) ≠ ((ys.getD b.toNat 0 : Nat) : Int) := fun q => by
      rw [List.getD_eq_getElem?_getD, List.getD_eq_getElem?_getD, e, e'] at q
      simp only [Option.getD_some] at q
      have : y = z := by omega
      subst this
      exact h5 (hN.inj h1 h3 e e')
    simp only [List.map_cons, List.map_nil]
    obtain ⟨s, t, e6, hst, hcase⟩ := sort2 hyz
    rw [e6]
    refine h _ (by simp) (by simp) fun bs hbs => ?_
    rw [List.getD_eq_getElem?_getD, List.getD_eq_getElem?_getD, e, e'] at hcase
    simp only [Option.getD_some] at hcase
    match bs, hbs with
    | [b1, b2], _ => exact Or.inr ⟨s, b1, t, b2, rfl, by omega, hst, by omega⟩
theorem cond_call {n : Nat} {a b : Int} {m : Nat} {C : Cel} {T : List Cel} {r : Rho} {Q : D → List Cel → Prop} (h0 : r[0]? = some (some (.cell 0))) (h12 : r[12]? = some (some (.int a))) (h13 : r[13]? = some (some (.int b))) (a0 : 0 ≤ a) (a1 : a < n) (b0 : 0 ≤ b) (b1 : b < n) (hB : Bx m C) (hm : m ≤ 1000000)
    (hq : ∀ (p : List Int) (C' : Cel), Pn n p → Bx (m + 1) C' → Q (prD p) (C' :: T)) : Ok (eIf (bAnd (toB (eBin (pEqA true) (eVar 12) (eVar 13))) (toB (eBin oGt (eCall callB 2 F_u_law_take posn (aCons (eVar 0) (aCons (eC (.int 3)) aNil)) aNil) (eC (.int 0))))) (eLst (aCons (eVar 12) (aCons (eVar 13) aNil))) (eLst (aCons (eVar 12) aNil)) r (C :: T)) Q := by
  simp only [ok_if, ok_band, ok_tob, ok_bin, ok_var, h12, h13, ok_eqI, if_true]
  by_cases e : a = b
  · simp only [e, decide_true, Bool.not_true, Bool.false_eq_true, if_false, ok_lst, ok_acons, ok_anil, ok_var, h12]
    refine ⟨by rw [sz]; simp, ?_⟩
    subst e
    exact hq [a] C (Or.inl ⟨_, rfl, a0, a1⟩) (hB.mono (by omega))
  · simp only [e, decide_false, Bool.not_false, if_true, ok_bin, ok_call, ok_acons, ok_anil, ok_var, ok_c, h0, posn]
    refine ⟨rfl, take_ok (k := 0) rfl hB (by omega) (by omega) (by omega) fun u hu C4 hb4 => ?_⟩
    simp only [ok_gtI, List.set_cons_zero, decide_eq_true_eq]
    by_cases hu0 : (0 : Int) < (u : Int)
    · rw [if_pos hu0]
      simp only [ok_lst, ok_acons, ok_anil, ok_var, h12, h13]
      exact ⟨by rw [sz]; simp, hq [a, b] C4 (Or.inr ⟨_, _, rfl, a0, a1, b0, b1, e⟩) hb4⟩
    · rw [if_neg hu0]
      simp only [ok_lst, ok_acons, ok_anil, ok_var, h12]
      exact ⟨by rw [sz]; simp, hq [a] C4 (Or.inl ⟨_, rfl, a0, a1⟩) hb4⟩
theorem world_call {m k : Nat} {C : Cel} (hS : S[k]? = some C) (hB : Bx m C) (hm : m ≤ 800000)
    (hp : ∀ (n : Nat) (ts : List Tk) (C' : Cel), 1 ≤ n → n ≤ 6 → ts.length ≤ 8 → (∀ t ∈ ts, Vt n t) → Bx (m + 2000) C' → P (worldD n ts) (S.set k C')) : Ok (callB F_u_law_world [.cell k, .int 6, .int 8] S) P := by
  refine ok_callB (Q := fun d C' => ∃ (n : Nat) (ts : List Tk), d = worldD n ts ∧ 1 ≤ n ∧ n ≤ 6 ∧ ts.length ≤ 8 ∧ (∀ t ∈ ts, Vt n t) ∧ Bx (m + 2000) C') hS ?_ (by simp only [D.cfL, D.cf, hB.cf, Bool.and_true]) fun d C' ⟨n, ts, e, h1, h2, h3, h4, h5⟩ => by rw [e]; exact hp n ts C' h1 h2 h3 h4 h5
  unfold F_u_law_world
  rw [ok_runE]
  have e0 : stD N_u_law_world [.cell 0, .int 6, .int 8] = [some (.cell 0), some (.int 6), some (.int 8), none, none, none, none, none, none, none, none, none, none, none, none, none] := rfl
  rw [e0]
  unfold B_u_law_world
  rw [oks_seq, oks_set]
  simp only [ok_var, ok_c, ok_bin, ok_acons, ok_anil, ok_fn, ok_f1, ok_f2, ok_call, ok_meth, ok_tob, ok_tup, ok_lst, ok_bnot, ok_band, ok_bor, posn, wipeD, List.set_cons_succ, List.set_cons_zero, get0, get1, get2, get3, g4, g5, g6, g7, g8, g9, g10, g11, g12, g13, g14, g15]
  refine ⟨by rw [sz]; simp, rfl, take_ok (k := 0) rfl hB (by omega) (by omega) (by omega) fun j hj C1 hb1 => ?_⟩
  have hq : ∃ q : Nat, 1 ≤ q ∧ q ≤ 6 ∧ ∀ S P, Ok (pIx (.lst [.int 3, .int 2, .int 4, .int 3, .int 5, .int 1, .int 6, .int 4]) (.int (j : Int)) S) P = P (.int (q : Int)) S := by
    have : j = 0 ∨ j = 1 ∨ j = 2 ∨ j = 3 ∨ j = 4 ∨ j = 5 ∨ j = 6 ∨ j = 7 := by omega
    rcases this with rfl | rfl | rfl | rfl | rfl | rfl | rfl | rfl
    · exact ⟨3, by omega, by omega, fun _ _ => by rw [ok_ixL, Me.atI_nat]; rfl⟩
    · exact ⟨2, by omega, by omega, fun _ _ => by rw [ok_ixL, Me.atI_nat]; rfl⟩
    · exact ⟨4, by omega, by omega, fun _ _ => by rw [ok_ixL, Me.atI_nat]; rfl⟩
    · exact ⟨3, by omega, by omega, fun _ _ => by rw [ok_ixL, Me.atI_nat]; rfl⟩
    · exact ⟨5, by omega, by omega, fun _ _ => by rw [ok_ixL, Me.atI_nat]; rfl⟩
    · exact ⟨1, by omega, by omega, fun _ _ => by rw [ok_ixL, Me.atI_nat]; rfl⟩
    · exact ⟨6, by omega, by omega, fun _ _ => by rw [ok_ixL, Me.atI_nat]; rfl⟩
    · exact ⟨4, by omega, by omega, fun _ _ => by rw [ok_ixL, Me.atI_nat]; rfl⟩
  obtain ⟨q, hq1, hq2, hix⟩ := hq
  rw [hix, ok_pMin]
  obtain ⟨n, en, hn1, hn2⟩ : ∃ n : Nat, (if (q : Int) < 6 then (q : Int) else 6) = (n : Int) ∧ 1 ≤ n ∧ n ≤ 6 := by
    by_cases h6 : (q : Int) < 6
    · rw [if_pos h6]; exact ⟨q, rfl, hq1, hq2⟩
    · rw [if_neg h6]; exact ⟨6, rfl, by omega, by omega⟩
  rw [en]
  try simp only [wipeD, List.set_cons_succ, List.set_cons_zero, get0, get1, get2, get3, g4, g5, g6, g7, g8, g9, g10, g11, g12, g13, g14, g15]
  rw [oks_seq, oks_asg, ok_tup]
  simp only [ok_var, ok_c, ok_bin, ok_acons, ok_anil, ok_fn, ok_f1, ok_f2, ok_call, ok_meth, ok_tob, ok_tup, ok_lst, ok_bnot, ok_band, ok_bor, posn, wipeD, List.set_cons_succ, List.set_cons_zero, get0, get1, get2, get3, g4, g5, g6, g7, g8, g9, g10, g11, g12, g13, g14, g15]
  refine ⟨rfl, take_ok (k := 0) rfl hb1 (by omega) (by omega) (by omega) fun wy hwy C2 hb2 => ?_⟩
  refine ⟨rfl, take_ok (k := 0) rfl hb2 (by omega) (by omega) (by omega) fun mi hmi C3 hb3 => ?_⟩
  refine ⟨rfl, take_ok (k := 0) rfl hb3 (by omega) (by omega) (by omega) fun mo hmo C4 hb4 => ?_⟩
  try simp only [wipeD, List.set_cons_succ, List.set_cons_zero, get0, get1, get2, get3, g4, g5, g6, g7, g8, g9, g10, g11, g12, g13, g14, g15]
  refine ⟨by rw [sz]; simp, ?_⟩
  have e1 : gT 3 (gK (gN 4) (gK (gN 5) (gK (gN 6) gZ))) (.tup [.int (wy : Int), .int (mi : Int), .int (mo : Int)]) [some (.cell 0), some (.int 6), some (.int 8), some (.int (n : Int)), none, none, none, none, none, none, none, none, none, none, none, none] = some [some (.cell 0), some (.int 6), some (.int 8), some (.int (n : Int)), some (.int (wy : Int)), some (.int (mi : Int)), some (.int (mo : Int)), none, none, none, none, none, none, none, none, none] := rfl
  simp only [e1]
  rw [oks_seq, oks_set]
  simp only [ok_var, ok_c, ok_bin, ok_acons, ok_anil, ok_fn, ok_f1, ok_f2, ok_call, ok_meth, ok_tob, ok_tup, ok_lst, ok_bnot, ok_band, ok_bor, posn, wipeD, List.set_cons_succ, List.set_cons_zero, get0, get1, get2, get3, g4, g5, g6, g7, g8, g9, g10, g11, g12, g13, g14, g15, ok_pMin]
  refine ⟨rfl, pairs_call hn1 hn2 hb4 (by omega) fun ps C5 hpl hps hb5 => ?_⟩
  try simp only [wipeD, List.set_cons_succ, List.set_cons_zero, get0, get1, get2, get3, g4, g5, g6, g7, g8, g9, g10, g11, g12, g13, g14, g15]
  -- further pairs
  rw [oks_seq]
  have hr : ∃ z : Nat, z ≤ 2 ∧ ∀ S P, Ok (pIx (.lst [.int 0, .int 0, .int 1, .int 2]) (.int (mo : Int)) S) P = P (.int (z : Int)) S := by
    have : mo = 0 ∨ mo = 1 ∨ mo = 2 ∨ mo = 3 := by omega
    rcases this with rfl | rfl | rfl | rfl
    · exact ⟨0, by omega, fun _ _ => by rw [ok_ixL, Me.atI_nat]; rfl⟩
    · exact ⟨0, by omega, fun _ _ => by rw [ok_ixL, Me.atI_nat]; rfl⟩
    · exact ⟨1, by omega, fun _ _ => by rw [ok_ixL, Me.atI_nat]; rfl⟩
    · exact ⟨2, by omega, fun _ _ => by rw [ok_ixL, Me.atI_nat]; rfl⟩
  obtain ⟨z, hz, hiz⟩ := hr
  refine oks_for (fun s i r S' => (∃ o8 o12 o13, r = [some (.cell 0), some (.int 6), some (.int 8), some (.int (n : Int)), some (.int (wy : Int)), some (.int (mi : Int)), some (.int (mo : Int)), some (.cell 1), o8, none, none, none, o12, o13, none, none]) ∧ s.ds.length ≤ 2 ∧ ∃ (ps : List (List Int)) (C' : Cel), S' = [C', .lst (ps.map prD)] ∧ Bx (m + 104 + 4 * i) C' ∧ ps.length ≤ 20 + i ∧ ∀ p ∈ ps, Pn n p) ?_
  simp only [ok_irng, ok_var, ok_c, ok_bin, ok_acons, ok_anil, ok_fn, ok_f1, ok_f2, ok_call, ok_meth, ok_tob, ok_tup, ok_lst, ok_bnot, ok_band, ok_bor, posn, wipeD, List.set_cons_succ, List.set_cons_zero, get0, get1, get2, get3, g4, g5, g6, g7, g8, g9, g10, g11, g12, g13, g14, g15, hiz, Int.toNat_natCast]
  refine ⟨by rw [sz]; simp, small_nat (by omega), trivial, ⟨⟨_, _, _, rfl⟩, by rw [rngL_len]; exact hz, ps, C5, rfl, hb5.mono (by omega), by omega, hps⟩, fun i d r S' hd _ hI => ?_, fun r S' _ hI => ?_⟩
  · obtain ⟨⟨o8, o12, o13, rfl⟩, hq, ps, C', rfl, hb, hpl, hps⟩ := hI
    have hi2 : i < 2 := Nat.lt_of_lt_of_le (List.getElem?_eq_some_iff.mp hd).1 hq
    refine ⟨_, rfl, ?_⟩
    simp only [gN, wipeD, List.set_cons_succ, List.set_cons_zero, get0, get1, get2, get3, g4, g5, g6, g7, g8, g9, g10, g11, g12, g13, g14, g15]
    rw [oks_seq, oks_set]
    simp only [ok_var, ok_c, ok_bin, ok_acons, ok_anil, ok_fn, ok_f1, ok_f2, ok_call, ok_meth, ok_tob, ok_tup, ok_lst, ok_bnot, ok_band, ok_bor, posn, wipeD, List.set_cons_succ, List.set_cons_zero, get0, get1, get2, get3, g4, g5, g6, g7, g8, g9, g10, g11, g12, g13, g14, g15]
    refine ⟨rfl, take_ok (k := 0) rfl hb (by omega) (by omega) (by omega) fun a ha C2 hb2 => ?_⟩
    simp only [wipeD, List.set_cons_succ, List.set_cons_zero, get0, get1, get2, get3, g4, g5, g6, g7, g8, g9, g10, g11, g12, g13, g14, g15]
    rw [oks_seq, oks_set]
    simp only [ok_var, ok_c, ok_bin, ok_acons, ok_anil, ok_fn, ok_f1, ok_f2, ok_call, ok_meth, ok_tob, ok_tup, ok_lst, ok_bnot, ok_band, ok_bor, posn, wipeD, List.set_cons_succ, List.set_cons_zero, get0, get1, get2, get3, g4, g5, g6, g7, g8, g9, g10, g11, g12, g13, g14, g15, ok_addI, ok_subI, ok_pMax]
    refine ⟨rfl, take_ok (k := 0) rfl hb2 (by omega) (by split <;> omega) (by split <;> omega) fun t ht C3 hb3 => ?_⟩
    simp only [ok_addI, ok_modI (show (0 : Int) < (n : Int) by omega), wipeD, List.set_cons_succ, List.set_cons_zero, get0, get1, get2, get3, g4, g5, g6, g7, g8, g9, g10, g11, g12, g13, g14, g15]
    have g0 := Int.emod_nonneg ((a : Int) + 1 + (t : Int)) (show (n : Int) ≠ 0 by omega)
    have g1 := Int.emod_lt_of_pos ((a : Int) + 1 + (t : Int)) (show (0 : Int) < (n : Int) by omega)
    generalize ((a : Int) + 1 + (t : Int)) % (n : Int) = b at g0 g1
    have len1 : (ps.map prD).length < sizeLine := by rw [List.length_map, sz]; omega
    rw [oks_drop, ok_mut]
    simp only [ok_var, g7, get1, ok_acons]
    refine cond_call (n := n) (a := (a : Int)) (b := b) (m := m + 104 + 4 * i + 2) get0 g12 g13 (by omega) ha g0 g1 (hb3.mono (by omega)) (by omega) fun p C4 hpn hb4 => ?_
    simp only [ok_anil, get1, fApp, if_pos len1, wipeD, List.set_cons_succ, List.set_cons_zero, get0, get1, get2, get3, g4, g5, g6, g7, g8, g9, g10, g11, g12, g13, g14, g15]
    refine ⟨trivial, ⟨_, _, _, rfl⟩, hq, ps ++ [p], C4, by rw [List.map_append]; rfl, hb4.mono (by omega), by simp; omega, fun p' hpm => ?_⟩
    rcases List.mem_append.mp hpm with h | h
    · exact hps p' h
    · simp at h
      subst h
      exact hpn
  obtain ⟨⟨o8, o12, o13, rfl⟩, hq, ps, C', rfl, hb, hpl, hps⟩ := hI
  rw [oks_frz, g7]
  simp only [get1, wipeD, List.set_cons_succ, List.set_cons_zero, get0, get1, get2, get3, g4, g5, g6, g7, g8, g9, g10, g11, g12, g13, g14, g15]
  rw [oks_seq, oks_set]
  simp only [ok_call, ok_acons, ok_anil, ok_var, get0, ok_lrg, get3, posn]
  refine ⟨⟨by omega, by omega, by omega, by omega⟩, rfl, ?_⟩
  have hrg : rgD 0 (n : Int) = (List.range n).map fun k : Nat => D.int (k : Int) := by
    unfold rgD
    rw [Int.sub_zero, Int.toNat_natCast]
    apply List.map_congr_left
    intro k _
    rw [Int.zero_add]
  rw [hrg]
  have hb2' : Bx (m + 112) C' := hb.mono (by have := hq; omega)
  refine mixed_call (k := 0) (fun k : Nat => D.int (k : Int)) natP natD_py (fun _ => rfl) (fun a => by simp [natP, PyData.depth]) (fun _ => rfl) (xs := List.range n) (by rw [List.length_range]; omega) rfl hb2' (by omega) fun ys C6 hperm hb6 => ?_
  have hN : Nm n ys := ⟨hperm⟩
  rw [show ys.map (fun k : Nat => D.int (k : Int)) = nats ys from rfl]
  try simp only [wipeD, List.set_cons_succ, List.set_cons_zero, get0, get1, get2, get3, g4, g5, g6, g7, g8, g9, g10, g11, g12, g13, g14, g15]
  rw [oks_seq, oks_set, ok_cel]
  simp only [ok_anil, List.length_nil, List.length_cons, List.cons_append, List.nil_append, wipeD, List.set_cons_succ, List.set_cons_zero, get0, get1, get2, get3, g4, g5, g6, g7, g8, g9, g10, g11, g12, g13, g14, g15]
  refine ⟨Nat.zero_le _, ?_⟩
  rw [oks_seq]
  refine oks_for (fun s i r S' => (∃ o11 o12 o13 o14 o8, r = [some (.cell 0), some (.int 6), some (.int 8), some (.int (n : Int)), some (.int (wy : Int)), some (.int (mi : Int)), some (.int (mo : Int)), some (.lst (ps.map prD)), o8, some (.lst (nats ys)), some (.cell 2), o11, o12, o13, o14, none]) ∧ (∃ qs : List (List Int), s = ⟨qs.map prD, none⟩ ∧ qs.length ≤ 8 ∧ ∀ p ∈ qs, Pn n p) ∧ ∃ (ts : List Tk) (C' : Cel), S' = [C', .dead, .lst (ts.map tskD)] ∧ Bx (m + 912 + 2 * i) C' ∧ ts.length = i ∧ ∀ t ∈ ts, Vt n t) ?_
  simp only [ok_iseq, ok_sl, ok_ono, ok_oso, ok_call, ok_acons, ok_anil, ok_var, ok_c, get0, get2, g7, posn]
  refine ⟨rfl, mixed_call (k := 0) prD prP prD_py prP_lay prP_dep prD_cf (xs := ps) (by omega) rfl hb6 (by omega) fun qs C7 hqp hb7 => ?_⟩
  simp only [lstD, ok_ok, wipeD, List.set_cons_succ, List.set_cons_zero, get0, get1, get2, get3, g4, g5, g6, g7, g8, g9, g10, g11, g12, g13, g14, g15]
  have cut8 : Me.cutD (qs.map prD) none (some 8) = (qs.take 8).map prD := by
    unfold Me.cutD
    have e1 : HT.sIx (qs.map prD).length 0 none = 0 := rfl
    have e2 : HT.sIx (qs.map prD).length (qs.map prD).length (some 8) = min 8 (qs.map prD).length := HT.sIx_nat _ _ 8
    rw [e1, e2, List.drop_zero, Nat.sub_zero, List.map_take, List.length_map]
    by_cases h8 : 8 ≤ qs.length
    · rw [Nat.min_eq_left h8]
    · rw [Nat.min_eq_right (by omega), List.take_of_length_le (by rw [List.length_map]; omega), List.take_of_length_le (by rw [List.length_map]; omega)]
  rw [cut8]
  have hpq : ∀ p ∈ qs.take 8, Pn n p := fun p hp => hps p (hqp.mem_iff.mp (List.mem_of_mem_take hp))
  refine ⟨trivial, ⟨⟨_, _, _, _, _, rfl⟩, ⟨qs.take 8, rfl, by rw [List.length_take]; omega, hpq⟩, [], C7, rfl, hb7.mono (by omega), rfl, fun t h => by simp at h⟩, fun i d r S' hd _ hI => ?_, fun r S' _ hI => ?_⟩
  · obtain ⟨⟨o11, o12, o13, o14, o8, rfl⟩, hQ, ts, C', rfl, hb, htl, hv⟩ := hI
    rw [List.getElem?_map, Option.map_eq_some_iff] at hd
    obtain ⟨p, hpi, rfl⟩ := hd
    have hpn := hpq p (List.mem_of_getElem? hpi)
    have hi8 : i < 8 := by
      have := (List.getElem?_eq_some_iff.mp hpi).1
      rw [List.length_take] at this
      omega
    refine ⟨_, rfl, ?_⟩
    simp only [gN, wipeD, List.set_cons_succ, List.set_cons_zero, get0, get1, get2, get3, g4, g5, g6, g7, g8, g9, g10, g11, g12, g13, g14, g15]
    rw [oks_seq, oks_set]
    refine named_call (vs := []) hN hpn g11 (fun _ => rfl) (fun _ => rfl) fun nd hnd1 hnd hvt => ?_
    simp only [wipeD, List.set_cons_succ, List.set_cons_zero, get0, get1, get2, get3, g4, g5, g6, g7, g8, g9, g10, g11, g12, g13, g14, g15]
    rw [oks_drop, ok_mut]
    simp only [ok_var, g10, get2, ok_acons, ok_fn, ok_f1]
    have len1 : (ts.map tskD).length < sizeLine := by rw [List.length_map, sz]; omega
    refine ends_ok (i := 0) (j := 0) (rw_ := []) (nd := nd) (m := m + 912 + 2 * i) (Nat.le_trans hnd (by omega)) (fun PS h => by rw [ok_iseq, ok_var, g14]; exact h) hb (by omega) (fun y => ⟨_, rfl, fun C8 mm P hb8 hmm hp => ?_⟩) fun bs hbs C8 hb8 => ?_
    · simp only [gN, ok_tup, ok_acons, ok_anil, ok_var, wipeD, List.set_cons_succ, List.set_cons_zero, get0, get1, get2, get3, g4, g5, g6, g7, g8, g9, g10, g11, g12, g13, g14, g15]
      rw [ok_or]
      simp only [ok_bin, ok_var, ok_c, wipeD, List.set_cons_succ, List.set_cons_zero, get0, get1, get2, get3, g4, g5, g6, g7, g8, g9, g10, g11, g12, g13, g14, g15, ok_gtI]
      by_cases hmi0 : (0 : Int) < (mi : Int)
      · simp only [hmi0, decide_true]
        exact ⟨by rw [sz]; simp, hp _ C8 (hb8.mono (by omega))⟩
      · simp only [hmi0, decide_false, ok_call, ok_acons, ok_anil, ok_var, ok_c, wipeD, List.set_cons_succ, List.set_cons_zero, get0, get1, get2, get3, g4, g5, g6, g7, g8, g9, g10, g11, g12, g13, g14, g15, posn]
        refine ⟨rfl, take_ok (k := 0) rfl hb8 (by omega) (by omega) (by omega) fun b2 _ C9 hb9 => ?_⟩
        simp only [ok_gtI, List.set_cons_zero]
        exact ⟨by rw [sz]; simp, hp _ C9 hb9⟩
    · simp only [ok_anil, ok_f1, ok_tupL, get2, fApp, if_pos len1, wipeD, List.set_cons_succ, List.set_cons_zero, get0, get1, get2, get3, g4, g5, g6, g7, g8, g9, g10, g11, g12, g13, g14, g15]
      refine ⟨trivial, ⟨_, _, _, _, _, rfl⟩, hQ, ts ++ [nd.zip bs], C8, by rw [List.map_append]; rfl, hb8.mono (by omega), by simp [htl], fun t ht => ?_⟩
      rcases List.mem_append.mp ht with h | h
      · exact hv t h
      · simp at h
        rw [h]
        exact hvt bs hbs
  · obtain ⟨⟨o11, o12, o13, o14, o8, rfl⟩, hQ, ts, C', rfl, hb, htl, hv⟩ := hI
    have hl8 : ts.length ≤ 8 := by rw [htl, List.length_map, List.length_take]; omega
    rw [oks_frz, g10]
    simp only [get2, wipeD, List.set_cons_succ, List.set_cons_zero, get0, get1, get2, get3, g4, g5, g6, g7, g8, g9, g10, g11, g12, g13, g14, g15, oks_ret, ok_lst, ok_acons, ok_anil, ok_var, get3, g10]
    exact ⟨by rw [sz]; simp, C', _, rfl, by simp only [D.cf, D.cfL, tsks_cf, hb.cf, Bool.and_self], n, ts, rfl, hn1, hn2, hl8, hv, hb.mono (by rw [List.length_map, List.length_take]; omega)⟩
/-! ### worlds with the tasks at each node -/
theorem known_call {n : Nat} {ts : List Tk} (sh : Sh ts) (hn : n ≤ 1000) (hp : P (worldK n ts) S) : Ok (callP F_u_law_known [worldD (n : Int) ts] S) P := by
  refine ok_callP (Q := fun d => d = worldK n ts) ?_ (by simp only [D.cfL, world_cf, Bool.and_true]) fun d e => by rw [e]; exact hp
  unfold F_u_law_known
  rw [ok_runE]
  have e0 : stD N_u_law_known [worldD (n : Int) ts] = [some (worldD (n : Int) ts), none] := rfl
  rw [e0]
  unfold B_u_law_known
  have h : Wld (worldD (n : Int) ts) n ts := Or.inl rfl
  rw [oks_ret, ok_lst]
  simp only [ok_acons, ok_bin, ok_var, ok_c, get0, w0 h, w1 h]
  refine ok_lcA (List.range n) (fun i : Nat => .int (i : Int)) (fun _ => true) (fun i : Nat => .lst (nats (atN ts (i : Int)))) ?_
  simp only [ok_irng, ok_bin, ok_var, ok_c, get0, w0 h, Int.toNat_natCast]
  refine ⟨small_nat (by omega), (by first | rfl | trivial), (by first | rfl | trivial), rngL_eq _, by rw [List.length_range]; omega, fun i hi => ⟨_, rfl, ?_⟩, ?_⟩
  · rw [List.mem_range] at hi
    rw [ok_yes]
    refine ⟨rfl, rfl, fun _ => ?_⟩
    simp only [gN, ok_call, ok_acons, ok_anil, ok_var, wipeD, List.set_cons_succ, List.set_cons_zero, get0, get1, get2, get3, g4, g5, g6, g7, g8, g9, g10, g11, g12, g13, g14, g15, posn]
    exact ⟨rfl, at_call h sh hi hn ⟨(by first | rfl | trivial), (by first | rfl | trivial)⟩⟩
  rw [filt_true, ok_asLst]
  simp only [ok_anil]
  exact ⟨by rw [sz]; simp, worldK_cf, rfl⟩
end

end K05
end
section
set_option Elab.async false
set_option linter.all false
set_option maxRecDepth 100000
set_option exponentiation.threshold 500
namespace K05
open PySem PySem.Spec L2 Me
open PyProof.Rows hiding St
section
variable {n node k : Nat} {ts : List Tk} {l : List Int} {la : List (Option Int)} {S : List Cel} {P : D → List Cel → Prop} {w : D}
/-! ### lasts that are drawn -/
/-- good lasts -/
structure Oks (n : Nat) (ts : List Tk) (la : List (Option Int)) : Prop where
  len : la.length = n
  ok : ∀ node, node < n → okLast ts node (la.getD node none)
theorem oks_fresh (n : Nat) (ts : List Tk) : Oks n ts (List.replicate n none) := ⟨List.length_replicate, fun node _ i h => by
  rw [List.getD_eq_getElem?_getD, List.getElem?_replicate] at h
  split at h <;> simp at h⟩
theorem oks_ran (h : Oks n ts la) (hk : k < ts.length) : Oks n ts (ranA ts la k) := ⟨by simp [ranA, h.len], fun node hn i hi => by
  rw [ranA_get (by rw [h.len]; exact hn)] at hi
  by_cases c : isAt ts (node : Int) k = true
  · rw [if_pos c] at hi
    exact ⟨k, (Option.some.inj hi).symm, List.mem_filter.mpr ⟨List.mem_range.mpr hk, c⟩⟩
  · rw [if_neg c] at hi
    exact h.ok node hn i hi⟩
theorem rep_flat (v : Int) : ∀ k : Nat, (List.replicate k [D.int v]).flatten = (List.replicate k v).map D.int
  | 0 => rfl
  | k + 1 => by rw [List.replicate_succ, List.flatten_cons, rep_flat v k]; rfl
theorem rep_c {v : Int} {k : Nat} (hk : k ≤ 1000) : -(2 ^ 63) ≤ (k : Int) ∧ (k : Int) < 2 ^ 63 ∧ [D.int v].length * (k : Int).toNat ≤ sizeLine := by
  rw [sz]
  simp only [List.length_cons, List.length_nil, Int.toNat_natCast]
  omega
theorem rep_pRep {v : Int} {k : Nat} (hk : k ≤ 1000) : pRep (.lst [.int v]) (.int (k : Int)) S = .ok (loadD (List.replicate k v)) S := by
  unfold pRep
  simp only [lstW]
  rw [if_pos (rep_c hk), Int.toNat_natCast, rep_flat]
  rfl
theorem mul_lst {xs : List D} {d : D} : pMul (.lst xs) d S = pRep (.lst xs) d S := rfl
theorem ok_rep1 {v : Int} {k : Nat} (hk : k ≤ 1000) : Ok (pMul (.lst [.int v]) (.int (k : Int)) S) P = P (loadD (List.replicate k v)) S := by
  rw [mul_lst, rep_pRep hk]
  rfl
theorem ok_repC1 {v : Int} {k : Nat} (hk : k ≤ 1000) : Ok (pRepC (.lst [.int v]) (.int (k : Int)) S) P = P (.cell S.length) (S ++ [.lst ((List.replicate k v).map D.int)]) := by
  have e : (List.replicate k [D.int v]).flatten = (List.replicate k v).map D.int := by
    rw [List.map_replicate]
    induction k with
    | zero => rfl
    | succ k ih => rw [List.replicate_succ, List.flatten_cons, ih (by omega)]; rfl
  have c : -(2 ^ 63) ≤ (k : Int) ∧ (k : Int) < 2 ^ 63 ∧ [D.int v].length * (k : Int).toNat ≤ sizeLine := by
    rw [sz]
    simp only [List.length_cons, List.length_nil, Int.toNat_natCast]
    omega
  unfold pRepC
  simp only [lstW]
  rw [if_pos c, Int.toNat_natCast, e]
  rfl
theorem ok_tupC {j : Nat} {xs : List D} (h : S[j]? = some (.lst xs)) : Ok (pTuple (.cell j) S) P = P (.tup xs) S := by
  unfold pTuple
  simp only [lstD, h]
  rfl
theorem nat_at {xs : List Nat} {j : Nat} (h : j < xs.length) : (nats xs)[j]? = some (.int ((xs[j] : Nat) : Int)) := by
  unfold nats
  rw [List.getElem?_map, List.getElem?_eq_getElem h]
  rfl
theorem past_call {m k : Nat} {C : Cel} {z : Nat} (h : Wld w n ts) (hv : ∀ t ∈ ts, Vt (n : Int) t) (sh : Sh ts) (hn : n ≤ 24) (hz : z ≤ 100) (hS : S[k]? = some C) (hB : Bx m C) (hm : m ≤ 900100)
    (hp : ∀ (la : List (Option Int)) (C' : Cel), Oks n ts la → Bx (m + z) C' → P (lastsT la) (S.set k C')) : Ok (callB F_u_law_past [.cell k, w, .int (z : Int)] S) P := by
  refine ok_callB (Q := fun d C' => ∃ la : List (Option Int), d = lastsT la ∧ Oks n ts la ∧ Bx (m + z) C') hS ?_ (by simp only [D.cfL, D.cf, h.cf, hB.cf, Bool.and_true]) fun d C' ⟨la, e, h1, h2⟩ => by rw [e]; exact hp la C' h1 h2
  unfold F_u_law_past
  rw [ok_runE]
  have e0 : stD N_u_law_past [.cell 0, w, .int (z : Int)] = [some (.cell 0), some w, some (.int (z : Int)), none, none, none, none, none] := rfl
  rw [e0]
  unfold B_u_law_past
  have hs := sh.1
  rw [oks_seq, oks_set]
  simp only [ok_fn, ok_acons]
  refine ok_lcA (List.range n) (fun i : Nat => .int (i : Int)) (fun _ => true) (fun _ => .non) ?_
  simp only [ok_irng, ok_var, ok_c, ok_bin, ok_acons, ok_anil, ok_fn, ok_f1, ok_f2, ok_call, ok_meth, ok_tob, ok_tup, ok_lst, ok_bnot, ok_band, ok_bor, posn, wipeD, List.set_cons_succ, List.set_cons_zero, get0, get1, get2, get3, g4, g5, g6, g7, g8, g9, g10, g11, g12, g13, g14, g15, w0 h, Int.toNat_natCast]
  refine ⟨small_nat (by omega), (by first | rfl | trivial), (by first | rfl | trivial), rngL_eq _, by rw [List.length_range]; omega, fun i hi => ⟨_, rfl, ?_⟩, ?_⟩
  · rw [ok_yes]
    exact ⟨(by first | rfl | trivial), (by first | rfl | trivial), fun _ => ⟨(by first | rfl | trivial), (by first | rfl | trivial)⟩⟩
  rw [filt_true, ok_asLst]
  have e1 : (List.range n).map (fun _ : Nat => D.non) = (List.replicate n (none : Option Int)).map oD := by
    rw [List.map_const', List.length_range, List.map_replicate]
    rfl
  rw [e1]
  simp only [ok_anil, ok_f1, ok_tupL, wipeD, List.set_cons_succ, List.set_cons_zero, get0, get1, get2, get3, g4, g5, g6, g7, g8, g9, g10, g11, g12, g13, g14, g15]
  rw [oks_seq]
  refine oks_for (fun s i r S' => (∃ o4 o5 la, r = [some (.cell 0), some w, some (.int (z : Int)), some (lastsT la), o4, o5, none, none] ∧ Oks n ts la) ∧ s.ds.length ≤ z ∧ ∃ C', S' = [C'] ∧ Bx (m + i) C') ?_
  simp only [ok_irng, ok_var, ok_c, ok_bin, ok_acons, ok_anil, ok_fn, ok_f1, ok_f2, ok_call, ok_meth, ok_tob, ok_tup, ok_lst, ok_bnot, ok_band, ok_bor, posn, wipeD, List.set_cons_succ, List.set_cons_zero, get0, get1, get2, get3, g4, g5, g6, g7, g8, g9, g10, g11, g12, g13, g14, g15, Int.toNat_natCast]
  refine ⟨small_nat (by omega), (by first | rfl | trivial), ⟨⟨_, _, _, rfl, oks_fresh n ts⟩, by rw [rngL_len]; exact Nat.le_refl _, C, rfl, hB⟩, fun i d r S' hd _ hI => ?_, fun r S' _ hI => ?_⟩
  · obtain ⟨⟨o4, o5, la, rfl, ho⟩, hq, C', rfl, hb⟩ := hI
    have hi : i < z := Nat.lt_of_lt_of_le (List.getElem?_eq_some_iff.mp hd).1 hq
    refine ⟨_, rfl, ?_⟩
    simp only [gN, wipeD, List.set_cons_succ, List.set_cons_zero, get0, get1, get2, get3, g4, g5, g6, g7, g8, g9, g10, g11, g12, g13, g14, g15]
    rw [oks_seq, oks_set]
    refine ok_lcA (List.range ts.length) (fun k : Nat => .int (k : Int)) (fun k => decide (barsN ts la k = [])) (fun k : Nat => .int (k : Int)) ?_
    simp only [ok_irng, ok_var, ok_c, ok_bin, ok_acons, ok_anil, ok_fn, ok_f1, ok_f2, ok_call, ok_meth, ok_tob, ok_tup, ok_lst, ok_bnot, ok_band, ok_bor, posn, wipeD, List.set_cons_succ, List.set_cons_zero, get0, get1, get2, get3, g4, g5, g6, g7, g8, g9, g10, g11, g12, g13, g14, g15, w1 h, ok_lenL, List.length_map, Int.toNat_natCast]
    refine ⟨small_nat (by omega), (by first | rfl | trivial), (by first | rfl | trivial), rngL_eq _, by rw [List.length_range]; omega, fun k hk => ⟨_, rfl, ?_⟩, ?_⟩
    · rw [List.mem_range] at hk
      try simp only [ok_var, ok_c, ok_bin, ok_acons, ok_anil, ok_fn, ok_f1, ok_f2, ok_call, ok_meth, ok_tob, ok_tup, ok_lst, ok_bnot, ok_band, ok_bor, posn, wipeD, List.set_cons_succ, List.set_cons_zero, get0, get1, get2, get3, g4, g5, g6, g7, g8, g9, g10, g11, g12, g13, g14, g15]
      refine ⟨(by first | rfl | trivial), lawBars_call h hv hk ho.len ?_⟩
      simp only [List.length_nil, ok_eqInts, Bool.false_eq_true, if_false]
      exact ⟨Nat.zero_le _, (by first | rfl | trivial), (by first | rfl | trivial), fun _ => ⟨(by first | rfl | trivial), (by first | rfl | trivial)⟩⟩
    rw [ok_asLst]
    rw [show ((List.range ts.length).filter fun k => decide (barsN ts la k = [])).map (fun k : Nat => D.int (k : Int)) = nats ((List.range ts.length).filter fun k => decide (barsN ts la k = [])) from rfl]
    have hfl : ∀ k ∈ (List.range ts.length).filter (fun k => decide (barsN ts la k = [])), k < ts.length := fun k hk => List.mem_range.mp (List.mem_filter.mp hk).1
    have hfn : ((List.range ts.length).filter fun k => decide (barsN ts la k = [])).length ≤ ts.length := Nat.le_trans (List.length_filter_le _ _) (by rw [List.length_range]; exact Nat.le_refl _)
    generalize (List.range ts.length).filter (fun k => decide (barsN ts la k = [])) = free at hfl hfn
    try simp only [wipeD, List.set_cons_succ, List.set_cons_zero, get0, get1, get2, get3, g4, g5, g6, g7, g8, g9, g10, g11, g12, g13, g14, g15]
    rw [oks_if]
    simp only [ok_var, ok_c, ok_bin, ok_acons, ok_anil, ok_fn, ok_f1, ok_f2, ok_call, ok_meth, ok_tob, ok_tup, ok_lst, ok_bnot, ok_band, ok_bor, posn, wipeD, List.set_cons_succ, List.set_cons_zero, get0, get1, get2, get3, g4, g5, g6, g7, g8, g9, g10, g11, g12, g13, g14, g15, List.length_nil, ok_eqNil, if_true]
    refine ⟨Nat.zero_le _, ?_⟩
    by_cases hf : free = []
    · simp only [hf, decide_true, Bool.not_true, Bool.false_eq_true, if_false, oks_nx]
      exact ⟨trivial, ⟨_, _, la, rfl, ho⟩, hq, C', rfl, hb.mono (by omega)⟩
    · simp only [hf, decide_false, Bool.not_false, if_true]
      have hfp : 0 < free.length := List.length_pos_iff.mpr hf
      have hnl : (nats free).length = free.length := by simp [nats]
      rw [oks_set]
      simp only [ok_var, ok_c, ok_bin, ok_acons, ok_anil, ok_fn, ok_f1, ok_f2, ok_call, ok_meth, ok_tob, ok_tup, ok_lst, ok_bnot, ok_band, ok_bor, posn, wipeD, List.set_cons_succ, List.set_cons_zero, get0, get1, get2, get3, g4, g5, g6, g7, g8, g9, g10, g11, g12, g13, g14, g15, w1 h, ok_lenL, List.length_map, List.length_cons, List.length_nil, hnl]
      refine ⟨by rw [sz]; omega, ?_⟩
      rw [ok_rep1 (by omega)]
      refine ⟨(by first | rfl | trivial), take_ok (k := 0) rfl hb (by omega) (by omega) (by omega) fun j hj C2 hb2 => ?_⟩
      have hj2 : j < free.length := by omega
      simp only [ok_ixL, Me.atI_nat, nat_at hj2, List.set_cons_zero]
      have hkk := hfl _ (List.getElem_mem hj2)
      refine ⟨(by first | rfl | trivial), ran_call h (Or.inr rfl) hs (by omega) hv hkk List.length_replicate ho.len ?_⟩
      simp only [ok_ixT, atI_1, wipeD, List.set_cons_succ, List.set_cons_zero, get0, get1, get2, get3, g4, g5, g6, g7, g8, g9, g10, g11, g12, g13, g14, g15]
      exact ⟨(by first | rfl | trivial), ⟨_, _, _, rfl, oks_ran ho hkk⟩, hq, C2, rfl, hb2.mono (by omega)⟩
  · obtain ⟨⟨o4, o5, la, rfl, ho⟩, hq, C', rfl, hb⟩ := hI
    simp only [oks_ret, ok_var, get3]
    exact ⟨C', _, rfl, by simp only [lastsT, D.cf, olasts_cf, hb.cf, Bool.and_self], la, rfl, ho, hb.mono (by omega)⟩
theorem oks_snoc {i : Nat} {v : Option Int} (h : Oks i ts la) (hv : okLast ts i v) : Oks (i + 1) ts (la ++ [v]) := ⟨by simp [h.len], fun node hnode => by
  rw [List.getD_eq_getElem?_getD]
  by_cases hni : node < i
  · rw [List.getElem?_append_left (by rw [h.len]; omega), ← List.getD_eq_getElem?_getD]
    exact h.ok node hni
  · have e : node = la.length := by rw [h.len]; omega
    subst e
    rw [List.getElem?_append_right (Nat.le_refl _), Nat.sub_self, h.len]
    exact hv⟩
theorem lasts_call {m k : Nat} {C : Cel} (h : Wld w n ts) (hv : ∀ t ∈ ts, Vt (n : Int) t) (sh : Sh ts) (hn : n ≤ 24) (hS : S[k]? = some C) (hB : Bx m C) (hm : m ≤ 900000)
    (hp : ∀ (la : List (Option Int)) (C' : Cel), Oks n ts la → Bx (m + 100) C' → P (lastsT la) (S.set k C')) : Ok (callB F_u_law_lasts [.cell k, w] S) P := by
  refine ok_callB (Q := fun d C' => ∃ la : List (Option Int), d = lastsT la ∧ Oks n ts la ∧ Bx (m + 100) C') hS ?_ (by simp only [D.cfL, D.cf, h.cf, hB.cf, Bool.and_true]) fun d C' ⟨la, e, h1, h2⟩ => by rw [e]; exact hp la C' h1 h2
  unfold F_u_law_lasts
  rw [ok_runE]
  have e0 : stD N_u_law_lasts [.cell 0, w] = [some (.cell 0), some w, none, none, none] := rfl
  rw [e0]
  unfold B_u_law_lasts
  have hs := sh.1
  rw [oks_seq, oks_if]
  simp only [ok_var, ok_c, ok_bin, ok_acons, ok_anil, ok_fn, ok_f1, ok_f2, ok_call, ok_meth, ok_tob, ok_tup, ok_lst, ok_bnot, ok_band, ok_bor, posn, wipeD, List.set_cons_succ, List.set_cons_zero, get0, get1, get2, get3, g4, g5, g6, g7, g8, g9, g10, g11, g12, g13, g14, g15]
  refine ⟨(by first | rfl | trivial), take_ok (k := 0) rfl hB (by omega) (by omega) (by omega) fun j hj C1 hb1 => ?_⟩
  simp only [ok_eqI, Bool.false_eq_true, if_false, List.set_cons_zero]
  by_cases hj0 : (j : Int) = 0
  · simp only [hj0, decide_true, if_true, oks_ret]
    simp only [ok_var, ok_c, ok_bin, ok_acons, ok_anil, ok_fn, ok_f1, ok_f2, ok_call, ok_meth, ok_tob, ok_tup, ok_lst, ok_bnot, ok_band, ok_bor, posn, wipeD, List.set_cons_succ, List.set_cons_zero, get0, get1, get2, get3, g4, g5, g6, g7, g8, g9, g10, g11, g12, g13, g14, g15]
    refine ⟨(by first | rfl | trivial), take_ok (k := 0) rfl hb1 (by omega) (by omega) (by omega) fun q hq C2 hb2 => ?_⟩
    simp only [ok_addI, List.set_cons_zero]
    rw [show (1 : Int) + (q : Int) = ((1 + q : Nat) : Int) by omega]
    refine ⟨(by first | rfl | trivial), past_call (k := 0) (z := 1 + q) h hv sh hn (by omega) rfl hb2 (by omega) fun la C3 ho hb3 => ?_⟩
    exact ⟨C3, [], rfl, by simp only [lastsT, D.cf, olasts_cf, hb3.cf, Bool.and_self], la, rfl, ho, hb3.mono (by omega)⟩
  · simp only [hj0, decide_false, Bool.false_eq_true, if_false, oks_nx]
    rw [oks_seq, oks_set, ok_cel]
    simp only [ok_anil, List.length_nil, List.length_cons, List.cons_append, List.nil_append, wipeD, List.set_cons_succ, List.set_cons_zero, get0, get1, get2, get3, g4, g5, g6, g7, g8, g9, g10, g11, g12, g13, g14, g15]
    refine ⟨Nat.zero_le _, ?_⟩
    rw [oks_seq]
    refine oks_for (fun s i r S' => (∃ o3 o4, r = [some (.cell 0), some w, some (.cell 1), o3, o4]) ∧ ∃ (la : List (Option Int)) (C' : Cel), S' = [C', .lst (la.map oD)] ∧ Oks i ts la ∧ Bx (m + 1 + 2 * i) C') ?_
    simp only [ok_irng, ok_var, ok_c, ok_bin, ok_acons, ok_anil, ok_fn, ok_f1, ok_f2, ok_call, ok_meth, ok_tob, ok_tup, ok_lst, ok_bnot, ok_band, ok_bor, posn, wipeD, List.set_cons_succ, List.set_cons_zero, get0, get1, get2, get3, g4, g5, g6, g7, g8, g9, g10, g11, g12, g13, g14, g15, w0 h, Int.toNat_natCast]
    refine ⟨small_nat (by omega), (by first | rfl | trivial), ⟨⟨_, _, rfl⟩, [], C1, rfl, ⟨rfl, fun node hh => absurd hh (by omega)⟩, hb1⟩, fun i d r S' hd _ hI => ?_, fun r S' _ hI => ?_⟩
    · obtain ⟨⟨o3, o4, rfl⟩, la, C', rfl, ho, hb⟩ := hI
      obtain ⟨hi, rfl⟩ := rngL_get hd
      rw [Int.zero_add]
      refine ⟨_, rfl, ?_⟩
      simp only [gN, wipeD, List.set_cons_succ, List.set_cons_zero, get0, get1, get2, get3, g4, g5, g6, g7, g8, g9, g10, g11, g12, g13, g14, g15]
      rw [oks_seq, oks_set]
      try simp only [ok_var, ok_c, ok_bin, ok_acons, ok_anil, ok_fn, ok_f1, ok_f2, ok_call, ok_meth, ok_tob, ok_tup, ok_lst, ok_bnot, ok_band, ok_bor, posn, wipeD, List.set_cons_succ, List.set_cons_zero, get0, get1, get2, get3, g4, g5, g6, g7, g8, g9, g10, g11, g12, g13, g14, g15]
      refine ⟨(by first | rfl | trivial), at_call h sh hi (by omega) ?_⟩
      have lf : (atN ts (i : Int)).length ≤ 100 := Nat.le_trans (atN_len ts i) hs
      have ln : (nats (atN ts (i : Int))).length = (atN ts (i : Int)).length := by simp [nats]
      have len1 : (la.map oD).length < sizeLine := by rw [List.length_map, ho.len, sz]; omega
      try simp only [wipeD, List.set_cons_succ, List.set_cons_zero, get0, get1, get2, get3, g4, g5, g6, g7, g8, g9, g10, g11, g12, g13, g14, g15]
      rw [oks_drop, ok_mut]
      have fin : ∀ (v : Option Int) (C3 : Cel), okLast ts i v → Bx (m + 1 + 2 * (i + 1)) C3 → (∃ (la' : List (Option Int)) (C' : Cel), [C3, Cel.lst (la.map oD ++ [oD v])] = [C', .lst (la'.map oD)] ∧ Oks (i + 1) ts la' ∧ Bx (m + 1 + 2 * (i + 1)) C') := fun v C3 hv3 hb3 =>
        ⟨la ++ [v], C3, by simp, oks_snoc ho hv3, hb3⟩
      have fno : ∀ C3 : Cel, Bx (m + 1 + 2 * (i + 1)) C3 → (∃ (la' : List (Option Int)) (C' : Cel), [C3, Cel.lst (la.map oD ++ [D.non])] = [C', .lst (la'.map oD)] ∧ Oks (i + 1) ts la' ∧ Bx (m + 1 + 2 * (i + 1)) C') := fun C3 hb3 => fin none C3 (fun i h => by cases h) hb3
      simp only [ok_var, ok_c, ok_bin, ok_acons, ok_anil, ok_fn, ok_f1, ok_f2, ok_call, ok_meth, ok_tob, ok_tup, ok_lst, ok_bnot, ok_band, ok_bor, posn, wipeD, List.set_cons_succ, List.set_cons_zero, get0, get1, get2, get3, g4, g5, g6, g7, g8, g9, g10, g11, g12, g13, g14, g15, ok_if, List.length_nil, ok_eqNil, Bool.false_eq_true, if_false]
      refine ⟨Nat.zero_le _, ?_⟩
      by_cases hm0 : atN ts (i : Int) = []
      · simp only [hm0, decide_true, if_true, ok_var, ok_c, ok_bin, ok_acons, ok_anil, ok_fn, ok_f1, ok_f2, ok_call, ok_meth, ok_tob, ok_tup, ok_lst, ok_bnot, ok_band, ok_bor, posn, wipeD, List.set_cons_succ, List.set_cons_zero, get0, get1, get2, get3, g4, g5, g6, g7, g8, g9, g10, g11, g12, g13, g14, g15, fApp, if_pos len1]
        exact ⟨(by first | rfl | trivial), ⟨_, _, rfl⟩, fno C' (hb.mono (by omega))⟩
      · simp only [hm0, decide_false, Bool.false_eq_true, if_false, ok_var, ok_c, ok_bin, ok_acons, ok_anil, ok_fn, ok_f1, ok_f2, ok_call, ok_meth, ok_tob, ok_tup, ok_lst, ok_bnot, ok_band, ok_bor, posn, wipeD, List.set_cons_succ, List.set_cons_zero, get0, get1, get2, get3, g4, g5, g6, g7, g8, g9, g10, g11, g12, g13, g14, g15]
        refine ⟨(by first | rfl | trivial), take_ok (k := 0) rfl hb (by omega) (by omega) (by omega) fun q hq C2 hb2 => ?_⟩
        simp only [ok_eqI, Bool.false_eq_true, if_false, List.set_cons_zero, decide_eq_true_eq]
        by_cases hq0 : (q : Int) = 0
        · simp only [hq0, if_true, ok_var, ok_c, ok_bin, ok_acons, ok_anil, ok_fn, ok_f1, ok_f2, ok_call, ok_meth, ok_tob, ok_tup, ok_lst, ok_bnot, ok_band, ok_bor, posn, wipeD, List.set_cons_succ, List.set_cons_zero, get0, get1, get2, get3, g4, g5, g6, g7, g8, g9, g10, g11, g12, g13, g14, g15, fApp, if_pos len1]
          exact ⟨(by first | rfl | trivial), ⟨_, _, rfl⟩, fno C2 (hb2.mono (by omega))⟩
        · simp only [hq0, if_false, ok_var, ok_c, ok_bin, ok_acons, ok_anil, ok_fn, ok_f1, ok_f2, ok_call, ok_meth, ok_tob, ok_tup, ok_lst, ok_bnot, ok_band, ok_bor, posn, wipeD, List.set_cons_succ, List.set_cons_zero, get0, get1, get2, get3, g4, g5, g6, g7, g8, g9, g10, g11, g12, g13, g14, g15, ok_lenL, ln, ok_pMax]
          have hpos : 0 < (atN ts (i : Int)).length := List.length_pos_iff.mpr hm0
          have em : (if ((atN ts (i : Int)).length : Int) > 1 then ((atN ts (i : Int)).length : Int) else 1) = ((atN ts (i : Int)).length : Int) := by split <;> omega
          rw [em]
          refine ⟨(by first | rfl | trivial), take_ok (k := 0) rfl hb2 (by omega) (by omega) (by omega) fun p hp2 C3 hb3 => ?_⟩
          have hp3 : p < (atN ts (i : Int)).length := by omega
          simp only [ok_ixL, Me.atI_nat, nat_at hp3, List.set_cons_zero, ok_var, ok_c, ok_bin, ok_acons, ok_anil, ok_fn, ok_f1, ok_f2, ok_call, ok_meth, ok_tob, ok_tup, ok_lst, ok_bnot, ok_band, ok_bor, posn, wipeD, List.set_cons_succ, List.set_cons_zero, get0, get1, get2, get3, g4, g5, g6, g7, g8, g9, g10, g11, g12, g13, g14, g15, fApp, if_pos len1]
          exact ⟨(by first | rfl | trivial), ⟨_, _, rfl⟩, fin (some (((atN ts (i : Int))[p] : Nat) : Int)) C3 (fun z h => by cases h; exact ⟨_, rfl, List.getElem_mem hp3⟩) (hb3.mono (by omega))⟩
    · obtain ⟨⟨o3, o4, rfl⟩, la, C', rfl, ho, hb⟩ := hI
      rw [rngL_len] at ho hb
      simp only [oks_ret, ok_fn, ok_f1, ok_acons, ok_anil, ok_var, get2]
      rw [ok_tupC (xs := la.map oD) rfl]
      exact ⟨C', _, rfl, by simp only [D.cf, olasts_cf, hb.cf, Bool.and_self], la, rfl, ho, hb.mono (by omega)⟩
/-! ### loads that are drawn -/
theorem Lb.big {B : Int} (h : Lb l B) (h0 : 0 ≤ B) (h1 : B ≤ 1000000) (k : Nat) : (l.getD k 0).natAbs < 2 ^ 300 := by
  have h := h.get h0 k
  have h3 : (l.getD k 0).natAbs < 2 ^ 100 := by omega
  exact Nat.lt_trans h3 (by decide)
theorem Lb.set {B v : Int} (h : Lb l B) (h0 : 0 ≤ v) (h1 : v ≤ B) : Lb (l.set k v) B := fun x hx => by
  rcases List.mem_or_eq_of_mem_set hx with h2 | h2
  · exact h x h2
  · subst h2; exact ⟨h0, h1⟩
theorem Lb.up {B B' : Int} (h : Lb l B) (hb : B ≤ B') : Lb l B' := fun x hx => ⟨(h x hx).1, by have := (h x hx).2; omega⟩
theorem ifq {z : Nat} {r : Rho} {S' : List Cel} {Q : D → List Cel → Prop} (h3 : r[3]? = some (some (.int (z : Int)))) (h4 : r[4]? = some (some (.cell 1))) (h1 : S'[1]? = some (.lst (l.map D.int))) (hp : ∀ q : Nat, q ≤ z → (l.length = 0 → q = 0) → Q (.int (q : Int)) S') : Ok (eIf (toB (eBin (pEqA true) (eVar 4) (eLst aNil))) (eVar 3) (eC (.int 0)) r S') Q := by
  simp only [ok_if, ok_var, ok_c, ok_bin, ok_acons, ok_anil, ok_fn, ok_f1, ok_f2, ok_call, ok_meth, ok_tob, ok_tup, ok_lst, ok_bnot, ok_band, ok_bor, posn, wipeD, List.set_cons_succ, List.set_cons_zero, get0, get1, get2, get3, g4, g5, g6, g7, g8, g9, g10, g11, g12, g13, g14, g15, h3, h4, List.length_nil]
  refine ⟨Nat.zero_le _, ?_⟩
  rw [ok_eqC0 (f := D.int) (g := PyData.int) (fun _ _ => rfl) (fun _ => rfl) (fun a => by simp [PyData.depth]) h1]
  simp only [if_true]
  by_cases e : l = []
  · simp only [e, decide_true, Bool.not_true, Bool.false_eq_true, if_false, ok_c]
    exact hp 0 (by omega) fun _ => rfl
  · simp only [e, decide_false, Bool.not_false, if_true, ok_var, h3]
    exact hp z (Nat.le_refl _) fun h => absurd (List.length_eq_zero_iff.mp h) e
end

end K05
end
section
set_option Elab.async false
set_option linter.all false
set_option maxRecDepth 100000
set_option exponentiation.threshold 500
namespace K05
open PySem PySem.Spec L2 Me
open PyProof.Rows hiding St
section
variable {n node k : Nat} {ts : List Tk} {l : List Int} {la : List (Option Int)} {S : List Cel} {P : D → List Cel → Prop} {w : D} {E : Ex → List Cel → Prop}
theorem gx (xs : List Cel) (j : Nat) : (S ++ xs)[S.length + j]? = xs[j]? := by
  rw [List.getElem?_append_right (by omega)]
  congr 1
  omega
theorem sx (xs : List Cel) (j : Nat) (c : Cel) : (S ++ xs).set (S.length + j) c = S ++ xs.set j c := by
  rw [List.set_append_right _ _ (by omega)]
  congr 2
  omega
theorem gx0 (xs : List Cel) : (S ++ xs)[S.length]? = xs[0]? := gx xs 0
theorem sx0 (xs : List Cel) (c : Cel) : (S ++ xs).set S.length c = S ++ xs.set 0 c := sx xs 0 c
theorem ok_listL {xs : List D} : Ok (pList (.lst xs) S) P = P (.lst xs) S := rfl
theorem ok_listT {xs : List D} : Ok (pList (.tup xs) S) P = P (.lst xs) S := rfl
/-! ### who bars, in a new cell -/
theorem barsC_call (g : Good n ts l la) (hk : k < ts.length) (hp : P (.cell S.length) (S ++ [.lst ((barsN ts la k).map D.int)])) : Ok (callF F_bars_vc [stateD n ts l la, .int (k : Int)] S) P := by
  refine ok_callF (Q := fun xs => xs = (barsN ts la k).map D.int) ?_ (by simp only [D.cfL, D.cf, state_cf, Bool.and_true]) fun xs e => by rw [e]; exact hp
  unfold F_bars_vc
  rw [ok_runE]
  have e0 : stD N_bars_vc [stateD n ts l la, .int (k : Int)] = [some (stateD n ts l la), some (.int (k : Int)), none, none] := rfl
  rw [e0]
  unfold B_bars_vc
  rw [oks_seq, oks_drop]
  have hla := g.hla
  have fnet : ∀ (S : List Cel) (r : Rho) (P : D → List Cel → Prop), r[0]? = some (some (stateD n ts l la)) → Ok (eFld "State" "net" (eVar 0) r S) P = P (netD n ts) S := fun S r P h => by
    simp only [ok_fld, ok_var, h, stateD, ls_net]
    exact propext ⟨fun q => q.2, fun q => ⟨trivial, q⟩⟩
  simp only [ok_call, ok_acons, ok_anil, fnet _ _ _ get0, ok_var, get1, posn]
  refine ⟨rfl, checkTask_call hk ?_⟩
  rw [oks_ret]
  have v := tv g.hv hk
  refine ok_lcA (ts.getD k []) endD (bar la k) (fun a => .int a.1) ?_
  simp only [ok_iseq, ok_bin, ok_fld, ok_var, get0, get1, stateD, ls_net, netD, lk_tasks, ok_ixT, Me.atI_nat, tsk_get hk]
  refine ⟨(by first | rfl | trivial), (by first | rfl | trivial), (by first | rfl | trivial), (by first | rfl | trivial), (by first | rfl | trivial), by have := v.len; omega, fun a ha => ⟨_, rfl, ?_⟩, ?_⟩
  · obtain ⟨a0, a1⟩ := v.mem ha
    have a2 : a.1 < (la.length : Int) := by omega
    simp only [ok_var, ok_c, ok_bin, ok_acons, ok_anil, ok_fn, ok_f1, ok_f2, ok_call, ok_meth, ok_tob, ok_tup, ok_lst, ok_bnot, ok_band, ok_bor, posn, wipeD, List.set_cons_succ, List.set_cons_zero, get0, get1, get2, get3, g4, g5, g6, g7, g8, g9, g10, g11, g12, g13, g14, g15]
    unfold bar
    cases hb : a.2 with
    | false =>
      simp only [Bool.false_eq_true, if_false, Bool.false_and]
      exact ⟨trivial, trivial, fun z => by simp at z⟩
    | true =>
      simp only [if_true, ok_var, ok_c, ok_bin, ok_acons, ok_anil, ok_fn, ok_f1, ok_f2, ok_call, ok_meth, ok_tob, ok_tup, ok_lst, ok_bnot, ok_band, ok_bor, posn, wipeD, List.set_cons_succ, List.set_cons_zero, get0, get1, get2, get3, g4, g5, g6, g7, g8, g9, g10, g11, g12, g13, g14, g15, ok_fld, stateD, ls_lasts, lasts_ix a0 a2, ok_eqO2, Bool.false_eq_true, if_false, Bool.true_and]
      exact ⟨trivial, trivial, trivial, fun _ => ⟨trivial, trivial⟩⟩
  · rw [ok_asCel]
    have e1 : ((ts.getD k []).filter (bar la k)).map (fun a => D.int a.1) = (barsN ts la k).map D.int := by unfold barsN; rw [List.map_map]; rfl
    rw [e1]
    exact ⟨0, _, rfl, rfl, ints_cf _, rfl⟩
/-! ### a run, whatever comes -/
theorem runT_call (g : Good n ts l la) (hk : k < ts.length) (h0 : l.getD k 0 = 0 → E ⟨"NothingLeft", ["task"], [.int (k : Int)]⟩ S)
    (h1 : 0 < l.getD k 0 → barsN ts la k ≠ [] → E ⟨"Barred", ["nodes"], [.cell S.length]⟩ (S ++ [.lst ((barsN ts la k).map D.int)]))
    (h2 : legalB ts l la k = true → P (stateD n ts (ranL l k) (ranA ts la k)) (S ++ [.lst [], .dead, .dead])) : OkR (callT F_run_vt [stateD n ts l la, .int (k : Int)] S) P E := by
  have hkl : k < l.length := by rw [g.hl]; exact hk
  have hs := g.hs
  rw [okr_callT]
  unfold F_run_vt
  rw [okr_run]
  have e0 : stD N_run_vt [stateD n ts l la, .int (k : Int)] = [some (stateD n ts l la), some (.int (k : Int)), none, none, none, none] := rfl
  rw [e0]
  unfold B_run_vt
  have fnet : ∀ (S : List Cel) (r : Rho) (P : D → List Cel → Prop), r[0]? = some (some (stateD n ts l la)) → Ok (eFld "State" "net" (eVar 0) r S) P = P (netD n ts) S := fun S r P h => by
    simp only [ok_fld, ok_var, h, stateD, ls_net]
    exact propext ⟨fun q => q.2, fun q => ⟨trivial, q⟩⟩
  have fload : ∀ (S : List Cel) (r : Rho) (P : D → List Cel → Prop), r[0]? = some (some (stateD n ts l la)) → Ok (eFld "State" "load" (eVar 0) r S) P = P (loadT l) S := fun S r P h => by
    simp only [ok_fld, ok_var, h, stateD, ls_load]
    exact propext ⟨fun q => q.2, fun q => ⟨trivial, q⟩⟩
  have flast : ∀ (S : List Cel) (r : Rho) (P : D → List Cel → Prop), r[0]? = some (some (stateD n ts l la)) → Ok (eFld "State" "lasts" (eVar 0) r S) P = P (lastsT la) S := fun S r P h => by
    simp only [ok_fld, ok_var, h, stateD, ls_lasts]
    exact propext ⟨fun q => q.2, fun q => ⟨trivial, q⟩⟩
  have lC : ∀ (xs : List D) (S : List Cel) (P : D → List Cel → Prop), Ok (pListC (.tup xs) S) P = P (.cell S.length) (S ++ [.lst xs]) := fun _ _ _ => rfl
  rw [okx_seq]
  refine okx_of ?_
  rw [oks_drop]
  simp only [ok_call, ok_acons, ok_anil, fnet _ _ _ get0, ok_var, get1, posn]
  refine ⟨rfl, checkTask_call hk ?_⟩
  rw [okx_seq, okx_if]
  refine okr_of ?_
  simp only [ok_tob, ok_bin, fload _ _ _ get0, ok_var, get1, ld_ix (Or.inl rfl) hkl, ok_c, ok_eqI, Bool.false_eq_true, if_false]
  have hbd := g.hb.get (by omega) k
  by_cases hz : l.getD k 0 = 0
  · rw [if_pos (decide_eq_true hz), okx_raise]
    refine okr_of ?_
    rw [ok_var, get1]
    exact h0 hz
  have hpos : 0 < l.getD k 0 := by omega
  rw [if_neg (by rw [decide_eq_true_eq]; exact hz), okx_nx, okx_seq, okx_set]
  refine okr_of ?_
  simp only [ok_call, ok_acons, ok_anil, ok_var, get0, get1, posn]
  refine ⟨rfl, barsC_call g hk ?_⟩
  simp only [List.set_cons_succ, List.set_cons_zero]
  rw [okx_seq, okx_if]
  refine okr_of ?_
  rw [ok_truL, ok_var, get2]
  simp only [lstD, gx0, get0]
  by_cases hB : barsN ts la k ≠ []
  · have e1 : (!((barsN ts la k).map D.int).isEmpty) = true := by
      cases hq : barsN ts la k with
      | nil => exact absurd hq hB
      | cons a q => rfl
    rw [e1, if_pos rfl, okx_raise]
    refine okr_of ?_
    rw [ok_var, get2]
    exact h1 hpos hB
  have hB := Classical.not_not.mp hB
  have hL : legalB ts l la k = true := by
    unfold legalB
    rw [Bool.and_eq_true, decide_eq_true_eq, decide_eq_true_eq]
    exact ⟨hpos, hB⟩
  have g2 := g.run hk hpos
  rw [hB]
  simp only [List.map_nil, List.isEmpty_nil, Bool.not_true, Bool.false_eq_true, if_false]
  rw [okx_nx]
  refine okx_of ?_
  have A1 : ∀ a b : Cel, (S ++ [a]) ++ [b] = S ++ [a, b] := fun a b => by simp
  have A2 : ∀ a b c : Cel, (S ++ [a, b]) ++ [c] = S ++ [a, b, c] := fun a b c => by simp
  have L1 : ∀ a : Cel, (S ++ [a]).length = S.length + 1 := fun a => by simp
  have L2 : ∀ a b : Cel, (S ++ [a, b]).length = S.length + 2 := fun a b => by simp
  rw [oks_seq, oks_set]
  simp only [ok_fn, ok_acons, ok_anil, fload _ _ _ get0, ok_f1, loadT, lC, List.set_cons_succ, List.set_cons_zero, A1, L1]
  rw [oks_seq]
  refine oks_aug (neg := true) (a := 3) (b := 1) (c := 1) (k := S.length + 1) (j := k) (xs := l.map D.int) (z := l.getD k 0) (r := [some (stateD n ts l la), some (.int (k : Int)), some (.cell S.length), some (.cell (S.length + 1)), none, none]) (S := S ++ [.lst [], .lst (l.map D.int)]) rfl rfl (gx _ 1) (by omega) (ints_get hkl) ?_
  have e1 : (l.map D.int).set k (.int (if true = true then l.getD k 0 - 1 else l.getD k 0 + 1)) = (ranL l k).map D.int := by unfold ranL; rw [List.map_set]; rfl
  rw [e1, sx]
  simp only [List.set_cons_succ, List.set_cons_zero]
  rw [oks_seq, oks_set]
  simp only [ok_fn, ok_acons, ok_anil, flast _ _ _ get0, ok_f1, lastsT, lC, List.set_cons_succ, List.set_cons_zero, A2, L2]
  rw [oks_seq]
  have v := tv g.hv hk
  refine oks_for (fun s i r S' => (∃ o, r = [some (stateD n ts l la), some (.int (k : Int)), some (.cell S.length), some (.cell (S.length + 1)), some (.cell (S.length + 2)), o]) ∧ S' = S ++ [.lst [], .lst ((ranL l k).map D.int), .lst (((((ts.getD k []).map (·.1)).take i).foldl (fun a e => a.set e.toNat (some (k : Int))) la).map oD)]) ?_
  rw [ok_iseq, ok_meth, fnet _ _ _ get0]
  simp only [ok_acons, ok_anil, ok_var, get1, posn]
  refine ⟨⟨(by first | rfl | trivial), by decide⟩, rfl, ends_call hk ?_⟩
  refine ⟨trivial, ⟨⟨_, rfl⟩, rfl⟩, fun i d r S' hd _ hI => ?_, fun r S' _ hI => ?_⟩
  · obtain ⟨⟨o, rfl⟩, rfl⟩ := hI
    rw [List.getElem?_map, Option.map_eq_some_iff] at hd
    obtain ⟨e, he, rfl⟩ := hd
    obtain ⟨a0, a1⟩ := v.mem (List.mem_of_getElem? he)
    obtain ⟨a, ha⟩ : ∃ a : Nat, e.1 = (a : Int) := ⟨e.1.toNat, by omega⟩
    refine ⟨_, rfl, ?_⟩
    have e2 : ([some (stateD n ts l la), some (.int (k : Int)), some (.cell S.length), some (.cell (S.length + 1)), some (.cell (S.length + 2)), o] : Rho).set 5 (some (.int e.1)) = [some (stateD n ts l la), some (.int (k : Int)), some (.cell S.length), some (.cell (S.length + 1)), some (.cell (S.length + 2)), some (.int (a : Int))] := by rw [ha]; rfl
    rw [e2, oks_item]
    have fl : ∀ (q : List Int) (x : List (Option Int)), (q.foldl (fun a e => a.set e.toNat (some (k : Int))) x).length = x.length := fun q => by
      induction q with
      | nil => exact fun _ => rfl
      | cons e q ih => intro x; rw [List.foldl_cons, ih, List.length_set]
    have hla := g.hla
    have len : a < (((((ts.getD k []).map (·.1)).take i).foldl (fun a e => a.set e.toNat (some (k : Int))) la).map oD).length := by rw [List.length_map, fl]; omega
    simp only [ok_var, get1, g4, g5, gx, get2, ixN_nat len, sx, List.set_cons_succ, List.set_cons_zero]
    refine ⟨trivial, ⟨_, rfl⟩, ?_⟩
    have he2 : ((ts.getD k []).map (·.1))[i]? = some (a : Int) := by rw [List.getElem?_map, he, ← ha]; rfl
    rw [take_next he2, List.foldl_append, List.foldl_cons, List.foldl_nil, List.map_set, Int.toNat_natCast]
    rfl
  · obtain ⟨⟨o, rfl⟩, rfl⟩ := hI
    have e3 : ((((ts.getD k []).map (·.1)).take ((ts.getD k []).map fun p : Int × Bool => D.int p.1).length).foldl (fun a e => a.set e.toNat (some (k : Int))) la) = ranA ts la k := by
      rw [List.length_map, List.take_of_length_le (by rw [List.length_map]; omega), ends_sets v g.hla]
      rfl
    rw [e3, oks_frz, get3]
    simp only [gx, get1, sx, List.set_cons_succ, List.set_cons_zero]
    rw [oks_frz, g4]
    simp only [gx, get2, sx, List.set_cons_succ, List.set_cons_zero]
    rw [oks_ret]
    simp only [ok_new, ok_acons, ok_anil, fnet _ _ _ get0, ok_var, get3, g4, posn]
    refine ⟨rfl, newState g.sh g.h2 g2.hl (fun x hx => (g2.hb x hx).1) g2.hla g2.ho (h2 hL)⟩
/-! ### a run met -/
theorem met_call (g : Good n ts l la) (hk : k < ts.length) (h0 : l.getD k 0 = 0 → P (.lst [.str "nothing", .int (k : Int)]) S)
    (h1 : 0 < l.getD k 0 → barsN ts la k ≠ [] → P (.lst [.str "barred", .cell S.length]) (S ++ [.lst ((barsN ts la k).map D.int)]))
    (h2 : legalB ts l la k = true → P (.lst [.str "ran", stateD n ts (ranL l k) (ranA ts la k)]) (S ++ [.lst [], .dead, .dead])) : Ok (callT F_u_law_met [stateD n ts l la, .int (k : Int)] S) P := by
  rw [ok_callT]
  unfold F_u_law_met
  rw [ok_runE]
  have e0 : stD N_u_law_met [stateD n ts l la, .int (k : Int)] = [some (stateD n ts l la), some (.int (k : Int)), none] := rfl
  rw [e0]
  unfold B_u_law_met
  rw [oks_try, okx_ret, okr_lst]
  simp only [okr_acons, okr_anil, okr_c, okr_call, okr_var, get0, get1, posn]
  refine ⟨rfl, runT_call g hk (fun hz => ?_) (fun hp hb => ?_) fun hl => ⟨by rw [sz]; simp, h2 hl⟩⟩
  · refine ⟨⟨by simp, by simp⟩, ?_⟩
    show OkS (.rt (.lst [.str "nothing", .int (k : Int)]) S) _ _
    exact h0 hz
  · refine ⟨⟨by simp, by simp⟩, ?_⟩
    show OkS (.rt (.lst [.str "barred", .cell S.length]) _) _ _
    exact h1 hp hb
end

end K05
end
section
set_option Elab.async false
set_option linter.all false
set_option maxRecDepth 100000
set_option exponentiation.threshold 500
namespace K05
open PySem PySem.Spec L2 Me
open PyProof.Rows hiding St
section
variable {n node k : Nat} {ts : List Tk} {l : List Int} {la : List (Option Int)} {S : List Cel} {P : D → List Cel → Prop} {w : D}
/-! ### what can be printed, of states -/
theorem fn_load (h : Lb l 100000000000000000000) (hs : l.length ≤ 100) : Fn 10000 2 (.tuple (l.map PyData.int)) :=
  (fn_tup (g := PyData.int) (w := 67) (d := 1) l fun x hx => fn_int (by have := h x hx; omega) (by omega)).mono (by omega) (by omega)
theorem py_load : toPy S (loadT l) = some (.tuple (l.map PyData.int)) := by
  simp [toPy, loadT, pyD, py_ints]
theorem fn_oD {o : Option Int} (h : ∀ i, o = some i → 0 ≤ i ∧ i < 128) : Fn 40 1 (pO o) := by
  cases o with
  | none => exact ⟨rfl, rfl, by decide +kernel, by decide +kernel, by decide +kernel⟩
  | some i => exact (fn_int (b := 7) (by have := h i rfl; omega) (by omega)).mono (by omega) (by omega)
theorem fn_lasts (h : ∀ o ∈ la, ∀ i, o = some i → 0 ≤ i ∧ i < 128) (hl : la.length ≤ 100) : Fn 10000 2 (.tuple (la.map pO)) :=
  (fn_tup (g := pO) (w := 40) (d := 1) la fun o ho => fn_oD (h o ho)).mono (by omega) (by omega)
theorem py_lasts : toPy S (lastsT la) = some (.tuple (la.map pO)) := by
  have := py_map (c := cellPy 3 S) (f := oD) (g := pO) (fun o => py_oD o) la
  simp [toPy, lastsT, pyD, this]
theorem lasts_small (g : Good n ts l la) : ∀ o ∈ la, ∀ i, o = some i → 0 ≤ i ∧ i < 128 := fun o ho i hi => by
  obtain ⟨j, hj, rfl⟩ := List.mem_iff_getElem.mp ho
  have hn : j < n := by rw [← g.hla]; exact hj
  have e : la.getD j none = la[j] := by rw [List.getD_eq_getElem?_getD, List.getElem?_eq_getElem hj]; rfl
  obtain ⟨k, rfl, hk⟩ := g.ho j hn i (by rw [e]; exact hi)
  have := atN_lt hk
  have := g.hs
  omega
theorem sm_load (g : Good n ts l la) : Sm (.tuple (l.map PyData.int)) := (fn_load g.hb (by have := g.hl; have := g.hs; omega)).sm (by omega) (by omega)
theorem sm_lasts (g : Good n ts l la) : Sm (.tuple (la.map pO)) := (fn_lasts (lasts_small g) (by have := g.hla; have := g.h2; omega)).sm (by omega) (by omega)
/-! ### tasks as data -/
def tskP (t : Tk) : PyData := .tuple (t.map endP)
theorem py_tsk (c : Nat → Option (List PyData)) (t : Tk) : pyD c (tskD t) = some (tskP t) := by
  have := py_map (c := c) (f := endD) (g := endP) (fun p => py_end p) t
  simp [tskD, pyD, tskP, this]
theorem lay_tsk (t : Tk) : (tskP t).canLay0 = true := by
  simp only [tskP, PyData.canLay0]
  exact lay_map (g := endP) (fun _ => rfl) t
theorem dep_tsk (t : Tk) : (tskP t).depth ≤ 20 := by
  have := depth_map (g := endP) (n := 3) (fun a => by simp [PyData.depth, endP, PyData.depthAll]) t
  simp only [tskP, PyData.depth]
  omega
theorem ok_eqTsks {neg : Bool} : Ok (pEqA neg (.tup (ts.map tskD)) (.tup (ts.map tskD)) S) P = P (.bl (!neg)) S := by
  have e1 : toPy S (.tup (ts.map tskD)) = some (.tuple (ts.map tskP)) := by
    have := py_map (c := cellPy 3 S) (f := tskD) (g := tskP) (fun t => py_tsk _ t) ts
    simp [toPy, pyD, this]
  have sh : SeqAt.shaped (.tuple (ts.map tskP)) = true := shaped_tuple (n := 20) lay_tsk dep_tsk (by omega) ts
  have e3 : PyData.eqv (.tuple (ts.map tskP)) (.tuple (ts.map tskP)) = true := SeqAt.eqv_refl _ (by
    simp only [PyData.canLay0]
    exact lay_map (g := tskP) lay_tsk ts)
  unfold pEqA orR pEqT pEq
  simp only [e1, sh, Bool.and_true, if_true, e3]
  cases neg <;> rfl
/-! ### a state told -/
theorem isState_call (h : Wld w n ts) (g : Good n ts l la) (hp : P (.bl true) S) : Ok (callP F_u_law_is_state [stateD n ts l la, w, loadT l, lastsT la] S) P := by
  refine ok_callP (Q := fun d => d = .bl true) ?_ (by simp only [D.cfL, D.cf, state_cf, h.cf, loadT, ints_cf, lastsT, olasts_cf, Bool.and_true]) fun d e => by rw [e]; exact hp
  unfold F_u_law_is_state
  rw [ok_runE]
  have e0 : stD N_u_law_is_state [stateD n ts l la, w, loadT l, lastsT la] = [some (stateD n ts l la), some w, some (loadT l), some (lastsT la)] := rfl
  rw [e0]
  unfold B_u_law_is_state
  rw [oks_seq, oks_if]
  have fnet : ∀ (S : List Cel) (r : Rho) (P : D → List Cel → Prop), r[0]? = some (some (stateD n ts l la)) → Ok (eFld "State" "net" (eVar 0) r S) P = P (netD n ts) S := fun S r P h => by
    simp only [ok_fld, ok_var, h, stateD, ls_net]
    exact propext ⟨fun q => q.2, fun q => ⟨trivial, q⟩⟩
  have fload : ∀ (S : List Cel) (r : Rho) (P : D → List Cel → Prop), r[0]? = some (some (stateD n ts l la)) → Ok (eFld "State" "load" (eVar 0) r S) P = P (loadT l) S := fun S r P h => by
    simp only [ok_fld, ok_var, h, stateD, ls_load]
    exact propext ⟨fun q => q.2, fun q => ⟨trivial, q⟩⟩
  have flast : ∀ (S : List Cel) (r : Rho) (P : D → List Cel → Prop), r[0]? = some (some (stateD n ts l la)) → Ok (eFld "State" "lasts" (eVar 0) r S) P = P (lastsT la) S := fun S r P h => by
    simp only [ok_fld, ok_var, h, stateD, ls_lasts]
    exact propext ⟨fun q => q.2, fun q => ⟨trivial, q⟩⟩
  have nnodes : ∀ (S : List Cel) (r : Rho) (P : D → List Cel → Prop), r[0]? = some (some (stateD n ts l la)) → Ok (eFld "Net" "nodes" (eFld "State" "net" (eVar 0)) r S) P = P (.int (n : Int)) S := fun S r P h => by
    rw [ok_fld, fnet _ _ _ h]
    simp only [netD, lk_nodes]
    exact propext ⟨fun q => q.2, fun q => ⟨trivial, q⟩⟩
  have ntasks : ∀ (S : List Cel) (r : Rho) (P : D → List Cel → Prop), r[0]? = some (some (stateD n ts l la)) → Ok (eFld "Net" "tasks" (eFld "State" "net" (eVar 0)) r S) P = P (.tup (ts.map tskD)) S := fun S r P h => by
    rw [ok_fld, fnet _ _ _ h]
    simp only [netD, lk_tasks]
    exact propext ⟨fun q => q.2, fun q => ⟨trivial, q⟩⟩
  have isst : ∀ (S : List Cel) (r : Rho) (P : D → List Cel → Prop), r[0]? = some (some (stateD n ts l la)) → Ok (eIsC "State" (eVar 0) r S) P = P (.bl true) S := fun S r P h => by
    simp only [ok_isC, ok_var, h, stateD]
    exact propext ⟨fun q => q.2, fun q => ⟨trivial, q⟩⟩
  simp only [ok_bor, ok_bnot, ok_tob, isst _ _ _ get0, Bool.not_true, Bool.false_eq_true, if_false, ok_bin, nnodes _ _ _ get0, ok_var, get1, ok_c, w0 h, w1 h, ok_eqI, if_true, decide_true, ntasks _ _ _ get0, ok_fn, ok_f1, ok_acons, ok_anil, ok_tupL, ok_eqTsks]
  rw [oks_nx, oks_ret, ok_and, ok_bin, ok_fn]
  simp only [ok_acons, ok_anil, fload _ _ _ get0, ok_f1]
  refine ok_repr py_load (sm_load g) ?_
  simp only [ok_fn, ok_acons, ok_anil, ok_var, get2, ok_f1]
  refine ok_repr py_load (sm_load g) ?_
  simp only [ok_eqS, decide_true, Bool.false_eq_true, if_false, ok_bin, ok_fn, ok_acons, ok_anil, flast _ _ _ get0, ok_f1]
  refine ok_repr py_lasts (sm_lasts g) ?_
  simp only [ok_var, get3, ok_f1]
  refine ok_repr py_lasts (sm_lasts g) ?_
  simp only [ok_eqS, decide_true, Bool.false_eq_true, if_false]
  exact ⟨(by first | rfl | trivial), (by first | rfl | trivial)⟩
/-! ### a run is right -/
theorem py_intsL (xs : List Int) : Py (xs.map D.int) (xs.map PyData.int) := fun m S => py_map (c := cellPy (m + 1) S) (f := D.int) (g := PyData.int) (fun _ => rfl) xs
theorem bars_small (hv : ∀ t ∈ ts, Vt (n : Int) t) (hn : n ≤ 24) (hk : k < ts.length) : (barsN ts la k).length ≤ 2 ∧ ∀ x ∈ barsN ts la k, 0 ≤ x ∧ x < 128 := by
  have v := tv hv hk
  refine ⟨?_, fun x hx => ?_⟩
  · unfold barsN
    rw [List.length_map]
    exact Nat.le_trans (List.length_filter_le _ _) v.len
  · unfold barsN at hx
    obtain ⟨e, he, rfl⟩ := List.mem_map.mp hx
    obtain ⟨a0, a1⟩ := v.mem (List.mem_filter.mp he).1
    omega
theorem fn_bars (hv : ∀ t ∈ ts, Vt (n : Int) t) (hn : n ≤ 24) (hk : k < ts.length) : Fn 100 2 (.list ((barsN ts la k).map PyData.int)) := by
  obtain ⟨h1, h2⟩ := bars_small (la := la) hv hn hk
  exact (fn_list (g := PyData.int) (w := 7) (d := 1) (barsN ts la k) fun x hx => fn_int (by have := h2 x hx; omega) (by omega)).mono (by omega) (by omega)
theorem barsListed_call (g : Good n ts l la) (hk : k < ts.length) {j : Nat} (hj : S[j]? = some (.lst ((barsN ts la k).map D.int))) (hp : P (.bl true) (S.set j (.lst ((barsN ts la k).map D.int ++ [.non])))) : Ok (callB F_u_law_listed [.cell j, .lst ((barsN ts la k).map D.int)] S) P :=
  listed_call (ints_cf _) (py_intsL _) ((fn_bars g.hv g.h2 hk).sm (by omega) (by omega)) (by rw [List.length_map]; have := (bars_small (la := la) g.hv g.h2 hk).1; omega) hj hp
theorem told_bars (g : Good n ts l la) (h : Wld w n ts) (hk : k < ts.length) {r : Rho} {a b c d : Nat} (h1 : r[a]? = some (some (stateD n ts l la))) (h2 : r[b]? = some (some (.int (k : Int)))) (h3 : r[c]? = some (some w)) (h4 : r[d]? = some (some (lastsT la))) {Q : D → List Cel → Prop} (hq : ∀ c : Cel, Q (.bl true) (S ++ [c])) :
    Ok (eCall callB 2 F_u_law_listed posn (aCons (eCall callF 2 F_bars_vc posn (aCons (eVar a) (aCons (eVar b) aNil)) aNil) (aCons (eCall callP 3 F_u_law_bars posn (aCons (eVar c) (aCons (eVar d) (aCons (eVar b) aNil))) aNil) aNil)) aNil r S) Q := by
  simp only [ok_call, ok_acons, ok_anil, ok_var, h1, h2, h3, h4, posn]
  refine ⟨rfl, barsC_call g hk ?_⟩
  refine ⟨rfl, lawBars_call h g.hv hk g.hla ?_⟩
  refine ⟨rfl, barsListed_call g hk (by rw [gx0]; rfl) ?_⟩
  rw [sx0]
  exact hq _
theorem fn_pair {z : PyData} {p : PyData} (h1 : Fn 100 2 z) (h2 : Fn 100 2 p) : Fn 1000 3 (.list [z, p]) := by
  have := fn_list (g := fun q : PyData => q) (w := 100) (d := 2) [z, p] fun x hx => by
    simp only [List.mem_cons, List.not_mem_nil, or_false] at hx
    rcases hx with rfl | rfl
    · exact h1
    · exact h2
  exact Fn.mono this (by simp) (by omega)
theorem fn_nothing : Fn 100 2 (.str "nothing") := ⟨by decide +kernel, by decide +kernel, by decide +kernel, by decide +kernel, by decide +kernel⟩
theorem runRight_call (h : Wld w n ts) (g : Good n ts l la) (hk : k < ts.length) (hp : P (.bl true) S) : Ok (callP F_u_law_run_right [w, stateD n ts l la, loadT l, lastsT la, .int (k : Int)] S) P := by
  refine ok_callP (Q := fun d => d = .bl true) ?_ (by simp only [D.cfL, D.cf, state_cf, h.cf, loadT, ints_cf, lastsT, olasts_cf, Bool.and_true]) fun d e => by rw [e]; exact hp
  unfold F_u_law_run_right
  rw [ok_runE]
  have e0 : stD N_u_law_run_right [w, stateD n ts l la, loadT l, lastsT la, .int (k : Int)] = [some w, some (stateD n ts l la), some (loadT l), some (lastsT la), some (.int (k : Int)), none, none, none] := rfl
  rw [e0]
  unfold B_u_law_run_right
  have hkl : k < l.length := by rw [g.hl]; exact hk
  have hs := g.hs
  have hbd := g.hb.get (by omega) k
  rw [oks_seq, oks_par]
  simp only [ok_var, ok_c, ok_bin, ok_acons, ok_anil, ok_fn, ok_f1, ok_f2, ok_call, ok_meth, ok_tob, ok_tup, ok_lst, ok_bnot, ok_band, ok_bor, posn, wipeD, List.set_cons_succ, List.set_cons_zero, get0, get1, get2, get3, g4, g5, g6, g7, g8, g9, g10, g11, g12, g13, g14, g15]
  refine ⟨rfl, lawBars_call h g.hv hk g.hla ?_⟩
  refine ⟨rfl, met_call g hk (fun hz => ?_) (fun h0 hB => ?_) fun hL => ?_⟩
  · simp only [Me.putAll, wipeD, List.set_cons_succ, List.set_cons_zero, get0, get1, get2, get3, g4, g5, g6, g7, g8, g9, g10, g11, g12, g13, g14, g15, List.length_cons, List.length_nil]
    refine ⟨(by first | rfl | trivial), ?_⟩
    rw [oks_seq, oks_if]
    simp only [ok_var, ok_c, ok_bin, ok_acons, ok_anil, ok_fn, ok_f1, ok_f2, ok_call, ok_meth, ok_tob, ok_tup, ok_lst, ok_bnot, ok_band, ok_bor, posn, wipeD, List.set_cons_succ, List.set_cons_zero, get0, get1, get2, get3, g4, g5, g6, g7, g8, g9, g10, g11, g12, g13, g14, g15, ld_ix (Or.inl rfl) hkl, ok_eqI, hz, decide_true, Bool.false_eq_true, if_false, if_true]
    have fk : Fn 100 2 (.int (k : Int)) := (fn_int (b := 7) (by omega) (by omega)).mono (by omega) (by omega)
    have tp : ∀ S : List Cel, toPy S (.lst [.str "nothing", .int (k : Int)]) = some (.list [.str "nothing", .int (k : Int)]) := fun _ => rfl
    have s := (fn_pair fn_nothing fk).sm (by omega) (by omega)
    rw [oks_ret]
    simp only [ok_var, ok_c, ok_bin, ok_acons, ok_anil, ok_fn, ok_f1, ok_f2, ok_call, ok_meth, ok_tob, ok_tup, ok_lst, ok_bnot, ok_band, ok_bor, posn, wipeD, List.set_cons_succ, List.set_cons_zero, get0, get1, get2, get3, g4, g5, g6, g7, g8, g9, g10, g11, g12, g13, g14, g15]
    refine ok_repr (tp _) s ?_
    refine ⟨by rw [sz]; simp, ok_repr (tp _) s ?_⟩
    simp only [ok_eqS, decide_true, Bool.false_eq_true, if_false]
    exact ⟨(by first | rfl | trivial), (by first | rfl | trivial)⟩
  · simp only [Me.putAll, wipeD, List.set_cons_succ, List.set_cons_zero, get0, get1, get2, get3, g4, g5, g6, g7, g8, g9, g10, g11, g12, g13, g14, g15, List.length_cons, List.length_nil]
    refine ⟨(by first | rfl | trivial), ?_⟩
    have hz : ¬ l.getD k 0 = 0 := by omega
    rw [oks_seq, oks_if]
    simp only [ok_var, ok_c, ok_bin, ok_acons, ok_anil, ok_fn, ok_f1, ok_f2, ok_call, ok_meth, ok_tob, ok_tup, ok_lst, ok_bnot, ok_band, ok_bor, posn, wipeD, List.set_cons_succ, List.set_cons_zero, get0, get1, get2, get3, g4, g5, g6, g7, g8, g9, g10, g11, g12, g13, g14, g15, ld_ix (Or.inl rfl) hkl, ok_eqI, hz, decide_false, Bool.false_eq_true, if_false, oks_nx]
    rw [oks_seq, oks_if]
    simp only [ok_var, ok_c, ok_bin, ok_acons, ok_anil, ok_fn, ok_f1, ok_f2, ok_call, ok_meth, ok_tob, ok_tup, ok_lst, ok_bnot, ok_band, ok_bor, posn, wipeD, List.set_cons_succ, List.set_cons_zero, get0, get1, get2, get3, g4, g5, g6, g7, g8, g9, g10, g11, g12, g13, g14, g15, List.length_nil, ok_eqInts, if_true, hB, decide_false, Bool.not_false]
    refine ⟨Nat.zero_le _, ?_⟩
    rw [oks_ret, ok_and]
    simp only [ok_var, ok_c, ok_bin, ok_acons, ok_anil, ok_fn, ok_f1, ok_f2, ok_call, ok_meth, ok_tob, ok_tup, ok_lst, ok_bnot, ok_band, ok_bor, posn, wipeD, List.set_cons_succ, List.set_cons_zero, get0, get1, get2, get3, g4, g5, g6, g7, g8, g9, g10, g11, g12, g13, g14, g15, ok_ixL, atI_0, atI_1, ok_eqS, decide_true, Bool.false_eq_true, if_false]
    refine ⟨rfl, barsListed_call g hk rfl ?_⟩
    exact ⟨rfl, rfl⟩
  · simp only [Me.putAll, wipeD, List.set_cons_succ, List.set_cons_zero, get0, get1, get2, get3, g4, g5, g6, g7, g8, g9, g10, g11, g12, g13, g14, g15, List.length_cons, List.length_nil]
    refine ⟨(by first | rfl | trivial), ?_⟩
    have hL2 := hL
    unfold legalB at hL2
    rw [Bool.and_eq_true, decide_eq_true_eq, decide_eq_true_eq] at hL2
    have hz : ¬ l.getD k 0 = 0 := by omega
    rw [oks_seq, oks_if]
    simp only [ok_var, ok_c, ok_bin, ok_acons, ok_anil, ok_fn, ok_f1, ok_f2, ok_call, ok_meth, ok_tob, ok_tup, ok_lst, ok_bnot, ok_band, ok_bor, posn, wipeD, List.set_cons_succ, List.set_cons_zero, get0, get1, get2, get3, g4, g5, g6, g7, g8, g9, g10, g11, g12, g13, g14, g15, ld_ix (Or.inl rfl) hkl, ok_eqI, hz, decide_false, Bool.false_eq_true, if_false, oks_nx]
    rw [oks_seq, oks_if]
    simp only [ok_var, ok_c, ok_bin, ok_acons, ok_anil, ok_fn, ok_f1, ok_f2, ok_call, ok_meth, ok_tob, ok_tup, ok_lst, ok_bnot, ok_band, ok_bor, posn, wipeD, List.set_cons_succ, List.set_cons_zero, get0, get1, get2, get3, g4, g5, g6, g7, g8, g9, g10, g11, g12, g13, g14, g15, List.length_nil, ok_eqInts, if_true, hL2.2, decide_true, Bool.not_true, Bool.false_eq_true, if_false, oks_nx]
    refine ⟨Nat.zero_le _, ?_⟩
    rw [oks_seq, oks_set]
    simp only [ok_var, ok_c, ok_bin, ok_acons, ok_anil, ok_fn, ok_f1, ok_f2, ok_call, ok_meth, ok_tob, ok_tup, ok_lst, ok_bnot, ok_band, ok_bor, posn, wipeD, List.set_cons_succ, List.set_cons_zero, get0, get1, get2, get3, g4, g5, g6, g7, g8, g9, g10, g11, g12, g13, g14, g15]
    refine ⟨rfl, ran_call h (Or.inl rfl) hs (by have := g.h2; omega) g.hv hk g.hl g.hla ?_⟩
    try simp only [wipeD, List.set_cons_succ, List.set_cons_zero, get0, get1, get2, get3, g4, g5, g6, g7, g8, g9, g10, g11, g12, g13, g14, g15]
    rw [oks_ret, ok_and]
    simp only [ok_var, ok_c, ok_bin, ok_acons, ok_anil, ok_fn, ok_f1, ok_f2, ok_call, ok_meth, ok_tob, ok_tup, ok_lst, ok_bnot, ok_band, ok_bor, posn, wipeD, List.set_cons_succ, List.set_cons_zero, get0, get1, get2, get3, g4, g5, g6, g7, g8, g9, g10, g11, g12, g13, g14, g15, ok_ixL, ok_ixT, atI_0, atI_1, ok_eqS, decide_true, Bool.false_eq_true, if_false]
    refine ⟨rfl, isState_call h (g.run hk hL2.1) ?_⟩
    exact ⟨rfl, rfl⟩
end

end K05
end
section
set_option Elab.async false
set_option linter.all false
set_option maxRecDepth 100000
set_option exponentiation.threshold 500
namespace K05
open PySem PySem.Spec L2 Me
open PyProof.Rows hiding St
section
variable {n node k : Nat} {ts : List Tk} {l : List Int} {la : List (Option Int)} {S : List Cel} {P : D → List Cel → Prop} {w : D}
theorem legal_lt (g : Good n ts l la) (h : k ∈ legalN ts l la) : k < 128 := by
  have h1 := (legal_mem g h).1
  have h2 := g.hs
  omega
theorem sm_legal (g : Good n ts l la) : Sm (natsP (legalN ts l la)) := (fn_nats (fun _ h => legal_lt g h) (Nat.le_trans (legal_len g) (by omega))).sm (by omega) (by omega)
theorem told_legal (g : Good n ts l la) {r : Rho} {a b : Nat} (h1 : r[a]? = some (some (stateD n ts l la))) (h2 : r[b]? = some (some (.lst (nats (legalN ts l la))))) {Q : D → List Cel → Prop} (hq : ∀ c : Cel, Q (.bl true) (S ++ [c])) :
    Ok (eCall callB 2 F_u_law_listed posn (aCons (eCall callF 1 F_legal_vc posn (aCons (eVar a) aNil) aNil) (aCons (eVar b) aNil)) aNil r S) Q := by
  simp only [ok_call, ok_acons, ok_anil, ok_var, h1, h2, posn]
  refine ⟨rfl, legalC_call g ?_⟩
  refine ⟨rfl, listed_call (nats_cf _) (py_nats _) (sm_legal g) (by unfold nats; rw [List.length_map]; have := legal_len g; omega) (by rw [gx0]; rfl) ?_⟩
  rw [sx0]
  exact hq _
theorem py_mapM {α : Type} {c : Nat → Option (List PyData)} {f : α → D} {g : α → PyData} : ∀ xs : List α, (∀ a ∈ xs, pyD c (f a) = some (g a)) → pyL c (xs.map f) = some (xs.map g)
  | [], _ => rfl
  | a :: xs, h => by
    have h1 := h a (by simp)
    have h2 := py_mapM xs fun b hb => h b (List.mem_cons_of_mem _ hb)
    simp only [List.map_cons, pyL, h1, h2]
def barsP (ts : List Tk) (la : List (Option Int)) (k : Nat) : PyData := .list ((barsN ts la k).map PyData.int)
def barsC (ts : List Tk) (la : List (Option Int)) (k : Nat) : Cel := .lst ((barsN ts la k).map D.int)
def barsD (ts : List Tk) (la : List (Option Int)) (k : Nat) : D := .lst ((barsN ts la k).map D.int)
theorem py_bound {z : Nat} : toPy S (.lst ((List.range z).map (barsD ts la))) = some (.list ((List.range z).map (barsP ts la))) := by
  have := py_mapM (c := cellPy 3 S) (f := barsD ts la) (g := barsP ts la) (List.range z) fun k _ => by
    have := py_ints (c := cellPy 3 S) (barsN ts la k)
    simp [barsD, pyD, this, barsP]
  simp [toPy, pyD, this]
theorem py_rows {z : Nat} : toPy (S ++ (List.range z).map (barsC ts la)) (.lst ((List.range z).map fun j => .cell (S.length + j))) = some (.list ((List.range z).map (barsP ts la))) := by
  have := py_mapM (c := cellPy 3 (S ++ (List.range z).map (barsC ts la))) (f := fun j => D.cell (S.length + j)) (g := barsP ts la) (List.range z) fun k hk => by
    rw [List.mem_range] at hk
    have e1 : (S ++ (List.range z).map (barsC ts la))[S.length + k]? = some (barsC ts la k) := by
      rw [gx, List.getElem?_map, List.getElem?_range hk]
      rfl
    have e2 : cellPy 3 (S ++ (List.range z).map (barsC ts la)) (S.length + k) = some ((barsN ts la k).map PyData.int) := by
      show (match (S ++ (List.range z).map (barsC ts la))[S.length + k]? with
        | some (.lst xs) => pyL (cellPy 2 (S ++ (List.range z).map (barsC ts la))) xs
        | _ => none) = _
      rw [e1]
      exact py_ints _
    simp [pyD, e2, barsP]
  simp [toPy, pyD, this]
theorem sm_bound (g : Good n ts l la) : Sm (.list ((List.range l.length).map (barsP ts la))) := by
  have hl := g.hl
  have hs := g.hs
  have := fn_list (g := barsP ts la) (w := 100) (d := 2) (List.range l.length) fun k hk => by
    rw [List.mem_range] at hk
    exact fn_bars g.hv g.h2 (by omega)
  rw [List.length_range] at this
  exact this.sm (by omega) (by omega)
def toldD (n : Nat) (ts : List Tk) (l : List Int) (la : List (Option Int)) (k : Nat) : D := .lst [.str "ran", stateD n ts (ranL l k) (ranA ts la k)]
theorem legalB_pos (h : legalB ts l la k = true) : 0 < l.getD k 0 ∧ barsN ts la k = [] := by
  unfold legalB at h
  rw [Bool.and_eq_true, decide_eq_true_eq, decide_eq_true_eq] at h
  exact h
/-! ### a state is right -/
theorem moment_call (h : Wld w n ts) (g : Good n ts l la) (hp : P (.bl true) S) : Ok (callP F_u_law_moment [w, stateD n ts l la, loadT l, lastsT la] S) P := by
  refine ok_callP (Q := fun d => d = .bl true) ?_ (by simp only [D.cfL, D.cf, state_cf, h.cf, loadT, ints_cf, lastsT, olasts_cf, Bool.and_true]) fun d e => by rw [e]; exact hp
  unfold F_u_law_moment
  rw [ok_runE]
  have e0 : stD N_u_law_moment [w, stateD n ts l la, loadT l, lastsT la] = [some w, some (stateD n ts l la), some (loadT l), some (lastsT la), none, none, none, none, none, none, none, none] := rfl
  rw [e0]
  unfold B_u_law_moment
  have hs := g.hs
  have hl := g.hl
  have h2 := g.h2
  have hln := legal_len g
  have hnl : (nats (legalN ts l la)).length = (legalN ts l la).length := by simp [nats]
  rw [oks_seq, oks_set]
  simp only [ok_var, ok_c, ok_bin, ok_acons, ok_anil, ok_fn, ok_f1, ok_f2, ok_call, ok_meth, ok_tob, ok_tup, ok_lst, ok_bnot, ok_band, ok_bor, posn, wipeD, List.set_cons_succ, List.set_cons_zero, get0, get1, get2, get3, g4, g5, g6, g7, g8, g9, g10, g11, g12, g13, g14, g15]
  refine ⟨rfl, lawLegal_call h g ?_⟩
  try simp only [wipeD, List.set_cons_succ, List.set_cons_zero, get0, get1, get2, get3, g4, g5, g6, g7, g8, g9, g10, g11, g12, g13, g14, g15]
  rw [oks_seq, oks_if, ok_bnot, ok_tob]
  refine told_legal g get1 g4 fun c => ?_
  simp only [Bool.not_true, Bool.false_eq_true, if_false, oks_nx]
  rw [oks_seq]
  refine oks_for (fun s i r S' => ∃ o5 o10, r = [some w, some (stateD n ts l la), some (loadT l), some (lastsT la), some (.lst (nats (legalN ts l la))), o5, none, none, none, none, o10, none]) ?_
  simp only [ok_irng, ok_var, ok_c, ok_bin, ok_acons, ok_anil, ok_fn, ok_f1, ok_f2, ok_call, ok_meth, ok_tob, ok_tup, ok_lst, ok_bnot, ok_band, ok_bor, posn, wipeD, List.set_cons_succ, List.set_cons_zero, get0, get1, get2, get3, g4, g5, g6, g7, g8, g9, g10, g11, g12, g13, g14, g15, ld_len (Or.inl rfl), Int.toNat_natCast]
  refine ⟨small_nat (by omega), (by first | rfl | trivial), ⟨_, _, rfl⟩, fun i d r S' hd _ hI => ?_, fun r S' _ hI => ?_⟩
  · obtain ⟨o5, o10, rfl⟩ := hI
    obtain ⟨hi, rfl⟩ := rngL_get hd
    rw [Int.zero_add]
    refine ⟨_, rfl, ?_⟩
    simp only [gN, wipeD, List.set_cons_succ, List.set_cons_zero, get0, get1, get2, get3, g4, g5, g6, g7, g8, g9, g10, g11, g12, g13, g14, g15]
    have hit : i < ts.length := by omega
    refine oks_for (fun s j r S' => ∃ o10, r = [some w, some (stateD n ts l la), some (loadT l), some (lastsT la), some (.lst (nats (legalN ts l la))), some (.int (i : Int)), none, none, none, none, o10, none]) ?_
    simp only [ok_irng, ok_c]
    refine ⟨small_nat (n := 2) (by omega), (by first | rfl | trivial), ⟨_, rfl⟩, fun j d r S' hd _ hI => ?_, fun r S' _ hI => ?_⟩
    · obtain ⟨o10, rfl⟩ := hI
      refine ⟨_, rfl, ?_⟩
      simp only [gN, wipeD, List.set_cons_succ, List.set_cons_zero, get0, get1, get2, get3, g4, g5, g6, g7, g8, g9, g10, g11, g12, g13, g14, g15]
      rw [oks_seq, oks_if, ok_bnot, ok_tob]
      refine told_bars g h hit get1 g5 get0 get3 fun c => ?_
      simp only [Bool.not_true, Bool.false_eq_true, if_false, oks_nx]
      rw [oks_if]
      simp only [ok_var, ok_c, ok_bin, ok_acons, ok_anil, ok_fn, ok_f1, ok_f2, ok_call, ok_meth, ok_tob, ok_tup, ok_lst, ok_bnot, ok_band, ok_bor, posn, wipeD, List.set_cons_succ, List.set_cons_zero, get0, get1, get2, get3, g4, g5, g6, g7, g8, g9, g10, g11, g12, g13, g14, g15]
      refine ⟨rfl, runRight_call h g hit ?_⟩
      simp only [Bool.not_true, Bool.false_eq_true, if_false, oks_nx]
      exact ⟨(by first | rfl | trivial), _, rfl⟩
    · obtain ⟨o10, rfl⟩ := hI
      exact ⟨(by first | rfl | trivial), _, _, rfl⟩
  obtain ⟨o5, o10, rfl⟩ := hI
  rw [oks_seq, oks_set]
  refine ok_lcA (List.range l.length) (fun k : Nat => .int (k : Int)) (fun _ => true) (barsD ts la) ?_
  simp only [ok_irng, ok_var, ok_c, ok_bin, ok_acons, ok_anil, ok_fn, ok_f1, ok_f2, ok_call, ok_meth, ok_tob, ok_tup, ok_lst, ok_bnot, ok_band, ok_bor, posn, wipeD, List.set_cons_succ, List.set_cons_zero, get0, get1, get2, get3, g4, g5, g6, g7, g8, g9, g10, g11, g12, g13, g14, g15, ld_len (Or.inl rfl), Int.toNat_natCast]
  refine ⟨small_nat (by omega), (by first | rfl | trivial), (by first | rfl | trivial), rngL_eq _, by rw [List.length_range]; omega, fun i hi => ⟨_, rfl, ?_⟩, ?_⟩
  · rw [List.mem_range] at hi
    rw [ok_yes]
    refine ⟨rfl, rfl, fun _ => ?_⟩
    simp only [gN, ok_var, ok_c, ok_bin, ok_acons, ok_anil, ok_fn, ok_f1, ok_f2, ok_call, ok_meth, ok_tob, ok_tup, ok_lst, ok_bnot, ok_band, ok_bor, posn, wipeD, List.set_cons_succ, List.set_cons_zero, get0, get1, get2, get3, g4, g5, g6, g7, g8, g9, g10, g11, g12, g13, g14, g15]
    refine ⟨rfl, lawBars_call h g.hv (by omega) g.hla ?_⟩
    exact ⟨rfl, rfl⟩
  rw [filt_true, ok_asLst]
  try simp only [wipeD, List.set_cons_succ, List.set_cons_zero, get0, get1, get2, get3, g4, g5, g6, g7, g8, g9, g10, g11, g12, g13, g14, g15]
  rw [oks_seq, oks_par, ok_acons]
  refine ok_lc (fun s i acc S' => s.ds = nats (legalN ts l la) ∧ acc = ((legalN ts l la).take i).map (toldD n ts l la)) ?_
  simp only [ok_iseq, ok_var, g4]
  refine ⟨(by first | rfl | trivial), ⟨(by first | rfl | trivial), by simp⟩, fun i d acc S1 hd _ hI => ?_, fun acc S1 _ hI => ?_⟩
  · obtain ⟨_, rfl⟩ := hI
    obtain ⟨k, hk, rfl⟩ := nats_get hd
    have hm := legal_mem g (List.mem_of_getElem? hk)
    have hB := legalB_pos hm.2
    refine ⟨_, rfl, ?_⟩
    rw [ok_yes]
    simp only [gN, if_true, ok_var, ok_c, ok_bin, ok_acons, ok_anil, ok_fn, ok_f1, ok_f2, ok_call, ok_meth, ok_tob, ok_tup, ok_lst, ok_bnot, ok_band, ok_bor, posn, wipeD, List.set_cons_succ, List.set_cons_zero, get0, get1, get2, get3, g4, g5, g6, g7, g8, g9, g10, g11, g12, g13, g14, g15]
    refine ⟨rfl, met_call g hm.1 (fun hz => absurd hz (by omega)) (fun _ hz => absurd hB.2 hz) fun _ => ?_⟩
    refine ⟨(by first | rfl | trivial), by rw [sz, List.length_map, List.length_take]; omega, (by first | rfl | trivial), ?_⟩
    rw [take_next hk, List.map_append]
    rfl
  obtain ⟨_, rfl⟩ := hI
  rw [hnl, List.take_length, ok_asLst, ok_acons]
  refine ok_lc (fun s i acc S' => s.ds.length = l.length ∧ S' = S1 ++ (List.range i).map (barsC ts la) ∧ acc = (List.range i).map fun j => D.cell (S1.length + j)) ?_
  simp only [ok_irng, ok_var, ok_c, ok_bin, ok_acons, ok_anil, ok_fn, ok_f1, ok_f2, ok_call, ok_meth, ok_tob, ok_tup, ok_lst, ok_bnot, ok_band, ok_bor, posn, wipeD, List.set_cons_succ, List.set_cons_zero, get0, get1, get2, get3, g4, g5, g6, g7, g8, g9, g10, g11, g12, g13, g14, g15, ld_len (Or.inl rfl), Int.toNat_natCast]
  refine ⟨small_nat (by omega), (by first | rfl | trivial), ⟨by rw [rngL_len], by simp, by simp⟩, fun i d acc S2 hd _ hI => ?_, fun acc S2 _ hI => ?_⟩
  · obtain ⟨_, rfl, rfl⟩ := hI
    obtain ⟨hi, rfl⟩ := rngL_get hd
    rw [Int.zero_add]
    refine ⟨_, rfl, ?_⟩
    rw [ok_yes]
    simp only [gN, if_true, ok_var, ok_c, ok_bin, ok_acons, ok_anil, ok_fn, ok_f1, ok_f2, ok_call, ok_meth, ok_tob, ok_tup, ok_lst, ok_bnot, ok_band, ok_bor, posn, wipeD, List.set_cons_succ, List.set_cons_zero, get0, get1, get2, get3, g4, g5, g6, g7, g8, g9, g10, g11, g12, g13, g14, g15]
    refine ⟨rfl, barsC_call g (by omega) ?_⟩
    refine ⟨(by first | rfl | trivial), by rw [sz, List.length_map, List.length_range]; omega, by rw [rngL_len], ?_, ?_⟩
    · rw [List.range_succ, List.map_append, List.append_assoc]
      rfl
    · rw [List.range_succ, List.map_append, List.length_append, List.length_map, List.length_range]
      rfl
  obtain ⟨_, rfl, rfl⟩ := hI
  rw [rngL_len, ok_asLst]
  simp only [Me.putAll, wipeD, List.set_cons_succ, List.set_cons_zero, get0, get1, get2, get3, g4, g5, g6, g7, g8, g9, g10, g11, g12, g13, g14, g15, List.length_cons, List.length_nil]
  refine ⟨(by first | rfl | trivial), ?_⟩
  rw [oks_seq]
  refine oks_for (fun s i r S' => s.ds.length = (legalN ts l la).length ∧ ∃ o9 o11, r = [some w, some (stateD n ts l la), some (loadT l), some (lastsT la), some (.lst (nats (legalN ts l la))), o5, some (.lst ((List.range l.length).map (barsD ts la))), some (.lst ((legalN ts l la).map (toldD n ts l la))), some (.lst ((List.range l.length).map fun j => D.cell (S1.length + j))), o9, o10, o11] ∧ S' = S1 ++ (List.range l.length).map (barsC ts la)) ?_
  simp only [ok_irng, ok_var, ok_c, ok_bin, ok_acons, ok_anil, ok_fn, ok_f1, ok_f2, ok_call, ok_meth, ok_tob, ok_tup, ok_lst, ok_bnot, ok_band, ok_bor, posn, wipeD, List.set_cons_succ, List.set_cons_zero, get0, get1, get2, get3, g4, g5, g6, g7, g8, g9, g10, g11, g12, g13, g14, g15, ok_lenL, hnl, Int.toNat_natCast]
  refine ⟨small_nat (by omega), (by first | rfl | trivial), ⟨by rw [rngL_len], _, _, rfl, (by first | rfl | trivial)⟩, fun i d r S' hd _ hI => ?_, fun r S' _ hI => ?_⟩
  · obtain ⟨_, o9, o11, rfl, rfl⟩ := hI
    obtain ⟨hi, rfl⟩ := rngL_get hd
    rw [Int.zero_add]
    refine ⟨_, rfl, ?_⟩
    simp only [gN, wipeD, List.set_cons_succ, List.set_cons_zero, get0, get1, get2, get3, g4, g5, g6, g7, g8, g9, g10, g11, g12, g13, g14, g15]
    have hm := legal_mem g (List.getElem_mem hi)
    have hB := legalB_pos hm.2
    have et : ((legalN ts l la).map (toldD n ts l la))[i]? = some (toldD n ts l la (legalN ts l la)[i]) := by rw [List.getElem?_map, List.getElem?_eq_getElem hi]; rfl
    rw [oks_seq, oks_set]
    simp only [ok_var, ok_c, ok_bin, ok_acons, ok_anil, ok_fn, ok_f1, ok_f2, ok_call, ok_meth, ok_tob, ok_tup, ok_lst, ok_bnot, ok_band, ok_bor, posn, wipeD, List.set_cons_succ, List.set_cons_zero, get0, get1, get2, get3, g4, g5, g6, g7, g8, g9, g10, g11, g12, g13, g14, g15, ok_ixL, Me.atI_nat, nat_at hi]
    refine ⟨rfl, ran_call h (Or.inl rfl) hs (by omega) g.hv hm.1 g.hl g.hla ?_⟩
    try simp only [wipeD, List.set_cons_succ, List.set_cons_zero, get0, get1, get2, get3, g4, g5, g6, g7, g8, g9, g10, g11, g12, g13, g14, g15]
    rw [oks_if]
    simp only [ok_var, ok_c, ok_bin, ok_acons, ok_anil, ok_fn, ok_f1, ok_f2, ok_call, ok_meth, ok_tob, ok_tup, ok_lst, ok_bnot, ok_band, ok_bor, posn, wipeD, List.set_cons_succ, List.set_cons_zero, get0, get1, get2, get3, g4, g5, g6, g7, g8, g9, g10, g11, g12, g13, g14, g15, ok_ixL, ok_ixT, Me.atI_nat, et, toldD, atI_0, atI_1, ok_eqS, decide_true, Bool.not_true, if_true, Bool.false_eq_true, if_false]
    refine ⟨rfl, isState_call h (g.run hm.1 hB.1) ?_⟩
    simp only [Bool.not_true, Bool.false_eq_true, if_false, oks_nx]
    exact ⟨(by first | rfl | trivial), by rw [rngL_len], _, _, rfl, (by first | rfl | trivial)⟩
  obtain ⟨_, o9, o11, rfl, rfl⟩ := hI
  rw [oks_ret, ok_and]
  simp only [ok_var, ok_c, ok_bin, ok_acons, ok_anil, ok_fn, ok_f1, ok_f2, ok_call, ok_meth, ok_tob, ok_tup, ok_lst, ok_bnot, ok_band, ok_bor, posn, wipeD, List.set_cons_succ, List.set_cons_zero, get0, get1, get2, get3, g4, g5, g6, g7, g8, g9, g10, g11, g12, g13, g14, g15]
  refine ok_repr py_rows (sm_bound g) ?_
  refine ok_repr py_bound (sm_bound g) ?_
  simp only [ok_eqS, decide_true, Bool.false_eq_true, if_false]
  rw [ok_and]
  refine told_legal g get1 g4 fun c => ?_
  simp only [ok_var, ok_c, ok_bin, ok_acons, ok_anil, ok_fn, ok_f1, ok_f2, ok_call, ok_meth, ok_tob, ok_tup, ok_lst, ok_bnot, ok_band, ok_bor, posn, wipeD, List.set_cons_succ, List.set_cons_zero, get0, get1, get2, get3, g4, g5, g6, g7, g8, g9, g10, g11, g12, g13, g14, g15]
  refine ⟨rfl, isState_call h g ?_⟩
  exact ⟨rfl, rfl⟩
end

end K05
end
section
set_option Elab.async false
set_option linter.all false
set_option maxRecDepth 100000
set_option exponentiation.threshold 500
namespace K05
open PySem PySem.Spec L2 Me
open PyProof.Rows hiding St
section
variable {n node k : Nat} {ts : List Tk} {l : List Int} {la : List (Option Int)} {S : List Cel} {P : D → List Cel → Prop} {w : D}
/-! ### large worlds -/
/-- the sorted set of two numbers -/
theorem sset2 {x : M} {r : Rho} {a b : Nat} {S' : List Cel} (hx : ∀ Q : D → List Cel → Prop, Q (.lst [.int (a : Int), .int (b : Int)]) S' → Ok (x r S) Q) {m : Nat} (ha : a < m) (hb : b < m)
    (hp : ∀ nd : List Int, 1 ≤ nd.length → nd.length ≤ 2 → (∀ bs : List Bool, bs.length = nd.length → Vt m (nd.zip bs)) → P (.lst (nd.map D.int)) S') : Ok (eSset x r S) P := by
  unfold eSset
  rw [ok_eb]
  refine hx _ ?_
  rw [show ([D.int (a : Int), .int (b : Int)] : List D) = [(a : Int), (b : Int)].map D.int from rfl]
  simp only [lstD, Me.ints_map, List.length_cons, List.length_nil]
  rw [if_pos (by omega)]
  show P _ _
  by_cases hab : (a : Int) = (b : Int)
  · have e1 : once [(a : Int), (b : Int)] = [(b : Int)] := by simp [once, hab]
    have e2 : sortI [(b : Int)] = [(b : Int)] := List.perm_singleton.mp (sortI_perm _)
    rw [e1, e2]
    refine hp _ (by simp) (by simp) fun bs hbs => ?_
    match bs, hbs with
    | [c], _ => exact Or.inl ⟨b, c, rfl, by omega, by omega⟩
  · have e1 : once [(a : Int), (b : Int)] = [(a : Int), (b : Int)] := by simp [once, hab]
    rw [e1]
    obtain ⟨x, y, e6, hxy, hcase⟩ := sort2 hab
    rw [e6]
    refine hp _ (by simp) (by simp) fun bs hbs => ?_
    match bs, hbs with
    | [b1, b2], _ => exact Or.inr ⟨x, b1, y, b2, rfl, by omega, hxy, by omega⟩
/-- two ends that are drawn -/
theorem two_ends {m : Nat} {C : Cel} {T : List Cel} {r : Rho} {Q : D → List Cel → Prop} (h0 : r[0]? = some (some (.cell 0))) (h2 : r[2]? = some (some (.int (n : Int)))) (hn0 : 0 < n) (hn : n ≤ 100) (hB : Bx m C) (hm : m ≤ 900000)
    (hQ : ∀ nd : List Int, 1 ≤ nd.length → nd.length ≤ 2 → (∀ bs : List Bool, bs.length = nd.length → Vt n (nd.zip bs)) → ∀ C', Bx (m + 2) C' → Q (.lst (nd.map D.int)) (C' :: T)) :
    Ok (eSset (eLst (aCons (eCall callB 2 F_u_law_take posn (aCons (eVar 0) (aCons (eVar 2) aNil)) aNil) (aCons (eCall callB 2 F_u_law_take posn (aCons (eVar 0) (aCons (eVar 2) aNil)) aNil) aNil))) r (C :: T)) Q := by
  unfold eSset
  rw [ok_eb]
  simp only [ok_lst, ok_acons, ok_anil, ok_call, ok_var, h0, h2, posn]
  refine ⟨(by first | rfl | trivial), take_ok (k := 0) rfl hB (by omega) (by omega) (by omega) fun a ha C4 hb4 => ?_⟩
  refine ⟨(by first | rfl | trivial), take_ok (k := 0) rfl hb4 (by omega) (by omega) (by omega) fun b hb C5 hb5 => ?_⟩
  refine ⟨by rw [sz]; simp, ?_⟩
  have h := sset2 (S := C5 :: T) (S' := C5 :: T) (r := []) (x := eC (.lst [.int (a : Int), .int (b : Int)])) (P := Q) (m := n) (fun Q h => h) (by omega) (by omega) fun nd h1 h2 h3 => hQ nd h1 h2 h3 C5 hb5
  unfold eSset at h
  rw [ok_eb] at h
  exact h
def menuM (M : List Int) : D := .lst (M.map D.int)
/-! ### scenes -/
def sceneD (w : D) (l : List Int) (la : List (Option Int)) : D := .lst [w, loadT l, lastsT la]
theorem good_of (h1 : 1 ≤ n) (h2 : n ≤ 24) (hs : ts.length ≤ 100) (hv : ∀ t ∈ ts, Vt (n : Int) t) (hl : l.length = ts.length) {B : Int} (hb : Lb l B) (hB : B ≤ 100000000000000000000) (ho : Oks n ts la) : Good n ts l la := ⟨h1, h2, hs, hv, hl, hb.up hB, ho.len, ho.ok⟩
theorem large_call {m k : Nat} {C : Cel} {M : List Int} {B : Int} (hM1 : 1 ≤ M.length) (hM2 : M.length ≤ 1000) (hMb : Lb M B) (hB0 : 0 ≤ B) (hB2 : B ≤ 100000000000000000000) (hS : S[k]? = some C) (hB : Bx m C) (hm : m ≤ 700000)
    (hp : ∀ (n : Nat) (ts : List Tk) (l : List Int) (la : List (Option Int)) (C' : Cel), Good n ts l la → 9 ≤ ts.length → Bx (m + 700) C' → P (sceneD (worldK n ts) l la) (S.set k C')) : Ok (callB F_u_law_large [.cell k, menuM M] S) P := by
  refine ok_callB (Q := fun d C' => ∃ (n : Nat) (ts : List Tk) (l : List Int) (la : List (Option Int)), d = sceneD (worldK n ts) l la ∧ Good n ts l la ∧ 9 ≤ ts.length ∧ Bx (m + 700) C') hS ?_ (by simp only [menuM, D.cf, D.cfL, ints_cf, hB.cf, Bool.and_true]) fun d C' ⟨n, ts, l, la, e, h1, h2, h3⟩ => by rw [e]; exact hp n ts l la C' h1 h2 h3
  unfold F_u_law_large
  rw [ok_runE]
  have e0 : stD N_u_law_large [.cell 0, (menuM M)] = [some (.cell 0), some (menuM M), none, none, none, none, none, none, none, none, none, none, none] := rfl
  rw [e0]
  unfold B_u_law_large
  rw [oks_seq, oks_asg, ok_tup]
  simp only [ok_var, ok_c, ok_bin, ok_acons, ok_anil, ok_fn, ok_f1, ok_f2, ok_call, ok_meth, ok_tob, ok_tup, ok_lst, ok_bnot, ok_band, ok_bor, posn, wipeD, List.set_cons_succ, List.set_cons_zero, get0, get1, get2, get3, g4, g5, g6, g7, g8, g9, g10, g11, g12, g13, g14, g15]
  refine ⟨(by first | rfl | trivial), take_ok (k := 0) rfl hB (by omega) (by omega) (by omega) fun a ha C1 hb1 => ?_⟩
  simp only [ok_subI, List.set_cons_zero]
  refine ⟨(by first | rfl | trivial), take_ok (k := 0) rfl hb1 (by omega) (by omega) (by omega) fun b hb C2 hb2 => ?_⟩
  simp only [ok_subI, List.set_cons_zero, ok_cel, ok_anil, List.length_nil, List.length_cons, List.cons_append, List.nil_append, Nat.zero_add, Nat.reduceAdd]
  refine ⟨Nat.zero_le _, Nat.zero_le _, by rw [sz]; omega, ?_⟩
  obtain ⟨n, en, hn1, hn2⟩ : ∃ n : Nat, (24 : Int) - (a : Int) = (n : Int) ∧ 7 ≤ n ∧ n ≤ 24 := ⟨24 - a, by omega, by omega, by omega⟩
  obtain ⟨z, ez, hz1, hz2⟩ : ∃ z : Nat, (100 : Int) - (b : Int) = (z : Int) ∧ 9 ≤ z ∧ z ≤ 100 := ⟨100 - b, by omega, by omega, by omega⟩
  rw [en, ez]
  have e1 : gT 4 (gK (gN 2) (gK (gN 3) (gK (gN 4) (gK (gN 5) gZ)))) (.tup [.int (n : Int), .int (z : Int), .cell 1, .cell 2]) [some (.cell 0), some (menuM M), none, none, none, none, none, none, none, none, none, none, none] = some [some (.cell 0), some (menuM M), some (.int (n : Int)), some (.int (z : Int)), some (.cell 1), some (.cell 2), none, none, none, none, none, none, none] := rfl
  simp only [e1]
  rw [oks_seq]
  refine oks_for (fun s i r S' => (∃ o6 o10, r = [some (.cell 0), some (menuM M), some (.int (n : Int)), some (.int (z : Int)), some (.cell 1), some (.cell 2), o6, none, none, none, o10, none, none]) ∧ ∃ (ts : List Tk) (l : List Int) (C' : Cel), S' = [C', .lst (ts.map tskD), .lst (l.map D.int)] ∧ ts.length = i ∧ l.length = i ∧ (∀ t ∈ ts, Vt n t) ∧ Lb l B ∧ Bx (m + 2 + 5 * i) C') ?_
  simp only [ok_irng, ok_var, ok_c, ok_bin, ok_acons, ok_anil, ok_fn, ok_f1, ok_f2, ok_call, ok_meth, ok_tob, ok_tup, ok_lst, ok_bnot, ok_band, ok_bor, posn, wipeD, List.set_cons_succ, List.set_cons_zero, get0, get1, get2, get3, g4, g5, g6, g7, g8, g9, g10, g11, g12, g13, g14, g15, Int.toNat_natCast]
  refine ⟨small_nat (by omega), (by first | rfl | trivial), ⟨⟨_, _, rfl⟩, [], [], C2, rfl, rfl, rfl, fun t h => by simp at h, fun x h => by simp at h, hb2⟩, fun i d r S hd _ hI => ?_, fun r S _ hI => ?_⟩
  · obtain ⟨⟨o6, o10, rfl⟩, ts, l, C3, rfl, hts, hl, hv, hlb, hb3⟩ := hI
    obtain ⟨hi, rfl⟩ := rngL_get hd
    refine ⟨_, rfl, ?_⟩
    simp only [gN, wipeD, List.set_cons_succ, List.set_cons_zero, get0, get1, get2, get3, g4, g5, g6, g7, g8, g9, g10, g11, g12, g13, g14, g15]
    rw [oks_seq, oks_set]
    refine two_ends (n := n) rfl rfl (by omega) (by omega) hb3 (by omega) fun nd hnd1 hnd hvt C6 hb6 => ?_
    simp only [wipeD, List.set_cons_succ, List.set_cons_zero, get0, get1, get2, get3, g4, g5, g6, g7, g8, g9, g10, g11, g12, g13, g14, g15]
    rw [oks_seq, oks_drop, ok_mut]
    simp only [ok_var, g4, get1, ok_acons, ok_fn]
    have len1 : (ts.map tskD).length < sizeLine := by rw [sz, List.length_map]; omega
    have len2 : (l.map D.int).length < sizeLine := by rw [sz, List.length_map]; omega
    refine ends_ok (i := 0) (j := 0) (rw_ := []) (nd := nd) (m := m + 2 + 5 * i + 2) (Nat.le_trans hnd (by omega)) (fun PS h => by rw [ok_iseq, ok_var, g10]; exact h) hb6 (by omega) (fun y => ⟨_, rfl, fun C7 mm P hb7 hmm hp => ?_⟩) fun bs hbs C7 hb7 => ?_
    · simp only [gN, ok_tup, ok_acons, ok_anil, ok_var, ok_bin, ok_call, ok_c, wipeD, List.set_cons_succ, List.set_cons_zero, get0, get1, get2, get3, g4, g5, g6, g7, g8, g9, g10, g11, g12, g13, g14, g15, posn]
      refine ⟨(by first | rfl | trivial), take_ok (k := 0) rfl hb7 (by omega) (by omega) (by omega) fun b2 _ C9 hb9 => ?_⟩
      simp only [ok_gtI, List.set_cons_zero]
      exact ⟨by rw [sz]; simp, hp _ C9 hb9⟩
    · simp only [ok_anil, ok_f1, ok_tupL, get1, fApp, if_pos len1, wipeD, List.set_cons_succ, List.set_cons_zero, get0, get1, get2, get3, g4, g5, g6, g7, g8, g9, g10, g11, g12, g13, g14, g15]
      rw [oks_drop, ok_mut]
      unfold menuM
      simp only [ok_var, ok_c, ok_bin, ok_acons, ok_anil, ok_fn, ok_f1, ok_f2, ok_call, ok_meth, ok_tob, ok_tup, ok_lst, ok_bnot, ok_band, ok_bor, posn, wipeD, List.set_cons_succ, List.set_cons_zero, get0, get1, get2, get3, g4, g5, g6, g7, g8, g9, g10, g11, g12, g13, g14, g15, ok_lenL, List.length_map]
      refine ⟨(by first | rfl | trivial), take_ok (k := 0) rfl hb7 (by omega) (by omega) (by omega) fun c hc C8 hb8 => ?_⟩
      have hcl : c < M.length := by omega
      simp only [ok_ixL, Me.atI_nat, ints_get hcl, wipeD, List.set_cons_succ, List.set_cons_zero, get0, get1, get2, get3, g4, g5, g6, g7, g8, g9, g10, g11, g12, g13, g14, g15, fApp, if_pos len2]
      obtain ⟨hv0, hv1⟩ := hMb.get hB0 c
      generalize M.getD c 0 = v at hv0 hv1
      refine ⟨(by first | rfl | trivial), ⟨_, _, rfl⟩, ts ++ [nd.zip bs], l ++ [v], C8, by rw [List.map_append, List.map_append]; rfl, by simp [hts], by simp [hl], fun t ht => ?_, fun y hy => ?_, hb8.mono (by omega)⟩
      · rcases List.mem_append.mp ht with h | h
        · exact hv t h
        · simp at h
          rw [h]
          exact hvt bs hbs
      · rcases List.mem_append.mp hy with h | h
        · exact hlb y h
        · simp at h
          rw [h]
          exact ⟨hv0, hv1⟩
  · obtain ⟨⟨o6, o10, rfl⟩, ts, l, C3, rfl, hts, hl, hv, hlb, hb3⟩ := hI
    rw [rngL_len] at hts hl hb3
    have sh : Sh ts := ⟨by omega, fun t ht => (hv t ht).len⟩
    have hs := sh.1
    have h : Wld (worldK n ts) n ts := Or.inr rfl
    rw [oks_frz, g4]
    simp only [get1, wipeD, List.set_cons_succ, List.set_cons_zero, get0, get1, get2, get3, g4, g5, g6, g7, g8, g9, g10, g11, g12, g13, g14, g15]
    rw [oks_seq, oks_set]
    simp only [ok_var, ok_c, ok_bin, ok_acons, ok_anil, ok_fn, ok_f1, ok_f2, ok_call, ok_meth, ok_tob, ok_tup, ok_lst, ok_bnot, ok_band, ok_bor, posn, wipeD, List.set_cons_succ, List.set_cons_zero, get0, get1, get2, get3, g4, g5, g6, g7, g8, g9, g10, g11, g12, g13, g14, g15, List.length_cons, List.length_nil]
    refine ⟨by rw [sz]; omega, (by first | rfl | trivial), ?_⟩
    rw [show D.lst [D.int (n : Int), D.lst (ts.map tskD)] = worldD (n : Int) ts from rfl]
    refine known_call sh (by omega) ?_
    try simp only [wipeD, List.set_cons_succ, List.set_cons_zero, get0, get1, get2, get3, g4, g5, g6, g7, g8, g9, g10, g11, g12, g13, g14, g15]
    rw [oks_seq, oks_set, ok_cel]
    simp only [ok_anil, List.length_nil, List.length_cons, List.cons_append, List.nil_append, Nat.zero_add, Nat.reduceAdd, wipeD, List.set_cons_succ, List.set_cons_zero, get0, get1, get2, get3, g4, g5, g6, g7, g8, g9, g10, g11, g12, g13, g14, g15]
    refine ⟨Nat.zero_le _, ?_⟩
    rw [oks_seq]
    refine oks_for (fun s i r S' => (∃ o9 o11, r = [some (.cell 0), some (menuM M), some (.int (n : Int)), some (.int (z : Int)), some (.lst (ts.map tskD)), some (.cell 2), o6, some (worldK n ts), some (.cell 3), o9, o10, o11, none]) ∧ ∃ (la : List (Option Int)) (C' : Cel), S' = [C', .dead, .lst (l.map D.int), .lst (la.map oD)] ∧ Oks i ts la ∧ Bx (m + 502 + 2 * i) C') ?_
    simp only [ok_irng, ok_var, ok_c, ok_bin, ok_acons, ok_anil, ok_fn, ok_f1, ok_f2, ok_call, ok_meth, ok_tob, ok_tup, ok_lst, ok_bnot, ok_band, ok_bor, posn, wipeD, List.set_cons_succ, List.set_cons_zero, get0, get1, get2, get3, g4, g5, g6, g7, g8, g9, g10, g11, g12, g13, g14, g15, Int.toNat_natCast]
    refine ⟨small_nat (by omega), (by first | rfl | trivial), ⟨⟨_, _, rfl⟩, [], C3, rfl, ⟨rfl, fun node hh => absurd hh (by omega)⟩, hb3.mono (by omega)⟩, fun i d r S' hd _ hI => ?_, fun r S' _ hI => ?_⟩
    · obtain ⟨⟨o9, o11, rfl⟩, la, C', rfl, ho, hb⟩ := hI
      obtain ⟨hi, rfl⟩ := rngL_get hd
      rw [Int.zero_add]
      refine ⟨_, rfl, ?_⟩
      simp only [gN, wipeD, List.set_cons_succ, List.set_cons_zero, get0, get1, get2, get3, g4, g5, g6, g7, g8, g9, g10, g11, g12, g13, g14, g15]
      rw [oks_seq, oks_set]
      simp only [ok_var, ok_c, ok_bin, ok_acons, ok_anil, ok_fn, ok_f1, ok_f2, ok_call, ok_meth, ok_tob, ok_tup, ok_lst, ok_bnot, ok_band, ok_bor, posn, wipeD, List.set_cons_succ, List.set_cons_zero, get0, get1, get2, get3, g4, g5, g6, g7, g8, g9, g10, g11, g12, g13, g14, g15]
      refine ⟨(by first | rfl | trivial), at_call h sh hi (by omega) ?_⟩
      have lf : (atN ts (i : Int)).length ≤ 100 := Nat.le_trans (atN_len ts i) hs
      have ln : (nats (atN ts (i : Int))).length = (atN ts (i : Int)).length := by simp [nats]
      have len1 : (la.map oD).length < sizeLine := by rw [List.length_map, ho.len, sz]; omega
      try simp only [wipeD, List.set_cons_succ, List.set_cons_zero, get0, get1, get2, get3, g4, g5, g6, g7, g8, g9, g10, g11, g12, g13, g14, g15]
      rw [oks_drop, ok_mut]
      have fin : ∀ (v : Option Int) (C3 : Cel), okLast ts i v → Bx (m + 502 + 2 * (i + 1)) C3 → (∃ (la' : List (Option Int)) (C' : Cel), [C3, Cel.dead, Cel.lst (l.map D.int), Cel.lst (la.map oD ++ [oD v])] = [C', .dead, .lst (l.map D.int), .lst (la'.map oD)] ∧ Oks (i + 1) ts la' ∧ Bx (m + 502 + 2 * (i + 1)) C') := fun v C3 hv3 hb3 =>
        ⟨la ++ [v], C3, by simp, oks_snoc ho hv3, hb3⟩
      have fno : ∀ C3 : Cel, Bx (m + 502 + 2 * (i + 1)) C3 → (∃ (la' : List (Option Int)) (C' : Cel), [C3, Cel.dead, Cel.lst (l.map D.int), Cel.lst (la.map oD ++ [D.non])] = [C', .dead, .lst (l.map D.int), .lst (la'.map oD)] ∧ Oks (i + 1) ts la' ∧ Bx (m + 502 + 2 * (i + 1)) C') := fun C3 hb3 => fin none C3 (fun i h => by cases h) hb3
      simp only [ok_var, ok_c, ok_bin, ok_acons, ok_anil, ok_fn, ok_f1, ok_f2, ok_call, ok_meth, ok_tob, ok_tup, ok_lst, ok_bnot, ok_band, ok_bor, posn, wipeD, List.set_cons_succ, List.set_cons_zero, get0, get1, get2, get3, g4, g5, g6, g7, g8, g9, g10, g11, g12, g13, g14, g15, ok_if, List.length_nil, ok_eqNil, Bool.false_eq_true, if_false]
      refine ⟨Nat.zero_le _, ?_⟩
      by_cases hm0 : atN ts (i : Int) = []
      · simp only [hm0, decide_true, if_true, ok_var, ok_c, ok_bin, ok_acons, ok_anil, ok_fn, ok_f1, ok_f2, ok_call, ok_meth, ok_tob, ok_tup, ok_lst, ok_bnot, ok_band, ok_bor, posn, wipeD, List.set_cons_succ, List.set_cons_zero, get0, get1, get2, get3, g4, g5, g6, g7, g8, g9, g10, g11, g12, g13, g14, g15, fApp, if_pos len1]
        exact ⟨(by first | rfl | trivial), ⟨_, _, rfl⟩, fno C' (hb.mono (by omega))⟩
      · simp only [hm0, decide_false, Bool.false_eq_true, if_false, ok_var, ok_c, ok_bin, ok_acons, ok_anil, ok_fn, ok_f1, ok_f2, ok_call, ok_meth, ok_tob, ok_tup, ok_lst, ok_bnot, ok_band, ok_bor, posn, wipeD, List.set_cons_succ, List.set_cons_zero, get0, get1, get2, get3, g4, g5, g6, g7, g8, g9, g10, g11, g12, g13, g14, g15]
        refine ⟨(by first | rfl | trivial), take_ok (k := 0) rfl hb (by omega) (by omega) (by omega) fun q hq C2 hb2 => ?_⟩
        simp only [ok_eqI, Bool.false_eq_true, if_false, List.set_cons_zero, decide_eq_true_eq]
        by_cases hq0 : (q : Int) = 0
        · simp only [hq0, if_true, ok_var, ok_c, ok_bin, ok_acons, ok_anil, ok_fn, ok_f1, ok_f2, ok_call, ok_meth, ok_tob, ok_tup, ok_lst, ok_bnot, ok_band, ok_bor, posn, wipeD, List.set_cons_succ, List.set_cons_zero, get0, get1, get2, get3, g4, g5, g6, g7, g8, g9, g10, g11, g12, g13, g14, g15, fApp, if_pos len1]
          exact ⟨(by first | rfl | trivial), ⟨_, _, rfl⟩, fno C2 (hb2.mono (by omega))⟩
        · simp only [hq0, if_false, ok_var, ok_c, ok_bin, ok_acons, ok_anil, ok_fn, ok_f1, ok_f2, ok_call, ok_meth, ok_tob, ok_tup, ok_lst, ok_bnot, ok_band, ok_bor, posn, wipeD, List.set_cons_succ, List.set_cons_zero, get0, get1, get2, get3, g4, g5, g6, g7, g8, g9, g10, g11, g12, g13, g14, g15, ok_lenL, ln, ok_pMax]
          have hpos : 0 < (atN ts (i : Int)).length := List.length_pos_iff.mpr hm0
          have em : (if ((atN ts (i : Int)).length : Int) > 1 then ((atN ts (i : Int)).length : Int) else 1) = ((atN ts (i : Int)).length : Int) := by split <;> omega
          rw [em]
          refine ⟨(by first | rfl | trivial), take_ok (k := 0) rfl hb2 (by omega) (by omega) (by omega) fun p hp2 C3 hb3 => ?_⟩
          have hp3 : p < (atN ts (i : Int)).length := by omega
          simp only [ok_ixL, Me.atI_nat, nat_at hp3, List.set_cons_zero, ok_var, ok_c, ok_bin, ok_acons, ok_anil, ok_fn, ok_f1, ok_f2, ok_call, ok_meth, ok_tob, ok_tup, ok_lst, ok_bnot, ok_band, ok_bor, posn, wipeD, List.set_cons_succ, List.set_cons_zero, get0, get1, get2, get3, g4, g5, g6, g7, g8, g9, g10, g11, g12, g13, g14, g15, fApp, if_pos len1]
          exact ⟨(by first | rfl | trivial), ⟨_, _, rfl⟩, fin (some (((atN ts (i : Int))[p] : Nat) : Int)) C3 (fun z h => by cases h; exact ⟨_, rfl, List.getElem_mem hp3⟩) (hb3.mono (by omega))⟩
    · obtain ⟨⟨o9, o11, rfl⟩, la, C', rfl, ho, hb⟩ := hI
      rw [rngL_len] at ho hb
      simp only [oks_ret, ok_var, ok_c, ok_bin, ok_acons, ok_anil, ok_fn, ok_f1, ok_f2, ok_call, ok_meth, ok_tob, ok_tup, ok_lst, ok_bnot, ok_band, ok_bor, posn, wipeD, List.set_cons_succ, List.set_cons_zero, get0, get1, get2, get3, g4, g5, g6, g7, g8, g9, g10, g11, g12, g13, g14, g15]
      rw [ok_tupC (xs := l.map D.int) rfl, ok_tupC (xs := la.map oD) rfl]
      simp only [List.length_cons, List.length_nil]
      refine ⟨by rw [sz]; omega, C', _, rfl, by simp only [D.cf, D.cfL, worldK_cf, ints_cf, olasts_cf, hb.cf, Bool.and_self], n, ts, l, la, rfl, good_of (by omega) (by omega) hs hv (by omega) hlb hB2 ho, by omega, hb.mono (by omega)⟩
end

end K05
end
section
set_option Elab.async false
set_option linter.all false
set_option maxRecDepth 100000
set_option exponentiation.threshold 500
namespace K05
open PySem PySem.Spec L2 Me
open PyProof.Rows hiding St
section
variable {n node k : Nat} {ts : List Tk} {l : List Int} {la : List (Option Int)} {S : List Cel} {P : D → List Cel → Prop} {w : D}
/-! ### loads -/
def menuL : List Int := [1, 0, 2, 40, 700, 0]
theorem load_call {m k : Nat} {C : Cel} (h : Wld w n ts) (hs : ts.length ≤ 100) (hS : S[k]? = some C) (hB : Bx m C) (hm : m ≤ 800000)
    (hp : ∀ (l : List Int) (C' : Cel), l.length = ts.length → Lb l 100000000000000000000 → Bx (m + 200) C' → P (loadT l) (S.set k C')) : Ok (callB F_u_law_load [.cell k, w] S) P := by
  refine ok_callB (Q := fun d C' => ∃ l : List Int, d = loadT l ∧ l.length = ts.length ∧ Lb l 100000000000000000000 ∧ Bx (m + 200) C') hS ?_ (by simp only [D.cfL, D.cf, h.cf, hB.cf, Bool.and_true]) fun d C' ⟨l, e, h1, h2, h3⟩ => by rw [e]; exact hp l C' h1 h2 h3
  unfold F_u_law_load
  rw [ok_runE]
  have e0 : stD N_u_law_load [.cell 0, w] = [some (.cell 0), some w, none, none, none] := rfl
  rw [e0]
  unfold B_u_law_load
  rw [oks_seq, oks_par]
  simp only [ok_var, ok_c, ok_bin, ok_acons, ok_anil, ok_fn, ok_f1, ok_f2, ok_call, ok_meth, ok_tob, ok_tup, ok_lst, ok_bnot, ok_band, ok_bor, posn, wipeD, List.set_cons_succ, List.set_cons_zero, get0, get1, get2, get3, g4, g5, g6, g7, g8, g9, g10, g11, g12, g13, g14, g15]
  refine ⟨(by first | rfl | trivial), take_ok (k := 0) rfl hB (by omega) (by omega) (by omega) fun a ha C1 hb1 => ?_⟩
  simp only [ok_cel, ok_anil, List.length_nil, List.set_cons_zero, List.length_cons, List.cons_append, List.nil_append, Me.putAll, wipeD, List.set_cons_succ, List.set_cons_zero, get0, get1, get2, get3, g4, g5, g6, g7, g8, g9, g10, g11, g12, g13, g14, g15]
  refine ⟨Nat.zero_le _, (by first | rfl | trivial), ?_⟩
  rw [oks_seq]
  refine oks_for (fun s i r S' => (∃ o4, r = [some (.cell 0), some w, some (.int (a : Int)), some (.cell 1), o4]) ∧ ∃ (l : List Int) (C' : Cel), S' = [C', .lst (l.map D.int)] ∧ l.length = i ∧ Lb l 700 ∧ Bx (m + 1 + i) C') ?_
  simp only [ok_irng, ok_var, ok_c, ok_bin, ok_acons, ok_anil, ok_fn, ok_f1, ok_f2, ok_call, ok_meth, ok_tob, ok_tup, ok_lst, ok_bnot, ok_band, ok_bor, posn, wipeD, List.set_cons_succ, List.set_cons_zero, get0, get1, get2, get3, g4, g5, g6, g7, g8, g9, g10, g11, g12, g13, g14, g15, w1 h, ok_lenL, List.length_map, Int.toNat_natCast]
  refine ⟨small_nat (by omega), (by first | rfl | trivial), ⟨⟨_, rfl⟩, [], C1, rfl, rfl, fun x h => by simp at h, hb1⟩, fun i d r S' hd _ hI => ?_, fun r S' _ hI => ?_⟩
  · obtain ⟨⟨o4, rfl⟩, l, C2, rfl, hl, hlb, hb2⟩ := hI
    obtain ⟨hi, rfl⟩ := rngL_get hd
    refine ⟨_, rfl, ?_⟩
    have len1 : (l.map D.int).length < sizeLine := by rw [sz, List.length_map]; omega
    simp only [gN, wipeD, List.set_cons_succ, List.set_cons_zero, get0, get1, get2, get3, g4, g5, g6, g7, g8, g9, g10, g11, g12, g13, g14, g15]
    rw [oks_drop, ok_mut]
    simp only [ok_var, ok_c, ok_bin, ok_acons, ok_anil, ok_fn, ok_f1, ok_f2, ok_call, ok_meth, ok_tob, ok_tup, ok_lst, ok_bnot, ok_band, ok_bor, posn, wipeD, List.set_cons_succ, List.set_cons_zero, get0, get1, get2, get3, g4, g5, g6, g7, g8, g9, g10, g11, g12, g13, g14, g15, ok_lst, List.length_cons, List.length_nil]
    refine ⟨by rw [sz]; omega, (by first | rfl | trivial), take_ok (k := 0) rfl hb2 (by omega) (by omega) (by omega) fun c hc C3 hb3 => ?_⟩
    have hcl : c < menuL.length := by show c < 6; omega
    rw [show D.lst [D.int 1, .int 0, .int 2, .int 40, .int 700, .int 0] = menuM menuL from rfl]
    unfold menuM
    simp only [ok_ixL, Me.atI_nat, ints_get hcl, wipeD, List.set_cons_succ, List.set_cons_zero, get0, get1, get2, get3, g4, g5, g6, g7, g8, g9, g10, g11, g12, g13, g14, g15, fApp, if_pos len1, List.set_cons_zero]
    have hmb : Lb menuL 700 := by
      intro x hx
      simp only [menuL, List.mem_cons, List.not_mem_nil, or_false] at hx
      omega
    have hv := hmb.get (by omega) c
    refine ⟨(by first | rfl | trivial), ⟨_, rfl⟩, l ++ [menuL.getD c 0], C3, by rw [List.map_append]; rfl, by simp [hl], fun y hy => ?_, hb3.mono (by omega)⟩
    rcases List.mem_append.mp hy with q | q
    · exact hlb y q
    · simp at q
      rw [q]
      exact hv
  · obtain ⟨⟨o4, rfl⟩, l, C2, rfl, hl, hlb, hb2⟩ := hI
    rw [rngL_len] at hl hb2
    have fin : ∀ (l' : List Int) (C3 : Cel), l'.length = ts.length → Lb l' 100000000000000000000 → Bx (m + 200) C3 → OkS (sRet (eFn (f1 pTuple) (aCons (eVar 3) aNil)) [some (.cell 0), some w, some (.int (a : Int)), some (.cell 1), o4] [C3, .lst (l'.map D.int)]) (fun _ S1 => ∃ c' g, S1 = c' :: g ∧ (D.non.cf && c'.cf) = true ∧ ∃ l : List Int, D.non = loadT l ∧ l.length = ts.length ∧ Lb l 100000000000000000000 ∧ Bx (m + 200) c') (fun d S1 => ∃ c' g, S1 = c' :: g ∧ (d.cf && c'.cf) = true ∧ ∃ l : List Int, d = loadT l ∧ l.length = ts.length ∧ Lb l 100000000000000000000 ∧ Bx (m + 200) c') := fun l' C3 h1 h2 h3 => by
      rw [oks_ret]
      simp only [ok_var, ok_c, ok_bin, ok_acons, ok_anil, ok_fn, ok_f1, ok_f2, ok_call, ok_meth, ok_tob, ok_tup, ok_lst, ok_bnot, ok_band, ok_bor, posn, wipeD, List.set_cons_succ, List.set_cons_zero, get0, get1, get2, get3, g4, g5, g6, g7, g8, g9, g10, g11, g12, g13, g14, g15]
      rw [ok_tupC (xs := l'.map D.int) rfl]
      exact ⟨C3, _, rfl, by simp only [D.cf, ints_cf, h3.cf, Bool.and_self], l', rfl, h1, h2, h3⟩
    rw [oks_seq, oks_if]
    have eC0 : ∀ (S : List Cel) (P : D → List Cel → Prop), S[1]? = some (.lst (l.map D.int)) → Ok (pEqA true (.cell 1) (.lst []) S) P = P (.bl (!decide (l = []))) S := fun S P hh => by
      rw [ok_eqC0 (f := D.int) (g := PyData.int) (fun _ _ => rfl) (fun _ => rfl) (fun a => by simp [PyData.depth]) hh]
      rfl
    simp only [ok_var, ok_c, ok_bin, ok_acons, ok_anil, ok_fn, ok_f1, ok_f2, ok_call, ok_meth, ok_tob, ok_tup, ok_lst, ok_bnot, ok_band, ok_bor, posn, wipeD, List.set_cons_succ, List.set_cons_zero, get0, get1, get2, get3, g4, g5, g6, g7, g8, g9, g10, g11, g12, g13, g14, g15, ok_eqI, Bool.false_eq_true, if_false]
    by_cases ha0 : (a : Int) = 0
    · simp only [ha0, decide_true, if_true, ok_var, ok_c, ok_bin, ok_acons, ok_anil, ok_fn, ok_f1, ok_f2, ok_call, ok_meth, ok_tob, ok_tup, ok_lst, ok_bnot, ok_band, ok_bor, posn, wipeD, List.set_cons_succ, List.set_cons_zero, get0, get1, get2, get3, g4, g5, g6, g7, g8, g9, g10, g11, g12, g13, g14, g15, List.length_nil]
      refine ⟨Nat.zero_le _, ?_⟩
      rw [eC0 _ _ rfl]
      by_cases hl0 : l = []
      · simp only [hl0, decide_true, Bool.not_true, Bool.false_eq_true, if_false, oks_nx]
        have := fin [] C2 (by rw [← hl, hl0]) (fun x h => by simp at h) (hb2.mono (by omega))
        rw [← ha0]
        exact this
      · simp only [hl0, decide_false, Bool.not_false, if_true]
        have pw : CPow 10 19 := powW (by omega) (by omega) (by omega) (by omega)
        have hpos : 0 < l.length := List.length_pos_iff.mpr hl0
        rw [oks_item]
        simp only [ok_var, ok_c, ok_bin, ok_acons, ok_anil, ok_fn, ok_f1, ok_f2, ok_call, ok_meth, ok_tob, ok_tup, ok_lst, ok_bnot, ok_band, ok_bor, posn, wipeD, List.set_cons_succ, List.set_cons_zero, get0, get1, get2, get3, g4, g5, g6, g7, g8, g9, g10, g11, g12, g13, g14, g15, ok_powI pw]
        refine ⟨(by first | rfl | trivial), take_ok (k := 0) rfl hb2 (by omega) (by omega) (by omega) fun b hb C3 hb3 => ?_⟩
        simp only [ok_addI, ok_var, ok_c, ok_bin, ok_acons, ok_anil, ok_fn, ok_f1, ok_f2, ok_call, ok_meth, ok_tob, ok_tup, ok_lst, ok_bnot, ok_band, ok_bor, posn, wipeD, List.set_cons_succ, List.set_cons_zero, get0, get1, get2, get3, g4, g5, g6, g7, g8, g9, g10, g11, g12, g13, g14, g15, List.set_cons_zero, ok_lenC, List.length_map]
        refine ⟨(by first | rfl | trivial), take_ok (k := 0) rfl hb3 (by omega) (by omega) (by omega) fun c hc C4 hb4 => ?_⟩
        have hcl : c < l.length := by omega
        simp only [wipeD, List.set_cons_succ, List.set_cons_zero, get0, get1, get2, get3, g4, g5, g6, g7, g8, g9, g10, g11, g12, g13, g14, g15, List.set_cons_zero, List.length_map, ixN_nat hcl]
        rw [show ((10 : Int) ^ (19 : Int).toNat + (b : Int)) = 10000000000000000000 + (b : Int) from rfl]
        have := fin (l.set c (10000000000000000000 + (b : Int))) C4 (by rw [List.length_set]; exact hl) ((hlb.up (by omega)).set (by omega) (by omega)) (hb4.mono (by omega))
        rw [← ha0, ← List.map_set]
        exact this
    · simp only [ha0, decide_false, Bool.false_eq_true, if_false, oks_nx]
      exact fin l C2 hl (hlb.up (by omega)) (hb2.mono (by omega))
/-! ### a walk is right -/
theorem walk_call {m k : Nat} {C : Cel} (h : Wld w n ts) (g : Good n ts l la) (hS : S[k]? = some C) (hB : Bx m C) (hm : m ≤ 800000)
    (hp : ∀ C', Bx (m + 20) C' → P (.bl true) (S.set k C')) : Ok (callB F_u_law_walk_right [.cell k, w, stateD n ts l la, loadT l, lastsT la] S) P := by
  refine ok_callB (Q := fun d C' => d = .bl true ∧ Bx (m + 20) C') hS ?_ (by simp only [D.cfL, D.cf, h.cf, hB.cf, state_cf, loadT, ints_cf, lastsT, olasts_cf, Bool.and_true]) fun d C' ⟨e, h1⟩ => by rw [e]; exact hp C' h1
  unfold F_u_law_walk_right
  rw [ok_runE]
  have e0 : stD N_u_law_walk_right [.cell 0, w, stateD n ts l la, loadT l, lastsT la] = [some (.cell 0), some w, some (stateD n ts l la), some (loadT l), some (lastsT la), none, none, none] := rfl
  rw [e0]
  unfold B_u_law_walk_right
  have hts := g.hs
  have hn := g.h2
  rw [oks_seq]
  refine oks_for (fun s i r S' => s.ds.length ≤ 5 ∧ ∃ o5 o6 o7 l' la' C', r = [some (.cell 0), some w, some (stateD n ts l' la'), some (loadT l'), some (lastsT la'), o5, o6, o7] ∧ Good n ts l' la' ∧ S' = [C'] ∧ Bx (m + 1 + i) C') ?_
  simp only [ok_irng, ok_var, ok_c, ok_bin, ok_acons, ok_anil, ok_fn, ok_f1, ok_f2, ok_call, ok_meth, ok_tob, ok_tup, ok_lst, ok_bnot, ok_band, ok_bor, posn, wipeD, List.set_cons_succ, List.set_cons_zero, get0, get1, get2, get3, g4, g5, g6, g7, g8, g9, g10, g11, g12, g13, g14, g15]
  refine ⟨(by first | rfl | trivial), take_ok (k := 0) rfl hB (by omega) (by omega) (by omega) fun z hz C4 hb4 => ?_⟩
  simp only [ok_addI, List.set_cons_zero]
  rw [show (1 : Int) + (z : Int) = ((1 + z : Nat) : Int) by omega, Int.toNat_natCast]
  refine ⟨small_nat (by omega), (by first | rfl | trivial), ⟨by rw [rngL_len]; omega, _, _, _, l, la, C4, rfl, g, rfl, hb4⟩, fun i d r S' hd _ hI => ?_, fun r S1 _ hI => ?_⟩
  · obtain ⟨hq, o5, o6, o7, l', la', C', rfl, g', rfl, hb⟩ := hI
    have hi : i < 5 := Nat.lt_of_lt_of_le (List.getElem?_eq_some_iff.mp hd).1 hq
    refine ⟨_, rfl, ?_⟩
    simp only [gN, wipeD, List.set_cons_succ, List.set_cons_zero, get0, get1, get2, get3, g4, g5, g6, g7, g8, g9, g10, g11, g12, g13, g14, g15]
    rw [oks_seq, oks_set]
    simp only [ok_var, ok_c, ok_bin, ok_acons, ok_anil, ok_fn, ok_f1, ok_f2, ok_call, ok_meth, ok_tob, ok_tup, ok_lst, ok_bnot, ok_band, ok_bor, posn, wipeD, List.set_cons_succ, List.set_cons_zero, get0, get1, get2, get3, g4, g5, g6, g7, g8, g9, g10, g11, g12, g13, g14, g15]
    refine ⟨rfl, lawLegal_call h g' ?_⟩
    try simp only [wipeD, List.set_cons_succ, List.set_cons_zero, get0, get1, get2, get3, g4, g5, g6, g7, g8, g9, g10, g11, g12, g13, g14, g15]
    rw [oks_if]
    simp only [ok_var, ok_c, ok_bin, ok_acons, ok_anil, ok_fn, ok_f1, ok_f2, ok_call, ok_meth, ok_tob, ok_tup, ok_lst, ok_bnot, ok_band, ok_bor, posn, wipeD, List.set_cons_succ, List.set_cons_zero, get0, get1, get2, get3, g4, g5, g6, g7, g8, g9, g10, g11, g12, g13, g14, g15, List.length_nil, ok_eqNil, if_true]
    refine ⟨Nat.zero_le _, ?_⟩
    by_cases hf : legalN ts l' la' = []
    · simp only [hf, decide_true, Bool.not_true, Bool.false_eq_true, if_false, oks_nx]
      exact ⟨(by first | rfl | trivial), hq, _, _, _, l', la', C', rfl, g', rfl, hb.mono (by omega)⟩
    · simp only [hf, decide_false, Bool.not_false, if_true]
      have hfp : 0 < (legalN ts l' la').length := List.length_pos_iff.mpr hf
      have hfl := legal_len g'
      have hnl : (nats (legalN ts l' la')).length = (legalN ts l' la').length := by simp [nats]
      rw [oks_seq, oks_set]
      simp only [ok_var, ok_c, ok_bin, ok_acons, ok_anil, ok_fn, ok_f1, ok_f2, ok_call, ok_meth, ok_tob, ok_tup, ok_lst, ok_bnot, ok_band, ok_bor, posn, wipeD, List.set_cons_succ, List.set_cons_zero, get0, get1, get2, get3, g4, g5, g6, g7, g8, g9, g10, g11, g12, g13, g14, g15, ok_lenL, hnl]
      refine ⟨(by first | rfl | trivial), take_ok (k := 0) rfl hb (by omega) (by omega) (by omega) fun j hj C5 hb5 => ?_⟩
      have hj2 : j < (legalN ts l' la').length := by omega
      simp only [ok_ixL, Me.atI_nat, nat_at hj2, List.set_cons_zero, wipeD, List.set_cons_succ, List.set_cons_zero, get0, get1, get2, get3, g4, g5, g6, g7, g8, g9, g10, g11, g12, g13, g14, g15]
      have hm := legal_mem g' (List.getElem_mem hj2)
      have h0 := (legalB_pos hm.2).1
      have g2 := g'.run hm.1 h0
      rw [oks_seq, oks_set]
      simp only [ok_var, ok_c, ok_bin, ok_acons, ok_anil, ok_fn, ok_f1, ok_f2, ok_call, ok_meth, ok_tob, ok_tup, ok_lst, ok_bnot, ok_band, ok_bor, posn, wipeD, List.set_cons_succ, List.set_cons_zero, get0, get1, get2, get3, g4, g5, g6, g7, g8, g9, g10, g11, g12, g13, g14, g15]
      refine ⟨rfl, run_call g' hm.1 hm.2 ?_⟩
      try simp only [wipeD, List.set_cons_succ, List.set_cons_zero, get0, get1, get2, get3, g4, g5, g6, g7, g8, g9, g10, g11, g12, g13, g14, g15]
      rw [oks_seq, oks_asg]
      simp only [ok_var, ok_c, ok_bin, ok_acons, ok_anil, ok_fn, ok_f1, ok_f2, ok_call, ok_meth, ok_tob, ok_tup, ok_lst, ok_bnot, ok_band, ok_bor, posn, wipeD, List.set_cons_succ, List.set_cons_zero, get0, get1, get2, get3, g4, g5, g6, g7, g8, g9, g10, g11, g12, g13, g14, g15]
      refine ⟨rfl, ran_call h (Or.inl rfl) hts (by omega) g.hv hm.1 g'.hl g'.hla ?_⟩
      have e1 : ∀ (x : Rho), gT 2 (gK (gN 3) (gK (gN 4) gZ)) (.tup [loadT (ranL l' (legalN ts l' la')[j]), lastsT (ranA ts la' (legalN ts l' la')[j])]) x = some ((x.set 3 (some (loadT (ranL l' (legalN ts l' la')[j])))).set 4 (some (lastsT (ranA ts la' (legalN ts l' la')[j])))) := fun x => rfl
      simp only [e1, wipeD, List.set_cons_succ, List.set_cons_zero, get0, get1, get2, get3, g4, g5, g6, g7, g8, g9, g10, g11, g12, g13, g14, g15]
      rw [oks_if]
      simp only [ok_var, ok_c, ok_bin, ok_acons, ok_anil, ok_fn, ok_f1, ok_f2, ok_call, ok_meth, ok_tob, ok_tup, ok_lst, ok_bnot, ok_band, ok_bor, posn, wipeD, List.set_cons_succ, List.set_cons_zero, get0, get1, get2, get3, g4, g5, g6, g7, g8, g9, g10, g11, g12, g13, g14, g15]
      refine ⟨rfl, moment_call h g2 ?_⟩
      simp only [Bool.not_true, Bool.false_eq_true, if_false, oks_nx]
      exact ⟨(by first | rfl | trivial), hq, _, _, _, _, _, C5, rfl, g2, rfl, hb5.mono (by omega)⟩
  · obtain ⟨hq, o5, o6, o7, l', la', C', rfl, g', rfl, hb⟩ := hI
    rw [oks_ret, ok_c]
    exact ⟨C', [], rfl, by simp only [D.cf, hb.cf, Bool.and_self], rfl, hb.mono (by omega)⟩
/-! ### a large world is right -/
theorem largeRight_call {m k : Nat} {C : Cel} (hS : S[k]? = some C) (hB : Bx m C) (hm : m ≤ 600000) (hp : ∀ C', Bx (m + 710) C' → P (.bl true) (S.set k C')) : Ok (callB F_u_law_large_right [.cell k] S) P := by
  refine ok_callB (Q := fun d C' => d = .bl true ∧ Bx (m + 710) C') hS ?_ (by simp only [D.cfL, hB.cf, Bool.and_true]) fun d C' ⟨e, h⟩ => by rw [e]; exact hp C' h
  unfold F_u_law_large_right
  rw [ok_runE]
  have e0 : stD N_u_law_large_right [.cell 0] = [some (.cell 0), none, none, none, none, none] := rfl
  rw [e0]
  unfold B_u_law_large_right
  rw [oks_seq, oks_asg]
  simp only [ok_var, ok_c, ok_bin, ok_acons, ok_anil, ok_fn, ok_f1, ok_f2, ok_call, ok_meth, ok_tob, ok_tup, ok_lst, ok_bnot, ok_band, ok_bor, posn, wipeD, List.set_cons_succ, List.set_cons_zero, get0, get1, get2, get3, g4, g5, g6, g7, g8, g9, g10, g11, g12, g13, g14, g15, List.length_cons, List.length_nil]
  refine ⟨by rw [sz]; omega, (by first | rfl | trivial), ?_⟩
  rw [show D.lst [D.int 0, .int 1, .int 2] = menuM [0, 1, 2] from rfl]
  refine large_call (k := 0) (M := [0, 1, 2]) (B := 2) (by simp) (by simp) (fun x hx => by simp at hx; omega) (by omega) (by omega) rfl hB (by omega) fun n ts l la C1 g h9 hb1 => ?_
  have h : Wld (worldK n ts) n ts := Or.inr rfl
  have e1 : gU 3 (gK (gN 1) (gK (gN 2) (gK (gN 3) gZ))) (sceneD (worldK n ts) l la) [some (.cell 0), none, none, none, none, none] = some [some (.cell 0), some (worldK n ts), some (loadT l), some (lastsT la), none, none] := rfl
  simp only [e1, List.set_cons_zero]
  have hl := g.hl
  have hs := g.hs
  rw [oks_seq, oks_set]
  simp only [ok_var, ok_c, ok_bin, ok_acons, ok_anil, ok_fn, ok_f1, ok_f2, ok_call, ok_meth, ok_tob, ok_tup, ok_lst, ok_bnot, ok_band, ok_bor, posn, wipeD, List.set_cons_succ, List.set_cons_zero, get0, get1, get2, get3, g4, g5, g6, g7, g8, g9, g10, g11, g12, g13, g14, g15, ok_new, w0 h, w1 h, ok_listL]
  refine ⟨rfl, newNet g.h1 g.h2 g.hs g.hv ?_⟩
  unfold loadT lastsT
  simp only [ok_listT]
  refine ⟨rfl, newState (l := l) (la := la) g.sh g.h2 g.hl (fun x hx => (g.hb x hx).1) g.hla g.ho ?_⟩
  rw [show D.tup (l.map D.int) = loadT l from rfl, show D.tup (la.map oD) = lastsT la from rfl]
  try simp only [wipeD, List.set_cons_succ, List.set_cons_zero, get0, get1, get2, get3, g4, g5, g6, g7, g8, g9, g10, g11, g12, g13, g14, g15]
  rw [oks_seq, oks_if]
  simp only [ok_var, ok_c, ok_bin, ok_acons, ok_anil, ok_fn, ok_f1, ok_f2, ok_call, ok_meth, ok_tob, ok_tup, ok_lst, ok_bnot, ok_band, ok_bor, posn, wipeD, List.set_cons_succ, List.set_cons_zero, get0, get1, get2, get3, g4, g5, g6, g7, g8, g9, g10, g11, g12, g13, g14, g15]
  refine ⟨rfl, legalC_call g ?_⟩
  refine ⟨rfl, lawLegal_call h g ?_⟩
  refine ⟨rfl, listed_call (nats_cf _) (py_nats _) (sm_legal g) (by unfold nats; rw [List.length_map]; have := legal_len g; omega) (by rw [gx0]; rfl) ?_⟩
  rw [sx0]
  simp only [Bool.not_true, Bool.false_eq_true, if_false, oks_nx, List.set_cons_zero, List.cons_append, List.nil_append]
  rw [oks_seq]
  refine oks_for (fun s i r S' => ∃ o5 J C', r = [some (.cell 0), some (worldK n ts), some (loadT l), some (lastsT la), some (stateD n ts l la), o5] ∧ S' = C' :: J ∧ Bx (m + 702) C') ?_
  rw [ok_iseq]
  simp only [ok_var, ok_c, ok_bin, ok_acons, ok_anil, ok_fn, ok_f1, ok_f2, ok_call, ok_meth, ok_tob, ok_tup, ok_lst, ok_bnot, ok_band, ok_bor, posn, wipeD, List.set_cons_succ, List.set_cons_zero, get0, get1, get2, get3, g4, g5, g6, g7, g8, g9, g10, g11, g12, g13, g14, g15, ld_len (Or.inl rfl), ok_subI]
  refine ⟨(by first | rfl | trivial), take_ok (k := 0) rfl hb1 (by omega) (by omega) (by omega) fun a ha C2 hb2 => ?_⟩
  simp only [ok_var, ok_c, ok_bin, ok_acons, ok_anil, ok_fn, ok_f1, ok_f2, ok_call, ok_meth, ok_tob, ok_tup, ok_lst, ok_bnot, ok_band, ok_bor, posn, wipeD, List.set_cons_succ, List.set_cons_zero, get0, get1, get2, get3, g4, g5, g6, g7, g8, g9, g10, g11, g12, g13, g14, g15, ld_len (Or.inl rfl), List.set_cons_zero]
  refine ⟨(by first | rfl | trivial), take_ok (k := 0) rfl hb2 (by omega) (by omega) (by omega) fun b hb C3 hb3 => ?_⟩
  simp only [List.set_cons_zero, List.length_cons, List.length_nil]
  refine ⟨by rw [sz]; omega, ?_⟩
  rw [show (l.length : Int) - 1 = ((l.length - 1 : Nat) : Int) by omega]
  refine ⟨(by first | rfl | trivial), ⟨_, _, C3, rfl, rfl, hb3⟩, fun i d r S' hd _ hI => ?_, fun r S1 _ hI => ?_⟩
  · obtain ⟨o5, J, C', rfl, rfl, hbx⟩ := hI
    obtain ⟨k, hk, rfl⟩ : ∃ k : Nat, k < ts.length ∧ d = .int (k : Int) := by
      have := List.mem_of_getElem? hd
      simp only [List.mem_cons, List.not_mem_nil, or_false] at this
      rcases this with rfl | rfl | rfl
      · exact ⟨_, by omega, rfl⟩
      · exact ⟨_, by omega, rfl⟩
      · exact ⟨_, by omega, rfl⟩
    refine ⟨_, rfl, ?_⟩
    simp only [gN, wipeD, List.set_cons_succ, List.set_cons_zero, get0, get1, get2, get3, g4, g5, g6, g7, g8, g9, g10, g11, g12, g13, g14, g15]
    rw [oks_seq, oks_if, ok_bnot, ok_tob]
    refine told_bars g h hk g4 g5 get1 get3 fun c => ?_
    simp only [Bool.not_true, Bool.false_eq_true, if_false, oks_nx]
    rw [oks_if]
    simp only [ok_var, ok_c, ok_bin, ok_acons, ok_anil, ok_fn, ok_f1, ok_f2, ok_call, ok_meth, ok_tob, ok_tup, ok_lst, ok_bnot, ok_band, ok_bor, posn, wipeD, List.set_cons_succ, List.set_cons_zero, get0, get1, get2, get3, g4, g5, g6, g7, g8, g9, g10, g11, g12, g13, g14, g15]
    refine ⟨rfl, runRight_call h g hk ?_⟩
    simp only [Bool.not_true, Bool.false_eq_true, if_false, oks_nx]
    exact ⟨(by first | rfl | trivial), _, _, _, rfl, rfl, hbx⟩
  · obtain ⟨o5, J, C', rfl, rfl, hbx⟩ := hI
    rw [oks_ret, ok_c]
    exact ⟨C', _, rfl, by simp only [D.cf, hbx.cf, Bool.and_self], rfl, hbx.mono (by omega)⟩
end

end K05
end
section
set_option Elab.async false
set_option linter.all false
set_option maxRecDepth 100000
set_option exponentiation.threshold 500
namespace K05
open PySem PySem.Spec L2 Me
open PyProof.Rows hiding St
section
variable {n node k : Nat} {ts : List Tk} {l : List Int} {la : List (Option Int)} {S : List Cel} {P : D → List Cel → Prop} {w : D}
/-! ### rows of states -/
abbrev Q2 : Type := List Int × List (Option Int)
def rowT (n : Nat) (ts : List Tk) (q : Q2) : D := .tup [stateD n ts q.1 q.2, loadT q.1, lastsT q.2]
def legL (ts : List Tk) (q : Q2) : D := .lst (nats (legalN ts q.1 q.2))
def legP (ts : List Tk) (q : Q2) : PyData := natsP (legalN ts q.1 q.2)
theorem py_leg {qs : List Q2} : toPy S (.lst (qs.map (legL ts))) = some (.list (qs.map (legP ts))) := by
  have := py_mapM (c := cellPy 3 S) (f := legL ts) (g := legP ts) qs fun q _ => by
    have := py_map (c := cellPy 3 S) (f := fun k : Nat => D.int (k : Int)) (g := natP) (fun _ => rfl) (legalN ts q.1 q.2)
    simp [legL, nats, pyD, this, legP, natsP]
  simp [toPy, pyD, this]
theorem sm_leg {qs : List Q2} (h : ∀ q ∈ qs, Good n ts q.1 q.2) (hl : qs.length ≤ 2) : Sm (.list (qs.map (legP ts))) := by
  have := fn_list (g := legP ts) (w := 2000) (d := 2) qs fun q hq => fn_nats (fun _ hk => legal_lt (h q hq) hk) (Nat.le_trans (legal_len (h q hq)) (by omega))
  exact this.sm (by omega) (by omega)
/-! ### the law -/
theorem right_call {m k : Nat} {C : Cel} (hS : S[k]? = some C) (hB : Bx m C) (hm : m ≤ 500000) (hp : ∀ C' : Cel, P (.bl true) (S.set k C')) : Ok (callB F_u_law_right [.cell k] S) P := by
  refine ok_callB (Q := fun d _ => d = .bl true) hS ?_ (by simp only [D.cfL, hB.cf, Bool.and_true]) fun d C' e => by rw [e]; exact hp C'
  unfold F_u_law_right
  rw [ok_runE]
  have e0 : stD N_u_law_right [.cell 0] = [some (.cell 0), none, none, none, none, none, none, none, none, none, none] := rfl
  rw [e0]
  unfold B_u_law_right
  rw [oks_seq, oks_par]
  simp only [ok_var, ok_c, ok_bin, ok_acons, ok_anil, ok_fn, ok_f1, ok_f2, ok_call, ok_meth, ok_tob, ok_tup, ok_lst, ok_bnot, ok_band, ok_bor, posn, wipeD, List.set_cons_succ, List.set_cons_zero, get0, get1, get2, get3, g4, g5, g6, g7, g8, g9, g10, g11, g12, g13, g14, g15]
  refine ⟨(by first | rfl | trivial), take_ok (k := 0) rfl hB (by omega) (by omega) (by omega) fun a ha C1 hb1 => ?_⟩
  simp only [ok_eqI, Bool.false_eq_true, if_false, List.set_cons_zero]
  refine ⟨(by first | rfl | trivial), take_ok (k := 0) rfl hb1 (by omega) (by omega) (by omega) fun b hb C2 hb2 => ?_⟩
  simp only [ok_eqI, Bool.false_eq_true, if_false, List.set_cons_zero, Me.putAll, wipeD, List.set_cons_succ, List.set_cons_zero, get0, get1, get2, get3, g4, g5, g6, g7, g8, g9, g10, g11, g12, g13, g14, g15, List.length_cons, List.length_nil]
  refine ⟨(by first | rfl | trivial), ?_⟩
  rw [oks_seq]
  refine OkS.imp (N := fun r S' => ∃ C', r = [some (.cell 0), some (.bl (decide ((a : Int) = 0))), some (.bl (decide ((b : Int) = 0))), none, none, none, none, none, none, none, none] ∧ S' = [C'] ∧ Bx (m + 800) C') (T := fun _ _ => False) ?_ (fun r S' hI => ?_) (fun _ _ h => h.elim)
  · rw [oks_if]
    simp only [ok_var, ok_c, ok_bin, ok_acons, ok_anil, ok_fn, ok_f1, ok_f2, ok_call, ok_meth, ok_tob, ok_tup, ok_lst, ok_bnot, ok_band, ok_bor, posn, wipeD, List.set_cons_succ, List.set_cons_zero, get0, get1, get2, get3, g4, g5, g6, g7, g8, g9, g10, g11, g12, g13, g14, g15]
    by_cases ha0 : (a : Int) = 0
    · simp only [ha0, decide_true, if_true, ok_var, ok_c, ok_bin, ok_acons, ok_anil, ok_fn, ok_f1, ok_f2, ok_call, ok_meth, ok_tob, ok_tup, ok_lst, ok_bnot, ok_band, ok_bor, posn, wipeD, List.set_cons_succ, List.set_cons_zero, get0, get1, get2, get3, g4, g5, g6, g7, g8, g9, g10, g11, g12, g13, g14, g15]
      refine ⟨(by first | rfl | trivial), largeRight_call (k := 0) rfl hb2 (by omega) fun C3 hb3 => ?_⟩
      simp only [Bool.not_true, Bool.false_eq_true, if_false, oks_nx, List.set_cons_zero]
      exact ⟨C3, (by first | rfl | trivial), rfl, hb3.mono (by omega)⟩
    · simp only [ha0, decide_false, Bool.false_eq_true, if_false, oks_nx]
      exact ⟨C2, (by first | rfl | trivial), rfl, hb2.mono (by omega)⟩
  obtain ⟨C3, rfl, rfl, hb3⟩ := hI
  rw [oks_seq, oks_set]
  simp only [ok_var, ok_c, ok_bin, ok_acons, ok_anil, ok_fn, ok_f1, ok_f2, ok_call, ok_meth, ok_tob, ok_tup, ok_lst, ok_bnot, ok_band, ok_bor, posn, wipeD, List.set_cons_succ, List.set_cons_zero, get0, get1, get2, get3, g4, g5, g6, g7, g8, g9, g10, g11, g12, g13, g14, g15]
  refine ⟨(by first | rfl | trivial), world_call (k := 0) rfl hb3 (by omega) fun n ts0 C4 hn1 hn6 hts8 hv0 hb4 => ?_⟩
  simp only [wipeD, List.set_cons_succ, List.set_cons_zero, get0, get1, get2, get3, g4, g5, g6, g7, g8, g9, g10, g11, g12, g13, g14, g15, List.set_cons_zero]
  rw [oks_seq]
  refine OkS.imp (N := fun r S' => ∃ ts : List Tk, ts.length ≤ 8 ∧ (∀ t ∈ ts, Vt n t) ∧ r = [some (.cell 0), some (.bl (decide ((a : Int) = 0))), some (.bl (decide ((b : Int) = 0))), some (worldD n ts), none, none, none, none, none, none, none] ∧ S' = [C4]) (T := fun _ _ => False) ?_ (fun r S' hI => ?_) (fun _ _ h => h.elim)
  · rw [oks_if]
    simp only [ok_var, ok_c, ok_bin, ok_acons, ok_anil, ok_fn, ok_f1, ok_f2, ok_call, ok_meth, ok_tob, ok_tup, ok_lst, ok_bnot, ok_band, ok_bor, posn, wipeD, List.set_cons_succ, List.set_cons_zero, get0, get1, get2, get3, g4, g5, g6, g7, g8, g9, g10, g11, g12, g13, g14, g15]
    by_cases hb0 : (b : Int) = 0
    · simp only [hb0, decide_true, if_true]
      rw [oks_set]
      simp only [ok_var, ok_c, ok_bin, ok_acons, ok_anil, ok_fn, ok_f1, ok_f2, ok_call, ok_meth, ok_tob, ok_tup, ok_lst, ok_bnot, ok_band, ok_bor, posn, wipeD, List.set_cons_succ, List.set_cons_zero, get0, get1, get2, get3, g4, g5, g6, g7, g8, g9, g10, g11, g12, g13, g14, g15, w0 (Or.inl rfl), List.length_nil, List.length_cons]
      refine ⟨Nat.zero_le _, by rw [sz]; omega, [], by simp, fun t ht => by simp at ht, (by first | rfl | trivial), (by first | rfl | trivial)⟩
    · simp only [hb0, decide_false, Bool.false_eq_true, if_false, oks_nx]
      exact ⟨ts0, hts8, hv0, (by first | rfl | trivial), (by first | rfl | trivial)⟩
  obtain ⟨ts, hts, hv, rfl, rfl⟩ := hI
  have h : Wld (worldD (n : Int) ts) n ts := Or.inl rfl
  have sh : Sh ts := ⟨by omega, fun t ht => (hv t ht).len⟩
  rw [oks_seq, oks_par]
  simp only [ok_var, ok_c, ok_bin, ok_acons, ok_anil, ok_fn, ok_f1, ok_f2, ok_call, ok_meth, ok_tob, ok_tup, ok_lst, ok_bnot, ok_band, ok_bor, posn, wipeD, List.set_cons_succ, List.set_cons_zero, get0, get1, get2, get3, g4, g5, g6, g7, g8, g9, g10, g11, g12, g13, g14, g15, ok_new, w0 h, w1 h, ok_listL]
  refine ⟨rfl, newNet hn1 (by omega) (by omega) hv ?_⟩
  simp only [ok_cel, ok_anil, List.length_nil, List.length_cons, List.cons_append, List.nil_append, Me.putAll, wipeD, List.set_cons_succ, List.set_cons_zero, get0, get1, get2, get3, g4, g5, g6, g7, g8, g9, g10, g11, g12, g13, g14, g15]
  refine ⟨Nat.zero_le _, (by first | rfl | trivial), ?_⟩
  rw [oks_seq]
  refine oks_for (fun s i r S' => s.ds.length = 2 ∧ ∃ (o6 o8 o9 : Option D) (qs : List Q2) (C' : Cel), r = [some (.cell 0), some (.bl (decide ((a : Int) = 0))), some (.bl (decide ((b : Int) = 0))), some (worldD n ts), some (netD n ts), some (.cell 1), o6, none, o8, o9, none] ∧ S' = [C', .lst (qs.map (rowT n ts))] ∧ qs.length = i ∧ (∀ q ∈ qs, Good n ts q.1 q.2) ∧ Bx (m + 3000 + 400 * i) C') ?_
  simp only [ok_irng, ok_c]
  refine ⟨small_nat (n := 2) (by omega), (by first | rfl | trivial), ⟨by rw [rngL_len]; rfl, _, _, _, [], C4, rfl, rfl, rfl, fun q hq => by simp at hq, hb4.mono (by omega)⟩, fun i d r S' hd _ hI => ?_, fun r S' _ hI => ?_⟩
  · obtain ⟨hq2, o6, o8, o9, qs, C', rfl, rfl, hql, hg, hbx⟩ := hI
    have hi : i < 2 := by
      have := (List.getElem?_eq_some_iff.mp hd).1
      omega
    refine ⟨_, rfl, ?_⟩
    simp only [gN, wipeD, List.set_cons_succ, List.set_cons_zero, get0, get1, get2, get3, g4, g5, g6, g7, g8, g9, g10, g11, g12, g13, g14, g15]
    rw [oks_seq, oks_par]
    simp only [ok_var, ok_c, ok_bin, ok_acons, ok_anil, ok_fn, ok_f1, ok_f2, ok_call, ok_meth, ok_tob, ok_tup, ok_lst, ok_bnot, ok_band, ok_bor, posn, wipeD, List.set_cons_succ, List.set_cons_zero, get0, get1, get2, get3, g4, g5, g6, g7, g8, g9, g10, g11, g12, g13, g14, g15]
    refine ⟨(by first | rfl | trivial), load_call (k := 0) h (by omega) rfl hbx (by omega) fun l C5 hl hlb hb5 => ?_⟩
    simp only [List.set_cons_zero, ok_var, ok_c, ok_bin, ok_acons, ok_anil, ok_fn, ok_f1, ok_f2, ok_call, ok_meth, ok_tob, ok_tup, ok_lst, ok_bnot, ok_band, ok_bor, posn, wipeD, List.set_cons_succ, List.set_cons_zero, get0, get1, get2, get3, g4, g5, g6, g7, g8, g9, g10, g11, g12, g13, g14, g15]
    refine ⟨(by first | rfl | trivial), lasts_call (k := 0) h hv sh (by omega) rfl hb5 (by omega) fun la C6 ho hb6 => ?_⟩
    have g : Good n ts l la := ⟨hn1, by omega, by omega, hv, hl, hlb, ho.len, ho.ok⟩
    simp only [List.set_cons_zero, Me.putAll, wipeD, List.set_cons_succ, List.set_cons_zero, get0, get1, get2, get3, g4, g5, g6, g7, g8, g9, g10, g11, g12, g13, g14, g15, List.length_cons, List.length_nil]
    refine ⟨(by first | rfl | trivial), ?_⟩
    rw [oks_drop, ok_mut]
    simp only [ok_var, ok_c, ok_bin, ok_acons, ok_anil, ok_fn, ok_f1, ok_f2, ok_call, ok_meth, ok_tob, ok_tup, ok_lst, ok_bnot, ok_band, ok_bor, posn, wipeD, List.set_cons_succ, List.set_cons_zero, get0, get1, get2, get3, g4, g5, g6, g7, g8, g9, g10, g11, g12, g13, g14, g15, ok_new]
    unfold loadT lastsT
    simp only [ok_listT]
    refine ⟨rfl, newState (l := l) (la := la) g.sh g.h2 g.hl (fun x hx => (g.hb x hx).1) g.hla g.ho ?_⟩
    rw [show D.tup (l.map D.int) = loadT l from rfl, show D.tup (la.map oD) = lastsT la from rfl]
    have len1 : (qs.map (rowT n ts)).length < sizeLine := by rw [List.length_map, sz]; omega
    simp only [wipeD, List.set_cons_succ, List.set_cons_zero, get0, get1, get2, get3, g4, g5, g6, g7, g8, g9, g10, g11, g12, g13, g14, g15, List.length_cons, List.length_nil, fApp, if_pos len1]
    refine ⟨by rw [sz]; omega, (by first | rfl | trivial), hq2, _, _, _, qs ++ [(l, la)], C6, rfl, ?_, by simp [hql], fun q hq => ?_, hb6.mono (by omega)⟩
    · rw [List.map_append]
      rfl
    · rcases List.mem_append.mp hq with q1 | q1
      · exact hg q q1
      · simp at q1
        rw [q1]
        exact g
  obtain ⟨hq2, o6, o8, o9, qs, C5, rfl, rfl, hql, hg, hb5⟩ := hI
  rw [hq2] at hql hb5
  rw [oks_seq, oks_if, ok_tob, ok_bin, ok_fn, ok_acons]
  refine ok_lcA qs (rowT n ts) (fun _ => true) (legL ts) ?_
  simp only [ok_iseq, ok_var, g5, get1]
  refine ⟨(by first | rfl | trivial), (by first | rfl | trivial), (by first | rfl | trivial), by omega, fun q hq => ⟨_, rfl, ?_⟩, ?_⟩
  · rw [ok_yes]
    refine ⟨rfl, rfl, fun _ => ?_⟩
    simp only [gN, ok_var, ok_c, ok_bin, ok_acons, ok_anil, ok_fn, ok_f1, ok_f2, ok_call, ok_meth, ok_tob, ok_tup, ok_lst, ok_bnot, ok_band, ok_bor, posn, wipeD, List.set_cons_succ, List.set_cons_zero, get0, get1, get2, get3, g4, g5, g6, g7, g8, g9, g10, g11, g12, g13, g14, g15, rowT, ok_ixT, atI_0]
    refine ⟨rfl, legal_call (hg q hq) ?_⟩
    exact ⟨rfl, rfl⟩
  rw [filt_true, ok_asLst]
  simp only [ok_anil, ok_f1]
  refine ok_repr py_leg (sm_leg hg (by omega)) ?_
  rw [ok_fn, ok_acons]
  refine ok_lcA qs (rowT n ts) (fun _ => true) (legL ts) ?_
  simp only [ok_iseq, ok_var, g5, get1]
  refine ⟨(by first | rfl | trivial), (by first | rfl | trivial), (by first | rfl | trivial), by omega, fun q hq => ⟨_, rfl, ?_⟩, ?_⟩
  · rw [ok_yes]
    refine ⟨rfl, rfl, fun _ => ?_⟩
    simp only [gN, ok_var, ok_c, ok_bin, ok_acons, ok_anil, ok_fn, ok_f1, ok_f2, ok_call, ok_meth, ok_tob, ok_tup, ok_lst, ok_bnot, ok_band, ok_bor, posn, wipeD, List.set_cons_succ, List.set_cons_zero, get0, get1, get2, get3, g4, g5, g6, g7, g8, g9, g10, g11, g12, g13, g14, g15, rowT, ok_ixT, atI_1, atI_2]
    refine ⟨rfl, lawLegal_call h (hg q hq) ?_⟩
    exact ⟨rfl, rfl⟩
  rw [filt_true, ok_asLst]
  simp only [ok_anil, ok_f1]
  refine ok_repr py_leg (sm_leg hg (by omega)) ?_
  simp only [ok_eqS, decide_true, Bool.not_true, if_true, Bool.false_eq_true, if_false, oks_nx]
  have eT : ∀ (q : Q2) (x : Rho), gT 3 (gK (gN 7) (gK (gN 8) (gK (gN 9) gZ))) (rowT n ts q) x = some (((x.set 7 (some (stateD n ts q.1 q.2))).set 8 (some (loadT q.1))).set 9 (some (lastsT q.2))) := fun _ _ => rfl
  rw [oks_seq]
  refine oks_for (fun s i r S' => s.ds.length = 2 ∧ ∃ o7 o8 o9 C', r = [some (.cell 0), some (.bl (decide ((a : Int) = 0))), some (.bl (decide ((b : Int) = 0))), some (worldD n ts), some (netD n ts), some (.cell 1), o6, o7, o8, o9, none] ∧ S' = [C', .lst (qs.map (rowT n ts))] ∧ Bx (m + 3900 + 100 * i) C') ?_
  simp only [ok_iseq, ok_var, g5, get1]
  refine ⟨(by first | rfl | trivial), ⟨by rw [List.length_map]; exact hql, _, _, _, C5, rfl, rfl, hb5.mono (by omega)⟩, fun i d r S' hd _ hI => ?_, fun r S' _ hI => ?_⟩
  · obtain ⟨hq3, o7, o8, o9, C', rfl, rfl, hbx⟩ := hI
    have hi : i < 2 := by
      have := (List.getElem?_eq_some_iff.mp hd).1
      rw [List.length_map] at this
      omega
    rw [List.getElem?_map, Option.map_eq_some_iff] at hd
    obtain ⟨q, hq, rfl⟩ := hd
    have g := hg q (List.mem_of_getElem? hq)
    refine ⟨_, eT q _, ?_⟩
    simp only [wipeD, List.set_cons_succ, List.set_cons_zero, get0, get1, get2, get3, g4, g5, g6, g7, g8, g9, g10, g11, g12, g13, g14, g15]
    rw [oks_if]
    simp only [ok_var, ok_c, ok_bin, ok_acons, ok_anil, ok_fn, ok_f1, ok_f2, ok_call, ok_meth, ok_tob, ok_tup, ok_lst, ok_bnot, ok_band, ok_bor, posn, wipeD, List.set_cons_succ, List.set_cons_zero, get0, get1, get2, get3, g4, g5, g6, g7, g8, g9, g10, g11, g12, g13, g14, g15]
    refine ⟨rfl, moment_call h g ?_⟩
    simp only [Bool.not_true, Bool.false_eq_true, if_false, ok_var, ok_c, ok_bin, ok_acons, ok_anil, ok_fn, ok_f1, ok_f2, ok_call, ok_meth, ok_tob, ok_tup, ok_lst, ok_bnot, ok_band, ok_bor, posn, wipeD, List.set_cons_succ, List.set_cons_zero, get0, get1, get2, get3, g4, g5, g6, g7, g8, g9, g10, g11, g12, g13, g14, g15]
    refine ⟨rfl, walk_call (k := 0) h g rfl hbx (by omega) fun C6 hb6 => ?_⟩
    simp only [Bool.not_true, Bool.false_eq_true, if_false, oks_nx, List.set_cons_zero]
    exact ⟨rfl, hq3, _, _, _, C6, rfl, (by first | rfl | trivial), hb6.mono (by omega)⟩
  obtain ⟨hq3, o7, o8', o9', C6, rfl, rfl, hb6⟩ := hI
  rw [hq3] at hb6
  rw [oks_seq]
  refine oks_for (fun s i r S' => ∃ o7 o8 o9, r = [some (.cell 0), some (.bl (decide ((a : Int) = 0))), some (.bl (decide ((b : Int) = 0))), some (worldD n ts), some (netD n ts), some (.cell 1), o6, o7, o8, o9, none] ∧ S' = [C6, .lst (qs.map (rowT n ts))]) ?_
  simp only [ok_iseq, ok_var, g5, get1]
  refine ⟨(by first | rfl | trivial), ⟨_, _, _, (by first | rfl | trivial), (by first | rfl | trivial)⟩, fun i d r S' hd _ hI => ?_, fun r S' _ hI => ?_⟩
  · obtain ⟨o7, o8, o9, rfl, rfl⟩ := hI
    rw [List.getElem?_map, Option.map_eq_some_iff] at hd
    obtain ⟨q, hq, rfl⟩ := hd
    have g := hg q (List.mem_of_getElem? hq)
    refine ⟨_, eT q _, ?_⟩
    simp only [wipeD, List.set_cons_succ, List.set_cons_zero, get0, get1, get2, get3, g4, g5, g6, g7, g8, g9, g10, g11, g12, g13, g14, g15]
    rw [oks_if]
    simp only [ok_var, ok_c, ok_bin, ok_acons, ok_anil, ok_fn, ok_f1, ok_f2, ok_call, ok_meth, ok_tob, ok_tup, ok_lst, ok_bnot, ok_band, ok_bor, posn, wipeD, List.set_cons_succ, List.set_cons_zero, get0, get1, get2, get3, g4, g5, g6, g7, g8, g9, g10, g11, g12, g13, g14, g15]
    refine ⟨rfl, moment_call h g ?_⟩
    simp only [Bool.not_true, Bool.false_eq_true, if_false, oks_nx]
    exact ⟨rfl, _, _, _, (by first | rfl | trivial), (by first | rfl | trivial)⟩
  obtain ⟨o7, o8, o9, rfl, rfl⟩ := hI
  rw [oks_ret, ok_c]
  exact ⟨C6, _, rfl, by simp only [D.cf, hb6.cf, Bool.and_self], rfl⟩
theorem law_run (ns : List Int) (hl : ns.length ≤ 63) : Ok (F_law [.frl (ns.map D.int)] []) fun d _ => d = .bl true := by
  unfold F_law
  rw [ok_runE]
  have e0 : stD N_law [.frl (ns.map D.int)] = [some (.frl (ns.map D.int)), none] := rfl
  rw [e0]
  unfold B_law
  rw [oks_seq]
  refine oks_for (fun s i r S' => s.ds.length ≤ 63 ∧ ∃ o1, r = [some (.frl (ns.map D.int)), o1]) ?_
  simp only [ok_irng, ok_var, ok_c, ok_bin, ok_acons, ok_anil, ok_fn, ok_f1, ok_f2, ok_call, ok_meth, ok_tob, ok_tup, ok_lst, ok_bnot, ok_band, ok_bor, posn, wipeD, List.set_cons_succ, List.set_cons_zero, get0, get1, get2, get3, g4, g5, g6, g7, g8, g9, g10, g11, g12, g13, g14, g15, ok_lenF, List.length_map, ok_pMin, ok_pMax]
  obtain ⟨z, ez, hz⟩ : ∃ z : Nat, (if (if (ns.length : Int) < 3 then (ns.length : Int) else 3) > 2 then (if (ns.length : Int) < 3 then (ns.length : Int) else 3) else 2) = (z : Int) ∧ z ≤ 63 := by
    refine ⟨_, (Int.toNat_of_nonneg ?_).symm, ?_⟩ <;> (repeat' split) <;> omega
  rw [ez, Int.toNat_natCast]
  refine ⟨small_nat (by omega), (by first | rfl | trivial), ⟨by rw [rngL_len]; exact hz, _, rfl⟩, fun i d r S' hd _ hI => ?_, fun r S1 _ hI => ?_⟩
  · obtain ⟨hq, o1, rfl⟩ := hI
    obtain ⟨hi, rfl⟩ := rngL_get hd
    rw [Int.zero_add]
    refine ⟨_, rfl, ?_⟩
    simp only [gN, wipeD, List.set_cons_succ, List.set_cons_zero, get0, get1, get2, get3, g4, g5, g6, g7, g8, g9, g10, g11, g12, g13, g14, g15]
    rw [oks_if]
    simp only [ok_var, ok_c, ok_bin, ok_acons, ok_anil, ok_fn, ok_f1, ok_f2, ok_call, ok_meth, ok_tob, ok_tup, ok_lst, ok_bnot, ok_band, ok_bor, posn, wipeD, List.set_cons_succ, List.set_cons_zero, get0, get1, get2, get3, g4, g5, g6, g7, g8, g9, g10, g11, g12, g13, g14, g15]
    refine ⟨rfl, cell_call hl (by omega) fun g => ?_⟩
    refine ⟨rfl, box_call fun C hC => ?_⟩
    refine ⟨rfl, right_call (k := S'.length) (by simp) hC (by omega) fun C' => ?_⟩
    simp only [Bool.not_true, Bool.false_eq_true, if_false, oks_nx]
    exact ⟨(by first | rfl | trivial), hq, _, rfl⟩
  · obtain ⟨hq, o1, rfl⟩ := hI
    rw [oks_ret, ok_c]
end

end K05
end
section
set_option Elab.async false
set_option linter.all false
set_option maxRecDepth 100000
set_option maxHeartbeats 0
namespace K05
open PySem PySem.Spec PyProof.Rows L2
theorem entry {P : Program} {w : World} {K : PySem.W.Frag} {h : Heap} {mg : PySem.Str → Option Value} {f : Addr} (X : K.In h) (G : h.Ns mainGlobals mg) (hfa : mg ("law" : PySem.Str) = some (.ref f)) (c : He.SaysD fa fn K) (m : exK K = true) :
    ∃ fd : FuncData, (∀ (s : Shared) (u : Value), BindsTo s fd ⟨[u], []⟩ [("script", u)]) ∧ ∀ base : Heap, K.In base → base.Ns mainGlobals mg → Me.FnG P w K mg base 18 f fd ["script"] (Me.spM ⟨K, mg⟩ 1 F_law) := by
  have m' : (Me.excB K excs "OtherError") = true ∧ (Me.insB K (He.ga K "State")) = true := by
    unfold exK at m
    simpa only [Bool.and_eq_true, and_assoc] using m
  obtain ⟨m0, m1⟩ := m'
  have e : En K mg := ⟨c, ⟨h, X, G⟩, m0, m1⟩
  have z := hfa.symm.trans (g_law e)
  cases z
  refine ⟨Me.fdK K ("law", none), fun s u => ?_, fun base _ _ => ok_law e⟩
  exact FunD.bindsA (ps := ["script"]) (Me.fd_at c 50 (d := d_law)) (fun _ _ _ _ _ _ us hl => match us, hl with | [_], _ => rfl) s [u] rfl
end K05
end
section
set_option Elab.async false
set_option linter.all false
set_option maxRecDepth 100000
set_option maxHeartbeats 0
namespace K05
open PySem PySem.Spec L2 Me
open PyProof.Rows hiding St
theorem law_true (ns : List Int) (hl : ns.length ≤ 63) : ∃ S, F_law [.frl (ns.map D.int)] [] = .ok (.bl true) S := by
  have h := law_run ns hl
  cases hF : F_law [.frl (ns.map D.int)] [] with
  | ok d S =>
    rw [hF] at h
    have e : d = .bl true := h
    exact ⟨S, by rw [e]⟩
  | fail => rw [hF] at h; exact h.elim
  | exc _ _ => rw [hF] at h; exact h.elim
end K05
open PySem PySem.W PySem.Calls PyProof.Rows
theorem PySem.Challenge.cw_otherfirst_k05_legal_tasks_and_runs_holds : PySem.Challenge.rw_otherfirst_k05_legal_tasks_and_runs.Holds := by
  w_on; o_law
  refine HandSHeadRun.head_any (r := OpenLaw.row PySem.Challenge.rw_otherfirst_k05_legal_tasks_and_runs) (q := view (OpenLaw.row PySem.Challenge.rw_otherfirst_k05_legal_tasks_and_runs).prog [68]) (H := K05.hk) (ob := K05.ob) (M := 12000) (loose := K05.loose) (d := HandSHeadRun.topDef (OpenLaw.row PySem.Challenge.rw_otherfirst_k05_legal_tasks_and_runs).prog 68) (kwd := []) K05.ob_eq
    (by kernel_rfl) (fun s => by kernel_rfl) K05.run (by kernel_rfl) (by kernel_rfl) (by kernel_rfl) (by rfl) (by first | assumption | decide +kernel) (by decide +kernel) ⟨rfl, rfl, rfl, rfl, rfl, by decide +kernel⟩ ?hw ?hc
  case hw => w_witness2
  case hc =>
    refine Me.walk_end (l := PySem.Challenge.rw_otherfirst_k05_legal_tasks_and_runs) (n := 63) (k := 18) (x := "script") (F := K05.F_law) rfl (by rw [K05.sz]; decide) (by kernel_rfl) ⟨rfl, by decide, by decide⟩ K05.law_true ?F
    intro w mg fa h Y G hmg0
    obtain ⟨K, KX, c⟩ := Y
    have hmg : mg ("law" : PySem.Str) = some (.ref fa) := by
      have e : (HandSHeadRun.topDef (OpenLaw.row PySem.Challenge.rw_otherfirst_k05_legal_tasks_and_runs).prog 68).name = ("law" : PySem.Str) := by kernel_rfl
      rw [← e]
      exact hmg0
    obtain ⟨fd, hb, hF⟩ := K05.entry (P := (PySem.Challenge.rw_otherfirst_k05_legal_tasks_and_runs).prog) (w := w) KX G hmg c.1 c.2
    exact ⟨K, fd, KX, hb, hF⟩
end
