import PyProof.Rows.All
import Wide.All
import OpenK.AllK
import Wide.FinOn
import KE.KStateDown
import Lean
import HandS.ForMost
import HandS.More
import HandS.SortInts
import HandS.IsInst
import HandS.Wide
import HandS.TupSets
import HandS.Defaults
import HandS.WordsExc
import HandS.Head0
import HandS.Head1
import HandS.Head2
import HandS.HeadEnd
import HandS.HeadHook1
import HandS.HeadHook2
import HandS.Conv
import HandS.NoneIn
import HandS.ForExc
import HandS.ExcIs
import HandS.DictTup
import HandS.ListItems
import HandS.SetFor
import HandS.SortInts
import HandS.Walk
import HandS.Style
import PySem.Challenge.RW_duepairs_k10_plans_and_faults
import PyProof.ReprRoads
import PyProof.Rows.ReprShort
import PyProof.ReprLen

set_option Elab.async false
set_option linter.all false
set_option maxRecDepth 100000
set_option maxHeartbeats 4000000
namespace DP
open PySem PySem.Spec PyProof.Rows L2
/-! the text by places -/
def topS (i : Nat) : Stmt := PySem.Challenge.pw_duepairs_k10_plans_and_faults.main.body.getD i (.Pass ⟨0, 0, 0, 0⟩)
abbrev s_is_whole : Stmt := topS 5
abbrev N_is_whole : List Str := ["thing"]
theorem sc_is_whole : FnScope N_is_whole ["thing"] (defScope s_is_whole) := ⟨rfl, rfl, rfl, by decide +kernel, rfl, by decide +kernel, by decide +kernel⟩
def dd_is_whole : He.DefD := ⟨("is_whole", none), "is_whole", "is_whole", defArgs s_is_whole, defBody s_is_whole, defScope s_is_whole, [], []⟩
abbrev s_is_whole_from : Stmt := topS 6
abbrev N_is_whole_from : List Str := ["least", "thing"]
theorem sc_is_whole_from : FnScope N_is_whole_from ["least", "thing"] (defScope s_is_whole_from) := ⟨rfl, rfl, rfl, by decide +kernel, rfl, by decide +kernel, by decide +kernel⟩
def dd_is_whole_from : He.DefD := ⟨("is_whole_from", none), "is_whole_from", "is_whole_from", defArgs s_is_whole_from, defBody s_is_whole_from, defScope s_is_whole_from, [], []⟩
abbrev s_is_hour : Stmt := topS 7
abbrev N_is_hour : List Str := ["thing"]
theorem sc_is_hour : FnScope N_is_hour ["thing"] (defScope s_is_hour) := ⟨rfl, rfl, rfl, by decide +kernel, rfl, by decide +kernel, by decide +kernel⟩
def dd_is_hour : He.DefD := ⟨("is_hour", none), "is_hour", "is_hour", defArgs s_is_hour, defBody s_is_hour, defScope s_is_hour, [], []⟩
abbrev s_is_due : Stmt := topS 8
abbrev N_is_due : List Str := ["thing"]
theorem sc_is_due : FnScope N_is_due ["thing"] (defScope s_is_due) := ⟨rfl, rfl, rfl, by decide +kernel, rfl, by decide +kernel, by decide +kernel⟩
def dd_is_due : He.DefD := ⟨("is_due", none), "is_due", "is_due", defArgs s_is_due, defBody s_is_due, defScope s_is_due, [], []⟩
abbrev s_is_job : Stmt := topS 12
abbrev N_is_job : List Str := ["thing", "frees", "dues", "needs", "rooms", "part", "free", "due", "places"]
theorem sc_is_job : FnScope N_is_job ["thing"] (defScope s_is_job) := ⟨rfl, rfl, rfl, by decide +kernel, rfl, by decide +kernel, by decide +kernel⟩
def dd_is_job : He.DefD := ⟨("is_job", none), "is_job", "is_job", defArgs s_is_job, defBody s_is_job, defScope s_is_job, [], []⟩
abbrev s_is_room : Stmt := topS 13
abbrev N_is_room : List Str := ["thing"]
theorem sc_is_room : FnScope N_is_room ["thing"] (defScope s_is_room) := ⟨rfl, rfl, rfl, by decide +kernel, rfl, by decide +kernel, by decide +kernel⟩
def dd_is_room : He.DefD := ⟨("is_room", none), "is_room", "is_room", defArgs s_is_room, defBody s_is_room, defScope s_is_room, [], []⟩
abbrev s_is_task : Stmt := topS 14
abbrev N_is_task : List Str := ["many", "thing"]
theorem sc_is_task : FnScope N_is_task ["many", "thing"] (defScope s_is_task) := ⟨rfl, rfl, rfl, by decide +kernel, rfl, by decide +kernel, by decide +kernel⟩
def dd_is_task : He.DefD := ⟨("is_task", none), "is_task", "is_task", defArgs s_is_task, defBody s_is_task, defScope s_is_task, [], []⟩
abbrev s_is_need : Stmt := topS 15
abbrev N_is_need : List Str := ["many", "thing", "a", "b"]
theorem sc_is_need : FnScope N_is_need ["many", "thing"] (defScope s_is_need) := ⟨rfl, rfl, rfl, by decide +kernel, rfl, by decide +kernel, by decide +kernel⟩
def dd_is_need : He.DefD := ⟨("is_need", none), "is_need", "is_need", defArgs s_is_need, defBody s_is_need, defScope s_is_need, [], []⟩
abbrev s_are_needs : Stmt := topS 16
abbrev N_are_needs : List Str := ["many", "things", "thing"]
theorem sc_are_needs : FnScope N_are_needs ["many", "things"] (defScope s_are_needs) := ⟨rfl, rfl, rfl, by decide +kernel, rfl, by decide +kernel, by decide +kernel⟩
def dd_are_needs : He.DefD := ⟨("are_needs", none), "are_needs", "are_needs", defArgs s_are_needs, defBody s_are_needs, defScope s_are_needs, [], []⟩
abbrev s_followers_of : Stmt := topS 17
abbrev N_followers_of : List Str := ["many", "needs", "followers", "a", "b", "_"]
theorem sc_followers_of : FnScope N_followers_of ["many", "needs"] (defScope s_followers_of) := ⟨rfl, rfl, rfl, by decide +kernel, rfl, by decide +kernel, by decide +kernel⟩
def dd_followers_of : He.DefD := ⟨("followers_of", none), "followers_of", "followers_of", defArgs s_followers_of, defBody s_followers_of, defScope s_followers_of, [], []⟩
abbrev s_has_ring : Stmt := topS 18
abbrev N_has_ring : List Str := ["many", "needs", "followers", "waits", "_", "b", "cleared", "at", "a", "t"]
theorem sc_has_ring : FnScope N_has_ring ["many", "needs"] (defScope s_has_ring) := ⟨rfl, rfl, rfl, by decide +kernel, rfl, by decide +kernel, by decide +kernel⟩
def dd_has_ring : He.DefD := ⟨("has_ring", none), "has_ring", "has_ring", defArgs s_has_ring, defBody s_has_ring, defScope s_has_ring, [], []⟩
abbrev s_check_job : Stmt := topS 19
abbrev N_check_job : List Str := ["job"]
theorem sc_check_job : FnScope N_check_job ["job"] (defScope s_check_job) := ⟨rfl, rfl, rfl, by decide +kernel, rfl, by decide +kernel, by decide +kernel⟩
def dd_check_job : He.DefD := ⟨("check_job", none), "check_job", "check_job", defArgs s_check_job, defBody s_check_job, defScope s_check_job, [], []⟩
abbrev s_room_within : Stmt := topS 20
abbrev N_room_within : List Str := ["rooms", "s", "e", "hours_behind"]
theorem sc_room_within : FnScope N_room_within ["rooms", "s", "e"] (defScope s_room_within) := ⟨rfl, rfl, rfl, by decide +kernel, rfl, by decide +kernel, by decide +kernel⟩
def dd_room_within : He.DefD := ⟨("room_within", none), "room_within", "room_within", defArgs s_room_within, defBody s_room_within, defScope s_room_within, [], []⟩
abbrev s_is_plan : Stmt := topS 22
abbrev N_is_plan : List Str := ["job", "thing"]
theorem sc_is_plan : FnScope N_is_plan ["job", "thing"] (defScope s_is_plan) := ⟨rfl, rfl, rfl, by decide +kernel, rfl, by decide +kernel, by decide +kernel⟩
def dd_is_plan : He.DefD := ⟨("is_plan", none), "is_plan", "is_plan", defArgs s_is_plan, defBody s_is_plan, defScope s_is_plan, [], []⟩
abbrev s_fault : Stmt := topS 23
abbrev N_fault : List Str := ["job", "hours"]
theorem sc_fault : FnScope N_fault ["job", "hours"] (defScope s_fault) := ⟨rfl, rfl, rfl, by decide +kernel, rfl, by decide +kernel, by decide +kernel⟩
def dd_fault : He.DefD := ⟨("fault", none), "fault", "fault", defArgs s_fault, defBody s_fault, defScope s_fault, [], []⟩
abbrev s_are_hours : Stmt := topS 24
abbrev N_are_hours : List Str := ["job", "thing", "hour"]
theorem sc_are_hours : FnScope N_are_hours ["job", "thing"] (defScope s_are_hours) := ⟨rfl, rfl, rfl, by decide +kernel, rfl, by decide +kernel, by decide +kernel⟩
def dd_are_hours : He.DefD := ⟨("are_hours", none), "are_hours", "are_hours", defArgs s_are_hours, defBody s_are_hours, defScope s_are_hours, [], []⟩
abbrev s_first_fault : Stmt := topS 25
abbrev N_first_fault : List Str := ["job", "hours", "frees", "dues", "needs", "rooms", "t", "free", "due", "a", "b", "h", "many"]
theorem sc_first_fault : FnScope N_first_fault ["job", "hours"] (defScope s_first_fault) := ⟨rfl, rfl, rfl, by decide +kernel, rfl, by decide +kernel, by decide +kernel⟩
def dd_first_fault : He.DefD := ⟨("first_fault", none), "first_fault", "first_fault", defArgs s_first_fault, defBody s_first_fault, defScope s_first_fault, [], []⟩
abbrev s_crowds : Stmt := topS 26
abbrev N_crowds : List Str := ["hours", "many", "h"]
theorem sc_crowds : FnScope N_crowds ["hours"] (defScope s_crowds) := ⟨rfl, rfl, rfl, by decide +kernel, rfl, by decide +kernel, by decide +kernel⟩
def dd_crowds : He.DefD := ⟨("crowds", none), "crowds", "crowds", defArgs s_crowds, defBody s_crowds, defScope s_crowds, [], []⟩
abbrev s__law_mixed : Stmt := topS 28
abbrev N__law_mixed : List Str := ["_law_cell", "_law_k", "_law_number"]
theorem sc__law_mixed : FnScope N__law_mixed ["_law_cell", "_law_k"] (defScope s__law_mixed) := ⟨rfl, rfl, rfl, by decide +kernel, rfl, by decide +kernel, by decide +kernel⟩
def dd__law_mixed : He.DefD := ⟨("_law_mixed", none), "_law_mixed", "_law_mixed", defArgs s__law_mixed, defBody s__law_mixed, defScope s__law_mixed, [], []⟩
abbrev s__law_pile : Stmt := topS 29
abbrev N__law_pile : List Str := ["_law_script", "_law_k", "_law_cell", "_law_found", "_law_j"]
theorem sc__law_pile : FnScope N__law_pile ["_law_script", "_law_k"] (defScope s__law_pile) := ⟨rfl, rfl, rfl, by decide +kernel, rfl, by decide +kernel, by decide +kernel⟩
def dd__law_pile : He.DefD := ⟨("_law_pile", none), "_law_pile", "_law_pile", defArgs s__law_pile, defBody s__law_pile, defScope s__law_pile, [], []⟩
abbrev s__law_take : Stmt := topS 30
abbrev N__law_take : List Str := ["_law_pile_here", "_law_size", "_law_digit"]
theorem sc__law_take : FnScope N__law_take ["_law_pile_here", "_law_size"] (defScope s__law_take) := ⟨rfl, rfl, rfl, by decide +kernel, rfl, by decide +kernel, by decide +kernel⟩
def dd__law_take : He.DefD := ⟨("_law_take", none), "_law_take", "_law_take", defArgs s__law_take, defBody s__law_take, defScope s__law_take, [], []⟩
abbrev s__law_order : Stmt := topS 31
abbrev N__law_order : List Str := ["_law_pile_here", "_law_many", "_law_order_here", "_law_k"]
theorem sc__law_order : FnScope N__law_order ["_law_pile_here", "_law_many"] (defScope s__law_order) := ⟨rfl, rfl, rfl, by decide +kernel, rfl, by decide +kernel, by decide +kernel⟩
def dd__law_order : He.DefD := ⟨("_law_order", none), "_law_order", "_law_order", defArgs s__law_order, defBody s__law_order, defScope s__law_order, [], []⟩
abbrev s__law_room : Stmt := topS 32
abbrev N__law_room : List Str := ["_law_rooms", "_law_hour"]
theorem sc__law_room : FnScope N__law_room ["_law_rooms", "_law_hour"] (defScope s__law_room) := ⟨rfl, rfl, rfl, by decide +kernel, rfl, by decide +kernel, by decide +kernel⟩
def dd__law_room : He.DefD := ⟨("_law_room", none), "_law_room", "_law_room", defArgs s__law_room, defBody s__law_room, defScope s__law_room, [], []⟩
abbrev s__law_hours : Stmt := topS 33
abbrev N__law_hours : List Str := ["_law_pile_here", "_law_order_here", "_law_rooms", "_law_hours_here", "_law_hour", "_law_left", "_law_task"]
theorem sc__law_hours : FnScope N__law_hours ["_law_pile_here", "_law_order_here", "_law_rooms"] (defScope s__law_hours) := ⟨rfl, rfl, rfl, by decide +kernel, rfl, by decide +kernel, by decide +kernel⟩
def dd__law_hours : He.DefD := ⟨("_law_hours", none), "_law_hours", "_law_hours", defArgs s__law_hours, defBody s__law_hours, defScope s__law_hours, [], []⟩
abbrev s__law_needs : Stmt := topS 34
abbrev N__law_needs : List Str := ["_law_pile_here", "_law_order_here", "_law_hours_here", "_law_loose", "_law_dense", "_law_needs_here", "_law_j", "_law_k", "_law_a", "_law_b"]
theorem sc__law_needs : FnScope N__law_needs ["_law_pile_here", "_law_order_here", "_law_hours_here"] (defScope s__law_needs) := ⟨rfl, rfl, rfl, by decide +kernel, rfl, by decide +kernel, by decide +kernel⟩
def dd__law_needs : He.DefD := ⟨("_law_needs", none), "_law_needs", "_law_needs", defArgs s__law_needs, defBody s__law_needs, defScope s__law_needs, [], []⟩
abbrev s__law_job : Stmt := topS 35
abbrev N__law_job : List Str := ["_law_pile_here", "_law_most", "_law_wide", "_law_rooms", "_law_order_here", "_law_hours_here", "_law_needs_here", "_law_frees", "_law_slack", "_law_dues", "_law_hour", "_law_due", "_law_k"]
theorem sc__law_job : FnScope N__law_job ["_law_pile_here", "_law_most", "_law_wide"] (defScope s__law_job) := ⟨rfl, rfl, rfl, by decide +kernel, rfl, by decide +kernel, by decide +kernel⟩
def dd__law_job : He.DefD := ⟨("_law_job", none), "_law_job", "_law_job", defArgs s__law_job, defBody s__law_job, defScope s__law_job, [], []⟩
abbrev s__law_keeps : Stmt := topS 36
abbrev N__law_keeps : List Str := ["_law_job_here", "_law_hours_here", "_law_frees", "_law_dues", "_law_needs_here", "_law_rooms", "_law_task", "_law_need", "_law_hour"]
theorem sc__law_keeps : FnScope N__law_keeps ["_law_job_here", "_law_hours_here"] (defScope s__law_keeps) := ⟨rfl, rfl, rfl, by decide +kernel, rfl, by decide +kernel, by decide +kernel⟩
def dd__law_keeps : He.DefD := ⟨("_law_keeps", none), "_law_keeps", "_law_keeps", defArgs s__law_keeps, defBody s__law_keeps, defScope s__law_keeps, [], []⟩
abbrev s__law_whole : Stmt := topS 37
abbrev N__law_whole : List Str := ["_law_thing"]
theorem sc__law_whole : FnScope N__law_whole ["_law_thing"] (defScope s__law_whole) := ⟨rfl, rfl, rfl, by decide +kernel, rfl, by decide +kernel, by decide +kernel⟩
def dd__law_whole : He.DefD := ⟨("_law_whole", none), "_law_whole", "_law_whole", defArgs s__law_whole, defBody s__law_whole, defScope s__law_whole, [], []⟩
abbrev s__law_is_plan : Stmt := topS 38
abbrev N__law_is_plan : List Str := ["_law_job_here", "_law_thing", "_law_hour"]
theorem sc__law_is_plan : FnScope N__law_is_plan ["_law_job_here", "_law_thing"] (defScope s__law_is_plan) := ⟨rfl, rfl, rfl, by decide +kernel, rfl, by decide +kernel, by decide +kernel⟩
def dd__law_is_plan : He.DefD := ⟨("_law_is_plan", none), "_law_is_plan", "_law_is_plan", defArgs s__law_is_plan, defBody s__law_is_plan, defScope s__law_is_plan, [], []⟩
abbrev s__law_fault : Stmt := topS 39
abbrev N__law_fault : List Str := ["_law_job_here", "_law_hours_here", "_law_frees", "_law_dues", "_law_needs_here", "_law_rooms", "_law_tasks", "_law_found", "_law_crowded", "_law_task", "_law_a", "_law_b", "_law_hour"]
theorem sc__law_fault : FnScope N__law_fault ["_law_job_here", "_law_hours_here"] (defScope s__law_fault) := ⟨rfl, rfl, rfl, by decide +kernel, rfl, by decide +kernel, by decide +kernel⟩
def dd__law_fault : He.DefD := ⟨("_law_fault", none), "_law_fault", "_law_fault", defArgs s__law_fault, defBody s__law_fault, defScope s__law_fault, [], []⟩
abbrev s__law_bent : Stmt := topS 40
abbrev N__law_bent : List Str := ["_law_pile_here", "_law_hours_here", "_law_found", "_law_way", "_law_at", "_law_to", "_law_hour"]
theorem sc__law_bent : FnScope N__law_bent ["_law_pile_here", "_law_hours_here"] (defScope s__law_bent) := ⟨rfl, rfl, rfl, by decide +kernel, rfl, by decide +kernel, by decide +kernel⟩
def dd__law_bent : He.DefD := ⟨("_law_bent", none), "_law_bent", "_law_bent", defArgs s__law_bent, defBody s__law_bent, defScope s__law_bent, [], []⟩
abbrev s__law_refused : Stmt := topS 41
abbrev N__law_refused : List Str := ["_law_job_here", "_law_thing", "_law_error", "e"]
theorem sc__law_refused : FnScope N__law_refused ["_law_job_here", "_law_thing"] (defScope s__law_refused) := ⟨rfl, rfl, rfl, by decide +kernel, rfl, by decide +kernel, by decide +kernel⟩
def dd__law_refused : He.DefD := ⟨("_law_refused", none), "_law_refused", "_law_refused", defArgs s__law_refused, defBody s__law_refused, defScope s__law_refused, [], []⟩
abbrev s__law_good : Stmt := topS 42
abbrev N__law_good : List Str := ["_law_job_here", "_law_hours_here", "_law_kept", "_law_found", "_law_due"]
theorem sc__law_good : FnScope N__law_good ["_law_job_here", "_law_hours_here"] (defScope s__law_good) := ⟨rfl, rfl, rfl, by decide +kernel, rfl, by decide +kernel, by decide +kernel⟩
def dd__law_good : He.DefD := ⟨("_law_good", none), "_law_good", "_law_good", defArgs s__law_good, defBody s__law_good, defScope s__law_good, [], []⟩
abbrev s_law : Stmt := topS 43
abbrev N_law : List Str := ["_law_script", "_law_k", "_law_pile_here", "_law_job_here", "_law_hours_here", "_law_turn", "_law_odd", "_law_thing", "_law_some", "_law_at", "_law_far", "_law_loose", "_law_hour"]
theorem sc_law : FnScope N_law ["_law_script"] (defScope s_law) := ⟨rfl, rfl, rfl, by decide +kernel, rfl, by decide +kernel, by decide +kernel⟩
def dd_law : He.DefD := ⟨("law", none), "law", "law", defArgs s_law, defBody s_law, defScope s_law, [], []⟩
def fn : List He.DefD := ([dd_is_whole, dd_is_whole_from, dd_is_hour, dd_is_due, dd_is_job, dd_is_room, dd_is_task, dd_is_need, dd_are_needs, dd_followers_of, dd_has_ring, dd_check_job, dd_room_within, dd_is_plan, dd_fault, dd_are_hours, dd_first_fault, dd_crowds, dd__law_mixed, dd__law_pile] : List He.DefD) ++ ([dd__law_take, dd__law_order, dd__law_room, dd__law_hours, dd__law_needs, dd__law_job, dd__law_keeps, dd__law_whole, dd__law_is_plan, dd__law_fault, dd__law_bent, dd__law_refused, dd__law_good, dd_law] : List He.DefD)
def fa : List He.Fa := ([.glo "is_whole", .glo "is_whole_from", .glo "is_hour", .glo "is_due", .glo "is_job", .glo "is_room", .glo "is_task", .glo "is_need", .glo "are_needs", .glo "followers_of", .glo "has_ring", .glo "check_job", .glo "room_within", .glo "is_plan", .glo "fault", .glo "are_hours", .glo "first_fault", .glo "crowds", .glo "_law_mixed", .glo "_law_pile"] : List He.Fa) ++ ([.glo "_law_take", .glo "_law_order", .glo "_law_room", .glo "_law_hours", .glo "_law_needs", .glo "_law_job", .glo "_law_keeps", .glo "_law_whole", .glo "_law_is_plan", .glo "_law_fault", .glo "_law_bent", .glo "_law_refused", .glo "_law_good", .glo "law", .free "isinstance", .free "int", .free "bool", .free "all", .free "len", .free "tuple"] : List He.Fa) ++ ([.free "list", .free "set", .free "range", .free "max", .free "sum", .free "enumerate", .free "sorted", .free "min", .free "ValueError", .free "str", .int "MOST_ROOM" 3, .int "ROOM_BEHIND" 2, .glo "JobError", .glo "NoJob", .glo "NoHours", .exc "JobError", .exc "NoJob", .exc "NoHours", .exm "NoHours" "JobError" true] : List He.Fa)
/-! ### what the top must say of the error classes -/
def excB (K : PySem.W.Frag) (D : Addr) : Bool := He.eqO (PySem.W.findIn K (.ref D) "__getattribute__") (some (some (.builtin "BaseException.__getattribute__"))) && (He.eqO (PySem.W.findIn K (.ref D) "__getattr__") (some none) && (decide (PySem.W.subIn K (.ref D) (.type "BaseException") = some true) &&
  (PySem.W.hasDictIn K D && (He.eqO (PySem.W.findIn K (.ref D) "__class__") (some (some (.builtin "object.__class__"))) && (He.eqO (PySem.W.specialIn K (.builtin "object.__class__") "__get__") (some (some (.builtin "getset_descriptor.__get__"))) && (decide (PySem.W.takesIn K (.builtin "object.__class__") = some true) && decide (PySem.W.mroIn K D (.type "object") = some true)))))))
theorem excB_ok {K : PySem.W.Frag} {D : Addr} (h : excB K D = true) : ExcC K D := by
  obtain ⟨h1, h⟩ := He.ba h
  obtain ⟨h2, h⟩ := He.ba h
  obtain ⟨h3, h⟩ := He.ba h
  obtain ⟨h4, h⟩ := He.ba h
  obtain ⟨h5, h⟩ := He.ba h
  obtain ⟨h6, h⟩ := He.ba h
  obtain ⟨h7, h8⟩ := He.ba h
  exact ⟨He.eqO_ok h1, He.eqO_ok h2, of_decide_eq_true h3, h4, He.eqO_ok h5, He.eqO_ok h6, of_decide_eq_true h7, of_decide_eq_true h8⟩
/-- x, y names of classes; whether x is a y -/
def kitB2 (K : PySem.W.Frag) (x y : Str) (b : Bool) : Bool := decide (PySem.W.kitOne K (.ref (He.ga K x)) (.ref (He.ga K y)) = some b)
def kitBT (K : PySem.W.Frag) (x : Str) (y : String) (b : Bool) : Bool := decide (PySem.W.kitOne K (.ref (He.ga K x)) (.type y) = some b)
/-! ### a head's facts with one Bool more -/
abbrev AlE : Type := He.AlD × Bool
def obsE (n : Nat) (fa : List He.Fa) (fn : List He.DefD) (ex : PySem.W.Frag → Bool) (g : Addr → Option Obj) : AlE := (He.obsDG n fa fn g, ex (He.frG g (He.asD g n)))
def hookE (n : Nat) (fa : List He.Fa) (fn : List He.DefD) (ex : PySem.W.Frag → Bool) : PySem.W.Hook where
  α := AlE
  obs := fun s => obsE n fa fn ex s.heap.get?
  val := fun _ => (He.valD fn, true)
  says := fun _ h => ∃ K : PySem.W.Frag, K.In h ∧ He.SaysD fa fn K ∧ ex K = true
  of := fun _ _ e => ⟨_, He.frG_in, congrArg (fun z : AlE => z.1) e, congrArg (fun z : AlE => z.2) e⟩
  keeps := fun _ _ _ ⟨K, hK, c⟩ k => ⟨K, PySem.W.Frag.In.keeps hK k, c⟩
theorem obsE_eq {n : Nat} {fa : List He.Fa} {fn : List He.DefD} {ex : PySem.W.Frag → Bool} {g : Addr → Option Obj} {s : Shared} (h : ∀ a, g a = s.heap.get? a) : obsE n fa fn ex g = (hookE n fa fn ex).obs s := by
  have e : g = s.heap.get? := funext h
  rw [e]
  rfl

/-- more that the top must say -/
def exL : List (PySem.W.Frag → Bool) := [fun K => excB K (He.ga K "NoHours"), fun K => kitB2 K "NoHours" "NoHours" true, fun K => kitBT K "NoHours" "ValueError" true]
def exK (K : PySem.W.Frag) : Bool := exL.all fun f => f K
/-- what the top has left, as the walk asks it -/
structure Env (K : PySem.W.Frag) (mg : Str → Option Value) : Prop where
  c : He.SaysD fa fn K
  gl : ∀ (i : Nat) (x : Str), fa[i]? = some (.glo x) → mg x = some (.ref (He.ga K x))
  fr : ∀ (i : Nat) (x : Str), fa[i]? = some (.free x) → mg x = none
  it : ∀ (i : Nat) (x : Str) (n : Int), fa[i]? = some (.int x n) → ∃ t, mg x = some (.int n t)
  xc : ∀ (i : Nat) (x : Str), fa[i]? = some (.exc x) → PySem.W.excIn K (He.ga K x) He.veBase "ValueError.__new__" = true ∧ PySem.W.keepIn K (.ref (He.ga K x)) = true ∧ PySem.W.subIn K (.ref (He.ga K x)) (.type "BaseException") = some true ∧ PySem.W.typeIn K (.ref (He.ga K x)) = some (.type "type")
  xm : ∀ (i : Nat) (x y : Str) (b : Bool), fa[i]? = some (.exm x y b) → PySem.W.exmOne K (.ref (He.ga K x)) (.ref (He.ga K y)) = some b
  xk : ∀ (i : Nat) (f : PySem.W.Frag → Bool), exL[i]? = some f → f K = true
/-- the def that the module's name x stands for keeps its promise -/
def Ok (P : Program) (w : World) (K : PySem.W.Frag) (mg : Str → Option Value) (base : Heap) (CX : CXT) (D : He.DefD) (x : Str) (k : Nat) (ps : List Str) (sp : Sp) : Prop :=
  ∃ fd : FuncData, FunD K D.name D.qual D.params D.body D.scope (D.dvs K) (D.kws K) (He.fAd K D.at_) fd ∧ mg x = some (.ref (He.ga K x)) ∧ PySem.W.keepIn K (.ref (He.ga K x)) = true ∧ Binds K fd ps [] ∧ FnOk P w K mg base CX k (He.ga K x) fd ps sp

/-! kinds of values -/
inductive Kd (H : Hp) : V → String → Prop where
  | non : Kd H .non "NoneType"
  | bl (b : Bool) : Kd H (.bl b) "bool"
  | int (i : Int) : Kd H (.int i) "int"
  | str (x : Str) : Kd H (.str x) "str"
  | lst {a : Addr} {xs : List V} (e : H a = some (.lst xs)) : Kd H (.ref a) "list"
  | tup {a : Addr} {xs : List V} (e : H a = some (.tup xs)) : Kd H (.ref a) "tuple"
theorem Kd.tyx {K : PySem.W.Frag} {H : Hp} {x : V} {t : String} (k : Kd H x t) : TyX K H x (.type t) := by
  cases k with
  | non => exact .base .non
  | bl b => exact .base (.bl b)
  | int i => exact .base (.int i)
  | str x => exact .base (.str x)
  | lst e => exact .base (.lst e)
  | tup e => exact .base (.tup e)
/-- isinstance of a value of such a kind -/
theorem rIsi_of {K : PySem.W.Frag} {H : Hp} {x : V} {t c : String} {b : Bool} {Q : VK} (k : Kd H x t) (e : kitB t c = some b) (q : Q (.bl b) H) : rIsi K [x, .ty c] H Q :=
  ⟨x, .ty c, .type t, .type c, b, rfl, .ty c, k.tyx, kit_ty e, q⟩
def isW : V → Bool
  | .int _ => true
  | _ => false
def isWF (m : Int) : V → Bool
  | .int i => decide (m ≤ i)
  | _ => false
def isDue : V → Bool
  | .non => true
  | .int i => decide (0 ≤ i)
  | _ => false
def isRoom : V → Bool
  | .int i => decide (0 ≤ i) && decide (i ≤ 3)
  | _ => false
def isTask (n : Int) : V → Bool
  | .int i => decide (0 ≤ i) && decide (i < n)
  | _ => false
theorem ifB {c : Bool} {A B : Prop} (h1 : c = true → A) (h2 : c = false → B) : if c = true then A else B := by
  cases c with
  | true => exact iteT (h1 rfl)
  | false => exact iteF (h2 rfl)
def rLenQ (K : PySem.W.Frag) : List V → Hp → VK → Prop := fun xs H Q => ∃ p ys, xs = [.ref p] ∧ (SqL K H p ys ∨ SqT K H p ys) ∧ Q (.int ys.length) H
def rListQ (K : PySem.W.Frag) : List V → Hp → VK → Prop := fun xs H Q => ∃ p ys, xs = [.ref p] ∧ (SqL K H p ys ∨ SqT K H p ys) ∧ ∀ l, H l = none → Q (.ref l) (upd H l (.lst ys))

open Lean in
local macro_rules | `(tactic| walk_at "u") => `(tactic| dsimp only [tRet, tRetN, tSeq, tIfS, tNext, tDrop, tAsg, tPar, tAug, tCB, tCons, tNil, tVar, tC, tAndV, tOrV, tNotV, tAnd, tOr, tNot, tB, tTest, tOp, tUn, rI, rI0, rU, tIf, tCall, tIsN, tNotN, gName, gTup, gCons, gNil, gSub, tLst, tTup, tBM, tBM0, tSl, tPart, tNoPart, tYes, tCallN])
local macro_rules | `(tactic| walk_at "T") => `(tactic| ((try dsimp only); (try simp only [Bool.not_true, Bool.not_false, Bool.false_eq_true, reduceIte])))
local macro_rules | `(tactic| walk_at "F") => `(tactic| ((try dsimp only); (try simp only [Bool.not_true, Bool.not_false, Bool.false_eq_true, reduceIte])))


section
variable {P : Program} {w : World} {K : PySem.W.Frag} {mg : Str → Option Value} {base : Heap}
/-! duepairs.whole -/
def spWhole : Sp := fun vs H Q _ => ∃ (x : V) (t : String), vs = [x] ∧ Kd H x t ∧ Q (.bl (isW x)) H
theorem ok_is_whole (T : Env K mg) : Ok P w K mg base CX0 dd_is_whole "is_whole" 1 ["thing"] spWhole := by
  obtain ⟨fd, F⟩ := T.c.def_ 0 (d := dd_is_whole) rfl
  refine ⟨fd, F, T.gl 0 _ rfl, F.kp, F.bindsN fun _ _ _ _ _ _ us hl => match us, hl with | [_], _ => rfl, ?_⟩
  refine F.ok sc_is_whole (fun vs H Q E h => ?_) (fun cdv A outer s H vs Q E hr h => ?_)
  · obtain ⟨x, t, rfl, kd, q⟩ := h
    rfl
  · obtain ⟨x, t, rfl, kd, q⟩ := h
    refine ⟨_, PSs.nox (pss_one (ps_ret (pe_and (pe_callB call_isi (by rfl) (T.fr 34 _ rfl) (by decide +kernel) (pa_cons (pv 0) (pa_cons (pe_bltn (v := .ty "int") (by rfl) (T.fr 35 _ rfl) (by decide +kernel) rfl) pa_nil))) (pe_one (pe_not (pe_callB call_isi (by rfl) (T.fr 34 _ rfl) (by decide +kernel) (pa_cons (pv 0) (pa_cons (pe_bltn (v := .ty "bool") (by rfl) (T.fr 36 _ rfl) (by decide +kernel) rfl) pa_nil)))))))), ?_⟩
    walk_at "u"
    cases kd with
    | non => exact ⟨_, rfl, rIsi_of .non (by decide +kernel) ⟨_, rfl, iteF q⟩⟩
    | bl b => exact ⟨_, rfl, rIsi_of (.bl b) (by decide +kernel) ⟨_, rfl, iteT ⟨_, rfl, rIsi_of (b := true) (.bl b) (by decide +kernel) ⟨_, rfl, q⟩⟩⟩⟩
    | int i => exact ⟨_, rfl, rIsi_of (.int i) (by decide +kernel) ⟨_, rfl, iteT ⟨_, rfl, rIsi_of (b := false) (.int i) (by decide +kernel) ⟨_, rfl, q⟩⟩⟩⟩
    | str z => exact ⟨_, rfl, rIsi_of (.str z) (by decide +kernel) ⟨_, rfl, iteF q⟩⟩
    | lst e => exact ⟨_, rfl, rIsi_of (.lst e) (by decide +kernel) ⟨_, rfl, iteF q⟩⟩
    | tup e => exact ⟨_, rfl, rIsi_of (.tup e) (by decide +kernel) ⟨_, rfl, iteF q⟩⟩
def spWholeFrom : Sp := fun vs H Q _ => ∃ (m : Int) (x : V) (t : String), vs = [.int m, x] ∧ Kd H x t ∧ Q (.bl (isWF m x)) H
theorem ok_is_whole_from (T : Env K mg) : Ok P w K mg base CX0 dd_is_whole_from "is_whole_from" 2 ["least", "thing"] spWholeFrom := by
  obtain ⟨fd_is_whole, D_is_whole, g_is_whole, k_is_whole, b_is_whole, G_is_whole⟩ := ok_is_whole (P := P) (w := w) (base := base) T
  obtain ⟨fd, F⟩ := T.c.def_ 1 (d := dd_is_whole_from) rfl
  refine ⟨fd, F, T.gl 1 _ rfl, F.kp, F.bindsN fun _ _ _ _ _ _ us hl => match us, hl with | [_, _], _ => rfl, ?_⟩
  refine F.ok sc_is_whole_from (fun vs H Q E h => ?_) (fun cdv A outer s H vs Q E hr h => ?_)
  · obtain ⟨m, x, t, rfl, kd, q⟩ := h
    rfl
  · obtain ⟨m, x, t, rfl, kd, q⟩ := h
    refine ⟨_, PSs.nox (pss_one (ps_ret (pe_and (pe_call G_is_whole (hr.mono (by decide)) (by rfl) g_is_whole k_is_whole b_is_whole .nil pass0 (pa_cons (pv 1) pa_nil)) (pe_one (pe_cmpR op_ge (pv 1) (pv 0) (nomark _)))))), ?_⟩
    refine ⟨_, rfl, x, t, rfl, kd, _, rfl, ifB (fun e => ?_) (fun e => ?_)⟩
    · cases x with
      | int i => exact ⟨_, rfl, _, rfl, _, _, rfl, rfl, q⟩
      | _ => cases e
    · have e2 : isWF m x = false := by
        cases x with
        | int i => cases e
        | _ => rfl
      rw [e2] at q
      exact q
def spHour : Sp := fun vs H Q _ => ∃ (x : V) (t : String), vs = [x] ∧ Kd H x t ∧ Q (.bl (isWF 1 x)) H
theorem ok_is_hour (T : Env K mg) : Ok P w K mg base CX0 dd_is_hour "is_hour" 3 ["thing"] spHour := by
  obtain ⟨fd_is_whole_from, D_is_whole_from, g_is_whole_from, k_is_whole_from, b_is_whole_from, G_is_whole_from⟩ := ok_is_whole_from (P := P) (w := w) (base := base) T
  obtain ⟨fd, F⟩ := T.c.def_ 2 (d := dd_is_hour) rfl
  refine ⟨fd, F, T.gl 2 _ rfl, F.kp, F.bindsN fun _ _ _ _ _ _ us hl => match us, hl with | [_], _ => rfl, ?_⟩
  refine F.ok sc_is_hour (fun vs H Q E h => ?_) (fun cdv A outer s H vs Q E hr h => ?_)
  · obtain ⟨x, t, rfl, kd, q⟩ := h
    rfl
  · obtain ⟨x, t, rfl, kd, q⟩ := h
    refine ⟨_, PSs.nox (pss_one (ps_ret (pe_call G_is_whole_from (hr.mono (by decide)) (by rfl) g_is_whole_from k_is_whole_from b_is_whole_from .nil pass0 (pa_cons pe_int (pa_cons (pv 0) pa_nil))))), ?_⟩
    exact ⟨_, rfl, 1, x, t, rfl, kd, q⟩
def spDue : Sp := fun vs H Q _ => ∃ (x : V) (t : String), vs = [x] ∧ Kd H x t ∧ Q (.bl (isDue x)) H
theorem ok_is_due (T : Env K mg) : Ok P w K mg base CX0 dd_is_due "is_due" 3 ["thing"] spDue := by
  obtain ⟨fd_is_whole_from, D_is_whole_from, g_is_whole_from, k_is_whole_from, b_is_whole_from, G_is_whole_from⟩ := ok_is_whole_from (P := P) (w := w) (base := base) T
  obtain ⟨fd, F⟩ := T.c.def_ 3 (d := dd_is_due) rfl
  refine ⟨fd, F, T.gl 3 _ rfl, F.kp, F.bindsN fun _ _ _ _ _ _ us hl => match us, hl with | [_], _ => rfl, ?_⟩
  refine F.ok sc_is_due (fun vs H Q E h => ?_) (fun cdv A outer s H vs Q E hr h => ?_)
  · obtain ⟨x, t, rfl, kd, q⟩ := h
    rfl
  · obtain ⟨x, t, rfl, kd, q⟩ := h
    refine ⟨_, PSs.nox (pss_one (ps_ret (pe_or (pe_cmp (pc_isN (pv 0)) rfl) (pe_one (pe_call G_is_whole_from (hr.mono (by decide)) (by rfl) g_is_whole_from k_is_whole_from b_is_whole_from .nil pass0 (pa_cons pe_int (pa_cons (pv 0) pa_nil))))))), ?_⟩
    refine ⟨_, rfl, _, rfl, ifB (fun e => ?_) (fun e => ?_)⟩
    · have e2 : x = .non := of_decide_eq_true e
      subst e2
      exact q
    · have e2 : isDue x = isWF 0 x := by
        cases x with
        | non => cases e
        | _ => rfl
      rw [e2] at q
      exact ⟨_, rfl, 0, x, t, rfl, kd, q⟩
def spRoomP : Sp := fun vs H Q _ => ∃ (x : V) (t : String), vs = [x] ∧ Kd H x t ∧ Q (.bl (isRoom x)) H
theorem ok_is_room (T : Env K mg) : Ok P w K mg base CX0 dd_is_room "is_room" 3 ["thing"] spRoomP := by
  obtain ⟨fd_is_whole_from, D_is_whole_from, g_is_whole_from, k_is_whole_from, b_is_whole_from, G_is_whole_from⟩ := ok_is_whole_from (P := P) (w := w) (base := base) T
  obtain ⟨fd, F⟩ := T.c.def_ 5 (d := dd_is_room) rfl
  refine ⟨fd, F, T.gl 5 _ rfl, F.kp, F.bindsN fun _ _ _ _ _ _ us hl => match us, hl with | [_], _ => rfl, ?_⟩
  refine F.ok sc_is_room (fun vs H Q E h => ?_) (fun cdv A outer s H vs Q E hr h => ?_)
  · obtain ⟨x, t, rfl, kd, q⟩ := h
    rfl
  · obtain ⟨x, t, rfl, kd, q⟩ := h
    refine ⟨_, PSs.nox (pss_one (ps_ret (pe_and (pe_call G_is_whole_from (hr.mono (by decide)) (by rfl) g_is_whole_from k_is_whole_from b_is_whole_from .nil pass0 (pa_cons pe_int (pa_cons (pv 0) pa_nil))) (pe_one (pe_cmpR op_le (pv 0) (pe_glob (v := .int 3) (by rfl) (T.it 50 _ _ rfl).choose_spec ⟨_, rfl⟩) (nomark _)))))), ?_⟩
    refine ⟨_, rfl, 0, x, t, rfl, kd, _, rfl, ifB (fun e => ?_) (fun e => ?_)⟩
    · cases x with
      | int i =>
        have e2 : isRoom (.int i) = decide (i ≤ 3) := by
          show (decide (0 ≤ i) && decide (i ≤ 3)) = _
          rw [show decide (0 ≤ i) = true from e]
          rfl
        rw [e2] at q
        exact ⟨_, rfl, _, _, rfl, rfl, q⟩
      | _ => cases e
    · have e2 : isRoom x = false := by
        cases x with
        | int i =>
          show (decide (0 ≤ i) && decide (i ≤ 3)) = false
          rw [show decide (0 ≤ i) = false from e]
          rfl
        | _ => rfl
      rw [e2] at q
      exact q
def spTask : Sp := fun vs H Q _ => ∃ (n : Int) (x : V) (t : String), vs = [.int n, x] ∧ Kd H x t ∧ Q (.bl (isTask n x)) H
theorem ok_is_task (T : Env K mg) : Ok P w K mg base CX0 dd_is_task "is_task" 3 ["many", "thing"] spTask := by
  obtain ⟨fd_is_whole_from, D_is_whole_from, g_is_whole_from, k_is_whole_from, b_is_whole_from, G_is_whole_from⟩ := ok_is_whole_from (P := P) (w := w) (base := base) T
  obtain ⟨fd, F⟩ := T.c.def_ 6 (d := dd_is_task) rfl
  refine ⟨fd, F, T.gl 6 _ rfl, F.kp, F.bindsN fun _ _ _ _ _ _ us hl => match us, hl with | [_, _], _ => rfl, ?_⟩
  refine F.ok sc_is_task (fun vs H Q E h => ?_) (fun cdv A outer s H vs Q E hr h => ?_)
  · obtain ⟨n, x, t, rfl, kd, q⟩ := h
    rfl
  · obtain ⟨n, x, t, rfl, kd, q⟩ := h
    refine ⟨_, PSs.nox (pss_one (ps_ret (pe_and (pe_call G_is_whole_from (hr.mono (by decide)) (by rfl) g_is_whole_from k_is_whole_from b_is_whole_from .nil pass0 (pa_cons pe_int (pa_cons (pv 1) pa_nil))) (pe_one (pe_cmpR op_lt (pv 1) (pv 0) (nomark _)))))), ?_⟩
    refine ⟨_, rfl, 0, x, t, rfl, kd, _, rfl, ifB (fun e => ?_) (fun e => ?_)⟩
    · cases x with
      | int i =>
        have e2 : isTask n (.int i) = decide (i < n) := by
          show (decide (0 ≤ i) && decide (i < n)) = _
          rw [show decide (0 ≤ i) = true from e]
          rfl
        rw [e2] at q
        exact ⟨_, rfl, _, rfl, _, _, rfl, rfl, q⟩
      | _ => cases e
    · have e2 : isTask n x = false := by
        cases x with
        | int i =>
          show (decide (0 ≤ i) && decide (i < n)) = false
          rw [show decide (0 ≤ i) = false from e]
          rfl
        | _ => rfl
      rw [e2] at q
      exact q

end
/-! heaps: all but the pile stays -/
def But (p : Addr) (H H' : Hp) : Prop := ∀ b o, b ≠ p → H b = some o → H' b = some o
theorem But.refl (p : Addr) (H : Hp) : But p H H := fun _ _ _ h => h
theorem But.trans {p : Addr} {H H1 H2 : Hp} (a : But p H H1) (b : But p H1 H2) : But p H H2 := fun c o n h => b c o n (a c o n h)
theorem But.upd {p : Addr} {H : Hp} {o : HO} : But p H (upd H p o) := fun b u n h => by
  rw [upd_ne n]
  exact h
theorem But.new {p q : Addr} {H : Hp} {o : HO} (h : H q = none) : But p H (L2.upd H q o) := fun b u _ e => by
  rw [upd_ne (ne_of_none e h)]
  exact e
theorem But.of {p : Addr} {H H' : Hp} (s : Same H H') : But p H H' := fun b o _ h => s b o h
theorem same_upd {H : Hp} {q : Addr} {o : HO} (h : H q = none) : Same H (upd H q o) := fun b u e => by
  rw [upd_ne (ne_of_none e h)]
  exact e
/-- a new object may change -/
theorem same_mut {H H' : Hp} {q : Addr} {o : HO} (e : Same H H') (h : H q = none) : Same H (L2.upd H' q o) := fun a u ha => by
  rw [upd_ne (ne_of_none ha h)]
  exact e a u ha
theorem But.mut {p q : Addr} {H H' : Hp} {o : HO} (e : But p H H') (h : H q = none) : But p H (L2.upd H' q o) := fun a u n ha => by
  rw [upd_ne (ne_of_none ha h)]
  exact e a u n ha
theorem But.free {p l : Addr} {H H' : Hp} (e : But p H H') (n : l ≠ p) (h : H' l = none) : H l = none := by
  cases q : H l with
  | none => rfl
  | some o =>
    rw [e l o n q] at h
    cases h
theorem But.seq {K : PySem.W.Frag} {p a : Addr} {H H' : Hp} {xs : List V} (e : But p H H') (n : a ≠ p) (h : SqL K H a xs) : SqL K H' a xs := by
  rcases h with (h | ⟨o, h⟩) | h
  · exact .inl (.inl (e _ _ n h))
  · exact .inl (.inr ⟨o, e _ _ n h⟩)
  · exact .inr h
theorem lst_ne {H : Hp} {a b : Addr} {xs : List V} (h : H a = some (.lst xs)) (h' : H b = none) : a ≠ b := ne_of_none h h'
/-! numbers -/
theorem fmod_lo {x m : Int} (h : 0 < m) : 0 ≤ x.fmod m := by
  rw [Int.fmod_eq_emod_of_nonneg x (Int.le_of_lt h)]
  exact Int.emod_nonneg x (by omega)
theorem fmod_hi {x m : Int} (h : 0 < m) : x.fmod m < m := by
  rw [Int.fmod_eq_emod_of_nonneg x (Int.le_of_lt h)]
  exact Int.emod_lt_of_pos x h
theorem small_sz {n : Nat} (h : n ≤ 100000) : n ≤ sizeLine := Nat.le_trans h (by decide)
theorem small_lt {n : Nat} (h : n < 100000) : n < sizeLine := Nat.lt_of_lt_of_le h (by decide)
/-- numbers as values -/
def nV (ts : List Nat) : List V := ts.map fun (t : Nat) => V.int (t : Int)
def iV (is : List Int) : List V := is.map V.int
theorem iV_len (is : List Int) : (iV is).length = is.length := List.length_map ..
theorem nV_len (is : List Nat) : (nV is).length = is.length := List.length_map ..
theorem iV_get {is : List Int} {j : Nat} {i : Int} (h : is[j]? = some i) : (iV is)[j]? = some (.int i) := by
  unfold iV
  rw [List.getElem?_map, h]
  rfl
theorem iV_of {is : List Int} {j : Nat} {v : V} (h : (iV is)[j]? = some v) : ∃ i, is[j]? = some i ∧ v = .int i := by
  unfold iV at h
  rw [List.getElem?_map] at h
  cases e : is[j]? with
  | none =>
    rw [e] at h
    cases h
  | some i =>
    rw [e] at h
    exact ⟨i, rfl, (Option.some.inj h).symm⟩
theorem nV_get {is : List Nat} {j : Nat} {i : Nat} (h : is[j]? = some i) : (nV is)[j]? = some (.int (i : Int)) := by
  unfold nV
  rw [List.getElem?_map, h]
  rfl
theorem nV_of {is : List Nat} {j : Nat} {v : V} (h : (nV is)[j]? = some v) : ∃ i : Nat, is[j]? = some i ∧ v = .int (i : Int) := by
  unfold nV at h
  rw [List.getElem?_map] at h
  cases e : is[j]? with
  | none =>
    rw [e] at h
    cases h
  | some i =>
    rw [e] at h
    exact ⟨i, rfl, (Option.some.inj h).symm⟩
theorem atI_iV {is : List Int} {j : Nat} {z i : Int} (e : z = (j : Int)) (h : is[j]? = some i) : atI (iV is) z = some (.int i) := at_of e (iV_get h)
theorem atI_nV {is : List Nat} {j i : Nat} {z : Int} (e : z = (j : Int)) (h : is[j]? = some i) : atI (nV is) z = some (.int (i : Int)) := at_of e (nV_get h)
theorem ixN_at {n j : Nat} {z : Int} (e : z = (j : Int)) (hj : j < n) : ixN n z = some j := by
  subst e
  unfold ixN
  rw [if_pos (by omega), if_pos (by omega)]
  simp
/-- the room of an hour -/
def roomAt (rs : List Int) (h : Int) : Int := rs.getD (h - 1).toNat 2
theorem roomAt_in {rs : List Int} {h : Int} (h1 : 1 ≤ h) (h2 : h ≤ (rs.length : Int)) : rs[(h - 1).toNat]? = some (roomAt rs h) := by
  unfold roomAt
  rw [List.getD_eq_getElem?_getD, List.getElem?_eq_getElem (by omega)]
  rfl
theorem roomAt_out {rs : List Int} {h : Int} (h2 : (rs.length : Int) < h) : roomAt rs h = 2 := by
  unfold roomAt
  rw [List.getD_eq_getElem?_getD, List.getElem?_eq_none (by omega)]
  rfl
/-- both ways of an if lead on alike -/
theorem iteJ {X : Type} {b : Bool} {A B : Prop} {G : X → Prop} (h1 : b = true → (∀ c, G c) → A) (h2 : b = false → (∀ c, G c) → B) (rest : ∀ c, G c) : if b = true then A else B := by
  cases b with
  | true => exact iteT (h1 rfl rest)
  | false => exact iteF (h2 rfl rest)
/-! orders -/
theorem perm_ins {α : Type} (l : List α) (i : Nat) (x : α) : (l.take i ++ [x] ++ l.drop i).Perm (x :: l) := by
  have h : (l.take i ++ [x] ++ l.drop i).Perm (x :: (l.take i ++ l.drop i)) := by
    rw [List.append_assoc]
    exact List.perm_middle
  rw [List.take_append_drop] at h
  exact h
theorem nV_ins (l : List Nat) (i : Nat) (x : Nat) : (nV l).take i ++ [V.int (x : Int)] ++ (nV l).drop i = nV (l.take i ++ [x] ++ l.drop i) := by
  unfold nV
  rw [List.map_append, List.map_append, List.map_take, List.map_drop]
  rfl
theorem range_snoc (i : Nat) : (List.range (i + 1)) = List.range i ++ [i] := List.range_succ
theorem iV_set (l : List Int) (j : Nat) (x : Int) : (iV l).set j (.int x) = iV (l.set j x) := by
  unfold iV
  rw [List.map_set]
theorem iV_app (l : List Int) (x : Int) : iV l ++ [.int x] = iV (l ++ [x]) := by
  unfold iV
  rw [List.map_append]
  rfl
theorem nV_app (l : List Nat) (x : Nat) : nV l ++ [.int (x : Int)] = nV (l ++ [x]) := by
  unfold nV
  rw [List.map_append]
  rfl
/-! rooms of hours -/
structure Rooms (rs : List Int) : Prop where
  len : rs.length ≤ 8
  val : ∀ r ∈ rs, 0 ≤ r ∧ r ≤ 3
theorem Rooms.at_ {rs : List Int} (R : Rooms rs) (h : Int) : 0 ≤ roomAt rs h ∧ roomAt rs h ≤ 3 := by
  unfold roomAt
  rw [List.getD_eq_getElem?_getD]
  cases e : rs[(h - 1).toNat]? with
  | none => exact ⟨by decide, by decide⟩
  | some r => exact R.val r (List.mem_of_getElem? e)
def muH (hour left : Int) : Nat := 2 * (21 - hour).toNat + (if left = 0 then 1 else 0)
theorem muH_lt {hour left l2 : Int} (h : left = 0 ∨ hour < 20) (h2 : 20 ≤ hour → l2 = 2) : muH (hour + 1) l2 < muH hour left := by
  unfold muH
  by_cases h20 : hour < 20
  · split <;> split <;> omega
  · rw [if_pos (by omega : left = 0), if_neg (by rw [h2 (by omega)]; decide)]
    omega
/-! needs: a list of tuples of two tasks -/
def NeedsAt (H : Hp) (q : Addr) (zs : List (Addr × Nat × Nat)) : Prop :=
  H q = some (.lst (zs.map fun z => V.ref z.1)) ∧ ∀ z ∈ zs, H z.1 = some (.tup [.int (z.2.1 : Int), .int (z.2.2 : Int)])
theorem NeedsAt.same {H H' : Hp} {q : Addr} {zs : List (Addr × Nat × Nat)} (n : NeedsAt H q zs) (s : Same H H') : NeedsAt H' q zs := ⟨s _ _ n.1, fun z hz => s _ _ (n.2 z hz)⟩
theorem NeedsAt.but {H H' : Hp} {p q : Addr} {xs : List V} {zs : List (Addr × Nat × Nat)} (n : NeedsAt H q zs) (hp : H p = some (.lst xs)) (nq : q ≠ p) (s : But p H H') : NeedsAt H' q zs :=
  ⟨s _ _ nq n.1, fun z hz => s _ _ (ne_of (n.2 z hz) hp (by intro e; cases e)) (n.2 z hz)⟩
theorem zs_ins {α : Type} (f : α → V) (zs : List α) (i : Nat) (z : α) : (zs.map f).take i ++ [f z] ++ (zs.map f).drop i = (zs.take i ++ [z] ++ zs.drop i).map f := by
  rw [List.map_append, List.map_append, List.map_take, List.map_drop]
  rfl
theorem NeedsAt.ins {H : Hp} {q T : Addr} {zs : List (Addr × Nat × Nat)} {a b i : Nat} (n : NeedsAt H q zs) (nT : H T = none) :
    NeedsAt (upd (upd H T (.tup [.int (a : Int), .int (b : Int)])) q (.lst ((zs.map fun z => V.ref z.1).take i ++ [.ref T] ++ (zs.map fun z => V.ref z.1).drop i))) q (zs.take i ++ [(T, a, b)] ++ zs.drop i) := by
  refine ⟨by rw [upd_same, ← zs_ins (fun z : Addr × Nat × Nat => V.ref z.1)], fun z hz => ?_⟩
  have hz2 := (perm_ins zs i (T, a, b)).mem_iff.mp hz
  rcases List.mem_cons.mp hz2 with e | hz3
  · subst e
    rw [upd_ne (fun e => by
      have := n.1
      rw [← e, nT] at this
      cases this), upd_same]
  · have h1 := n.2 z hz3
    rw [upd_ne (ne_of h1 n.1 (by intro e; cases e)), upd_ne (ne_of_none h1 nT)]
    exact h1
theorem nodup_of_perm {os : List Nat} {n : Nat} (h : os.Perm (List.range n)) : os.Nodup := h.nodup_iff.mpr List.nodup_range
theorem ix_of_nodup {os : List Nat} (h : os.Nodup) {i j : Nat} {t : Nat} (a : os[i]? = some t) (b : os[j]? = some t) : i = j := nd_ix h a b
theorem flat_iV (is : List Int) : (iV is).all flatV = true := by
  unfold iV
  rw [List.all_eq_true]
  intro v hv
  obtain ⟨i, _, rfl⟩ := List.mem_map.mp hv
  rfl
theorem flat_nV (is : List Nat) : (nV is).all flatV = true := by
  unfold nV
  rw [List.all_eq_true]
  intro v hv
  obtain ⟨i, _, rfl⟩ := List.mem_map.mp hv
  rfl
theorem inV_iV (x : Int) (is : List Int) : inV (.int x) (iV is) = decide (x ∈ is) := by
  unfold inV iV
  rw [Bool.eq_iff_iff, List.any_eq_true, decide_eq_true_iff]
  constructor
  · rintro ⟨v, hv, e⟩
    obtain ⟨i, hi, rfl⟩ := List.mem_map.mp hv
    have e2 : i = x := beq_iff_eq.mp e
    rw [← e2]
    exact hi
  · intro h
    exact ⟨.int x, List.mem_map.mpr ⟨x, h, rfl⟩, beq_iff_eq.mpr rfl⟩
theorem inV_nV (x : Nat) (is : List Nat) : inV (.int (x : Int)) (nV is) = decide (x ∈ is) := by
  unfold inV nV
  rw [Bool.eq_iff_iff, List.any_eq_true, decide_eq_true_iff]
  constructor
  · rintro ⟨v, hv, e⟩
    obtain ⟨i, hi, rfl⟩ := List.mem_map.mp hv
    have e2 : (i : Int) = (x : Int) := beq_iff_eq.mp e
    rw [← Int.ofNat.inj e2]
    exact hi
  · intro h
    exact ⟨.int (x : Int), List.mem_map.mpr ⟨x, h, rfl⟩, beq_iff_eq.mpr rfl⟩
/-- each need goes forward along the order -/
def Along (os : List Nat) (zs : List (Addr × Nat × Nat)) (j k : Nat) : Prop := ∀ z ∈ zs, ∃ j' k' : Nat, k' < j' ∧ os[k']? = some z.2.1 ∧ os[j']? = some z.2.2 ∧ (j' < j ∨ (j' = j ∧ k' < k))
theorem Along.mono {os : List Nat} {zs : List (Addr × Nat × Nat)} {j k j2 k2 : Nat} (h : Along os zs j k) (l : j < j2 ∨ (j = j2 ∧ k ≤ k2)) : Along os zs j2 k2 := fun z hz => by
  obtain ⟨j', k', h1, h2, h3, h4⟩ := h z hz
  exact ⟨j', k', h1, h2, h3, by omega⟩
/-! jobs -/
def oO : Option Int → V
  | none => .non
  | some i => .int i
def oV (ds : List (Option Int)) : List V := ds.map oO
theorem oV_len (is : List (Option Int)) : (oV is).length = is.length := List.length_map ..
theorem oV_app (l : List (Option Int)) (x : Option Int) : oV l ++ oV [x] = oV (l ++ [x]) := by
  unfold oV
  rw [List.map_append]
structure JobAt (H : Hp) (J f d n r : Addr) (fs : List Int) (ds : List (Option Int)) (zs : List (Addr × Nat × Nat)) (rs : List Int) : Prop where
  top : H J = some (.tup [.ref f, .ref d, .ref n, .ref r])
  fr : H f = some (.lst (iV fs))
  du : H d = some (.lst (oV ds))
  ne : NeedsAt H n zs
  ro : H r = some (.lst (iV rs))
theorem JobAt.same {H H' : Hp} {J f d n r : Addr} {fs : List Int} {ds : List (Option Int)} {zs : List (Addr × Nat × Nat)} {rs : List Int} (j : JobAt H J f d n r fs ds zs rs) (s : Same H H') : JobAt H' J f d n r fs ds zs rs :=
  ⟨s _ _ j.top, s _ _ j.fr, s _ _ j.du, j.ne.same s, s _ _ j.ro⟩
theorem JobAt.but {H H' : Hp} {J f d n r p : Addr} {xs : List V} {fs : List Int} {ds : List (Option Int)} {zs : List (Addr × Nat × Nat)} {rs : List Int} (j : JobAt H J f d n r fs ds zs rs) (hp : H p = some (.lst xs))
    (nf : f ≠ p) (nd : d ≠ p) (nn : n ≠ p) (nr : r ≠ p) (s : But p H H') : JobAt H' J f d n r fs ds zs rs :=
  ⟨s _ _ (ne_of j.top hp (by intro e; cases e)) j.top, s _ _ nf j.fr, s _ _ nd j.du, j.ne.but hp nn s, s _ _ nr j.ro⟩
structure Valid (fs : List Int) (ds : List (Option Int)) (zs : List (Addr × Nat × Nat)) (rs : List Int) : Prop where
  fl : fs.length ≤ 100
  dl : ds.length = fs.length
  fv : ∀ x ∈ fs, 1 ≤ x ∧ x ≤ 200
  dv : ∀ x, some x ∈ ds → 0 ≤ x ∧ x ≤ 200
  zl : zs.length ≤ 30
  znd : (zs.map (·.2)).Nodup
  rank : ∃ rk : Nat → Nat, ∀ z ∈ zs, z.2.1 < fs.length ∧ z.2.2 < fs.length ∧ rk z.2.1 < rk z.2.2
  ro : Rooms rs
/-- a rank along an order -/
theorem rank_of {os : List Nat} {zs : List (Addr × Nat × Nat)} {n m j k : Nat} (hp : os.Perm (List.range n)) (h : Along os zs j k) (e : n = m) : ∃ rk : Nat → Nat, ∀ z ∈ zs, z.2.1 < m ∧ z.2.2 < m ∧ rk z.2.1 < rk z.2.2 := by
  subst e
  refine ⟨fun t => os.idxOf t, fun z hz => ?_⟩
  obtain ⟨j', k', h1, h2, h3, _⟩ := h z hz
  have nd := nodup_of_perm hp
  have lt : ∀ {i t : Nat}, os[i]? = some t → t < n := fun h => List.mem_range.mp (hp.mem_iff.mp (List.mem_of_getElem? h))
  have ix : ∀ {i t : Nat}, os[i]? = some t → os.idxOf t = i := fun {i t} h => by
    obtain ⟨hi, e⟩ := List.getElem?_eq_some_iff.mp h
    rw [← e]
    exact nd.idxOf_getElem i hi
  refine ⟨lt h2, lt h3, ?_⟩
  show os.idxOf z.2.1 < os.idxOf z.2.2
  rw [ix h2, ix h3]
  exact h1
theorem iteJP {X : Type} {b : Bool} {A B : Prop} {G : X → Prop} (C : X → Prop) (h1 : b = true → (∀ c, C c → G c) → A) (h2 : b = false → (∀ c, C c → G c) → B) (rest : ∀ c, C c → G c) : if b = true then A else B := by
  cases b with
  | true => exact iteT (h1 rfl rest)
  | false => exact iteF (h2 rfl rest)

section
variable {P : Program} {w : World} {K : PySem.W.Frag} {mg : Str → Option Value} {base : Heap}
/-! the law's own helpers: digits of a pile -/
def spMixed : Sp := fun vs H Q _ => ∃ (c k : Int), vs = [.int c, .int k] ∧ ∀ r, 0 ≤ r → r < 2147483579 → Q (.int r) H
theorem ok__law_mixed (T : Env K mg) : Ok P w K mg base CX0 dd__law_mixed "_law_mixed" 1 ["_law_cell", "_law_k"] spMixed := by
  obtain ⟨fd, F⟩ := T.c.def_ 18 (d := dd__law_mixed) rfl
  refine ⟨fd, F, T.gl 18 _ rfl, F.kp, F.bindsN fun _ _ _ _ _ _ us hl => match us, hl with | [_, _], _ => rfl, ?_⟩
  refine F.ok sc__law_mixed (fun vs H Q E h => ?_) (fun cdv A outer s H vs Q E hr h => ?_)
  · obtain ⟨c, k, rfl, q⟩ := h
    rfl
  · obtain ⟨c, k, rfl, q⟩ := h
    refine ⟨_, PSs.nox (pss_cons (ps_set (i := 2) sc__law_mixed.nd rfl (Or.inl rfl) (pe_op op_modN (pe_callTy call_int1 (by rfl) (T.fr 35 _ rfl) (by decide +kernel) (pa_cons (pe_op op_add (pe_op op_add (pe_op op_mul (pe_op op_modN (pe_callTy call_int1 (by rfl) (T.fr 35 _ rfl) (by decide +kernel) (pa_cons (pv 0) pa_nil)) pe_int) pe_int) (pe_op op_mul (pv 1) pe_int)) pe_int) pa_nil)) pe_int))
      (pss_cons (ps_set (i := 2) sc__law_mixed.nd rfl (Or.inl rfl) (pe_op op_modN (pe_callTy call_int1 (by rfl) (T.fr 35 _ rfl) (by decide +kernel) (pa_cons (pe_op op_mul (pv 2) (pv 2)) pa_nil)) pe_int))
      (pss_one (ps_ret (pe_op op_modN (pe_callTy call_int1 (by rfl) (T.fr 35 _ rfl) (by decide +kernel) (pa_cons (pe_op op_mul (pv 2) (pe_op op_add (pv 2) pe_int)) pa_nil)) pe_int))))), ?_⟩
    walk_at "u"
    refine ⟨_, rfl, .inl ⟨_, rfl, _, _, rfl, rfl, by decide, _, _, rfl, rfl, .inr ⟨by decide, by decide⟩, _, rfl, _, _, rfl, rfl, .inr ⟨by decide, by decide⟩, _, _, rfl, rfl, _, _, rfl, rfl, .inl ⟨_, rfl, _, _, rfl, rfl, by decide, ?_⟩⟩⟩
    generalize hz : Int.fmod _ 2147483629 = z
    have z0 : 0 ≤ z := hz ▸ fmod_lo (by decide)
    have z1 : z < 2147483629 := hz ▸ fmod_hi (by decide)
    refine ⟨_, rfl, _, rfl, _, _, rfl, rfl, .inl ⟨by omega, by omega⟩, .inl ⟨_, rfl, _, _, rfl, rfl, by decide, ?_⟩⟩
    generalize hy : Int.fmod _ 2147483587 = y
    have y0 : 0 ≤ y := hy ▸ fmod_lo (by decide)
    have y1 : y < 2147483587 := hy ▸ fmod_hi (by decide)
    refine ⟨_, rfl, _, rfl, _, _, rfl, rfl, _, _, rfl, rfl, .inl ⟨by omega, by omega⟩, .inl ⟨_, rfl, _, _, rfl, rfl, by decide, ?_⟩⟩
    exact q _ (fmod_lo (by decide)) (fmod_hi (by decide))
def spTake : Sp := fun vs H Q _ => ∃ (p : Addr) (x n : Int), vs = [.ref p, .int n] ∧ H p = some (.lst [.int x]) ∧ 0 < n ∧ n < 1000 ∧ ∀ d x', 0 ≤ d → d < n → Q (.int d) (upd H p (.lst [.int x']))
theorem ok__law_take (T : Env K mg) : Ok P w K mg base CX0 dd__law_take "_law_take" 1 ["_law_pile_here", "_law_size"] spTake := by
  obtain ⟨fd, F⟩ := T.c.def_ 20 (d := dd__law_take) rfl
  refine ⟨fd, F, T.gl 20 _ rfl, F.kp, F.bindsN fun _ _ _ _ _ _ us hl => match us, hl with | [_, _], _ => rfl, ?_⟩
  refine F.ok sc__law_take (fun vs H Q E h => ?_) (fun cdv A outer s H vs Q E hr h => ?_)
  · obtain ⟨p, x, n, rfl, hp, n0, n1, q⟩ := h
    rfl
  · obtain ⟨p, x, n, rfl, hp, n0, n1, q⟩ := h
    refine ⟨_, PSs.nox (pss_cons (ps_set (i := 2) sc__law_take.nd rfl (Or.inl rfl) (pe_op op_modN (pe_callTy call_int1 (by rfl) (T.fr 35 _ rfl) (by decide +kernel) (pa_cons (pe_ix ix_list (pv 0) pe_int (fun _ _ => rfl)) pa_nil)) (pv 1)))
      (pss_cons (ps_asg (pe_op op_fdivN (pe_ix ix_list (pv 0) pe_int (fun _ _ => rfl)) (pv 1)) (pg_sub (pv 0) pe_int set_list))
      (pss_one (ps_ret (pv 2))))), ?_⟩
    walk_at "u"
    refine ⟨_, rfl, _, _, _, _, rfl, rfl, SqL.of hp, atI_nat (j := 0) rfl, .inl ⟨_, rfl, _, rfl, _, _, rfl, rfl, by omega, ?_⟩⟩
    refine ⟨_, rfl, _, _, _, _, rfl, rfl, SqL.of hp, atI_nat (j := 0) rfl, _, rfl, _, _, rfl, rfl, ⟨by omega, by omega⟩, ?_⟩
    refine ⟨_, rfl, _, _, _, 0, rfl, rfl, hp, rfl, _, rfl, ?_⟩
    exact q _ _ (fmod_lo n0) (fmod_hi n0)
def spPile (K : PySem.W.Frag) : Sp := fun vs H Q _ => ∃ (a : Addr) (ns : List Int) (k : Int), vs = [.ref a, .int k] ∧ SqL K H a (iV ns) ∧ ns.length ≤ 63 ∧ 0 ≤ k ∧ ∀ p x, H p = none → Q (.ref p) (upd H p (.lst [.int x]))
theorem ok__law_pile (T : Env K mg) : Ok P w K mg base CX0 dd__law_pile "_law_pile" 2 ["_law_script", "_law_k"] (spPile K) := by
  obtain ⟨fd__law_mixed, D__law_mixed, g__law_mixed, k__law_mixed, b__law_mixed, G__law_mixed⟩ := ok__law_mixed (P := P) (w := w) (base := base) T
  obtain ⟨fd, F⟩ := T.c.def_ 19 (d := dd__law_pile) rfl
  refine ⟨fd, F, T.gl 19 _ rfl, F.kp, F.bindsN fun _ _ _ _ _ _ us hl => match us, hl with | [_, _], _ => rfl, ?_⟩
  refine F.ok sc__law_pile (fun vs H Q E h => ?_) (fun cdv A outer s H vs Q E hr h => ?_)
  · obtain ⟨a, ns, k, rfl, hS, hlen, k0, q⟩ := h
    rfl
  · obtain ⟨a, ns, k, rfl, hS, hlen, k0, q⟩ := h
    refine ⟨_, PSs.nox (pss_cons (ps_set (i := 2) sc__law_pile.nd rfl (Or.inl rfl) pe_int)
      (pss_cons (ps_if (pt_cmpR op_lt (pv 1) (pe_callB call_len_seq (by rfl) (T.fr 38 _ rfl) (by decide +kernel) (pa_cons (pv 0) pa_nil)) (nomark _)) (pss_one (ps_set (i := 2) sc__law_pile.nd rfl (Or.inl rfl) (pe_ix ix_list (pv 0) (pv 1) (fun _ _ => rfl)))) pss_nil)
      (pss_cons (ps_if (pt_cmpR op_ge (pv 2) (pe_op op_pow pe_int pe_int) (nomark _)) (pss_one (ps_ret (pe_lst (pa_cons (pe_op op_modN (pe_callTy call_int1 (by rfl) (T.fr 35 _ rfl) (by decide +kernel) (pa_cons (pe_op op_sub (pv 2) (pe_op op_pow pe_int pe_int)) pa_nil)) (pe_op op_mulW (pe_op op_mulW (pe_op op_mulW (pe_op op_pow pe_int pe_int) (pe_op op_pow pe_int pe_int)) (pe_op op_pow pe_int pe_int)) (pe_op op_pow pe_int pe_int))) pa_nil)))) pss_nil)
      (pss_cons (ps_set (i := 3) sc__law_pile.nd rfl (Or.inl rfl) pe_int)
      (pss_cons (ps_for PassesOwn.never rfl (pi_range1 (by rfl) (T.fr 42 _ rfl) (pa_cons pe_int pa_nil)) (pg_name (i := 4) sc__law_pile.nd rfl (Or.inl rfl)) (pss_one (ps_set (i := 3) sc__law_pile.nd rfl (Or.inl rfl) (pe_op op_add (pe_op op_mul (pv 3) pe_int) (pe_call G__law_mixed (hr.mono (by decide)) (by rfl) g__law_mixed k__law_mixed b__law_mixed .nil pass0 (pa_cons (pv 2) (pa_cons (pe_op op_add (pe_op op_add (pe_op op_mul pe_int (pv 1)) (pe_op op_mul pe_int (pv 4))) (pe_op op_mul (pv 4) (pv 4))) pa_nil)))))))
      (pss_one (ps_ret (pe_lst (pa_cons (pv 3) pa_nil))))))))), ?_⟩
    walk_at "u"
    have hL : SqL K H a (iV ns) := hS
    refine ⟨_, rfl, _, rfl, a, iV ns, rfl, .inl hL, _, _, rfl, rfl, _, rfl, ?_⟩
    refine' iteJ (X := Int) (fun e rest => ?_) (fun e rest => ?_) (fun c => ?_)
    rotate_left
    · have hk : k < (ns.length : Int) := by
        have h2 := of_decide_eq_true e
        rw [iV_len] at h2
        exact h2
      obtain ⟨c, hc⟩ : ∃ c, ns[k.toNat]? = some c := ⟨_, List.getElem?_eq_getElem (by omega)⟩
      refine ⟨_, rfl, _, rfl, _, _, _, _, rfl, rfl, hL, atI_iV (j := k.toNat) (by omega) hc, ?_⟩
      exact rest c
    · exact rest 0
    · refine ⟨_, rfl, _, _, rfl, rfl, ⟨by decide, by decide, by decide⟩, _, _, rfl, rfl, _, rfl, ifB (fun e => ?_) (fun e => ?_)⟩
      · refine ⟨_, rfl, _, _, rfl, rfl, ⟨by decide, by decide, by decide⟩, _, _, rfl, rfl, .inl ⟨_, rfl, ?_⟩⟩
        refine ⟨_, _, rfl, rfl, ⟨by decide, by decide, by decide⟩, _, _, rfl, rfl, ⟨by decide, by decide, by decide⟩, _, _, rfl, rfl, (by show _ + _ < 1000000; decide +kernel), ?_⟩
        refine ⟨_, _, rfl, rfl, ⟨by decide, by decide, by decide⟩, _, _, rfl, rfl, (by show _ + _ < 1000000; decide +kernel), ?_⟩
        refine ⟨_, _, rfl, rfl, ⟨by decide, by decide, by decide⟩, _, _, rfl, rfl, (by show _ + _ < 1000000; decide +kernel), ?_⟩
        refine ⟨_, _, rfl, rfl, by decide +kernel, (show 1 ≤ sizeLine by decide), fun p hp => ?_⟩
        exact q p _ hp
      · refine ⟨_, rfl, by decide, by decide, for_range (lo := 0) (n := 24) (fun i σ H' => ∃ f y, σ = [some (.ref a), some (.int k), some (.int c), some (.int f), y] ∧ H' = H) ⟨0, none, rfl, rfl⟩ (fun i σ H' hi hp => ?_) (fun σ H' hp => ?_)⟩
        · obtain ⟨f, y, rfl, rfl⟩ := hp
          refine ⟨_, rfl, _, _, rfl, rfl, .inr ⟨by decide, by decide⟩, _, rfl, _, rfl, _, _, rfl, rfl, .inl ⟨by decide, by decide⟩, _, rfl, _, _, rfl, rfl, .inl ⟨by decide, by decide⟩, _, _, rfl, rfl, _, rfl, _, rfl, _, _, rfl, rfl, .inl ⟨by omega, by omega⟩, _, _, rfl, rfl, ?_⟩
          refine ⟨_, _, rfl, fun r r0 r1 => ?_⟩
          exact ⟨_, _, rfl, rfl, _, _, rfl, rfl⟩
        · obtain ⟨f, y, rfl, rfl⟩ := hp
          exact ⟨_, rfl, (show 1 ≤ sizeLine by decide), fun p hp => q p _ hp⟩
def spOrder : Sp := fun vs H Q _ => ∃ (p : Addr) (x : Int) (n : Nat), vs = [.ref p, .int (n : Int)] ∧ H p = some (.lst [.int x]) ∧ n ≤ 100 ∧
  ∀ (q : Addr) (os : List Nat) (x' : Int) (H' : Hp), H q = none → But p H H' → H' p = some (.lst [.int x']) → H' q = some (.lst (nV os)) → os.Perm (List.range n) → Q (.ref q) H'
theorem ok__law_order (T : Env K mg) : Ok P w K mg base CX0 dd__law_order "_law_order" 2 ["_law_pile_here", "_law_many"] spOrder := by
  obtain ⟨fd__law_take, D__law_take, g__law_take, k__law_take, b__law_take, G__law_take⟩ := ok__law_take (P := P) (w := w) (base := base) T
  obtain ⟨fd, F⟩ := T.c.def_ 21 (d := dd__law_order) rfl
  refine ⟨fd, F, T.gl 21 _ rfl, F.kp, F.bindsN fun _ _ _ _ _ _ us hl => match us, hl with | [_, _], _ => rfl, ?_⟩
  refine F.ok sc__law_order (fun vs H Q E h => ?_) (fun cdv A outer s H vs Q E hr h => ?_)
  · obtain ⟨p, x, n, rfl, hp, hn, q⟩ := h
    rfl
  · obtain ⟨p, x, n, rfl, hp, hn, q⟩ := h
    refine ⟨_, PSs.nox (pss_cons (ps_set (i := 2) sc__law_order.nd rfl (Or.inl rfl) (pe_lst pa_nil))
      (pss_cons (ps_for PassesOwn.never rfl (pi_range1 (by rfl) (T.fr 42 _ rfl) (pa_cons (pv 1) pa_nil)) (pg_name (i := 3) sc__law_order.nd rfl (Or.inl rfl)) (pss_one (ps_expr (pe_bm PySem.F.plainAttrs_list PySem.F.slot_list_insert PySem.F.type_list_insert mt_insert (pv 2) (pa_cons (pe_call G__law_take (hr.mono (by decide)) (by rfl) g__law_take k__law_take b__law_take .nil pass0 (pa_cons (pv 0) (pa_cons (pe_op op_add (pv 3) pe_int) pa_nil))) (pa_cons (pv 3) pa_nil))))))
      (pss_one (ps_ret (pv 2))))), ?_⟩
    walk_at "u"
    refine ⟨by decide, fun o no => ?_⟩
    have npo : p ≠ o := ne_of_none hp no
    refine ⟨_, rfl, _, rfl, by omega, by omega, for_range (lo := 0) (n := (n : Int).toNat) (fun i σ H' => ∃ os x' y, σ = [some (.ref p), some (.int (n : Int)), some (.ref o), y] ∧ But p H H' ∧ H' p = some (.lst [.int x']) ∧ H' o = some (.lst (nV os)) ∧ os.Perm (List.range i))
      ⟨[], x, none, rfl, But.new no, by rw [upd_ne npo]; exact hp, by rw [upd_same]; rfl, List.Perm.refl _⟩ (fun i σ H' hi hP => ?_) (fun σ H' hP => ?_)⟩
    · obtain ⟨os, x', y, rfl, hb, hp', ho, hperm⟩ := hP
      have hl : os.length = i := by rw [hperm.length_eq, List.length_range]
      refine ⟨_, rfl, .inl ⟨rfl, _, .inl (.inl ho)⟩, _, rfl, _, rfl, _, _, rfl, rfl, p, x', _, rfl, hp', by omega, by omega, fun d x2 d0 d1 => ?_⟩
      refine ⟨_, rfl, o, nV os, d, _, rfl, rfl, by rw [upd_ne npo.symm]; exact ho, by rw [nV_len]; exact small_lt (by omega), d0, by omega, ?_⟩
      refine ⟨os.take d.toNat ++ [i] ++ os.drop d.toNat, x2, _, rfl, ?_, ?_, ?_, ?_⟩
      · intro b u nb hb2
        rw [upd_ne (ne_of_none hb2 no), upd_ne nb]
        exact hb b u nb hb2
      · rw [upd_ne npo, upd_same]
      · rw [upd_same, ← nV_ins]
        simp
      · rw [range_snoc]
        exact (perm_ins os d.toNat i).trans ((List.Perm.cons i hperm).trans (List.perm_append_comm (l₁ := [i]) (l₂ := List.range i)))
    · obtain ⟨os, x', y, rfl, hb, hp', ho, hperm⟩ := hP
      refine ⟨_, rfl, ?_⟩
      exact q o os x' H' no hb hp' ho (by simpa using hperm)
def spRoom1 (K : PySem.W.Frag) : Sp := fun vs H Q _ => ∃ (r : Addr) (rs : List Int) (h : Int), vs = [.ref r, .int h] ∧ SqL K H r (iV rs) ∧ 1 ≤ h ∧ Q (.int (roomAt rs h)) H
theorem ok__law_room (T : Env K mg) : Ok P w K mg base CX0 dd__law_room "_law_room" 1 ["_law_rooms", "_law_hour"] (spRoom1 K) := by
  obtain ⟨fd, F⟩ := T.c.def_ 22 (d := dd__law_room) rfl
  refine ⟨fd, F, T.gl 22 _ rfl, F.kp, F.bindsN fun _ _ _ _ _ _ us hl => match us, hl with | [_, _], _ => rfl, ?_⟩
  refine F.ok sc__law_room (fun vs H Q E h => ?_) (fun cdv A outer s H vs Q E hr h => ?_)
  · obtain ⟨r, rs, h, rfl, hr', h1, q⟩ := h
    rfl
  · obtain ⟨r, rs, h, rfl, hr', h1, q⟩ := h
    refine ⟨_, PSs.nox (pss_cons (ps_if (pt_cmpR op_le (pv 1) (pe_callB call_len_seq (by rfl) (T.fr 38 _ rfl) (by decide +kernel) (pa_cons (pv 0) pa_nil)) (nomark _)) (pss_one (ps_ret (pe_ix ix_list (pv 0) (pe_op op_sub (pv 1) pe_int) (fun _ _ => rfl)))) pss_nil)
      (pss_one (ps_ret pe_int))), ?_⟩
    walk_at "u"
    refine ⟨_, rfl, _, rfl, r, iV rs, rfl, .inl hr', _, _, rfl, rfl, _, rfl, ifB (fun e => ?_) (fun e => ?_)⟩
    · have hk : h ≤ (rs.length : Int) := by
        have h2 := of_decide_eq_true e
        rw [iV_len] at h2
        exact h2
      refine ⟨_, rfl, _, rfl, _, _, rfl, rfl, _, _, _, _, rfl, rfl, hr', atI_iV (j := (h - 1).toNat) (by omega) (roomAt_in h1 hk), ?_⟩
      exact q
    · have hk : (rs.length : Int) < h := by
        have h2 := of_decide_eq_false e
        rw [iV_len] at h2
        omega
      rw [roomAt_out hk] at q
      exact q
def spHours : Sp := fun vs H Q _ => ∃ (p oa ra : Addr) (x : Int) (n : Nat) (os : List Nat) (rs : List Int), vs = [.ref p, .ref oa, .ref ra] ∧ H p = some (.lst [.int x]) ∧ H oa = some (.lst (nV os)) ∧ H ra = some (.lst (iV rs)) ∧ oa ≠ p ∧ ra ≠ p ∧ os.Perm (List.range n) ∧ n ≤ 100 ∧ Rooms rs ∧
  ∀ (q : Addr) (hs : List Int) (x' : Int) (H' : Hp), H q = none → But p H H' → H' p = some (.lst [.int x']) → H' q = some (.lst (iV hs)) → hs.length = n → (∀ h ∈ hs, 1 ≤ h ∧ h ≤ 20 + n) → Q (.ref q) H'
theorem ok__law_hours (T : Env K mg) : Ok P w K mg base CX0 dd__law_hours "_law_hours" 2 ["_law_pile_here", "_law_order_here", "_law_rooms"] spHours := by
  obtain ⟨fd__law_room, D__law_room, g__law_room, k__law_room, b__law_room, G__law_room⟩ := ok__law_room (P := P) (w := w) (base := base) T
  obtain ⟨fd__law_take, D__law_take, g__law_take, k__law_take, b__law_take, G__law_take⟩ := ok__law_take (P := P) (w := w) (base := base) T
  obtain ⟨fd, F⟩ := T.c.def_ 23 (d := dd__law_hours) rfl
  refine ⟨fd, F, T.gl 23 _ rfl, F.kp, F.bindsN fun _ _ _ _ _ _ us hl => match us, hl with | [_, _, _], _ => rfl, ?_⟩
  refine F.ok sc__law_hours (fun vs H Q E h => ?_) (fun cdv A outer s H vs Q E hr h => ?_)
  · obtain ⟨p, oa, ra, x, n, os, rs, rfl, hp, hoa, hra, noa, nra, hperm, hn, R, q⟩ := h
    rfl
  · obtain ⟨p, oa, ra, x, n, os, rs, rfl, hp, hoa, hra, noa, nra, hperm, hn, R, q⟩ := h
    refine ⟨_, PSs.nox (pss_cons (ps_setLc (i := 3) (own := [("_law_task", 6)]) (g := gName 6) (tt := tYes) (by rfl) sc__law_hours.nd rfl rfl (sw_true rfl rfl rfl (by decide +kernel)) (pi_list (pv 1)) (blkOk_by (own := [("_law_task", 6)]) (N := N__law_hours) (sc := defScope s__law_hours) (by decide +kernel)) (fun _ _ _ _ _ => (pg_name (i := 6) sc__law_hours.nd rfl (by first | exact Or.inl rfl | exact Or.inr rfl))) (fun _ _ _ _ _ => pts_nil) (fun _ _ _ _ _ => pe_int))
      (pss_cons (ps_set (i := 4) sc__law_hours.nd rfl (Or.inl rfl) pe_int)
      (pss_cons (ps_set (i := 5) sc__law_hours.nd rfl (Or.inl rfl) (pe_call G__law_room (hr.mono (by decide)) (by rfl) g__law_room k__law_room b__law_room .nil pass0 (pa_cons (pv 2) (pa_cons pe_int pa_nil))))
      (pss_cons (ps_for PassesOwn.never rfl (pi_list (pv 1)) (pg_name (i := 6) sc__law_hours.nd rfl (Or.inl rfl)) (pss_cons (ps_while PassesOwn.never (PW.pt (pw_or (pt_cmpR op_eq (pv 5) pe_int (nomark _)) (pw_or1 (PW.pt (pw_and (pt_cmpR op_eq (pe_call G__law_take (hr.mono (by decide)) (by rfl) g__law_take k__law_take b__law_take .nil pass0 (pa_cons (pv 0) (pa_cons pe_int pa_nil))) pe_int (nomark _)) (pw_and1 (pt_cmpR op_lt (pv 4) pe_int (nomark _)))))))) (pss_cons (ps_set (i := 4) sc__law_hours.nd rfl (Or.inl rfl) (pe_op op_add (pv 4) pe_int))
      (pss_one (ps_set (i := 5) sc__law_hours.nd rfl (Or.inl rfl) (pe_call G__law_room (hr.mono (by decide)) (by rfl) g__law_room k__law_room b__law_room .nil pass0 (pa_cons (pv 2) (pa_cons (pv 4) pa_nil)))))))
      (pss_cons (ps_asg (pv 4) (pg_sub (pv 3) (pv 6) set_list))
      (pss_one (ps_set (i := 5) sc__law_hours.nd rfl (Or.inl rfl) (pe_op op_sub (pv 5) pe_int))))))
      (pss_one (ps_ret (pv 3))))))), ?_⟩
    walk_at "u"
    have hl : os.length = n := by rw [hperm.length_eq, List.length_range]
    refine ⟨_, rfl, oa, rfl, ⟨_, SqL.of hoa⟩, fun o no => lc_list (K := K) (a := oa) (xs := nV os) (fun i H' => Same H H' ∧ H' o = some (.lst (iV (List.replicate i 0)))) ⟨same_upd no, upd_same⟩ (fun i H' _ hP => hP.1.seq (SqL.of hoa)) (fun i v H' hv hP => ?_) (fun H' hP => ?_)⟩
    · have hi : i < n := by
        have h2 := (List.getElem?_eq_some_iff.mp hv).1
        rw [nV_len] at h2
        omega
      refine ⟨rfl, ?_⟩
      walk_at "u"
      refine iteT ⟨_, hP.2, by rw [iV_len, List.length_replicate]; exact small_lt (by omega), same_mut hP.1 no, ?_⟩
      rw [upd_same, iV_app, ← List.replicate_succ']
    have npo : p ≠ o := ne_of_none hp no
    obtain ⟨sm, ho⟩ := hP
    rw [nV_len, hl] at ho
    have hra1 : H' ra = some (.lst (iV rs)) := sm _ _ hra
    refine ⟨_, rfl, ra, rs, 1, rfl, SqL.of hra1, by decide, ?_⟩
    refine ⟨_, rfl, oa, rfl, ⟨_, SqL.of (sm _ _ hoa)⟩, for_list (K := K) (a := oa) (xs := nV os) (fun i σ H2 => ∃ hs hour left x' y, σ = [some (.ref p), some (.ref oa), some (.ref ra), some (.ref o), some (.int hour), some (.int left), y] ∧ But p H H2 ∧ H2 p = some (.lst [.int x']) ∧ H2 o = some (.lst (iV hs)) ∧ hs.length = n ∧ 1 ≤ hour ∧ hour ≤ 20 + i ∧ ∀ t, t ∈ os.take i → ∃ h, hs[t]? = some h ∧ 1 ≤ h ∧ h ≤ 20 + n)
      ⟨List.replicate n 0, 1, _, x, none, rfl, But.of sm, sm _ _ hp, ho, List.length_replicate, by decide, by omega, fun t ht => by simp at ht⟩ (fun i σ H2 _ hP => ?_) (fun i v σ H2 hv hP => ?_) (fun σ H2 hP => ?_)⟩
    · obtain ⟨hs, hour, left, x', y, rfl, hb, _⟩ := hP
      exact hb.seq noa (SqL.of hoa)
    · obtain ⟨hs, hour, left, x', y, rfl, hb, hp2, ho2, hhl, h1, h20, hset⟩ := hP
      obtain ⟨t, ht, rfl⟩ := nV_of hv
      have hi : i < n := by
        have h2 := (List.getElem?_eq_some_iff.mp ht).1
        omega
      have htn : t < n := List.mem_range.mp (hperm.mem_iff.mp (List.mem_of_getElem? ht))
      refine ⟨fun m σ H3 => ∃ hour left x', σ = [some (.ref p), some (.ref oa), some (.ref ra), some (.ref o), some (.int hour), some (.int left), some (.int (t : Int))] ∧ But p H H3 ∧ H3 p = some (.lst [.int x']) ∧ H3 o = some (.lst (iV hs)) ∧ 1 ≤ hour ∧ (hour ≤ 20 + i ∨ (hour ≤ 21 + i ∧ left ≠ 0 ∧ 20 ≤ hour)) ∧ m = muH hour left,
        ⟨_, hour, left, x', rfl, hb, hp2, ho2, h1, .inl h20, rfl⟩, fun m σ H3 hW => ?_⟩
      obtain ⟨hour, left, x', rfl, hb, hp3, ho3, h1, h20, rfl⟩ := hW
      have hra3 : H3 ra = some (.lst (iV rs)) := hb _ _ nra hra
      have step : ∀ H4 : Hp, But p H H4 → (∃ x', H4 p = some (.lst [.int x'])) → H4 o = some (.lst (iV hs)) → (left = 0 ∨ hour < 20) → ∃ x', H4 p = some (.lst [.int x']) ∧ H4 ra = some (.lst (iV rs)) ∧ muH (hour + 1) (roomAt rs (hour + 1)) < muH hour left ∧ (hour + 1 ≤ 20 + i ∨ (hour + 1 ≤ 21 + i ∧ roomAt rs (hour + 1) ≠ 0 ∧ 20 ≤ hour + 1)) := fun H4 b4 ⟨x4, p4⟩ o4 hc => by
        have h2 : 20 ≤ hour → roomAt rs (hour + 1) = 2 := fun hh => roomAt_out (by have := R.len; omega)
        refine ⟨x4, p4, b4 _ _ nra hra, muH_lt hc h2, ?_⟩
        by_cases hh : 20 ≤ hour
        · have := h2 hh
          rcases h20 with h20 | ⟨h20, hz, _⟩
          · exact .inr ⟨by omega, by omega, by omega⟩
          · exact absurd (hc.resolve_right (by omega)) hz
        · exact .inl (by omega)
      have fin : (hour ≤ 20 + i ∨ (hour ≤ 21 + i ∧ left ≠ 0 ∧ 20 ≤ hour)) → hour ≤ 20 + ((i + 1 : Nat) : Int) := fun z => by
        rcases z with z | ⟨z, _⟩ <;> omega
      have last : ∀ H4 : Hp, But p H H4 → (∃ x', H4 p = some (.lst [.int x'])) → H4 o = some (.lst (iV hs)) → ∃ hs' x', But p H (upd H4 o (.lst ((iV hs).set t (.int hour)))) ∧ upd H4 o (.lst ((iV hs).set t (.int hour))) p = some (.lst [.int x']) ∧ upd H4 o (.lst ((iV hs).set t (.int hour))) o = some (.lst (iV hs')) ∧ hs'.length = n ∧ ∀ t', t' ∈ os.take (i + 1) → ∃ h, hs'[t']? = some h ∧ 1 ≤ h ∧ h ≤ 20 + n := fun H4 b4 ⟨x4, p4⟩ o4 => by
        refine ⟨hs.set t hour, x4, b4.mut no, by rw [upd_ne npo]; exact p4, by rw [upd_same, iV_set], by rw [List.length_set]; exact hhl, fun t' ht' => ?_⟩
        by_cases e : t' = t
        · subst e
          exact ⟨hour, List.getElem?_set_self (by omega), h1, by have := fin h20; omega⟩
        · rw [List.getElem?_set_ne (fun z => e z.symm)]
          refine hset t' ?_
          rw [List.take_add_one, ht] at ht'
          rcases List.mem_append.mp ht' with z | z
          · exact z
          · exact absurd (by simpa using z) e
      refine ⟨_, rfl, rfl, _, rfl, ifB (fun e => iteT ?_) (fun e => ?_)⟩
      · have hz : left = 0 := V.int.inj (of_decide_eq_true e)
        obtain ⟨x4, p4, r4, m4, i4⟩ := step H3 hb ⟨_, hp3⟩ ho3 (.inl hz)
        refine ⟨fun σ' H' => ∃ m', m' < muH hour left ∧ _, fun _ _ z => z, ?_⟩
        refine ⟨_, rfl, _, _, rfl, rfl, _, rfl, _, rfl, ra, rs, _, rfl, SqL.of r4, by omega, ?_⟩
        exact ⟨_, m4, _, _, x4, rfl, hb, p4, ho3, by omega, i4, rfl⟩
      · refine ⟨_, rfl, p, x', 6, rfl, hp3, by decide, by decide, fun d x4 d0 d1 => ?_⟩
        have b4 : But p H (upd H3 p (.lst [.int x4])) := hb.trans But.upd
        have o4 : upd H3 p (.lst [.int x4]) o = some (.lst (iV hs)) := by
          rw [upd_ne npo.symm]
          exact ho3
        have p4 : upd H3 p (.lst [.int x4]) p = some (.lst [.int x4]) := upd_same
        refine ⟨rfl, _, rfl, ifB (fun e2 => ?_) (fun e2 => iteF ?_)⟩
        · refine ⟨_, rfl, _, _, rfl, rfl, _, rfl, ifB (fun e3 => ?_) (fun e3 => ?_)⟩
          · have hz : hour < 20 := of_decide_eq_true e3
            obtain ⟨x5, p5, r5, m5, i5⟩ := step _ b4 ⟨_, p4⟩ o4 (.inr hz)
            refine ⟨fun σ' H' => ∃ m', m' < muH hour left ∧ _, fun _ _ z => z, ?_⟩
            refine ⟨_, rfl, _, _, rfl, rfl, _, rfl, _, rfl, ra, rs, _, rfl, SqL.of r5, by omega, ?_⟩
            exact ⟨_, m5, _, _, x5, rfl, b4, p5, o4, by omega, i5, rfl⟩
          · obtain ⟨hs', x5, l1, l2, l3, l4, l5⟩ := last _ b4 ⟨_, p4⟩ o4
            refine ⟨_, rfl, _, rfl, _, rfl, _, _, _, t, rfl, rfl, o4, ixN_at rfl (by rw [iV_len]; omega), _, rfl, _, _, rfl, rfl, ?_⟩
            exact ⟨hs', hour, _, x5, _, rfl, l1, l2, l3, l4, h1, fin h20, l5⟩
        · obtain ⟨hs', x5, l1, l2, l3, l4, l5⟩ := last _ b4 ⟨_, p4⟩ o4
          refine ⟨_, rfl, _, rfl, _, rfl, _, _, _, t, rfl, rfl, o4, ixN_at rfl (by rw [iV_len]; omega), _, rfl, _, _, rfl, rfl, ?_⟩
          exact ⟨hs', hour, _, x5, _, rfl, l1, l2, l3, l4, h1, fin h20, l5⟩
    · obtain ⟨hs, hour, left, x', y, rfl, hb, hp2, ho2, hhl, h1, h20, hset⟩ := hP
      refine ⟨_, rfl, ?_⟩
      refine q o hs x' H2 no hb hp2 ho2 hhl fun h hh => ?_
      obtain ⟨t, ht⟩ := List.getElem?_of_mem hh
      have htn : t < n := by
        have := (List.getElem?_eq_some_iff.mp ht).1
        omega
      obtain ⟨h', e1, e2, e3⟩ := hset t (by
        rw [nV_len, List.take_length]
        exact hperm.mem_iff.mpr (List.mem_range.mpr htn))
      rw [ht] at e1
      cases e1
      exact ⟨e2, e3⟩
def spNeeds : Sp := fun vs H Q _ => ∃ (p oa ha : Addr) (x : Int) (n : Nat) (os : List Nat) (hs : List Int), vs = [.ref p, .ref oa, .ref ha] ∧ H p = some (.lst [.int x]) ∧ H oa = some (.lst (nV os)) ∧ H ha = some (.lst (iV hs)) ∧ oa ≠ p ∧ ha ≠ p ∧ os.Perm (List.range n) ∧ hs.length = n ∧ n ≤ 100 ∧
  ∀ (q : Addr) (zs : List (Addr × Nat × Nat)) (x' : Int) (H' : Hp), H q = none → But p H H' → H' p = some (.lst [.int x']) → NeedsAt H' q zs → zs.length ≤ 30 → (zs.map (·.2)).Nodup → Along os zs n 0 → Q (.ref q) H'
theorem ok__law_needs (T : Env K mg) : Ok P w K mg base CX0 dd__law_needs "_law_needs" 2 ["_law_pile_here", "_law_order_here", "_law_hours_here"] spNeeds := by
  obtain ⟨fd__law_take, D__law_take, g__law_take, k__law_take, b__law_take, G__law_take⟩ := ok__law_take (P := P) (w := w) (base := base) T
  obtain ⟨fd, F⟩ := T.c.def_ 24 (d := dd__law_needs) rfl
  refine ⟨fd, F, T.gl 24 _ rfl, F.kp, F.bindsN fun _ _ _ _ _ _ us hl => match us, hl with | [_, _, _], _ => rfl, ?_⟩
  refine F.ok sc__law_needs (fun vs H Q E h => ?_) (fun cdv A outer s H vs Q E hr h => ?_)
  · obtain ⟨p, oa, ha, x, n, os, hs, rfl, hp, hoa, hha, noa, nha, hperm, hhl, hn, q⟩ := h
    rfl
  · obtain ⟨p, oa, ha, x, n, os, hs, rfl, hp, hoa, hha, noa, nha, hperm, hhl, hn, q⟩ := h
    refine ⟨_, PSs.nox (pss_cons (ps_set (i := 3) sc__law_needs.nd rfl (Or.inl rfl) (pe_cmpR op_eq (pe_call G__law_take (hr.mono (by decide)) (by rfl) g__law_take k__law_take b__law_take .nil pass0 (pa_cons (pv 0) (pa_cons pe_int pa_nil))) pe_int (nomark _)))
      (pss_cons (ps_set (i := 4) sc__law_needs.nd rfl (Or.inl rfl) (pe_op op_add pe_int (pe_call G__law_take (hr.mono (by decide)) (by rfl) g__law_take k__law_take b__law_take .nil pass0 (pa_cons (pv 0) (pa_cons pe_int pa_nil)))))
      (pss_cons (ps_set (i := 5) sc__law_needs.nd rfl (Or.inl rfl) (pe_lst pa_nil))
      (pss_cons (ps_for PassesOwn.never rfl (pi_range1 (by rfl) (T.fr 42 _ rfl) (pa_cons (pe_callB call_len_seq (by rfl) (T.fr 38 _ rfl) (by decide +kernel) (pa_cons (pv 1) pa_nil)) pa_nil)) (pg_name (i := 6) sc__law_needs.nd rfl (Or.inl rfl)) (pss_one (ps_for PassesOwn.never rfl (pi_range1 (by rfl) (T.fr 42 _ rfl) (pa_cons (pv 6) pa_nil)) (pg_name (i := 7) sc__law_needs.nd rfl (Or.inl rfl)) (pss_cons (ps_par (i := 8) (j := 9) (by rfl) sc__law_needs.nd rfl rfl (by decide) rfl rfl (pa_cons (pe_ix ix_list (pv 1) (pv 7) (fun _ _ => rfl)) (pa_cons (pe_ix ix_list (pv 1) (pv 6) (fun _ _ => rfl)) pa_nil)) (by rfl))
      (pss_one (ps_if (PW.pt (pw_and (pt_cmpR op_lt (pe_callB call_len_seq (by rfl) (T.fr 38 _ rfl) (by decide +kernel) (pa_cons (pv 5) pa_nil)) pe_int (nomark _)) (pw_and (PW.pt (pw_or (pt_val (pv 3)) (pw_or1 (pt_cmpR op_lt (pe_ix ix_list (pv 2) (pv 8) (fun _ _ => rfl)) (pe_ix ix_list (pv 2) (pv 9) (fun _ _ => rfl)) (nomark _))))) (pw_and1 (pt_cmpR op_eq (pe_call G__law_take (hr.mono (by decide)) (by rfl) g__law_take k__law_take b__law_take .nil pass0 (pa_cons (pv 0) (pa_cons (pv 4) pa_nil))) pe_int (nomark _)))))) (pss_one (ps_expr (pe_bm PySem.F.plainAttrs_list PySem.F.slot_list_insert PySem.F.type_list_insert mt_insert (pv 5) (pa_cons (pe_call G__law_take (hr.mono (by decide)) (by rfl) g__law_take k__law_take b__law_take .nil pass0 (pa_cons (pv 0) (pa_cons (pe_op op_add (pe_callB call_len_seq (by rfl) (T.fr 38 _ rfl) (by decide +kernel) (pa_cons (pv 5) pa_nil)) pe_int) pa_nil))) (pa_cons (pe_tup (pa_cons (pv 8) (pa_cons (pv 9) pa_nil))) pa_nil))))) pss_nil))))))
      (pss_one (ps_ret (pv 5))))))), ?_⟩
    walk_at "u"
    have hl : os.length = n := by rw [hperm.length_eq, List.length_range]
    have hnd := nodup_of_perm hperm
    have hlt : ∀ {i t : Nat}, os[i]? = some t → t < n := fun h => List.mem_range.mp (hperm.mem_iff.mp (List.mem_of_getElem? h))
    refine ⟨_, rfl, p, x, 4, rfl, hp, by decide, by decide, fun d1 x1 _ _ => ⟨rfl, ?_⟩⟩
    generalize hloose : decide (V.int d1 = V.int 0) = loose
    refine ⟨_, rfl, p, x1, 5, rfl, upd_same, by decide, by decide, fun d2 x2 d20 d21 => ⟨_, _, rfl, rfl, (show 0 ≤ sizeLine by decide), fun o no => ?_⟩⟩
    have hb0 : But p H (upd (upd H p (.lst [.int x1])) p (.lst [.int x2])) := But.upd.trans But.upd
    have npo : p ≠ o := ne_of_none (o := .lst [.int x2]) upd_same no
    have no0 : H o = none := hb0.free npo.symm no
    have hb1 : But p H (upd (upd (upd H p (.lst [.int x1])) p (.lst [.int x2])) o (.lst [])) := hb0.trans (But.new no)
    refine ⟨_, rfl, oa, _, rfl, .inl (hb1.seq noa (SqL.of hoa)), _, rfl, ?_⟩
    rw [nV_len, hl]
    refine ⟨by omega, by omega, for_range (lo := 0) (n := (n : Int).toNat) (fun j σ H2 => ∃ zs x' y6 y7 y8 y9, σ = [some (.ref p), some (.ref oa), some (.ref ha), some (.bl loose), some (.int (2 + d2)), some (.ref o), y6, y7, y8, y9] ∧ But p H H2 ∧ H2 p = some (.lst [.int x']) ∧ NeedsAt H2 o zs ∧ zs.length ≤ 30 ∧ (zs.map (·.2)).Nodup ∧ Along os zs j 0)
      ⟨[], x2, none, none, none, none, rfl, hb1, by rw [upd_ne npo, upd_same], ⟨upd_same, fun z hz => by cases hz⟩, by decide, List.nodup_nil, fun z hz => by cases hz⟩ (fun j σ H2 hj hP => ?_) (fun σ H2 hP => ?_)⟩
    · obtain ⟨zs, x', y6, y7, y8, y9, rfl, hb, hp2, hz, hzl, hznd, hal⟩ := hP
      have hj2 : j < n := by omega
      have e0 : (0 : Int) + (j : Int) = (j : Int) := Int.zero_add _
      refine ⟨_, rfl, _, rfl, by omega, by omega, for_range (lo := 0) (n := ((0 : Int) + (j : Int)).toNat) (fun k σ H2 => ∃ zs x' y7 y8 y9, σ = [some (.ref p), some (.ref oa), some (.ref ha), some (.bl loose), some (.int (2 + d2)), some (.ref o), some (.int (0 + (j : Int))), y7, y8, y9] ∧ But p H H2 ∧ H2 p = some (.lst [.int x']) ∧ NeedsAt H2 o zs ∧ zs.length ≤ 30 ∧ (zs.map (·.2)).Nodup ∧ Along os zs j k)
        ⟨zs, x', y7, y8, y9, rfl, hb, hp2, hz, hzl, hznd, hal⟩ (fun k σ H3 hk hP => ?_) (fun σ H3 hP => ?_)⟩
      · obtain ⟨zs, x', y7, y8, y9, rfl, hb, hp3, hz, hzl, hznd, hal⟩ := hP
        have hkj : k < j := by omega
        obtain ⟨a, hak⟩ : ∃ a, os[k]? = some a := ⟨_, List.getElem?_eq_getElem (by omega)⟩
        obtain ⟨b, hbj⟩ : ∃ b, os[j]? = some b := ⟨_, List.getElem?_eq_getElem (by omega)⟩
        have hoa3 := hb _ _ noa hoa
        have hha3 := hb _ _ nha hha
        obtain ⟨ta, hta⟩ : ∃ z, hs[a]? = some z := ⟨_, List.getElem?_eq_getElem (by have := hlt hak; omega)⟩
        obtain ⟨tb, htb⟩ : ∃ z, hs[b]? = some z := ⟨_, List.getElem?_eq_getElem (by have := hlt hbj; omega)⟩
        refine ⟨_, rfl, _, rfl, _, _, _, _, rfl, rfl, SqL.of hoa3, atI_nV (j := k) (by omega) hak, _, rfl, _, rfl, _, _, _, _, rfl, rfl, SqL.of hoa3, atI_nV (j := j) (by omega) hbj, _, _, rfl, ?_⟩
        refine ⟨_, rfl, o, _, rfl, .inl (SqL.of hz.1), _, _, rfl, rfl, _, rfl, ifB (fun e1 => ?_) (fun e1 => iteF ?_)⟩
        · have skip : ∀ x3, ∃ zs' x4 y7' y8' y9', [some (V.ref p), some (.ref oa), some (.ref ha), some (.bl loose), some (.int (2 + d2)), some (.ref o), some (.int (0 + (j : Int))), some (.int (0 + (k : Int))), some (.int (a : Int)), some (.int (b : Int))] = [some (V.ref p), some (.ref oa), some (.ref ha), some (.bl loose), some (.int (2 + d2)), some (.ref o), some (.int (0 + (j : Int))), y7', y8', y9'] ∧ But p H (upd H3 p (.lst [.int x3])) ∧ (upd H3 p (.lst [.int x3])) p = some (.lst [.int x4]) ∧ NeedsAt (upd H3 p (.lst [.int x3])) o zs' ∧ zs'.length ≤ 30 ∧ (zs'.map (·.2)).Nodup ∧ Along os zs' j (k + 1) := fun x3 =>
            ⟨zs, x3, _, _, _, rfl, hb.trans But.upd, upd_same, hz.but hp3 npo.symm But.upd, hzl, hznd, hal.mono (.inr ⟨rfl, Nat.le_succ k⟩)⟩
          have take2 : ∀ x3 d x4 T, 0 ≤ d → d < (zs.length : Int) + 1 → (upd (upd H3 p (.lst [.int x3])) p (.lst [.int x4])) T = none → ∃ zs' x4' y7' y8' y9', [some (V.ref p), some (.ref oa), some (.ref ha), some (.bl loose), some (.int (2 + d2)), some (.ref o), some (.int (0 + (j : Int))), some (.int (0 + (k : Int))), some (.int (a : Int)), some (.int (b : Int))] = [some (V.ref p), some (.ref oa), some (.ref ha), some (.bl loose), some (.int (2 + d2)), some (.ref o), some (.int (0 + (j : Int))), y7', y8', y9'] ∧ But p H (upd (upd (upd (upd H3 p (.lst [.int x3])) p (.lst [.int x4])) T (.tup [.int (a : Int), .int (b : Int)])) o (.lst ((zs.map fun z => V.ref z.1).take d.toNat ++ [.ref T] ++ (zs.map fun z => V.ref z.1).drop d.toNat))) ∧ (upd (upd (upd (upd H3 p (.lst [.int x3])) p (.lst [.int x4])) T (.tup [.int (a : Int), .int (b : Int)])) o (.lst ((zs.map fun z => V.ref z.1).take d.toNat ++ [.ref T] ++ (zs.map fun z => V.ref z.1).drop d.toNat))) p = some (.lst [.int x4']) ∧ NeedsAt (upd (upd (upd (upd H3 p (.lst [.int x3])) p (.lst [.int x4])) T (.tup [.int (a : Int), .int (b : Int)])) o (.lst ((zs.map fun z => V.ref z.1).take d.toNat ++ [.ref T] ++ (zs.map fun z => V.ref z.1).drop d.toNat))) o zs' ∧ zs'.length ≤ 30 ∧ (zs'.map (·.2)).Nodup ∧ Along os zs' j (k + 1) := fun x3 d x4 T hd0 hd1 nT => by
            have hz4 : NeedsAt (upd (upd H3 p (.lst [.int x3])) p (.lst [.int x4])) o zs := (hz.but hp3 npo.symm But.upd).but upd_same npo.symm But.upd
            have hp4 : (upd (upd H3 p (.lst [.int x3])) p (.lst [.int x4])) p = some (.lst [.int x4]) := upd_same
            refine ⟨zs.take d.toNat ++ [(T, a, b)] ++ zs.drop d.toNat, x4, _, _, _, rfl, ?_, by rw [upd_ne npo, upd_ne (ne_of_none hp4 nT)]; exact hp4, hz4.ins nT, ?_, ?_, ?_⟩
            · exact But.mut (((hb.trans But.upd).trans But.upd).trans (But.new nT)) no0
            · rw [(perm_ins zs d.toNat (T, a, b)).length_eq, List.length_cons]
              have h1 : zs.length < 30 := by
                have h3 := of_decide_eq_true e1
                simp only [List.length_map] at h3
                omega
              omega
            · refine (((perm_ins zs d.toNat (T, a, b)).map (·.2)).nodup_iff).mpr ?_
              rw [List.map_cons]
              refine List.nodup_cons.mpr ⟨fun hm => ?_, hznd⟩
              obtain ⟨z, hz1, hz2⟩ := List.mem_map.mp hm
              obtain ⟨j', k', l1, l2, l3, l4⟩ := hal z hz1
              rw [hz2] at l2 l3
              have e1 := ix_of_nodup hnd l2 hak
              have e2 := ix_of_nodup hnd l3 hbj
              omega
            · intro z hz1
              rcases List.mem_cons.mp ((perm_ins zs d.toNat (T, a, b)).mem_iff.mp hz1) with e | hz2
              · subst e
                exact ⟨j, k, hkj, hak, hbj, .inr ⟨rfl, Nat.lt_succ_self k⟩⟩
              · exact hal.mono (k2 := k + 1) (.inr ⟨rfl, Nat.le_succ k⟩) z hz2
          refine ⟨_, rfl, _, rfl, ?_⟩
          refine' iteJ (X := Bool) (fun e rest => ?_) (fun e rest => ?_) (fun c => ?_)
          rotate_left 2
          · refine ⟨_, rfl, _, rfl, _, _, _, _, rfl, rfl, SqL.of hha3, atI_iV (j := a) (by omega) hta, _, rfl, _, rfl, _, _, _, _, rfl, rfl, SqL.of hha3, atI_iV (j := b) (by omega) htb, _, _, rfl, rfl, ?_⟩
            obtain ⟨kk, hkk⟩ : ∃ kk, decide (ta < tb) = kk := ⟨_, rfl⟩
            refine ⟨kk, congrArg V.bl hkk, ?_⟩
            exact rest kk
          · refine ifB (fun _ => ?_) (fun _ => iteF ?_)
            · refine ⟨_, rfl, _, rfl, p, x', _, rfl, hp3, by omega, by omega, fun d x3 _ _ => ⟨rfl, _, rfl, ifB (fun _ => ?_) (fun _ => ?_)⟩⟩
              · have hq3 : (upd H3 p (.lst [.int x3])) o = some (.lst (zs.map fun z => V.ref z.1)) := by
                  rw [upd_ne npo.symm]
                  exact hz.1
                refine ⟨_, rfl, .inl ⟨rfl, _, .inl (.inl hq3)⟩, _, rfl, _, rfl, o, _, rfl, .inl (SqL.of hq3), _, _, rfl, rfl, p, x3, _, rfl, upd_same, ?_⟩
                rw [List.length_map]
                refine ⟨by omega, by omega, fun d x4 hd0 hd1 => ?_⟩
                refine ⟨_, rfl, _, rfl, (show 2 ≤ sizeLine by decide), fun T nT => ?_⟩
                have hq4 : (upd (upd (upd H3 p (.lst [.int x3])) p (.lst [.int x4])) T (.tup [.int (a : Int), .int (b : Int)])) o = some (.lst (zs.map fun z => V.ref z.1)) := by
                  have hq5 : (upd (upd H3 p (.lst [.int x3])) p (.lst [.int x4])) o = some (.lst (zs.map fun z => V.ref z.1)) := by
                    rw [upd_ne npo.symm]
                    exact hq3
                  rw [upd_ne (ne_of_none hq5 nT)]
                  exact hq5
                refine ⟨o, _, d, _, rfl, rfl, hq4, by rw [List.length_map]; exact small_lt (by omega), hd0, by omega, ?_⟩
                exact take2 x3 d x4 T hd0 hd1 nT
              · exact skip x3
            · exact ⟨zs, x', _, _, _, rfl, hb, hp3, hz, hzl, hznd, hal.mono (.inr ⟨rfl, Nat.le_succ k⟩)⟩
          · exact rest true
        · exact ⟨zs, x', _, _, _, rfl, hb, hp3, hz, hzl, hznd, hal.mono (.inr ⟨rfl, Nat.le_succ k⟩)⟩
      · obtain ⟨zs, x', y7, y8, y9, rfl, hb, hp3, hz, hzl, hznd, hal⟩ := hP
        exact ⟨zs, x', _, _, _, _, rfl, hb, hp3, hz, hzl, hznd, hal.mono (.inl (Nat.lt_succ_self j))⟩
    · obtain ⟨zs, x', y6, y7, y8, y9, rfl, hb, hp2, hz, hzl, hznd, hal⟩ := hP
      exact ⟨_, rfl, q o zs x' H2 no0 hb hp2 hz hzl hznd (by simpa using hal)⟩

def spJob : Sp := fun vs H Q _ => ∃ (p : Addr) (x wide : Int) (most : Nat), vs = [.ref p, .int (most : Int), .int wide] ∧ H p = some (.lst [.int x]) ∧ most ≤ 50 ∧ 0 ≤ wide ∧ wide ≤ 1 ∧
  ∀ (J f d n r : Addr) (fs : List Int) (ds : List (Option Int)) (zs : List (Addr × Nat × Nat)) (rs : List Int) (x' : Int) (H' : Hp), H J = none → But p H H' → H' p = some (.lst [.int x']) → JobAt H' J f d n r fs ds zs rs → Valid fs ds zs rs →
    fs.length ≤ most → (3 ∈ rs → fs.length ≤ 9) → (∀ y ∈ rs, y ≤ 2 + wide) → f ≠ p → d ≠ p → n ≠ p → r ≠ p → Q (.ref J) H'
theorem ok__law_job (T : Env K mg) : Ok P w K mg base CX0 dd__law_job "_law_job" 3 ["_law_pile_here", "_law_most", "_law_wide"] spJob := by
  obtain ⟨fd__law_order, D__law_order, g__law_order, k__law_order, b__law_order, G__law_order⟩ := ok__law_order (P := P) (w := w) (base := base) T
  obtain ⟨fd__law_hours, D__law_hours, g__law_hours, k__law_hours, b__law_hours, G__law_hours⟩ := ok__law_hours (P := P) (w := w) (base := base) T
  obtain ⟨fd__law_needs, D__law_needs, g__law_needs, k__law_needs, b__law_needs, G__law_needs⟩ := ok__law_needs (P := P) (w := w) (base := base) T
  obtain ⟨fd__law_take, D__law_take, g__law_take, k__law_take, b__law_take, G__law_take⟩ := ok__law_take (P := P) (w := w) (base := base) T
  obtain ⟨fd, F⟩ := T.c.def_ 25 (d := dd__law_job) rfl
  refine ⟨fd, F, T.gl 25 _ rfl, F.kp, F.bindsN fun _ _ _ _ _ _ us hl => match us, hl with | [_, _, _], _ => rfl, ?_⟩
  refine F.ok sc__law_job (fun vs H Q E h => ?_) (fun cdv A outer s H vs Q E hr h => ?_)
  · obtain ⟨p, x, wide, most, rfl, hp, hmost, w0, w1, q⟩ := h
    rfl
  · obtain ⟨p, x, wide, most, rfl, hp, hmost, w0, w1, q⟩ := h
    refine ⟨_, PSs.nox (pss_cons (ps_setLc (i := 3) (own := [("_law_k", 12)]) (g := gName 12) (tt := tYes) (by rfl) sc__law_job.nd rfl rfl (sw_true rfl rfl rfl (by decide +kernel)) (pi_range1 (by rfl) (T.fr 42 _ rfl) (pa_cons (pe_call G__law_take (hr.mono (by decide)) (by rfl) g__law_take k__law_take b__law_take .nil pass0 (pa_cons (pv 0) (pa_cons pe_int pa_nil))) pa_nil)) (blkOk_by (own := [("_law_k", 12)]) (N := N__law_job) (sc := defScope s__law_job) (by decide +kernel)) (fun _ _ _ _ _ => (pg_name (i := 12) sc__law_job.nd rfl (by first | exact Or.inl rfl | exact Or.inr rfl))) (fun _ _ _ _ _ => pts_nil) (fun _ _ _ _ _ => (pe_ix (r := rIxL K) ix_list (pe_lst (pa_cons pe_int (pa_cons pe_int (pa_cons pe_int (pa_cons pe_int (pa_cons pe_int (pa_cons pe_int (pa_cons (pe_op op_add pe_int (pv 2)) pa_nil)))))))) (pe_call G__law_take (hr.mono (by decide)) (by rfl) g__law_take k__law_take b__law_take .nil pass0 (pa_cons (pv 0) (pa_cons pe_int pa_nil))) (fun _ _ => rfl))))
      (pss_cons (ps_if (pt_cmpR op_in_seq pe_int (pv 3) (by rfl)) (pss_one (ps_set (i := 1) sc__law_job.nd rfl (Or.inl rfl) (pe_callB (call_min2 rfl) (by rfl) (T.fr 47 _ rfl) (by decide +kernel) (pa_cons (pv 1) (pa_cons pe_int pa_nil))))) pss_nil)
      (pss_cons (ps_set (i := 4) sc__law_job.nd rfl (Or.inl rfl) (pe_call G__law_order (hr.mono (by decide)) (by rfl) g__law_order k__law_order b__law_order .nil pass0 (pa_cons (pv 0) (pa_cons (pe_call G__law_take (hr.mono (by decide)) (by rfl) g__law_take k__law_take b__law_take .nil pass0 (pa_cons (pv 0) (pa_cons (pe_op op_add (pv 1) pe_int) pa_nil))) pa_nil))))
      (pss_cons (ps_set (i := 5) sc__law_job.nd rfl (Or.inl rfl) (pe_call G__law_hours (hr.mono (by decide)) (by rfl) g__law_hours k__law_hours b__law_hours .nil pass0 (pa_cons (pv 0) (pa_cons (pv 4) (pa_cons (pv 3) pa_nil)))))
      (pss_cons (ps_set (i := 6) sc__law_job.nd rfl (Or.inl rfl) (pe_call G__law_needs (hr.mono (by decide)) (by rfl) g__law_needs k__law_needs b__law_needs .nil pass0 (pa_cons (pv 0) (pa_cons (pv 4) (pa_cons (pv 5) pa_nil)))))
      (pss_cons (ps_setLc (i := 7) (own := [("_law_hour", 10)]) (g := gName 10) (tt := tYes) (by rfl) sc__law_job.nd rfl rfl (sw_true rfl rfl rfl (by decide +kernel)) (pi_list (pv 5)) (blkOk_by (own := [("_law_hour", 10)]) (N := N__law_job) (sc := defScope s__law_job) (by decide +kernel)) (fun _ _ _ _ _ => (pg_name (i := 10) sc__law_job.nd rfl (by first | exact Or.inl rfl | exact Or.inr rfl))) (fun _ _ _ _ _ => pts_nil) (fun _ _ _ _ _ => (pe_callB (call_max2 rfl) (by rfl) (T.fr 43 _ rfl) (by decide +kernel) (pa_cons pe_int (pa_cons (pe_op op_sub (pv 10) (pe_ix (r := rIxL K) ix_list (pe_lst (pa_cons pe_int (pa_cons pe_int (pa_cons pe_int (pa_cons pe_int (pa_cons pe_int pa_nil)))))) (pe_call G__law_take (hr.mono (by decide)) (by rfl) g__law_take k__law_take b__law_take .nil pass0 (pa_cons (pv 0) (pa_cons pe_int pa_nil))) (fun _ _ => rfl))) pa_nil)))))
      (pss_cons (ps_set (i := 8) sc__law_job.nd rfl (Or.inl rfl) (pe_ix ix_list (pe_lst (pa_cons (pe_lst (pa_cons pe_int (pa_cons pe_int (pa_cons pe_int (pa_cons pe_int pa_nil))))) (pa_cons (pe_lst (pa_cons pe_int (pa_cons pe_int (pa_cons pe_int (pa_cons pe_int pa_nil))))) (pa_cons (pe_lst (pa_cons pe_int (pa_cons pe_int (pa_cons pe_int (pa_cons pe_int pa_nil))))) (pa_cons (pe_lst (pa_cons (pe_un un_neg pe_int) (pa_cons pe_int (pa_cons pe_int (pa_cons pe_int pa_nil))))) pa_nil))))) (pe_call G__law_take (hr.mono (by decide)) (by rfl) g__law_take k__law_take b__law_take .nil pass0 (pa_cons (pv 0) (pa_cons pe_int pa_nil))) (fun _ _ => rfl)))
      (pss_cons (ps_set (i := 9) sc__law_job.nd rfl (Or.inl rfl) (pe_lst pa_nil))
      (pss_cons (ps_for PassesOwn.never rfl (pi_list (pv 5)) (pg_name (i := 10) sc__law_job.nd rfl (Or.inl rfl)) (pss_cons (ps_set (i := 11) sc__law_job.nd rfl (Or.inl rfl) (pe_callB (call_max2 rfl) (by rfl) (T.fr 43 _ rfl) (by decide +kernel) (pa_cons pe_int (pa_cons (pe_op op_add (pv 10) (pe_ix ix_list (pv 8) (pe_call G__law_take (hr.mono (by decide)) (by rfl) g__law_take k__law_take b__law_take .nil pass0 (pa_cons (pv 0) (pa_cons pe_int pa_nil))) (fun _ _ => rfl))) pa_nil))))
      (pss_one (ps_expr (pe_bm PySem.F.plainAttrs_list PySem.F.slot_list_append PySem.F.type_list_append mt_append (pv 9) (pa_cons (pe_ix ix_list (pe_lst (pa_cons (pv 11) (pa_cons (pv 11) (pa_cons (pv 11) (pa_cons pe_non pa_nil))))) (pe_call G__law_take (hr.mono (by decide)) (by rfl) g__law_take k__law_take b__law_take .nil pass0 (pa_cons (pv 0) (pa_cons pe_int pa_nil))) (fun _ _ => rfl)) pa_nil))))))
      (pss_one (ps_ret (pe_tup (pa_cons (pv 7) (pa_cons (pv 9) (pa_cons (pv 6) (pa_cons (pv 3) pa_nil)))))))))))))))), ?_⟩
    walk_at "u"
    -- rooms
    refine ⟨_, rfl, p, x, 9, rfl, hp, by decide, by decide, fun nr x1 nr0 nr1 => ⟨nr, rfl, by omega, by omega, fun D nD => ?_⟩⟩
    have hb1 : But p H (upd H p (.lst [.int x1])) := But.upd
    have hp1 : (upd H p (.lst [.int x1])) p = some (.lst [.int x1]) := upd_same
    have npD : p ≠ D := ne_of_none hp1 nD
    have nD0 : H D = none := hb1.free npD.symm nD
    refine lc_range (lo := 0) (n := nr.toNat) (fun i H' => ∃ x' rs, But p H H' ∧ H' p = some (.lst [.int x']) ∧ H' D = some (.lst (iV rs)) ∧ rs.length = i ∧ ∀ y ∈ rs, 0 ≤ y ∧ y ≤ 2 + wide)
      ⟨x1, [], hb1.trans (But.new nD), by rw [upd_ne npD]; exact hp1, upd_same, rfl, fun y hy => by cases hy⟩ (fun i H2 hi hP => ?_) (fun H2 hP => ?_)
    · obtain ⟨x', rs, hb, hp2, hD, hl, hv⟩ := hP
      refine ⟨rfl, ?_⟩
      walk_at "u"
      refine iteT ⟨_, rfl, _, _, rfl, rfl, (show 7 ≤ sizeLine by decide), fun q2 nq2 => ?_⟩
      have np2 : p ≠ q2 := ne_of_none hp2 nq2
      refine ⟨_, rfl, p, x', 7, rfl, by rw [upd_ne np2]; exact hp2, by decide, by decide, fun d x2 d0 d1 => ?_⟩
      obtain ⟨y, hy, hy0, hy1⟩ : ∃ y, ([0, 1, 2, 2, 1, 2, 2 + wide] : List Int)[d.toNat]? = some y ∧ 0 ≤ y ∧ y ≤ 2 + wide := by
        have : d = 0 ∨ d = 1 ∨ d = 2 ∨ d = 3 ∨ d = 4 ∨ d = 5 ∨ d = 6 := by omega
        rcases this with e | e | e | e | e | e | e <;> subst e <;> exact ⟨_, rfl, by omega, by omega⟩
      have hq : (upd (upd H2 q2 (.lst (iV [0, 1, 2, 2, 1, 2, 2 + wide]))) p (.lst [.int x2])) q2 = some (.lst (iV [0, 1, 2, 2, 1, 2, 2 + wide])) := by
        rw [upd_ne np2.symm, upd_same]
      have hnD : q2 ≠ D := fun e => by
        rw [← e, nq2] at hD
        cases hD
      refine ⟨_, _, _, _, rfl, rfl, SqL.of hq, atI_iV (j := d.toNat) (by omega) hy, iV rs, ?_, by rw [iV_len]; exact small_lt (by omega), x2, rs ++ [y], ?_, ?_, ?_, by rw [List.length_append, hl]; rfl, fun z hz => ?_⟩
      · rw [upd_ne npD.symm, upd_ne hnD.symm]
        exact hD
      · exact But.mut ((hb.trans (But.new nq2)).trans But.upd) nD0
      · rw [upd_ne npD, upd_same]
      · rw [upd_same, iV_app]
      · rcases List.mem_append.mp hz with h | h
        · exact hv z h
        · have e : z = y := by simpa using h
          subst e
          exact ⟨hy0, hy1⟩
    obtain ⟨x2, rs, hb2, hp2, hD, hrl, hrv⟩ := hP
    have R : Rooms rs := ⟨by omega, fun y hy => ⟨(hrv y hy).1, by have := (hrv y hy).2; omega⟩⟩
    -- if 3 in rooms: most = min(most, 9)
    refine ⟨_, rfl, D, _, rfl, .inl (SqL.of hD), rfl, flat_iV _, _, rfl, ?_⟩
    refine' iteJP (X := Nat) (fun m => m ≤ most ∧ (3 ∈ rs → m ≤ 9)) (fun e rest => ?_) (fun e rest => ?_) (fun m hc => ?_)
    rotate_left
    · have hm : 3 ∈ rs → (if (9 : Int) < (most : Int) then (9 : Int) else (most : Int)) ≤ 9 := fun _ => by split <;> omega
      obtain ⟨m, hm1, hm2, hm3⟩ : ∃ m : Nat, (if (9 : Int) < (most : Int) then (9 : Int) else (most : Int)) = (m : Int) ∧ m ≤ most ∧ m ≤ 9 := by
        by_cases h9 : (9 : Int) < (most : Int)
        · exact ⟨9, by rw [if_pos h9]; rfl, by omega, by omega⟩
        · exact ⟨most, by rw [if_neg h9], by omega, by omega⟩
      refine ⟨_, rfl, (most : Int), 9, rfl, ?_⟩
      rw [hm1]
      exact rest m ⟨hm2, fun _ => hm3⟩
    · have h3 : ¬ 3 ∈ rs := fun h => by
        have e2 : inV (.int 3) (iV rs) = false := e
        rw [inV_iV, decide_eq_true h] at e2
        cases e2
      exact rest most ⟨Nat.le_refl _, fun h => absurd h h3⟩
    obtain ⟨hm, hm3⟩ := hc
    have npD2 : D ≠ p := npD.symm
    -- order
    refine ⟨_, rfl, _, rfl, _, rfl, _, _, rfl, rfl, p, x2, _, rfl, hp2, by omega, by omega, fun nt x3 nt0 nt1 => ?_⟩
    obtain ⟨n, rfl⟩ : ∃ n : Nat, nt = (n : Int) := ⟨nt.toNat, by omega⟩
    have hb3 : But p H (upd H2 p (.lst [.int x3])) := hb2.trans But.upd
    refine ⟨p, x3, n, rfl, upd_same, by omega, fun o os x4 H4 no hb4' hp4 ho hperm => ?_⟩
    have hb4 : But p H H4 := hb3.trans hb4'
    have hD4 : H4 D = some (.lst (iV rs)) := hb4' _ _ npD2 (by rw [upd_ne npD2]; exact hD)
    have nop : o ≠ p := fun e => by
      rw [e, upd_same] at no
      cases no
    -- hours
    refine ⟨_, rfl, _, rfl, _, rfl, p, o, D, x4, n, os, rs, rfl, hp4, ho, hD4, nop, npD2, hperm, by omega, R, fun hA hs x5 H5 nh hb5' hp5 hh hhl hhv => ?_⟩
    have hb5 : But p H H5 := hb4.trans hb5'
    have nhp : hA ≠ p := fun e => by
      rw [e, hp4] at nh
      cases nh
    -- needs
    refine ⟨_, rfl, _, rfl, _, rfl, p, o, hA, x5, n, os, hs, rfl, hp5, hb5' _ _ nop ho, hh, nop, nhp, hperm, hhl, by omega, fun nA zs x6 H6 nn hb6' hp6 hz hzl hznd hal => ?_⟩
    have hb6 : But p H H6 := hb5.trans hb6'
    have nnp : nA ≠ p := fun e => by
      rw [e, hp5] at nn
      cases nn
    have hh6 : H6 hA = some (.lst (iV hs)) := hb6' _ _ nhp hh
    -- frees
    refine ⟨_, rfl, hA, rfl, ⟨_, SqL.of hh6⟩, fun fA nf => lc_list (K := K) (a := hA) (xs := iV hs) (fun i H' => ∃ x' fs, But p H6 H' ∧ H' p = some (.lst [.int x']) ∧ H' fA = some (.lst (iV fs)) ∧ fs.length = i ∧ ∀ y ∈ fs, 1 ≤ y ∧ y ≤ 200)
      ⟨x6, [], But.new nf, by rw [upd_ne (ne_of_none hp6 nf)]; exact hp6, upd_same, rfl, fun y hy => by cases hy⟩ (fun i H' _ hP => ?_) (fun i v H7 hv hP => ?_) (fun H7 hP => ?_)⟩
    · obtain ⟨x', fs, hb, _⟩ := hP
      exact hb.seq nhp (SqL.of hh6)
    · obtain ⟨x', fs, hb, hp7, hF, hl, hfv⟩ := hP
      obtain ⟨h, hh1, rfl⟩ := iV_of hv
      have hi : i < n := by
        have := (List.getElem?_eq_some_iff.mp hh1).1
        omega
      have hh2 := hhv h (List.mem_of_getElem? hh1)
      have npf : p ≠ fA := ne_of_none hp6 nf
      refine ⟨rfl, ?_⟩
      walk_at "u"
      refine iteT ⟨_, rfl, (show 5 ≤ sizeLine by decide), fun q2 nq2 => ?_⟩
      have np2 : p ≠ q2 := ne_of_none hp7 nq2
      refine ⟨_, rfl, p, x', 5, rfl, by rw [upd_ne np2]; exact hp7, by decide, by decide, fun d x2 d0 d1 => ?_⟩
      obtain ⟨y, hy, hy0, hy1⟩ : ∃ y, ([0, 1, 2, 9, 9] : List Int)[d.toNat]? = some y ∧ 0 ≤ y ∧ y ≤ 9 := by
        have : d = 0 ∨ d = 1 ∨ d = 2 ∨ d = 3 ∨ d = 4 := by omega
        rcases this with e | e | e | e | e <;> subst e <;> exact ⟨_, rfl, by omega, by omega⟩
      have hq : (upd (upd H7 q2 (.lst (iV [0, 1, 2, 9, 9]))) p (.lst [.int x2])) q2 = some (.lst (iV [0, 1, 2, 9, 9])) := by
        rw [upd_ne np2.symm, upd_same]
      have hnf : q2 ≠ fA := fun e => by
        rw [← e, nq2] at hF
        cases hF
      refine ⟨_, _, _, _, rfl, rfl, SqL.of hq, atI_iV (j := d.toNat) (by omega) hy, _, _, rfl, rfl, _, _, rfl, iV fs, ?_, by rw [iV_len]; exact small_lt (by omega), x2, fs ++ [if h - y > 1 then h - y else 1], ?_, ?_, ?_, by rw [List.length_append, hl]; rfl, fun z hz => ?_⟩
      · rw [upd_ne npf.symm, upd_ne hnf.symm]
        exact hF
      · exact But.mut ((hb.trans (But.new nq2)).trans But.upd) nf
      · rw [upd_ne npf, upd_same]
      · rw [upd_same, iV_app]
      · rcases List.mem_append.mp hz with hm1 | hm1
        · exact hfv z hm1
        · have e : z = (if h - y > 1 then h - y else 1) := List.mem_singleton.mp hm1
          subst e
          split <;> omega
    obtain ⟨x7, fs, hb7', hp7, hF, hfl, hfv⟩ := hP
    rw [iV_len, hhl] at hfl
    have hb7 : But p H H7 := hb6.trans hb7'
    have hh7 : H7 hA = some (.lst (iV hs)) := hb7' _ _ nhp hh6
    have hz7 : NeedsAt H7 nA zs := hz.but hp6 nnp hb7'
    have nfp : fA ≠ p := fun e => by
      rw [e, hp6] at nf
      cases nf
    have hD7 : H7 D = some (.lst (iV rs)) := hb7' _ _ npD2 (hb6' _ _ npD2 (hb5' _ _ npD2 hD4))
    -- slack
    refine ⟨(show 4 ≤ sizeLine by decide), fun l0 n0 => ⟨(show 4 ≤ sizeLine by decide), fun l1 n1 => ⟨(show 4 ≤ sizeLine by decide), fun l2 n2 => ⟨_, rfl, (show 4 ≤ sizeLine by decide), fun l3 n3 => ⟨(show 4 ≤ sizeLine by decide), fun l4 n4 => ?_⟩⟩⟩⟩⟩
    generalize hH8 : upd (upd (upd (upd (upd H7 l0 _) l1 _) l2 _) l3 _) l4 _ = H8
    have s8 : Same H7 H8 := by
      rw [← hH8]
      exact (((((same_upd n0).trans (same_upd n1)).trans (same_upd n2)).trans (same_upd n3))).trans (same_upd n4)
    have g4 : H8 l4 = some (.lst ([.ref l0, .ref l1, .ref l2, .ref l3])) := by
      rw [← hH8, upd_same]
    have g3 : H8 l3 = some (.lst (iV [-1, 0, 1, 3])) := by
      rw [← hH8, upd_ne (ne_of_none (by rw [upd_same]) n4), upd_same]
      rfl
    have g2 : H8 l2 = some (.lst (iV [0, 0, 0, 1])) := by
      rw [← hH8]
      exact (same_upd n4) _ _ ((same_upd n3) _ _ upd_same)
    have g1 : H8 l1 = some (.lst (iV [0, 1, 2, 3])) := by
      rw [← hH8]
      exact (same_upd n4) _ _ ((same_upd n3) _ _ ((same_upd n2) _ _ upd_same))
    have g0 : H8 l0 = some (.lst (iV [0, 0, 1, 2])) := by
      rw [← hH8]
      exact (same_upd n4) _ _ ((same_upd n3) _ _ ((same_upd n2) _ _ ((same_upd n1) _ _ upd_same)))
    have fresh : ∀ {l : Addr} {o : HO}, H8 l = some o → H7 l = none → l ≠ p := fun _ h0 e => by
      rw [e, hp7] at h0
      cases h0
    have m0 : l0 ≠ p := fresh g0 n0
    have m1 : l1 ≠ p := fresh g1 ((same_upd n0).free n1)
    have m2 : l2 ≠ p := fresh g2 (((same_upd n0).trans (same_upd n1)).free n2)
    have m3 : l3 ≠ p := fresh g3 ((((same_upd n0).trans (same_upd n1)).trans (same_upd n2)).free n3)
    have m4 : l4 ≠ p := fresh g4 (((((same_upd n0).trans (same_upd n1)).trans (same_upd n2)).trans (same_upd n3)).free n4)
    have hp8 : H8 p = some (.lst [.int x7]) := s8 _ _ hp7
    refine ⟨_, rfl, p, x7, 4, rfl, hp8, by decide, by decide, fun ds x9 ds0 ds1 => ?_⟩
    obtain ⟨sA, sl, e1, e2, nsp, hsl, hsv⟩ : ∃ (sA : Addr) (sl : List Int), ([V.ref l0, .ref l1, .ref l2, .ref l3])[ds.toNat]? = some (.ref sA) ∧ H8 sA = some (.lst (iV sl)) ∧ sA ≠ p ∧ sl.length = 4 ∧ ∀ y ∈ sl, -1 ≤ y ∧ y ≤ 3 := by
      have : ds = 0 ∨ ds = 1 ∨ ds = 2 ∨ ds = 3 := by omega
      rcases this with e | e | e | e <;> subst e
      · exact ⟨l0, _, rfl, g0, m0, rfl, by decide⟩
      · exact ⟨l1, _, rfl, g1, m1, rfl, by decide⟩
      · exact ⟨l2, _, rfl, g2, m2, rfl, by decide⟩
      · exact ⟨l3, _, rfl, g3, m3, rfl, by decide⟩
    have b9 : But p H8 (upd H8 p (.lst [.int x9])) := But.upd
    refine ⟨l4, _, ds, .ref sA, rfl, rfl, SqL.of (b9 _ _ m4 g4), at_of (j := ds.toNat) (by omega) e1, ?_⟩
    -- dues
    refine ⟨(show 0 ≤ sizeLine by decide), fun dA nd => ?_⟩
    have hb9 : But p H7 (upd H8 p (.lst [.int x9])) := (But.of s8).trans b9
    have np9 : p ≠ dA := ne_of_none (show (upd H8 p (.lst [.int x9])) p = _ from upd_same) nd
    have nd7 : H7 dA = none := hb9.free np9.symm nd
    have hb10 : But p H7 (upd (upd H8 p (.lst [.int x9])) dA (.lst [])) := hb9.trans (But.new nd)
    refine ⟨_, rfl, hA, rfl, ⟨_, hb10.seq nhp (SqL.of hh7)⟩, for_list (K := K) (a := hA) (xs := iV hs) (fun i σ H' => ∃ x' dl y10 y11, σ = [some (.ref p), some (.int (m : Int)), some (.int wide), some (.ref D), some (.ref o), some (.ref hA), some (.ref nA), some (.ref fA), some (.ref sA), some (.ref dA), y10, y11, none] ∧ But p H7 H' ∧ H' p = some (.lst [.int x']) ∧ H' sA = some (.lst (iV sl)) ∧ H' dA = some (.lst (oV dl)) ∧ dl.length = i ∧ ∀ y, some y ∈ dl → 0 ≤ y ∧ y ≤ 200)
      ⟨x9, [], none, none, rfl, hb10, by rw [upd_ne np9, upd_same], (But.new nd) _ _ nsp (b9 _ _ nsp e2), upd_same, rfl, fun y hy => by cases hy⟩ (fun i σ H' _ hP => ?_) (fun i v σ H11 hv hP => ?_) (fun σ H11 hP => ?_)⟩
    · obtain ⟨x', dl, y10, y11, _, hb, _⟩ := hP
      exact hb.seq nhp (SqL.of hh7)
    · obtain ⟨x', dl, y10, y11, rfl, hb, hp11, hs11, hd11, hdl, hdv⟩ := hP
      obtain ⟨h, hh1, rfl⟩ := iV_of hv
      have hi : i < n := by
        have := (List.getElem?_eq_some_iff.mp hh1).1
        omega
      have hh2 := hhv h (List.mem_of_getElem? hh1)
      refine ⟨_, rfl, _, rfl, _, rfl, p, x', 4, rfl, hp11, by decide, by decide, fun d x2 d0 d1 => ?_⟩
      obtain ⟨y, hy⟩ : ∃ y, sl[d.toNat]? = some y := ⟨_, List.getElem?_eq_getElem (by omega)⟩
      have hyv := hsv y (List.mem_of_getElem? hy)
      refine ⟨_, _, _, _, rfl, rfl, SqL.of (But.upd _ _ nsp hs11), atI_iV (j := d.toNat) (by omega) hy, _, _, rfl, rfl, _, _, rfl, ?_⟩
      obtain ⟨z, hz0, hz1, hz2⟩ : ∃ z, (if h + y > 0 then h + y else 0) = z ∧ 0 ≤ z ∧ z ≤ 200 := ⟨_, rfl, by split <;> omega, by split <;> omega⟩
      rw [hz0]
      refine ⟨_, rfl, .inl ⟨rfl, _, .inl (.inl (But.upd _ _ np9.symm hd11))⟩, _, rfl, _, rfl, _, rfl, (show 4 ≤ sizeLine by decide), fun l5 n5 => ?_⟩
      have np5 : p ≠ l5 := ne_of_none (show (upd H11 p (.lst [.int x2])) p = _ from upd_same) n5
      refine ⟨_, rfl, p, x2, 4, rfl, by rw [upd_ne np5, upd_same], by decide, by decide, fun d2 x3 d20 d21 => ?_⟩
      obtain ⟨w2, hw2, hw3⟩ : ∃ w2 : Option Int, ([V.int z, .int z, .int z, .non])[d2.toNat]? = (oV [w2])[0]? ∧ ∀ y, some y ∈ [w2] → 0 ≤ y ∧ y ≤ 200 := by
        have : d2 = 0 ∨ d2 = 1 ∨ d2 = 2 ∨ d2 = 3 := by omega
        have hs : ∀ y, some y ∈ [some z] → 0 ≤ y ∧ y ≤ 200 := fun y hy => by
          have e : y = z := by simpa using hy
          subst e
          exact ⟨hz1, hz2⟩
        rcases this with e | e | e | e <;> subst e
        · exact ⟨some z, rfl, hs⟩
        · exact ⟨some z, rfl, hs⟩
        · exact ⟨some z, rfl, hs⟩
        · exact ⟨none, rfl, fun y hy => by simp at hy⟩
      obtain ⟨v2, hv2⟩ : ∃ v2, oV [w2] = [v2] := by
        cases w2
        · exact ⟨_, rfl⟩
        · exact ⟨_, rfl⟩
      rw [hv2] at hw2
      have n5d : dA ≠ l5 := fun e => by
        have := But.upd (o := .lst [.int x2]) _ _ np9.symm hd11
        rw [e, n5] at this
        cases this
      have hd12 : (upd (upd (upd H11 p (.lst [.int x2])) l5 (.lst [.int z, .int z, .int z, .non])) p (.lst [.int x3])) dA = some (.lst (oV dl)) := by
        rw [upd_ne np9.symm, upd_ne n5d, upd_ne np9.symm]
        exact hd11
      refine ⟨l5, _, d2, v2, rfl, rfl, SqL.of (by rw [upd_ne np5.symm, upd_same]), at_of (j := d2.toNat) (by omega) hw2, dA, _, _, rfl, rfl, hd12, by rw [oV_len]; exact small_lt (by omega), ?_⟩
      refine ⟨x3, dl ++ [w2], _, _, rfl, ?_, ?_, ?_, ?_, by rw [List.length_append, hdl]; rfl, fun y hy => ?_⟩
      · exact But.mut (((hb.trans But.upd).trans (But.new n5)).trans But.upd) nd7
      · rw [upd_ne np9, upd_same]
      · have nds : sA ≠ dA := fun e => by
          have h1 := b9 _ _ nsp e2
          rw [e, nd] at h1
          cases h1
        rw [upd_ne nds]
        exact But.upd _ _ nsp ((But.new n5) _ _ nsp (But.upd _ _ nsp hs11))
      · rw [upd_same, ← oV_app, hv2]
      · rcases List.mem_append.mp hy with h | h
        · exact hdv y h
        · exact hw3 y h
    obtain ⟨x', dl, y10, y11, rfl, hb, hp11, hs11, hd11, hdl, hdv⟩ := hP
    rw [iV_len, hhl] at hdl
    refine ⟨_, rfl, _, rfl, _, rfl, _, rfl, (show 4 ≤ sizeLine by decide), fun J nJ => ?_⟩
    have hz11 : NeedsAt H11 nA zs := hz7.but hp7 nnp hb
    have hbJ : But p H H11 := hb7.trans hb
    have sJ : Same H11 (upd H11 J (.tup [.ref fA, .ref dA, .ref nA, .ref D])) := same_upd nJ
    have nJp : J ≠ p := fun e => by
      rw [e, hp11] at nJ
      cases nJ
    refine q J fA dA nA D fs dl zs rs x' _ (hbJ.free nJp nJ) (hbJ.trans (But.of sJ)) (sJ _ _ hp11) ⟨upd_same, sJ _ _ (hb _ _ nfp hF), sJ _ _ hd11, hz11.same sJ, sJ _ _ (hb _ _ npD2 hD7)⟩ ⟨by omega, by omega, hfv, hdv, hzl, hznd, rank_of hperm hal hfl.symm, R⟩ (by omega) (fun h => ?_) (fun y hy => (hrv y hy).2) nfp np9.symm nnp npD2
    have := hm3 h
    omega

end
/-! len(set(..)) of tuples of ints -/
def rLenSetT (K : PySem.W.Frag) (P : Program) (w : World) : List V → Hp → VK → Prop := fun xs H Q => ∃ (a : Addr) (L : List (Addr × List Int)), xs = [.ref a] ∧ H a = some (SetTO P w a L) ∧ (∀ p ∈ L, SqT K H p.1 (p.2.map V.int)) ∧
  ((L.map (·.2)).Nodup → L.length < 64 → Q (.int L.length) H)
theorem call_len_setT {X : Cx} : CallR X (.builtin "len") (rLenSetT X.K X.prog X.w) := by
  intro pins s σ H xs us Q I r h
  obtain ⟨a, L, rfl, ha, hT, q⟩ := h
  rw [Vals.ref1 r]
  have R0 : SetT0 X.prog X.w s.heap a L := (I.hok a _ ha).1
  obtain ⟨es, ep, t, R⟩ := R0.full fun p hp => I.isT (hT p hp)
  obtain ⟨o, ho, hex, hd⟩ := R.ob
  have hsz := R.size
  have hfew := R.few
  exact call_len_set ho hex hd R.fits (by omega) ⟨.int L.length, H, I.tok _, ⟨_, by rw [hsz]⟩, q R.nd R.few⟩
theorem nodup_perm_len {α : Type} [DecidableEq α] {a b : List α} (ha : a.Nodup) (hb : b.Nodup) (h1 : ∀ x ∈ a, x ∈ b) (h2 : ∀ x ∈ b, x ∈ a) : a.length = b.length := by
  have h : a.Perm b := (List.perm_ext_iff_of_nodup ha hb).mpr fun x => ⟨h1 x, h2 x⟩
  exact h.length_eq
/-- the numbers of a need -/
def pr2 (z : Addr × Nat × Nat) : Addr × List Int := (z.1, [(z.2.1 : Int), (z.2.2 : Int)])
/-! tasks behind a task, without a ring -/
def succ (zs : List (Addr × Nat × Nat)) (a : Nat) : List Nat := (zs.filter fun z => z.2.1 == a).map fun z => z.2.2
theorem succ_snoc (zs : List (Addr × Nat × Nat)) (z : Addr × Nat × Nat) (a : Nat) : succ (zs ++ [z]) a = if z.2.1 = a then succ zs a ++ [z.2.2] else succ zs a := by
  unfold succ
  rw [List.filter_append, List.map_append, List.filter_cons, List.filter_nil]
  by_cases h : z.2.1 = a
  · rw [if_pos h, if_pos (beq_iff_eq.mpr h)]
    rfl
  · rw [if_neg h, if_neg (fun e => h (beq_iff_eq.mp e))]
    simp
theorem mem_succ {zs : List (Addr × Nat × Nat)} {a b : Nat} : b ∈ succ zs a ↔ ∃ z ∈ zs, z.2.1 = a ∧ z.2.2 = b := by
  unfold succ
  rw [List.mem_map]
  constructor
  · rintro ⟨z, hz, e⟩
    obtain ⟨h1, h2⟩ := List.mem_filter.mp hz
    exact ⟨z, h1, beq_iff_eq.mp h2, e⟩
  · rintro ⟨z, h1, h2, e⟩
    exact ⟨z, List.mem_filter.mpr ⟨h1, beq_iff_eq.mpr h2⟩, e⟩
theorem succ_len (zs : List (Addr × Nat × Nat)) (a : Nat) : (succ zs a).length ≤ zs.length := by
  unfold succ
  rw [List.length_map]
  exact List.length_filter_le ..
structure Follow (H H' : Hp) (q : Addr) (as : List Addr) (zs : List (Addr × Nat × Nat)) (n : Nat) : Prop where
  top : H' q = some (.lst (as.map V.ref))
  len : as.length = n
  nd : as.Nodup
  at_ : ∀ (i : Nat) (a : Addr), as[i]? = some a → H a = none ∧ a ≠ q ∧ H' a = some (.lst (nV (succ zs i)))
theorem Follow.same {H H1 H2 : Hp} {q : Addr} {as : List Addr} {zs : List (Addr × Nat × Nat)} {n : Nat} (f : Follow H H1 q as zs n) (s : Same H1 H2) : Follow H H2 q as zs n :=
  ⟨s _ _ f.top, f.len, f.nd, fun i a h => by
    obtain ⟨h1, h2, h3⟩ := f.at_ i a h
    exact ⟨h1, h2, s _ _ h3⟩⟩
theorem rV_get {as : List Addr} {j : Nat} {a : Addr} (h : as[j]? = some a) : (as.map V.ref)[j]? = some (.ref a) := by
  rw [List.getElem?_map, h]
  rfl
/-- how many needs of b have not been done -/
def waitN (zs : List (Addr × Nat × Nat)) (done : List Nat) (b : Nat) : Nat := zs.countP fun z => decide (z.2.2 = b) && !decide (z.2.1 ∈ done)
theorem waitN_snoc (zs : List (Addr × Nat × Nat)) (done : List Nat) (a b : Nat) (h : ¬ a ∈ done) : waitN zs done b = waitN zs (done ++ [a]) b + (succ zs a).count b := by
  unfold waitN succ
  induction zs with
  | nil => rfl
  | cons z r ih =>
    rw [List.countP_cons, List.countP_cons, ih, List.filter_cons]
    by_cases hb : z.2.2 = b
    · by_cases ha : z.2.1 = a
      · have h1 : ¬ z.2.1 ∈ done := fun e => h (ha ▸ e)
        have h2 : z.2.1 ∈ done ++ [a] := List.mem_append.mpr (.inr (List.mem_singleton.mpr ha))
        simp only [hb, h1, h2, ha, beq_self_eq_true, if_true, List.map_cons, List.count_cons, decide_true, decide_false, Bool.not_false, Bool.not_true, Bool.and_true, Bool.and_false, Bool.false_eq_true, if_false]
        have h6 : a ∈ done ++ [a] := ha ▸ h2
        rw [decide_eq_false h, decide_eq_true h6]
        simp only [Bool.not_false, Bool.not_true, Bool.and_true, Bool.and_false, if_true, Bool.false_eq_true, if_false]
        omega
      · have h1 : z.2.1 ∈ done ++ [a] ↔ z.2.1 ∈ done := by
          rw [List.mem_append, List.mem_singleton]
          exact ⟨fun e => e.resolve_right ha, .inl⟩
        have h3 : (z.2.1 == a) = false := beq_eq_false_iff_ne.mpr ha
        simp only [hb, h1, h3, Bool.false_eq_true, if_false]
        omega
    · by_cases ha : z.2.1 = a
      · have h4 : (z.2.2 == b) = false := beq_eq_false_iff_ne.mpr hb
        simp only [hb, ha, beq_self_eq_true, if_true, List.map_cons, List.count_cons, h4, decide_false, Bool.false_and, Bool.false_eq_true, if_false]
        omega
      · have h3 : (z.2.1 == a) = false := beq_eq_false_iff_ne.mpr ha
        simp only [hb, h3, decide_false, Bool.false_and, Bool.false_eq_true, if_false]
        omega
theorem waitN_zero {zs : List (Addr × Nat × Nat)} {done : List Nat} {b : Nat} : waitN zs done b = 0 ↔ ∀ z ∈ zs, z.2.2 = b → z.2.1 ∈ done := by
  unfold waitN
  rw [List.countP_eq_zero]
  constructor
  · intro h z hz e
    have := h z hz
    simp only [e, decide_true, Bool.true_and, Bool.not_eq_true, Bool.not_eq_false'] at this
    simpa using this
  · intro h z hz
    by_cases e : z.2.2 = b
    · simp [e, h z hz e]
    · simp [e]
theorem waitN_take (zs : List (Addr × Nat × Nat)) (b : Nat) (k : Nat) (z : Addr × Nat × Nat) (h : zs[k]? = some z) : waitN (zs.take (k + 1)) [] b = waitN (zs.take k) [] b + if z.2.2 = b then 1 else 0 := by
  unfold waitN
  rw [List.take_add_one, h, List.countP_append]
  congr 1
  by_cases e : z.2.2 = b
  · simp [e]
  · simp [e]
/-- a list by a function -/
structure ByF (ws : List Int) (n : Nat) (f : Nat → Int) : Prop where
  len : ws.length = n
  at_ : ∀ b, b < n → ws[b]? = some (f b)
theorem ByF.set {ws : List Int} {n : Nat} {f g : Nat → Int} (h : ByF ws n f) {b : Nat} {v : Int} (hb : b < n) (e1 : g b = v) (e2 : ∀ c, c ≠ b → g c = f c) : ByF (ws.set b v) n g := by
  refine ⟨by rw [List.length_set]; exact h.len, fun c hc => ?_⟩
  by_cases e : c = b
  · subst e
    rw [List.getElem?_set_self (by rw [h.len]; exact hc), e1]
  · rw [List.getElem?_set_ne (fun z => e z.symm), h.at_ c hc, e2 c e]
theorem ByF.congr {ws : List Int} {n : Nat} {f g : Nat → Int} (h : ByF ws n f) (e : ∀ c, c < n → g c = f c) : ByF ws n g := ⟨h.len, fun b hb => by rw [h.at_ b hb, e b hb]⟩
def Acyc (zs : List (Addr × Nat × Nat)) : Prop := ∃ rk : Nat → Nat, ∀ z ∈ zs, rk z.2.1 < rk z.2.2
/-- the state of the clearing -/
structure Clr (zs : List (Addr × Nat × Nat)) (n : Nat) (cl : List Nat) (at_ : Nat) : Prop where
  nd : cl.Nodup
  lt : ∀ t ∈ cl, t < n
  up : at_ ≤ cl.length
  ord : ∀ z ∈ zs, ∀ i : Nat, cl[i]? = some z.2.2 → ∃ j : Nat, j < i ∧ cl[j]? = some z.2.1
/-- at the end -/
theorem clr_end {zs : List (Addr × Nat × Nat)} {n : Nat} {cl : List Nat} (h : Clr zs n cl cl.length) (hz : ∀ z ∈ zs, z.2.1 < n ∧ z.2.2 < n) (hw : ∀ b, b < n → (b ∈ cl ↔ waitN zs cl b = 0)) :
    decide ((cl.length : Int) < (n : Int)) = false ↔ Acyc zs := by
  constructor
  · intro e
    have hl : n ≤ cl.length := by
      have := of_decide_eq_false e
      omega
    have hall : ∀ t, t < n → t ∈ cl := fun t ht => by
      refine Decidable.byContradiction fun hn => ?_
      have h1 := nat_nodup_len (t :: cl) (List.range n) (List.nodup_cons.mpr ⟨hn, h.nd⟩) fun x hx => by
        rcases List.mem_cons.mp hx with e | hx
        · rw [e]
          exact List.mem_range.mpr ht
        · exact List.mem_range.mpr (h.lt x hx)
      rw [List.length_range, List.length_cons] at h1
      omega
    refine ⟨fun t => cl.idxOf t, fun z hzm => ?_⟩
    have hm : z.2.2 ∈ cl := hall _ (hz z hzm).2
    obtain ⟨i, hi⟩ := List.getElem?_of_mem hm
    obtain ⟨j, hj, hj2⟩ := h.ord z hzm i hi
    have ix : ∀ {i t : Nat}, cl[i]? = some t → cl.idxOf t = i := fun {i t} h2 => by
      obtain ⟨hi, e⟩ := List.getElem?_eq_some_iff.mp h2
      rw [← e]
      exact h.nd.idxOf_getElem i hi
    show cl.idxOf z.2.1 < cl.idxOf z.2.2
    rw [ix hi, ix hj2]
    exact hj
  · rintro ⟨rk, hrk⟩
    have all : ∀ (m t : Nat), rk t ≤ m → t < n → t ∈ cl := by
      intro m
      induction m with
      | zero =>
        intro t hr ht
        refine (hw t ht).mpr (waitN_zero.mpr fun z hzm e => ?_)
        have := hrk z hzm
        rw [e] at this
        omega
      | succ m ih =>
        intro t hr ht
        refine (hw t ht).mpr (waitN_zero.mpr fun z hzm e => ?_)
        have h1 := hrk z hzm
        rw [e] at h1
        exact ih z.2.1 (by omega) (hz z hzm).1
    have := nat_nodup_len (List.range n) cl List.nodup_range fun t ht => all _ t (Nat.le_refl _) (List.mem_range.mp ht)
    rw [List.length_range] at this
    exact decide_eq_false (by omega)
theorem rep_flat (n : Nat) : (List.replicate n [V.int 0]).flatten = iV (List.replicate n 0) := by
  induction n with
  | zero => rfl
  | succ n ih =>
    rw [List.replicate_succ, List.flatten_cons, ih, List.replicate_succ]
    rfl
theorem byF_rep (n : Nat) : ByF (List.replicate n 0) n (fun _ => 0) := ⟨List.length_replicate, fun b hb => by rw [List.getElem?_replicate, if_pos hb]⟩
/-- one follower of a less to wait for -/
theorem cnt_take {l : List Nat} {k b : Nat} (h : l[k]? = some b) (c : Nat) : ((l.take (k + 1)).count c : Int) = ((l.take k).count c : Int) + if c = b then 1 else 0 := by
  rw [List.take_add_one, h, List.count_append]
  show ((((l.take k).count c + [b].count c : Nat)) : Int) = _
  rw [List.count_singleton]
  by_cases e : c = b
  · subst e
    simp
  · rw [if_neg e, if_neg (by simpa using fun z : b = c => e z.symm)]
    simp
theorem cnt_le (l : List Nat) (k c : Nat) : (l.take k).count c ≤ l.count c := (List.take_sublist k l).count_le c
theorem filt_snoc (p : Nat → Bool) (i : Nat) : (List.range (i + 1)).filter p = if p i = true then (List.range i).filter p ++ [i] else (List.range i).filter p := by
  rw [List.range_succ, List.filter_append, List.filter_cons, List.filter_nil]
  split <;> simp

section
variable {P : Program} {w : World} {K : PySem.W.Frag} {mg : Str → Option Value} {base : Heap}
def spNeed : Sp := fun vs H Q _ => ∃ (n : Int) (t : Addr) (a b : Int), vs = [.int n, .ref t] ∧ H t = some (.tup [.int a, .int b]) ∧ Q (.bl (isTask n (.int a) && (isTask n (.int b) && !decide (a = b)))) H
theorem ok_is_need (T : Env K mg) : Ok P w K mg base CX0 dd_is_need "is_need" 4 ["many", "thing"] spNeed := by
  obtain ⟨fd_is_task, D_is_task, g_is_task, k_is_task, b_is_task, G_is_task⟩ := ok_is_task (P := P) (w := w) (base := base) T
  obtain ⟨fd, F⟩ := T.c.def_ 7 (d := dd_is_need) rfl
  refine ⟨fd, F, T.gl 7 _ rfl, F.kp, F.bindsN fun _ _ _ _ _ _ us hl => match us, hl with | [_, _], _ => rfl, ?_⟩
  refine F.ok sc_is_need (fun vs H Q E h => ?_) (fun cdv A outer s H vs Q E hr h => ?_)
  · obtain ⟨n, t, a, b, rfl, ht, q⟩ := h
    rfl
  · obtain ⟨n, t, a, b, rfl, ht, q⟩ := h
    refine ⟨_, PSs.nox (pss_cons (ps_if (PW.pt (pw_or (pt_not (pt_val (pe_callB call_isi (by rfl) (T.fr 34 _ rfl) (by decide +kernel) (pa_cons (pv 1) (pa_cons (pe_bltn (v := .ty "tuple") (by rfl) (T.fr 39 _ rfl) (by decide +kernel) rfl) pa_nil))))) (pw_or1 (pt_cmpR op_ne (pe_callB call_len_seq (by rfl) (T.fr 38 _ rfl) (by decide +kernel) (pa_cons (pv 1) pa_nil)) pe_int (nomark _))))) (pss_one (ps_ret pe_bl)) pss_nil)
      (pss_cons (ps_asg (pv 1) (pg_tup rfl (pgs_cons (pg_name (i := 2) sc_is_need.nd rfl (Or.inl rfl)) (pgs_cons (pg_name (i := 3) sc_is_need.nd rfl (Or.inl rfl)) pgs_nil))))
      (pss_one (ps_ret (pe_and (pe_call G_is_task (hr.mono (by decide)) (by rfl) g_is_task k_is_task b_is_task .nil pass0 (pa_cons (pv 0) (pa_cons (pv 2) pa_nil))) (pe_and (pe_call G_is_task (hr.mono (by decide)) (by rfl) g_is_task k_is_task b_is_task .nil pass0 (pa_cons (pv 0) (pa_cons (pv 3) pa_nil))) (pe_one (pe_cmpR op_ne (pv 2) (pv 3) (nomark _))))))))), ?_⟩
    walk_at "u"
    refine ⟨_, rfl, rIsi_of (b := true) (.tup ht) (by decide +kernel) ⟨_, rfl, ?_⟩⟩
    refine iteF ⟨_, rfl, t, _, rfl, .inr (SqT.of ht), rfl, _, rfl, iteF ?_⟩
    refine ⟨_, rfl, t, _, rfl, SqT.of ht, rfl, _, _, rfl, _, _, rfl, rfl, ?_⟩
    refine ⟨_, rfl, _, rfl, n, .int a, _, rfl, .int a, _, rfl, ifB (fun e => ?_) (fun e => ?_)⟩
    · rw [e] at q
      refine ⟨_, rfl, _, rfl, n, .int b, _, rfl, .int b, _, rfl, ifB (fun e2 => ?_) (fun e2 => ?_)⟩
      · rw [e2] at q
        refine ⟨_, rfl, _, rfl, rfl, ?_⟩
        have e3 : (!decide (V.int a = V.int b)) = !decide (a = b) := by
          by_cases h : a = b
          · rw [decide_eq_true h, decide_eq_true (by rw [h])]
          · rw [decide_eq_false h, decide_eq_false (fun z => h (V.int.inj z))]
        rw [e3]
        exact q
      · rw [e2] at q
        exact q
    · rw [e] at q
      exact q

def spFollow : Sp := fun vs H Q _ => ∃ (n : Nat) (N : Addr) (zs : List (Addr × Nat × Nat)), vs = [.int (n : Int), .ref N] ∧ NeedsAt H N zs ∧ (∀ z ∈ zs, z.2.1 < n ∧ z.2.2 < n) ∧ n ≤ 1000 ∧ zs.length ≤ 10000 ∧
  ∀ (q : Addr) (as : List Addr) (H' : Hp), H q = none → Same H H' → Follow H H' q as zs n → Q (.ref q) H'
theorem ok_followers_of (T : Env K mg) : Ok P w K mg base CX0 dd_followers_of "followers_of" 1 ["many", "needs"] spFollow := by
  obtain ⟨fd, F⟩ := T.c.def_ 9 (d := dd_followers_of) rfl
  refine ⟨fd, F, T.gl 9 _ rfl, F.kp, F.bindsN fun _ _ _ _ _ _ us hl => match us, hl with | [_, _], _ => rfl, ?_⟩
  refine F.ok sc_followers_of (fun vs H Q E h => ?_) (fun cdv A outer s H vs Q E hr h => ?_)
  · obtain ⟨n, N, zs, rfl, hN, hz, hn, hzl, q⟩ := h
    rfl
  · obtain ⟨n, N, zs, rfl, hN, hz, hn, hzl, q⟩ := h
    refine ⟨_, PSs.nox (pss_cons (ps_setLc (i := 2) (own := [("_", 5)]) (g := gName 5) (tt := tYes) (by rfl) sc_followers_of.nd rfl rfl (sw_true rfl rfl rfl (by decide +kernel)) (pi_range1 (by rfl) (T.fr 42 _ rfl) (pa_cons (pv 0) pa_nil)) (blkOk_by (own := [("_", 5)]) (N := N_followers_of) (sc := defScope s_followers_of) (by decide +kernel)) (fun _ _ _ _ _ => (pg_name (i := 5) sc_followers_of.nd rfl (by first | exact Or.inl rfl | exact Or.inr rfl))) (fun _ _ _ _ _ => pts_nil) (fun _ _ _ _ _ => (pe_lst pa_nil)))
      (pss_cons (ps_for PassesOwn.never rfl (pi_list (pv 1)) (pg_tup rfl (pgs_cons (pg_name (i := 3) sc_followers_of.nd rfl (Or.inl rfl)) (pgs_cons (pg_name (i := 4) sc_followers_of.nd rfl (Or.inl rfl)) pgs_nil))) (pss_one (ps_expr (pe_bm PySem.F.plainAttrs_list PySem.F.slot_list_append PySem.F.type_list_append mt_append (pe_ix ix_list (pv 2) (pv 3) (fun _ _ => rfl)) (pa_cons (pv 4) pa_nil)))))
      (pss_one (ps_ret (pv 2))))), ?_⟩
    walk_at "u"
    refine ⟨_, rfl, _, rfl, by omega, by omega, fun D nD => lc_range (lo := 0) (n := (n : Int).toNat) (fun i H' => ∃ as : List Addr, Same H H' ∧ H' D = some (.lst (as.map V.ref)) ∧ as.length = i ∧ as.Nodup ∧ ∀ a ∈ as, H a = none ∧ a ≠ D ∧ H' a = some (.lst []))
      ⟨[], same_upd nD, upd_same, rfl, List.nodup_nil, fun a ha => by cases ha⟩ (fun i H' hi hP => ?_) (fun H' hP => ?_)⟩
    · obtain ⟨as, sm, hD, hl, hnd, hv⟩ := hP
      refine ⟨rfl, ?_⟩
      walk_at "u"
      refine iteT ⟨(show 0 ≤ sizeLine by decide), fun q2 n2 => ?_⟩
      have hq2 : q2 ≠ D := fun e => by
        rw [e, hD] at n2
        cases n2
      refine ⟨as.map V.ref, by rw [upd_ne hq2.symm]; exact hD, by rw [List.length_map]; exact small_lt (by omega), as ++ [q2], ?_, ?_, by rw [List.length_append, hl]; rfl, ?_, fun a ha => ?_⟩
      · exact same_mut (sm.trans (same_upd n2)) nD
      · rw [upd_same, List.map_append]
        rfl
      · refine nd_snoc hnd fun h => ?_
        rw [(hv q2 h).2.2] at n2
        cases n2
      · rcases List.mem_append.mp ha with h | h
        · obtain ⟨h1, h2, h3⟩ := hv a h
          refine ⟨h1, h2, ?_⟩
          rw [upd_ne h2, upd_ne (ne_of_none h3 n2)]
          exact h3
        · have e := List.mem_singleton.mp h
          subst e
          refine ⟨sm.free n2, hq2, ?_⟩
          rw [upd_ne hq2, upd_same]
    obtain ⟨as, sm, hD, hl, hnd, hv⟩ := hP
    have hN' : NeedsAt H' N zs := hN.same sm
    refine ⟨_, rfl, N, rfl, ⟨_, SqL.of hN'.1⟩, for_list (K := K) (a := N) (xs := zs.map fun z => V.ref z.1) (fun k σ H2 => ∃ y3 y4, σ = [some (.int (n : Int)), some (.ref N), some (.ref D), y3, y4, none] ∧ Same H H2 ∧ Follow H H2 D as (zs.take k) n)
      ⟨none, none, rfl, sm, hD, by omega, hnd, fun i a h => ?_⟩ (fun k σ H2 _ hP => ?_) (fun k v σ H2 hv2 hP => ?_) (fun σ H2 hP => ?_)⟩
    · exact hv a (List.mem_of_getElem? h)
    · obtain ⟨y3, y4, _, s2, _⟩ := hP
      exact SqL.of (s2 _ _ hN.1)
    · obtain ⟨y3, y4, rfl, s2, F2⟩ := hP
      rw [List.getElem?_map] at hv2
      cases hk : zs[k]? with
      | none =>
        rw [hk] at hv2
        cases hv2
      | some z =>
        rw [hk] at hv2
        cases hv2
        have hzm := List.mem_of_getElem? hk
        have hT := s2 _ _ (hN.2 z hzm)
        have hlt := hz z hzm
        obtain ⟨a, ha⟩ : ∃ a, as[z.2.1]? = some a := ⟨_, List.getElem?_eq_getElem (by rw [F2.len]; omega)⟩
        obtain ⟨hn1, hn2, hn3⟩ := F2.at_ _ _ ha
        refine ⟨z.1, _, rfl, SqT.of hT, rfl, _, _, rfl, _, _, rfl, rfl, ?_⟩
        refine ⟨_, rfl, _, rfl, D, _, _, .ref a, rfl, rfl, SqL.of F2.top, at_of (j := z.2.1) rfl (rV_get ha), .inl ⟨rfl, _, .inl (.inl hn3)⟩, _, rfl, a, _, _, rfl, rfl, hn3, ?_, ?_⟩
        · rw [nV_len]
          exact small_lt (Nat.lt_of_le_of_lt (succ_len _ _) (by rw [List.length_take]; omega))
        · refine ⟨_, _, rfl, same_mut s2 hn1, ?_, F2.len, F2.nd, fun i c hc => ?_⟩
          · rw [upd_ne hn2.symm]
            exact F2.top
          · obtain ⟨g1, g2, g3⟩ := F2.at_ _ _ hc
            refine ⟨g1, g2, ?_⟩
            rw [List.take_add_one, hk]
            show _ = some (HO.lst (nV (succ (zs.take k ++ [z]) i)))
            rw [succ_snoc]
            by_cases e : z.2.1 = i
            · subst e
              rw [ha] at hc
              cases hc
              rw [upd_same, if_pos rfl, nV_app]
            · have hca : c ≠ a := fun z2 => by
                subst z2
                exact e (nd_ix F2.nd ha hc)
              rw [upd_ne hca, if_neg e]
              exact g3
    · obtain ⟨y3, y4, rfl, s2, F2⟩ := hP
      rw [List.length_map, List.take_length] at F2
      exact ⟨_, rfl, q D as H2 nD s2 F2⟩

def spRing : Sp := fun vs H Q _ => ∃ (n : Nat) (N : Addr) (zs : List (Addr × Nat × Nat)), vs = [.int (n : Int), .ref N] ∧ NeedsAt H N zs ∧ (∀ z ∈ zs, z.2.1 < n ∧ z.2.2 < n) ∧ n ≤ 1000 ∧ zs.length ≤ 10000 ∧
  ∀ (b : Bool) (H' : Hp), Same H H' → (b = false ↔ Acyc zs) → Q (.bl b) H'
theorem ok_has_ring (T : Env K mg) : Ok P w K mg base CX0 dd_has_ring "has_ring" 2 ["many", "needs"] spRing := by
  obtain ⟨fd_followers_of, D_followers_of, g_followers_of, k_followers_of, b_followers_of, G_followers_of⟩ := ok_followers_of (P := P) (w := w) (base := base) T
  obtain ⟨fd, F⟩ := T.c.def_ 10 (d := dd_has_ring) rfl
  refine ⟨fd, F, T.gl 10 _ rfl, F.kp, F.bindsN fun _ _ _ _ _ _ us hl => match us, hl with | [_, _], _ => rfl, ?_⟩
  refine F.ok sc_has_ring (fun vs H Q E h => ?_) (fun cdv A outer s H vs Q E hr h => ?_)
  · obtain ⟨n, N, zs, rfl, hN, hz, hn, hzl, q⟩ := h
    rfl
  · obtain ⟨n, N, zs, rfl, hN, hz, hn, hzl, q⟩ := h
    refine ⟨_, PSs.nox (pss_cons (ps_set (i := 2) sc_has_ring.nd rfl (Or.inl rfl) (pe_call G_followers_of (hr.mono (by decide)) (by rfl) g_followers_of k_followers_of b_followers_of .nil pass0 (pa_cons (pv 0) (pa_cons (pv 1) pa_nil))))
      (pss_cons (ps_set (i := 3) sc_has_ring.nd rfl (Or.inr rfl) (pe_op op_rep (pe_lst (pa_cons pe_int pa_nil)) (pv 0)))
      (pss_cons (ps_for PassesOwn.never rfl (pi_list (pv 1)) (pg_tup rfl (pgs_cons (pg_name (i := 4) sc_has_ring.nd rfl (Or.inl rfl)) (pgs_cons (pg_name (i := 5) sc_has_ring.nd rfl (Or.inl rfl)) pgs_nil))) (pss_one (ps_asg (pe_op op_add (pe_ix ix_list (pv 3) (pv 5) (fun _ _ => rfl)) pe_int) (pg_sub (pv 3) (pv 5) set_list))))
      (pss_cons (ps_setLc (i := 6) (own := [("t", 9)]) (g := gName 9) (by rfl) sc_has_ring.nd rfl rfl (sw_true rfl rfl rfl (by decide +kernel)) (pi_range1 (by rfl) (T.fr 42 _ rfl) (pa_cons (pv 0) pa_nil)) (blkOk_by (own := [("t", 9)]) (N := N_has_ring) (sc := defScope s_has_ring) (by decide +kernel)) (fun _ _ _ _ _ => (pg_name (i := 9) sc_has_ring.nd rfl (by first | exact Or.inl rfl | exact Or.inr rfl))) (fun _ _ _ _ _ => (pts_one (pt_cmpR op_eq (pe_ix (r := rIxL K) ix_list (pv 3) (pv 9) (fun _ _ => rfl)) pe_int (nomark _)))) (fun _ _ _ _ _ => (pv 9)))
      (pss_cons (ps_set (i := 7) sc_has_ring.nd rfl (Or.inl rfl) pe_int)
      (pss_cons (ps_while PassesOwn.never (pt_cmpR op_lt (pv 7) (pe_callB call_len_seq (by rfl) (T.fr 38 _ rfl) (by decide +kernel) (pa_cons (pv 6) pa_nil)) (nomark _)) (pss_cons (ps_set (i := 8) sc_has_ring.nd rfl (Or.inl rfl) (pe_ix ix_list (pv 6) (pv 7) (fun _ _ => rfl)))
      (pss_cons (ps_for PassesOwn.never rfl (pi_list (pe_ix ix_list (pv 2) (pv 8) (fun _ _ => rfl))) (pg_name (i := 5) sc_has_ring.nd rfl (Or.inl rfl)) (pss_cons (ps_asg (pe_op op_sub (pe_ix ix_list (pv 3) (pv 5) (fun _ _ => rfl)) pe_int) (pg_sub (pv 3) (pv 5) set_list))
      (pss_one (ps_if (pt_cmpR op_eq (pe_ix ix_list (pv 3) (pv 5) (fun _ _ => rfl)) pe_int (nomark _)) (pss_one (ps_expr (pe_bm PySem.F.plainAttrs_list PySem.F.slot_list_append PySem.F.type_list_append mt_append (pv 6) (pa_cons (pv 5) pa_nil)))) pss_nil))))
      (pss_one (ps_aug (i := 7) sc_has_ring.nd rfl (Or.inl rfl) pe_int ip_add)))))
      (pss_one (ps_ret (pe_cmpR op_lt (pe_callB call_len_seq (by rfl) (T.fr 38 _ rfl) (by decide +kernel) (pa_cons (pv 6) pa_nil)) (pv 0) (nomark _)))))))))), ?_⟩
    walk_at "u"
    refine ⟨_, rfl, _, rfl, n, N, zs, rfl, hN, hz, hn, hzl, fun fo as H1 nfo s1 F1 => ?_⟩
    -- waits = [0] * many
    refine ⟨(show 1 ≤ sizeLine by decide), fun w0 nw0 => ⟨_, rfl, w0, (n : Int), _, rfl, rfl, upd_same, by omega, by omega, by show 1 * _ ≤ _; exact small_sz (by omega), fun W nW => ?_⟩⟩
    have s12 : Same H1 (upd (upd H1 w0 (.lst [.int 0])) W (.lst (List.replicate (n : Int).toNat [V.int 0]).flatten)) := (same_upd nw0).trans (same_upd nW)
    have nW1 : H1 W = none := (same_upd nw0).free nW
    generalize hH2 : upd (upd H1 w0 (.lst [.int 0])) W (.lst (List.replicate (n : Int).toNat [V.int 0]).flatten) = H2 at s12
    have hW2 : H2 W = some (.lst (iV (List.replicate n 0))) := by
      rw [← hH2, upd_same, Int.toNat_natCast, rep_flat]
    have s2 : Same H H2 := s1.trans s12
    have F2 := F1.same s12
    have nW0 : H W = none := s1.free nW1
    have foW : fo ≠ W := ne_of_none F1.top nW1
    have asW : ∀ {i : Nat} {a : Addr}, as[i]? = some a → a ≠ W := fun h => ne_of_none (F1.at_ _ _ h).2.2 nW1
    -- for _, b in needs
    refine ⟨_, rfl, N, rfl, ⟨_, SqL.of (s2 _ _ hN.1)⟩, for_list (K := K) (a := N) (xs := zs.map fun z => V.ref z.1) (fun k σ H' => ∃ ws y4 y5, σ = [some (.int (n : Int)), some (.ref N), some (.ref fo), some (.ref W), y4, y5, none, none, none, none] ∧ Same H H' ∧ Follow H H' fo as zs n ∧ H' W = some (.lst (iV ws)) ∧ ByF ws n (fun b => (waitN (zs.take k) [] b : Int)))
      ⟨_, none, none, rfl, s2, F2, hW2, (byF_rep n).congr fun c hc => rfl⟩ (fun k σ H' _ hP => ?_) (fun k v σ H' hv hP => ?_) (fun σ H' hP => ?_)⟩
    · obtain ⟨ws, y4, y5, _, sm, _⟩ := hP
      exact SqL.of (sm _ _ hN.1)
    · obtain ⟨ws, y4, y5, rfl, sm, F', hW, hB⟩ := hP
      rw [List.getElem?_map] at hv
      cases hk : zs[k]? with
      | none =>
        rw [hk] at hv
        cases hv
      | some z =>
        rw [hk] at hv
        cases hv
        have hzm := List.mem_of_getElem? hk
        have hT := sm _ _ (hN.2 z hzm)
        have hlt := (hz z hzm).2
        refine ⟨z.1, _, rfl, SqT.of hT, rfl, _, _, rfl, _, _, rfl, rfl, ?_⟩
        refine ⟨_, rfl, _, rfl, W, _, _, _, rfl, rfl, SqL.of hW, atI_iV (j := z.2.2) rfl (hB.at_ _ hlt), _, _, rfl, rfl, _, rfl, _, rfl, W, _, _, z.2.2, rfl, rfl, hW, ixN_at rfl (by rw [iV_len, hB.len]; exact hlt), ?_⟩
        refine ⟨ws.set z.2.2 _, _, _, rfl, same_mut sm nW0, ?_, by rw [upd_same, iV_set], hB.set hlt ?_ fun c hc => ?_⟩
        · refine ⟨by rw [upd_ne foW]; exact F'.top, F'.len, F'.nd, fun i a h => ?_⟩
          obtain ⟨g1, g2, g3⟩ := F'.at_ i a h
          exact ⟨g1, g2, by rw [upd_ne (asW h)]; exact g3⟩
        · show ((waitN (zs.take (k + 1)) [] z.2.2 : Nat) : Int) = _
          rw [waitN_take zs z.2.2 k z hk, if_pos rfl]
          rfl
        · show ((waitN (zs.take (k + 1)) [] c : Nat) : Int) = _
          rw [waitN_take zs c k z hk, if_neg fun e => hc e.symm]
          rfl
    obtain ⟨ws, y4, y5, rfl, s3, F3, hW3, hB3⟩ := hP
    rw [List.length_map, List.take_length] at hB3
    -- cleared
    refine ⟨_, rfl, _, rfl, by omega, by omega, fun C nC => lc_range (lo := 0) (n := (n : Int).toNat) (fun i H2 => Same H' H2 ∧ H2 C = some (.lst (nV ((List.range i).filter fun t => waitN zs [] t == 0)))) ⟨same_upd nC, upd_same⟩ (fun i H2 hi hP => ?_) (fun H2 hP => ?_)⟩
    · obtain ⟨sm, hC⟩ := hP
      refine ⟨rfl, ?_⟩
      walk_at "u"
      have hi2 : i < n := by omega
      have e0 : (0 : Int) + (i : Int) = (i : Int) := Int.zero_add _
      refine ⟨_, rfl, _, rfl, W, _, _, _, rfl, rfl, SqL.of (sm _ _ hW3), atI_iV (j := i) e0 (hB3.at_ _ hi2), rfl, _, rfl, ifB (fun e => ?_) (fun e => ?_)⟩
      · have hw : waitN zs [] i = 0 := Int.ofNat.inj (V.int.inj (of_decide_eq_true e))
        refine ⟨_, rfl, _, hC, ?_, same_mut sm nC, ?_⟩
        · rw [nV_len]
          exact small_lt (Nat.lt_of_le_of_lt (List.length_filter_le ..) (by rw [List.length_range]; omega))
        · rw [upd_same, filt_snoc, if_pos (beq_iff_eq.mpr hw), e0, nV_app]
      · have hw : ¬ waitN zs [] i = 0 := fun h => by
          have := of_decide_eq_false e
          exact this (by rw [h]; rfl)
        refine ⟨sm, ?_⟩
        rw [filt_snoc, if_neg fun h => hw (beq_iff_eq.mp h)]
        exact hC
    obtain ⟨s34, hC4⟩ := hP
    rw [Int.toNat_natCast] at hC4
    have s4 : Same H H2 := s3.trans s34
    have F4 := F3.same s34
    have hW4 := s34 _ _ hW3
    have nC0 : H C = none := s3.free nC
    have foC : fo ≠ C := ne_of_none F3.top nC
    have WC : W ≠ C := ne_of_none hW3 nC
    have asC : ∀ {i : Nat} {a : Addr}, as[i]? = some a → a ≠ C := fun h => ne_of_none (F3.at_ _ _ h).2.2 nC
    -- while
    refine ⟨fun m σ H' => ∃ ws cl at_ y4 y5 y8, σ = [some (.int (n : Int)), some (.ref N), some (.ref fo), some (.ref W), y4, y5, some (.ref C), some (.int (at_ : Nat)), y8, none] ∧ Same H H' ∧ Follow H H' fo as zs n ∧ H' W = some (.lst (iV ws)) ∧ ByF ws n (fun b => (waitN zs (cl.take at_) b : Int)) ∧ H' C = some (.lst (nV cl)) ∧ Clr zs n cl at_ ∧ (∀ b, b < n → (b ∈ cl ↔ waitN zs (cl.take at_) b = 0)) ∧ m = n - at_,
      ⟨_, ws, _, 0, _, _, none, rfl, s4, F4, hW4, hB3, hC4, ⟨List.nodup_range.filter _, fun t ht => List.mem_range.mp (List.mem_filter.mp ht).1, Nat.zero_le _, fun z hzm i hi => ?_⟩, fun b hb => ?_, rfl⟩, fun m σ H5 hP => ?_⟩
    · have h1 := (List.mem_filter.mp (List.mem_of_getElem? hi)).2
      have h2 := waitN_zero.mp (beq_iff_eq.mp h1) z hzm rfl
      cases h2
    · rw [List.mem_filter, List.mem_range, beq_iff_eq]
      exact ⟨fun h => h.2, fun h => ⟨hb, h⟩⟩
    obtain ⟨ws, cl, at_, y4, y5, y8, rfl, s5, F5, hW5, hB5, hC5, hcl, hmem, rfl⟩ := hP
    refine ⟨_, rfl, _, rfl, C, _, rfl, .inl (SqL.of hC5), _, _, rfl, rfl, _, rfl, ifB (fun e => ?_) (fun e => ?_)⟩
    · have hat : at_ < cl.length := by
        have h1 := of_decide_eq_true e
        rw [nV_len] at h1
        omega
      have hcln : cl.length ≤ n := by
        have := nat_nodup_len cl (List.range n) hcl.nd fun t ht => List.mem_range.mpr (hcl.lt t ht)
        rw [List.length_range] at this
        exact this
      obtain ⟨a, ha⟩ : ∃ a, cl[at_]? = some a := ⟨_, List.getElem?_eq_getElem hat⟩
      have han : a < n := hcl.lt a (List.mem_of_getElem? ha)
      have hnot : ¬ a ∈ cl.take at_ := fun h => by
        obtain ⟨j, hj⟩ := List.getElem?_of_mem h
        rw [List.getElem?_take] at hj
        split at hj
        · have := ix_of_nodup hcl.nd hj ha
          omega
        · cases hj
      obtain ⟨fa, hfa⟩ : ∃ fa, as[a]? = some fa := ⟨_, List.getElem?_eq_getElem (by rw [F5.len]; exact han)⟩
      have hfa5 := (F5.at_ _ _ hfa).2.2
      refine ⟨fun σ' H' => ∃ m', m' < n - at_ ∧ _, fun _ _ z => z, ?_⟩
      refine ⟨_, rfl, _, rfl, C, _, _, _, rfl, rfl, SqL.of hC5, atI_nV (j := at_) rfl ha, ?_⟩
      refine ⟨_, rfl, _, rfl, fo, _, _, .ref fa, rfl, rfl, SqL.of F5.top, at_of (j := a) rfl (rV_get hfa), fa, rfl, ⟨_, SqL.of hfa5⟩, for_list (K := K) (a := fa) (xs := nV (succ zs a)) (fun k σ H' => ∃ ws cl2 y5, σ = [some (.int (n : Int)), some (.ref N), some (.ref fo), some (.ref W), y4, y5, some (.ref C), some (.int (at_ : Nat)), some (.int (a : Int)), none] ∧ Same H H' ∧ Follow H H' fo as zs n ∧ H' W = some (.lst (iV ws)) ∧ ByF ws n (fun b => (waitN zs (cl.take at_) b : Int) - (((succ zs a).take k).count b : Int)) ∧ H' C = some (.lst (nV (cl ++ cl2))) ∧ Clr zs n (cl ++ cl2) at_ ∧ (∀ b, b < n → (b ∈ cl ++ cl2 ↔ (waitN zs (cl.take at_) b : Int) - (((succ zs a).take k).count b : Int) = 0)))
        ⟨ws, [], y5, rfl, s5, F5, hW5, hB5.congr fun c _ => by simp, by rw [List.append_nil]; exact hC5, by rw [List.append_nil]; exact hcl, fun b hb => by
          rw [List.append_nil, hmem b hb]
          simp⟩ (fun k σ H' _ hP => ?_) (fun k v σ H' hv hP => ?_) (fun σ H' hP => ?_)⟩
      · obtain ⟨ws, cl2, y5, _, _, F', _⟩ := hP
        exact SqL.of (F'.at_ _ _ hfa).2.2
      · obtain ⟨ws, cl2, y5, rfl, s6, F6, hW6, hB6, hC6, hcl6, hmem6⟩ := hP
        obtain ⟨b, hb, rfl⟩ := nV_of hv
        obtain ⟨zb, hzb, e1, e2⟩ := mem_succ.mp (List.mem_of_getElem? hb)
        have hbn : b < n := e2 ▸ (hz zb hzb).2
        have hcnt := waitN_snoc zs (cl.take at_) a b hnot
        have hc1 := cnt_take hb b
        rw [if_pos rfl] at hc1
        have hc2 := cnt_le (succ zs a) (k + 1) b
        have hnin : ¬ b ∈ cl ++ cl2 := fun h => by
          have := (hmem6 b hbn).mp h
          omega
        have F7 : Follow H (upd H' W (.lst ((iV ws).set b (.int ((waitN zs (cl.take at_) b : Int) - (((succ zs a).take k).count b : Int) - 1))))) fo as zs n := ⟨by rw [upd_ne foW]; exact F6.top, F6.len, F6.nd, fun i c h => by
          obtain ⟨g1, g2, g3⟩ := F6.at_ i c h
          exact ⟨g1, g2, by rw [upd_ne (asW h)]; exact g3⟩⟩
        have hW7 : (upd H' W (.lst ((iV ws).set b (.int ((waitN zs (cl.take at_) b : Int) - (((succ zs a).take k).count b : Int) - 1))))) W = some (.lst (iV (ws.set b ((waitN zs (cl.take at_) b : Int) - (((succ zs a).take k).count b : Int) - 1)))) := by
          rw [upd_same, iV_set]
        have hB7 : ByF (ws.set b ((waitN zs (cl.take at_) b : Int) - (((succ zs a).take k).count b : Int) - 1)) n (fun b => (waitN zs (cl.take at_) b : Int) - (((succ zs a).take (k + 1)).count b : Int)) := hB6.set hbn (by
            show (_ : Int) - _ = _
            rw [hc1]
            omega) fun c hc => by
          show (_ : Int) - _ = _ - _
          rw [cnt_take hb c, if_neg hc, Int.add_zero]
        refine ⟨_, rfl, _, rfl, W, _, _, _, rfl, rfl, SqL.of hW6, atI_iV (j := b) rfl (hB6.at_ b hbn), _, _, rfl, rfl, _, rfl, _, rfl, W, _, _, b, rfl, rfl, hW6, ixN_at rfl (by rw [iV_len, hB6.len]; exact hbn), ?_⟩
        refine ⟨_, rfl, _, rfl, W, _, _, _, rfl, rfl, SqL.of hW7, atI_iV (j := b) rfl (hB7.at_ b hbn), rfl, _, rfl, ifB (fun e => ?_) (fun e => ?_)⟩
        · have ez : (waitN zs (cl.take at_) b : Int) - (((succ zs a).take (k + 1)).count b : Int) = 0 := V.int.inj (of_decide_eq_true e)
          have hC7 : (upd H' W (.lst ((iV ws).set b (.int ((waitN zs (cl.take at_) b : Int) - (((succ zs a).take k).count b : Int) - 1))))) C = some (.lst (nV (cl ++ cl2))) := by
            rw [upd_ne WC.symm]
            exact hC6
          have hl6 : (cl ++ cl2).length ≤ n := by
            have := nat_nodup_len (cl ++ cl2) (List.range n) hcl6.nd fun t ht => List.mem_range.mpr (hcl6.lt t ht)
            rw [List.length_range] at this
            exact this
          refine ⟨_, rfl, .inl ⟨rfl, _, .inl (.inl hC7)⟩, _, rfl, C, _, _, rfl, rfl, hC7, by rw [nV_len]; exact small_lt (by omega), ?_⟩
          refine ⟨_, cl2 ++ [b], _, rfl, same_mut (same_mut s6 nW0) nC0, ?_, by rw [upd_ne WC]; exact hW7, hB7, by rw [upd_same, nV_app, List.append_assoc], ?_, fun c hc => ?_⟩
          · exact ⟨by rw [upd_ne foC]; exact F7.top, F7.len, F7.nd, fun i c h => by
              obtain ⟨g1, g2, g3⟩ := F7.at_ i c h
              exact ⟨g1, g2, by rw [upd_ne (asC h)]; exact g3⟩⟩
          · rw [← List.append_assoc]
            refine ⟨nd_snoc hcl6.nd hnin, fun t ht => ?_, by rw [List.length_append]; exact Nat.le_trans hcl6.up (Nat.le_add_right _ _), fun z hzm i hi => ?_⟩
            · rcases List.mem_append.mp ht with h | h
              · exact hcl6.lt t h
              · rw [List.mem_singleton.mp h]
                exact hbn
            · by_cases hil : i < (cl ++ cl2).length
              · rw [List.getElem?_append_left hil] at hi
                obtain ⟨j, hj, hj2⟩ := hcl6.ord z hzm i hi
                exact ⟨j, hj, by rw [List.getElem?_append_left (by omega)]; exact hj2⟩
              · rw [List.getElem?_append_right (by omega)] at hi
                have hb2 : z.2.2 = b := by
                  cases hx : i - (cl ++ cl2).length with
                  | zero =>
                    rw [hx] at hi
                    exact (Option.some.inj hi).symm
                  | succ m =>
                    rw [hx] at hi
                    simp at hi
                have hz0 : waitN zs (cl.take at_ ++ [a]) b = 0 := by omega
                have hz1 := waitN_zero.mp hz0 z hzm hb2
                have ea : cl.take at_ ++ [a] = cl.take (at_ + 1) := by
                  rw [List.take_add_one, ha]
                  rfl
                rw [ea] at hz1
                obtain ⟨j, hj⟩ := List.getElem?_of_mem hz1
                rw [List.getElem?_take] at hj
                split at hj
                · have hj1 : j < cl.length := by omega
                  have hlen : cl.length ≤ (cl ++ cl2).length := by rw [List.length_append]; exact Nat.le_add_right _ _
                  exact ⟨j, by omega, by rw [List.append_assoc, List.getElem?_append_left hj1]; exact hj⟩
                · cases hj
          · rw [← List.append_assoc, List.mem_append, List.mem_singleton]
            by_cases ec : c = b
            · subst ec
              exact ⟨fun _ => ez, fun _ => .inr rfl⟩
            · rw [cnt_take hb c, if_neg ec, Int.add_zero]
              exact ⟨fun h => (hmem6 c hc).mp (h.resolve_right ec), fun h => .inl ((hmem6 c hc).mpr h)⟩
        · have ez : ¬ (waitN zs (cl.take at_) b : Int) - (((succ zs a).take (k + 1)).count b : Int) = 0 := fun h => of_decide_eq_false e (congrArg V.int h)
          refine ⟨_, cl2, _, rfl, same_mut s6 nW0, F7, hW7, hB7, by rw [upd_ne WC.symm]; exact hC6, hcl6, fun c hc => ?_⟩
          by_cases ec : c = b
          · subst ec
            exact ⟨fun h => absurd h hnin, fun h => absurd h ez⟩
          · rw [cnt_take hb c, if_neg ec, Int.add_zero]
            exact hmem6 c hc
      · obtain ⟨ws, cl2, y5, rfl, s6, F6, hW6, hB6, hC6, hcl6, hmem6⟩ := hP
        rw [nV_len, List.take_length] at hB6 hmem6
        have ea : (cl ++ cl2).take (at_ + 1) = cl.take at_ ++ [a] := by
          rw [List.take_append_of_le_length (by omega), List.take_add_one, ha]
          rfl
        have hw : ∀ b, (waitN zs ((cl ++ cl2).take (at_ + 1)) b : Int) = (waitN zs (cl.take at_) b : Int) - ((succ zs a).count b : Int) := fun b => by
          have := waitN_snoc zs (cl.take at_) a b hnot
          rw [ea]
          omega
        refine ⟨_, rfl, _, _, rfl, rfl, n - (at_ + 1), by omega, ws, cl ++ cl2, at_ + 1, _, _, _, rfl, s6, F6, hW6, hB6.congr fun c _ => hw c, hC6, ⟨hcl6.nd, hcl6.lt, by rw [List.length_append]; omega, hcl6.ord⟩, fun b hb => ?_, rfl⟩
        rw [hmem6 b hb, ← hw b]
        omega
    · have hat : at_ = cl.length := by
        have h1 := of_decide_eq_false e
        rw [nV_len] at h1
        have := hcl.up
        omega
      subst hat
      rw [List.take_length] at hmem
      refine ⟨_, rfl, C, _, rfl, .inl (SqL.of hC5), _, rfl, _, _, rfl, rfl, ?_⟩
      rw [nV_len]
      exact q _ H5 s5 (clr_end hcl hz hmem)

theorem isTask_nat {n t : Nat} (h : t < n) : isTask (n : Int) (.int (t : Int)) = true := by
  show (decide ((0 : Int) ≤ (t : Int)) && decide ((t : Int) < (n : Int))) = true
  rw [decide_eq_true (by omega : (0 : Int) ≤ (t : Int)), decide_eq_true (by omega : (t : Int) < (n : Int))]
  rfl
theorem all_rep (n : Nat) : (List.replicate n true).all id = true := by
  rw [List.all_eq_true]
  intro x hx
  exact (List.eq_of_mem_replicate hx)
theorem bl_rep (n : Nat) : (List.replicate n true).map V.bl ++ [V.bl true] = (List.replicate (n + 1) true).map V.bl := by
  rw [List.replicate_succ', List.map_append]
  rfl
theorem pr2_nodup : ∀ {zs : List (Addr × Nat × Nat)}, (zs.map (·.2)).Nodup → (zs.map fun z => (pr2 z).2).Nodup
  | [], _ => List.nodup_nil
  | z :: r, h => by
    rw [List.map_cons] at h
    obtain ⟨h1, h2⟩ := List.nodup_cons.mp h
    rw [List.map_cons]
    refine List.nodup_cons.mpr ⟨fun hm => h1 ?_, pr2_nodup h2⟩
    obtain ⟨y, hy, e⟩ := List.mem_map.mp hm
    refine List.mem_map.mpr ⟨y, hy, ?_⟩
    have e1 : ([(y.2.1 : Int), (y.2.2 : Int)] : List Int) = [(z.2.1 : Int), (z.2.2 : Int)] := e
    injection e1 with a1 a2
    injection a2 with a2 _
    exact Prod.ext (Int.ofNat.inj a1) (Int.ofNat.inj a2)

def spAreNeeds : Sp := fun vs H Q _ => ∃ (n : Nat) (N : Addr) (zs : List (Addr × Nat × Nat)), vs = [.int (n : Int), .ref N] ∧ NeedsAt H N zs ∧ (∀ z ∈ zs, z.2.1 < n ∧ z.2.2 < n) ∧ n ≤ 1000 ∧ zs.length < 64 ∧ (zs.map (·.2)).Nodup ∧ Acyc zs ∧
  ∀ (H' : Hp), Same H H' → Q (.bl true) H'
theorem ok_are_needs (T : Env K mg) : Ok P w K mg base CX0 dd_are_needs "are_needs" 5 ["many", "things"] spAreNeeds := by
  obtain ⟨fd_has_ring, D_has_ring, g_has_ring, k_has_ring, b_has_ring, G_has_ring⟩ := ok_has_ring (P := P) (w := w) (base := base) T
  obtain ⟨fd_is_need, D_is_need, g_is_need, k_is_need, b_is_need, G_is_need⟩ := ok_is_need (P := P) (w := w) (base := base) T
  obtain ⟨fd, F⟩ := T.c.def_ 8 (d := dd_are_needs) rfl
  refine ⟨fd, F, T.gl 8 _ rfl, F.kp, F.bindsN fun _ _ _ _ _ _ us hl => match us, hl with | [_, _], _ => rfl, ?_⟩
  refine F.ok sc_are_needs (fun vs H Q E h => ?_) (fun cdv A outer s H vs Q E hr h => ?_)
  · obtain ⟨n, N, zs, rfl, hN, hz, hn, hzl, hnd, hac, q⟩ := h
    rfl
  · obtain ⟨n, N, zs, rfl, hN, hz, hn, hzl, hnd, hac, q⟩ := h
    refine ⟨_, PSs.nox (pss_cons (ps_if (pt_not (pt_val (pe_callB (cr_all rfl) (by rfl) (T.fr 37 _ rfl) (by decide +kernel) (pa_cons (pe_lc (own := [("thing", 2)]) (g := gName 2) (tt := tYes) (by rfl) sc_are_needs.nd (pi_list (pv 1)) (blkOk_by (own := [("thing", 2)]) (N := N_are_needs) (sc := defScope s_are_needs) (by decide +kernel)) (fun _ _ _ _ _ => (pg_name (i := 2) sc_are_needs.nd rfl (by first | exact Or.inl rfl | exact Or.inr rfl))) (fun _ _ _ _ _ => pts_nil) (fun _ _ _ _ _ => (pe_call G_is_need (hr.mono (by decide)) (by rfl) g_is_need k_is_need b_is_need .nil pass0 (pa_cons (pv 0) (pa_cons (pv 2) pa_nil))))) pa_nil)))) (pss_one (ps_ret pe_bl)) pss_nil)
      (pss_one (ps_ret (pe_and (pe_cmpR op_eq (pe_callB call_len_setT (by rfl) (T.fr 38 _ rfl) (by decide +kernel) (pa_cons (pe_callTy (cr_setOfT rfl hr.units) (by rfl) (T.fr 41 _ rfl) (by decide +kernel) (pa_cons (pv 1) pa_nil)) pa_nil)) (pe_callB call_len_seq (by rfl) (T.fr 38 _ rfl) (by decide +kernel) (pa_cons (pv 1) pa_nil)) (nomark _)) (pe_one (pe_not (pe_call G_has_ring (hr.mono (by decide)) (by rfl) g_has_ring k_has_ring b_has_ring .nil pass0 (pa_cons (pv 0) (pa_cons (pv 1) pa_nil))))))))), ?_⟩
    walk_at "u"
    have hne : ∀ z ∈ zs, z.2.1 ≠ z.2.2 := fun z hzm e => by
      obtain ⟨rk, hrk⟩ := hac
      have := hrk z hzm
      rw [e] at this
      omega
    refine ⟨_, rfl, N, rfl, ⟨_, SqL.of hN.1⟩, fun D nD => lc_list (K := K) (a := N) (xs := zs.map fun z => V.ref z.1) (fun i H' => Same H H' ∧ H' D = some (.lst ((List.replicate i true).map V.bl))) ⟨same_upd nD, upd_same⟩ (fun i H' _ hP => SqL.of (hP.1 _ _ hN.1)) (fun i v H' hv hP => ?_) (fun H' hP => ?_)⟩
    · obtain ⟨sm, hD⟩ := hP
      rw [List.getElem?_map] at hv
      cases hk : zs[i]? with
      | none =>
        rw [hk] at hv
        cases hv
      | some z =>
        rw [hk] at hv
        cases hv
        have hzm := List.mem_of_getElem? hk
        have hlt := hz z hzm
        refine ⟨rfl, ?_⟩
        walk_at "u"
        refine iteT ⟨_, rfl, _, rfl, (n : Int), z.1, (z.2.1 : Int), (z.2.2 : Int), rfl, sm _ _ (hN.2 z hzm), _, hD, ?_, same_mut sm nD, ?_⟩
        · rw [List.length_map, List.length_replicate]
          have := (List.getElem?_eq_some_iff.mp hk).1
          exact small_lt (by omega)
        · have e1 := isTask_nat hlt.1
          have e2 := isTask_nat hlt.2
          have e3 : decide ((z.2.1 : Int) = (z.2.2 : Int)) = false := decide_eq_false fun e => hne z hzm (Int.ofNat.inj e)
          rw [e1, e2, e3, upd_same, ← bl_rep]
          rfl
    obtain ⟨sm, hD⟩ := hP
    refine ⟨D, _, rfl, SqL.of hD, _, rfl, ?_⟩
    rw [all_rep]
    refine iteF ?_
    have hN1 := hN.same sm
    refine ⟨_, rfl, N, zs.map pr2, rfl, SqL.of ?_, fun p hp => ?_, by rw [List.length_map]; exact hzl, fun a L na hL1 hL2 => ?_⟩
    · rw [List.map_map]
      exact hN1.1
    · obtain ⟨z, hzm, rfl⟩ := List.mem_map.mp hp
      exact SqT.of (hN1.2 z hzm)
    have sm2 : Same H (upd H' a (SetTO P w a L)) := sm.trans (same_upd na)
    have hN2 := hN.same sm2
    refine ⟨a, L, rfl, upd_same, fun p hp => ?_, fun hLnd hL64 => ?_⟩
    · obtain ⟨z, hzm, rfl⟩ := List.mem_map.mp (hL1 p hp)
      exact SqT.of (hN2.2 z hzm)
    have hlen : L.length = zs.length := by
      have h1 := nodup_perm_len (a := L.map (·.2)) (b := zs.map fun z => (pr2 z).2) hLnd (pr2_nodup hnd) (fun x hx => by
        obtain ⟨p, hp, rfl⟩ := List.mem_map.mp hx
        obtain ⟨z, hzm, rfl⟩ := List.mem_map.mp (hL1 p hp)
        exact List.mem_map.mpr ⟨z, hzm, rfl⟩) (fun x hx => by
        obtain ⟨z, hzm, rfl⟩ := List.mem_map.mp hx
        exact hL2 (pr2 z) (List.mem_map.mpr ⟨z, hzm, rfl⟩))
      rw [List.length_map, List.length_map] at h1
      exact h1
    refine ⟨_, rfl, N, _, rfl, .inl (SqL.of hN2.1), rfl, ?_⟩
    rw [List.length_map, hlen]
    refine ⟨_, rfl, ?_⟩
    rw [decide_eq_true rfl]
    refine iteT ⟨_, rfl, _, rfl, n, N, zs, rfl, hN2, hz, hn, by omega, fun b H3 s3 hb => ⟨b, rfl, ?_⟩⟩
    rw [hb.mpr hac]
    exact q H3 (sm2.trans s3)

end
/-! sums of rooms -/
def roomSum (rs : List Int) (s : Int) : Nat → Int
  | 0 => 0
  | k + 1 => roomSum rs s k + roomAt rs (s + (k : Int))
theorem roomSum_eq (rs : List Int) (s : Nat) : ∀ k : Nat, roomSum rs ((s : Int) + 1) k = ((rs.drop s).take k).sum + 2 * ((k : Int) - (min k (rs.length - s) : Nat))
  | 0 => by simp [roomSum]
  | k + 1 => by
    rw [roomSum, roomSum_eq rs s k]
    by_cases h : s + k < rs.length
    · have e1 : roomAt rs ((s : Int) + 1 + (k : Int)) = rs[s + k] := by
        have h2 := roomAt_in (rs := rs) (h := (s : Int) + 1 + (k : Int)) (by omega) (by omega)
        have e2 : ((s : Int) + 1 + (k : Int) - 1).toNat = s + k := by omega
        rw [e2, List.getElem?_eq_getElem h] at h2
        exact (Option.some.inj h2).symm
      have e3 : (rs.drop s)[k]? = some rs[s + k] := by
        rw [List.getElem?_drop, List.getElem?_eq_getElem h]
      rw [e1, List.take_add_one, e3, List.sum_append]
      have e4 : min (k + 1) (rs.length - s) = k + 1 := by omega
      have e5 : min k (rs.length - s) = k := by omega
      rw [e4, e5]
      simp
      all_goals omega
    · rw [roomAt_out (by omega)]
      have e3 : (rs.drop s)[k]? = none := List.getElem?_eq_none (by rw [List.length_drop]; omega)
      rw [List.take_add_one, e3]
      have e4 : min (k + 1) (rs.length - s) = rs.length - s := by omega
      have e5 : min k (rs.length - s) = rs.length - s := by omega
      rw [e4, e5]
      simp
      all_goals omega
/-- room(job, s, e) -/
def roomOf (rs : List Int) (s e : Int) : Int := roomSum rs s (e + 1 - s).toNat
theorem cut_sum {rs : List Int} {s e : Int} (h1 : 1 ≤ s) (h2 : s ≤ e) : cutV (iV rs) (some (s - 1)) (some e) = iV ((rs.drop (s - 1).toNat).take (e + 1 - s).toNat) := by
  obtain ⟨a, rfl⟩ : ∃ a : Nat, s = (a : Int) + 1 := ⟨(s - 1).toNat, by omega⟩
  obtain ⟨b, rfl⟩ : ∃ b : Nat, e = (b : Int) := ⟨e.toNat, by omega⟩
  have e1 : (a : Int) + 1 - 1 = (a : Int) := by omega
  have e2 : ((b : Int) + 1 - ((a : Int) + 1)).toNat = b - a := by omega
  rw [e1, e2, Int.toNat_natCast]
  unfold cutV
  rw [HT.sIx_nat, HT.sIx_nat, iV_len]
  unfold iV
  rw [← List.map_drop, ← List.map_take]
  congr 1
  by_cases h : a ≤ rs.length
  · rw [Nat.min_eq_left h]
    by_cases h3 : b ≤ rs.length
    · rw [Nat.min_eq_left h3]
    · rw [Nat.min_eq_right (by omega), List.take_of_length_le (by rw [List.length_drop]; omega), List.take_of_length_le (by rw [List.length_drop]; omega)]
  · rw [Nat.min_eq_right (by omega : rs.length ≤ a), List.drop_eq_nil_of_le (Nat.le_refl _), List.drop_eq_nil_of_le (by omega), List.take_nil, List.take_nil]
theorem room_val {rs : List Int} {s e : Int} (h1 : 1 ≤ s) (h2 : s ≤ e) : ((rs.drop (s - 1).toNat).take (e + 1 - s).toNat).sum + 2 * (if e - (if (rs.length : Int) > s - 1 then (rs.length : Int) else s - 1) > 0 then e - (if (rs.length : Int) > s - 1 then (rs.length : Int) else s - 1) else 0) = roomOf rs s e := by
  obtain ⟨a, rfl⟩ : ∃ a : Nat, s = (a : Int) + 1 := ⟨(s - 1).toNat, by omega⟩
  unfold roomOf
  rw [roomSum_eq]
  have e1 : ((a : Int) + 1 - 1).toNat = a := by omega
  rw [e1]
  congr 1
  congr 1
  split <;> split <;> omega
theorem roomOf_none {rs : List Int} {s e : Int} (h : e < s) : roomOf rs s e = 0 := by
  unfold roomOf
  rw [show (e + 1 - s).toNat = 0 by omega]
  rfl
/-! reaching -/
inductive Reach (zs : List (Addr × Nat × Nat)) (a : Nat) : Nat → Prop where
  | one {z} (h : z ∈ zs) (e : z.2.1 = a) : Reach zs a z.2.2
  | step {c : Nat} {z} (r : Reach zs a c) (h : z ∈ zs) (e : z.2.1 = c) : Reach zs a z.2.2
/-- all that is found, closed, is all that is reached -/
theorem reach_all {zs : List (Addr × Nat × Nat)} {a : Nat} {fk : List Nat} (h1 : ∀ b ∈ succ zs a, b ∈ fk) (h2 : ∀ c ∈ fk, ∀ b ∈ succ zs c, b ∈ fk) : ∀ {b : Nat}, Reach zs a b → b ∈ fk := by
  intro b r
  induction r with
  | one h e => exact h1 _ (mem_succ.mpr ⟨_, h, e, rfl⟩)
  | step r h e ih => exact h2 _ ih _ (mem_succ.mpr ⟨_, h, e, rfl⟩)
/-! a dict of True -/
def tK (fk : List Nat) : List (Key × V) := fk.map fun (b : Nat) => (Sum.inl (b : Int), V.bl true)
theorem valV_tK (fk : List Nat) (b : Nat) : (valV (tK fk) (Sum.inl (b : Int))).isSome = decide (b ∈ fk) := by
  rw [← valV_any, Bool.eq_iff_iff, List.any_eq_true, decide_eq_true_iff]
  constructor
  · rintro ⟨p, hp, e⟩
    obtain ⟨c, hc, rfl⟩ := List.mem_map.mp hp
    have e2 : (Sum.inl (c : Int) : Key) = Sum.inl (b : Int) := of_decide_eq_true e
    have e3 : (c : Int) = (b : Int) := Sum.inl.inj e2
    rw [← Int.ofNat.inj e3]
    exact hc
  · intro h
    exact ⟨_, List.mem_map.mpr ⟨b, h, rfl⟩, decide_eq_true rfl⟩
theorem tK_put {fk : List Nat} {b : Nat} (h : ¬ b ∈ fk) : putK (tK fk) (Sum.inl (b : Int)) (.bl true) = tK (fk ++ [b]) := by
  have h2 : valV (tK fk) (Sum.inl (b : Int)) = none := by
    have := valV_tK fk b
    rw [decide_eq_false h] at this
    exact Option.isSome_eq_false_iff.mp this |> fun z => by simpa using z
  rw [putK_new _ h2]
  unfold tK
  rw [List.map_append]
  rfl
theorem tK_keys (fk : List Nat) : (tK fk).map (·.1) = (fk.map fun (b : Nat) => (b : Int)).map Sum.inl := by
  unfold tK
  rw [List.map_map, List.map_map]
  rfl
theorem tK_len (fk : List Nat) : (tK fk).length = fk.length := List.length_map ..

section
variable {P : Program} {w : World} {K : PySem.W.Frag} {mg : Str → Option Value} {base : Heap}

theorem Valid.acyc {fs : List Int} {ds : List (Option Int)} {zs : List (Addr × Nat × Nat)} {rs : List Int} (v : Valid fs ds zs rs) : Acyc zs := by
  obtain ⟨rk, h⟩ := v.rank
  exact ⟨rk, fun z hz => (h z hz).2.2⟩
theorem Valid.zlt {fs : List Int} {ds : List (Option Int)} {zs : List (Addr × Nat × Nat)} {rs : List Int} (v : Valid fs ds zs rs) : ∀ z ∈ zs, z.2.1 < fs.length ∧ z.2.2 < fs.length := by
  obtain ⟨rk, h⟩ := v.rank
  exact fun z hz => ⟨(h z hz).1, (h z hz).2.1⟩
theorem kd_oV {H : Hp} {ds : List (Option Int)} {i : Nat} {v : V} (h : (oV ds)[i]? = some v) : ∃ d, ds[i]? = some d ∧ ((d = none ∧ v = .non) ∨ ∃ x, d = some x ∧ v = .int x) := by
  unfold oV at h
  rw [List.getElem?_map] at h
  cases e : ds[i]? with
  | none =>
    rw [e] at h
    cases h
  | some d =>
    rw [e] at h
    refine ⟨d, rfl, ?_⟩
    cases d with
    | none => exact .inl ⟨rfl, (Option.some.inj h).symm⟩
    | some x => exact .inr ⟨x, rfl, (Option.some.inj h).symm⟩
def spIsJob : Sp := fun vs H Q _ => ∃ (J f d n r : Addr) (fs : List Int) (ds : List (Option Int)) (zs : List (Addr × Nat × Nat)) (rs : List Int), vs = [.ref J] ∧ JobAt H J f d n r fs ds zs rs ∧ Valid fs ds zs rs ∧ ∀ H', Same H H' → Q (.bl true) H'
theorem ok_is_job (T : Env K mg) : Ok P w K mg base CX0 dd_is_job "is_job" 6 ["thing"] spIsJob := by
  obtain ⟨fd_are_needs, D_are_needs, g_are_needs, k_are_needs, b_are_needs, G_are_needs⟩ := ok_are_needs (P := P) (w := w) (base := base) T
  obtain ⟨fd_is_hour, D_is_hour, g_is_hour, k_is_hour, b_is_hour, G_is_hour⟩ := ok_is_hour (P := P) (w := w) (base := base) T
  obtain ⟨fd_is_due, D_is_due, g_is_due, k_is_due, b_is_due, G_is_due⟩ := ok_is_due (P := P) (w := w) (base := base) T
  obtain ⟨fd_is_room, D_is_room, g_is_room, k_is_room, b_is_room, G_is_room⟩ := ok_is_room (P := P) (w := w) (base := base) T
  obtain ⟨fd, F⟩ := T.c.def_ 4 (d := dd_is_job) rfl
  refine ⟨fd, F, T.gl 4 _ rfl, F.kp, F.bindsN fun _ _ _ _ _ _ us hl => match us, hl with | [_], _ => rfl, ?_⟩
  refine F.ok sc_is_job (fun vs H Q E h => ?_) (fun cdv A outer s H vs Q E hr h => ?_)
  · obtain ⟨J, f, d, n, r, fs, ds, zs, rs, rfl, hJ, hv, q⟩ := h
    rfl
  · obtain ⟨J, f, d, n, r, fs, ds, zs, rs, rfl, hJ, hv, q⟩ := h
    refine ⟨_, PSs.nox (pss_cons (ps_if (PW.pt (pw_or (pt_not (pt_val (pe_callB call_isi (by rfl) (T.fr 34 _ rfl) (by decide +kernel) (pa_cons (pv 0) (pa_cons (pe_bltn (v := .ty "tuple") (by rfl) (T.fr 39 _ rfl) (by decide +kernel) rfl) pa_nil))))) (pw_or1 (pt_cmpR op_ne (pe_callB call_len_seq (by rfl) (T.fr 38 _ rfl) (by decide +kernel) (pa_cons (pv 0) pa_nil)) pe_int (nomark _))))) (pss_one (ps_ret pe_bl)) pss_nil)
      (pss_cons (ps_if (pt_not (pt_val (pe_callB (cr_all rfl) (by rfl) (T.fr 37 _ rfl) (by decide +kernel) (pa_cons (pe_lc (own := [("part", 5)]) (g := gName 5) (tt := tYes) (by rfl) sc_is_job.nd (pi_tup (pv 0)) (blkOk_by (own := [("part", 5)]) (N := N_is_job) (sc := defScope s_is_job) (by decide +kernel)) (fun _ _ _ _ _ => (pg_name (i := 5) sc_is_job.nd rfl (by first | exact Or.inl rfl | exact Or.inr rfl))) (fun _ _ _ _ _ => pts_nil) (fun _ _ _ _ _ => (pe_callB (r := rIsi K) call_isi (by rfl) (T.fr 34 _ rfl) (by decide +kernel) (pa_cons (pv 5) (pa_cons (pe_bltn (v := .ty "list") (by rfl) (T.fr 40 _ rfl) (by decide +kernel) rfl) pa_nil))))) pa_nil)))) (pss_one (ps_ret pe_bl)) pss_nil)
      (pss_cons (ps_asg (pv 0) (pg_tup rfl (pgs_cons (pg_name (i := 1) sc_is_job.nd rfl (Or.inl rfl)) (pgs_cons (pg_name (i := 2) sc_is_job.nd rfl (Or.inl rfl)) (pgs_cons (pg_name (i := 3) sc_is_job.nd rfl (Or.inl rfl)) (pgs_cons (pg_name (i := 4) sc_is_job.nd rfl (Or.inl rfl)) pgs_nil))))))
      (pss_cons (ps_if (pt_cmpR op_ne (pe_callB call_len_seq (by rfl) (T.fr 38 _ rfl) (by decide +kernel) (pa_cons (pv 2) pa_nil)) (pe_callB call_len_seq (by rfl) (T.fr 38 _ rfl) (by decide +kernel) (pa_cons (pv 1) pa_nil)) (nomark _)) (pss_one (ps_ret pe_bl)) pss_nil)
      (pss_one (ps_ret (pe_and (pe_callB (cr_all rfl) (by rfl) (T.fr 37 _ rfl) (by decide +kernel) (pa_cons (pe_lc (own := [("free", 6)]) (g := gName 6) (tt := tYes) (by rfl) sc_is_job.nd (pi_list (pv 1)) (blkOk_by (own := [("free", 6)]) (N := N_is_job) (sc := defScope s_is_job) (by decide +kernel)) (fun _ _ _ _ _ => (pg_name (i := 6) sc_is_job.nd rfl (by first | exact Or.inl rfl | exact Or.inr rfl))) (fun _ _ _ _ _ => pts_nil) (fun _ _ _ _ _ => (pe_call G_is_hour (hr.mono (by decide)) (by rfl) g_is_hour k_is_hour b_is_hour .nil pass0 (pa_cons (pv 6) pa_nil)))) pa_nil)) (pe_and (pe_callB (cr_all rfl) (by rfl) (T.fr 37 _ rfl) (by decide +kernel) (pa_cons (pe_lc (own := [("due", 7)]) (g := gName 7) (tt := tYes) (by rfl) sc_is_job.nd (pi_list (pv 2)) (blkOk_by (own := [("due", 7)]) (N := N_is_job) (sc := defScope s_is_job) (by decide +kernel)) (fun _ _ _ _ _ => (pg_name (i := 7) sc_is_job.nd rfl (by first | exact Or.inl rfl | exact Or.inr rfl))) (fun _ _ _ _ _ => pts_nil) (fun _ _ _ _ _ => (pe_call G_is_due (hr.mono (by decide)) (by rfl) g_is_due k_is_due b_is_due .nil pass0 (pa_cons (pv 7) pa_nil)))) pa_nil)) (pe_and (pe_call G_are_needs (hr.mono (by decide)) (by rfl) g_are_needs k_are_needs b_are_needs .nil pass0 (pa_cons (pe_callB call_len_seq (by rfl) (T.fr 38 _ rfl) (by decide +kernel) (pa_cons (pv 1) pa_nil)) (pa_cons (pv 3) pa_nil))) (pe_one (pe_callB (cr_all rfl) (by rfl) (T.fr 37 _ rfl) (by decide +kernel) (pa_cons (pe_lc (own := [("places", 8)]) (g := gName 8) (tt := tYes) (by rfl) sc_is_job.nd (pi_list (pv 4)) (blkOk_by (own := [("places", 8)]) (N := N_is_job) (sc := defScope s_is_job) (by decide +kernel)) (fun _ _ _ _ _ => (pg_name (i := 8) sc_is_job.nd rfl (by first | exact Or.inl rfl | exact Or.inr rfl))) (fun _ _ _ _ _ => pts_nil) (fun _ _ _ _ _ => (pe_call G_is_room (hr.mono (by decide)) (by rfl) g_is_room k_is_room b_is_room .nil pass0 (pa_cons (pv 8) pa_nil)))) pa_nil)))))))))))), ?_⟩
    walk_at "u"
    refine ⟨_, rfl, rIsi_of (b := true) (.tup hJ.top) (by decide +kernel) ⟨_, rfl, ?_⟩⟩
    refine iteF ⟨_, rfl, J, _, rfl, .inr (SqT.of hJ.top), rfl, _, rfl, iteF ?_⟩
    -- all parts are lists
    refine ⟨_, rfl, J, rfl, ⟨_, SqT.of hJ.top⟩, fun D nD => lc_tup (K := K) (a := J) (xs := [.ref f, .ref d, .ref n, .ref r]) (fun i H' => Same H H' ∧ H' D = some (.lst ((List.replicate i true).map V.bl))) ⟨same_upd nD, upd_same⟩ (fun i H' _ hP => SqT.of (hP.1 _ _ hJ.top)) (fun i v H' hv2 hP => ?_) (fun H' hP => ?_)⟩
    · obtain ⟨sm, hD⟩ := hP
      have hk : Kd H' v "list" := by
        have hj := hJ.same sm
        match i, hv2 with
        | 0, e => cases e; exact .lst hj.fr
        | 1, e => cases e; exact .lst hj.du
        | 2, e => cases e; exact .lst hj.ne.1
        | 3, e => cases e; exact .lst hj.ro
        | i + 4, e => simp at e
      have hi : i < 4 := (List.getElem?_eq_some_iff.mp hv2).1
      refine ⟨rfl, ?_⟩
      walk_at "u"
      refine iteT ⟨_, rfl, rIsi_of (b := true) hk (by decide +kernel) ⟨_, hD, ?_, same_mut sm nD, ?_⟩⟩
      · rw [List.length_map, List.length_replicate]
        exact small_lt (by omega)
      · rw [upd_same, ← bl_rep]
    obtain ⟨s1, hD⟩ := hP
    refine ⟨D, _, rfl, SqL.of hD, _, rfl, ?_⟩
    rw [all_rep]
    refine iteF ?_
    have j1 := hJ.same s1
    refine ⟨_, rfl, J, _, rfl, SqT.of j1.top, rfl, _, _, rfl, _, _, rfl, _, _, rfl, _, _, rfl, rfl, ?_⟩
    refine ⟨_, rfl, d, _, rfl, .inl (SqL.of j1.du), _, rfl, f, _, rfl, .inl (SqL.of j1.fr), rfl, _, rfl, ?_⟩
    rw [oV_len, iV_len, hv.dl]
    refine iteNS rfl ?_
    -- frees
    refine ⟨_, rfl, f, rfl, ⟨_, SqL.of j1.fr⟩, fun D1 nD1 => lc_list (K := K) (a := f) (xs := iV fs) (fun i H2 => Same H' H2 ∧ H2 D1 = some (.lst ((List.replicate i true).map V.bl))) ⟨same_upd nD1, upd_same⟩ (fun i H2 _ hP => SqL.of (hP.1 _ _ j1.fr)) (fun i v H2 hv2 hP => ?_) (fun H2 hP => ?_)⟩
    · obtain ⟨sm, hD1⟩ := hP
      obtain ⟨x, hx, rfl⟩ := iV_of hv2
      have hx1 := (hv.fv x (List.mem_of_getElem? hx)).1
      have hi := (List.getElem?_eq_some_iff.mp hx).1
      refine ⟨rfl, ?_⟩
      walk_at "u"
      refine iteT ⟨_, rfl, .int x, _, rfl, .int x, _, hD1, ?_, same_mut sm nD1, ?_⟩
      · rw [List.length_map, List.length_replicate]
        exact small_lt (by have := hv.fl; omega)
      · rw [show isWF 1 (.int x) = true from decide_eq_true hx1, upd_same, ← bl_rep]
    obtain ⟨s2, hD1⟩ := hP
    refine ⟨D1, _, rfl, SqL.of hD1, _, rfl, ?_⟩
    rw [all_rep]
    refine iteT ?_
    have j2 := j1.same s2
    -- dues
    refine ⟨_, rfl, d, rfl, ⟨_, SqL.of j2.du⟩, fun D2 nD2 => lc_list (K := K) (a := d) (xs := oV ds) (fun i H3 => Same H2 H3 ∧ H3 D2 = some (.lst ((List.replicate i true).map V.bl))) ⟨same_upd nD2, upd_same⟩ (fun i H3 _ hP => SqL.of (hP.1 _ _ j2.du)) (fun i v H3 hv2 hP => ?_) (fun H3 hP => ?_)⟩
    · obtain ⟨sm, hD2⟩ := hP
      obtain ⟨o, ho, hc⟩ := kd_oV (H := H) hv2
      have hi := (List.getElem?_eq_some_iff.mp ho).1
      have hkd : (∃ t, Kd H3 v t) ∧ isDue v = true := by
        rcases hc with ⟨_, rfl⟩ | ⟨x, rfl, rfl⟩
        · exact ⟨⟨_, .non⟩, rfl⟩
        · exact ⟨⟨_, .int x⟩, decide_eq_true (hv.dv x (List.mem_of_getElem? ho)).1⟩
      obtain ⟨⟨t, ht⟩, hd⟩ := hkd
      refine ⟨rfl, ?_⟩
      walk_at "u"
      refine iteT ⟨_, rfl, v, t, rfl, ht, _, hD2, ?_, same_mut sm nD2, ?_⟩
      · rw [List.length_map, List.length_replicate]
        exact small_lt (by have := hv.fl; have := hv.dl; omega)
      · rw [hd, upd_same, ← bl_rep]
    obtain ⟨s3, hD2⟩ := hP
    refine ⟨D2, _, rfl, SqL.of hD2, _, rfl, ?_⟩
    rw [all_rep]
    refine iteT ?_
    have j3 := j2.same s3
    refine ⟨_, rfl, f, _, rfl, .inl (SqL.of j3.fr), _, rfl, fs.length, n, zs, by rw [iV_len]; rfl, j3.ne, hv.zlt, by have := hv.fl; omega, by have := hv.zl; omega, hv.znd, hv.acyc, fun H4 s4 => ⟨true, rfl, iteT ?_⟩⟩
    have j4 := j3.same s4
    refine ⟨_, rfl, r, rfl, ⟨_, SqL.of j4.ro⟩, fun D3 nD3 => lc_list (K := K) (a := r) (xs := iV rs) (fun i H5 => Same H4 H5 ∧ H5 D3 = some (.lst ((List.replicate i true).map V.bl))) ⟨same_upd nD3, upd_same⟩ (fun i H5 _ hP => SqL.of (hP.1 _ _ j4.ro)) (fun i v H5 hv2 hP => ?_) (fun H5 hP => ?_)⟩
    · obtain ⟨sm, hD3⟩ := hP
      obtain ⟨x, hx, rfl⟩ := iV_of hv2
      have hx1 := hv.ro.val x (List.mem_of_getElem? hx)
      have hi := (List.getElem?_eq_some_iff.mp hx).1
      have hl := hv.ro.len
      refine ⟨rfl, ?_⟩
      walk_at "u"
      refine iteT ⟨_, rfl, .int x, _, rfl, .int x, _, hD3, ?_, same_mut sm nD3, ?_⟩
      · rw [List.length_map, List.length_replicate]
        exact small_lt (by omega)
      · have e1 : isRoom (.int x) = true := by
          show (decide (0 ≤ x) && decide (x ≤ 3)) = true
          rw [decide_eq_true hx1.1, decide_eq_true hx1.2]
          rfl
        rw [e1, upd_same, ← bl_rep]
    obtain ⟨s5, hD3⟩ := hP
    refine ⟨D3, _, rfl, SqL.of hD3, ?_⟩
    rw [all_rep]
    exact q H5 ((((s1.trans s2).trans s3).trans s4).trans s5)
def spCheckJob : Sp := fun vs H Q _ => ∃ (J f d n r : Addr) (fs : List Int) (ds : List (Option Int)) (zs : List (Addr × Nat × Nat)) (rs : List Int), vs = [.ref J] ∧ JobAt H J f d n r fs ds zs rs ∧ Valid fs ds zs rs ∧ ∀ H', Same H H' → Q .non H'
theorem ok_check_job (T : Env K mg) : Ok P w K mg base CX0 dd_check_job "check_job" 7 ["job"] spCheckJob := by
  obtain ⟨fd_is_job, D_is_job, g_is_job, k_is_job, b_is_job, G_is_job⟩ := ok_is_job (P := P) (w := w) (base := base) T
  obtain ⟨fd, F⟩ := T.c.def_ 11 (d := dd_check_job) rfl
  refine ⟨fd, F, T.gl 11 _ rfl, F.kp, F.bindsN fun _ _ _ _ _ _ us hl => match us, hl with | [_], _ => rfl, ?_⟩
  refine F.ok sc_check_job (fun vs H Q E h => ?_) (fun cdv A outer s H vs Q E hr h => ?_)
  · obtain ⟨J, f, d, n, r, fs, ds, zs, rs, rfl, hJ, hv, q⟩ := h
    rfl
  · obtain ⟨J, f, d, n, r, fs, ds, zs, rs, rfl, hJ, hv, q⟩ := h
    refine ⟨_, PSs.nox (pss_one (ps_if (pt_not (pt_val (pe_call G_is_job (hr.mono (by decide)) (by rfl) g_is_job k_is_job b_is_job .nil pass0 (pa_cons (pv 0) pa_nil)))) (pss_one ps_never) pss_nil)), ?_⟩
    walk_at "u"
    exact ⟨_, rfl, J, f, d, n, r, fs, ds, zs, rs, rfl, hJ, hv, fun H' s => ⟨_, rfl, iteF (q H' s)⟩⟩
def spCheckTask : Sp := fun vs H Q _ => ∃ (J f d n r : Addr) (fs : List Int) (t : Nat), vs = [.ref J, .int (t : Int)] ∧ H J = some (.tup [.ref f, .ref d, .ref n, .ref r]) ∧ H f = some (.lst (iV fs)) ∧ t < fs.length ∧ Q .non H
def spTasksBehind : Sp := fun vs H Q _ => ∃ (J f d n r : Addr) (fs : List Int) (zs : List (Addr × Nat × Nat)) (a : Nat), vs = [.ref J, .int (a : Int)] ∧ H J = some (.tup [.ref f, .ref d, .ref n, .ref r]) ∧ H f = some (.lst (iV fs)) ∧ NeedsAt H n zs ∧
  (∀ z ∈ zs, z.2.1 < fs.length ∧ z.2.2 < fs.length) ∧ fs.length < 64 ∧ zs.length ≤ 10000 ∧ a < fs.length ∧ ∀ (q : Addr) (ys : List Int) (H' : Hp), H q = none → Same H H' → H' q = some (.lst (iV ys)) → (∀ b : Nat, (b : Int) ∈ ys ↔ Reach zs a b) → Q (.ref q) H'
def spIsBehind : Sp := fun vs H Q _ => ∃ (J f d n r : Addr) (fs : List Int) (ds : List (Option Int)) (zs : List (Addr × Nat × Nat)) (rs : List Int) (a b : Nat), vs = [.ref J, .int (a : Int), .int (b : Int)] ∧ JobAt H J f d n r fs ds zs rs ∧ Valid fs ds zs rs ∧ fs.length < 64 ∧ a < fs.length ∧ b < fs.length ∧
  ∀ (c : Bool) (H' : Hp), Same H H' → (c = true ↔ Reach zs a b) → Q (.bl c) H'
def spRoomWithin (K : PySem.W.Frag) : Sp := fun vs H Q _ => ∃ (r : Addr) (rs : List Int) (s e : Int), vs = [.ref r, .int s, .int e] ∧ SqL K H r (iV rs) ∧ 1 ≤ s ∧ rs.length ≤ 10000 ∧ ∀ H', Same H H' → Q (.int (roomOf rs s e)) H'
theorem ok_room_within (T : Env K mg) : Ok P w K mg base CX0 dd_room_within "room_within" 1 ["rooms", "s", "e"] (spRoomWithin K) := by
  obtain ⟨fd, F⟩ := T.c.def_ 12 (d := dd_room_within) rfl
  refine ⟨fd, F, T.gl 12 _ rfl, F.kp, F.bindsN fun _ _ _ _ _ _ us hl => match us, hl with | [_, _, _], _ => rfl, ?_⟩
  refine F.ok sc_room_within (fun vs H Q E h => ?_) (fun cdv A outer s H vs Q E hr h => ?_)
  · obtain ⟨r, rs, s, e, rfl, hr', h1, hrl, q⟩ := h
    rfl
  · obtain ⟨r, rs, s, e, rfl, hr', h1, hrl, q⟩ := h
    refine ⟨_, PSs.nox (pss_cons (ps_if (pt_cmpR op_lt (pv 2) (pv 1) (nomark _)) (pss_one (ps_ret pe_int)) pss_nil)
      (pss_cons (ps_set (i := 3) sc_room_within.nd rfl (Or.inl rfl) (pe_callB (call_max2 rfl) (by rfl) (T.fr 43 _ rfl) (by decide +kernel) (pa_cons pe_int (pa_cons (pe_op op_sub (pv 2) (pe_callB (call_max2 rfl) (by rfl) (T.fr 43 _ rfl) (by decide +kernel) (pa_cons (pe_op op_sub (pv 1) pe_int) (pa_cons (pe_callB call_len_seq (by rfl) (T.fr 38 _ rfl) (by decide +kernel) (pa_cons (pv 0) pa_nil)) pa_nil)))) pa_nil))))
      (pss_one (ps_ret (pe_op op_add (pe_callB (cr_sum rfl) (by rfl) (T.fr 44 _ rfl) (by decide +kernel) (pa_cons (pe_slice sl_list (pv 0) (po_some (pe_op op_sub (pv 1) pe_int)) (po_some (pv 2))) pa_nil)) (pe_op op_mul (pe_glob (v := .int 2) (by rfl) (T.it 51 _ _ rfl).choose_spec ⟨_, rfl⟩) (pv 3))))))), ?_⟩
    walk_at "u"
    refine ⟨_, rfl, _, rfl, _, _, rfl, rfl, _, rfl, ifB (fun c => ?_) (fun c => ?_)⟩
    · rw [roomOf_none (of_decide_eq_true c)] at q
      exact q _ (Same.refl _)
    have h2 : s ≤ e := by
      have := of_decide_eq_false c
      omega
    refine ⟨_, rfl, _, rfl, _, _, rfl, rfl, _, rfl, r, _, rfl, .inl hr', _, _, rfl, _, _, rfl, rfl, _, _, rfl, ?_⟩
    rw [iV_len]
    refine ⟨_, rfl, _, rfl, _, _, rfl, rfl, _, rfl, _, rfl, _, rfl, r, _, rfl, hr', fun p np => ?_⟩
    rw [cut_sum h1 h2]
    refine ⟨p, _, rfl, SqL.of upd_same, _, rfl, _, _, rfl, rfl, .inl ⟨by decide, by decide⟩, _, _, rfl, rfl, ?_⟩
    rw [room_val h1 h2]
    exact q _ (same_upd np)
def spRoom (K : PySem.W.Frag) : Sp := fun vs H Q _ => ∃ (J f d n r : Addr) (fs : List Int) (ds : List (Option Int)) (zs : List (Addr × Nat × Nat)) (rs : List Int) (s e : Int), vs = [.ref J, .int s, .int e] ∧ JobAt H J f d n r fs ds zs rs ∧ Valid fs ds zs rs ∧ 1 ≤ s ∧ ∀ H', Same H H' → Q (.int (roomOf rs s e)) H'

end
/-! ### defs that are called where nothing is being shown: the guards are known -/
/-- a promise that is kept where no repr is under way -/
structure FnG (P : Program) (w : World) (K : PySem.W.Frag) (mg : Str → Option Value) (base : Heap) (CX : CXT) (k : Nat) (f : Addr) (fd : FuncData) (ps : List Str) (sp : Sp) : Prop where
  len : ∀ vs H Q E, sp vs H Q E → vs.length = ps.length
  run : ∀ (A : Around) (outer : List PySem.Env) (s : Shared) (H : Hp) (args : Args) (us : List Value) (vs : List V) (Q : VK) (E : XK),
    Room k A → A.guards = some [] → Env0 P w K mg base A outer s H → BindsTo s fd args (ps.zip us) → Vals vs us → sp vs H Q E → codeAny (model P w) A (.call (.ref f) args) (CR CX outer P w H s Q E) s
/-- THE RULE of such a def: its body, the guards told -/
theorem fnG_of {CX : CXT} {P : Program} {w : World} {K : PySem.W.Frag} {mg : Str → Option Value} {base : Heap} {k : Nat} {f : Addr} {name qual : Str} {params : Arguments} {body : List Stmt} {scope : Scope}
    {dV kV doc pm cdv ct oc : Value} {an od : Option Addr} {osl : Array (Option Value)} {N ps : List Str} {sp : Sp}
    (lk : K.lookup f = some ⟨oc, od, .func (PySem.W.fnOf name qual params body scope dV kV doc pm an cdv ct), osl⟩)
    (hcd : PySem.W.codeIn K cdv qual = true) (S : FnScope N ps scope) (len : ∀ vs H Q E, sp vs H Q E → vs.length = ps.length)
    (hbody : ∀ (A : Around) (outer : List PySem.Env) (s : Shared) (H : Hp) (vs : List V) (Q : VK) (E : XK),
      Room k (A.deeper (envOfC qual scope s.heap.objs.size f cdv)) → (A.deeper (envOfC qual scope s.heap.objs.size f cdv)).guards = some [] → sp vs H Q E →
      ∃ t, PSs (cxOf CX P w K mg base N qual scope f cdv A outer s H E) body t ∧ t { nx := fun _ H' => Q .non H', rt := Q } (start N vs) H) :
    FnG P w K mg base CX (k + 1) f (PySem.W.fnOf name qual params body scope dV kV doc pm an cdv ct) ps sp := by
  refine ⟨len, fun A outer s H args us vs Q E room guards e0 binds rel promise => ?_⟩
  have many := len _ _ _ _ promise
  have there : K.In s.heap := e0.mod.kin.keeps fun b o e => (e0.bs b o e).1
  have free : s.heap.NoLimit := e0.mod.nolimit.keeps fun b o e => (e0.bs b o e).1
  have kinds : ∀ y ∈ ps.zip us, scope.names.lookup y.1 = some .local ∨
      (scope.names.lookup y.1 = some .cell ∧ ((cellsFrom (s.heap.objs.size + 1) scope.names []).lookup y.1).isSome = true) := fun y hy => by
    rcases S.par y.1 (List.of_mem_zip (a := y.1) (b := y.2) hy).1 with z | z
    · exact .inl z
    · exact .inr ⟨z, PySem.W.cellsFrom_some _ _ _ (.inl z)⟩
  refine codeAny_call_function room.depth (there _ _ lk) rfl S.co S.gen rfl (PySem.W.codeRec_of there hcd) (binds _ _ _ _ ?_)
  refine wpAny_newFunctionEnv_cells S.kind kinds fun env henv s1 made => ?_
  subst henv
  refine ⟨free.keeps made.toInCall.keep, codeAny_func ?_⟩
  obtain ⟨t, reads, goal⟩ := hbody A outer s H vs Q E (room.deeper _) guards promise
  have inv := inv_start (CX := CX) (mg := mg) (base := base) (E := E) S room.hd e0 many rel made
  refine wpAny_mono (reads.run [] s1 (start N vs) H _ inv goal) (fun fl s' done => ?_) fun e s' done => done
  match fl, done with
  | .ret u, done =>
    obtain ⟨v, σ', H', J, rv, z⟩ := done
    exact ⟨v, H', J.os, J.bare, J.base, J.hok, rv, z⟩
  | .next, done =>
    obtain ⟨σ', H', J, z⟩ := done
    exact ⟨V.non, H', J.os, J.bare, J.base, J.hok, rfl, z⟩
  | .brk, done => exact done.choose_spec.choose_spec.2.elim
  | .cont, done => exact done.choose_spec.choose_spec.2.elim
theorem funD_okG {P : Program} {w : World} {K : PySem.W.Frag} {mg : Str → Option Value} {base : Heap} {x qual : Str} {params : Arguments} {body : List Stmt} {scope : Scope} {dvs : List V} {kws : List (Str × V)} {f : Addr} {fd : FuncData}
    {CX : CXT} {N ps : List Str} {k : Nat} {sp : Sp} (F : FunD K x qual params body scope dvs kws f fd) (S : FnScope N ps scope) (len : ∀ vs H Q E, sp vs H Q E → vs.length = ps.length)
    (hbody : ∀ (cdv : Value) (A : Around) (outer : List PySem.Env) (s : Shared) (H : Hp) (vs : List V) (Q : VK) (E : XK),
      Room k (A.deeper (envOfC qual scope s.heap.objs.size f cdv)) → (A.deeper (envOfC qual scope s.heap.objs.size f cdv)).guards = some [] → sp vs H Q E →
      ∃ t, PSs (cxOf CX P w K mg base N qual scope f cdv A outer s H E) body t ∧ t { nx := fun _ H' => Q .non H', rt := Q } (start N vs) H) : FnG P w K mg base CX (k + 1) f fd ps sp := by
  obtain ⟨oc, od, dV, kV, doc, pm, an, cdv, ct, osl, rfl, lk, hcd, _, _⟩ := F.ex
  exact fnG_of lk hcd S len fun A outer s H vs Q E room guards promise => hbody cdv A outer s H vs Q E room guards promise
/-- its call, by the def's name -/
theorem pe_callG {X : Cx} {CX : CXT} {k : Nat} {f : Addr} {fd : FuncData} {ps : List Str} {sp : Sp} {dvs : List V} {ds : List Value} {E : XK} {x : Str} {p pos : Pos} {e : Expr} {es : List Expr} {t : TA}
    (hgd : X.A.guards = some []) (F : FnG X.prog X.w X.K X.mg X.base CX k f fd ps sp) (hr : Room k X.A) (hg : Gl X x) (hm : X.mg x = some (.ref f)) (hk : PySem.W.keepIn X.K (.ref f) = true)
    (hb : Binds X.K fd ps ds) (hd : Vals dvs ds) (hx : Passes CX X E) (ha : PA X (e :: es) t) (hdb : (x == ("__debug__" : Str)) = false := by decide)
    (he : starEach (e :: es) X.env = (false, eval e X.env) :: starEach es X.env := by rfl) (hpl : (backTo pos (starEach es X.env)).any (·.1) = false := by rfl) :
    PE X (.Call (.Name x p) (e :: es) [] pos) (tCall sp dvs E t) := by
  refine ⟨fun pins s σ H Q I h => wpAny_Call_Name_kw (ld_glob I hg hm ?_ hdb)⟩
  refine PySem.W.callWith_K (h₀ := X.base) I.ok.mod.kin hk (thn (ha.run pos pins s σ H _ I h) fun us s1 ⟨vs, H1, J, rel, z⟩ => ⟨J.kIn, ?_⟩) he hpl
  have all : Vals (vs ++ dvs) (us ++ ds) := rel.append hd
  have many : (us ++ ds).length = ps.length := all.length.symm.trans (F.len _ _ _ _ z)
  refine wpAny_call (codeAny_mono (F.run X.A X.stack s1 H1 ⟨us, []⟩ (us ++ ds) (vs ++ dvs) Q E hr hgd J.env0 (hb s1 us J.kIn many) all z) fun r s' done => ?_)
  match r, done with
  | .error e, done => exact hx pins σ H1 s1 e s' J done
  | .ok (.ret u), done => exact J.after done
  | .ok .next, done => exact done.elim
  | .ok .brk, done => exact done.elim
  | .ok .cont, done => exact done.elim
/-- the law's call behind the top -/
theorem law_callG {P : Program} {w : World} {K : PySem.W.Frag} {mg mb : Str → Option Value} {CX : CXT} {k : Nat} {fa a : Addr} {fd : FuncData} {x : Str} {sp : Sp} {s₁ : Shared} {vs : List Value} {ns : List Int}
    (KX : K.In s₁.heap) (hns : s₁.heap.Ns mainGlobals mg) (hb : s₁.heap.Ns builtinsNs mb) (hbb : ∀ x : Str, x ≠ "__name__" → mb x = bootBuiltins x) (hlim : s₁.heap.NoLimit) (hg : s₁.gens = #[])
    (ha : s₁.heap.get? a = some { cls := .type "list", data := .seq vs.toArray }) (hi : IntsAre vs ns) (hl : ns.length ≤ sizeLine) (hr : Room k callerA)
    (F : ∀ base : Heap, K.In base → base.Ns mainGlobals mg → FnG P w K mg base CX k fa fd [x] sp) (hbind : ∀ (s : Shared) (u : Value), BindsTo s fd ⟨[u], []⟩ [(x, u)])
    (hsp : ∀ H : Hp, Only H → SqL K H a (ns.map V.int) → sp [.ref a] H (fun v _ => v = .bl true) fun _ _ _ => False) (hCX : ∀ H e s', CX [] H s₁ (fun _ _ _ => False) e s' → False) :
    codeAny (model P w) callerA (.call (.ref fa) ⟨[.ref a], []⟩) (fun r s' => r = .ok (.ret (.bool true)) ∧ OldK s₁.heap s'.heap ∧ s'.os = s₁.os ∧ AllBare s'.gens) s₁ := by
  have rel := vals_ints hi
  have size := hi.length
  have core : ∀ H : Hp, Only H → SqL K H a (ns.map V.int) → HOk P w H s₁.heap → (∀ b u, H b = some u → b = a ∧ K.lookup a = none) →
      codeAny (model P w) callerA (.call (.ref fa) ⟨[.ref a], []⟩) (fun r s' => r = .ok (.ret (.bool true)) ∧ OldK s₁.heap s'.heap ∧ s'.os = s₁.os ∧ AllBare s'.gens) s₁ := by
    intro H only seq held none_but
    have free : ∀ {b : Addr} {o : Obj} {es : Array DictEntry} {ep : Nat}, s₁.heap.get? b = some o → o.data = .dict es ep → H b = none := fun {b o es ep} there isDict => by
      cases tracked : H b with
      | none => rfl
      | some u =>
        obtain ⟨same, _⟩ := none_but b u tracked
        rw [same, ha] at there
        cases there
        exact nomatch (show Data.seq vs.toArray _ = Data.dict es ep from isDict)
    have names : ∀ {b : Addr} {m : Str → Option Value}, s₁.heap.Ns b m → (hidT s₁.heap H).Ns b m := fun ⟨o, es, ep, there, isDict, rest⟩ =>
      ⟨o, es, ep, hidT_get there (free there isDict), isDict, rest⟩
    have written : K.In (hidT s₁.heap H) := fun b o known => hidT_get (KX b o known) (by
      cases tracked : H b with
      | none => rfl
      | some u =>
        obtain ⟨same, unknown⟩ := none_but b u tracked
        rw [same, unknown] at known
        cases known)
    obtain ⟨mc, lim1, lim2⟩ := hlim
    have enters : Env0 P w K mg (hidT s₁.heap H) callerA [] s₁ H :=
      ⟨rfl, ⟨written, names hns, ⟨mb, names hb, hbb⟩, ⟨mc, names lim1, lim2⟩⟩, fun b o e => of_hidT e, Nat.le_of_eq (hidT_size _ _), trivial, fun b z => (nomatch (show b ∈ ([] : List Addr) from z)), held, .of_eq hg⟩
    have runs := (F _ written (names hns)).run callerA [] s₁ H ⟨[.ref a], []⟩ [.ref a] [.ref a] _ _ hr rfl enters (hbind s₁ (.ref a)) (.cons rfl .nil) (hsp H only seq)
    refine codeAny_mono runs fun r s' done => ?_
    match r, done with
    | .error e, done => exact (hCX H e s' done).elim
    | .ok .next, done => exact done.elim
    | .ok .brk, done => exact done.elim
    | .ok .cont, done => exact done.elim
    | .ok (.ret u), done =>
      obtain ⟨v, H', osSame, bare, un, held', told, isTrue⟩ := done
      have isTrue : v = .bl true := isTrue
      subst isTrue
      obtain rfl : u = Value.bool true := told
      refine ⟨rfl, OldK.of_keep fun b o there => ?_, osSame, bare⟩
      cases tracked : H b with
      | none => exact un.keep b o there tracked (fun z => nomatch (show b ∈ ([] : List Addr) from z)) (fun z => nomatch z)
      | some u =>
        rcases only b with z | ⟨ob, xs, z⟩
        · rw [tracked] at z
          cases z
        · have first := (held b _ z).1
          rw [there] at first
          cases first
          exact (held' b _ (un.frzs b _ _ z)).1
  cases known : K.lookup a with
  | some o =>
    have there := KX a o known
    rw [ha] at there
    cases there
    exact core (fun _ => none) (fun _ => .inl rfl) (.inr ⟨_, vs.toArray, _, known, rfl, rfl, rfl, by rw [List.size_toArray, size]; exact hl, by simpa using rel⟩)
      (fun b u z => nomatch (show (none : Option HO) = some u from z)) fun b u z => nomatch (show (none : Option HO) = some u from z)
  | none =>
    refine core (fun b => if b = a then some (.frz { cls := .type "list", data := .seq vs.toArray } (.lst (ns.map V.int))) else none)
      (fun b => ?_) (.inl (.inr ⟨{ cls := .type "list", data := .seq vs.toArray }, if_pos rfl⟩)) (fun b u z => ?_) (fun b u z => ?_)
    · by_cases same : b = a
      · exact .inr ⟨_, _, if_pos same⟩
      · exact .inl (if_neg same)
    · by_cases same : b = a
      · have z' := (if_pos same).symm.trans z
        cases z'
        subst same
        exact ⟨ha, by rw [List.length_map]; exact hl, vs, _, rel, ha⟩
      · exact nomatch (if_neg same).symm.trans z
    · by_cases same : b = a
      · exact ⟨same, known⟩
      · exact nomatch (if_neg same).symm.trans z
/-- the law's walk, by a promise that wants the guards -/
theorem walk_ofG {l : PySem.W.OpenLaw} {n k : Nat} {q : Program} {loose : List Str} {XP : (Str → Option Value) → Heap → Prop} {YP : World → Heap → Prop} {d : DefRec} {CX : CXT} {x : Str}
    (hn : l.most = some n) (hn2 : n ≤ sizeLine) (hdf : d.params.defaults = []) (hr : Room k callerA)
    (F : ∀ (w : World) (mg : Str → Option Value) (fa : Addr) (h : Heap), YP w h → h.Ns mainGlobals mg → mg d.name = some (.ref fa) → ∃ (K : PySem.W.Frag) (fd : FuncData) (sp : Sp), K.In h ∧
      (∀ (s : Shared) (u : Value), BindsTo s fd ⟨[u], []⟩ [(x, u)]) ∧ (∀ (H : Hp) (a : Addr) (ns : List Int), ns.length ≤ n → Only H → SqL K H a (ns.map V.int) → sp [.ref a] H (fun v _ => v = .bl true) fun _ _ _ => False) ∧
      ∀ base : Heap, K.In base → base.Ns mainGlobals mg → FnG l.prog w K mg base CX k fa fd [x] sp)
    (hCX : ∀ (H : Hp) (s : Shared) (e : Value) (s' : Shared), CX [] H s (fun _ _ _ => False) e s' → False) : PySem.W.WalkO q loose XP YP l.row.toRowW d [] (fun f vs => PySem.call f vs) := by
  refine Att.attach_call hn hdf fun w s₀ s₁ mg mb fa o pm cd doc a vs ns G says ho hd hcd named there numbers short noGens => ?_
  obtain ⟨K, fd, sp, KX, binds, promise, keeps⟩ := F w mg fa _ says G.T.g named
  exact law_callG KX G.T.g G.T.b G.T.builtins G.T.nolimit noGens there numbers (Nat.le_trans short hn2) hr keeps binds (fun H only seq => promise H a ns short only seq) fun H e s' => hCX H s₁ e s'
/-! ### str, repr of data -/
def rShow (K : PySem.W.Frag) : List V → Hp → VK → Prop := fun xs H Q => ∃ (a : Addr) (d : PyData), xs = [.ref a] ∧ Dp K H (.ref a) d ∧ d.showable = true ∧ d.hasDict = false ∧ d.depth ≤ 40 ∧ d.shown.length ≤ sizeLine ∧ Q (.str d.shown) H
theorem call_str_data {X : Cx} (hgd : X.A.guards = some []) (hu : X.A.units + 64 < cLine) : CallR X (.type "str") (rShow X.K) := by
  intro pins s σ H xs us Q I r h
  obtain ⟨a, d, rfl, hd, hs, hn, hdep, hsz, q⟩ := h
  obtain ⟨u, rfl, ru⟩ := vals1 r
  obtain ⟨as, rd⟩ := Dp.reads I d _ u hd ru
  cases ru
  refine str_of_reads rd hs (PyData.noDict_hsm hn) hgd (by omega) (fun _ _ e => e) (fun h' t tk keep => ?_) hsz
  exact ⟨.str d.shown, H, I.kept (h' := h') (t' := tk) keep, ⟨t, rfl⟩, q⟩
theorem call_repr_data {X : Cx} (hgd : X.A.guards = some []) (hu : X.A.units + 64 < cLine) : CallR X (.builtin "repr") (rShow X.K) := by
  intro pins s σ H xs us Q I r h
  obtain ⟨a, d, rfl, hd, hs, hn, hdep, hsz, q⟩ := h
  obtain ⟨u, rfl, ru⟩ := vals1 r
  obtain ⟨as, rd⟩ := Dp.reads I d _ u hd ru
  cases ru
  refine repr_of_reads' rd hs (PyData.noDict_hsm hn) hgd (by omega) (fun _ _ e => e) (fun h' t tk keep => ?_) hsz
  exact ⟨.str d.shown, H, I.kept (h' := h') (t' := tk) keep, ⟨t, rfl⟩, q⟩
/-! ### small data -/
structure Sm (wt dp : Nat) (d : PyData) : Prop where
  can : d.canLay0 = true
  short : d.intsShort 13 = true
  show_ : d.showable = true
  dict : d.hasDict = false
  dep : d.depth ≤ dp
  wt : d.weight ≤ wt
theorem Sm.len {wt dp : Nat} {d : PyData} (h : Sm wt dp d) : d.shown.length ≤ 15 * wt + 13 := by
  have h1 := PyData.shown_le 13 (by decide) d (PyData.leavesShort_of_canLay0 13 d h.can h.short)
  have h2 : (13 + 2) * d.weight ≤ 15 * wt := Nat.mul_le_mul_left 15 h.wt
  omega
theorem sm_none : Sm 0 0 .none := ⟨rfl, rfl, rfl, rfl, Nat.le_refl _, Nat.le_refl _⟩
theorem sm_int {i : Int} (h1 : -1000000 ≤ i) (h2 : i ≤ 1000000) : Sm 21 0 (.int i) := by
  have hb : i.natAbs < 2 ^ 20 := by omega
  have hl : i.natAbs.log2 < 20 := PySem.Flt.log2_lt_of (by decide) hb
  refine ⟨rfl, ?_, decide_eq_true (by omega), rfl, Nat.le_refl _, ?_⟩
  · refine PyProof.Rows.intsShort_of_noneOrIn (lo := -1000001) (hi := 1000001) (by decide) (by decide) (.int i) ?_
    show (decide (-1000001 < i) && decide (i < 1000001)) = true
    rw [decide_eq_true (by omega : -1000001 < i), decide_eq_true (by omega : i < 1000001)]
    rfl
  · show (if i == 0 then 0 else i.natAbs.log2 + 1) ≤ 21
    split <;> omega
theorem sm_all {wt dp : Nat} : ∀ {ds : List PyData}, (∀ d ∈ ds, Sm wt dp d) → PyData.canLayAll0 ds = true ∧ PyData.intsShortAll 13 ds = true ∧ PyData.showableAll ds = true ∧ PyData.hasDictAll ds = false ∧ PyData.depthAll ds ≤ dp ∧ PyData.weightAll ds ≤ (wt + 1) * ds.length
  | [], _ => ⟨rfl, rfl, rfl, rfl, Nat.zero_le _, Nat.zero_le _⟩
  | d :: ds, h => by
    have hd := h d (List.mem_cons_self ..)
    obtain ⟨a1, a2, a3, a4, a5, a6⟩ := sm_all (ds := ds) fun x hx => h x (List.mem_cons_of_mem _ hx)
    refine ⟨?_, ?_, ?_, ?_, ?_, ?_⟩
    · show (PyData.canLay0 d && PyData.canLayAll0 ds) = true
      rw [hd.can, a1]
      rfl
    · show (PyData.intsShort 13 d && PyData.intsShortAll 13 ds) = true
      rw [hd.short, a2]
      rfl
    · show (PyData.showable d && PyData.showableAll ds) = true
      rw [hd.show_, a3]
      rfl
    · show (PyData.hasDict d || PyData.hasDictAll ds) = false
      rw [hd.dict, a4]
      rfl
    · show max (PyData.depth d) (PyData.depthAll ds) ≤ dp
      exact Nat.max_le.mpr ⟨hd.dep, a5⟩
    · show PyData.weight d + 1 + PyData.weightAll ds ≤ _
      have := hd.wt
      rw [List.length_cons, Nat.mul_succ]
      omega
theorem sm_list {wt dp : Nat} {ds : List PyData} (h : ∀ d ∈ ds, Sm wt dp d) : Sm ((wt + 1) * ds.length) (dp + 1) (.list ds) := by
  obtain ⟨a1, a2, a3, a4, a5, a6⟩ := sm_all h
  exact ⟨a1, a2, a3, a4, Nat.succ_le_succ a5, a6⟩
theorem sm_tup {wt dp : Nat} {ds : List PyData} (h : ∀ d ∈ ds, Sm wt dp d) : Sm ((wt + 1) * ds.length) (dp + 1) (.tuple ds) := by
  obtain ⟨a1, a2, a3, a4, a5, a6⟩ := sm_all h
  exact ⟨a1, a2, a3, a4, Nat.succ_le_succ a5, a6⟩
theorem Sm.mono {wt dp wt' dp' : Nat} {d : PyData} (h : Sm wt dp d) (h1 : wt ≤ wt') (h2 : dp ≤ dp') : Sm wt' dp' d := ⟨h.can, h.short, h.show_, h.dict, Nat.le_trans h.dep h2, Nat.le_trans h.wt h1⟩
/-! ### a job as data -/
def oD : Option Int → PyData
  | none => .none
  | some i => .int i
def zD (z : Addr × Nat × Nat) : PyData := .tuple [.int (z.2.1 : Int), .int (z.2.2 : Int)]
def jobD (fs : List Int) (ds : List (Option Int)) (zs : List (Addr × Nat × Nat)) (rs : List Int) : PyData := .tuple [.list (fs.map .int), .list (ds.map oD), .list (zs.map zD), .list (rs.map .int)]
theorem dpAll_iV {K : PySem.W.Frag} {H : Hp} : ∀ is : List Int, DpAll K H (iV is) (is.map .int)
  | [] => .nil
  | i :: r => .cons (.int i) (dpAll_iV r)
theorem dpAll_oV {K : PySem.W.Frag} {H : Hp} : ∀ is : List (Option Int), DpAll K H (oV is) (is.map oD)
  | [] => .nil
  | none :: r => .cons .non (dpAll_oV r)
  | some i :: r => .cons (.int i) (dpAll_oV r)
theorem dpAll_zs {K : PySem.W.Frag} {H : Hp} : ∀ {zs : List (Addr × Nat × Nat)}, (∀ z ∈ zs, H z.1 = some (.tup [.int (z.2.1 : Int), .int (z.2.2 : Int)])) → DpAll K H (zs.map fun z => V.ref z.1) (zs.map zD)
  | [], _ => .nil
  | z :: r, h => .cons (.tup (SqT.of (h z (List.mem_cons_self ..))) (.cons (.int _) (.cons (.int _) .nil))) (dpAll_zs fun y hy => h y (List.mem_cons_of_mem _ hy))
theorem JobAt.dp {K : PySem.W.Frag} {H : Hp} {J f d n r : Addr} {fs : List Int} {ds : List (Option Int)} {zs : List (Addr × Nat × Nat)} {rs : List Int} (j : JobAt H J f d n r fs ds zs rs) : Dp K H (.ref J) (jobD fs ds zs rs) :=
  .tup (SqT.of j.top) (.cons (.lst (SqL.of j.fr) (dpAll_iV fs)) (.cons (.lst (SqL.of j.du) (dpAll_oV ds)) (.cons (.lst (SqL.of j.ne.1) (dpAll_zs j.ne.2)) (.cons (.lst (SqL.of j.ro) (dpAll_iV rs)) .nil))))
theorem Valid.sm {fs : List Int} {ds : List (Option Int)} {zs : List (Addr × Nat × Nat)} {rs : List Int} (v : Valid fs ds zs rs) : Sm 30000 3 (jobD fs ds zs rs) := by
  have hl := v.fl
  have hf : Sm 3000 1 (.list (fs.map .int)) := (sm_list (wt := 21) (dp := 0) fun x hx => by
    obtain ⟨i, hi, rfl⟩ := List.mem_map.mp hx
    have := v.fv i hi
    exact sm_int (by omega) (by omega)).mono (by rw [List.length_map]; omega) (by omega)
  have hd : Sm 3000 1 (.list (ds.map oD)) := (sm_list (wt := 21) (dp := 0) fun x hx => by
    obtain ⟨o, ho, rfl⟩ := List.mem_map.mp hx
    cases o with
    | none => exact (show Sm 0 0 (oD none) from sm_none).mono (by omega) (by omega)
    | some i =>
      have := v.dv i ho
      show Sm 21 0 (.int i)
      exact sm_int (by omega) (by omega)).mono (by rw [List.length_map, v.dl]; omega) (by omega)
  have hz : Sm 3000 2 (.list (zs.map zD)) := (sm_list (wt := 44) (dp := 1) fun x hx => by
    obtain ⟨z, hz, rfl⟩ := List.mem_map.mp hx
    have h2 : z.2.1 < fs.length ∧ z.2.2 < fs.length := by
      obtain ⟨rk, h⟩ := v.rank
      exact ⟨(h z hz).1, (h z hz).2.1⟩
    refine (sm_tup (wt := 21) (dp := 0) (ds := [.int (z.2.1 : Int), .int (z.2.2 : Int)]) fun y hy => ?_).mono (by show 22 * 2 ≤ 44; decide) (by omega)
    rcases List.mem_cons.mp hy with e | hy
    · subst e
      exact sm_int (by omega) (by omega)
    · have e := List.mem_singleton.mp hy
      subst e
      exact sm_int (by omega) (by omega)).mono (by rw [List.length_map]; have := v.zl; omega) (by omega)
  have hr : Sm 3000 1 (.list (rs.map .int)) := (sm_list (wt := 21) (dp := 0) fun x hx => by
    obtain ⟨i, hi, rfl⟩ := List.mem_map.mp hx
    have := v.ro.val i hi
    exact sm_int (by omega) (by omega)).mono (by rw [List.length_map]; have := v.ro.len; omega) (by omega)
  refine (sm_tup (wt := 3000) (dp := 2) (ds := [.list (fs.map .int), .list (ds.map oD), .list (zs.map zD), .list (rs.map .int)]) fun y hy => ?_).mono (by show 3001 * 4 ≤ 30000; decide) (by omega)
  rcases List.mem_cons.mp hy with e | hy
  · subst e
    exact hf.mono (by omega) (by omega)
  rcases List.mem_cons.mp hy with e | hy
  · subst e
    exact hd.mono (by omega) (by omega)
  rcases List.mem_cons.mp hy with e | hy
  · subst e
    exact hz.mono (by omega) (by omega)
  · have e := List.mem_singleton.mp hy
    subst e
    exact hr.mono (by omega) (by omega)

/-- the same of a def that wants the guards -/
def OkG (P : Program) (w : World) (K : PySem.W.Frag) (mg : Str → Option Value) (base : Heap) (CX : CXT) (D : He.DefD) (x : Str) (k : Nat) (ps : List Str) (sp : Sp) : Prop :=
  ∃ fd : FuncData, FunD K D.name D.qual D.params D.body D.scope (D.dvs K) (D.kws K) (He.fAd K D.at_) fd ∧ mg x = some (.ref (He.ga K x)) ∧ PySem.W.keepIn K (.ref (He.ga K x)) = true ∧ Binds K fd ps [] ∧ FnG P w K mg base CX k (He.ga K x) fd ps sp
/-! ### keywords -/
theorem vals_getD {zs : List V} {ws : List Value} (r : Vals zs ws) (i : Nat) : RelV (zs.getD i .non) (ws.getD i .none) := by
  rw [List.getD_eq_getElem?_getD, List.getD_eq_getElem?_getD]
  cases e : zs[i]? with
  | none =>
    rw [Vals.none_of r e]
    rfl
  | some v =>
    obtain ⟨u, e2, h⟩ := r.get e
    rw [e2]
    exact h
theorem vals_perm {zs : List V} {ws : List Value} (r : Vals zs ws) : ∀ perm : List Nat, Vals (perm.map fun i => zs.getD i .non) (perm.map fun i => ws.getD i .none)
  | [] => .nil
  | i :: p => .cons (vals_getD r i) (vals_perm r p)
/-- the first n values by position, the others by their names ks, in the order perm -/
theorem kbn_of {K : PySem.W.Frag} {x qual : Str} {params : Arguments} {body : List Stmt} {scope : Scope} {kws : List (Str × V)} {f : Addr} {fd : FuncData} (F : FunD K x qual params body scope [] kws f fd) (ps : List Str) (n : Nat) (ks : List Str) (perm : List Nat)
    (h : ∀ (kV doc pm : Value) (an : Option Addr) (cdv ct : Value) (us ws : List Value), us.length = n → ws.length = ks.length →
      bindArgs (PySem.W.fnOf x qual params body scope .none kV doc pm an cdv ct) ⟨us, ks.zip ws⟩ = pure (ps.zip (us ++ perm.map fun i => ws.getD i .none))) :
    KBn K fd ps n ks (fun us ws => us ++ perm.map fun i => ws.getD i .none) (fun vs zs => vs ++ perm.map fun i => zs.getD i .non) := by
  obtain ⟨oc, od, dV, kV, doc, pm, an, cdv, ct, osl, rfl, lk, hcd, hD, hK⟩ := F.ex
  rcases hD with ⟨_, rfl⟩ | ⟨e, _⟩
  · exact ⟨fun s us ws X h1 h2 => .of_eq (h kV doc pm an cdv ct us ws h1 h2), fun r1 r2 => r1.append (vals_perm r2 perm)⟩
  · exact absurd rfl e


/-! ### an exception that is kept in a variable -/
/-- the exception of the class cls that stands at a -/
def ExT (cls : Value) (d : Option Addr) (a : Addr) : HO := .ext fun h => ∃ (oe : Obj) (vs : Array Value), h.get? a = some oe ∧ Zc cls d oe ∧ oe.data = .fields vs
theorem exT_ok {P : Program} {w : World} {H : Hp} {h : Heap} {a : Addr} {cls : Value} {d : Option Addr} {oe : Obj} {vs : Array Value} (e : h.get? a = some oe) (z : Zc cls d oe) (f : oe.data = .fields vs) : ObjOk P w H h a (ExT cls d a) :=
  ⟨⟨oe, vs, e, z, f⟩, ⟨oe, e⟩, fun _ _ ⟨o, v, q, r⟩ k => ⟨o, v, k o q, r⟩⟩
/-- an object that is there, untracked, and was not there at the entry, is tracked from now on -/
theorem inv_track {X : Cx} {pins : List (Addr × Obj)} {σ : L2.St} {H : Hp} {s : Shared} {a : Addr} {o : HO} {oe : Obj} {vs : Array Value} (I : L2.Inv X pins σ H s) (there : s.heap.get? a = some oe) (f : oe.data = .fields vs)
    (none_ : H a = none) (fresh : X.s_0.heap.get? a = none) (notL : a ≠ X.env.locals) (notP : ∀ p ∈ X.pn ++ pins, p.1 ≠ a) (ok : ObjOk X.prog X.w (upd H a o) s.heap a o) : L2.Inv X pins σ (upd H a o) s := by
  have old : ∀ {b : Addr} {u : Obj}, X.s_0.heap.get? b = some u → b ≠ a := fun {b u} e z => by
    rw [z, fresh] at e
    cases e
  have cells : ∀ {x : Str} {c : Addr}, X.env.cells.lookup x = some c → c ≠ a := fun {x c} e z => by
    obtain ⟨v, oc, h1, h2⟩ := I.cell x c e
    rw [z, there] at h1
    cases h1
    rw [f] at h2
    cases h2
  refine ⟨I.ok, I.os, I.bare, ⟨I.base.keep, I.base.slot, fun b u e n hx => ?_, I.base.there, fun b xs q => ?_, fun b u v q => ?_, fun b ps q => ?_⟩, I.loc, I.cell, ?_, fun x c e => ?_, fun p hp => ?_, fun b u e => ?_, I.len⟩
  · rw [upd_ne (old e)]
    exact I.base.free b u e n hx
  · have q2 := I.base.tups b xs q
    rw [upd_ne (ne_of_none q2 none_)]
    exact q2
  · have q2 := I.base.frzs b u v q
    rw [upd_ne (ne_of_none q2 none_)]
    exact q2
  · obtain ⟨more, q2⟩ := I.base.tbls b ps q
    exact ⟨more, by rw [upd_ne (ne_of_none q2 none_)]; exact q2⟩
  · rw [upd_ne notL.symm]
    exact I.free
  · rw [upd_ne (cells e)]
    exact I.freeC x c e
  · obtain ⟨p1, p2, p3⟩ := I.pin p hp
    exact ⟨p1, by rw [upd_ne (notP p hp)]; exact p2, p3⟩
  · by_cases same : b = a
    · subst same
      rw [upd_same] at e
      cases e
      exact ok
    · rw [upd_ne same] at e
      exact (I.hok b u e).stay (fun _ _ _ q => q) (fun c q => by rw [upd_ne (ne_of_none q none_)]; exact q) fun c xs q => by rw [upd_ne (ne_of_none q none_)]; exact q
/-- what is wished at a try whose except clause keeps the exception: behind the suite it is tracked -/
def wKeep (K : PySem.W.Frag) (c : Value) (i : Nat) (ts : Addr → Value → Option Addr → TS) (Wout : WX) (D : Ends) : WX := fun cls d σ H =>
  ∃ b, PySem.W.exmOne K cls c = some b ∧ (b = true → ∀ a, H a = none → ts a cls d
    { nx := fun σ' H' => H' a = none → D.nx (σ'.set i none) (upd H' a (ExT cls d a)), rt := fun v H' => H' a = none → D.rt v (upd H' a (ExT cls d a)),
      bk := fun σ' H' => H' a = none → D.bk (σ'.set i none) (upd H' a (ExT cls d a)), ct := fun σ' H' => H' a = none → D.ct (σ'.set i none) (upd H' a (ExT cls d a)) } (σ.set i (some (.ref a))) H) ∧ (b = false → Wout cls d σ H)
theorem ps_try_keep {X : Cx} {x n : Str} {c : Value} {i : Nat} {body suite : List Stmt} {b₀ : Stmt} {np pos pos' : Pos} {tb : WX → TS} {ts : Addr → Value → Option Addr → TS} {Wout : WX}
    (hs : X.stack = X.env :: X.outer) (hf : X.env.frame = some X.env.locals) (hex : X.ex = []) (hN : X.N.Nodup) (hi : X.N[i]? = some n) (hln : X.env.kindOf n = some .local) (hc : Names X x c) (tk : Takes X Wout)
    (hb : ∀ (W : WX) (pn : List (Addr × Obj)) (xe : Value → Shared → Prop), Takes (X.tr pn xe) W → PassesOwn (model X.prog X.w) X.A X.env xe → PSs (X.tr pn xe) body (tb W))
    (hsu : ∀ (a : Addr) (oe : Obj) (cls : Value) (d : Option Addr) (pn : List (Addr × Obj)), Zc cls d oe → (∃ vs, oe.data = .fields vs) → PSs (X.suite a ((a, oe) :: pn)) (b₀ :: suite) (ts a cls d)) :
    PS X (.Try body [.ExceptHandler (some (.Name x np)) (some n) (b₀ :: suite) pos'] [] [] pos) (fun D σ H => tb (wKeep X.K c i ts Wout D) D σ H) := by
  refine ⟨fun pins s σ H D I h => ?_⟩
  have ok := I.ok
  have frames : X.A.frames = some (X.env :: X.outer) := by rw [ok.frames, hs]
  refine wpAny_Try_except ?_
  let xe1 : Value → Shared → Prop := fun e s₁ => wpAny (model X.prog X.w) X.A (noteFrame e X.env)
    (fun _ s₂ => wpAny (model X.prog X.w) X.A (setFlight e none) (fun _ s₃ => wpAny (model X.prog X.w) X.A
      (handleBy e X.env [.ExceptHandler (some (.Name x np)) (some n) (b₀ :: suite) pos']) (SP X pins D) X.xe s₃) X.xe s₂) X.xe s₁
  refine wpAny_mono ((hb (wKeep X.K c i ts Wout D) (X.pn ++ pins) xe1 (fun u s' air => ?_) PassesOwn.looking).run [] s σ H D (I.toTry _) h) (fun f s1 done => ?_) (fun e s1 he => he)
  · obtain ⟨a, B, sI, pins', σ', H', cls, d, rfl, JT, nb, up, sky, na, os, ag, b, asked, yes, no⟩ := air
    have J : L2.Inv X pins σ' H' sI := JT.ofTry ok
    have sky' : Sky B (X.env :: X.outer) a (Zc cls d) X.env.locals s'.heap := by
      rw [← hs]
      exact sky
    show wpAny (model X.prog X.w) X.A (noteFrame (.ref a) X.env) _ _ _
    refine Sky.land Zc.steady frames hf sky' fun h3 fl3 up3 => ?_
    have J3 : L2.Inv X pins σ' H' { s' with heap := h3 } := J.landed nb fl3.1 (up.trans up3) os ag
    obtain ⟨oe3, vs3, he3, hz3, hd3⟩ := fl3.there
    have notFrame : a ∉ frs (X.env :: X.outer) := fun hm => by
      obtain ⟨_, o', e', other⟩ := fl3.2.2.1.mem hm
      rw [he3] at e'
      cases e'
      exact other _ hd3
    have notL : a ≠ X.env.locals := fun z => notFrame (List.mem_filterMap.mpr ⟨X.env, List.mem_cons_self, by rw [hf, z]⟩)
    have notF : a ∉ X.fs := fun hm => by
      obtain ⟨e, he, q⟩ := List.mem_filterMap.mp hm
      exact notFrame (List.mem_filterMap.mpr ⟨e, List.mem_cons_of_mem _ he, q⟩)
    have freshI : sI.heap.get? a = none := by
      cases q : sI.heap.get? a with
      | none => rfl
      | some o =>
        have z := nb a o q (by rw [hs]; exact notFrame)
        rw [fl3.2.1] at z
        cases z
    have fresh : X.s_0.heap.get? a = none := by
      cases q : X.s_0.heap.get? a with
      | none => rfl
      | some o =>
        obtain ⟨o', z⟩ := J.base.there a o q (by rw [hex]; exact fun z => nomatch z)
        rw [freshI] at z
        cases z
    have notP : ∀ p ∈ X.pn ++ pins, p.1 ≠ a := fun p hp z => by
      have q := (J.pin p hp).1
      rw [z, freshI] at q
      cases q
    have S3 := J3.suite he3 hd3 na notL notF
    refine wpAny_handleBy_cons (codeAny_handlers_test ?_) (by intro q; cases q)
    have kind : PySem.W.Looks (model X.prog X.w) h3 (typeOf (.ref a)) cls := fun A Q E s k q => wpAny_typeOf_ref (k _ _ he3) (by rw [hz3.1]; exact q)
    have answer := PySem.W.exm_one (M := model X.prog X.w) (J3.kIn) kind asked
    have named : ∀ {Q : Value → Shared → Prop} {E : Value → Shared → Prop}, Q c { s' with heap := h3 } → wpAny (model X.prog X.w) (X.A.mark (some (.ref a))) (eval (.Name x np) X.env) Q E { s' with heap := h3 } := fun q => by
      obtain ⟨hg, hdbg, hm | ⟨hm, hv, hnn⟩⟩ := hc
      · exact ld_glob (X := X.suite a ((a, oe3) :: (X.pn ++ pins))) S3 hg hm q hdbg
      · exact ld_blt (X := X.suite a ((a, oe3) :: (X.pn ++ pins))) S3 hg hm hv q hnn hdbg
    refine named (answer.here ?_)
    cases b with
    | true =>
      refine codeAny_handlers_suite_as ?_
      refine HandSPX.lands_againZ fl3 fun h4 fl4 up4 => ?_
      have J4 : L2.Inv X pins σ' H' { s' with heap := h4 } := J.landed nb fl4.1 ((up.trans up3).trans up4) os ag
      obtain ⟨oe4, vs4, he4, hz4, hd4⟩ := fl4.there
      have S4 := J4.suite he4 hd4 na notL notF
      refine store_ok (X := X.suite a ((a, oe4) :: (X.pn ++ pins))) (v := .ref a) S4 hN hi (.inl hln) rfl (fun s5 S5 => ?_) (.inr hln)
      refine wpAny_mono ((hsu a oe4 cls d (X.pn ++ pins) hz4 ⟨_, hd4⟩).run [] s5 _ H' _ S5 (yes rfl a na)) (fun f s6 done => ?_) (fun _ _ z => False.elim z)
      have ends : ∀ {σ6 : L2.St} {H6 : Hp} {Q : Shared → Prop}, L2.Inv (X.suite a ((a, oe4) :: (X.pn ++ pins))) [] σ6 H6 s6 → (∀ s7, H6 a = none → L2.Inv X pins (σ6.set i none) (upd H6 a (ExT cls d a)) s7 → Q s7) →
          wpAny (model X.prog X.w) X.A (do bindName X.env n .none; unbindBehindTheSuite X.env n pos') (fun _ s7 => Q s7) X.xe s6 := fun {σ6 H6 Q} S6 hq => by
        refine gone_ok (X := X.suite a ((a, oe4) :: (X.pn ++ pins))) S6 hN hi hln fun s7 S7 => ?_
        obtain ⟨there, untracked, _⟩ := S7.pin (a, oe4) (List.mem_append_left _ List.mem_cons_self)
        exact hq s7 untracked (inv_track (S7.unsuite ok) there hd4 untracked fresh notL notP (exT_ok there hz4 hd4))
      match f, done with
      | .next, ⟨σ6, H6, S6, q6⟩ => exact ends S6 fun s7 u J7 => ⟨_, _, J7, q6 u⟩
      | .brk, ⟨σ6, H6, S6, q6⟩ => exact ends S6 fun s7 u J7 => ⟨_, _, J7, q6 u⟩
      | .cont, ⟨σ6, H6, S6, q6⟩ => exact ends S6 fun s7 u J7 => ⟨_, _, J7, q6 u⟩
      | .ret u, ⟨v6, σ6, H6, S6, r6, q6⟩ => exact ends S6 fun s7 z J7 => ⟨_, _, _, J7, r6, q6 z⟩
    | false =>
      show wpAny _ X.A (handleBy (.ref a) X.env []) _ _ _
      refine wpAny_handleBy_nil ?_
      obtain ⟨k1, k2, k3, oe, vs, T, oT, ts', he, hz, hd, h1, hr⟩ := id fl3
      unfold PySem.passOn
      refine wpAny_bind (wpAny_field he hd h1 ?_)
      rw [if_neg (show ¬ ((Value.ref T == Value.none) = true) from by simp)]
      have out : wpAny (model X.prog X.w) X.A (setFlight (.ref a) X.env.frame) (fun _ s4 => wpAny (model X.prog X.w) X.A (throw (.ref a) : Sem Flow) (SP X pins D) X.xe s4) X.xe { s' with heap := h3 } := by
        rw [hf]
        refine HandSPX.setFlight_upZ fl3 fun h4 hh4 up4 => wpAny_throw (tk _ _ ?_)
        exact ⟨a, B, sI, pins, σ', H', cls, d, rfl, J, nb, (up.trans up3).trans up4, .inr (.inr (by rw [hs]; exact hh4)), na, os, ag, no rfl⟩
      first
        | exact wpAny_bind (wpAny_pure (wpAny_bind out))
        | exact wpAny_bind out
  · match f, done with
    | .next, ⟨σ', H', J', q⟩ => exact wpAny_execs_nil ⟨σ', H', J'.ofTry ok, q⟩
    | .brk, ⟨σ', H', J', q⟩ => exact ⟨σ', H', J'.ofTry ok, q⟩
    | .cont, ⟨σ', H', J', q⟩ => exact ⟨σ', H', J'.ofTry ok, q⟩
    | .ret u, ⟨v, σ', H', J', r, q⟩ => exact ⟨v, σ', H', J'.ofTry ok, r, q⟩
/-- isinstance of a kept exception -/
def rIsX (K : PySem.W.Frag) : List V → Hp → VK → Prop := fun xs H Q => ∃ (a D : Addr) (c : V) (cv : Value) (b : Bool), xs = [.ref a, c] ∧ H a = some (ExT (.ref D) none a) ∧ ExcC K D ∧ ClsV c cv ∧ PySem.W.kitOne K (.ref D) cv = some b ∧ Q (.bl b) H
theorem call_isX {X : Cx} : CallR X (.builtin "isinstance") (rIsX X.K) := by
  intro pins s σ H xs us Q I r h
  obtain ⟨a, D, c, cv, b, rfl, ha, C, k, e, q⟩ := h
  obtain ⟨u1, u2, rfl, r1, r2⟩ := vals2 r
  have e2 := k.eq r2
  subst e2
  cases (show u1 = Value.ref a from r1)
  obtain ⟨oe, vs, there, hz, hv⟩ := (I.hok a _ ha).1
  have J : PySem.W.InstAt s.heap a oe D none := by
    obtain ⟨oc, od, oda, osl⟩ := oe
    obtain ⟨h1, h2⟩ := hz
    dsimp only at h1 h2 hv
    subst h1 h2 hv
    exact ⟨there, rfl, rfl, trivial⟩
  exact PySem.W.kia_one (PySem.W.handS_kitx_exc C.hg C.hk C.hs C.hd C.ha C.hn C.ht C.hm) I.kIn J e (fun z => nomatch z) fun tk => ⟨.bl b, H, I.kept (t' := tk) fun _ _ z => z, rfl, q⟩
/-- a value of a kind, or a kept exception -/
def rIsA (K : PySem.W.Frag) : List V → Hp → VK → Prop := fun xs H Q => rIsi K xs H Q ∨ rIsX K xs H Q
theorem call_isA {X : Cx} : CallR X (.builtin "isinstance") (rIsA X.K) := CallR.or call_isi call_isX
/-- a call that promises to let nothing out -/
theorem passF {X : Cx} : Passes (L2.CX X.prog X.w) X (fun _ _ _ => False) := fun _ _ _ _ _ _ _ ⟨_, _, _, _, _, _, _, _, _, _, _, _, h⟩ => h.elim

/-! ### sorted(d.items()), keys and values ints -/
open L2.DX (itemsO itemsO_ok takeT zip_self)
def entI (e : Int × Int) : Key × V := (Sum.inl e.1, V.int e.2)
def rItemsI : V → List V → Hp → VK → Prop := fun x xs H Q => ∃ (a : Addr) (kvs : List (Key × V)), x = .ref a ∧ xs = [] ∧ H a = some (.dK kvs) ∧ ∀ p, H p = none → Q (.ref p) (upd H p (itemsO p a))
theorem mt_itemsI {X : Cx} : MtR X "dict.items" rItemsI := by
  intro pins s σ H x xs v us Q I rx rxs h
  obtain ⟨a, kvs, rfl, rfl, ha, q⟩ := h
  cases rx
  cases rxs
  obtain ⟨hz, hd, vs, kv, hdo⟩ := I.hok a _ ha
  obtain ⟨o, es, ep, ho, hx, hdat, hk1, hpr, hnd⟩ := hdo
  refine DT.callItems (es := es) (ep := ep) hd ⟨o, ho, hx, hdat⟩ ?_
  have hf : H s.heap.objs.size = none := I.hok.fresh (Nat.le_refl _)
  exact ⟨.ref s.heap.objs.size, upd H s.heap.objs.size (itemsO s.heap.objs.size a), I.laid (t' := s.toks) (fun b u e => Heap.get?_push_of_some _ e) (Nat.le_refl _) (itemsO_ok (Heap.get?_push_size _ rfl)), rfl, q _ hf⟩
/-- the two ints of a tuple -/
def prIn (h : Heap) : Value → Int × Int
  | .ref b => (match h.get? b with
    | some ⟨_, _, .seq its _, _⟩ => (SrtO.iv (its.getD 0 .none), SrtO.iv (its.getD 1 .none))
    | _ => (0, 0))
  | _ => (0, 0)
theorem prIn_of {h : Heap} {v : Value} {x y : Int} (p : Srt.IsPair h v x y) : prIn h v = (x, y) := by
  obtain ⟨a, ⟨oc, od, dt, sl⟩, t, u, n, rfl, ho, hc, hd⟩ := p
  dsimp only at hc hd
  subst hc hd
  show (match h.get? a with
    | some ⟨_, _, .seq its _, _⟩ => (SrtO.iv (its.getD 0 .none), SrtO.iv (its.getD 1 .none))
    | _ => (0, 0)) = (x, y)
  rw [ho]
  rfl
def lexLe (p q : Int × Int) : Prop := p.1 ≤ q.1
def rSortItI : List V → Hp → VK → Prop := fun vs H Q => ∃ (p a : Addr) (ks : List (Int × Int)), vs = [.ref p] ∧ H p = some (itemsO p a) ∧ H a = some (.dK (ks.map entI)) ∧ ks.length ≤ 1000 ∧
  ∀ (H' : Hp) (l : Addr) (ps : List (Addr × Int × Int)), Same H H' → (ps.map (·.2)).Perm ks → (ps.map (·.2)).Pairwise lexLe → H' l = some (.lst (ps.map fun z => V.ref z.1)) → H l = none →
    (∀ z ∈ ps, H' z.1 = some (.tup [.int z.2.1, .int z.2.2])) → Q (.ref l) H'
theorem cr_sortedItemsI {X : Cx} (hc : X.calm = true) : CallR X (.builtin "sorted") rSortItI := by
  intro pins s σ H xs us Q I r h
  obtain ⟨p, a, ks, rfl, hp, ha, h64, q⟩ := h
  obtain rfl := Vals.ref1 r
  have view : s.heap.IsItemsView p a := (show ObjOk X.prog X.w H s.heap p (itemsO p a) from I.hok p _ hp).1
  obtain ⟨hz, hd, vs, kv, hdo⟩ := I.hok a _ ha
  obtain ⟨o, es, ep, ho, hx, hdat, hk1, hpr, hnd⟩ := hdo
  have l1 : (ks.map entI).length = vs.length := Paired.length kv
  rw [List.length_map] at l1
  have l2 : es.size = vs.length := by
    rw [← hpr.length]
    simp
  refine DT.sortedI (es := es) (ep := ep) (I.ok.hd hc) view ⟨o, ho, hx, hdat⟩ (by rw [l2, ← l1]; exact small_sz (by omega)) fun h' tk as hk hlt hl hG => ?_
  have lak : as.length = ks.length := by omega
  have nd : as.Nodup := List.Pairwise.imp (fun h => Nat.ne_of_lt h) hG.rise
  have pr : ∀ (j : Nat) (b : Addr), as[j]? = some b → ∃ (e : Int × Int) (t u : Tok), ks[j]? = some e ∧ h'.get? b = some { cls := .type "tuple", data := .seq #[Value.int e.1 t, Value.int e.2 u] } := by
    intro j b hj
    obtain ⟨en, he, hg⟩ := hG.pairs j b hj
    have hjl : j < ks.length := by
      have := (List.getElem?_eq_some_iff.mp hj).1
      omega
    obtain ⟨e, hkj⟩ : ∃ e, ks[j]? = some e := ⟨_, List.getElem?_eq_getElem hjl⟩
    have hkm : (ks.map entI)[j]? = some (entI e) := by
      rw [List.getElem?_map, hkj]
      rfl
    obtain ⟨y, hy, r1, r2⟩ := LiI.paired_get kv hkm
    have hel : es.toList[j]? = some en := by
      rw [Array.getElem?_toList]
      exact he
    obtain ⟨k1, k2⟩ := hpr.get? hel (show vs[j]? = some (y.1, y.2) from hy)
    rw [← r1] at k1
    obtain ⟨t, e1⟩ := (show RelV (V.int e.1) en.key from relV_key (show keyIs (Sum.inl e.1) en.key = true from k1))
    obtain ⟨u, e2⟩ := (show RelV (V.int e.2) y.2 from r2)
    refine ⟨e, t, u, hkj, ?_⟩
    rw [hg, e1, k2, e2]
  have hob : (h'.push { cls := .type "list", data := .seq (as.map Value.ref).toArray }).get? h'.objs.size = some (seqObj "list" (as.map Value.ref).toArray 0) := Heap.get?_push_size _ rfl
  have kb : ∀ b o, s.heap.get? b = some o → (h'.push { cls := .type "list", data := .seq (as.map Value.ref).toArray }).get? b = some o := fun b o e => Heap.get?_push_of_some _ (hk b o e)
  have ne0 : ∀ b o, h'.get? b = some o → b ≠ h'.objs.size := fun b o e => Nat.ne_of_lt (Heap.lt_size e)
  generalize hh2 : h'.push { cls := .type "list", data := .seq (as.map Value.ref).toArray } = h2 at hob kb ⊢
  have ka : ∀ b o, h'.get? b = some o → h2.get? b = some o := fun b o e => by
    rw [← hh2]
    exact Heap.get?_push_of_some _ e
  have pin : ∀ (j : Nat) (b : Addr) (e : Int × Int), as[j]? = some b → ks[j]? = some e → Srt.IsPair h2 (.ref b) e.1 e.2 := by
    intro j b e hj he
    obtain ⟨e', t, u, he', hg⟩ := pr j b hj
    have ee : e' = e := Option.some.inj (he'.symm.trans he)
    subst ee
    exact ⟨b, _, t, u, 0, rfl, ka _ _ hg, rfl, rfl⟩
  have at_ : ∀ v ∈ as.map Value.ref, Srt.IsPair h2 v (prIn h2 v).1 (prIn h2 v).2 := by
    intro v hv'
    obtain ⟨b, hb, rfl⟩ := List.mem_map.mp hv'
    obtain ⟨j, hj⟩ := List.mem_iff_getElem?.mp hb
    obtain ⟨e, _, _, he, _⟩ := pr j b hj
    have hp := pin j b e hj he
    rw [prIn_of hp]
    exact hp
  refine wpAny_call_entry PyProof.Rows.slot_list_sort ⟨_, hob, rfl⟩ PyProof.Rows.entry_list_sort
    (SrtO.list_sort_ord (s := { s with heap := h2, toks := tk }) (SrtO.swo_lex (prIn h2)) hob (by rw [List.length_map, lak]; exact small_sz (by omega)) (fun h2' => SrtO.pairs_sortableO (by omega) at_ fun o e => ?_) fun out o1 o2 => ⟨.none, rfl, ?_⟩) (PyProof.Rows.args_list_sort _)
  · have e' : some o = some (seqObj "list" (as.map Value.ref).toArray 0) := e.symm.trans hob
    cases e'
    intro c
    exact absurd (Value.type.inj c) (by decide)
  · show EP X pins σ Q (.ref h'.objs.size) { s with heap := sortedHeap h2 h'.objs.size (as.map Value.ref) out.toArray, toks := tk }
    obtain ⟨zs, pz, ez⟩ := perm_lift (fun z : Addr × Int × Int => Value.ref z.1) o2.perm (as.zip ks) (by
      have e := zip_self Value.ref as ks lak
      have e2 := congrArg (List.map Prod.fst) e
      rw [List.map_map, List.map_fst_zip (by simp)] at e2
      exact e2)
    have idx : ∀ z ∈ zs, ∃ j : Nat, as[j]? = some z.1 ∧ ks[j]? = some z.2 := by
      intro z' hz'
      obtain ⟨j, hj⟩ := List.mem_iff_getElem?.mp (pz.mem_iff.mp hz')
      exact ⟨j, List.getElem?_zip_eq_some.mp hj⟩
    have hout : out = zs.map fun z => Value.ref z.1 := ez.symm
    have hperm : (zs.map (·.2)).Perm ks := by
      have e := pz.map (·.2)
      have m2 : (as.zip ks).map (·.2) = ks := List.map_snd_zip (by rw [lak]; exact Nat.le_refl _)
      rw [m2] at e
      exact e
    have hsort : (zs.map (·.2)).Pairwise lexLe := by
      have o3 : List.Pairwise (fun x y => SrtO.lexB (prIn h2 y) (prIn h2 x) = false) out := o1
      rw [hout, List.pairwise_map] at o3
      rw [List.pairwise_map]
      refine List.Pairwise.imp_of_mem (fun {x y} hx hy h => ?_) o3
      obtain ⟨j, j1, j2⟩ := idx x hx
      obtain ⟨i, i1, i2⟩ := idx y hy
      rw [prIn_of (pin j _ _ j1 j2), prIn_of (pin i _ _ i1 i2)] at h
      have := SrtO.lexB_no.mp h
      show x.2.1 ≤ y.2.1
      simp only at this
      omega
    have kF : ∀ b o, b ≠ h'.objs.size → h2.get? b = some o → (sortedHeap h2 h'.objs.size (as.map Value.ref) out.toArray).get? b = some o := fun b o hb e => (PyProof.Rows.sortedHeap_old hb (Heap.lt_size e)).trans e
    have kS : ∀ b o, s.heap.get? b = some o → (sortedHeap h2 h'.objs.size (as.map Value.ref) out.toArray).get? b = some o := fun b o e => kF b o (ne0 _ _ (hk b o e)) (kb b o e)
    obtain ⟨eF, heF⟩ := PyProof.Rows.sortedHeap_at (vs := as.map Value.ref) (out := out.toArray) hob
    have I1 : L2.Inv X pins σ H { s with heap := sortedHeap h2 h'.objs.size (as.map Value.ref) out.toArray, toks := tk } := I.kept (t' := tk) kS
    have hn0 : H h'.objs.size = none := I.hok.fresh (Nat.le_of_lt hlt)
    have hlen : (zs.map fun z => V.ref z.1).length ≤ sizeLine := by
      have e := hperm.length_eq
      rw [List.length_map] at e
      rw [List.length_map, e]
      exact small_sz (by omega)
    have rv : Vals (zs.map fun z => V.ref z.1) out := by
      rw [hout]
      exact vals_maps (fun z : Addr × Int × Int => V.ref z.1) (fun z => Value.ref z.1) zs fun _ _ => rfl
    have I2 : L2.Inv X pins σ (upd H h'.objs.size (.lst (zs.map fun z => V.ref z.1))) { s with heap := sortedHeap h2 h'.objs.size (as.map Value.ref) out.toArray, toks := tk } :=
      I1.take (h' := sortedHeap h2 h'.objs.size (as.map Value.ref) out.toArray) (t' := tk) (fun b ob _ e => e) (I.fpOk (Nat.le_of_lt hlt) hn0) ⟨hlen, out, eF, rv, heF⟩
    obtain ⟨H2, I3, g, qt⟩ := takeT (P := fun b vs => ∃ (j : Nat) (e : Int × Int), as[j]? = some b ∧ ks[j]? = some e ∧ vs = [.int e.1, .int e.2]) I as _ I2 nd fun b hb => by
      obtain ⟨j, hj⟩ := List.mem_iff_getElem?.mp hb
      obtain ⟨e, t, u, he, hg⟩ := pr j b hj
      have hbl : s.heap.objs.size ≤ b := Nat.le_of_lt (hG.above b hb)
      refine ⟨hbl, ?_, [.int e.1, .int e.2], ⟨j, e, hj, he, rfl⟩, fun H3 => ⟨(by rw [sizeLine_eq]; show 2 ≤ 16777216; omega), [Value.int e.1 t, Value.int e.2 u], .cons ⟨t, rfl⟩ (.cons ⟨u, rfl⟩ .nil), ⟨_, kF _ _ (ne0 _ _ hg) (ka _ _ hg), rfl, 0, rfl⟩⟩⟩
      rw [upd_ne (ne0 _ _ hg)]
      exact I.hok.fresh hbl
    have gr : Same H H2 := fun b o e => g b o (by rw [upd_ne (ne_of_none e hn0)]; exact e)
    refine ⟨.ref h'.objs.size, H2, I3, rfl, q H2 h'.objs.size zs gr hperm hsort (g _ _ upd_same) hn0 fun z' hz' => ?_⟩
    obtain ⟨i, i1, i2⟩ := idx z' hz'
    obtain ⟨vs, ⟨j, e, j1, j2, ev⟩, hH⟩ := qt z'.1 (List.mem_of_getElem? i1)
    have eij : i = j := (List.getElem?_inj (List.getElem?_eq_some_iff.mp i1).1 nd).mp (i1.trans j1.symm)
    subst eij
    have ee : e = z'.2 := Option.some.inj (j2.symm.trans i2)
    rw [ev, ee] at hH
    exact hH

theorem nD_all {K : PySem.W.Frag} {H : Hp} : ∀ is : List Nat, DpAll K H (nV is) (is.map fun (t : Nat) => PyData.int (t : Int))
  | [] => .nil
  | i :: r => .cons (.int _) (nD_all r)
theorem bD_all {K : PySem.W.Frag} {H : Hp} : ∀ is : List Bool, DpAll K H (is.map V.bl) (is.map PyData.bool)
  | [] => .nil
  | i :: r => .cons (.bl _) (bD_all r)
theorem can_all {α : Type} (f : α → PyData) (h : ∀ x, (f x).canLay0 = true ∧ (f x).depth = 0) : ∀ is : List α, SeqAt.shaped (.list (is.map f)) = true := by
  intro is
  have h1 : PyData.canLayAll0 (is.map f) = true ∧ PyData.depthAll (is.map f) = 0 := by
    induction is with
    | nil => exact ⟨rfl, rfl⟩
    | cons x r ih =>
      refine ⟨?_, ?_⟩
      · show (PyData.canLay0 (f x) && PyData.canLayAll0 (r.map f)) = true
        rw [(h x).1, ih.1]
        rfl
      · show max (PyData.depth (f x)) (PyData.depthAll (r.map f)) = 0
        rw [(h x).2, ih.2]
        rfl
  show (PyData.canLayAll0 (is.map f) && decide (PyData.depthAll (is.map f) + 1 ≤ 64)) = true
  rw [h1.1, h1.2]
  rfl
theorem eqv_nil (f : Nat → PyData) (is : List Nat) : PyData.eqv (.list (is.map f)) (.list []) = is.isEmpty := by
  cases is <;> rfl
theorem bl_app (bs : List Bool) (b : Bool) : bs.map V.bl ++ [V.bl b] = (bs ++ [b]).map V.bl := by
  rw [List.map_append]
  rfl
theorem range_map_snoc {α : Type} (f : Nat → α) (i : Nat) : (List.range (i + 1)).map f = (List.range i).map f ++ [f i] := by
  rw [List.range_succ, List.map_append]
  rfl

theorem list_bool_nil {α : Type} {p : α → Bool} {l : List α} : l.filter p = [] ↔ ∀ x ∈ l, p x = false := by
  rw [List.filter_eq_nil_iff]
  constructor
  · intro h x hx
    cases e : p x with
    | false => rfl
    | true => exact absurd e (h x hx)
  · intro h x hx e
    rw [h x hx] at e
    cases e
theorem getD_of {α : Type} {l : List α} {i : Nat} {x d : α} (h : l[i]? = some x) : l.getD i d = x := by
  rw [List.getD_eq_getElem?_getD, h]
  rfl
theorem le_snoc {p : Nat → Bool} {i : Nat} (h : ∀ s < i, p s = false) (hi : p i = false) : ∀ s < i + 1, p s = false := fun s hs => by
  by_cases e : s = i
  · rw [e]
    exact hi
  · exact h s (by omega)
theorem take_snoc_all {α : Type} {p : α → Bool} {l : List α} {i : Nat} {x : α} (hx : l[i]? = some x) (h : ∀ y ∈ l.take i, p y = false) (hi : p x = false) : ∀ y ∈ l.take (i + 1), p y = false := fun y hy => by
  rw [List.take_add_one, hx] at hy
  rcases List.mem_append.mp hy with hy | hy
  · exact h y hy
  · rw [show y = x by simpa using hy]
    exact hi
theorem iV_inj {a b : List Int} (h : iV a = iV b) : a = b := by
  induction a generalizing b with
  | nil =>
    cases b with
    | nil => rfl
    | cons y r => cases h
  | cons x r ih =>
    cases b with
    | nil => cases h
    | cons y t =>
      have h1 := List.cons.inj h
      rw [V.int.inj h1.1, ih h1.2]
theorem filter_snoc {α : Type} (p : α → Bool) {l : List α} {i : Nat} {x : α} (hx : l[i]? = some x) : (l.take (i + 1)).filter p = if p x = true then (l.take i).filter p ++ [x] else (l.take i).filter p := by
  rw [List.take_add_one, hx, List.filter_append]
  cases e : p x with
  | true =>
    rw [if_pos rfl]
    show _ ++ List.filter p [x] = _
    rw [List.filter_cons_of_pos e]
    rfl
  | false =>
    rw [if_neg Bool.false_ne_true]
    show _ ++ List.filter p [x] = _
    rw [List.filter_cons_of_neg (by rw [e]; exact Bool.false_ne_true)]
    show _ ++ [] = _
    rw [List.append_nil]
theorem eqv_list_nil (xs : List PyData) : PyData.eqv (.list xs) (.list []) = xs.isEmpty := by
  cases xs <;> rfl
theorem shaped_map {α : Type} (f : α → PyData) (h : ∀ x, (f x).canLay0 = true ∧ (f x).depth ≤ 10) (is : List α) : SeqAt.shaped (.list (is.map f)) = true := by
  have h1 : PyData.canLayAll0 (is.map f) = true ∧ PyData.depthAll (is.map f) ≤ 10 := by
    induction is with
    | nil => exact ⟨rfl, Nat.zero_le _⟩
    | cons x r ih =>
      refine ⟨?_, ?_⟩
      · show (PyData.canLay0 (f x) && PyData.canLayAll0 (r.map f)) = true
        rw [(h x).1, ih.1]
        rfl
      · show max (PyData.depth (f x)) (PyData.depthAll (r.map f)) ≤ 10
        exact Nat.max_le.mpr ⟨(h x).2, ih.2⟩
  show (PyData.canLayAll0 (is.map f) && decide (PyData.depthAll (is.map f) + 1 ≤ 64)) = true
  rw [h1.1, decide_eq_true (by omega)]
  rfl
theorem isEmpty_filter {α β : Type} (f : α → β) (p : α → Bool) (l : List α) : ((l.filter p).map f).isEmpty = true ↔ ∀ x ∈ l, p x = false := by
  rw [List.isEmpty_iff, List.map_eq_nil_iff]
  exact list_bool_nil
/-- all([f x ..]) by a bound list -/
theorem all_snoc {α : Type} (f : α → Bool) (xs : List α) (i : Nat) (x : α) (h : xs[i]? = some x) : (xs.take (i + 1)).map f = (xs.take i).map f ++ [f x] := by
  rw [List.take_add_one, h, List.map_append]
  rfl

/-! ### faults of hours -/
inductive Flt where
  | free (t : Nat)
  | due (t : Nat)
  | need (a b : Nat)
  | room (h : Int)
def pFree (fs hs : List Int) (t : Nat) : Bool := decide (hs.getD t 0 < fs.getD t 0)
def pDue (ds : List (Option Int)) (hs : List Int) (t : Nat) : Bool := match ds.getD t none with
  | none => false
  | some d => decide (d < hs.getD t 0)
def pNeed (hs : List Int) (z : Addr × Nat × Nat) : Bool := decide (hs.getD z.2.2 0 ≤ hs.getD z.2.1 0)
def pRoom (rs hs : List Int) (h : Int) : Bool := decide (roomAt rs h < (hs.count h : Nat))
def fltL (fs : List Int) (ds : List (Option Int)) (zs : List (Addr × Nat × Nat)) (hs : List Int) : List Flt :=
  ((List.range fs.length).filter (pFree fs hs)).map Flt.free ++ ((List.range fs.length).filter (pDue ds hs)).map Flt.due ++ (zs.filter (pNeed hs)).map (fun z => Flt.need z.2.1 z.2.2)
def Least (L : List Int) : Option Int → Prop
  | none => L = []
  | some a => a ∈ L ∧ ∀ b ∈ L, a ≤ b
theorem least_ex : ∀ L : List Int, ∃ o, Least L o
  | [] => ⟨none, rfl⟩
  | x :: L => by
    obtain ⟨o, h⟩ := least_ex L
    cases o with
    | none =>
      have e : L = [] := h
      subst e
      exact ⟨some x, List.mem_cons_self, fun b hb => by rw [List.mem_singleton.mp hb]; exact Int.le_refl _⟩
    | some a =>
      obtain ⟨h1, h2⟩ := h
      by_cases c : x ≤ a
      · refine ⟨some x, List.mem_cons_self, fun b hb => ?_⟩
        rcases List.mem_cons.mp hb with e | hb
        · rw [e]
          exact Int.le_refl _
        · exact Int.le_trans c (h2 b hb)
      · refine ⟨some a, List.mem_cons_of_mem _ h1, fun b hb => ?_⟩
        rcases List.mem_cons.mp hb with e | hb
        · rw [e]
          omega
        · exact h2 b hb
theorem least_uq {L : List Int} {o o' : Option Int} (h : Least L o) (h' : Least L o') : o = o' := by
  cases o with
  | none =>
    have e : L = [] := h
    subst e
    cases o' with
    | none => rfl
    | some b => exact absurd h'.1 (by simp)
  | some a =>
    cases o' with
    | none =>
      have e : L = [] := h'
      subst e
      exact absurd h.1 (by simp)
    | some b =>
      have h1 := h.2 b h'.1
      have h2 := h'.2 a h.1
      rw [Int.le_antisymm h1 h2]
def FltIs (fs : List Int) (ds : List (Option Int)) (zs : List (Addr × Nat × Nat)) (rs hs : List Int) (o : Option Flt) : Prop :=
  ∃ r, Least (hs.filter (pRoom rs hs)) r ∧ o = (fltL fs ds zs hs).head?.or (r.map Flt.room)
section
variable {fs : List Int} {ds : List (Option Int)} {zs : List (Addr × Nat × Nat)} {rs hs : List Int}
theorem FltIs.uq {o o' : Option Flt} (h : FltIs fs ds zs rs hs o) (h' : FltIs fs ds zs rs hs o') : o = o' := by
  obtain ⟨r, h1, rfl⟩ := h
  obtain ⟨r', h1', rfl⟩ := h'
  rw [least_uq h1 h1']
theorem flt_ex : ∃ o, FltIs fs ds zs rs hs o := by
  obtain ⟨r, hr⟩ := least_ex (hs.filter (pRoom rs hs))
  exact ⟨_, r, hr, rfl⟩
theorem head_range {p : Nat → Bool} {n t : Nat} (ht : t < n) (hp : p t = true) (hn : ∀ s < t, p s = false) : ((List.range n).filter p).head? = some t := by
  rw [List.head?_filter, List.find?_range_eq_some]
  exact ⟨hp, List.mem_range.mpr ht, fun s hs => by rw [hn s hs]; rfl⟩
theorem none_range {p : Nat → Bool} {n : Nat} (hn : ∀ s < n, p s = false) : (List.range n).filter p = [] := list_bool_nil.mpr fun x hx => hn x (List.mem_range.mp hx)
theorem flt_free {t : Nat} (ht : t < fs.length) (hp : pFree fs hs t = true) (hn : ∀ s < t, pFree fs hs s = false) : FltIs fs ds zs rs hs (some (.free t)) := by
  obtain ⟨r, hr⟩ := least_ex (hs.filter (pRoom rs hs))
  refine ⟨r, hr, ?_⟩
  unfold fltL
  rw [List.append_assoc, List.head?_append, List.head?_map, head_range ht hp hn]
  rfl
theorem flt_due {t : Nat} (h1 : ∀ s < fs.length, pFree fs hs s = false) (ht : t < fs.length) (hp : pDue ds hs t = true) (hn : ∀ s < t, pDue ds hs s = false) : FltIs fs ds zs rs hs (some (.due t)) := by
  obtain ⟨r, hr⟩ := least_ex (hs.filter (pRoom rs hs))
  refine ⟨r, hr, ?_⟩
  unfold fltL
  rw [none_range h1, List.map_nil, List.nil_append, List.head?_append, List.head?_map, head_range ht hp hn]
  rfl
theorem flt_need {k : Nat} {z : Addr × Nat × Nat} (h1 : ∀ s < fs.length, pFree fs hs s = false) (h2 : ∀ s < fs.length, pDue ds hs s = false) (hk : zs[k]? = some z) (hp : pNeed hs z = true) (hn : ∀ y ∈ zs.take k, pNeed hs y = false) : FltIs fs ds zs rs hs (some (.need z.2.1 z.2.2)) := by
  obtain ⟨r, hr⟩ := least_ex (hs.filter (pRoom rs hs))
  refine ⟨r, hr, ?_⟩
  unfold fltL
  obtain ⟨hlt, e⟩ := List.getElem?_eq_some_iff.mp hk
  have e2 : zs = zs.take k ++ (z :: zs.drop (k + 1)) := by
    rw [← e, List.getElem_cons_drop, List.take_append_drop]
  have e3 : (zs.filter (pNeed hs)).head? = some z := by
    rw [e2, List.filter_append, list_bool_nil.mpr hn, List.nil_append, List.filter_cons_of_pos hp]
    rfl
  rw [none_range h1, none_range h2, List.map_nil, List.map_nil, List.nil_append, List.nil_append, List.head?_map, e3]
  rfl
theorem flt_rest {r : Option Int} (h1 : ∀ s < fs.length, pFree fs hs s = false) (h2 : ∀ s < fs.length, pDue ds hs s = false) (h3 : ∀ y ∈ zs, pNeed hs y = false) (hr : Least (hs.filter (pRoom rs hs)) r) : FltIs fs ds zs rs hs (r.map Flt.room) := by
  refine ⟨r, hr, ?_⟩
  unfold fltL
  rw [none_range h1, none_range h2, list_bool_nil.mpr h3]
  rfl
/-- the hours keep all -/
def Keeps (fs : List Int) (ds : List (Option Int)) (zs : List (Addr × Nat × Nat)) (rs hs : List Int) : Prop :=
  (∀ s < fs.length, pFree fs hs s = false) ∧ (∀ s < fs.length, pDue ds hs s = false) ∧ (∀ y ∈ zs, pNeed hs y = false) ∧ ∀ h ∈ hs, pRoom rs hs h = false
theorem FltIs.none_iff {o : Option Flt} (h : FltIs fs ds zs rs hs o) : o = none ↔ Keeps fs ds zs rs hs := by
  constructor
  · intro e
    subst e
    obtain ⟨r, hr, e⟩ := h
    have e1 := e.symm
    rw [Option.or_eq_none_iff, List.head?_eq_none_iff, Option.map_eq_none_iff] at e1
    obtain ⟨e1, e2⟩ := e1
    subst e2
    unfold fltL at e1
    simp only [List.append_eq_nil_iff, List.map_eq_nil_iff] at e1
    obtain ⟨⟨a1, a2⟩, a3⟩ := e1
    exact ⟨fun s hs' => list_bool_nil.mp a1 s (List.mem_range.mpr hs'), fun s hs' => list_bool_nil.mp a2 s (List.mem_range.mpr hs'), list_bool_nil.mp a3, list_bool_nil.mp (show _ = [] from hr)⟩
  · rintro ⟨h1, h2, h3, h4⟩
    have := flt_rest h1 h2 h3 (r := none) (list_bool_nil.mpr h4)
    exact h.uq this
end
def fltV : Flt → List V
  | .free t => [.str "free", .int (t : Int)]
  | .due t => [.str "due", .int (t : Int)]
  | .need a b => [.str "need", .int (a : Int), .int (b : Int)]
  | .room h => [.str "room", .int h]
/-- the value of a fault -/
def FltAt (H : Hp) (v : V) : Option Flt → Prop
  | none => v = .non
  | some f => ∃ p, v = .ref p ∧ H p = some (.tup (fltV f))
theorem FltAt.same {H H' : Hp} {v : V} {o : Option Flt} (h : FltAt H v o) (s : Same H H') : FltAt H' v o := by
  cases o with
  | none => exact h
  | some f =>
    obtain ⟨p, e, hp⟩ := h
    exact ⟨p, e, s _ _ hp⟩
theorem roomOf_one {rs : List Int} (h : Int) : roomOf rs h h = roomAt rs h := by
  unfold roomOf
  rw [show (h + 1 - h).toNat = 1 by omega]
  show 0 + roomAt rs (h + ((0 : Nat) : Int)) = _
  rw [Int.zero_add]
  congr 1
  omega
/-! ### how many of each -/
def putI (m : List (Int × Int)) (h c : Int) : List (Int × Int) := if m.any (fun p => decide (p.1 = h)) = true then m.map (fun p => if p.1 = h then (p.1, c) else p) else m ++ [(h, c)]
theorem any_entI (m : List (Int × Int)) (h : Int) : (m.map entI).any (fun kv => decide (kv.1 = Sum.inl h)) = m.any fun p => decide (p.1 = h) := by
  rw [List.any_map]
  congr 1
  funext p
  show decide ((Sum.inl p.1 : Key) = Sum.inl h) = decide (p.1 = h)
  congr 1
  exact propext ⟨fun e => Sum.inl.inj e, fun e => by rw [e]⟩
theorem putK_entI (m : List (Int × Int)) (h c : Int) : putK (m.map entI) (Sum.inl h) (.int c) = (putI m h c).map entI := by
  unfold putK putI
  rw [any_entI]
  split
  · rw [List.map_map, List.map_map]
    refine List.map_congr_left fun p _ => ?_
    show (if (Sum.inl p.1 : Key) = Sum.inl h then (Sum.inl p.1, V.int c) else (Sum.inl p.1, V.int p.2)) = entI (if p.1 = h then (p.1, c) else p)
    by_cases e : p.1 = h
    · rw [if_pos e, if_pos (by rw [e])]
      rfl
    · rw [if_neg e, if_neg (fun z => e (Sum.inl.inj z))]
      rfl
  · rw [List.map_append]
    rfl
theorem putI_len (m : List (Int × Int)) (h c : Int) : (putI m h c).length ≤ m.length + 1 := by
  unfold putI
  split
  · rw [List.length_map]
    omega
  · rw [List.length_append, List.length_singleton]
    exact Nat.le_refl _
theorem any_key {m : List (Int × Int)} {h : Int} : m.any (fun p => decide (p.1 = h)) = true ↔ h ∈ m.map (·.1) := by
  rw [List.any_eq_true, List.mem_map]
  exact ⟨fun ⟨p, hp, e⟩ => ⟨p, hp, of_decide_eq_true e⟩, fun ⟨p, hp, e⟩ => ⟨p, hp, decide_eq_true e⟩⟩
structure Tally (m : List (Int × Int)) (l : List Int) : Prop where
  nd : (m.map (·.1)).Nodup
  keys : ∀ h, h ∈ m.map (·.1) ↔ h ∈ l
  cnt : ∀ p ∈ m, p.2 = (l.count p.1 : Nat)
theorem Tally.nil : Tally [] [] := ⟨List.nodup_nil, fun h => Iff.rfl, fun p hp => nomatch hp⟩
theorem valV_entI {m : List (Int × Int)} {p : Int × Int} (nd : (m.map (·.1)).Nodup) (hp : p ∈ m) : valV (m.map entI) (Sum.inl p.1) = some (.int p.2) := by
  induction m with
  | nil => cases hp
  | cons q r ih =>
    rw [List.map_cons, List.nodup_cons] at nd
    rcases List.mem_cons.mp hp with e | hp
    · rw [e]
      exact valV_pos (p := entI q) rfl
    · have ne : ¬ (entI q).1 = Sum.inl p.1 := fun z => nd.1 (by
        have z2 : q.1 = p.1 := Sum.inl.inj z
        rw [z2]
        exact List.mem_map.mpr ⟨p, hp, rfl⟩)
      rw [List.map_cons, valV_neg ne]
      exact ih nd.2 hp
theorem valV_entI0 {m : List (Int × Int)} {h : Int} (hn : h ∉ m.map (·.1)) : valV (m.map entI) (Sum.inl h) = none := by
  induction m with
  | nil => rfl
  | cons q r ih =>
    rw [List.map_cons, List.mem_cons] at hn
    have ne : ¬ (entI q).1 = Sum.inl h := fun z => hn (.inl (Sum.inl.inj z).symm)
    rw [List.map_cons, valV_neg ne]
    exact ih fun z => hn (.inr z)
theorem Tally.val {m : List (Int × Int)} {l : List Int} (T : Tally m l) (h : Int) : (valV (m.map entI) (Sum.inl h)).getD (.int 0) = .int (l.count h : Nat) := by
  by_cases c : h ∈ m.map (·.1)
  · obtain ⟨p, hp, rfl⟩ := List.mem_map.mp c
    rw [valV_entI T.nd hp, T.cnt p hp]
    rfl
  · rw [valV_entI0 c]
    have : h ∉ l := fun z => c ((T.keys h).mpr z)
    rw [List.count_eq_zero_of_not_mem this]
    rfl
theorem Tally.put {m : List (Int × Int)} {l : List Int} (T : Tally m l) (h : Int) : Tally (putI m h ((l.count h : Nat) + 1)) (l ++ [h]) := by
  have cn : ∀ x : Int, (l ++ [h]).count x = l.count x + (if h = x then 1 else 0) := fun x => by
    rw [List.count_append, List.count_singleton]
    by_cases e : h = x
    · subst e
      simp
    · simp [e]
  unfold putI
  by_cases c : h ∈ m.map (·.1)
  · rw [if_pos (any_key.mpr c)]
    have ek : (m.map fun p => if p.1 = h then (p.1, ((l.count h : Nat) : Int) + 1) else p).map (·.1) = m.map (·.1) := by
      rw [List.map_map]
      refine List.map_congr_left fun p _ => ?_
      show (if p.1 = h then (p.1, ((l.count h : Nat) : Int) + 1) else p).1 = p.1
      split <;> rfl
    refine ⟨by rw [ek]; exact T.nd, fun x => ?_, fun p hp => ?_⟩
    · rw [ek, T.keys x, List.mem_append, List.mem_singleton]
      refine ⟨.inl, fun z => z.elim id fun z => ?_⟩
      rw [z]
      exact (T.keys h).mp c
    · obtain ⟨q, hq, rfl⟩ := List.mem_map.mp hp
      have := T.cnt q hq
      rw [cn]
      by_cases e : q.1 = h
      · rw [if_pos e]
        show ((l.count h : Nat) : Int) + 1 = ((l.count q.1 + (if h = q.1 then 1 else 0) : Nat) : Int)
        rw [if_pos e.symm, e]
        omega
      · rw [if_neg e, if_neg (fun z => e z.symm), this]
        rfl
  · rw [if_neg (fun z => c (any_key.mp z))]
    have hl : h ∉ l := fun z => c ((T.keys h).mpr z)
    refine ⟨?_, fun x => ?_, fun p hp => ?_⟩
    · rw [List.map_append]
      exact nd_snoc T.nd c
    · rw [List.map_append, List.mem_append, List.mem_append, T.keys x]
      rfl
    · rw [cn]
      rcases List.mem_append.mp hp with hp | hp
      · have := T.cnt p hp
        have ne : ¬ h = p.1 := fun z => c (List.mem_map.mpr ⟨p, hp, z.symm⟩)
        rw [if_neg ne, this]
        rfl
      · rw [List.mem_singleton.mp hp]
        show ((l.count h : Nat) : Int) + 1 = ((l.count h + (if h = h then 1 else 0) : Nat) : Int)
        rw [if_pos rfl]
        omega
theorem least_found {ps : List (Addr × Int × Int)} {rs hs : List Int} {k : Nat} {z : Addr × Int × Int} (hsort : (ps.map (·.2)).Pairwise lexLe) (T : Tally (ps.map (·.2)) hs) (hk : ps[k]? = some z) (hp : pRoom rs hs z.2.1 = true) (hn : ∀ y ∈ ps.take k, pRoom rs hs y.2.1 = false) :
    Least (hs.filter (pRoom rs hs)) (some z.2.1) := by
  have key : ∀ b, b ∈ hs ↔ ∃ y ∈ ps, y.2.1 = b := fun b => by
    rw [← T.keys b, List.mem_map]
    constructor
    · rintro ⟨p, hp, e⟩
      obtain ⟨y, hy, rfl⟩ := List.mem_map.mp hp
      exact ⟨y, hy, e⟩
    · rintro ⟨y, hy, e⟩
      exact ⟨y.2, List.mem_map.mpr ⟨y, hy, rfl⟩, e⟩
  obtain ⟨hlt, e⟩ := List.getElem?_eq_some_iff.mp hk
  have e2 : ps = ps.take k ++ (z :: ps.drop (k + 1)) := by
    rw [← e, List.getElem_cons_drop, List.take_append_drop]
  refine ⟨List.mem_filter.mpr ⟨(key _).mpr ⟨z, List.mem_of_getElem? hk, rfl⟩, hp⟩, fun b hb => ?_⟩
  obtain ⟨hb1, hb2⟩ := List.mem_filter.mp hb
  obtain ⟨y, hy, rfl⟩ := (key b).mp hb1
  rw [e2] at hy hsort
  rcases List.mem_append.mp hy with hy | hy
  · rw [hn y hy] at hb2
    cases hb2
  rw [List.map_append, List.map_cons, List.pairwise_append, List.pairwise_cons] at hsort
  rcases List.mem_cons.mp hy with e3 | hy
  · rw [e3]
    exact Int.le_refl _
  · exact hsort.2.1.1 _ (List.mem_map.mpr ⟨y, hy, rfl⟩)
theorem least_none {ps : List (Addr × Int × Int)} {rs hs : List Int} (T : Tally (ps.map (·.2)) hs) (hn : ∀ y ∈ ps, pRoom rs hs y.2.1 = false) : Least (hs.filter (pRoom rs hs)) none := by
  refine list_bool_nil.mpr fun b hb => ?_
  have h2 := (T.keys b).mpr hb
  obtain ⟨p, hp, e⟩ := List.mem_map.mp h2
  obtain ⟨y, hy, rfl⟩ := List.mem_map.mp hp
  rw [← e]
  exact hn y hy
theorem least_sorted {L ns : List Int} (hp : ns.Perm L) (hs : ns.Pairwise (· ≤ ·)) : Least L ns.head? := by
  cases ns with
  | nil => exact hp.symm.eq_nil
  | cons x r =>
    refine ⟨hp.mem_iff.mp List.mem_cons_self, fun b hb => ?_⟩
    rcases List.mem_cons.mp (hp.mem_iff.mpr hb) with e | h
    · rw [e]
      exact Int.le_refl _
    · exact (List.pairwise_cons.mp hs).1 b h
theorem rgV_nat (n : Nat) : rgV 0 (n : Int) = nV (List.range n) := by
  unfold rgV nV
  have e : ((n : Int) - 0).toNat = n := by omega
  rw [e]
  exact List.map_congr_left fun i _ => by
    show V.int (0 + (i : Int)) = V.int (i : Int)
    rw [Int.zero_add]
theorem range_at {n i : Nat} (h : i < n) : (List.range n)[i]? = some i := by
  rw [List.getElem?_range h]

section
variable {P : Program} {w : World} {K : PySem.W.Frag} {mg : Str → Option Value} {base : Heap}
/-- v as hours of n tasks: b tells whether it is such -/
def HrsAt (H : Hp) (v : V) (n : Nat) (b : Bool) : Prop := (b = false ∧ ∃ t, Kd H v t ∧ kitB t "list" = some false) ∨ ∃ a xs, v = .ref a ∧ H a = some (.lst xs) ∧ xs.length ≤ 1000 ∧ (∀ x ∈ xs, ∃ t, Kd H x t) ∧ b = (decide (xs.length = n) && xs.all (isWF 1))
theorem Kd.same {H H' : Hp} {v : V} {t : String} (k : Kd H v t) (s : Same H H') : Kd H' v t := by
  cases k with
  | non => exact .non
  | bl b => exact .bl b
  | int i => exact .int i
  | str x => exact .str x
  | lst e => exact .lst (s _ _ e)
  | tup e => exact .tup (s _ _ e)
theorem HrsAt.same {H H' : Hp} {v : V} {n : Nat} {b : Bool} (h : HrsAt H v n b) (s : Same H H') : HrsAt H' v n b := by
  rcases h with ⟨e, t, k, e2⟩ | ⟨a, xs, e, ha, hl, hk, eb⟩
  · exact .inl ⟨e, t, k.same s, e2⟩
  · exact .inr ⟨a, xs, e, s _ _ ha, hl, fun x hx => (hk x hx).imp fun t k => k.same s, eb⟩
theorem ints_isWF : ∀ xs : List V, xs.all (isWF 1) = true → ∃ hs : List Int, xs = iV hs ∧ ∀ h ∈ hs, 1 ≤ h
  | [], _ => ⟨[], rfl, fun h hh => nomatch hh⟩
  | x :: xs, h => by
    rw [List.all_cons, Bool.and_eq_true] at h
    obtain ⟨hs, e, h1⟩ := ints_isWF xs h.2
    cases x with
    | int i =>
      have hi : 1 ≤ i := of_decide_eq_true h.1
      refine ⟨i :: hs, by rw [e]; rfl, fun y hy => ?_⟩
      rcases List.mem_cons.mp hy with z | hy
      · rw [z]
        exact hi
      · exact h1 y hy
    | _ => cases h.1
theorem HrsAt.ints {H : Hp} {v : V} {n : Nat} (h : HrsAt H v n true) : ∃ a hs, v = .ref a ∧ H a = some (.lst (iV hs)) ∧ hs.length = n ∧ hs.length ≤ 1000 ∧ ∀ x ∈ hs, 1 ≤ x := by
  rcases h with ⟨e, _⟩ | ⟨a, xs, e, ha, hl, hk, eb⟩
  · cases e
  · have eb2 := Bool.and_eq_true_iff.mp eb.symm
    obtain ⟨hs, e2, h1⟩ := ints_isWF xs eb2.2
    subst e2
    have := of_decide_eq_true eb2.1
    rw [iV_len] at this hl
    exact ⟨a, hs, e, ha, this, hl, h1⟩
theorem HrsAt.of {H : Hp} {a : Addr} {hs : List Int} (ha : H a = some (.lst (iV hs))) (hl : hs.length ≤ 1000) (h1 : ∀ x ∈ hs, 1 ≤ x) : HrsAt H (.ref a) hs.length true := by
  refine .inr ⟨a, _, rfl, ha, by rw [iV_len]; exact hl, fun x hx => ?_, ?_⟩
  · obtain ⟨i, _, rfl⟩ := List.mem_map.mp hx
    exact ⟨_, .int i⟩
  · rw [iV_len, decide_eq_true rfl]
    symm
    rw [Bool.true_and, List.all_eq_true]
    intro x hx
    obtain ⟨i, hi, rfl⟩ := List.mem_map.mp hx
    exact decide_eq_true (h1 i hi)
def spAreHours : Sp := fun vs H Q _ => ∃ (J f d n r : Addr) (fs : List Int) (v : V) (b : Bool), vs = [.ref J, v] ∧ H J = some (.tup [.ref f, .ref d, .ref n, .ref r]) ∧ H f = some (.lst (iV fs)) ∧ HrsAt H v fs.length b ∧ ∀ H', Same H H' → Q (.bl b) H'
theorem ok_are_hours (T : Env K mg) : Ok P w K mg base CX0 dd_are_hours "are_hours" 4 ["job", "thing"] spAreHours := by
  obtain ⟨fd_is_hour, D_is_hour, g_is_hour, k_is_hour, b_is_hour, G_is_hour⟩ := ok_is_hour (P := P) (w := w) (base := base) T
  obtain ⟨fd, F⟩ := T.c.def_ 15 (d := dd_are_hours) rfl
  refine ⟨fd, F, T.gl 15 _ rfl, F.kp, F.bindsN fun _ _ _ _ _ _ us hl => match us, hl with | [_, _], _ => rfl, ?_⟩
  refine F.ok sc_are_hours (fun vs H Q E h => ?_) (fun cdv A outer s H vs Q E hr h => ?_)
  · obtain ⟨J, f, d, n, r, fs, v, b, rfl, hJ, hf, hv, q⟩ := h
    rfl
  · obtain ⟨J, f, d, n, r, fs, v, b, rfl, hJ, hf, hv, q⟩ := h
    refine ⟨_, PSs.nox (pss_cons (ps_if (PW.pt (pw_or (pt_not (pt_val (pe_callB call_isi (by rfl) (T.fr 34 _ rfl) (by decide +kernel) (pa_cons (pv 1) (pa_cons (pe_bltn (v := .ty "list") (by rfl) (T.fr 40 _ rfl) (by decide +kernel) rfl) pa_nil))))) (pw_or1 (pt_cmpR op_ne (pe_callB call_len_seq (by rfl) (T.fr 38 _ rfl) (by decide +kernel) (pa_cons (pv 1) pa_nil)) (pe_callB call_len_seq (by rfl) (T.fr 38 _ rfl) (by decide +kernel) (pa_cons (pe_ix ix_tup (pv 0) pe_int (fun _ _ => rfl)) pa_nil)) (nomark _))))) (pss_one (ps_ret pe_bl)) pss_nil)
      (pss_one (ps_ret (pe_callB (cr_all rfl) (by rfl) (T.fr 37 _ rfl) (by decide +kernel) (pa_cons (pe_lc (own := [("hour", 2)]) (g := gName 2) (tt := tYes) (by rfl) sc_are_hours.nd (pi_list (pv 1)) (blkOk_by (own := [("hour", 2)]) (N := N_are_hours) (sc := defScope s_are_hours) (by decide +kernel)) (fun _ _ _ _ _ => (pg_name (i := 2) sc_are_hours.nd rfl (by first | exact Or.inl rfl | exact Or.inr rfl))) (fun _ _ _ _ _ => pts_nil) (fun _ _ _ _ _ => (pe_call G_is_hour (hr.mono (by decide)) (by rfl) g_is_hour k_is_hour b_is_hour .nil pass0 (pa_cons (pv 2) pa_nil)))) pa_nil))))), ?_⟩
    walk_at "u"
    rcases hv with ⟨rfl, t, k, e2⟩ | ⟨a, xs, rfl, ha, hl, hk, eb⟩
    · exact ⟨_, rfl, rIsi_of (b := false) k e2 ⟨_, rfl, iteT (iteT (q _ (Same.refl _)))⟩⟩
    refine ⟨_, rfl, rIsi_of (b := true) (.lst ha) (by decide +kernel) ⟨_, rfl, iteF ?_⟩⟩
    refine ⟨_, rfl, a, _, rfl, .inl (SqL.of ha), _, rfl, _, _, _, .ref f, rfl, rfl, SqT.of hJ, atI_nat (j := 0) rfl, f, _, rfl, .inl (SqL.of hf), rfl, _, rfl, ?_⟩
    rw [iV_len]
    refine ifB (fun c => ?_) (fun c => ?_)
    · have ne : xs.length ≠ fs.length := fun z => by
        rw [z, decide_eq_true rfl] at c
        cases c
      rw [decide_eq_false ne] at eb
      rw [eb] at q
      exact q _ (Same.refl _)
    have en : xs.length = fs.length := by
      have c2 : decide (V.int (xs.length : Int) = V.int (fs.length : Int)) = true := by
        cases z : decide (V.int (xs.length : Int) = V.int (fs.length : Int)) with
        | true => rfl
        | false =>
          rw [z] at c
          cases c
      have c3 := V.int.inj (of_decide_eq_true c2)
      omega
    rw [decide_eq_true en, Bool.true_and] at eb
    refine ⟨_, rfl, a, rfl, ⟨_, SqL.of ha⟩, fun D nD => lc_list (K := K) (a := a) (xs := xs) (fun i H' => Same H H' ∧ H' D = some (.lst (((xs.take i).map (isWF 1)).map V.bl))) ⟨same_upd nD, upd_same⟩ (fun i H' _ hP => SqL.of (hP.1 _ _ ha)) (fun i x H' hx hP => ?_) (fun H' hP => ?_)⟩
    · obtain ⟨sm, hD⟩ := hP
      obtain ⟨t, ht⟩ := hk x (List.mem_of_getElem? hx)
      have hi := (List.getElem?_eq_some_iff.mp hx).1
      refine ⟨rfl, ?_⟩
      walk_at "u"
      refine iteT ⟨_, rfl, x, t, rfl, ht.same sm, _, hD, ?_, same_mut sm nD, ?_⟩
      · rw [List.length_map, List.length_map, List.length_take]
        exact small_lt (by omega)
      · rw [upd_same, all_snoc _ _ _ _ hx, ← bl_app]
    · obtain ⟨sm, hD⟩ := hP
      refine ⟨D, _, rfl, SqL.of hD, ?_⟩
      rw [List.take_length, List.all_map]
      rw [eb] at q
      exact q H' sm
def spCrowds : Sp := fun vs H Q _ => ∃ (a : Addr) (hs : List Int), vs = [.ref a] ∧ H a = some (.lst (iV hs)) ∧ hs.length ≤ 1000 ∧
  ∀ (l : Addr) (ps : List (Addr × Int × Int)) (H' : Hp), Same H H' → H l = none → H' l = some (.lst (ps.map fun z => V.ref z.1)) → (∀ z ∈ ps, H' z.1 = some (.tup [.int z.2.1, .int z.2.2])) → (ps.map (·.2)).Pairwise lexLe → Tally (ps.map (·.2)) hs → ps.length ≤ 1000 → Q (.ref l) H'
theorem ok_crowds (T : Env K mg) : Ok P w K mg base CX0 dd_crowds "crowds" 1 ["hours"] spCrowds := by
  obtain ⟨fd, F⟩ := T.c.def_ 17 (d := dd_crowds) rfl
  refine ⟨fd, F, T.gl 17 _ rfl, F.kp, F.bindsN fun _ _ _ _ _ _ us hl => match us, hl with | [_], _ => rfl, ?_⟩
  refine F.ok sc_crowds (fun vs H Q E h => ?_) (fun cdv A outer s H vs Q E hr h => ?_)
  · obtain ⟨a, hs, rfl, ha, hl, q⟩ := h
    rfl
  · obtain ⟨a, hs, rfl, ha, hl, q⟩ := h
    refine ⟨_, PSs.nox (pss_cons (ps_set (i := 1) sc_crowds.nd rfl (Or.inl rfl) pe_dnewK)
      (pss_cons (ps_for PassesOwn.never rfl (pi_list (pv 0)) (pg_name (i := 2) sc_crowds.nd rfl (Or.inl rfl)) (pss_one (ps_dput (hu_of hr) (pv 1) (pv 2) (pe_op op_add (pe_dget2 (hu_of hr) (pv 1) (pv 2) pe_int ⟨rfl, rfl, rfl, rfl⟩) pe_int) rfl)))
      (pss_one (ps_ret (pe_callB (cr_sortedItemsI rfl) (by rfl) (T.fr 46 _ rfl) (by decide +kernel) (pa_cons (pe_bm0 PySem.F.plainAttrs_dict PySem.F.slot_dict_items PySem.F.type_dict_items mt_itemsI (pv 1)) pa_nil)))))), ?_⟩
    walk_at "u"
    refine fun B nB => ?_
    refine ⟨_, rfl, a, rfl, ⟨_, SqL.of (same_upd nB _ _ ha)⟩, for_list (K := K) (a := a) (xs := iV hs) (fun i σ H' => ∃ m y2, σ = [some (.ref a), some (.ref B), y2] ∧ Same H H' ∧ H' B = some (.dK (m.map entI)) ∧ Tally m (hs.take i) ∧ m.length ≤ i) ⟨[], none, rfl, same_upd nB, upd_same, Tally.nil, Nat.le_refl _⟩ (fun i σ H' _ hP => ?_) (fun i x σ H' hx hP => ?_) (fun σ H' hP => ?_)⟩
    · obtain ⟨m, y2, _, sm, _⟩ := hP
      exact SqL.of (sm _ _ ha)
    · obtain ⟨m, y2, rfl, sm, hB, hT, hm⟩ := hP
      obtain ⟨h, hh, rfl⟩ := iV_of hx
      have hi := (List.getElem?_eq_some_iff.mp hh).1
      refine ⟨_, rfl, B, rfl, .inl ⟨_, .inl hB⟩, _, rfl, _, DGet.k (k := Sum.inl h) hB, ?_⟩
      rw [hT.val h]
      refine ⟨_, _, rfl, rfl, ?_⟩
      refine ⟨_, rfl, _, rfl, B, _, rfl, DPut.k (k := Sum.inl h) hB (by rw [List.length_map]; exact small_lt (by omega)), ?_⟩
      rw [putK_entI]
      refine ⟨_, _, rfl, same_mut sm nB, upd_same, ?_, ?_⟩
      · rw [List.take_add_one, hh]
        exact hT.put h
      · have := putI_len m h (((hs.take i).count h : Nat) + 1)
        omega
    · obtain ⟨m, y2, rfl, sm, hB, hT, hm⟩ := hP
      rw [iV_len] at hT hm
      rw [List.take_length] at hT
      refine ⟨_, rfl, .inr (.inr (.inl ⟨rfl, .inl ⟨_, hB⟩⟩)), B, _, rfl, rfl, hB, fun p np => ?_⟩
      have s2 := same_upd (o := L2.DX.itemsO p B) np
      refine ⟨p, B, m, rfl, upd_same, s2 _ _ hB, by omega, fun H2 l ps s3 hperm hsort hl2 nl htup => ?_⟩
      have e : (ps.map (·.2)).length = m.length := hperm.length_eq
      rw [List.length_map] at e
      refine q l ps H2 ((sm.trans s2).trans s3) ((sm.trans s2).free nl) hl2 htup hsort ⟨?_, fun h => ?_, fun p hp => hT.cnt p (hperm.mem_iff.mp hp)⟩ (by omega)
      · exact (hperm.map (·.1)).nodup_iff.mpr hT.nd
      · exact (hperm.map (·.1)).mem_iff.trans (hT.keys h)
/-- a fault found early -/
def spFirst : Sp := fun vs H Q _ => ∃ (J f d n r a : Addr) (fs : List Int) (ds : List (Option Int)) (zs : List (Addr × Nat × Nat)) (rs hs : List Int), vs = [.ref J, .ref a] ∧ JobAt H J f d n r fs ds zs rs ∧ Valid fs ds zs rs ∧ H a = some (.lst (iV hs)) ∧ hs.length = fs.length ∧ (∀ x ∈ hs, 1 ≤ x) ∧
  ∀ o v H', Same H H' → FltIs fs ds zs rs hs o → FltAt H' v o → Q v H'
theorem ok_first_fault (T : Env K mg) : Ok P w K mg base CX0 dd_first_fault "first_fault" 2 ["job", "hours"] spFirst := by
  obtain ⟨fd_crowds, D_crowds, g_crowds, k_crowds, b_crowds, G_crowds⟩ := ok_crowds (P := P) (w := w) (base := base) T
  obtain ⟨fd_room_within, D_room_within, g_room_within, k_room_within, b_room_within, G_room_within⟩ := ok_room_within (P := P) (w := w) (base := base) T
  obtain ⟨fd, F⟩ := T.c.def_ 16 (d := dd_first_fault) rfl
  refine ⟨fd, F, T.gl 16 _ rfl, F.kp, F.bindsN fun _ _ _ _ _ _ us hl => match us, hl with | [_, _], _ => rfl, ?_⟩
  refine F.ok sc_first_fault (fun vs H Q E h => ?_) (fun cdv A outer s H vs Q E hr h => ?_)
  · obtain ⟨J, f, d, N, r, a, fs, ds, zs, rs, hs, rfl, hJ, hv, ha, hl, h1, q⟩ := h
    rfl
  · obtain ⟨J, f, d, N, r, a, fs, ds, zs, rs, hs, rfl, hJ, hv, ha, hl, h1, q⟩ := h
    refine ⟨_, PSs.nox (pss_cons (ps_asg (pv 0) (pg_tup rfl (pgs_cons (pg_name (i := 2) sc_first_fault.nd rfl (Or.inl rfl)) (pgs_cons (pg_name (i := 3) sc_first_fault.nd rfl (Or.inl rfl)) (pgs_cons (pg_name (i := 4) sc_first_fault.nd rfl (Or.inl rfl)) (pgs_cons (pg_name (i := 5) sc_first_fault.nd rfl (Or.inl rfl)) pgs_nil))))))
      (pss_cons (ps_for PassesOwn.never rfl (pi_enum (by rfl) (T.fr 45 _ rfl) (pa_cons (pv 2) pa_nil)) (pg_tup rfl (pgs_cons (pg_name (i := 6) sc_first_fault.nd rfl (Or.inl rfl)) (pgs_cons (pg_name (i := 7) sc_first_fault.nd rfl (Or.inl rfl)) pgs_nil))) (pss_one (ps_if (pt_cmpR op_lt (pe_ix ix_list (pv 1) (pv 6) (fun _ _ => rfl)) (pv 7) (nomark _)) (pss_one (ps_ret (pe_tup (pa_cons pe_str (pa_cons (pv 6) pa_nil))))) pss_nil)))
      (pss_cons (ps_for PassesOwn.never rfl (pi_enum (by rfl) (T.fr 45 _ rfl) (pa_cons (pv 3) pa_nil)) (pg_tup rfl (pgs_cons (pg_name (i := 6) sc_first_fault.nd rfl (Or.inl rfl)) (pgs_cons (pg_name (i := 8) sc_first_fault.nd rfl (Or.inl rfl)) pgs_nil))) (pss_one (ps_if (PW.pt (pw_and (pt_cmpR op_notN (pv 8) pe_non (nomark _)) (pw_and1 (pt_cmpR op_gt (pe_ix ix_list (pv 1) (pv 6) (fun _ _ => rfl)) (pv 8) (nomark _))))) (pss_one (ps_ret (pe_tup (pa_cons pe_str (pa_cons (pv 6) pa_nil))))) pss_nil)))
      (pss_cons (ps_for PassesOwn.never rfl (pi_list (pv 4)) (pg_tup rfl (pgs_cons (pg_name (i := 9) sc_first_fault.nd rfl (Or.inl rfl)) (pgs_cons (pg_name (i := 10) sc_first_fault.nd rfl (Or.inl rfl)) pgs_nil))) (pss_one (ps_if (pt_cmpR op_ge (pe_ix ix_list (pv 1) (pv 9) (fun _ _ => rfl)) (pe_ix ix_list (pv 1) (pv 10) (fun _ _ => rfl)) (nomark _)) (pss_one (ps_ret (pe_tup (pa_cons pe_str (pa_cons (pv 9) (pa_cons (pv 10) pa_nil)))))) pss_nil)))
      (pss_cons (ps_for PassesOwn.never rfl (pi_list (pe_call G_crowds (hr.mono (by decide)) (by rfl) g_crowds k_crowds b_crowds .nil pass0 (pa_cons (pv 1) pa_nil))) (pg_tup rfl (pgs_cons (pg_name (i := 11) sc_first_fault.nd rfl (Or.inl rfl)) (pgs_cons (pg_name (i := 12) sc_first_fault.nd rfl (Or.inl rfl)) pgs_nil))) (pss_one (ps_if (pt_cmpR op_gt (pv 12) (pe_call G_room_within (hr.mono (by decide)) (by rfl) g_room_within k_room_within b_room_within .nil pass0 (pa_cons (pv 5) (pa_cons (pv 11) (pa_cons (pv 11) pa_nil)))) (nomark _)) (pss_one (ps_ret (pe_tup (pa_cons pe_str (pa_cons (pv 11) pa_nil))))) pss_nil)))
      (pss_one (ps_ret pe_non))))))), ?_⟩
    walk_at "u"
    have fl := hv.fl
    have hat : ∀ {t : Nat}, t < fs.length → ∃ h, hs[t]? = some h ∧ hs.getD t 0 = h ∧ 1 ≤ h := fun {t} ht => by
      obtain ⟨h, hh⟩ : ∃ h, hs[t]? = some h := ⟨_, List.getElem?_eq_getElem (by omega)⟩
      exact ⟨h, hh, getD_of hh, h1 h (List.mem_of_getElem? hh)⟩
    refine ⟨_, rfl, J, _, rfl, SqT.of hJ.top, rfl, _, _, rfl, _, _, rfl, _, _, rfl, _, _, rfl, rfl, ?_⟩
    -- frees
    refine ⟨_, rfl, f, _, rfl, SqL.of hJ.fr, for_it (walk_enum (K := K) (a := f) (xs := iV fs)) (fun i σ H' => ∃ y6 y7, σ = [some (.ref J), some (.ref a), some (.ref f), some (.ref d), some (.ref N), some (.ref r), y6, y7, none, none, none, none, none] ∧ Same H H' ∧ ∀ s < i, pFree fs hs s = false) ⟨none, none, rfl, Same.refl _, fun s hs' => absurd hs' (by omega)⟩ (fun i σ H' _ hP => ?_) (fun i x σ H' H2 hi hP hy => ?_) (fun σ H' hP => ?_)⟩
    · obtain ⟨y6, y7, _, sm, _⟩ := hP
      exact SqL.of (sm _ _ hJ.fr)
    · obtain ⟨y6, y7, rfl, sm, hn⟩ := hP
      obtain ⟨T0, x1, x2, rfl, nT, rfl, e1, e2⟩ := hy
      cases e1
      obtain ⟨z, hz, rfl⟩ := iV_of e2
      rw [iV_len] at hi
      obtain ⟨h, hh, hg, _⟩ := hat hi
      have s2 := sm.trans (same_upd (o := .tup [.int (i : Int), .int z]) nT)
      refine ⟨T0, _, rfl, SqT.of upd_same, rfl, _, _, rfl, _, _, rfl, rfl, ?_⟩
      refine ⟨_, rfl, _, rfl, a, _, _, .int h, rfl, rfl, SqL.of (s2 _ _ ha), atI_nat (iV_get hh), _, rfl, _, _, rfl, rfl, _, rfl, ?_⟩
      have ep : pFree fs hs i = decide (h < z) := by
        unfold pFree
        rw [hg, getD_of hz]
      refine ifB (fun c => ?_) (fun c => ?_)
      · refine ⟨_, rfl, (show 2 ≤ sizeLine by decide), fun p np => ?_⟩
        exact q _ _ _ (s2.trans (same_upd np)) (flt_free hi (ep.trans c) hn) ⟨p, rfl, upd_same⟩
      · exact ⟨_, _, rfl, s2, le_snoc hn (ep.trans c)⟩
    obtain ⟨y6, y7, rfl, s1, F1⟩ := hP
    rw [iV_len] at F1
    have j1 := hJ.same s1
    -- dues
    refine ⟨_, rfl, d, _, rfl, SqL.of j1.du, for_it (walk_enum (K := K) (a := d) (xs := oV ds)) (fun i σ H2 => ∃ y6 y8, σ = [some (.ref J), some (.ref a), some (.ref f), some (.ref d), some (.ref N), some (.ref r), y6, y7, y8, none, none, none, none] ∧ Same H H2 ∧ ∀ s < i, pDue ds hs s = false) ⟨_, none, rfl, s1, fun s hs' => absurd hs' (by omega)⟩ (fun i σ H' _ hP => ?_) (fun i x σ H2 H3 hi hP hy => ?_) (fun σ H2 hP => ?_)⟩
    · obtain ⟨y6, y8, _, sm, _⟩ := hP
      exact SqL.of (sm _ _ hJ.du)
    · obtain ⟨y6, y8, rfl, sm, hn⟩ := hP
      obtain ⟨T0, x1, x2, rfl, nT, rfl, e1, e2⟩ := hy
      cases e1
      obtain ⟨o, ho, hc⟩ := kd_oV (H := H) e2
      rw [oV_len, hv.dl] at hi
      obtain ⟨h, hh, hg, _⟩ := hat hi
      refine ⟨T0, _, rfl, SqT.of upd_same, rfl, _, _, rfl, _, _, rfl, rfl, ?_⟩
      rcases hc with ⟨rfl, rfl⟩ | ⟨z, rfl, rfl⟩
      · have s2 := sm.trans (same_upd (o := .tup [.int (i : Int), .non]) nT)
        refine ⟨_, rfl, rfl, _, rfl, iteF ?_⟩
        refine iteF ⟨_, _, rfl, s2, le_snoc hn ?_⟩
        unfold pDue
        rw [getD_of ho]
      · have s2 := sm.trans (same_upd (o := .tup [.int (i : Int), .int z]) nT)
        refine ⟨_, rfl, rfl, _, rfl, iteT ?_⟩
        refine ⟨_, rfl, _, rfl, a, _, _, .int h, rfl, rfl, SqL.of (s2 _ _ ha), atI_nat (iV_get hh), _, rfl, _, _, rfl, rfl, _, rfl, ?_⟩
        have ep : pDue ds hs i = decide (z < h) := by
          unfold pDue
          rw [getD_of ho, hg]
        refine ifB (fun c => ?_) (fun c => ?_)
        · refine ⟨_, rfl, (show 2 ≤ sizeLine by decide), fun p np => ?_⟩
          exact q _ _ _ (s2.trans (same_upd np)) (flt_due F1 hi (ep.trans c) hn) ⟨p, rfl, upd_same⟩
        · exact ⟨_, _, rfl, s2, le_snoc hn (ep.trans c)⟩
    obtain ⟨y6, y8, rfl, s2, F2⟩ := hP
    rw [oV_len, hv.dl] at F2
    have j2 := hJ.same s2
    -- needs
    refine ⟨_, rfl, N, rfl, ⟨_, SqL.of j2.ne.1⟩, for_list (K := K) (a := N) (xs := zs.map fun z => V.ref z.1) (fun i σ H3 => ∃ y9 y10, σ = [some (.ref J), some (.ref a), some (.ref f), some (.ref d), some (.ref N), some (.ref r), y6, y7, y8, y9, y10, none, none] ∧ Same H H3 ∧ ∀ y ∈ zs.take i, pNeed hs y = false) ⟨none, none, rfl, s2, fun y hy => by simp at hy⟩ (fun i σ H' _ hP => ?_) (fun i x σ H3 hx hP => ?_) (fun σ H3 hP => ?_)⟩
    · obtain ⟨_, _, _, sm, _⟩ := hP
      exact SqL.of (sm _ _ hJ.ne.1)
    · obtain ⟨y9, y10, rfl, sm, hn⟩ := hP
      rw [List.getElem?_map] at hx
      cases ez : zs[i]? with
      | none =>
        rw [ez] at hx
        cases hx
      | some z =>
        rw [ez] at hx
        cases hx
        have hz := List.mem_of_getElem? ez
        obtain ⟨za, zb⟩ := hv.zlt z hz
        obtain ⟨h, hh, hg, _⟩ := hat za
        obtain ⟨h', hh', hg', _⟩ := hat zb
        refine ⟨z.1, _, rfl, SqT.of (sm _ _ (hJ.ne.2 z hz)), rfl, _, _, rfl, _, _, rfl, rfl, ?_⟩
        refine ⟨_, rfl, _, rfl, a, _, _, .int h, rfl, rfl, SqL.of (sm _ _ ha), atI_nat (iV_get hh), _, rfl, _, rfl, a, _, _, .int h', rfl, rfl, SqL.of (sm _ _ ha), atI_nat (iV_get hh'), _, _, rfl, rfl, _, rfl, ?_⟩
        have ep : pNeed hs z = decide (h' ≤ h) := by
          unfold pNeed
          rw [hg, hg']
        refine ifB (fun c => ?_) (fun c => ?_)
        · refine ⟨_, rfl, _, rfl, (show 3 ≤ sizeLine by decide), fun p np => ?_⟩
          exact q _ _ _ (sm.trans (same_upd np)) (flt_need F1 F2 ez (ep.trans c) hn) ⟨p, rfl, upd_same⟩
        · exact ⟨_, _, rfl, sm, take_snoc_all ez hn (ep.trans c)⟩
    obtain ⟨y9, y10, rfl, s3, F3⟩ := hP
    rw [List.length_map, List.take_length] at F3
    have j3 := hJ.same s3
    -- rooms
    refine ⟨_, rfl, a, hs, rfl, s3 _ _ ha, by omega, fun l ps H4 s34 nl hl2 htup hsort hT hps => ?_⟩
    have s4 := s3.trans s34
    refine ⟨l, rfl, ⟨_, SqL.of hl2⟩, for_list (K := K) (a := l) (xs := ps.map fun z => V.ref z.1) (fun i σ H5 => ∃ y11 y12, σ = [some (.ref J), some (.ref a), some (.ref f), some (.ref d), some (.ref N), some (.ref r), y6, y7, y8, y9, y10, y11, y12] ∧ Same H4 H5 ∧ ∀ y ∈ ps.take i, pRoom rs hs y.2.1 = false) ⟨none, none, rfl, Same.refl _, fun y hy => by simp at hy⟩ (fun i σ H' _ hP => ?_) (fun i x σ H5 hx hP => ?_) (fun σ H5 hP => ?_)⟩
    · obtain ⟨_, _, _, sm, _⟩ := hP
      exact SqL.of (sm _ _ hl2)
    · obtain ⟨y11, y12, rfl, sm, hn⟩ := hP
      rw [List.getElem?_map] at hx
      cases ez : ps[i]? with
      | none =>
        rw [ez] at hx
        cases hx
      | some z =>
        rw [ez] at hx
        cases hx
        have hz := List.mem_of_getElem? ez
        have hin : z.2.1 ∈ hs := (hT.keys _).mp (List.mem_map.mpr ⟨z.2, List.mem_map.mpr ⟨z, hz, rfl⟩, rfl⟩)
        have hc : z.2.2 = (hs.count z.2.1 : Nat) := hT.cnt z.2 (List.mem_map.mpr ⟨z, hz, rfl⟩)
        have s5 := s4.trans sm
        refine ⟨z.1, _, rfl, SqT.of (sm _ _ (htup z hz)), rfl, _, _, rfl, _, _, rfl, rfl, ?_⟩
        refine ⟨_, rfl, _, rfl, _, rfl, _, rfl, r, rs, z.2.1, z.2.1, rfl, SqL.of (s5 _ _ hJ.ro), h1 _ hin, by have := hv.ro.len; omega, fun H6 s6 => ⟨_, _, rfl, rfl, _, rfl, ?_⟩⟩
        rw [roomOf_one]
        have ep : pRoom rs hs z.2.1 = decide (roomAt rs z.2.1 < z.2.2) := by
          unfold pRoom
          rw [hc]
        refine ifB (fun c => ?_) (fun c => ?_)
        · refine ⟨_, rfl, (show 2 ≤ sizeLine by decide), fun p np => ?_⟩
          exact q _ _ _ ((s5.trans s6).trans (same_upd np)) (flt_rest F1 F2 F3 (least_found hsort hT ez (ep.trans c) hn)) ⟨p, rfl, upd_same⟩
        · exact ⟨_, _, rfl, sm.trans s6, take_snoc_all ez hn (ep.trans c)⟩
    obtain ⟨y11, y12, rfl, s45, F4⟩ := hP
    rw [List.length_map, List.take_length] at F4
    exact q _ _ _ (s4.trans s45) (flt_rest F1 F2 F3 (least_none hT F4)) rfl
def spIsPlan : Sp := fun vs H Q _ => ∃ (J f d n r : Addr) (fs : List Int) (ds : List (Option Int)) (zs : List (Addr × Nat × Nat)) (rs : List Int) (v : V) (b : Bool), vs = [.ref J, v] ∧ JobAt H J f d n r fs ds zs rs ∧ Valid fs ds zs rs ∧ HrsAt H v fs.length b ∧
  ∀ (c : Bool) H', Same H H' → (b = false → c = false) → (∀ a hs, v = .ref a → H a = some (.lst (iV hs)) → b = true → (c = true ↔ Keeps fs ds zs rs hs)) → Q (.bl c) H'
theorem ok_is_plan (T : Env K mg) : Ok P w K mg base CX0 dd_is_plan "is_plan" 8 ["job", "thing"] spIsPlan := by
  obtain ⟨fd_check_job, D_check_job, g_check_job, k_check_job, b_check_job, G_check_job⟩ := ok_check_job (P := P) (w := w) (base := base) T
  obtain ⟨fd_are_hours, D_are_hours, g_are_hours, k_are_hours, b_are_hours, G_are_hours⟩ := ok_are_hours (P := P) (w := w) (base := base) T
  obtain ⟨fd_first_fault, D_first_fault, g_first_fault, k_first_fault, b_first_fault, G_first_fault⟩ := ok_first_fault (P := P) (w := w) (base := base) T
  obtain ⟨fd, F⟩ := T.c.def_ 13 (d := dd_is_plan) rfl
  refine ⟨fd, F, T.gl 13 _ rfl, F.kp, F.bindsN fun _ _ _ _ _ _ us hl => match us, hl with | [_, _], _ => rfl, ?_⟩
  refine F.ok sc_is_plan (fun vs H Q E h => ?_) (fun cdv A outer s H vs Q E hr h => ?_)
  · obtain ⟨J, f, d, n, r, fs, ds, zs, rs, v, b, rfl, hJ, hv, hb, q⟩ := h
    rfl
  · obtain ⟨J, f, d, n, r, fs, ds, zs, rs, v, b, rfl, hJ, hv, hb, q⟩ := h
    refine ⟨_, PSs.nox (pss_cons (ps_expr (pe_call G_check_job (hr.mono (by decide)) (by rfl) g_check_job k_check_job b_check_job .nil pass0 (pa_cons (pv 0) pa_nil)))
      (pss_one (ps_ret (pe_and (pe_call G_are_hours (hr.mono (by decide)) (by rfl) g_are_hours k_are_hours b_are_hours .nil pass0 (pa_cons (pv 0) (pa_cons (pv 1) pa_nil))) (pe_one (pe_cmp (pc_isN (pe_call G_first_fault (hr.mono (by decide)) (by rfl) g_first_fault k_first_fault b_first_fault .nil pass0 (pa_cons (pv 0) (pa_cons (pv 1) pa_nil)))) rfl)))))), ?_⟩
    walk_at "u"
    refine ⟨_, rfl, J, f, d, n, r, fs, ds, zs, rs, rfl, hJ, hv, fun H1 s1 => ?_⟩
    have j1 := hJ.same s1
    refine ⟨_, rfl, _, rfl, J, f, d, n, r, fs, v, b, rfl, j1.top, j1.fr, hb.same s1, fun H2 s2 => ⟨_, rfl, ?_⟩⟩
    refine ifB (fun c => ?_) (fun c => ?_)
    · subst c
      obtain ⟨a, hs, rfl, ha, hl, _, h1⟩ := hb.ints
      have s12 := s1.trans s2
      refine ⟨_, rfl, _, rfl, J, f, d, n, r, a, fs, ds, zs, rs, hs, rfl, hJ.same s12, hv, s12 _ _ ha, hl, h1, fun o v' H3 s3 ho hv' => ?_⟩
      refine q _ _ (s12.trans s3) (fun z => Bool.noConfusion z) fun a' hs' e ha' _ => ?_
      cases e
      have e2 : iV hs = iV hs' := HO.lst.inj (Option.some.inj (ha.symm.trans ha'))
      have e3 : hs = hs' := iV_inj e2
      subst e3
      rw [← ho.none_iff, decide_eq_true_iff]
      cases o with
      | none =>
        have e : v' = .non := hv'
        exact ⟨fun _ => rfl, fun _ => e⟩
      | some fl =>
        obtain ⟨p, e, _⟩ := hv'
        subst e
        exact ⟨fun z => (by cases z), fun z => (by cases z)⟩
    · subst c
      exact q false _ (s1.trans s2) (fun _ => rfl) fun a' hs' e ha' z => Bool.noConfusion z
def spFault (K : PySem.W.Frag) : Sp := fun vs H Q E => ∃ (J f d n r : Addr) (fs : List Int) (ds : List (Option Int)) (zs : List (Addr × Nat × Nat)) (rs : List Int) (v : V) (b : Bool), vs = [.ref J, v] ∧ JobAt H J f d n r fs ds zs rs ∧ Valid fs ds zs rs ∧ HrsAt H v fs.length b ∧
  (b = false → ∀ H', Same H H' → E (.ref (He.ga K "NoHours")) none H') ∧ (b = true → ∀ a hs, v = .ref a → H a = some (.lst (iV hs)) → ∀ o v' H', Same H H' → FltIs fs ds zs rs hs o → FltAt H' v' o → Q v' H')
theorem ok_fault (T : Env K mg) : Ok P w K mg base (L2.CX P w) dd_fault "fault" 8 ["job", "hours"] (spFault K) := by
  obtain ⟨fd_check_job, D_check_job, g_check_job, k_check_job, b_check_job, G_check_job⟩ := ok_check_job (P := P) (w := w) (base := base) T
  obtain ⟨fd_first_fault, D_first_fault, g_first_fault, k_first_fault, b_first_fault, G_first_fault⟩ := ok_first_fault (P := P) (w := w) (base := base) T
  obtain ⟨fd_are_hours, D_are_hours, g_are_hours, k_are_hours, b_are_hours, G_are_hours⟩ := ok_are_hours (P := P) (w := w) (base := base) T
  obtain ⟨fd, F⟩ := T.c.def_ 14 (d := dd_fault) rfl
  refine ⟨fd, F, T.gl 14 _ rfl, F.kp, F.bindsN fun _ _ _ _ _ _ us hl => match us, hl with | [_, _], _ => rfl, ?_⟩
  refine F.ok sc_fault (fun vs H Q E h => ?_) (fun cdv A outer s H vs Q E hr h => ?_)
  · obtain ⟨J, f, d, n, r, fs, ds, zs, rs, v, b, rfl, hJ, hv, hb, qe, q⟩ := h
    rfl
  · obtain ⟨J, f, d, n, r, fs, ds, zs, rs, v, b, rfl, hJ, hv, hb, qe, q⟩ := h
    refine ⟨_, (pss_cons (ps_expr (pe_call G_check_job (hr.mono (by decide)) (by rfl) g_check_job k_check_job b_check_job .nil pass0 (pa_cons (pv 0) pa_nil)))
      (pss_cons (ps_if (pt_not (pt_val (pe_call G_are_hours (hr.mono (by decide)) (by rfl) g_are_hours k_are_hours b_are_hours .nil pass0 (pa_cons (pv 0) (pa_cons (pv 1) pa_nil))))) (pss_one (ps_raise rfl (takes_of rfl rfl rfl rfl) (pmk_own PySem.F.excBase_ValueError (T.xc 57 _ rfl).1 (T.gl 54 _ rfl) (T.xc 57 _ rfl).2.1 (raises_own (T.xc 57 _ rfl).2.2.1 (T.xc 57 _ rfl).2.2.2) rfl))) pss_nil)
      (pss_one (ps_ret (pe_call G_first_fault (hr.mono (by decide)) (by rfl) g_first_fault k_first_fault b_first_fault .nil pass0 (pa_cons (pv 0) (pa_cons (pv 1) pa_nil))))))), ?_⟩
    walk_at "u"
    refine ⟨_, rfl, J, f, d, n, r, fs, ds, zs, rs, rfl, hJ, hv, fun H1 s1 => ?_⟩
    have j1 := hJ.same s1
    refine ⟨_, rfl, _, rfl, J, f, d, n, r, fs, v, b, rfl, j1.top, j1.fr, hb.same s1, fun H2 s2 => ⟨_, rfl, ?_⟩⟩
    have s12 := s1.trans s2
    cases b with
    | false => exact iteT (qe rfl _ s12)
    | true =>
      obtain ⟨a, hs, rfl, ha, hl, _, h1⟩ := hb.ints
      refine iteF ⟨_, rfl, _, rfl, J, f, d, n, r, a, fs, ds, zs, rs, hs, rfl, hJ.same s12, hv, s12 _ _ ha, hl, h1, fun o v' H3 s3 ho hv' => ?_⟩
      exact q rfl a hs rfl ha o v' H3 (s12.trans s3) ho hv'


theorem pe_K {X : Cx} {K : PySem.W.Frag} {T : String} {r : V → List V → Hp → VK → Prop} {to : TE} {t : TA} {e : Expr} (hK : X.K = K) (h : PE X e (tBM X.K T r to t)) : PE X e (tBM K T r to t) := by
  subst hK
  exact h
def spLWhole : Sp := fun vs H Q _ => ∃ (x : V) (t : String), vs = [x] ∧ Kd H x t ∧ Q (.bl (isW x)) H
theorem ok__law_whole (T : Env K mg) : Ok P w K mg base CX0 dd__law_whole "_law_whole" 1 ["_law_thing"] spLWhole := by
  obtain ⟨fd, F⟩ := T.c.def_ 27 (d := dd__law_whole) rfl
  refine ⟨fd, F, T.gl 27 _ rfl, F.kp, F.bindsN fun _ _ _ _ _ _ us hl => match us, hl with | [_], _ => rfl, ?_⟩
  refine F.ok sc__law_whole (fun vs H Q E h => ?_) (fun cdv A outer s H vs Q E hr h => ?_)
  · obtain ⟨x, t, rfl, kd, q⟩ := h
    rfl
  · obtain ⟨x, t, rfl, kd, q⟩ := h
    refine ⟨_, PSs.nox (pss_one (ps_ret (pe_and (pe_callB call_isi (by rfl) (T.fr 34 _ rfl) (by decide +kernel) (pa_cons (pv 0) (pa_cons (pe_bltn (v := .ty "int") (by rfl) (T.fr 35 _ rfl) (by decide +kernel) rfl) pa_nil))) (pe_one (pe_not (pe_callB call_isi (by rfl) (T.fr 34 _ rfl) (by decide +kernel) (pa_cons (pv 0) (pa_cons (pe_bltn (v := .ty "bool") (by rfl) (T.fr 36 _ rfl) (by decide +kernel) rfl) pa_nil)))))))), ?_⟩
    walk_at "u"
    cases kd with
    | non => exact ⟨_, rfl, rIsi_of .non (by decide +kernel) ⟨_, rfl, iteF q⟩⟩
    | bl b => exact ⟨_, rfl, rIsi_of (.bl b) (by decide +kernel) ⟨_, rfl, iteT ⟨_, rfl, rIsi_of (b := true) (.bl b) (by decide +kernel) ⟨_, rfl, q⟩⟩⟩⟩
    | int i => exact ⟨_, rfl, rIsi_of (.int i) (by decide +kernel) ⟨_, rfl, iteT ⟨_, rfl, rIsi_of (b := false) (.int i) (by decide +kernel) ⟨_, rfl, q⟩⟩⟩⟩
    | str z => exact ⟨_, rfl, rIsi_of (.str z) (by decide +kernel) ⟨_, rfl, iteF q⟩⟩
    | lst e => exact ⟨_, rfl, rIsi_of (.lst e) (by decide +kernel) ⟨_, rfl, iteF q⟩⟩
    | tup e => exact ⟨_, rfl, rIsi_of (.tup e) (by decide +kernel) ⟨_, rfl, iteF q⟩⟩
def spKeeps : Sp := fun vs H Q _ => ∃ (J f d n r a : Addr) (fs : List Int) (ds : List (Option Int)) (zs : List (Addr × Nat × Nat)) (rs hs : List Int), vs = [.ref J, .ref a] ∧ JobAt H J f d n r fs ds zs rs ∧ Valid fs ds zs rs ∧ H a = some (.lst (iV hs)) ∧ hs.length = fs.length ∧ (∀ x ∈ hs, 1 ≤ x) ∧
  ∀ (c : Bool) H', Same H H' → (c = true ↔ Keeps fs ds zs rs hs) → Q (.bl c) H'
theorem ok__law_keeps (T : Env K mg) : Ok P w K mg base CX0 dd__law_keeps "_law_keeps" 2 ["_law_job_here", "_law_hours_here"] spKeeps := by
  obtain ⟨fd__law_room, D__law_room, g__law_room, k__law_room, b__law_room, G__law_room⟩ := ok__law_room (P := P) (w := w) (base := base) T
  obtain ⟨fd, F⟩ := T.c.def_ 26 (d := dd__law_keeps) rfl
  refine ⟨fd, F, T.gl 26 _ rfl, F.kp, F.bindsN fun _ _ _ _ _ _ us hl => match us, hl with | [_, _], _ => rfl, ?_⟩
  refine F.ok sc__law_keeps (fun vs H Q E h => ?_) (fun cdv A outer s H vs Q E hr h => ?_)
  · obtain ⟨J, f, d, N, r, a, fs, ds, zs, rs, hs, rfl, hJ, hv, ha, hl, h1, q⟩ := h
    rfl
  · obtain ⟨J, f, d, N, r, a, fs, ds, zs, rs, hs, rfl, hJ, hv, ha, hl, h1, q⟩ := h
    refine ⟨_, PSs.nox (pss_cons (ps_asg (pv 0) (pg_tup rfl (pgs_cons (pg_name (i := 2) sc__law_keeps.nd rfl (Or.inl rfl)) (pgs_cons (pg_name (i := 3) sc__law_keeps.nd rfl (Or.inl rfl)) (pgs_cons (pg_name (i := 4) sc__law_keeps.nd rfl (Or.inl rfl)) (pgs_cons (pg_name (i := 5) sc__law_keeps.nd rfl (Or.inr rfl)) pgs_nil))))))
      (pss_cons (ps_for PassesOwn.never rfl (pi_range1 (by rfl) (T.fr 42 _ rfl) (pa_cons (pe_callB call_len_seq (by rfl) (T.fr 38 _ rfl) (by decide +kernel) (pa_cons (pv 2) pa_nil)) pa_nil)) (pg_name (i := 6) sc__law_keeps.nd rfl (Or.inl rfl)) (pss_one (ps_if (PW.pt (pw_or (pt_cmpR op_lt (pe_ix ix_list (pv 1) (pv 6) (fun _ _ => rfl)) (pe_ix ix_list (pv 2) (pv 6) (fun _ _ => rfl)) (nomark _)) (pw_or1 (PW.pt (pw_and (pt_cmpR op_notN (pe_ix ix_list (pv 3) (pv 6) (fun _ _ => rfl)) pe_non (nomark _)) (pw_and1 (pt_cmpR op_gt (pe_ix ix_list (pv 1) (pv 6) (fun _ _ => rfl)) (pe_ix ix_list (pv 3) (pv 6) (fun _ _ => rfl)) (nomark _)))))))) (pss_one (ps_ret pe_bl)) pss_nil)))
      (pss_cons (ps_if (pt_cmpR (op_neD hr.units) (pe_lc (own := [("_law_need", 7)]) (g := gName 7) (by rfl) sc__law_keeps.nd (pi_list (pv 4)) (blkOk_by (own := [("_law_need", 7)]) (N := N__law_keeps) (sc := defScope s__law_keeps) (by decide +kernel)) (fun _ _ _ _ _ => (pg_name (i := 7) sc__law_keeps.nd rfl (by first | exact Or.inl rfl | exact Or.inr rfl))) (fun _ _ _ _ _ => (pts_one (pt_cmpR op_ge (pe_ix (r := rIxL K) ix_list (pv 1) (pe_ix (r := rIxT K) ix_tup (pv 7) pe_int (fun _ _ => rfl)) (fun _ _ => rfl)) (pe_ix (r := rIxL K) ix_list (pv 1) (pe_ix (r := rIxT K) ix_tup (pv 7) pe_int (fun _ _ => rfl)) (fun _ _ => rfl)) (nomark _)))) (fun _ _ _ _ _ => (pv 7))) (pe_lst pa_nil) (nomark _)) (pss_one (ps_ret pe_bl)) pss_nil)
      (pss_one (ps_ret (pe_cmpR (op_eqD hr.units) (pe_lc (own := [("_law_hour", 8)]) (g := gName 8) (by rfl) sc__law_keeps.nd (pi_list (pv 1)) (blkOk_by (own := [("_law_hour", 8)]) (N := N__law_keeps) (sc := defScope s__law_keeps) (by decide +kernel)) (fun _ _ _ _ _ => (pg_name (i := 8) sc__law_keeps.nd rfl (by first | exact Or.inl rfl | exact Or.inr rfl))) (fun _ _ _ _ _ => (pts_one (pt_cmpR op_gt (pe_K (K := K) rfl (pe_bm (r := rCntI K) PySem.F.plainAttrs_list PySem.F.slot_list_count PySem.F.type_list_count mt_lcount (pv 1) (pa_cons (pv 8) pa_nil))) (pe_call G__law_room (hr.mono (by decide)) (by rfl) g__law_room k__law_room b__law_room .nil pass0 (pa_cons (pv 5) (pa_cons (pv 8) pa_nil))) (nomark _)))) (fun _ _ _ _ _ => (pv 8))) (pe_lst pa_nil) (nomark _))))))), ?_⟩
    walk_at "u"
    have fl := hv.fl
    have hat : ∀ {t : Nat}, t < fs.length → ∃ h, hs[t]? = some h ∧ hs.getD t 0 = h ∧ 1 ≤ h := fun {t} ht => by
      obtain ⟨h, hh⟩ : ∃ h, hs[t]? = some h := ⟨_, List.getElem?_eq_getElem (by omega)⟩
      exact ⟨h, hh, getD_of hh, h1 h (List.mem_of_getElem? hh)⟩
    refine ⟨_, rfl, J, _, rfl, SqT.of hJ.top, rfl, _, _, rfl, _, _, rfl, _, _, rfl, _, _, rfl, rfl, ?_⟩
    refine ⟨_, rfl, f, _, rfl, .inl (SqL.of hJ.fr), ?_⟩
    rw [iV_len]
    refine ⟨_, rfl, by omega, by omega, for_range (lo := 0) (n := fs.length) (fun i σ H' => ∃ y6, σ = [some (.ref J), some (.ref a), some (.ref f), some (.ref d), some (.ref N), some (.ref r), y6, none, none] ∧ Same H H' ∧ (∀ s < i, pFree fs hs s = false) ∧ ∀ s < i, pDue ds hs s = false) ⟨none, rfl, Same.refl _, fun s hs' => absurd hs' (by omega), fun s hs' => absurd hs' (by omega)⟩ (fun i σ H' hi hP => ?_) (fun σ H' hP => ?_)⟩
    · obtain ⟨y6, rfl, sm, hn1, hn2⟩ := hP
      obtain ⟨h, hh, hg, _⟩ := hat hi
      obtain ⟨z, hz⟩ : ∃ z, fs[i]? = some z := ⟨_, List.getElem?_eq_getElem hi⟩
      obtain ⟨o, ho⟩ : ∃ o, ds[i]? = some o := ⟨_, List.getElem?_eq_getElem (by rw [hv.dl]; exact hi)⟩
      have hov : (oV ds)[i]? = some (oO o) := by
        unfold oV
        rw [List.getElem?_map, ho]
        rfl
      have e1 : (0 : Int) + (i : Int) = (i : Int) := by omega
      rw [e1]
      have ep : pFree fs hs i = decide (h < z) := by
        unfold pFree
        rw [hg, getD_of hz]
      have no : (pFree fs hs i = true ∨ pDue ds hs i = true) → ((false = true) ↔ Keeps fs ds zs rs hs) := fun c => ⟨fun z => Bool.noConfusion z, fun k => by
        rcases c with c | c
        · rw [k.1 i hi] at c
          exact c
        · rw [k.2.1 i hi] at c
          exact c⟩
      have ha' := sm _ _ ha
      refine ⟨_, rfl, _, rfl, a, _, _, .int h, rfl, rfl, SqL.of ha', atI_nat (iV_get hh), _, rfl, _, rfl, f, _, _, .int z, rfl, rfl, SqL.of (sm _ _ hJ.fr), atI_nat (iV_get hz), _, _, rfl, rfl, _, rfl, ifB (fun c => ?_) (fun c => ?_)⟩
      · exact iteT (q false _ sm (no (.inl (ep.trans c))))
      refine ⟨_, rfl, _, rfl, d, _, _, oO o, rfl, rfl, SqL.of (sm _ _ hJ.du), atI_nat hov, rfl, _, rfl, ?_⟩
      cases o with
      | none =>
        refine iteF (iteF ⟨_, rfl, sm, le_snoc hn1 (ep.trans c), le_snoc hn2 ?_⟩)
        unfold pDue
        rw [getD_of ho]
      | some y =>
        have ep2 : pDue ds hs i = decide (y < h) := by
          unfold pDue
          rw [getD_of ho, hg]
        refine iteT ⟨_, rfl, _, rfl, a, _, _, .int h, rfl, rfl, SqL.of ha', atI_nat (iV_get hh), _, rfl, _, rfl, d, _, _, .int y, rfl, rfl, SqL.of (sm _ _ hJ.du), atI_nat hov, _, _, rfl, rfl, _, rfl, ?_⟩
        refine ifB (fun c2 => ?_) (fun c2 => ?_)
        · exact q false _ sm (no (.inr (ep2.trans c2)))
        · exact ⟨_, rfl, sm, le_snoc hn1 (ep.trans c), le_snoc hn2 (ep2.trans c2)⟩
    obtain ⟨y6, rfl, s1, F1, F2⟩ := hP
    have j1 := hJ.same s1
    refine ⟨_, rfl, N, rfl, ⟨_, SqL.of j1.ne.1⟩, fun D nD => lc_list (K := K) (a := N) (xs := zs.map fun z => V.ref z.1) (fun i H2 => Same H' H2 ∧ H2 D = some (.lst (((zs.take i).filter (pNeed hs)).map fun z => V.ref z.1))) ⟨same_upd nD, upd_same⟩ (fun i H2 _ hP => SqL.of (hP.1 _ _ j1.ne.1)) (fun i x H2 hx hP => ?_) (fun H2 hP => ?_)⟩
    · obtain ⟨sm, hD⟩ := hP
      rw [List.getElem?_map] at hx
      cases ez : zs[i]? with
      | none =>
        rw [ez] at hx
        cases hx
      | some z =>
        rw [ez] at hx
        cases hx
        have hz := List.mem_of_getElem? ez
        have hi := (List.getElem?_eq_some_iff.mp ez).1
        have lz := hv.zl
        obtain ⟨za, zb⟩ := hv.zlt z hz
        obtain ⟨h, hh, hg, _⟩ := hat za
        obtain ⟨h', hh', hg', _⟩ := hat zb
        have hzt := sm _ _ (j1.ne.2 z hz)
        have ha' := sm _ _ (s1 _ _ ha)
        refine ⟨rfl, ?_⟩
        walk_at "u"
        refine ⟨_, rfl, _, rfl, z.1, _, _, .int z.2.1, rfl, rfl, SqT.of hzt, atI_nat (j := 0) rfl, a, _, _, .int h, rfl, rfl, SqL.of ha', atI_nat (iV_get hh), _, rfl, _, rfl, z.1, _, _, .int z.2.2, rfl, rfl, SqT.of hzt, atI_nat (j := 1) rfl, a, _, _, .int h', rfl, rfl, SqL.of ha', atI_nat (iV_get hh'), _, _, rfl, rfl, _, rfl, ?_⟩
        have ep : pNeed hs z = decide (h' ≤ h) := by
          unfold pNeed
          rw [hg, hg']
        refine ifB (fun c => ?_) (fun c => ?_)
        · refine ⟨_, rfl, _, hD, ?_, same_mut sm nD, ?_⟩
          · have e := List.length_filter_le (pNeed hs) (zs.take i)
            rw [List.length_take] at e
            rw [List.length_map]
            exact small_lt (by omega)
          · rw [upd_same, filter_snoc _ ez, if_pos (ep.trans c), List.map_append]
            rfl
        · refine ⟨sm, ?_⟩
          rw [filter_snoc _ ez, if_neg (by rw [ep, c]; exact Bool.false_ne_true)]
          exact hD
    obtain ⟨s2, hD⟩ := hP
    rw [List.length_map, List.take_length] at hD
    have j2 := j1.same s2
    refine ⟨(show 0 ≤ sizeLine by decide), fun e0 ne0 => ?_⟩
    have s23 : Same H2 (upd H2 e0 (.lst [])) := same_upd ne0
    have s3 := (s1.trans s2).trans s23
    refine ⟨.list ((zs.filter (pNeed hs)).map zD), .list [], .lst (SqL.of (s23 _ _ hD)) (dpAll_zs fun z hz => s23 _ _ (j2.ne.2 z (List.mem_filter.mp hz).1)), .lst (SqL.of upd_same) .nil, shaped_map zD (fun z => ⟨rfl, (show 1 ≤ 10 by decide)⟩) _, rfl, _, rfl, ?_⟩
    rw [eqv_list_nil]
    refine ifB (fun c => ?_) (fun c => ?_)
    · refine q false _ s3 ⟨fun z => Bool.noConfusion z, fun k => ?_⟩
      have := (isEmpty_filter zD (pNeed hs) zs).mpr k.2.2.1
      rw [this] at c
      cases c
    have F3 : ∀ y ∈ zs, pNeed hs y = false := (isEmpty_filter zD (pNeed hs) zs).mp (by
      cases e : ((zs.filter (pNeed hs)).map zD).isEmpty with
      | true => rfl
      | false =>
        rw [e] at c
        cases c)
    have ha3 := s3 _ _ ha
    have hr3 := s3 _ _ hJ.ro
    refine ⟨_, rfl, a, rfl, ⟨_, SqL.of ha3⟩, fun D2 nD2 => lc_list (K := K) (a := a) (xs := iV hs) (fun i H4 => Same (upd H2 e0 (.lst [])) H4 ∧ H4 D2 = some (.lst (iV ((hs.take i).filter (pRoom rs hs))))) ⟨same_upd nD2, upd_same⟩ (fun i H4 _ hP => SqL.of (hP.1 _ _ ha3)) (fun i x H4 hx hP => ?_) (fun H4 hP => ?_)⟩
    · obtain ⟨sm, hD2⟩ := hP
      obtain ⟨h, hh, rfl⟩ := iV_of hx
      have hin := List.mem_of_getElem? hh
      have hi := (List.getElem?_eq_some_iff.mp hh).1
      refine ⟨rfl, ?_⟩
      walk_at "u"
      refine ⟨_, rfl, .inl ⟨rfl, _, SqL.of (sm _ _ ha3)⟩, _, rfl, a, hs, h, rfl, rfl, SqL.of (sm _ _ ha3), _, rfl, _, rfl, r, rs, h, rfl, SqL.of (sm _ _ hr3), h1 h hin, _, _, rfl, rfl, _, rfl, ?_⟩
      refine ifB (fun c => ?_) (fun c => ?_)
      · refine ⟨_, rfl, _, hD2, ?_, same_mut sm nD2, ?_⟩
        · have e := List.length_filter_le (pRoom rs hs) (hs.take i)
          rw [List.length_take] at e
          rw [iV_len]
          exact small_lt (by omega)
        · rw [upd_same, filter_snoc _ hh, if_pos (show pRoom rs hs h = true from c), ← iV_app]
      · refine ⟨sm, ?_⟩
        rw [filter_snoc _ hh, if_neg (by rw [show pRoom rs hs h = false from c]; exact Bool.false_ne_true)]
        exact hD2
    obtain ⟨s4, hD2⟩ := hP
    rw [iV_len, List.take_length] at hD2
    refine ⟨(show 0 ≤ sizeLine by decide), fun e1 ne1 => ?_⟩
    have s45 : Same H4 (upd H4 e1 (.lst [])) := same_upd ne1
    refine ⟨.list ((hs.filter (pRoom rs hs)).map .int), .list [], .lst (SqL.of (s45 _ _ hD2)) (dpAll_iV _), .lst (SqL.of upd_same) .nil, shaped_map .int (fun z => ⟨rfl, (show 0 ≤ 10 by decide)⟩) _, rfl, ?_⟩
    rw [eqv_list_nil]
    refine q _ _ ((s3.trans s4).trans s45) ((isEmpty_filter PyData.int (pRoom rs hs) hs).trans ⟨fun F4 => ⟨F1, F2, F3, F4⟩, fun k => k.2.2.2⟩)
theorem ok__law_is_plan (T : Env K mg) : Ok P w K mg base CX0 dd__law_is_plan "_law_is_plan" 3 ["_law_job_here", "_law_thing"] spKeeps := by
  obtain ⟨fd__law_keeps, D__law_keeps, g__law_keeps, k__law_keeps, b__law_keeps, G__law_keeps⟩ := ok__law_keeps (P := P) (w := w) (base := base) T
  obtain ⟨fd__law_whole, D__law_whole, g__law_whole, k__law_whole, b__law_whole, G__law_whole⟩ := ok__law_whole (P := P) (w := w) (base := base) T
  obtain ⟨fd, F⟩ := T.c.def_ 28 (d := dd__law_is_plan) rfl
  refine ⟨fd, F, T.gl 28 _ rfl, F.kp, F.bindsN fun _ _ _ _ _ _ us hl => match us, hl with | [_, _], _ => rfl, ?_⟩
  refine F.ok sc__law_is_plan (fun vs H Q E h => ?_) (fun cdv A outer s H vs Q E hr h => ?_)
  · obtain ⟨J, f, d, N, r, a, fs, ds, zs, rs, hs, rfl, hJ, hv, ha, hl, h1, q⟩ := h
    rfl
  · obtain ⟨J, f, d, N, r, a, fs, ds, zs, rs, hs, rfl, hJ, hv, ha, hl, h1, q⟩ := h
    refine ⟨_, PSs.nox (pss_cons (ps_if (PW.pt (pw_or (pt_not (pt_val (pe_callB call_isi (by rfl) (T.fr 34 _ rfl) (by decide +kernel) (pa_cons (pv 1) (pa_cons (pe_bltn (v := .ty "list") (by rfl) (T.fr 40 _ rfl) (by decide +kernel) rfl) pa_nil))))) (pw_or1 (pt_cmpR op_ne (pe_callB call_len_seq (by rfl) (T.fr 38 _ rfl) (by decide +kernel) (pa_cons (pv 1) pa_nil)) (pe_callB call_len_seq (by rfl) (T.fr 38 _ rfl) (by decide +kernel) (pa_cons (pe_ix ix_tup (pv 0) pe_int (fun _ _ => rfl)) pa_nil)) (nomark _))))) (pss_one (ps_ret pe_bl)) pss_nil)
      (pss_cons (ps_if (pt_cmpR (op_neD hr.units) (pe_lc (own := [("_law_hour", 2)]) (g := gName 2) (by rfl) sc__law_is_plan.nd (pi_list (pv 1)) (blkOk_by (own := [("_law_hour", 2)]) (N := N__law_is_plan) (sc := defScope s__law_is_plan) (by decide +kernel)) (fun _ _ _ _ _ => (pg_name (i := 2) sc__law_is_plan.nd rfl (by first | exact Or.inl rfl | exact Or.inr rfl))) (fun _ _ _ _ _ => (pts_one (PW.pt (pw_or (pt_not (pt_val (pe_call G__law_whole (hr.mono (by decide)) (by rfl) g__law_whole k__law_whole b__law_whole .nil pass0 (pa_cons (pv 2) pa_nil)))) (pw_or1 (pt_cmpR op_lt (pv 2) pe_int (nomark _))))))) (fun _ _ _ _ _ => (pv 2))) (pe_lst pa_nil) (nomark _)) (pss_one (ps_ret pe_bl)) pss_nil)
      (pss_one (ps_ret (pe_call G__law_keeps (hr.mono (by decide)) (by rfl) g__law_keeps k__law_keeps b__law_keeps .nil pass0 (pa_cons (pv 0) (pa_cons (pv 1) pa_nil))))))), ?_⟩
    walk_at "u"
    have fl := hv.fl
    refine ⟨_, rfl, rIsi_of (b := true) (.lst ha) (by decide +kernel) ⟨_, rfl, iteF ?_⟩⟩
    refine ⟨_, rfl, a, _, rfl, .inl (SqL.of ha), _, rfl, _, _, _, .ref f, rfl, rfl, SqT.of hJ.top, atI_nat (j := 0) rfl, f, _, rfl, .inl (SqL.of hJ.fr), rfl, _, rfl, ?_⟩
    rw [iV_len, iV_len, hl]
    refine iteNS rfl ?_
    refine ⟨_, rfl, a, rfl, ⟨_, SqL.of ha⟩, fun D nD => lc_list (K := K) (a := a) (xs := iV hs) (fun i H' => Same H H' ∧ H' D = some (.lst [])) ⟨same_upd nD, upd_same⟩ (fun i H' _ hP => SqL.of (hP.1 _ _ ha)) (fun i x H' hx hP => ?_) (fun H' hP => ?_)⟩
    · obtain ⟨sm, hD⟩ := hP
      obtain ⟨h, hh, rfl⟩ := iV_of hx
      have hin := h1 h (List.mem_of_getElem? hh)
      refine ⟨rfl, ?_⟩
      walk_at "u"
      refine ⟨_, rfl, _, _, rfl, .int h, _, rfl, iteF ⟨_, rfl, _, _, rfl, rfl, _, rfl, ?_⟩⟩
      rw [decide_eq_false (by omega)]
      exact iteF ⟨sm, hD⟩
    obtain ⟨s1, hD⟩ := hP
    refine ⟨(show 0 ≤ sizeLine by decide), fun e0 ne0 => ?_⟩
    have s12 : Same H' (upd H' e0 (.lst [])) := same_upd ne0
    refine ⟨.list [], .list [], .lst (SqL.of (s12 _ _ hD)) .nil, .lst (SqL.of upd_same) .nil, rfl, rfl, _, rfl, iteF ?_⟩
    have s2 := s1.trans s12
    exact ⟨_, rfl, _, rfl, J, f, d, N, r, a, fs, ds, zs, rs, hs, rfl, hJ.same s2, hv, s2 _ _ ha, hl, h1, fun c H3 s3 hc => q c H3 (s2.trans s3) hc⟩
def spLFault : Sp := fun vs H Q _ => ∃ (J f d n r a : Addr) (fs : List Int) (ds : List (Option Int)) (zs : List (Addr × Nat × Nat)) (rs hs : List Int), vs = [.ref J, .ref a] ∧ JobAt H J f d n r fs ds zs rs ∧ Valid fs ds zs rs ∧ H a = some (.lst (iV hs)) ∧ hs.length = fs.length ∧ (∀ x ∈ hs, 1 ≤ x) ∧
  ∀ o v H', Same H H' → FltIs fs ds zs rs hs o → FltAt H' v o → Q v H'
/-- a list of tuples that stand for faults -/
def FL (H : Hp) (D : Addr) (zl : List (Addr × Flt)) : Prop := H D = some (.lst (zl.map fun z => V.ref z.1)) ∧ ∀ z ∈ zl, H z.1 = some (.tup (fltV z.2))
theorem FL.same {H H' : Hp} {D : Addr} {zl : List (Addr × Flt)} (h : FL H D zl) (s : Same H H') : FL H' D zl := ⟨s _ _ h.1, fun z hz => s _ _ (h.2 z hz)⟩
theorem FL.snoc {H : Hp} {D p : Addr} {zl : List (Addr × Flt)} (h : FL H D zl) (np : H p = none) (x : Flt) : FL (upd (upd H p (.tup (fltV x))) D (.lst ((zl.map fun z => V.ref z.1) ++ [.ref p]))) D (zl ++ [(p, x)]) := by
  refine ⟨by rw [upd_same, List.map_append]; rfl, fun z hz => ?_⟩
  rcases List.mem_append.mp hz with hz | hz
  · have h1 := h.2 z hz
    rw [upd_ne (ne_of h1 h.1 (by intro e; cases e)), upd_ne (ne_of_none h1 np)]
    exact h1
  · rw [List.mem_singleton.mp hz]
    rw [upd_ne (ne_of_none h.1 np).symm, upd_same]
theorem FL.cat {H : Hp} {D D2 L : Addr} {z1 z2 : List (Addr × Flt)} (h1 : FL H D z1) (h2 : FL H D2 z2) (nL : H L = none) : FL (upd H L (.lst ((z1.map fun z => V.ref z.1) ++ (z2.map fun z => V.ref z.1)))) L (z1 ++ z2) := by
  refine ⟨by rw [upd_same, List.map_append], fun z hz => (same_upd nL) _ _ ?_⟩
  rcases List.mem_append.mp hz with hz | hz
  · exact h1.2 z hz
  · exact h2.2 z hz
theorem ok__law_fault (T : Env K mg) : Ok P w K mg base CX0 dd__law_fault "_law_fault" 2 ["_law_job_here", "_law_hours_here"] spLFault := by
  obtain ⟨fd__law_room, D__law_room, g__law_room, k__law_room, b__law_room, G__law_room⟩ := ok__law_room (P := P) (w := w) (base := base) T
  obtain ⟨fd, F⟩ := T.c.def_ 29 (d := dd__law_fault) rfl
  refine ⟨fd, F, T.gl 29 _ rfl, F.kp, F.bindsN fun _ _ _ _ _ _ us hl => match us, hl with | [_, _], _ => rfl, ?_⟩
  refine F.ok sc__law_fault (fun vs H Q E h => ?_) (fun cdv A outer s H vs Q E hr h => ?_)
  · obtain ⟨J, f, d, N, r, a, fs, ds, zs, rs, hs, rfl, hJ, hv, ha, hl, h1, q⟩ := h
    rfl
  · obtain ⟨J, f, d, N, r, a, fs, ds, zs, rs, hs, rfl, hJ, hv, ha, hl, h1, q⟩ := h
    refine ⟨_, PSs.nox (pss_cons (ps_asg (pv 0) (pg_tup rfl (pgs_cons (pg_name (i := 2) sc__law_fault.nd rfl (Or.inr rfl)) (pgs_cons (pg_name (i := 3) sc__law_fault.nd rfl (Or.inr rfl)) (pgs_cons (pg_name (i := 4) sc__law_fault.nd rfl (Or.inl rfl)) (pgs_cons (pg_name (i := 5) sc__law_fault.nd rfl (Or.inr rfl)) pgs_nil))))))
      (pss_cons (ps_set (i := 6) sc__law_fault.nd rfl (Or.inl rfl) (pe_listRg (by rfl) (by rfl) (T.fr 40 _ rfl) (prg_1 (by rfl) (T.fr 42 _ rfl) (pe_callB call_len_seq (by rfl) (T.fr 38 _ rfl) (by decide +kernel) (pa_cons (pv 2) pa_nil)))))
      (pss_cons (ps_setLc (i := 7) (own := [("_law_task", 9)]) (g := gName 9) (by rfl) sc__law_fault.nd rfl rfl (sw_true rfl rfl rfl (by decide +kernel)) (pi_list (pv 6)) (blkOk_by (own := [("_law_task", 9)]) (N := N__law_fault) (sc := defScope s__law_fault) (by decide +kernel)) (fun _ _ _ _ _ => (pg_name (i := 9) sc__law_fault.nd rfl (by first | exact Or.inl rfl | exact Or.inr rfl))) (fun _ _ _ _ _ => (pts_one (pt_cmpR op_lt (pe_ix (r := rIxL K) ix_list (pv 1) (pv 9) (fun _ _ => rfl)) (pe_ix (r := rIxL K) ix_list (pv 2) (pv 9) (fun _ _ => rfl)) (nomark _)))) (fun _ _ _ _ _ => (pe_tup (pa_cons pe_str (pa_cons (pv 9) pa_nil)))))
      (pss_cons (ps_set (i := 7) sc__law_fault.nd rfl (Or.inl rfl) (pe_op op_cat (pv 7) (pe_lc (own := [("_law_task", 9)]) (g := gName 9) (by rfl) sc__law_fault.nd (pi_list (pv 6)) (blkOk_by (own := [("_law_task", 9)]) (N := N__law_fault) (sc := defScope s__law_fault) (by decide +kernel)) (fun _ _ _ _ _ => (pg_name (i := 9) sc__law_fault.nd rfl (by first | exact Or.inl rfl | exact Or.inr rfl))) (fun _ _ _ _ _ => (pts_one (PW.pt (pw_and (pt_cmpR op_notN (pe_ix (r := rIxL K) ix_list (pv 3) (pv 9) (fun _ _ => rfl)) pe_non (nomark _)) (pw_and1 (pt_cmpR op_gt (pe_ix (r := rIxL K) ix_list (pv 1) (pv 9) (fun _ _ => rfl)) (pe_ix (r := rIxL K) ix_list (pv 3) (pv 9) (fun _ _ => rfl)) (nomark _))))))) (fun _ _ _ _ _ => (pe_tup (pa_cons pe_str (pa_cons (pv 9) pa_nil)))))))
      (pss_cons (ps_set (i := 7) sc__law_fault.nd rfl (Or.inl rfl) (pe_op op_cat (pv 7) (pe_lc (own := [("_law_a", 10), ("_law_b", 11)]) (g := gTup K 2 (gCons (gName 10) (gCons (gName 11) (gNil)))) (by rfl) sc__law_fault.nd (pi_list (pv 4)) (blkOk_by (own := [("_law_a", 10), ("_law_b", 11)]) (N := N__law_fault) (sc := defScope s__law_fault) (by decide +kernel)) (fun _ _ _ _ _ => (pg_tup rfl (pgs_cons (pg_name (i := 10) sc__law_fault.nd rfl (by first | exact Or.inl rfl | exact Or.inr rfl)) (pgs_cons (pg_name (i := 11) sc__law_fault.nd rfl (by first | exact Or.inl rfl | exact Or.inr rfl)) pgs_nil)))) (fun _ _ _ _ _ => (pts_one (pt_cmpR op_ge (pe_ix (r := rIxL K) ix_list (pv 1) (pv 10) (fun _ _ => rfl)) (pe_ix (r := rIxL K) ix_list (pv 1) (pv 11) (fun _ _ => rfl)) (nomark _)))) (fun _ _ _ _ _ => (pe_tup (pa_cons pe_str (pa_cons (pv 10) (pa_cons (pv 11) pa_nil))))))))
      (pss_cons (ps_setLc (i := 8) (own := [("_law_hour", 12)]) (g := gName 12) (by rfl) sc__law_fault.nd rfl rfl (sw_true rfl rfl rfl (by decide +kernel)) (pi_list (pv 1)) (blkOk_by (own := [("_law_hour", 12)]) (N := N__law_fault) (sc := defScope s__law_fault) (by decide +kernel)) (fun _ _ _ _ _ => (pg_name (i := 12) sc__law_fault.nd rfl (by first | exact Or.inl rfl | exact Or.inr rfl))) (fun _ _ _ _ _ => (pts_one (pt_cmpR op_gt (pe_K (K := K) rfl (pe_bm (r := rCntI K) PySem.F.plainAttrs_list PySem.F.slot_list_count PySem.F.type_list_count mt_lcount (pv 1) (pa_cons (pv 12) pa_nil))) (pe_call G__law_room (hr.mono (by decide)) (by rfl) g__law_room k__law_room b__law_room .nil pass0 (pa_cons (pv 5) (pa_cons (pv 12) pa_nil))) (nomark _)))) (fun _ _ _ _ _ => (pv 12)))
      (pss_one (ps_ret (pe_ix ix_list (pe_op op_cat (pe_op op_cat (pv 7) (pe_lc (own := [("_law_hour", 12)]) (g := gName 12) (tt := tYes) (by rfl) sc__law_fault.nd (pi_list (pe_callB cr_sortedI (by rfl) (T.fr 46 _ rfl) (by decide +kernel) (pa_cons (pv 8) pa_nil))) (blkOk_by (own := [("_law_hour", 12)]) (N := N__law_fault) (sc := defScope s__law_fault) (by decide +kernel)) (fun _ _ _ _ _ => (pg_name (i := 12) sc__law_fault.nd rfl (by first | exact Or.inl rfl | exact Or.inr rfl))) (fun _ _ _ _ _ => pts_nil) (fun _ _ _ _ _ => (pe_tup (pa_cons pe_str (pa_cons (pv 12) pa_nil)))))) (pe_lst (pa_cons pe_non pa_nil))) pe_int (fun _ _ => rfl)))))))))), ?_⟩
    walk_at "u"
    have fl := hv.fl
    have hat : ∀ {t : Nat}, t < fs.length → ∃ h, hs[t]? = some h ∧ hs.getD t 0 = h ∧ 1 ≤ h := fun {t} ht => by
      obtain ⟨h, hh⟩ : ∃ h, hs[t]? = some h := ⟨_, List.getElem?_eq_getElem (by omega)⟩
      exact ⟨h, hh, getD_of hh, h1 h (List.mem_of_getElem? hh)⟩
    refine ⟨_, rfl, J, _, rfl, SqT.of hJ.top, rfl, _, _, rfl, _, _, rfl, _, _, rfl, _, _, rfl, rfl, ?_⟩
    refine ⟨_, rfl, f, _, rfl, .inl (SqL.of hJ.fr), ?_⟩
    rw [iV_len]
    refine ⟨_, rfl, ⟨by omega, by omega⟩, fun tl ntl => ?_⟩
    rw [rgV_nat]
    have s1 : Same H (upd H tl (.lst (nV (List.range fs.length)))) := same_upd ntl
    generalize hH1 : upd H tl (.lst (nV (List.range fs.length))) = H1 at s1 ⊢
    have htl : H1 tl = some (.lst (nV (List.range fs.length))) := by
      rw [← hH1]
      exact upd_same
    have iof : ∀ {i : Nat} {x : V}, (nV (List.range fs.length))[i]? = some x → i < fs.length ∧ x = .int (i : Int) ∧ (List.range fs.length)[i]? = some i := fun {i x} hx => by
      obtain ⟨t, ht, rfl⟩ := nV_of hx
      have hi := (List.getElem?_eq_some_iff.mp ht).1
      rw [List.length_range] at hi
      rw [range_at hi] at ht
      cases ht
      exact ⟨hi, rfl, range_at hi⟩
    -- too early
    refine ⟨_, rfl, tl, rfl, ⟨_, SqL.of htl⟩, fun D nD => lc_list (K := K) (a := tl) (xs := nV (List.range fs.length)) (fun i H' => Same H1 H' ∧ ∃ zl, FL H' D zl ∧ zl.map (·.2) = (((List.range fs.length).take i).filter (pFree fs hs)).map Flt.free ∧ zl.length ≤ i) ⟨same_upd nD, [], ⟨upd_same, fun z hz => nomatch hz⟩, rfl, Nat.le_refl _⟩ (fun i H' _ hP => SqL.of (hP.1 _ _ htl)) (fun i x H' hx hP => ?_) (fun H' hP => ?_)⟩
    · obtain ⟨sm, zl, hz, hm, hzl⟩ := hP
      obtain ⟨hi, rfl, hr'⟩ := iof hx
      obtain ⟨h, hh, hg, _⟩ := hat hi
      obtain ⟨z, hz2⟩ : ∃ z, fs[i]? = some z := ⟨_, List.getElem?_eq_getElem hi⟩
      have ep : pFree fs hs i = decide (h < z) := by
        unfold pFree
        rw [hg, getD_of hz2]
      have s2 := s1.trans sm
      refine ⟨rfl, ?_⟩
      walk_at "u"
      refine ⟨_, rfl, _, rfl, a, _, _, .int h, rfl, rfl, SqL.of (s2 _ _ ha), atI_nat (iV_get hh), _, rfl, _, rfl, f, _, _, .int z, rfl, rfl, SqL.of (s2 _ _ hJ.fr), atI_nat (iV_get hz2), _, _, rfl, rfl, _, rfl, ?_⟩
      rw [filter_snoc _ hr', ep]
      refine ifB (fun c => ?_) (fun c => ?_)
      · rw [if_pos c]
        refine ⟨_, rfl, (show 2 ≤ sizeLine by decide), fun p np => ⟨_, (same_upd np) _ _ hz.1, by rw [List.length_map]; exact small_lt (by omega), same_mut (sm.trans (same_upd np)) nD, _, hz.snoc np (.free i), ?_, by rw [List.length_append, List.length_singleton]; omega⟩⟩
        rw [List.map_append, List.map_append, hm]
        rfl
      · rw [if_neg (by rw [c]; exact Bool.false_ne_true)]
        exact ⟨sm, zl, hz, hm, by omega⟩
    obtain ⟨s12, z1, hz1, hm1, hl1⟩ := hP
    rw [nV_len, List.length_range] at hm1 hl1
    rw [List.take_of_length_le (by rw [List.length_range]; exact Nat.le_refl _)] at hm1
    have s2 := s1.trans s12
    have htl2 := s12 _ _ htl
    -- too late
    refine ⟨_, rfl, _, rfl, tl, rfl, ⟨_, SqL.of htl2⟩, fun D2 nD2 => lc_list (K := K) (a := tl) (xs := nV (List.range fs.length)) (fun i H2 => Same H' H2 ∧ ∃ zl, FL H2 D2 zl ∧ zl.map (·.2) = (((List.range fs.length).take i).filter (pDue ds hs)).map Flt.due ∧ zl.length ≤ i) ⟨same_upd nD2, [], ⟨upd_same, fun z hz => nomatch hz⟩, rfl, Nat.le_refl _⟩ (fun i H' _ hP => SqL.of (hP.1 _ _ htl2)) (fun i x H2 hx hP => ?_) (fun H2 hP => ?_)⟩
    · obtain ⟨sm, zl, hz, hm, hzl⟩ := hP
      obtain ⟨hi, rfl, hr'⟩ := iof hx
      obtain ⟨h, hh, hg, _⟩ := hat hi
      obtain ⟨o, ho⟩ : ∃ o, ds[i]? = some o := ⟨_, List.getElem?_eq_getElem (by rw [hv.dl]; exact hi)⟩
      have hov : (oV ds)[i]? = some (oO o) := by
        unfold oV
        rw [List.getElem?_map, ho]
        rfl
      have s3 := s2.trans sm
      refine ⟨rfl, ?_⟩
      walk_at "u"
      refine ⟨_, rfl, _, rfl, d, _, _, oO o, rfl, rfl, SqL.of (s3 _ _ hJ.du), atI_nat hov, rfl, _, rfl, ?_⟩
      rw [filter_snoc _ hr']
      cases o with
      | none =>
        have ep : pDue ds hs i = false := by
          unfold pDue
          rw [getD_of ho]
        rw [if_neg (show ¬ pDue ds hs i = true from by rw [ep]; exact Bool.false_ne_true)]
        exact iteF (iteF ⟨sm, zl, hz, hm, by omega⟩)
      | some y =>
        have ep : pDue ds hs i = decide (y < h) := by
          unfold pDue
          rw [getD_of ho, hg]
        rw [ep]
        refine iteT ⟨_, rfl, _, rfl, a, _, _, .int h, rfl, rfl, SqL.of (s3 _ _ ha), atI_nat (iV_get hh), _, rfl, _, rfl, d, _, _, .int y, rfl, rfl, SqL.of (s3 _ _ hJ.du), atI_nat hov, _, _, rfl, rfl, _, rfl, ?_⟩
        refine ifB (fun c => ?_) (fun c => ?_)
        · rw [if_pos c]
          refine ⟨_, rfl, (show 2 ≤ sizeLine by decide), fun p np => ⟨_, (same_upd np) _ _ hz.1, by rw [List.length_map]; exact small_lt (by omega), same_mut (sm.trans (same_upd np)) nD2, _, hz.snoc np (.due i), ?_, by rw [List.length_append, List.length_singleton]; omega⟩⟩
          rw [List.map_append, List.map_append, hm]
          rfl
        · rw [if_neg (by rw [c]; exact Bool.false_ne_true)]
          exact ⟨sm, zl, hz, hm, by omega⟩
    obtain ⟨s23, z2, hz2, hm2, hl2⟩ := hP
    rw [nV_len, List.length_range] at hm2 hl2
    rw [List.take_of_length_le (by rw [List.length_range]; exact Nat.le_refl _)] at hm2
    have s3 := s2.trans s23
    have g1 := hz1.same s23
    refine ⟨_, _, _, _, rfl, rfl, g1.1, hz2.1, by rw [List.length_map, List.length_map]; exact small_sz (by omega), fun M1 nM1 => ?_⟩
    have g2 := g1.cat hz2 nM1
    have s4 := s3.trans (same_upd (o := .lst ((z1.map fun z => V.ref z.1) ++ (z2.map fun z => V.ref z.1))) nM1)
    generalize hH4 : upd H2 M1 (.lst ((z1.map fun z => V.ref z.1) ++ (z2.map fun z => V.ref z.1))) = H4 at g2 s4 ⊢
    have hm12 : (z1 ++ z2).map (·.2) = ((List.range fs.length).filter (pFree fs hs)).map Flt.free ++ ((List.range fs.length).filter (pDue ds hs)).map Flt.due := by
      rw [List.map_append, hm1, hm2]
    have hl12 : (z1 ++ z2).length ≤ 200 := by
      rw [List.length_append]
      omega
    have lz := hv.zl
    -- needs
    refine ⟨_, rfl, _, rfl, N, rfl, ⟨_, SqL.of (s4 _ _ hJ.ne.1)⟩, fun D3 nD3 => lc_list (K := K) (a := N) (xs := zs.map fun z => V.ref z.1) (fun i H5 => Same H4 H5 ∧ ∃ zl, FL H5 D3 zl ∧ zl.map (·.2) = ((zs.take i).filter (pNeed hs)).map (fun z => Flt.need z.2.1 z.2.2) ∧ zl.length ≤ i) ⟨same_upd nD3, [], ⟨upd_same, fun z hz => nomatch hz⟩, rfl, Nat.le_refl _⟩ (fun i H' _ hP => SqL.of (hP.1 _ _ (s4 _ _ hJ.ne.1))) (fun i x H5 hx hP => ?_) (fun H5 hP => ?_)⟩
    · obtain ⟨sm, zl, hz, hm, hzl⟩ := hP
      rw [List.getElem?_map] at hx
      cases ez : zs[i]? with
      | none =>
        rw [ez] at hx
        cases hx
      | some z =>
        rw [ez] at hx
        cases hx
        have hzm := List.mem_of_getElem? ez
        have hi := (List.getElem?_eq_some_iff.mp ez).1
        obtain ⟨za, zb⟩ := hv.zlt z hzm
        obtain ⟨h, hh, hg, _⟩ := hat za
        obtain ⟨h', hh', hg', _⟩ := hat zb
        have s5 := s4.trans sm
        refine ⟨z.1, _, rfl, SqT.of (s5 _ _ (hJ.ne.2 z hzm)), rfl, _, _, rfl, _, _, rfl, rfl, rfl, ?_⟩
        walk_at "u"
        refine ⟨_, rfl, _, rfl, a, _, _, .int h, rfl, rfl, SqL.of (s5 _ _ ha), atI_nat (iV_get hh), _, rfl, _, rfl, a, _, _, .int h', rfl, rfl, SqL.of (s5 _ _ ha), atI_nat (iV_get hh'), _, _, rfl, rfl, _, rfl, ?_⟩
        have ep : pNeed hs z = decide (h' ≤ h) := by
          unfold pNeed
          rw [hg, hg']
        rw [filter_snoc _ ez, ep]
        refine ifB (fun c => ?_) (fun c => ?_)
        · rw [if_pos c]
          refine ⟨_, rfl, _, rfl, (show 3 ≤ sizeLine by decide), fun p np => ⟨_, (same_upd np) _ _ hz.1, by rw [List.length_map]; exact small_lt (by omega), same_mut (sm.trans (same_upd np)) nD3, _, hz.snoc np (.need z.2.1 z.2.2), ?_, by rw [List.length_append, List.length_singleton]; omega⟩⟩
          rw [List.map_append, List.map_append, hm]
          rfl
        · rw [if_neg (by rw [c]; exact Bool.false_ne_true)]
          exact ⟨sm, zl, hz, hm, by omega⟩
    obtain ⟨s45, z3, hz3, hm3, hl3⟩ := hP
    rw [List.length_map, List.take_length] at hm3
    rw [List.length_map] at hl3
    have s5 := s4.trans s45
    have g3 := g2.same s45
    refine ⟨_, _, _, _, rfl, rfl, g3.1, hz3.1, by rw [List.length_map, List.length_map]; exact small_sz (by omega), fun M2 nM2 => ?_⟩
    have g4 := g3.cat hz3 nM2
    have s6 := s5.trans (same_upd (o := .lst (((z1 ++ z2).map fun z => V.ref z.1) ++ (z3.map fun z => V.ref z.1))) nM2)
    generalize hH6 : upd H5 M2 (.lst (((z1 ++ z2).map fun z => V.ref z.1) ++ (z3.map fun z => V.ref z.1))) = H6 at g4 s6 ⊢
    have hmA : (z1 ++ z2 ++ z3).map (·.2) = fltL fs ds zs hs := by
      rw [List.map_append, hm12, hm3]
      rfl
    have hlA : (z1 ++ z2 ++ z3).length ≤ 300 := by
      rw [List.length_append]
      omega
    -- rooms
    have ha6 := s6 _ _ ha
    refine ⟨_, rfl, a, rfl, ⟨_, SqL.of ha6⟩, fun D4 nD4 => lc_list (K := K) (a := a) (xs := iV hs) (fun i H7 => Same H6 H7 ∧ H7 D4 = some (.lst (iV ((hs.take i).filter (pRoom rs hs))))) ⟨same_upd nD4, upd_same⟩ (fun i H7 _ hP => SqL.of (hP.1 _ _ ha6)) (fun i x H7 hx hP => ?_) (fun H7 hP => ?_)⟩
    · obtain ⟨sm, hD⟩ := hP
      obtain ⟨h, hh, rfl⟩ := iV_of hx
      have hin := List.mem_of_getElem? hh
      have hi := (List.getElem?_eq_some_iff.mp hh).1
      refine ⟨rfl, ?_⟩
      walk_at "u"
      refine ⟨_, rfl, .inl ⟨rfl, _, SqL.of (sm _ _ ha6)⟩, _, rfl, a, hs, h, rfl, rfl, SqL.of (sm _ _ ha6), _, rfl, _, rfl, r, rs, h, rfl, SqL.of (sm _ _ (s6 _ _ hJ.ro)), h1 h hin, _, _, rfl, rfl, _, rfl, ?_⟩
      refine ifB (fun c => ?_) (fun c => ?_)
      · refine ⟨_, rfl, _, hD, ?_, same_mut sm nD4, ?_⟩
        · have e := List.length_filter_le (pRoom rs hs) (hs.take i)
          rw [List.length_take] at e
          rw [iV_len]
          exact small_lt (by omega)
        · rw [upd_same, filter_snoc _ hh, if_pos (show pRoom rs hs h = true from c), ← iV_app]
      · refine ⟨sm, ?_⟩
        rw [filter_snoc _ hh, if_neg (by rw [show pRoom rs hs h = false from c]; exact Bool.false_ne_true)]
        exact hD
    obtain ⟨s67, hD4⟩ := hP
    rw [iV_len, List.take_length] at hD4
    have s7 := s6.trans s67
    have g5 := g4.same s67
    refine ⟨_, rfl, _, rfl, D4, _, rfl, SqL.of hD4, fun ns p hperm hsort np => ⟨p, rfl, ⟨_, SqL.of upd_same⟩, fun D5 nD5 => ?_⟩⟩
    have lns : ns.length ≤ 100 := by
      have e := List.length_filter_le (pRoom rs hs) hs
      rw [hperm.length_eq]
      omega
    have s78 := same_upd (o := .lst (ns.map V.int)) np
    have g6 := g5.same s78
    have s8 := s7.trans s78
    have hp8 : (upd H7 p (.lst (ns.map V.int))) p = some (.lst (iV ns)) := upd_same
    generalize hH8 : upd H7 p (.lst (ns.map V.int)) = H8 at s8 g6 hp8 nD5 ⊢
    refine lc_list (K := K) (a := p) (xs := iV ns) (fun i H9 => Same H8 H9 ∧ ∃ zl, FL H9 D5 zl ∧ zl.map (·.2) = (ns.take i).map Flt.room ∧ zl.length ≤ i) ⟨same_upd nD5, [], ⟨upd_same, fun z hz => nomatch hz⟩, rfl, Nat.le_refl _⟩ (fun i H' _ hP => SqL.of (hP.1 _ _ hp8)) (fun i x H9 hx hP => ?_) (fun H9 hP => ?_)
    · obtain ⟨sm, zl, hz, hm, hzl⟩ := hP
      obtain ⟨h, hh, rfl⟩ := iV_of hx
      have hi := (List.getElem?_eq_some_iff.mp hh).1
      refine ⟨rfl, ?_⟩
      walk_at "u"
      refine iteT ⟨_, rfl, (show 2 ≤ sizeLine by decide), fun p np => ⟨_, (same_upd np) _ _ hz.1, by rw [List.length_map]; exact small_lt (by omega), same_mut (sm.trans (same_upd np)) nD5, _, hz.snoc np (.room h), ?_, by rw [List.length_append, List.length_singleton]; omega⟩⟩
      rw [List.take_add_one, hh, List.map_append, List.map_append, hm]
      rfl
    obtain ⟨s89, z4, hz4, hm4, hl4⟩ := hP
    rw [iV_len, List.take_length] at hm4
    rw [iV_len] at hl4
    have s9 := s8.trans s89
    have g7 := g6.same s89
    refine ⟨_, _, _, _, rfl, rfl, g7.1, hz4.1, by rw [List.length_map, List.length_map]; exact small_sz (by omega), fun M3 nM3 => ?_⟩
    have g8 := g7.cat hz4 nM3
    have s10 := s9.trans (same_upd (o := .lst (((z1 ++ z2 ++ z3).map fun z => V.ref z.1) ++ (z4.map fun z => V.ref z.1))) nM3)
    generalize hH10 : upd H9 M3 (.lst (((z1 ++ z2 ++ z3).map fun z => V.ref z.1) ++ (z4.map fun z => V.ref z.1))) = H10 at g8 s10 ⊢
    have hmB : (z1 ++ z2 ++ z3 ++ z4).map (·.2) = fltL fs ds zs hs ++ ns.map Flt.room := by
      rw [List.map_append, hmA, hm4]
    have ho : FltIs fs ds zs rs hs ((z1 ++ z2 ++ z3 ++ z4).map (·.2)).head? := ⟨ns.head?, least_sorted hperm hsort, by rw [hmB, List.head?_append, List.head?_map]⟩
    have hlB : (z1 ++ z2 ++ z3 ++ z4).length ≤ 400 := by
      rw [List.length_append]
      omega
    generalize z1 ++ z2 ++ z3 ++ z4 = ALL at g8 ho hlB
    refine ⟨(show 1 ≤ sizeLine by decide), fun p9 np9 => ?_⟩
    have s11 := same_upd (o := .lst [.non]) np9
    refine ⟨_, _, _, _, rfl, rfl, s11 _ _ g8.1, upd_same, by rw [List.length_map]; exact small_sz (by show ALL.length + 1 ≤ 100000; omega), fun M4 nM4 => ?_⟩
    have s12 := s11.trans (same_upd (o := .lst ((ALL.map fun z => V.ref z.1) ++ [.non])) nM4)
    cases ALL with
    | nil => exact ⟨_, _, _, .non, rfl, rfl, SqL.of upd_same, rfl, q _ _ _ (s10.trans s12) ho rfl⟩
    | cons z r => exact ⟨_, _, _, .ref z.1, rfl, rfl, SqL.of upd_same, atI_nat (j := 0) rfl, q _ _ _ (s10.trans s12) ho ⟨z.1, rfl, s12 _ _ (g8.2 z List.mem_cons_self)⟩⟩


def spBent : Sp := fun vs H Q _ => ∃ (p a : Addr) (x B : Int) (hs : List Int), vs = [.ref p, .ref a] ∧ H p = some (.lst [.int x]) ∧ H a = some (.lst (iV hs)) ∧ a ≠ p ∧ hs.length ≤ 100 ∧ (∀ h ∈ hs, 1 ≤ h ∧ h ≤ B) ∧
  ∀ (q : Addr) (hs' : List Int) (x' : Int) (H' : Hp), H q = none → But p H H' → H' p = some (.lst [.int x']) → H' q = some (.lst (iV hs')) → hs'.length = hs.length → (∀ h ∈ hs', 1 ≤ h ∧ h ≤ B + 4) → Q (.ref q) H'
theorem ok__law_bent (T : Env K mg) : Ok P w K mg base CX0 dd__law_bent "_law_bent" 2 ["_law_pile_here", "_law_hours_here"] spBent := by
  obtain ⟨fd__law_take, D__law_take, g__law_take, k__law_take, b__law_take, G__law_take⟩ := ok__law_take (P := P) (w := w) (base := base) T
  obtain ⟨fd, F⟩ := T.c.def_ 30 (d := dd__law_bent) rfl
  refine ⟨fd, F, T.gl 30 _ rfl, F.kp, F.bindsN fun _ _ _ _ _ _ us hl => match us, hl with | [_, _], _ => rfl, ?_⟩
  refine F.ok sc__law_bent (fun vs H Q E h => ?_) (fun cdv A outer s H vs Q E hr h => ?_)
  · obtain ⟨p, a, x, B, hs, rfl, hp, ha, nap, hl, hb, q⟩ := h
    rfl
  · obtain ⟨p, a, x, B, hs, rfl, hp, ha, nap, hl, hb, q⟩ := h
    refine ⟨_, PSs.nox (pss_cons (ps_set (i := 2) sc__law_bent.nd rfl (Or.inl rfl) (pe_callTy call_list_of (by rfl) (T.fr 40 _ rfl) (by decide +kernel) (pa_cons (pv 1) pa_nil)))
      (pss_cons (ps_set (i := 3) sc__law_bent.nd rfl (Or.inl rfl) (pe_call G__law_take (hr.mono (by decide)) (by rfl) g__law_take k__law_take b__law_take .nil pass0 (pa_cons (pv 0) (pa_cons pe_int pa_nil))))
      (pss_cons (ps_if (PW.pt (pw_or (pt_cmpR (op_eqD hr.units) (pv 2) (pe_lst pa_nil) (nomark _)) (pw_or1 (pt_cmpR op_eq (pv 3) pe_int (nomark _))))) (pss_one (ps_ret (pe_lc (own := [("_law_hour", 6)]) (g := gName 6) (tt := tYes) (by rfl) sc__law_bent.nd (pi_list (pv 2)) (blkOk_by (own := [("_law_hour", 6)]) (N := N__law_bent) (sc := defScope s__law_bent) (by decide +kernel)) (fun _ _ _ _ _ => (pg_name (i := 6) sc__law_bent.nd rfl (by first | exact Or.inl rfl | exact Or.inr rfl))) (fun _ _ _ _ _ => pts_nil) (fun _ _ _ _ _ => (pe_op op_add (pv 6) pe_int))))) pss_nil)
      (pss_cons (ps_set (i := 4) sc__law_bent.nd rfl (Or.inl rfl) (pe_call G__law_take (hr.mono (by decide)) (by rfl) g__law_take k__law_take b__law_take .nil pass0 (pa_cons (pv 0) (pa_cons (pe_callB call_len_seq (by rfl) (T.fr 38 _ rfl) (by decide +kernel) (pa_cons (pv 2) pa_nil)) pa_nil))))
      (pss_cons (ps_set (i := 5) sc__law_bent.nd rfl (Or.inl rfl) (pe_call G__law_take (hr.mono (by decide)) (by rfl) g__law_take k__law_take b__law_take .nil pass0 (pa_cons (pv 0) (pa_cons (pe_callB call_len_seq (by rfl) (T.fr 38 _ rfl) (by decide +kernel) (pa_cons (pv 2) pa_nil)) pa_nil))))
      (pss_cons (ps_if (pt_cmpR op_lt (pv 3) pe_int (nomark _)) (pss_one (ps_asg (pe_op op_add (pe_op op_add (pe_ix ix_list (pv 2) (pv 4) (fun _ _ => rfl)) pe_int) (pe_call G__law_take (hr.mono (by decide)) (by rfl) g__law_take k__law_take b__law_take .nil pass0 (pa_cons (pv 0) (pa_cons pe_int pa_nil)))) (pg_sub (pv 2) (pv 4) set_list))) pss_nil)
      (pss_cons (ps_if (pt_cmpR op_eq (pv 3) pe_int (nomark _)) (pss_one (ps_asg (pe_callB (call_max2 rfl) (by rfl) (T.fr 43 _ rfl) (by decide +kernel) (pa_cons pe_int (pa_cons (pe_op op_sub (pe_ix ix_list (pv 2) (pv 4) (fun _ _ => rfl)) pe_int) pa_nil))) (pg_sub (pv 2) (pv 4) set_list))) pss_nil)
      (pss_cons (ps_if (pt_cmpR op_eq (pv 3) pe_int (nomark _)) (pss_one (ps_asg (pe_tup (pa_cons (pe_ix ix_list (pv 2) (pv 5) (fun _ _ => rfl)) (pa_cons (pe_ix ix_list (pv 2) (pv 4) (fun _ _ => rfl)) pa_nil))) (pg_tup rfl (pgs_cons (pg_sub (pv 2) (pv 4) set_list) (pgs_cons (pg_sub (pv 2) (pv 5) set_list) pgs_nil))))) pss_nil)
      (pss_cons (ps_if (pt_cmpR op_eq (pv 3) pe_int (nomark _)) (pss_one (ps_asg (pe_ix ix_list (pv 2) (pv 5) (fun _ _ => rfl)) (pg_sub (pv 2) (pv 4) set_list))) pss_nil)
      (pss_one (ps_ret (pv 2)))))))))))), ?_⟩
    walk_at "u"
    refine ⟨_, rfl, a, _, rfl, .inl (SqL.of ha), fun l nl => ?_⟩
    have npl : p ≠ l := ne_of_none hp nl
    refine ⟨_, rfl, p, x, 6, rfl, (same_upd nl) _ _ hp, by decide, by decide, fun wy x1 w0 w1 => ?_⟩
    refine ⟨_, rfl, (show 0 ≤ sizeLine by decide), fun e0 ne0 => ?_⟩
    have s23 := same_upd (o := .lst []) ne0
    have hl3 := s23 l (.lst (iV hs)) (by rw [upd_ne npl.symm, upd_same])
    have hp3 := s23 p (.lst [.int x1]) upd_same
    have b3 : But p H (upd (upd (upd H l (.lst (iV hs))) p (.lst [.int x1])) e0 (.lst [])) := ((But.new nl).trans But.upd).trans (But.of s23)
    refine ⟨.list (hs.map .int), .list [], .lst (SqL.of hl3) (dpAll_iV hs), .lst (SqL.of upd_same) .nil, shaped_map .int (fun _ => ⟨rfl, (show 0 ≤ 10 by decide)⟩) hs, rfl, _, rfl, ?_⟩
    rw [eqv_list_nil]
    generalize upd (upd (upd H l (.lst (iV hs))) p (.lst [.int x1])) e0 (.lst []) = H3 at hl3 hp3 b3 ⊢
    have comp : tLc (iList K (tVar 2)) (gName 6) tYes (tOp (rI0 fun i j => V.int (i + j)) (tVar 6) (tC (V.int 1))) [6] [some (.ref p), some (.ref a), some (.ref l), some (.int wy), none, none, none] H3 Q := by
      refine ⟨_, rfl, l, rfl, ⟨_, SqL.of hl3⟩, fun D nD => lc_list (K := K) (a := l) (xs := iV hs) (fun i H' => Same H3 H' ∧ H' D = some (.lst (iV ((hs.take i).map (· + 1))))) ⟨same_upd nD, upd_same⟩ (fun i H' _ hP => SqL.of (hP.1 _ _ hl3)) (fun i y H' hy hP => ?_) (fun H' hP => ?_)⟩
      · obtain ⟨sm, hD⟩ := hP
        obtain ⟨h, hh, rfl⟩ := iV_of hy
        have hi := (List.getElem?_eq_some_iff.mp hh).1
        refine ⟨rfl, ?_⟩
        walk_at "u"
        refine iteT ⟨_, rfl, _, _, rfl, rfl, _, hD, ?_, same_mut sm nD, ?_⟩
        · rw [iV_len, List.length_map, List.length_take]
          exact small_lt (by omega)
        · rw [upd_same, List.take_add_one, hh, List.map_append, iV_app]
          rfl
      · obtain ⟨sm, hD⟩ := hP
        rw [iV_len, List.take_length] at hD
        have hD0 : D ≠ p := (ne_of_none hp3 nD).symm
        refine q D _ x1 H' (b3.free hD0 nD) (b3.trans (But.of sm)) (sm _ _ hp3) hD (List.length_map ..) fun h hh => ?_
        obtain ⟨y, hy, rfl⟩ := List.mem_map.mp hh
        have := hb y hy
        omega
    refine ifB (fun c => iteT comp) (fun c => ⟨_, rfl, rfl, _, rfl, ifB (fun c2 => comp) (fun c2 => ?_)⟩)
    have hpos : 0 < hs.length := by
      cases hs with
      | nil => cases c
      | cons y r => exact Nat.succ_pos _
    have nlp : l ≠ p := npl.symm
    refine ⟨_, rfl, _, rfl, l, _, rfl, .inl (SqL.of hl3), p, x1, _, rfl, hp3, by rw [iV_len]; omega, by rw [iV_len]; omega, fun d1 x2 d10 d11 => ?_⟩
    rw [iV_len] at d11
    have hl4 : (upd H3 p (.lst [.int x2])) l = some (.lst (iV hs)) := by
      rw [upd_ne nlp]
      exact hl3
    refine ⟨_, rfl, _, rfl, l, _, rfl, .inl (SqL.of hl4), p, x2, _, rfl, upd_same, by rw [iV_len]; omega, by rw [iV_len]; omega, fun d2 x3 d20 d21 => ?_⟩
    rw [iV_len] at d21
    have hl5 : (upd (upd H3 p (.lst [.int x2])) p (.lst [.int x3])) l = some (.lst (iV hs)) := by
      rw [upd_ne nlp]
      exact hl4
    have hp5 : (upd (upd H3 p (.lst [.int x2])) p (.lst [.int x3])) p = some (.lst [.int x3]) := upd_same
    have b5 : But p H (upd (upd H3 p (.lst [.int x2])) p (.lst [.int x3])) := (b3.trans But.upd).trans But.upd
    generalize upd (upd H3 p (.lst [.int x2])) p (.lst [.int x3]) = H5 at hl5 hp5 b5 ⊢
    obtain ⟨t1, rfl⟩ : ∃ t : Nat, d1 = (t : Int) := ⟨d1.toNat, by omega⟩
    obtain ⟨t2, rfl⟩ : ∃ t : Nat, d2 = (t : Int) := ⟨d2.toNat, by omega⟩
    obtain ⟨h1, hh1⟩ : ∃ h, hs[t1]? = some h := ⟨_, List.getElem?_eq_getElem (by omega)⟩
    obtain ⟨h2, hh2⟩ : ∃ h, hs[t2]? = some h := ⟨_, List.getElem?_eq_getElem (by omega)⟩
    have bh1 := hb h1 (List.mem_of_getElem? hh1)
    have bh2 := hb h2 (List.mem_of_getElem? hh2)
    -- one cell is another number
    have one : ∀ (y : Int) (t : Nat) (x' : Int) (H' : Hp), 1 ≤ y → y ≤ B + 4 → But p H H' → H' p = some (.lst [.int x']) → H' l = some (.lst (iV (hs.set t y))) → Q (.ref l) H' := fun y t x' H' y0 y1 bb e1 e2 => by
      refine q l _ x' H' nl bb e1 e2 (List.length_set ..) fun h hh => ?_
      rcases List.mem_or_eq_of_mem_set hh with z | z
      · have := hb h z
        omega
      · rw [z]
        exact ⟨y0, y1⟩
    have eqw : ∀ {k : Int}, decide (V.int wy = V.int k) = true → wy = k := fun c => V.int.inj (of_decide_eq_true c)
    have hs1 : t1 < hs.length := by omega
    have hs2 : t2 < hs.length := by omega
    refine ⟨_, rfl, _, _, rfl, rfl, _, rfl, ifB (fun c3 => ?_) (fun c3 => ?_)⟩
    · have c3' : wy < 2 := of_decide_eq_true c3
      refine ⟨_, rfl, _, rfl, l, _, _, .int h1, rfl, rfl, SqL.of hl5, atI_nat (iV_get hh1), _, _, rfl, rfl, _, rfl, p, x3, 3, rfl, hp5, by decide, by decide, fun d3 x4 d30 d31 => ?_⟩
      refine ⟨_, _, rfl, rfl, _, rfl, _, rfl, l, _, _, t1, rfl, rfl, (by rw [upd_ne nlp]; exact hl5), ixN_at rfl (by rw [iV_len]; exact hs1), ?_⟩
      rw [iV_set]
      refine ⟨_, rfl, rfl, _, rfl, ifB (fun c4 => absurd (eqw c4) (by omega)) (fun c4 => ⟨_, rfl, rfl, _, rfl, ifB (fun c5 => absurd (eqw c5) (by omega)) (fun c5 => ⟨_, rfl, rfl, _, rfl, ifB (fun c6 => absurd (eqw c6) (by omega)) (fun c6 => ⟨_, rfl, ?_⟩)⟩)⟩)⟩
      exact one (h1 + 1 + d3) t1 x4 _ (by omega) (by omega) ((b5.trans But.upd).mut nl) (by rw [upd_ne npl, upd_same]) upd_same
    refine ⟨_, rfl, rfl, _, rfl, ifB (fun c4 => ?_) (fun c4 => ?_)⟩
    · have e4 := eqw c4
      refine ⟨_, rfl, _, rfl, l, _, _, .int h1, rfl, rfl, SqL.of hl5, atI_nat (iV_get hh1), _, _, rfl, rfl, _, _, rfl, _, rfl, _, rfl, l, _, _, t1, rfl, rfl, hl5, ixN_at rfl (by rw [iV_len]; exact hs1), ?_⟩
      rw [iV_set]
      refine ⟨_, rfl, rfl, _, rfl, ifB (fun c5 => absurd (eqw c5) (by omega)) (fun c5 => ⟨_, rfl, rfl, _, rfl, ifB (fun c6 => absurd (eqw c6) (by omega)) (fun c6 => ⟨_, rfl, ?_⟩)⟩)⟩
      exact one _ t1 x3 _ (by split <;> omega) (by split <;> omega) (b5.mut nl) (by rw [upd_ne npl]; exact hp5) upd_same
    refine ⟨_, rfl, rfl, _, rfl, ifB (fun c5 => ?_) (fun c5 => ?_)⟩
    · have e5 := eqw c5
      refine ⟨_, rfl, _, rfl, l, _, _, .int h2, rfl, rfl, SqL.of hl5, atI_nat (iV_get hh2), _, rfl, _, rfl, l, _, _, .int h1, rfl, rfl, SqL.of hl5, atI_nat (iV_get hh1), ?_⟩
      refine ⟨(show 2 ≤ sizeLine by decide), fun p6 np6 => ?_⟩
      have s6 := same_upd (o := .tup [.int h2, .int h1]) np6
      refine ⟨p6, _, rfl, SqT.of upd_same, rfl, _, _, rfl, _, rfl, _, rfl, l, _, _, t1, rfl, rfl, s6 _ _ hl5, ixN_at rfl (by rw [iV_len]; exact hs1), ?_⟩
      rw [iV_set]
      refine ⟨_, _, rfl, _, rfl, _, rfl, l, _, _, t2, rfl, rfl, upd_same, ixN_at rfl (by rw [iV_len, List.length_set]; exact hs2), rfl, ?_⟩
      rw [iV_set]
      refine ⟨_, rfl, rfl, _, rfl, ifB (fun c6 => absurd (eqw c6) (by omega)) (fun c6 => ⟨_, rfl, ?_⟩)⟩
      refine q l _ x3 _ nl (((b5.trans (But.of s6)).mut nl).mut nl) (by rw [upd_ne npl, upd_ne npl]; exact s6 _ _ hp5) upd_same (by rw [List.length_set, List.length_set]) fun h hh => ?_
      rcases List.mem_or_eq_of_mem_set hh with z | z
      · rcases List.mem_or_eq_of_mem_set z with z | z
        · have := hb h z
          omega
        · rw [z]
          omega
      · rw [z]
        omega
    refine ⟨_, rfl, rfl, _, rfl, ifB (fun c6 => ?_) (fun c6 => ?_)⟩
    · have e6 := eqw c6
      refine ⟨_, rfl, _, rfl, l, _, _, .int h2, rfl, rfl, SqL.of hl5, atI_nat (iV_get hh2), _, rfl, _, rfl, l, _, _, t1, rfl, rfl, hl5, ixN_at rfl (by rw [iV_len]; exact hs1), ?_⟩
      rw [iV_set]
      exact ⟨_, rfl, one h2 t1 x3 _ (by omega) (by omega) (b5.mut nl) (by rw [upd_ne npl]; exact hp5) upd_same⟩
    refine ⟨_, rfl, q l hs x3 _ nl b5 hp5 hl5 rfl fun h hh => ?_⟩
    have := hb h hh
    omega
def spRefused : Sp := fun vs H Q _ => ∃ (J f d n r : Addr) (fs : List Int) (ds : List (Option Int)) (zs : List (Addr × Nat × Nat)) (rs : List Int) (v : V), vs = [.ref J, v] ∧ JobAt H J f d n r fs ds zs rs ∧ Valid fs ds zs rs ∧ HrsAt H v fs.length false ∧ ∀ H', Same H H' → Q (.bl true) H'
theorem ok__law_refused (T : Env K mg) : Ok P w K mg base CX0 dd__law_refused "_law_refused" 9 ["_law_job_here", "_law_thing"] spRefused := by
  obtain ⟨fd_fault, D_fault, g_fault, k_fault, b_fault, G_fault⟩ := ok_fault (P := P) (w := w) (base := base) T
  obtain ⟨fd_is_plan, D_is_plan, g_is_plan, k_is_plan, b_is_plan, G_is_plan⟩ := ok_is_plan (P := P) (w := w) (base := base) T
  obtain ⟨fd, F⟩ := T.c.def_ 31 (d := dd__law_refused) rfl
  refine ⟨fd, F, T.gl 31 _ rfl, F.kp, F.bindsN fun _ _ _ _ _ _ us hl => match us, hl with | [_, _], _ => rfl, ?_⟩
  refine F.ok sc__law_refused (fun vs H Q E h => ?_) (fun cdv A outer s H vs Q E hr h => ?_)
  · obtain ⟨J, f, d, n, r, fs, ds, zs, rs, v, rfl, hJ, hv, hb, q⟩ := h
    rfl
  · obtain ⟨J, f, d, n, r, fs, ds, zs, rs, v, rfl, hJ, hv, hb, q⟩ := h
    refine ⟨_, PSs.nox (pss_cons (ps_set (i := 2) sc__law_refused.nd rfl (Or.inl rfl) pe_non)
      (pss_cons (ps_try_keep (i := 3) rfl rfl rfl sc__law_refused.nd rfl rfl ⟨rfl, by decide, .inl (T.gl 52 _ rfl)⟩ takes0 (fun W pn xe tk _ => (pss_one (ps_expr (pe_callS G_fault (hr.mono (by decide)) (by rfl) g_fault k_fault b_fault (fun σ => passAt tk σ) (pa_cons (pv 0) (pa_cons (pv 1) pa_nil)))))) (fun a oe cls d pn hz hf => (pss_one (ps_set (i := 2) sc__law_refused.nd rfl (Or.inl rfl) (pv 3)))))
      (pss_one (ps_ret (pe_and (pe_callB call_isA (by rfl) (T.fr 34 _ rfl) (by decide +kernel) (pa_cons (pv 2) (pa_cons (pe_glob (v := .ref (He.ga K "NoHours")) (by rfl) (T.gl 54 _ rfl) rfl) pa_nil))) (pe_and (pe_callB call_isA (by rfl) (T.fr 34 _ rfl) (by decide +kernel) (pa_cons (pv 2) (pa_cons (pe_bltn (v := .ty "ValueError") (by rfl) (T.fr 48 _ rfl) (by decide +kernel) rfl) pa_nil))) (pe_one (pe_cmpR op_isBl (pe_call G_is_plan (hr.mono (by decide)) (by rfl) g_is_plan k_is_plan b_is_plan .nil pass0 (pa_cons (pv 0) (pa_cons (pv 1) pa_nil))) pe_bl (nomark _))))))))), ?_⟩
    walk_at "u"
    refine ⟨_, rfl, _, rfl, J, f, d, n, r, fs, ds, zs, rs, v, false, rfl, hJ, hv, hb, fun _ H1 s1 => ?_, fun z => Bool.noConfusion z⟩
    refine ⟨true, (T.xm 58 _ _ _ rfl), fun _ a na => ?_, fun z => Bool.noConfusion z⟩
    refine ⟨_, rfl, fun na' => ?_⟩
    have s2 : Same H1 (upd H1 a (ExT (.ref (He.ga K "NoHours")) none a)) := same_upd na'
    have he : (upd H1 a (ExT (.ref (He.ga K "NoHours")) none a)) a = some (ExT (.ref (He.ga K "NoHours")) none a) := upd_same
    generalize upd H1 a (ExT (.ref (He.ga K "NoHours")) none a) = H2 at s2 he ⊢
    refine ⟨_, rfl, .inr ⟨a, He.ga K "NoHours", _, _, true, rfl, he, excB_ok (T.xk 0 _ rfl), .own _, of_decide_eq_true (T.xk 1 _ rfl), _, rfl, iteT ?_⟩⟩
    refine ⟨_, rfl, .inr ⟨a, He.ga K "NoHours", _, _, true, rfl, he, excB_ok (T.xk 0 _ rfl), .ty _, of_decide_eq_true (T.xk 2 _ rfl), _, rfl, iteT ?_⟩⟩
    have s12 := s1.trans s2
    refine ⟨_, rfl, _, rfl, J, f, d, n, r, fs, ds, zs, rs, v, false, rfl, hJ.same s12, hv, hb.same s12, fun c H3 s3 hc _ => ?_⟩
    rw [hc rfl]
    exact ⟨_, _, rfl, rfl, q H3 (s12.trans s3)⟩
structure SmB (wt dp : Nat) (d : PyData) : Prop where
  can : d.canLay0 = true
  short : d.intsShort 30 = true
  show_ : d.showable = true
  dict : d.hasDict = false
  dep : d.depth ≤ dp
  wt : d.weight ≤ wt
theorem SmB.len {wt dp : Nat} {d : PyData} (h : SmB wt dp d) : d.shown.length ≤ 32 * wt + 30 := by
  have h1 := PyData.shown_le 30 (by decide) d (PyData.leavesShort_of_canLay0 30 d h.can h.short)
  have h2 : (30 + 2) * d.weight ≤ 32 * wt := Nat.mul_le_mul_left 32 h.wt
  omega
mutual
theorem short_mono : ∀ d : PyData, d.intsShort 13 = true → d.intsShort 30 = true
  | .none, _ => rfl
  | .bool _, _ => rfl
  | .str _, _ => rfl
  | .dict _, _ => rfl
  | .int i, h => by
    have h2 : (PyData.shown (.int i)).length ≤ 13 := of_decide_eq_true h
    exact decide_eq_true (by omega)
  | .list xs, h => short_monoAll xs h
  | .tuple xs, h => short_monoAll xs h
theorem short_monoAll : ∀ xs : List PyData, PyData.intsShortAll 13 xs = true → PyData.intsShortAll 30 xs = true
  | [], _ => rfl
  | x :: xs, h => by
    have h2 : (PyData.intsShort 13 x && PyData.intsShortAll 13 xs) = true := h
    rw [Bool.and_eq_true] at h2
    show (PyData.intsShort 30 x && PyData.intsShortAll 30 xs) = true
    rw [short_mono x h2.1, short_monoAll xs h2.2]
    rfl
end
theorem Sm.toB {wt dp : Nat} {d : PyData} (h : Sm wt dp d) : SmB wt dp d := ⟨h.can, short_mono d h.short, h.show_, h.dict, h.dep, h.wt⟩
theorem SmB.mono {wt dp wt' dp' : Nat} {d : PyData} (h : SmB wt dp d) (h1 : wt ≤ wt') (h2 : dp ≤ dp') : SmB wt' dp' d := ⟨h.can, h.short, h.show_, h.dict, Nat.le_trans h.dep h2, Nat.le_trans h.wt h1⟩
theorem smB_all {wt dp : Nat} : ∀ {ds : List PyData}, (∀ d ∈ ds, SmB wt dp d) → PyData.canLayAll0 ds = true ∧ PyData.intsShortAll 30 ds = true ∧ PyData.showableAll ds = true ∧ PyData.hasDictAll ds = false ∧ PyData.depthAll ds ≤ dp ∧ PyData.weightAll ds ≤ (wt + 1) * ds.length
  | [], _ => ⟨rfl, rfl, rfl, rfl, Nat.zero_le _, Nat.zero_le _⟩
  | d :: ds, h => by
    have hd := h d (List.mem_cons_self ..)
    obtain ⟨a1, a2, a3, a4, a5, a6⟩ := smB_all (ds := ds) fun x hx => h x (List.mem_cons_of_mem _ hx)
    refine ⟨?_, ?_, ?_, ?_, ?_, ?_⟩
    · show (PyData.canLay0 d && PyData.canLayAll0 ds) = true
      rw [hd.can, a1]
      rfl
    · show (PyData.intsShort 30 d && PyData.intsShortAll 30 ds) = true
      rw [hd.short, a2]
      rfl
    · show (PyData.showable d && PyData.showableAll ds) = true
      rw [hd.show_, a3]
      rfl
    · show (PyData.hasDict d || PyData.hasDictAll ds) = false
      rw [hd.dict, a4]
      rfl
    · show max (PyData.depth d) (PyData.depthAll ds) ≤ dp
      exact Nat.max_le.mpr ⟨hd.dep, a5⟩
    · show PyData.weight d + 1 + PyData.weightAll ds ≤ _
      have := hd.wt
      rw [List.length_cons, Nat.mul_succ]
      omega
theorem smB_list {wt dp : Nat} {ds : List PyData} (h : ∀ d ∈ ds, SmB wt dp d) : SmB ((wt + 1) * ds.length) (dp + 1) (.list ds) := by
  obtain ⟨a1, a2, a3, a4, a5, a6⟩ := smB_all h
  exact ⟨a1, a2, a3, a4, Nat.succ_le_succ a5, a6⟩
theorem smB_far : SmB 100 0 (.int 100000000000000000000) := ⟨rfl, by decide +kernel, by decide +kernel, rfl, Nat.le_refl _, by decide +kernel⟩
/-- hours that are small, or far in one place -/
def HB (h : Int) : Prop := 1 ≤ h ∧ (h ≤ 1000 ∨ h = 100000000000000000000)
theorem smB_hour {h : Int} (b : HB h) : SmB 100 0 (.int h) := by
  rcases b.2 with z | z
  · exact (Sm.toB (sm_int (by have := b.1; omega) (by omega))).mono (by decide) (Nat.le_refl _)
  · rw [z]
    exact smB_far
theorem good_sm {fs : List Int} {ds : List (Option Int)} {zs : List (Addr × Nat × Nat)} {rs hs : List Int} (v : Valid fs ds zs rs) (hl : hs.length = fs.length) (hb : ∀ h ∈ hs, HB h) : SmB 70000 4 (.list [jobD fs ds zs rs, .list (hs.map .int)]) := by
  have l := v.fl
  have h1 : SmB 30000 3 (.list (hs.map .int)) := (smB_list (wt := 100) (dp := 0) fun x hx => by
    obtain ⟨i, hi, rfl⟩ := List.mem_map.mp hx
    exact smB_hour (hb i hi)).mono (by rw [List.length_map]; omega) (by omega)
  refine (smB_list (wt := 30000) (dp := 3) fun y hy => ?_).mono (by show 30001 * 2 ≤ 70000; decide) (by omega)
  rcases List.mem_cons.mp hy with e | hy
  · subst e
    exact v.sm.toB
  · have e := List.mem_singleton.mp hy
    subst e
    exact h1
def fltD : Option Flt → PyData
  | none => .none
  | some (.free t) => .tuple [.str "free", .int (t : Int)]
  | some (.due t) => .tuple [.str "due", .int (t : Int)]
  | some (.need a b) => .tuple [.str "need", .int (a : Int), .int (b : Int)]
  | some (.room h) => .tuple [.str "room", .int h]
theorem FltAt.dp {K : PySem.W.Frag} {H : Hp} {v : V} {o : Option Flt} (h : FltAt H v o) : Dp K H v (fltD o) := by
  cases o with
  | none =>
    have e : v = .non := h
    rw [e]
    exact .non
  | some x =>
    obtain ⟨p, rfl, hp⟩ := h
    cases x with
    | free t => exact .tup (SqT.of hp) (.cons (.str _) (.cons (.int _) .nil))
    | due t => exact .tup (SqT.of hp) (.cons (.str _) (.cons (.int _) .nil))
    | need a b => exact .tup (SqT.of hp) (.cons (.str _) (.cons (.int _) (.cons (.int _) .nil)))
    | room t => exact .tup (SqT.of hp) (.cons (.str _) (.cons (.int _) .nil))
theorem fltD_can (o : Option Flt) : SeqAt.shaped (fltD o) = true := by
  cases o with
  | none => rfl
  | some x =>
    cases x with
    | free t =>
      show ((PyData.canLay0 (.str "free") && (true && true)) && true) = true
      rw [show PyData.canLay0 (.str "free") = true from by decide +kernel]
      rfl
    | due t =>
      show ((PyData.canLay0 (.str "due") && (true && true)) && true) = true
      rw [show PyData.canLay0 (.str "due") = true from by decide +kernel]
      rfl
    | need a b =>
      show ((PyData.canLay0 (.str "need") && (true && (true && true))) && true) = true
      rw [show PyData.canLay0 (.str "need") = true from by decide +kernel]
      rfl
    | room t =>
      show ((PyData.canLay0 (.str "room") && (true && true)) && true) = true
      rw [show PyData.canLay0 (.str "room") = true from by decide +kernel]
      rfl
theorem fltAt_none {H : Hp} {v : V} {o : Option Flt} (h : FltAt H v o) : decide (v = .non) = decide (o = none) := by
  cases o with
  | none =>
    have e : v = .non := h
    rw [e]
    rfl
  | some x =>
    obtain ⟨p, rfl, hp⟩ := h
    rfl
def spGood : Sp := fun vs H Q _ => ∃ (J f d n r a : Addr) (fs : List Int) (ds : List (Option Int)) (zs : List (Addr × Nat × Nat)) (rs hs : List Int), vs = [.ref J, .ref a] ∧ JobAt H J f d n r fs ds zs rs ∧ Valid fs ds zs rs ∧ H a = some (.lst (iV hs)) ∧ hs.length = fs.length ∧ (∀ h ∈ hs, HB h) ∧ ∀ H', Same H H' → Q (.bl true) H'
theorem ok__law_good (T : Env K mg) : OkG P w K mg base CX0 dd__law_good "_law_good" 9 ["_law_job_here", "_law_hours_here"] spGood := by
  obtain ⟨fd_is_plan, D_is_plan, g_is_plan, k_is_plan, b_is_plan, G_is_plan⟩ := ok_is_plan (P := P) (w := w) (base := base) T
  obtain ⟨fd__law_fault, D__law_fault, g__law_fault, k__law_fault, b__law_fault, G__law_fault⟩ := ok__law_fault (P := P) (w := w) (base := base) T
  obtain ⟨fd__law_is_plan, D__law_is_plan, g__law_is_plan, k__law_is_plan, b__law_is_plan, G__law_is_plan⟩ := ok__law_is_plan (P := P) (w := w) (base := base) T
  obtain ⟨fd_fault, D_fault, g_fault, k_fault, b_fault, G_fault⟩ := ok_fault (P := P) (w := w) (base := base) T
  obtain ⟨fd, F⟩ := T.c.def_ 32 (d := dd__law_good) rfl
  refine ⟨fd, F, T.gl 32 _ rfl, F.kp, F.bindsN fun _ _ _ _ _ _ us hl => match us, hl with | [_, _], _ => rfl, ?_⟩
  refine funD_okG F sc__law_good (fun vs H Q E h => ?_) (fun cdv A outer s H vs Q E hr hgd h => ?_)
  · obtain ⟨J, f, d, n, r, a, fs, ds, zs, rs, hs, rfl, hJ, hv, ha, hl, hb, q⟩ := h
    rfl
  · obtain ⟨J, f, d, n, r, a, fs, ds, zs, rs, hs, rfl, hJ, hv, ha, hl, hb, q⟩ := h
    refine ⟨_, PSs.nox (pss_cons (ps_set (i := 2) sc__law_good.nd rfl (Or.inl rfl) (pe_callTy (call_str_data hgd hr.units) (by rfl) (T.fr 49 _ rfl) (by decide +kernel) (pa_cons (pe_lst (pa_cons (pv 0) (pa_cons (pv 1) pa_nil))) pa_nil)))
      (pss_cons (ps_set (i := 3) sc__law_good.nd rfl (Or.inl rfl) (pe_call G_is_plan (hr.mono (by decide)) (by rfl) g_is_plan k_is_plan b_is_plan .nil pass0 (pa_cons (pv 0) (pa_cons (pv 1) pa_nil))))
      (pss_cons (ps_if (PW.pt (pw_or (pt_not (pt_val (pe_callB call_isi (by rfl) (T.fr 34 _ rfl) (by decide +kernel) (pa_cons (pv 3) (pa_cons (pe_bltn (v := .ty "bool") (by rfl) (T.fr 36 _ rfl) (by decide +kernel) rfl) pa_nil))))) (pw_or1 (pt_cmpR op_ne (pv 3) (pe_call G__law_is_plan (hr.mono (by decide)) (by rfl) g__law_is_plan k__law_is_plan b__law_is_plan .nil pass0 (pa_cons (pv 0) (pa_cons (pv 1) pa_nil))) (nomark _))))) (pss_one (ps_ret pe_bl)) pss_nil)
      (pss_cons (ps_set (i := 4) sc__law_good.nd rfl (Or.inl rfl) (pe_call G__law_fault (hr.mono (by decide)) (by rfl) g__law_fault k__law_fault b__law_fault .nil pass0 (pa_cons (pv 0) (pa_cons (pv 1) pa_nil))))
      (pss_cons (ps_if (PW.pt (pw_or (pt_cmpR op_ne (pe_cmp (pc_isN (pv 4)) rfl) (pv 3) (nomark _)) (pw_or1 (pt_cmpR (op_neD hr.units) (pe_call G_fault (hr.mono (by decide)) (by rfl) g_fault k_fault b_fault .nil passF (pa_cons (pv 0) (pa_cons (pv 1) pa_nil))) (pv 4) (nomark _))))) (pss_one (ps_ret pe_bl)) pss_nil)
      (pss_one (ps_ret (pe_cmpR op_eq (pe_callTy (call_str_data hgd hr.units) (by rfl) (T.fr 49 _ rfl) (by decide +kernel) (pa_cons (pe_lst (pa_cons (pv 0) (pa_cons (pv 1) pa_nil))) pa_nil)) (pv 2) (nomark _))))))))), ?_⟩
    walk_at "u"
    refine ⟨_, rfl, _, rfl, (show 2 ≤ sizeLine by decide), fun p np => ?_⟩
    have s1 := same_upd (o := .lst [.ref J, .ref a]) np
    have hsm := good_sm hv hl hb
    have hsl := hsm.len
    have h1 : ∀ h ∈ hs, 1 ≤ h := fun h hh => (hb h hh).1
    have hrs : HrsAt H (.ref a) fs.length true := by
      rw [← hl]
      exact HrsAt.of ha (by have := hv.fl; omega) h1
    refine ⟨p, _, rfl, .lst (SqL.of upd_same) (.cons (hJ.same s1).dp (.cons (.lst (SqL.of (s1 _ _ ha)) (dpAll_iV hs)) .nil)), hsm.show_, hsm.dict, Nat.le_trans hsm.dep (by decide), Nat.le_trans hsl (by decide), ?_⟩
    refine ⟨_, rfl, _, rfl, J, f, d, n, r, fs, ds, zs, rs, .ref a, true, rfl, hJ.same s1, hv, hrs.same s1, fun c H2 s2 _ hc => ?_⟩
    have hk : c = true ↔ Keeps fs ds zs rs hs := hc a hs rfl (s1 _ _ ha) rfl
    have s12 := s1.trans s2
    refine ⟨_, rfl, rIsi_of (b := true) (.bl c) (by decide +kernel) ⟨_, rfl, iteF ?_⟩⟩
    refine ⟨_, rfl, _, rfl, _, rfl, J, f, d, n, r, a, fs, ds, zs, rs, hs, rfl, hJ.same s12, hv, s12 _ _ ha, hl, h1, fun c' H3 s3 hc' => ?_⟩
    have ec : c = c' := Bool.eq_iff_iff.mpr (hk.trans hc'.symm)
    subst ec
    have s13 := s12.trans s3
    refine ⟨rfl, _, rfl, ?_⟩
    rw [decide_eq_true rfl]
    refine iteF ⟨_, rfl, _, rfl, J, f, d, n, r, a, fs, ds, zs, rs, hs, rfl, hJ.same s13, hv, s13 _ _ ha, hl, h1, fun o v H4 s4 ho hvo => ?_⟩
    have s14 := s13.trans s4
    have en : decide (v = V.non) = c := by
      rw [fltAt_none hvo]
      exact Bool.eq_iff_iff.mpr (decide_eq_true_iff.trans (ho.none_iff.trans hk.symm))
    refine ⟨_, rfl, _, rfl, ?_⟩
    rw [en]
    refine ⟨rfl, _, rfl, ?_⟩
    rw [decide_eq_true rfl]
    refine iteF ⟨_, rfl, _, rfl, J, f, d, n, r, fs, ds, zs, rs, .ref a, true, rfl, hJ.same s14, hv, hrs.same s14, (fun z => Bool.noConfusion z), fun _ a' hs' e ha' o' v' H5 s5 ho' hvo' => ?_⟩
    cases e
    have eh : hs = hs' := iV_inj (HO.lst.inj (Option.some.inj ((s14 _ _ ha).symm.trans ha')))
    subst eh
    have eo : o' = o := ho'.uq ho
    subst eo
    have s15 := s14.trans s5
    refine ⟨_, rfl, fltD o', fltD o', hvo'.dp, (hvo.same s5).dp, fltD_can _, fltD_can _, _, rfl, ?_⟩
    rw [SeqAt.eqv_refl _ (SeqAt.canLay_of_shaped (fltD_can _))]
    refine iteF ⟨_, rfl, _, rfl, (show 2 ≤ sizeLine by decide), fun p2 np2 => ?_⟩
    have s6 := same_upd (o := .lst [.ref J, .ref a]) np2
    refine ⟨p2, _, rfl, .lst (SqL.of upd_same) (.cons ((hJ.same s15).same s6).dp (.cons (.lst (SqL.of (s6 _ _ (s15 _ _ ha))) (dpAll_iV hs)) .nil)), hsm.show_, hsm.dict, Nat.le_trans hsm.dep (by decide), Nat.le_trans hsl (by decide), _, rfl, rfl, ?_⟩
    rw [decide_eq_true rfl]
    exact q _ (s15.trans s6)


theorem fresh_same {p : Addr} {H H1 H2 : Hp} (s : Same H H1) (n : H p = none) (b : But p H1 H2) : Same H H2 := fun a o h => b a o (ne_of_none h n) (s a o h)
/-! ### things that are no hours -/
def AllBad (H : Hp) (n : Nat) (vs : List V) : Prop := ∀ v ∈ vs, HrsAt H v n false
theorem AllBad.same {H H' : Hp} {n : Nat} {vs : List V} (h : AllBad H n vs) (s : Same H H') : AllBad H' n vs := fun v hv => (h v hv).same s
theorem AllBad.add {H H' : Hp} {n : Nat} {vs : List V} {v : V} (h : AllBad H n vs) (s : Same H H') (b : HrsAt H' v n false) : AllBad H' n (vs ++ [v]) := fun u hu => by
  rcases List.mem_append.mp hu with hu | hu
  · exact (h u hu).same s
  · rw [List.mem_singleton.mp hu]
    exact b
theorem AllBad.nil {H : Hp} {n : Nat} : AllBad H n [] := fun _ h => nomatch h
theorem bad_kd {H : Hp} {v : V} {n : Nat} {t : String} (k : Kd H v t) (e : kitB t "list" = some false) : HrsAt H v n false := .inl ⟨rfl, t, k, e⟩
theorem bad_lst {H : Hp} {a : Addr} {n : Nat} {xs : List V} (ha : H a = some (.lst xs)) (hl : xs.length ≤ 1000) (hk : ∀ x ∈ xs, ∃ t, Kd H x t) (e : xs.length = n → ∃ x ∈ xs, isWF 1 x = false) : HrsAt H (.ref a) n false := by
  refine .inr ⟨a, xs, rfl, ha, hl, hk, ?_⟩
  by_cases c : xs.length = n
  · obtain ⟨x, hx, ex⟩ := e c
    rw [decide_eq_true c, Bool.true_and]
    symm
    rw [List.all_eq_false]
    exact ⟨x, hx, by rw [ex]; exact Bool.false_ne_true⟩
  · rw [decide_eq_false c]
    rfl
theorem kd_ints {H : Hp} {hs : List Int} : ∀ x ∈ iV hs, ∃ t, Kd H x t := fun x hx => by
  obtain ⟨i, _, rfl⟩ := List.mem_map.mp hx
  exact ⟨_, .int i⟩
theorem kd_app {H : Hp} {xs ys : List V} (h1 : ∀ x ∈ xs, ∃ t, Kd H x t) (h2 : ∀ x ∈ ys, ∃ t, Kd H x t) : ∀ x ∈ xs ++ ys, ∃ t, Kd H x t := fun x hx => (List.mem_append.mp hx).elim (h1 x) (h2 x)
theorem kd_one {H : Hp} {v : V} {t : String} (k : Kd H v t) : ∀ x ∈ [v], ∃ t, Kd H x t := fun x hx => by
  rw [List.mem_singleton.mp hx]
  exact ⟨t, k⟩
theorem cut_tail (hs : List Int) : cutV (iV hs) (some 1) none = iV (hs.drop 1) := by
  have e : (1 : Int) = ((1 : Nat) : Int) := rfl
  unfold cutV
  rw [e, HT.sIx_nat, HT.sIx_none, iV_len]
  unfold iV
  rw [← List.map_drop, ← List.map_take]
  congr 1
  cases hs with
  | nil => rfl
  | cons x r =>
    show ((x :: r).drop (min 1 (r.length + 1))).take (r.length + 1 - min 1 (r.length + 1)) = r
    rw [show min 1 (r.length + 1) = 1 by omega]
    show r.take (r.length + 1 - 1) = r
    exact List.take_of_length_le (by omega)
theorem cut_init (hs : List Int) : cutV (iV hs) none (some (-1)) = iV (hs.take (hs.length - 1)) := by
  unfold cutV
  rw [HT.sIx_none, iV_len]
  show ((iV hs).drop 0).take ((if (-1 : Int) < 0 then ((-1 : Int) + (hs.length : Int)).toNat else min (-1 : Int).toNat hs.length) - 0) = _
  rw [if_pos (by decide)]
  unfold iV
  rw [List.drop_zero, ← List.map_take]
  congr 2
  omega
theorem bad_short {H : Hp} {a : Addr} {n : Nat} {hs : List Int} (ha : H a = some (.lst (iV hs))) (hl : hs.length ≤ 1000) (e : hs.length ≠ n) : HrsAt H (.ref a) n false :=
  bad_lst ha (by rw [iV_len]; exact hl) kd_ints fun z => absurd (by rw [iV_len] at z; exact z) e
theorem bad_head {H : Hp} {a : Addr} {n : Nat} {v : V} {t : String} {hs : List Int} (k : Kd H v t) (ev : isWF 1 v = false) (ha : H a = some (.lst ([v] ++ iV hs))) (hl : hs.length ≤ 900) : HrsAt H (.ref a) n false :=
  bad_lst ha (by rw [List.length_append, iV_len]; show 1 + hs.length ≤ 1000; omega) (kd_app (kd_one k) kd_ints) fun _ => ⟨v, by simp, ev⟩
theorem bad_last {H : Hp} {a : Addr} {n : Nat} {v : V} {t : String} {hs : List Int} (k : Kd H v t) (ev : isWF 1 v = false) (ha : H a = some (.lst (iV hs ++ [v]))) (hl : hs.length ≤ 900) : HrsAt H (.ref a) n false :=
  bad_lst ha (by rw [List.length_append, iV_len]; show hs.length + 1 ≤ 1000; omega) (kd_app kd_ints (kd_one k)) fun _ => ⟨v, by simp, ev⟩
theorem iV_nil_eqv (is : List Int) : PyData.eqv (.list (is.map .int)) (.list []) = is.isEmpty := by
  cases is <;> rfl
theorem rep_non : ∀ m : Nat, (List.replicate m [V.non]).flatten = oV (List.replicate m none)
  | 0 => rfl
  | m + 1 => by
    rw [List.replicate_succ, List.flatten_cons, rep_non m, List.replicate_succ]
    rfl
/-- v is a list of hours of n tasks -/
def IsH (H : Hp) (n : Nat) (v : V) : Prop := ∃ (b : Addr) (hx : List Int), v = .ref b ∧ H b = some (.lst (iV hx)) ∧ hx.length = n ∧ ∀ h ∈ hx, HB h
theorem IsH.same {H H' : Hp} {n : Nat} {v : V} (h : IsH H n v) (s : Same H H') : IsH H' n v := by
  obtain ⟨b, hx, e, hb, r⟩ := h
  exact ⟨b, hx, e, s _ _ hb, r⟩
def spLaw (K : PySem.W.Frag) : Sp := fun vs H Q _ => ∃ (a : Addr) (ns : List Int), vs = [.ref a] ∧ SqL K H a (ns.map V.int) ∧ ns.length ≤ 63 ∧ ∀ H', Q (.bl true) H'
theorem okl_law {fd : FuncData} (F : FunD K dd_law.name dd_law.qual dd_law.params dd_law.body dd_law.scope (dd_law.dvs K) (dd_law.kws K) (He.fAd K dd_law.at_) fd) (T : Env K mg) : FnG P w K mg base CX0 10 (He.fAd K dd_law.at_) fd ["_law_script"] (spLaw K) := by
  obtain ⟨fd__law_pile, D__law_pile, g__law_pile, k__law_pile, b__law_pile, G__law_pile⟩ := ok__law_pile (P := P) (w := w) (base := base) T
  obtain ⟨fd__law_job, D__law_job, g__law_job, k__law_job, b__law_job, G__law_job⟩ := ok__law_job (P := P) (w := w) (base := base) T
  obtain ⟨fd__law_hours, D__law_hours, g__law_hours, k__law_hours, b__law_hours, G__law_hours⟩ := ok__law_hours (P := P) (w := w) (base := base) T
  obtain ⟨fd__law_take, D__law_take, g__law_take, k__law_take, b__law_take, G__law_take⟩ := ok__law_take (P := P) (w := w) (base := base) T
  obtain ⟨fd__law_order, D__law_order, g__law_order, k__law_order, b__law_order, G__law_order⟩ := ok__law_order (P := P) (w := w) (base := base) T
  obtain ⟨fd__law_bent, D__law_bent, g__law_bent, k__law_bent, b__law_bent, G__law_bent⟩ := ok__law_bent (P := P) (w := w) (base := base) T
  obtain ⟨fd__law_good, D__law_good, g__law_good, k__law_good, b__law_good, G__law_good⟩ := ok__law_good (P := P) (w := w) (base := base) T
  obtain ⟨fd__law_refused, D__law_refused, g__law_refused, k__law_refused, b__law_refused, G__law_refused⟩ := ok__law_refused (P := P) (w := w) (base := base) T
  refine funD_okG F sc_law (fun vs H Q E h => ?_) (fun cdv A outer s H vs Q E hr hgd h => ?_)
  · obtain ⟨a, ns, rfl, hS, hlen, q⟩ := h
    rfl
  · obtain ⟨a, ns, rfl, hS, hlen, q⟩ := h
    refine ⟨_, PSs.nox (pss_cons (ps_for PassesOwn.never rfl (pi_range1 (by rfl) (T.fr 42 _ rfl) (pa_cons (pe_callB (call_max2 rfl) (by rfl) (T.fr 43 _ rfl) (by decide +kernel) (pa_cons pe_int (pa_cons (pe_callB (call_min2 rfl) (by rfl) (T.fr 47 _ rfl) (by decide +kernel) (pa_cons (pe_callB call_len_seq (by rfl) (T.fr 38 _ rfl) (by decide +kernel) (pa_cons (pv 0) pa_nil)) (pa_cons pe_int pa_nil))) pa_nil))) pa_nil)) (pg_name (i := 1) sc_law.nd rfl (Or.inl rfl)) (pss_cons (ps_set (i := 2) sc_law.nd rfl (Or.inl rfl) (pe_call G__law_pile (hr.mono (by decide)) (by rfl) g__law_pile k__law_pile b__law_pile .nil pass0 (pa_cons (pv 0) (pa_cons (pv 1) pa_nil))))
      (pss_cons (ps_set (i := 3) sc_law.nd rfl (Or.inl rfl) (pe_call G__law_job (hr.mono (by decide)) (by rfl) g__law_job k__law_job b__law_job .nil pass0 (pa_cons (pv 2) (pa_cons pe_int (pa_cons pe_int pa_nil)))))
      (pss_cons (ps_set (i := 4) sc_law.nd rfl (Or.inl rfl) (pe_call G__law_hours (hr.mono (by decide)) (by rfl) g__law_hours k__law_hours b__law_hours .nil pass0 (pa_cons (pe_call G__law_pile (hr.mono (by decide)) (by rfl) g__law_pile k__law_pile b__law_pile .nil pass0 (pa_cons (pv 0) (pa_cons (pe_op op_add (pv 1) pe_int) pa_nil))) (pa_cons (pe_call G__law_order (hr.mono (by decide)) (by rfl) g__law_order k__law_order b__law_order .nil pass0 (pa_cons (pv 2) (pa_cons (pe_callB call_len_seq (by rfl) (T.fr 38 _ rfl) (by decide +kernel) (pa_cons (pe_ix ix_tup (pv 3) pe_int (fun _ _ => rfl)) pa_nil)) pa_nil))) (pa_cons (pe_ix ix_tup (pv 3) pe_int (fun _ _ => rfl)) pa_nil)))))
      (pss_cons (ps_for PassesOwn.never rfl (pi_range1 (by rfl) (T.fr 42 _ rfl) (pa_cons pe_int pa_nil)) (pg_name (i := 5) sc_law.nd rfl (Or.inl rfl)) (pss_cons (ps_if (pt_not (pt_val (pe_callG hgd G__law_good (hr.mono (by decide)) (by rfl) g__law_good k__law_good b__law_good .nil pass0 (pa_cons (pv 3) (pa_cons (pv 4) pa_nil))))) (pss_one (ps_ret pe_bl)) pss_nil)
      (pss_one (ps_set (i := 4) sc_law.nd rfl (Or.inl rfl) (pe_call G__law_bent (hr.mono (by decide)) (by rfl) g__law_bent k__law_bent b__law_bent .nil pass0 (pa_cons (pv 2) (pa_cons (pv 4) pa_nil)))))))
      (pss_cons (ps_set (i := 6) sc_law.nd rfl (Or.inl rfl) (pe_lst (pa_cons pe_non (pa_cons pe_int (pa_cons (pe_callTy call_tuple_of (by rfl) (T.fr 39 _ rfl) (by decide +kernel) (pa_cons (pv 4) pa_nil)) (pa_cons (pe_op op_cat (pv 4) (pe_lst (pa_cons pe_int pa_nil))) (pa_cons (pe_op op_cat (pe_lst (pa_cons pe_int pa_nil)) (pe_slice sl_list (pv 4) (po_some pe_int) po_none)) (pa_cons (pe_op op_cat (pe_lst (pa_cons pe_bl pa_nil)) (pe_slice sl_list (pv 4) (po_some pe_int) po_none)) (pa_cons (pe_op op_cat (pe_lst (pa_cons pe_non pa_nil)) (pe_slice sl_list (pv 4) (po_some pe_int) po_none)) pa_nil)))))))))
      (pss_cons (ps_for PassesOwn.never rfl (pi_list (pe_op op_cat (pv 6) (pe_lst (pa_cons (pe_op op_cat (pe_lst (pa_cons pe_str pa_nil)) (pe_slice sl_list (pv 4) (po_some pe_int) po_none)) (pa_cons (pe_op op_cat (pe_slice sl_list (pv 4) (po_some pe_int) po_none) (pe_lst (pa_cons (pe_un un_neg pe_int) pa_nil))) (pa_cons (pe_lst (pa_cons (pv 4) pa_nil)) (pa_cons pe_str pa_nil))))))) (pg_name (i := 7) sc_law.nd rfl (Or.inl rfl)) (pss_one (ps_if (pt_not (pt_val (pe_call G__law_refused (hr.mono (by decide)) (by rfl) g__law_refused k__law_refused b__law_refused .nil pass0 (pa_cons (pv 3) (pa_cons (pv 7) pa_nil))))) (pss_one (ps_ret pe_bl)) pss_nil)))
      (pss_cons (ps_for PassesOwn.never rfl (pi_list (pe_op op_rep (pe_lst (pa_cons (pe_slice sl_list (pv 4) po_none (po_some (pe_un un_neg pe_int))) (pa_cons (pe_slice sl_list (pv 4) (po_some pe_int) po_none) (pa_cons (pe_lst pa_nil) pa_nil)))) (pe_callTy call_int1 (by rfl) (T.fr 35 _ rfl) (by decide +kernel) (pa_cons (pe_cmpR (op_neD hr.units) (pv 4) (pe_lst pa_nil) (nomark _)) pa_nil)))) (pg_name (i := 8) sc_law.nd rfl (Or.inl rfl)) (pss_one (ps_if (pt_not (pt_val (pe_call G__law_refused (hr.mono (by decide)) (by rfl) g__law_refused k__law_refused b__law_refused .nil pass0 (pa_cons (pv 3) (pa_cons (pv 8) pa_nil))))) (pss_one (ps_ret pe_bl)) pss_nil)))
      (pss_cons (ps_set (i := 9) sc_law.nd rfl (Or.inl rfl) (pe_call G__law_take (hr.mono (by decide)) (by rfl) g__law_take k__law_take b__law_take .nil pass0 (pa_cons (pv 2) (pa_cons (pe_op op_add (pe_callB call_len_seq (by rfl) (T.fr 38 _ rfl) (by decide +kernel) (pa_cons (pv 4) pa_nil)) pe_int) pa_nil))))
      (pss_cons (ps_set (i := 10) sc_law.nd rfl (Or.inl rfl) (pe_callTy call_list_of (by rfl) (T.fr 40 _ rfl) (by decide +kernel) (pa_cons (pv 4) pa_nil)))
      (pss_cons (ps_if (pt_cmpR op_lt (pv 9) (pe_callB call_len_seq (by rfl) (T.fr 38 _ rfl) (by decide +kernel) (pa_cons (pv 10) pa_nil)) (nomark _)) (pss_one (ps_asg (pe_op op_pow pe_int pe_int) (pg_sub (pv 10) (pv 9) set_list))) pss_nil)
      (pss_cons (ps_set (i := 11) sc_law.nd rfl (Or.inl rfl) (pe_tup (pa_cons (pe_ix ix_tup (pv 3) pe_int (fun _ _ => rfl)) (pa_cons (pe_op op_rep (pe_lst (pa_cons pe_non pa_nil)) (pe_callB call_len_seq (by rfl) (T.fr 38 _ rfl) (by decide +kernel) (pa_cons (pv 4) pa_nil))) (pa_cons (pe_ix ix_tup (pv 3) pe_int (fun _ _ => rfl)) (pa_cons (pe_ix ix_tup (pv 3) pe_int (fun _ _ => rfl)) pa_nil))))))
      (pss_one (ps_for PassesOwn.never rfl (pi_list (pe_lst (pa_cons (pe_lc (own := [("_law_hour", 12)]) (g := gName 12) (tt := tYes) (by rfl) sc_law.nd (pi_list (pv 4)) (blkOk_by (own := [("_law_hour", 12)]) (N := N_law) (sc := defScope s_law) (by decide +kernel)) (fun _ _ _ _ _ => (pg_name (i := 12) sc_law.nd rfl (by first | exact Or.inl rfl | exact Or.inr rfl))) (fun _ _ _ _ _ => pts_nil) (fun _ _ _ _ _ => (pe_op op_add (pv 12) pe_int))) (pa_cons (pe_lc (own := [("_law_hour", 12)]) (g := gName 12) (tt := tYes) (by rfl) sc_law.nd (pi_list (pv 4)) (blkOk_by (own := [("_law_hour", 12)]) (N := N_law) (sc := defScope s_law) (by decide +kernel)) (fun _ _ _ _ _ => (pg_name (i := 12) sc_law.nd rfl (by first | exact Or.inl rfl | exact Or.inr rfl))) (fun _ _ _ _ _ => pts_nil) (fun _ _ _ _ _ => (pe_op op_add (pv 12) pe_int))) (pa_cons (pv 10) pa_nil))))) (pg_name (i := 8) sc_law.nd rfl (Or.inl rfl)) (pss_one (ps_if (PW.pt (pw_or (pt_not (pt_val (pe_callG hgd G__law_good (hr.mono (by decide)) (by rfl) g__law_good k__law_good b__law_good .nil pass0 (pa_cons (pv 3) (pa_cons (pv 8) pa_nil))))) (pw_or1 (pt_not (pt_val (pe_callG hgd G__law_good (hr.mono (by decide)) (by rfl) g__law_good k__law_good b__law_good .nil pass0 (pa_cons (pv 11) (pa_cons (pv 8) pa_nil)))))))) (pss_one (ps_ret pe_bl)) pss_nil))))))))))))))))
      (pss_one (ps_ret pe_bl))), ?_⟩
    walk_at "u"
    have em : ∃ m : Int, (if (if (8 : Int) < ((ns.map V.int).length : Int) then (8 : Int) else ((ns.map V.int).length : Int)) > 2 then (if (8 : Int) < ((ns.map V.int).length : Int) then (8 : Int) else ((ns.map V.int).length : Int)) else 2) = m ∧ 2 ≤ m ∧ m ≤ 8 := ⟨_, rfl, by split <;> split <;> omega, by split <;> split <;> omega⟩
    obtain ⟨m, em, m0, m1⟩ := em
    refine ⟨_, rfl, a, _, rfl, .inl hS, _, _, rfl, _, _, rfl, ?_⟩
    rw [em]
    refine ⟨_, rfl, by omega, by omega, for_range (lo := 0) (n := m.toNat) (fun i σ H' => ∃ y1 y2 y3 y4 y5 y6 y7 y8 y9 y10 y11, σ = [some (.ref a), y1, y2, y3, y4, y5, y6, y7, y8, y9, y10, y11, none] ∧ Same H H') ⟨none, none, none, none, none, none, none, none, none, none, none, rfl, Same.refl _⟩ (fun i σ H' hi hP => ?_) (fun σ H' hP => q _)⟩
    obtain ⟨y1, y2, y3, y4, y5, y6, y7, y8, y9, y10, y11, rfl, sm⟩ := hP
    refine ⟨_, rfl, _, rfl, a, ns, _, rfl, sm.seq hS, hlen, by omega, fun p x np => ?_⟩
    have s1 : Same H (upd H' p (.lst [.int x])) := sm.trans (same_upd np)
    have np0 : H p = none := sm.free np
    refine ⟨_, rfl, p, x, 1, 12, rfl, upd_same, by decide, by decide, by decide, fun J f d n r fs ds zs rs x' H2 nJ b2 hp2 hj hv hfl _ _ nf nd nn nr => ?_⟩
    have s2 : Same H H2 := fresh_same s1 np0 b2
    refine ⟨_, rfl, _, rfl, _, _, rfl, rfl, a, ns, _, rfl, s2.seq hS, hlen, by omega, fun p2 y np2 => ?_⟩
    have s22 := same_upd (o := .lst [.int y]) np2
    have np20 : H p2 = none := s2.free np2
    have hj2 := hj.same s22
    refine ⟨_, rfl, _, rfl, _, _, _, .ref f, rfl, rfl, SqT.of hj2.top, atI_nat (j := 0) rfl, f, _, rfl, .inl (SqL.of hj2.fr), p, x', fs.length, by rw [iV_len]; rfl, s22 _ _ hp2, by omega, fun qo os x2 H3 no b3 hp3 ho hperm => ?_⟩
    have s3 : Same H H3 := fresh_same (s2.trans s22) np0 b3
    have hj3 : JobAt H3 J f d n r fs ds zs rs := hj2.but (s22 _ _ hp2) nf nd nn nr b3
    have p2p : p2 ≠ p := (ne_of_none hp2 np2).symm
    have hp23 : H3 p2 = some (.lst [.int y]) := b3 p2 _ p2p upd_same
    have ne2 : ∀ {b : Addr} {o : HO}, H2 b = some o → b ≠ p2 := fun h => ne_of_none h np2
    refine ⟨_, rfl, _, _, _, .ref r, rfl, rfl, SqT.of hj3.top, atI_nat (j := 3) rfl, p2, qo, r, y, fs.length, os, rs, rfl, hp23, ho, hj3.ro, (ne_of_none upd_same no).symm, ne2 hj.ro, hperm, by omega, hv.ro, fun a0 hs0 x3 H4 n4 b4 _ h4 hl4 hb4 => ?_⟩
    have s4 : Same H H4 := fresh_same s3 np20 b4
    have hj4 : JobAt H4 J f d n r fs ds zs rs := hj3.but hp23 (ne2 hj.fr) (ne2 hj.du) (ne2 hj.ne.1) (ne2 hj.ro) b4
    have hp4 := b4 p _ p2p.symm hp3
    have a0p : a0 ≠ p := (ne_of_none hp3 n4).symm
    refine ⟨_, rfl, by omega, by omega, for_range (lo := 0) (n := 6) (fun i σ H' => ∃ y1 y5 y6 y7 y8 y9 y10 y11 a4 hs x, σ = [some (.ref a), some y1, some (.ref p), some (.ref J), some (.ref a4), y5, y6, y7, y8, y9, y10, y11, none] ∧ Same H H' ∧ H' p = some (.lst [.int x]) ∧ JobAt H' J f d n r fs ds zs rs ∧ H' a4 = some (.lst (iV hs)) ∧ hs.length = fs.length ∧ (∀ h ∈ hs, 1 ≤ h ∧ h ≤ 40 + 4 * (i : Int)) ∧ a4 ≠ p)
      ⟨_, y5, y6, y7, y8, y9, y10, y11, a0, hs0, x2, rfl, s4, hp4, hj4, h4, hl4, fun h hh => by have := hb4 h hh; omega, a0p⟩ (fun i2 σ H5 hi2 hP => ?_) (fun σ H5 hP => ?_)⟩
    · obtain ⟨y1, y5, y6, y7, y8, y9, y10, y11, a4, hs, x, rfl, s5, hp5, hj5, h5, hl5, hb5, ap⟩ := hP
      refine ⟨_, rfl, _, rfl, J, f, d, n, r, a4, fs, ds, zs, rs, hs, rfl, hj5, hv, h5, hl5, fun h hh => ⟨(hb5 h hh).1, .inl (by have := hb5 h hh; omega)⟩, fun H6 s6 => ⟨_, rfl, iteF ?_⟩⟩
      have hj6 := hj5.same s6
      refine ⟨_, rfl, _, rfl, p, a4, x, _, hs, rfl, s6 _ _ hp5, s6 _ _ h5, ap, by omega, hb5, fun q2 hs2 x2 H7 n7 b7 e1 e2 el eb => ?_⟩
      refine ⟨_, _, _, _, _, _, _, _, q2, hs2, x2, rfl, fresh_same (s5.trans s6) np0 b7, e1, hj6.but (s6 _ _ hp5) nf nd nn nr b7, e2, el.trans hl5, fun h hh => ?_, (ne_of_none (s6 _ _ hp5) n7).symm⟩
      have := eb h hh
      exact ⟨this.1, by omega⟩
    obtain ⟨y1, y5, y6, y7, y8, y9, y10, y11, a4, hs, x, rfl, s5, hp5, hj5, h5, hl5, hb5, ap⟩ := hP
    walk_at "u"
    have hn12 : fs.length ≤ 12 := by omega
    have hl12 : hs.length ≤ 12 := by omega
    have len1 : ∀ v : V, (iV hs).length + [v].length ≤ sizeLine := fun v => by
      rw [iV_len]
      exact small_sz (by show hs.length + 1 ≤ 100000; omega)
    have len2 : ∀ v : V, [v].length + (iV (hs.drop 1)).length ≤ sizeLine := fun v => by
      rw [iV_len, List.length_drop]
      exact small_sz (by show 1 + (hs.length - 1) ≤ 100000; omega)
    have dl : (hs.drop 1).length ≤ 900 := by
      rw [List.length_drop]
      omega
    -- the odd things
    refine ⟨_, rfl, a4, _, rfl, .inl ⟨SqL.of h5, fun t1 m1 => ?_⟩⟩
    have O3 : AllBad (upd H5 t1 (.tup (iV hs))) fs.length [.non, .int 0, .ref t1] := fun v hv' => by
      rcases List.mem_cons.mp hv' with e | hv'
      · rw [e]
        exact bad_kd .non (by decide +kernel)
      rcases List.mem_cons.mp hv' with e | hv'
      · rw [e]
        exact bad_kd (.int 0) (by decide +kernel)
      · rw [List.mem_singleton.mp hv']
        exact bad_kd (.tup upd_same) (by decide +kernel)
    have c1 : Same H5 (upd H5 t1 (.tup (iV hs))) := same_upd m1
    generalize upd H5 t1 (.tup (iV hs)) = G1 at O3 c1 ⊢
    -- hours + [1]
    refine ⟨_, rfl, (show 1 ≤ sizeLine by decide), fun e1 k1 => ?_⟩
    refine ⟨_, _, _, _, rfl, rfl, (same_upd k1) _ _ (c1 _ _ h5), upd_same, len1 _, fun L1 j1 => ?_⟩
    have c2 := (same_upd (o := .lst [.int 1]) k1).trans (same_upd (o := .lst (iV hs ++ [.int 1])) j1)
    have O4 := O3.add c2 (bad_lst (n := fs.length) upd_same (by rw [List.length_append, iV_len]; show hs.length + 1 ≤ 1000; omega) (kd_app kd_ints (kd_one (.int 1))) fun z => absurd z (by rw [List.length_append, iV_len]; show ¬ hs.length + 1 = fs.length; omega))
    have c12 := c1.trans c2
    generalize upd (upd G1 e1 (.lst [.int 1])) L1 (.lst (iV hs ++ [.int 1])) = G2 at O4 c12 ⊢
    -- [0] + hours[1:]
    refine ⟨(show 1 ≤ sizeLine by decide), fun e2 k2 => ⟨_, rfl, 1, rfl, a4, _, rfl, SqL.of ((same_upd k2) _ _ (c12 _ _ h5)), fun w2 n2 => ?_⟩⟩
    rw [cut_tail]
    refine ⟨_, _, _, _, rfl, rfl, (same_upd n2) _ _ upd_same, upd_same, len2 _, fun L2 j2 => ?_⟩
    have d2 := ((same_upd (o := .lst [.int 0]) k2).trans (same_upd (o := .lst (iV (hs.drop 1))) n2)).trans (same_upd (o := .lst ([.int 0] ++ iV (hs.drop 1))) j2)
    have O5 := O4.add d2 (bad_head (n := fs.length) (.int 0) rfl upd_same dl)
    have c13 := c12.trans d2
    generalize upd (upd (upd G2 e2 (.lst [.int 0])) w2 (.lst (iV (hs.drop 1)))) L2 (.lst ([.int 0] ++ iV (hs.drop 1))) = G3 at O5 c13 ⊢
    refine ⟨(show 1 ≤ sizeLine by decide), fun e3 k3 => ⟨_, rfl, 1, rfl, a4, _, rfl, SqL.of ((same_upd k3) _ _ (c13 _ _ h5)), fun w3 n3 => ?_⟩⟩
    rw [cut_tail]
    refine ⟨_, _, _, _, rfl, rfl, (same_upd n3) _ _ upd_same, upd_same, len2 _, fun L3 j3 => ?_⟩
    have d3 := ((same_upd (o := .lst [.bl true]) k3).trans (same_upd (o := .lst (iV (hs.drop 1))) n3)).trans (same_upd (o := .lst ([.bl true] ++ iV (hs.drop 1))) j3)
    have O6 := O5.add d3 (bad_head (n := fs.length) (.bl true) rfl upd_same dl)
    have c14 := c13.trans d3
    generalize upd (upd (upd G3 e3 (.lst [.bl true])) w3 (.lst (iV (hs.drop 1)))) L3 (.lst ([.bl true] ++ iV (hs.drop 1))) = G4 at O6 c14 ⊢
    refine ⟨(show 1 ≤ sizeLine by decide), fun e4 k4 => ⟨_, rfl, 1, rfl, a4, _, rfl, SqL.of ((same_upd k4) _ _ (c14 _ _ h5)), fun w4 n4 => ?_⟩⟩
    rw [cut_tail]
    refine ⟨_, _, _, _, rfl, rfl, (same_upd n4) _ _ upd_same, upd_same, len2 _, fun L4 j4 => ?_⟩
    have d4 := ((same_upd (o := .lst [.non]) k4).trans (same_upd (o := .lst (iV (hs.drop 1))) n4)).trans (same_upd (o := .lst ([.non] ++ iV (hs.drop 1))) j4)
    have O7 := O6.add d4 (bad_head (n := fs.length) .non rfl upd_same dl)
    have c15 := c14.trans d4
    generalize upd (upd (upd G4 e4 (.lst [.non])) w4 (.lst (iV (hs.drop 1)))) L4 (.lst ([.non] ++ iV (hs.drop 1))) = G5 at O7 c15 ⊢
    refine ⟨(show 7 ≤ sizeLine by decide), fun od nod => ?_⟩
    have d5 := same_upd (o := .lst [.non, .int 0, .ref t1, .ref L1, .ref L2, .ref L3, .ref L4]) nod
    have hod : (upd G5 od (.lst [.non, .int 0, .ref t1, .ref L1, .ref L2, .ref L3, .ref L4])) od = some (.lst [.non, .int 0, .ref t1, .ref L1, .ref L2, .ref L3, .ref L4]) := upd_same
    have O8 := O7.same d5
    have c16 := c15.trans d5
    generalize upd G5 od (.lst [.non, .int 0, .ref t1, .ref L1, .ref L2, .ref L3, .ref L4]) = G6 at O8 c16 hod ⊢
    refine ⟨_, rfl, (show 1 ≤ sizeLine by decide), fun e6 k6 => ⟨_, rfl, 1, rfl, a4, _, rfl, SqL.of ((same_upd k6) _ _ (c16 _ _ h5)), fun w6 n6 => ?_⟩⟩
    rw [cut_tail]
    refine ⟨_, _, _, _, rfl, rfl, (same_upd n6) _ _ upd_same, upd_same, len2 _, fun L6 j6 => ?_⟩
    have d6 := ((same_upd (o := .lst [.str "1"]) k6).trans (same_upd (o := .lst (iV (hs.drop 1))) n6)).trans (same_upd (o := .lst ([.str "1"] ++ iV (hs.drop 1))) j6)
    have O9 := O8.add d6 (bad_head (n := fs.length) (.str "1") rfl upd_same dl)
    have c17 := c16.trans d6
    have hod7 := d6 _ _ hod
    generalize upd (upd (upd G6 e6 (.lst [.str "1"])) w6 (.lst (iV (hs.drop 1)))) L6 (.lst ([.str "1"] ++ iV (hs.drop 1))) = G7 at O9 c17 hod7 ⊢
    -- hours[1:] + [-1]
    refine ⟨_, rfl, 1, rfl, a4, _, rfl, SqL.of (c17 _ _ h5), fun w7 n7 => ?_⟩
    rw [cut_tail]
    have hb7 : ∀ v : V, (iV (hs.drop 1)).length + [v].length ≤ sizeLine := fun v => by
      rw [iV_len, List.length_drop]
      exact small_sz (by show hs.length - 1 + 1 ≤ 100000; omega)
    refine ⟨_, rfl, (show 1 ≤ sizeLine by decide), fun e7 k7 => ?_⟩
    refine ⟨_, _, _, _, rfl, rfl, (same_upd k7) _ _ upd_same, upd_same, hb7 _, fun L7 j7 => ?_⟩
    have d7 := ((same_upd (o := .lst (iV (hs.drop 1))) n7).trans (same_upd (o := .lst [.int (-1)]) k7)).trans (same_upd (o := .lst (iV (hs.drop 1) ++ [.int (-1)])) j7)
    have O10 := O9.add d7 (bad_last (n := fs.length) (.int (-1)) rfl upd_same dl)
    have c18 := c17.trans d7
    have hod8 := d7 _ _ hod7
    generalize upd (upd (upd G7 w7 (.lst (iV (hs.drop 1)))) e7 (.lst [.int (-1)])) L7 (.lst (iV (hs.drop 1) ++ [.int (-1)])) = G8 at O10 c18 hod8 ⊢
    -- [hours]
    refine ⟨_, rfl, (show 1 ≤ sizeLine by decide), fun L8 j8 => ?_⟩
    have d8 := same_upd (o := .lst [.ref a4]) j8
    have O11 := O10.add d8 (bad_lst (n := fs.length) upd_same (by show 1 ≤ 1000; decide) (kd_one (.lst (d8 _ _ (c18 _ _ h5)))) fun _ => ⟨_, List.mem_singleton.mpr rfl, rfl⟩)
    have O12 := O11.add (Same.refl _) (bad_kd (n := fs.length) (.str "hours") (by decide +kernel))
    have c19 := c18.trans d8
    have hod9 := d8 _ _ hod8
    generalize upd G8 L8 (.lst [.ref a4]) = G9 at O12 c19 hod9 ⊢
    refine ⟨(show 4 ≤ sizeLine by decide), fun M nM => ⟨_, _, _, _, rfl, rfl, (same_upd nM) _ _ hod9, upd_same, (show 11 ≤ sizeLine by decide), fun X nX => ?_⟩⟩
    have d9 := (same_upd (o := .lst [.ref L6, .ref L7, .ref L8, .str "hours"]) nM).trans (same_upd (o := .lst ([.non, .int 0, .ref t1, .ref L1, .ref L2, .ref L3, .ref L4] ++ [.ref L6, .ref L7, .ref L8, .str "hours"])) nX)
    have hX : (upd (upd G9 M (.lst [.ref L6, .ref L7, .ref L8, .str "hours"])) X (.lst ([.non, .int 0, .ref t1, .ref L1, .ref L2, .ref L3, .ref L4] ++ [.ref L6, .ref L7, .ref L8, .str "hours"]))) X = some (.lst ([.non, .int 0, .ref t1, .ref L1, .ref L2, .ref L3, .ref L4] ++ [.ref L6, .ref L7, .ref L8, .str "hours"])) := upd_same
    have O13 := O12.same d9
    have c20 := c19.trans d9
    generalize upd (upd G9 M (.lst [.ref L6, .ref L7, .ref L8, .str "hours"])) X (.lst ([.non, .int 0, .ref t1, .ref L1, .ref L2, .ref L3, .ref L4] ++ [.ref L6, .ref L7, .ref L8, .str "hours"])) = G10 at O13 c20 hX ⊢
    have O14 : AllBad G10 fs.length ([.non, .int 0, .ref t1, .ref L1, .ref L2, .ref L3, .ref L4] ++ [.ref L6, .ref L7, .ref L8, .str "hours"]) := O13
    have h10 := c20 _ _ h5
    have j10 := hj5.same c20
    have p10 := c20 _ _ hp5
    have s10 := s5.trans c20
    refine ⟨X, rfl, ⟨_, SqL.of hX⟩, for_list (K := K) (a := X) (xs := [.non, .int 0, .ref t1, .ref L1, .ref L2, .ref L3, .ref L4] ++ [.ref L6, .ref L7, .ref L8, .str "hours"]) (fun i σ H' => ∃ y7, σ = [some (.ref a), some y1, some (.ref p), some (.ref J), some (.ref a4), y5, some (.ref od), y7, y8, y9, y10, y11, none] ∧ Same G10 H') ⟨_, rfl, Same.refl _⟩ (fun i σ H' _ hP => SqL.of (hP.choose_spec.2 _ _ hX)) (fun i v σ H' hvi hP => ?_) (fun σ H' hP => ?_)⟩
    · obtain ⟨y7, rfl, sm⟩ := hP
      exact ⟨_, rfl, _, rfl, J, f, d, n, r, fs, ds, zs, rs, v, rfl, j10.same sm, hv, (O14 v (List.mem_of_getElem? hvi)).same sm, fun H2 s2 => ⟨_, rfl, iteF ⟨_, rfl, sm.trans s2⟩⟩⟩
    obtain ⟨y7, rfl, s11⟩ := hP
    walk_at "u"
    have h11 := s11 _ _ h10
    have j11 := j10.same s11
    have p11 := s11 _ _ p10
    have s11' := s10.trans s11
    refine ⟨_, rfl, _, rfl, _, rfl, a4, _, rfl, SqL.of h11, fun q1 v1 => ?_⟩
    rw [cut_init]
    have f1 := same_upd (o := .lst (iV (hs.take (hs.length - 1)))) v1
    have hq1 : (upd H' q1 (.lst (iV (hs.take (hs.length - 1))))) q1 = some (.lst (iV (hs.take (hs.length - 1)))) := upd_same
    generalize upd H' q1 (.lst (iV (hs.take (hs.length - 1)))) = H12 at f1 hq1 ⊢
    refine ⟨_, rfl, 1, rfl, a4, _, rfl, SqL.of (f1 _ _ h11), fun q2 v2 => ?_⟩
    rw [cut_tail]
    have f2 := same_upd (o := .lst (iV (hs.drop 1))) v2
    have hq2 : (upd H12 q2 (.lst (iV (hs.drop 1)))) q2 = some (.lst (iV (hs.drop 1))) := upd_same
    have hq12 := f2 _ _ hq1
    have f12 := f1.trans f2
    generalize upd H12 q2 (.lst (iV (hs.drop 1))) = H13 at hq2 hq12 f12 ⊢
    refine ⟨(show 0 ≤ sizeLine by decide), fun q3 v3 => ⟨(show 3 ≤ sizeLine by decide), fun S nS => ?_⟩⟩
    have f4 := (same_upd (o := .lst []) v3).trans (same_upd (o := .lst [.ref q1, .ref q2, .ref q3]) nS)
    have hq3 := (same_upd (o := .lst [.ref q1, .ref q2, .ref q3]) nS) q3 _ upd_same
    have hS2 : (upd (upd H13 q3 (.lst [])) S (.lst [.ref q1, .ref q2, .ref q3])) S = some (.lst [.ref q1, .ref q2, .ref q3]) := upd_same
    have gq1 := f4 _ _ hq12
    have gq2 := f4 _ _ hq2
    have f14 := f12.trans f4
    generalize upd (upd H13 q3 (.lst [])) S (.lst [.ref q1, .ref q2, .ref q3]) = H14 at hq3 hS2 gq1 gq2 f14 ⊢
    refine ⟨_, rfl, (show 0 ≤ sizeLine by decide), fun e0 ne0 => ?_⟩
    have f5 := same_upd (o := .lst []) ne0
    refine ⟨.list (hs.map .int), .list [], .lst (SqL.of (f5 _ _ (f14 _ _ h11))) (dpAll_iV hs), .lst (SqL.of upd_same) .nil, shaped_map .int (fun _ => ⟨rfl, (show 0 ≤ 10 by decide)⟩) hs, rfl, ?_⟩
    rw [iV_nil_eqv]
    have f15 := f14.trans f5
    have gS := f5 _ _ hS2
    have kq1 := f5 _ _ gq1
    have kq2 := f5 _ _ gq2
    have kq3 := f5 _ _ hq3
    generalize upd H14 e0 (.lst []) = H15 at f15 gS kq1 kq2 kq3 ⊢
    obtain ⟨c, hc1, hc2⟩ : ∃ c : Int, (if (!hs.isEmpty) = true then (1 : Int) else 0) = c ∧ (c = 0 ∨ (c = 1 ∧ 0 < hs.length)) := by
      cases hs with
      | nil => exact ⟨0, rfl, .inl rfl⟩
      | cons y r => exact ⟨1, rfl, .inr ⟨rfl, Nat.succ_pos _⟩⟩
    refine .inr ⟨_, rfl, ?_⟩
    rw [hc1]
    have hB : AllBad H15 fs.length (List.replicate c.toNat [V.ref q1, V.ref q2, V.ref q3]).flatten := by
      rcases hc2 with rfl | ⟨rfl, hpos⟩
      · exact AllBad.nil
      · intro v hv'
        have hv2 : v ∈ [V.ref q1, V.ref q2, V.ref q3] := by simpa using hv'
        rcases List.mem_cons.mp hv2 with e | hv2
        · rw [e]
          exact bad_short kq1 (by rw [List.length_take]; omega) (by rw [List.length_take]; omega)
        rcases List.mem_cons.mp hv2 with e | hv2
        · rw [e]
          exact bad_short kq2 (by rw [List.length_drop]; omega) (by rw [List.length_drop]; omega)
        · rw [List.mem_singleton.mp hv2]
          exact bad_short (hs := []) kq3 (by decide) (by show 0 ≠ fs.length; omega)
    refine ⟨_, _, _, rfl, rfl, gS, by omega, by omega, by show 3 * c.toNat ≤ sizeLine; exact small_sz (by omega), fun X2 nX2 => ?_⟩
    have f6 := same_upd (o := .lst (List.replicate c.toNat [V.ref q1, V.ref q2, V.ref q3]).flatten) nX2
    have hX2 : (upd H15 X2 (.lst (List.replicate c.toNat [V.ref q1, V.ref q2, V.ref q3]).flatten)) X2 = some (.lst (List.replicate c.toNat [V.ref q1, V.ref q2, V.ref q3]).flatten) := upd_same
    have hB2 := hB.same f6
    have f16 := f15.trans f6
    generalize upd H15 X2 (.lst (List.replicate c.toNat [V.ref q1, V.ref q2, V.ref q3]).flatten) = H16 at f16 hX2 hB2 ⊢
    generalize (List.replicate c.toNat [V.ref q1, V.ref q2, V.ref q3]).flatten = xs2 at hX2 hB2 ⊢
    have j16 := j11.same f16
    refine ⟨X2, rfl, ⟨_, SqL.of hX2⟩, for_list (K := K) (a := X2) (xs := xs2) (fun i σ H' => ∃ y8, σ = [some (.ref a), some y1, some (.ref p), some (.ref J), some (.ref a4), y5, some (.ref od), y7, y8, y9, y10, y11, none] ∧ Same H16 H') ⟨_, rfl, Same.refl _⟩ (fun i σ H' _ hP => SqL.of (hP.choose_spec.2 _ _ hX2)) (fun i v σ H' hvi hP => ?_) (fun σ H17 hP => ?_)⟩
    · obtain ⟨y8, rfl, sm⟩ := hP
      exact ⟨_, rfl, _, rfl, J, f, d, n, r, fs, ds, zs, rs, v, rfl, j16.same sm, hv, (hB2 v (List.mem_of_getElem? hvi)).same sm, fun H2 s2 => ⟨_, rfl, iteF ⟨_, rfl, sm.trans s2⟩⟩⟩
    obtain ⟨y8, rfl, s17⟩ := hP
    have g17 := f16.trans s17
    have h17 := g17 _ _ h11
    have j17 := j11.same g17
    have p17 := g17 _ _ p11
    have s17' := s11'.trans g17
    walk_at "u"
    refine ⟨_, rfl, _, rfl, a4, _, rfl, .inl (SqL.of h17), _, _, rfl, rfl, p, x, _, rfl, p17, by rw [iV_len]; omega, by rw [iV_len]; omega, fun dd x6 d0 d1 => ?_⟩
    rw [iV_len] at d1
    have j18 : JobAt (upd H17 p (.lst [.int x6])) J f d n r fs ds zs rs := j17.but p17 nf nd nn nr But.upd
    have h18 : (upd H17 p (.lst [.int x6])) a4 = some (.lst (iV hs)) := by
      rw [upd_ne ap]
      exact h17
    have s18 : Same H (upd H17 p (.lst [.int x6])) := same_mut s17' np0
    generalize upd H17 p (.lst [.int x6]) = H18 at j18 h18 s18 ⊢
    refine ⟨_, rfl, a4, _, rfl, .inl (SqL.of h18), fun Lf nLf => ?_⟩
    have s19 := same_upd (o := .lst (iV hs)) nLf
    have hLf : (upd H18 Lf (.lst (iV hs))) Lf = some (.lst (iV hs)) := upd_same
    generalize hH19 : upd H18 Lf (.lst (iV hs)) = H19 at s19 hLf ⊢
    refine ⟨_, rfl, _, rfl, Lf, _, rfl, .inl (SqL.of hLf), _, _, rfl, rfl, _, rfl, ?_⟩
    refine' iteJP (X := Hp) (fun H' => Same H18 H' ∧ IsH H' fs.length (.ref Lf)) (fun e rest => ?_) (fun e rest => ?_) (fun H20 hc => ?_)
    rotate_left 2
    · have C0 : Same H18 H19 ∧ IsH H19 fs.length (.ref Lf) := ⟨s19, Lf, hs, rfl, hLf, hl5, fun h hh => ⟨(hb5 h hh).1, .inl (by have := hb5 h hh; omega)⟩⟩
      generalize H19 = Hx at C0 ⊢
      exact rest Hx C0
    rotate_left
    · have hlt : dd < (hs.length : Int) := by
        have e2 := of_decide_eq_true e
        rw [iV_len] at e2
        exact e2
      refine ⟨_, _, rfl, rfl, ⟨by decide, by decide, by decide⟩, _, rfl, _, rfl, Lf, _, _, dd.toNat, rfl, rfl, hLf, ixN_at (by omega) (by rw [iV_len]; omega), ?_⟩
      rw [iV_set]
      refine rest _ ⟨same_mut s19 nLf, Lf, _, rfl, upd_same, (List.length_set ..).trans hl5, fun h hh => ?_⟩
      rcases List.mem_or_eq_of_mem_set hh with z | z
      · exact ⟨(hb5 h z).1, .inl (by have := hb5 h z; omega)⟩
      · have e20 : ((10 : Int) ^ (20 : Int).toNat) = 100000000000000000000 := by decide +kernel
        rw [e20] at z
        rw [z]
        exact ⟨by decide, .inr rfl⟩
    obtain ⟨s20, hfar⟩ := hc
    have j20 := j18.same s20
    have h20 := s20 _ _ h18
    have s20' := s18.trans s20
    refine ⟨_, rfl, _, _, _, .ref f, rfl, rfl, SqT.of j20.top, atI_nat (j := 0) rfl, (show 1 ≤ sizeLine by decide), fun en ken => ⟨_, rfl, a4, _, rfl, .inl (SqL.of ((same_upd ken) _ _ h20)), en, _, _, rfl, rfl, upd_same, by omega, by rw [iV_len]; omega, by rw [iV_len]; show 1 * ((hs.length : Int)).toNat ≤ sizeLine; exact small_sz (by omega), fun D2 nD2 => ?_⟩⟩
    rw [iV_len, Int.toNat_natCast, hl5, rep_non]
    have s21 := (same_upd (o := .lst [.non]) ken).trans (same_upd (o := .lst (oV (List.replicate fs.length none))) nD2)
    have hD2 : (upd (upd H20 en (.lst [.non])) D2 (.lst (oV (List.replicate fs.length none)))) D2 = some (.lst (oV (List.replicate fs.length none))) := upd_same
    generalize upd (upd H20 en (.lst [.non])) D2 (.lst (oV (List.replicate fs.length none))) = H21 at s21 hD2 ⊢
    have j21 := j20.same s21
    refine ⟨_, rfl, _, _, _, .ref n, rfl, rfl, SqT.of j21.top, atI_nat (j := 2) rfl, _, rfl, _, _, _, .ref r, rfl, rfl, SqT.of j21.top, atI_nat (j := 3) rfl, (show 4 ≤ sizeLine by decide), fun J2 nJ2 => ?_⟩
    have s22 := same_upd (o := .tup [.ref f, .ref D2, .ref n, .ref r]) nJ2
    have hJ2 : (upd H21 J2 (.tup [.ref f, .ref D2, .ref n, .ref r])) J2 = some (.tup [.ref f, .ref D2, .ref n, .ref r]) := upd_same
    generalize upd H21 J2 (.tup [.ref f, .ref D2, .ref n, .ref r]) = H22 at s22 hJ2 ⊢
    have j22 := j21.same s22
    have jl22 : JobAt H22 J2 f D2 n r fs (List.replicate fs.length none) zs rs := ⟨hJ2, j22.fr, s22 _ _ hD2, j22.ne, j22.ro⟩
    have hvl : Valid fs (List.replicate fs.length none) zs rs := ⟨hv.fl, List.length_replicate .., hv.fv, fun x hx => (by cases (List.mem_replicate.mp hx).2), hv.zl, hv.znd, hv.rank, hv.ro⟩
    have s22' := s21.trans s22
    have h22 := s22' _ _ h20
    have far22 := hfar.same s22'
    have s22H := s20'.trans s22'
    have add : ∀ (k : Int), 0 ≤ k → k ≤ 60 → ∀ h ∈ hs.map (· + k), HB h := fun k k0 k1 h hh => by
      obtain ⟨y, hy, rfl⟩ := List.mem_map.mp hh
      have := hb5 y hy
      exact ⟨by omega, .inl (by omega)⟩
    refine ⟨_, rfl, a4, rfl, ⟨_, SqL.of h22⟩, fun Da nDa => lc_list (K := K) (a := a4) (xs := iV hs) (fun i H' => Same H22 H' ∧ H' Da = some (.lst (iV ((hs.take i).map (· + 60))))) ⟨same_upd nDa, upd_same⟩ (fun i H' _ hP => SqL.of (hP.1 _ _ h22)) (fun i y H' hy hP => ?_) (fun H23 hP => ?_)⟩
    · obtain ⟨sm, hD⟩ := hP
      obtain ⟨h, hh, rfl⟩ := iV_of hy
      have hi := (List.getElem?_eq_some_iff.mp hh).1
      refine ⟨rfl, ?_⟩
      walk_at "u"
      refine iteT ⟨_, rfl, _, _, rfl, rfl, _, hD, ?_, same_mut sm nDa, ?_⟩
      · rw [iV_len, List.length_map, List.length_take]
        exact small_lt (by omega)
      · rw [upd_same, List.take_add_one, hh, List.map_append, iV_app]
        rfl
    obtain ⟨s23, hDa⟩ := hP
    rw [iV_len, List.take_length] at hDa
    have h23 := s23 _ _ h22
    refine ⟨_, rfl, a4, rfl, ⟨_, SqL.of h23⟩, fun Db nDb => lc_list (K := K) (a := a4) (xs := iV hs) (fun i H' => Same H23 H' ∧ H' Db = some (.lst (iV ((hs.take i).map (· + 38))))) ⟨same_upd nDb, upd_same⟩ (fun i H' _ hP => SqL.of (hP.1 _ _ h23)) (fun i y H' hy hP => ?_) (fun H24 hP => ?_)⟩
    · obtain ⟨sm, hD⟩ := hP
      obtain ⟨h, hh, rfl⟩ := iV_of hy
      have hi := (List.getElem?_eq_some_iff.mp hh).1
      refine ⟨rfl, ?_⟩
      walk_at "u"
      refine iteT ⟨_, rfl, _, _, rfl, rfl, _, hD, ?_, same_mut sm nDb, ?_⟩
      · rw [iV_len, List.length_map, List.length_take]
        exact small_lt (by omega)
      · rw [upd_same, List.take_add_one, hh, List.map_append, iV_app]
        rfl
    obtain ⟨s24, hDb⟩ := hP
    rw [iV_len, List.take_length] at hDb
    have hDa4 := s24 _ _ hDa
    refine ⟨_, rfl, (show 3 ≤ sizeLine by decide), fun Z nZ => ?_⟩
    have s25 := same_upd (o := .lst [.ref Da, .ref Db, .ref Lf]) nZ
    have hZ : (upd H24 Z (.lst [.ref Da, .ref Db, .ref Lf])) Z = some (.lst [.ref Da, .ref Db, .ref Lf]) := upd_same
    have kDa := s25 _ _ hDa4
    have kDb := s25 _ _ hDb
    have s25' := (s23.trans s24).trans s25
    generalize upd H24 Z (.lst [.ref Da, .ref Db, .ref Lf]) = H25 at hZ kDa kDb s25' ⊢
    have j25 := j22.same s25'
    have jl25 := jl22.same s25'
    have good : ∀ v ∈ [V.ref Da, V.ref Db, V.ref Lf], IsH H25 fs.length v := fun v hv' => by
      rcases List.mem_cons.mp hv' with e | hv'
      · rw [e]
        exact ⟨Da, _, rfl, kDa, (List.length_map ..).trans hl5, add 60 (by decide) (by decide)⟩
      rcases List.mem_cons.mp hv' with e | hv'
      · rw [e]
        exact ⟨Db, _, rfl, kDb, (List.length_map ..).trans hl5, add 38 (by decide) (by decide)⟩
      · rw [List.mem_singleton.mp hv']
        exact far22.same s25'
    have s25H := s22H.trans s25'
    refine ⟨Z, rfl, ⟨_, SqL.of hZ⟩, for_list (K := K) (a := Z) (xs := [.ref Da, .ref Db, .ref Lf]) (fun i σ H' => ∃ y8, σ = [some (.ref a), some y1, some (.ref p), some (.ref J), some (.ref a4), y5, some (.ref od), y7, y8, some (.int dd), some (.ref Lf), some (.ref J2), none] ∧ Same H25 H') ⟨_, rfl, Same.refl _⟩ (fun i σ H' _ hP => SqL.of (hP.choose_spec.2 _ _ hZ)) (fun i v σ H' hvi hP => ?_) (fun σ H26 hP => ?_)⟩
    · obtain ⟨y8, rfl, sm⟩ := hP
      obtain ⟨b, hx, rfl, hb, hlx, hbx⟩ := good v (List.mem_of_getElem? hvi)
      refine ⟨_, rfl, _, rfl, J, f, d, n, r, b, fs, ds, zs, rs, hx, rfl, j25.same sm, hv, sm _ _ hb, hlx, hbx, fun H2 s2 => ⟨_, rfl, ?_⟩⟩
      refine iteF ⟨_, rfl, _, rfl, J2, f, D2, n, r, b, fs, _, zs, rs, hx, rfl, (jl25.same sm).same s2, hvl, s2 _ _ (sm _ _ hb), hlx, hbx, fun H3 s3 => ⟨_, rfl, ?_⟩⟩
      exact iteF ⟨_, rfl, (sm.trans s2).trans s3⟩
    obtain ⟨y8, rfl, s26⟩ := hP
    exact ⟨_, _, _, _, _, _, _, _, _, _, _, rfl, s25H.trans s26⟩

end
/-! ### the head -/
def loose0 : List PySem.Str := ["is_whole", "is_whole_from", "is_hour", "is_due", "is_job", "is_room", "is_task", "is_need", "are_needs", "followers_of", "has_ring", "check_job", "room_within", "is_plan", "fault", "are_hours", "first_fault", "crowds", "_law_mixed", "_law_pile"]
def loose1 : List PySem.Str := ["_law_take", "_law_order", "_law_room", "_law_hours", "_law_needs", "_law_job", "_law_keeps", "_law_whole", "_law_is_plan", "_law_fault", "_law_bent", "_law_refused", "_law_good", "MOST_ROOM", "ROOM_BEHIND", "JobError", "NoJob", "NoHours"]
abbrev R : PySem.W.OpenRow := PySem.W.OpenLaw.row PySem.Challenge.rw_duepairs_k10_plans_and_faults
abbrev hk : PySem.W.Hook := hookE 4 fa fn exK
def ob (s : PySem.W.SharedT) : AlE := obsE 4 fa fn exK (HandSHeadRun.getT s)
theorem ob_eq (s : PySem.W.SharedT) : ob s = hk.obs s.abs := obsE_eq (HandSHeadRun.getT_eq s)
abbrev loose : List PySem.Str := loose0 ++ loose1
theorem run (w : World) : HandSHeadRun.RunEq R (PySem.W.view R.prog [43]) hk ob 4000 loose w := by
  intro os
  kernel_rfl
theorem facts {P : Program} {w : World} {K : PySem.W.Frag} {h : Heap} {mg : Str → Option Value} {f : Addr} (X : K.In h) (G : h.Ns mainGlobals mg) (hfa : mg ("law" : Str) = some (.ref f)) (c : He.SaysD fa fn K) (ex : exK K = true) :
    ∃ fd : FuncData, (∀ (s : Shared) (v : Value), BindsTo s fd ⟨[v], []⟩ [("_law_script", v)]) ∧ ∀ base : Heap, K.In base → base.Ns mainGlobals mg → FnG P w K mg base CX0 10 f fd ["_law_script"] (spLaw K) := by
  have T : Env K mg := ⟨c, fun i x e => He.glo_ok X G (c.fact i e), fun i x e => He.free_ok X G (c.fact i e), fun i x n e => He.int_ok X G (c.fact i e), fun i x e => He.exc_ok (c.fact i e), fun i x y b e => He.exm_ok (c.fact i e), fun i f e => List.all_eq_true.mp ex f (List.mem_of_getElem? e)⟩
  obtain ⟨fd, F⟩ := c.def_ 33 (d := dd_law) rfl
  have e := hfa.symm.trans (T.gl 33 "law" rfl)
  cases e
  have b := FunD.bindsA (ps := ["_law_script"]) F fun _ _ _ _ _ _ us hl => match us, hl with | [_], _ => rfl
  refine ⟨fd, fun s v => b s [v] rfl, fun base _ _ => ?_⟩
  exact okl_law F T
end DP
open PySem PySem.W PySem.Calls PyProof.Rows
set_option maxRecDepth 100000 in
set_option maxHeartbeats 0 in
theorem PySem.Challenge.cw_duepairs_k10_plans_and_faults_holds : PySem.Challenge.rw_duepairs_k10_plans_and_faults.Holds := by
  w_on; o_law
  refine HandSHeadRun.head_any (r := OpenLaw.row PySem.Challenge.rw_duepairs_k10_plans_and_faults) (q := view (OpenLaw.row PySem.Challenge.rw_duepairs_k10_plans_and_faults).prog [43]) (H := DP.hk) (ob := DP.ob) (M := 4000) (loose := DP.loose) (d := HandSHeadRun.topDef (OpenLaw.row PySem.Challenge.rw_duepairs_k10_plans_and_faults).prog 43) (kwd := []) DP.ob_eq
    (by kernel_rfl) (fun s => by kernel_rfl) DP.run (by kernel_rfl) (by kernel_rfl) (by kernel_rfl) (by rfl) (by first | assumption | decide +kernel) (by decide +kernel) ⟨rfl, rfl, rfl, rfl, rfl, by decide +kernel⟩ ?hw ?hc
  case hw => w_witness2
  case hc =>
    refine DP.walk_ofG (l := PySem.Challenge.rw_duepairs_k10_plans_and_faults) (n := 63) (k := 10) (x := "_law_script") (CX := L2.CX0) rfl (by decide) (by kernel_rfl) ⟨rfl, by decide, by decide⟩ ?F (fun _ _ _ _ z => z)
    intro w mg fa h Y G hmg0
    obtain ⟨K, KX, c, ex⟩ := Y
    have hmg : mg ("law" : PySem.Str) = some (.ref fa) := by
      have e : (HandSHeadRun.topDef (OpenLaw.row PySem.Challenge.rw_duepairs_k10_plans_and_faults).prog 43).name = ("law" : PySem.Str) := by kernel_rfl
      rw [← e]
      exact hmg0
    obtain ⟨fd, hb, hF⟩ := DP.facts (P := (PySem.Challenge.rw_duepairs_k10_plans_and_faults).prog) (w := w) KX G hmg c ex
    exact ⟨K, fd, DP.spLaw K, KX, hb, fun H a ns hl _ hS => ⟨a, ns, rfl, hS, hl, fun _ => rfl⟩, hF⟩

