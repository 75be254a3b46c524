import PyProof.Rows.All
import Wide.All
import OpenK.AllK
import Wide.FinOn
import KE.KStateDown
import Lean
import HandS.ForMost
import HandS.More
import HandS.SortInts
import HandS.IsInst
import HandS.Wide
import HandS.TupSets
import HandS.Defaults
import HandS.WordsExc
import HandS.Head0
import HandS.Head1
import HandS.Head2
import HandS.HeadEnd
import HandS.HeadHook1
import HandS.HeadHook2
import HandS.Conv
import HandS.NoneIn
import HandS.ForExc
import HandS.ExcIs
import HandS.DictTup
import HandS.ListItems
import HandS.SetFor
import HandS.SortInts
import HandS.Walk
import HandS.Style
import HandS.RaiseMore
import HandS.Deep
import PySem.Challenge.RW_duepairs_k01_what_is_a_job
import PyProof.ReprRoads
import PyProof.Rows.ReprShort
import PyProof.ReprLen
import KE.DataMinMax

set_option Elab.async false
set_option linter.all false
set_option maxRecDepth 100000
set_option maxHeartbeats 4000000
namespace DP
open PySem PySem.Spec PyProof.Rows L2
/-! the text by places -/
def topS (i : Nat) : Stmt := PySem.Challenge.pw_duepairs_k01_what_is_a_job.main.body.getD i (.Pass ⟨0, 0, 0, 0⟩)
abbrev s_is_whole : Stmt := topS 4
abbrev N_is_whole : List Str := ["thing"]
theorem sc_is_whole : FnScope N_is_whole ["thing"] (defScope s_is_whole) := ⟨rfl, rfl, rfl, by decide +kernel, rfl, by decide +kernel, by decide +kernel⟩
def dd_is_whole : He.DefD := ⟨("is_whole", none), "is_whole", "is_whole", defArgs s_is_whole, defBody s_is_whole, defScope s_is_whole, [], []⟩
abbrev s_is_whole_from : Stmt := topS 5
abbrev N_is_whole_from : List Str := ["least", "thing"]
theorem sc_is_whole_from : FnScope N_is_whole_from ["least", "thing"] (defScope s_is_whole_from) := ⟨rfl, rfl, rfl, by decide +kernel, rfl, by decide +kernel, by decide +kernel⟩
def dd_is_whole_from : He.DefD := ⟨("is_whole_from", none), "is_whole_from", "is_whole_from", defArgs s_is_whole_from, defBody s_is_whole_from, defScope s_is_whole_from, [], []⟩
abbrev s_is_hour : Stmt := topS 6
abbrev N_is_hour : List Str := ["thing"]
theorem sc_is_hour : FnScope N_is_hour ["thing"] (defScope s_is_hour) := ⟨rfl, rfl, rfl, by decide +kernel, rfl, by decide +kernel, by decide +kernel⟩
def dd_is_hour : He.DefD := ⟨("is_hour", none), "is_hour", "is_hour", defArgs s_is_hour, defBody s_is_hour, defScope s_is_hour, [], []⟩
abbrev s_is_due : Stmt := topS 7
abbrev N_is_due : List Str := ["thing"]
theorem sc_is_due : FnScope N_is_due ["thing"] (defScope s_is_due) := ⟨rfl, rfl, rfl, by decide +kernel, rfl, by decide +kernel, by decide +kernel⟩
def dd_is_due : He.DefD := ⟨("is_due", none), "is_due", "is_due", defArgs s_is_due, defBody s_is_due, defScope s_is_due, [], []⟩
abbrev s_is_job : Stmt := topS 10
abbrev N_is_job : List Str := ["thing", "frees", "dues", "needs", "rooms", "part", "free", "due", "places"]
theorem sc_is_job : FnScope N_is_job ["thing"] (defScope s_is_job) := ⟨rfl, rfl, rfl, by decide +kernel, rfl, by decide +kernel, by decide +kernel⟩
def dd_is_job : He.DefD := ⟨("is_job", none), "is_job", "is_job", defArgs s_is_job, defBody s_is_job, defScope s_is_job, [], []⟩
abbrev s_is_room : Stmt := topS 11
abbrev N_is_room : List Str := ["thing"]
theorem sc_is_room : FnScope N_is_room ["thing"] (defScope s_is_room) := ⟨rfl, rfl, rfl, by decide +kernel, rfl, by decide +kernel, by decide +kernel⟩
def dd_is_room : He.DefD := ⟨("is_room", none), "is_room", "is_room", defArgs s_is_room, defBody s_is_room, defScope s_is_room, [], []⟩
abbrev s_is_task : Stmt := topS 12
abbrev N_is_task : List Str := ["many", "thing"]
theorem sc_is_task : FnScope N_is_task ["many", "thing"] (defScope s_is_task) := ⟨rfl, rfl, rfl, by decide +kernel, rfl, by decide +kernel, by decide +kernel⟩
def dd_is_task : He.DefD := ⟨("is_task", none), "is_task", "is_task", defArgs s_is_task, defBody s_is_task, defScope s_is_task, [], []⟩
abbrev s_is_need : Stmt := topS 13
abbrev N_is_need : List Str := ["many", "thing", "a", "b"]
theorem sc_is_need : FnScope N_is_need ["many", "thing"] (defScope s_is_need) := ⟨rfl, rfl, rfl, by decide +kernel, rfl, by decide +kernel, by decide +kernel⟩
def dd_is_need : He.DefD := ⟨("is_need", none), "is_need", "is_need", defArgs s_is_need, defBody s_is_need, defScope s_is_need, [], []⟩
abbrev s_are_needs : Stmt := topS 14
abbrev N_are_needs : List Str := ["many", "things", "thing"]
theorem sc_are_needs : FnScope N_are_needs ["many", "things"] (defScope s_are_needs) := ⟨rfl, rfl, rfl, by decide +kernel, rfl, by decide +kernel, by decide +kernel⟩
def dd_are_needs : He.DefD := ⟨("are_needs", none), "are_needs", "are_needs", defArgs s_are_needs, defBody s_are_needs, defScope s_are_needs, [], []⟩
abbrev s_followers_of : Stmt := topS 15
abbrev N_followers_of : List Str := ["many", "needs", "followers", "a", "b", "_"]
theorem sc_followers_of : FnScope N_followers_of ["many", "needs"] (defScope s_followers_of) := ⟨rfl, rfl, rfl, by decide +kernel, rfl, by decide +kernel, by decide +kernel⟩
def dd_followers_of : He.DefD := ⟨("followers_of", none), "followers_of", "followers_of", defArgs s_followers_of, defBody s_followers_of, defScope s_followers_of, [], []⟩
abbrev s_has_ring : Stmt := topS 16
abbrev N_has_ring : List Str := ["many", "needs", "followers", "waits", "_", "b", "cleared", "at", "a", "t"]
theorem sc_has_ring : FnScope N_has_ring ["many", "needs"] (defScope s_has_ring) := ⟨rfl, rfl, rfl, by decide +kernel, rfl, by decide +kernel, by decide +kernel⟩
def dd_has_ring : He.DefD := ⟨("has_ring", none), "has_ring", "has_ring", defArgs s_has_ring, defBody s_has_ring, defScope s_has_ring, [], []⟩
abbrev s_check_job : Stmt := topS 17
abbrev N_check_job : List Str := ["job"]
theorem sc_check_job : FnScope N_check_job ["job"] (defScope s_check_job) := ⟨rfl, rfl, rfl, by decide +kernel, rfl, by decide +kernel, by decide +kernel⟩
def dd_check_job : He.DefD := ⟨("check_job", none), "check_job", "check_job", defArgs s_check_job, defBody s_check_job, defScope s_check_job, [], []⟩
abbrev s_is_narrow : Stmt := topS 18
abbrev N_is_narrow : List Str := ["job"]
theorem sc_is_narrow : FnScope N_is_narrow ["job"] (defScope s_is_narrow) := ⟨rfl, rfl, rfl, by decide +kernel, rfl, by decide +kernel, by decide +kernel⟩
def dd_is_narrow : He.DefD := ⟨("is_narrow", none), "is_narrow", "is_narrow", defArgs s_is_narrow, defBody s_is_narrow, defScope s_is_narrow, [], []⟩
abbrev s__law_mixed : Stmt := topS 20
abbrev N__law_mixed : List Str := ["_law_cell", "_law_k", "_law_number"]
theorem sc__law_mixed : FnScope N__law_mixed ["_law_cell", "_law_k"] (defScope s__law_mixed) := ⟨rfl, rfl, rfl, by decide +kernel, rfl, by decide +kernel, by decide +kernel⟩
def dd__law_mixed : He.DefD := ⟨("_law_mixed", none), "_law_mixed", "_law_mixed", defArgs s__law_mixed, defBody s__law_mixed, defScope s__law_mixed, [], []⟩
abbrev s__law_pile : Stmt := topS 21
abbrev N__law_pile : List Str := ["_law_script", "_law_k", "_law_cell", "_law_found", "_law_j"]
theorem sc__law_pile : FnScope N__law_pile ["_law_script", "_law_k"] (defScope s__law_pile) := ⟨rfl, rfl, rfl, by decide +kernel, rfl, by decide +kernel, by decide +kernel⟩
def dd__law_pile : He.DefD := ⟨("_law_pile", none), "_law_pile", "_law_pile", defArgs s__law_pile, defBody s__law_pile, defScope s__law_pile, [], []⟩
abbrev s__law_take : Stmt := topS 22
abbrev N__law_take : List Str := ["_law_pile_here", "_law_size", "_law_digit"]
theorem sc__law_take : FnScope N__law_take ["_law_pile_here", "_law_size"] (defScope s__law_take) := ⟨rfl, rfl, rfl, by decide +kernel, rfl, by decide +kernel, by decide +kernel⟩
def dd__law_take : He.DefD := ⟨("_law_take", none), "_law_take", "_law_take", defArgs s__law_take, defBody s__law_take, defScope s__law_take, [], []⟩
abbrev s__law_order : Stmt := topS 23
abbrev N__law_order : List Str := ["_law_pile_here", "_law_many", "_law_order_here", "_law_k"]
theorem sc__law_order : FnScope N__law_order ["_law_pile_here", "_law_many"] (defScope s__law_order) := ⟨rfl, rfl, rfl, by decide +kernel, rfl, by decide +kernel, by decide +kernel⟩
def dd__law_order : He.DefD := ⟨("_law_order", none), "_law_order", "_law_order", defArgs s__law_order, defBody s__law_order, defScope s__law_order, [], []⟩
abbrev s__law_room : Stmt := topS 24
abbrev N__law_room : List Str := ["_law_rooms", "_law_hour"]
theorem sc__law_room : FnScope N__law_room ["_law_rooms", "_law_hour"] (defScope s__law_room) := ⟨rfl, rfl, rfl, by decide +kernel, rfl, by decide +kernel, by decide +kernel⟩
def dd__law_room : He.DefD := ⟨("_law_room", none), "_law_room", "_law_room", defArgs s__law_room, defBody s__law_room, defScope s__law_room, [], []⟩
abbrev s__law_hours : Stmt := topS 25
abbrev N__law_hours : List Str := ["_law_pile_here", "_law_order_here", "_law_rooms", "_law_hours_here", "_law_hour", "_law_left", "_law_task"]
theorem sc__law_hours : FnScope N__law_hours ["_law_pile_here", "_law_order_here", "_law_rooms"] (defScope s__law_hours) := ⟨rfl, rfl, rfl, by decide +kernel, rfl, by decide +kernel, by decide +kernel⟩
def dd__law_hours : He.DefD := ⟨("_law_hours", none), "_law_hours", "_law_hours", defArgs s__law_hours, defBody s__law_hours, defScope s__law_hours, [], []⟩
abbrev s__law_needs : Stmt := topS 26
abbrev N__law_needs : List Str := ["_law_pile_here", "_law_order_here", "_law_hours_here", "_law_loose", "_law_dense", "_law_needs_here", "_law_j", "_law_k", "_law_a", "_law_b"]
theorem sc__law_needs : FnScope N__law_needs ["_law_pile_here", "_law_order_here", "_law_hours_here"] (defScope s__law_needs) := ⟨rfl, rfl, rfl, by decide +kernel, rfl, by decide +kernel, by decide +kernel⟩
def dd__law_needs : He.DefD := ⟨("_law_needs", none), "_law_needs", "_law_needs", defArgs s__law_needs, defBody s__law_needs, defScope s__law_needs, [], []⟩
abbrev s__law_job : Stmt := topS 27
abbrev N__law_job : List Str := ["_law_pile_here", "_law_most", "_law_wide", "_law_rooms", "_law_order_here", "_law_hours_here", "_law_needs_here", "_law_frees", "_law_slack", "_law_dues", "_law_hour", "_law_due", "_law_k"]
theorem sc__law_job : FnScope N__law_job ["_law_pile_here", "_law_most", "_law_wide"] (defScope s__law_job) := ⟨rfl, rfl, rfl, by decide +kernel, rfl, by decide +kernel, by decide +kernel⟩
def dd__law_job : He.DefD := ⟨("_law_job", none), "_law_job", "_law_job", defArgs s__law_job, defBody s__law_job, defScope s__law_job, [], []⟩
abbrev s__law_whole : Stmt := topS 28
abbrev N__law_whole : List Str := ["_law_thing"]
theorem sc__law_whole : FnScope N__law_whole ["_law_thing"] (defScope s__law_whole) := ⟨rfl, rfl, rfl, by decide +kernel, rfl, by decide +kernel, by decide +kernel⟩
def dd__law_whole : He.DefD := ⟨("_law_whole", none), "_law_whole", "_law_whole", defArgs s__law_whole, defBody s__law_whole, defScope s__law_whole, [], []⟩
abbrev s__law_ringless : Stmt := topS 29
abbrev N__law_ringless : List Str := ["_law_many", "_law_needs_here", "_law_left", "_law_turn", "_law_task", "_law_a", "_law_b"]
theorem sc__law_ringless : FnScope N__law_ringless ["_law_many", "_law_needs_here"] (defScope s__law_ringless) := ⟨rfl, rfl, rfl, by decide +kernel, rfl, by decide +kernel, by decide +kernel⟩
def dd__law_ringless : He.DefD := ⟨("_law_ringless", none), "_law_ringless", "_law_ringless", defArgs s__law_ringless, defBody s__law_ringless, defScope s__law_ringless, [], []⟩
abbrev s__law_is_job : Stmt := topS 30
abbrev N__law_is_job : List Str := ["_law_thing", "_law_frees", "_law_dues", "_law_needs_here", "_law_rooms", "_law_k", "_law_one", "_law_part"]
theorem sc__law_is_job : FnScope N__law_is_job ["_law_thing"] (defScope s__law_is_job) := ⟨rfl, rfl, rfl, by decide +kernel, rfl, by decide +kernel, by decide +kernel⟩
def dd__law_is_job : He.DefD := ⟨("_law_is_job", none), "_law_is_job", "_law_is_job", defArgs s__law_is_job, defBody s__law_is_job, defScope s__law_is_job, [], []⟩
abbrev s__law_bent_job : Stmt := topS 31
abbrev N__law_bent_job : List Str := ["_law_pile_here", "_law_job_here", "_law_parts", "_law_way", "_law_at", "_law_odd", "_law_one", "_law_many", "_law_a", "_law_b", "_law_part"]
theorem sc__law_bent_job : FnScope N__law_bent_job ["_law_pile_here", "_law_job_here"] (defScope s__law_bent_job) := ⟨rfl, rfl, rfl, by decide +kernel, rfl, by decide +kernel, by decide +kernel⟩
def dd__law_bent_job : He.DefD := ⟨("_law_bent_job", none), "_law_bent_job", "_law_bent_job", defArgs s__law_bent_job, defBody s__law_bent_job, defScope s__law_bent_job, [], []⟩
abbrev s__law_narrow : Stmt := topS 32
abbrev N__law_narrow : List Str := ["_law_thing", "_law_found", "e"]
theorem sc__law_narrow : FnScope N__law_narrow ["_law_thing"] (defScope s__law_narrow) := ⟨rfl, rfl, rfl, by decide +kernel, rfl, by decide +kernel, by decide +kernel⟩
def dd__law_narrow : He.DefD := ⟨("_law_narrow", none), "_law_narrow", "_law_narrow", defArgs s__law_narrow, defBody s__law_narrow, defScope s__law_narrow, [], []⟩
abbrev s__law_far : Stmt := topS 33
abbrev N__law_far : List Str := ["_law_thing", "_law_frees", "_law_dues", "_law_needs_here", "_law_rooms", "_law_great", "_law_number"]
theorem sc__law_far : FnScope N__law_far ["_law_thing"] (defScope s__law_far) := ⟨rfl, rfl, rfl, by decide +kernel, rfl, by decide +kernel, by decide +kernel⟩
def dd__law_far : He.DefD := ⟨("_law_far", none), "_law_far", "_law_far", defArgs s__law_far, defBody s__law_far, defScope s__law_far, [], []⟩
abbrev s__law_good : Stmt := topS 34
abbrev N__law_good : List Str := ["_law_thing", "_law_kept", "_law_good_here", "_law_found", "_law_told"]
theorem sc__law_good : FnScope N__law_good ["_law_thing"] (defScope s__law_good) := ⟨rfl, rfl, rfl, by decide +kernel, rfl, by decide +kernel, by decide +kernel⟩
def dd__law_good : He.DefD := ⟨("_law_good", none), "_law_good", "_law_good", defArgs s__law_good, defBody s__law_good, defScope s__law_good, [], []⟩
abbrev s_law : Stmt := topS 35
abbrev N_law : List Str := ["_law_script", "_law_k", "_law_pile_here", "_law_job_here", "_law_more", "_law_turn"]
theorem sc_law : FnScope N_law ["_law_script"] (defScope s_law) := ⟨rfl, rfl, rfl, by decide +kernel, rfl, by decide +kernel, by decide +kernel⟩
def dd_law : He.DefD := ⟨("law", none), "law", "law", defArgs s_law, defBody s_law, defScope s_law, [], []⟩
def fn : List He.DefD := ([dd_is_whole, dd_is_whole_from, dd_is_hour, dd_is_due, dd_is_job, dd_is_room, dd_is_task, dd_is_need, dd_are_needs, dd_followers_of, dd_has_ring, dd_check_job, dd_is_narrow, dd__law_mixed, dd__law_pile, dd__law_take, dd__law_order, dd__law_room, dd__law_hours, dd__law_needs] : List He.DefD) ++ ([dd__law_job, dd__law_whole, dd__law_ringless, dd__law_is_job, dd__law_bent_job, dd__law_narrow, dd__law_far, dd__law_good, dd_law] : List He.DefD)
def fa : List He.Fa := ([.glo "is_whole", .glo "is_whole_from", .glo "is_hour", .glo "is_due", .glo "is_job", .glo "is_room", .glo "is_task", .glo "is_need", .glo "are_needs", .glo "followers_of", .glo "has_ring", .glo "check_job", .glo "is_narrow", .glo "_law_mixed", .glo "_law_pile", .glo "_law_take", .glo "_law_order", .glo "_law_room", .glo "_law_hours", .glo "_law_needs"] : List He.Fa) ++ ([.glo "_law_job", .glo "_law_whole", .glo "_law_ringless", .glo "_law_is_job", .glo "_law_bent_job", .glo "_law_narrow", .glo "_law_far", .glo "_law_good", .glo "law", .free "isinstance", .free "int", .free "bool", .free "all", .free "len", .free "tuple", .free "list", .free "set", .free "range", .free "min", .free "max"] : List He.Fa) ++ ([.free "ValueError", .free "str", .int "MOST_ROOM" 3, .glo "JobError", .glo "NoJob", .exc "JobError", .exc "NoJob", .exm "NoJob" "NoJob" true] : List He.Fa)
/-! ### what the top must say of the error classes -/
def excB (K : PySem.W.Frag) (D : Addr) : Bool := He.eqO (PySem.W.findIn K (.ref D) "__getattribute__") (some (some (.builtin "BaseException.__getattribute__"))) && (He.eqO (PySem.W.findIn K (.ref D) "__getattr__") (some none) && (decide (PySem.W.subIn K (.ref D) (.type "BaseException") = some true) &&
  (PySem.W.hasDictIn K D && (He.eqO (PySem.W.findIn K (.ref D) "__class__") (some (some (.builtin "object.__class__"))) && (He.eqO (PySem.W.specialIn K (.builtin "object.__class__") "__get__") (some (some (.builtin "getset_descriptor.__get__"))) && (decide (PySem.W.takesIn K (.builtin "object.__class__") = some true) && decide (PySem.W.mroIn K D (.type "object") = some true)))))))
theorem excB_ok {K : PySem.W.Frag} {D : Addr} (h : excB K D = true) : ExcC K D := by
  obtain ⟨h1, h⟩ := He.ba h
  obtain ⟨h2, h⟩ := He.ba h
  obtain ⟨h3, h⟩ := He.ba h
  obtain ⟨h4, h⟩ := He.ba h
  obtain ⟨h5, h⟩ := He.ba h
  obtain ⟨h6, h⟩ := He.ba h
  obtain ⟨h7, h8⟩ := He.ba h
  exact ⟨He.eqO_ok h1, He.eqO_ok h2, of_decide_eq_true h3, h4, He.eqO_ok h5, He.eqO_ok h6, of_decide_eq_true h7, of_decide_eq_true h8⟩
/-- x, y names of classes; whether x is a y -/
def kitB2 (K : PySem.W.Frag) (x y : Str) (b : Bool) : Bool := decide (PySem.W.kitOne K (.ref (He.ga K x)) (.ref (He.ga K y)) = some b)
def kitBT (K : PySem.W.Frag) (x : Str) (y : String) (b : Bool) : Bool := decide (PySem.W.kitOne K (.ref (He.ga K x)) (.type y) = some b)
/-! ### a head's facts with one Bool more -/
abbrev AlE : Type := He.AlD × Bool
def obsE (n : Nat) (fa : List He.Fa) (fn : List He.DefD) (ex : PySem.W.Frag → Bool) (g : Addr → Option Obj) : AlE := (He.obsDG n fa fn g, ex (He.frG g (He.asD g n)))
def hookE (n : Nat) (fa : List He.Fa) (fn : List He.DefD) (ex : PySem.W.Frag → Bool) : PySem.W.Hook where
  α := AlE
  obs := fun s => obsE n fa fn ex s.heap.get?
  val := fun _ => (He.valD fn, true)
  says := fun _ h => ∃ K : PySem.W.Frag, K.In h ∧ He.SaysD fa fn K ∧ ex K = true
  of := fun _ _ e => ⟨_, He.frG_in, congrArg (fun z : AlE => z.1) e, congrArg (fun z : AlE => z.2) e⟩
  keeps := fun _ _ _ ⟨K, hK, c⟩ k => ⟨K, PySem.W.Frag.In.keeps hK k, c⟩
theorem obsE_eq {n : Nat} {fa : List He.Fa} {fn : List He.DefD} {ex : PySem.W.Frag → Bool} {g : Addr → Option Obj} {s : Shared} (h : ∀ a, g a = s.heap.get? a) : obsE n fa fn ex g = (hookE n fa fn ex).obs s := by
  have e : g = s.heap.get? := funext h
  rw [e]
  rfl

/-- more that the top must say -/
def exL : List (PySem.W.Frag → Bool) := [fun K => excB K (He.ga K "NoJob"), fun K => kitB2 K "NoJob" "JobError" true, fun K => kitBT K "NoJob" "ValueError" true]
def exK (K : PySem.W.Frag) : Bool := exL.all fun f => f K
/-- what the top has left, as the walk asks it -/
structure Env (K : PySem.W.Frag) (mg : Str → Option Value) : Prop where
  c : He.SaysD fa fn K
  gl : ∀ (i : Nat) (x : Str), fa[i]? = some (.glo x) → mg x = some (.ref (He.ga K x))
  fr : ∀ (i : Nat) (x : Str), fa[i]? = some (.free x) → mg x = none
  it : ∀ (i : Nat) (x : Str) (n : Int), fa[i]? = some (.int x n) → ∃ t, mg x = some (.int n t)
  xc : ∀ (i : Nat) (x : Str), fa[i]? = some (.exc x) → PySem.W.excIn K (He.ga K x) He.veBase "ValueError.__new__" = true ∧ PySem.W.keepIn K (.ref (He.ga K x)) = true ∧ PySem.W.subIn K (.ref (He.ga K x)) (.type "BaseException") = some true ∧ PySem.W.typeIn K (.ref (He.ga K x)) = some (.type "type")
  xm : ∀ (i : Nat) (x y : Str) (b : Bool), fa[i]? = some (.exm x y b) → PySem.W.exmOne K (.ref (He.ga K x)) (.ref (He.ga K y)) = some b
  xk : ∀ (i : Nat) (f : PySem.W.Frag → Bool), exL[i]? = some f → f K = true
/-- the def that the module's name x stands for keeps its promise -/
def Ok (P : Program) (w : World) (K : PySem.W.Frag) (mg : Str → Option Value) (base : Heap) (CX : CXT) (D : He.DefD) (x : Str) (k : Nat) (ps : List Str) (sp : Sp) : Prop :=
  ∃ fd : FuncData, FunD K D.name D.qual D.params D.body D.scope (D.dvs K) (D.kws K) (He.fAd K D.at_) fd ∧ mg x = some (.ref (He.ga K x)) ∧ PySem.W.keepIn K (.ref (He.ga K x)) = true ∧ Binds K fd ps [] ∧ FnOk P w K mg base CX k (He.ga K x) fd ps sp

/-! kinds of values -/
inductive Kd (H : Hp) : V → String → Prop where
  | non : Kd H .non "NoneType"
  | bl (b : Bool) : Kd H (.bl b) "bool"
  | int (i : Int) : Kd H (.int i) "int"
  | str (x : Str) : Kd H (.str x) "str"
  | lst {a : Addr} {xs : List V} (e : H a = some (.lst xs)) : Kd H (.ref a) "list"
  | tup {a : Addr} {xs : List V} (e : H a = some (.tup xs)) : Kd H (.ref a) "tuple"
theorem Kd.tyx {K : PySem.W.Frag} {H : Hp} {x : V} {t : String} (k : Kd H x t) : TyX K H x (.type t) := by
  cases k with
  | non => exact .base .non
  | bl b => exact .base (.bl b)
  | int i => exact .base (.int i)
  | str x => exact .base (.str x)
  | lst e => exact .base (.lst e)
  | tup e => exact .base (.tup e)
/-- isinstance of a value of such a kind -/
theorem rIsi_of {K : PySem.W.Frag} {H : Hp} {x : V} {t c : String} {b : Bool} {Q : VK} (k : Kd H x t) (e : kitB t c = some b) (q : Q (.bl b) H) : rIsi K [x, .ty c] H Q :=
  ⟨x, .ty c, .type t, .type c, b, rfl, .ty c, k.tyx, kit_ty e, q⟩
def isW : V → Bool
  | .int _ => true
  | _ => false
def isWF (m : Int) : V → Bool
  | .int i => decide (m ≤ i)
  | _ => false
def isDue : V → Bool
  | .non => true
  | .int i => decide (0 ≤ i)
  | _ => false
def isRoom : V → Bool
  | .int i => decide (0 ≤ i) && decide (i ≤ 3)
  | _ => false
def isTask (n : Int) : V → Bool
  | .int i => decide (0 ≤ i) && decide (i < n)
  | _ => false
theorem ifB {c : Bool} {A B : Prop} (h1 : c = true → A) (h2 : c = false → B) : if c = true then A else B := by
  cases c with
  | true => exact iteT (h1 rfl)
  | false => exact iteF (h2 rfl)
def rLenQ (K : PySem.W.Frag) : List V → Hp → VK → Prop := fun xs H Q => ∃ p ys, xs = [.ref p] ∧ (SqL K H p ys ∨ SqT K H p ys) ∧ Q (.int ys.length) H
def rListQ (K : PySem.W.Frag) : List V → Hp → VK → Prop := fun xs H Q => ∃ p ys, xs = [.ref p] ∧ (SqL K H p ys ∨ SqT K H p ys) ∧ ∀ l, H l = none → Q (.ref l) (upd H l (.lst ys))

open Lean in
local macro_rules | `(tactic| walk_at "u") => `(tactic| dsimp only [tRet, tRetN, tSeq, tIfS, tNext, tDrop, tAsg, tPar, tAug, tCB, tCons, tNil, tVar, tC, tAndV, tOrV, tNotV, tAnd, tOr, tNot, tB, tTest, tOp, tUn, rI, rI0, rU, tIf, tCall, tIsN, tNotN, gName, gTup, gCons, gNil, gSub, tLst, tTup, tBM, tBM0, tSl, tPart, tNoPart, tYes, tCallN])
local macro_rules | `(tactic| walk_at "T") => `(tactic| ((try dsimp only); (try simp only [Bool.not_true, Bool.not_false, Bool.false_eq_true, reduceIte])))
local macro_rules | `(tactic| walk_at "F") => `(tactic| ((try dsimp only); (try simp only [Bool.not_true, Bool.not_false, Bool.false_eq_true, reduceIte])))


section
variable {P : Program} {w : World} {K : PySem.W.Frag} {mg : Str → Option Value} {base : Heap}
/-! duepairs.whole -/
def spWhole : Sp := fun vs H Q _ => ∃ (x : V) (t : String), vs = [x] ∧ Kd H x t ∧ Q (.bl (isW x)) H
theorem ok_is_whole (T : Env K mg) : Ok P w K mg base CX0 dd_is_whole "is_whole" 1 ["thing"] spWhole := by
  obtain ⟨fd, F⟩ := T.c.def_ 0 (d := dd_is_whole) rfl
  refine ⟨fd, F, T.gl 0 _ rfl, F.kp, F.bindsN fun _ _ _ _ _ _ us hl => match us, hl with | [_], _ => rfl, ?_⟩
  refine F.ok sc_is_whole (fun vs H Q E h => ?_) (fun cdv A outer s H vs Q E hr h => ?_)
  · obtain ⟨x, t, rfl, kd, q⟩ := h
    rfl
  · obtain ⟨x, t, rfl, kd, q⟩ := h
    refine ⟨_, PSs.nox (pss_one (ps_ret (pe_and (pe_callB call_isi (by rfl) (T.fr 29 _ rfl) (by decide +kernel) (pa_cons (pv 0) (pa_cons (pe_bltn (v := .ty "int") (by rfl) (T.fr 30 _ rfl) (by decide +kernel) rfl) pa_nil))) (pe_one (pe_not (pe_callB call_isi (by rfl) (T.fr 29 _ rfl) (by decide +kernel) (pa_cons (pv 0) (pa_cons (pe_bltn (v := .ty "bool") (by rfl) (T.fr 31 _ rfl) (by decide +kernel) rfl) pa_nil)))))))), ?_⟩
    walk_at "u"
    cases kd with
    | non => exact ⟨_, rfl, rIsi_of .non (by decide +kernel) ⟨_, rfl, iteF q⟩⟩
    | bl b => exact ⟨_, rfl, rIsi_of (.bl b) (by decide +kernel) ⟨_, rfl, iteT ⟨_, rfl, rIsi_of (b := true) (.bl b) (by decide +kernel) ⟨_, rfl, q⟩⟩⟩⟩
    | int i => exact ⟨_, rfl, rIsi_of (.int i) (by decide +kernel) ⟨_, rfl, iteT ⟨_, rfl, rIsi_of (b := false) (.int i) (by decide +kernel) ⟨_, rfl, q⟩⟩⟩⟩
    | str z => exact ⟨_, rfl, rIsi_of (.str z) (by decide +kernel) ⟨_, rfl, iteF q⟩⟩
    | lst e => exact ⟨_, rfl, rIsi_of (.lst e) (by decide +kernel) ⟨_, rfl, iteF q⟩⟩
    | tup e => exact ⟨_, rfl, rIsi_of (.tup e) (by decide +kernel) ⟨_, rfl, iteF q⟩⟩
def spWholeFrom : Sp := fun vs H Q _ => ∃ (m : Int) (x : V) (t : String), vs = [.int m, x] ∧ Kd H x t ∧ Q (.bl (isWF m x)) H
theorem ok_is_whole_from (T : Env K mg) : Ok P w K mg base CX0 dd_is_whole_from "is_whole_from" 2 ["least", "thing"] spWholeFrom := by
  obtain ⟨fd_is_whole, D_is_whole, g_is_whole, k_is_whole, b_is_whole, G_is_whole⟩ := ok_is_whole (P := P) (w := w) (base := base) T
  obtain ⟨fd, F⟩ := T.c.def_ 1 (d := dd_is_whole_from) rfl
  refine ⟨fd, F, T.gl 1 _ rfl, F.kp, F.bindsN fun _ _ _ _ _ _ us hl => match us, hl with | [_, _], _ => rfl, ?_⟩
  refine F.ok sc_is_whole_from (fun vs H Q E h => ?_) (fun cdv A outer s H vs Q E hr h => ?_)
  · obtain ⟨m, x, t, rfl, kd, q⟩ := h
    rfl
  · obtain ⟨m, x, t, rfl, kd, q⟩ := h
    refine ⟨_, PSs.nox (pss_one (ps_ret (pe_and (pe_call G_is_whole (hr.mono (by decide)) (by rfl) g_is_whole k_is_whole b_is_whole .nil pass0 (pa_cons (pv 1) pa_nil)) (pe_one (pe_cmpR op_ge (pv 1) (pv 0) (nomark _)))))), ?_⟩
    refine ⟨_, rfl, x, t, rfl, kd, _, rfl, ifB (fun e => ?_) (fun e => ?_)⟩
    · cases x with
      | int i => exact ⟨_, rfl, _, rfl, _, _, rfl, rfl, q⟩
      | _ => cases e
    · have e2 : isWF m x = false := by
        cases x with
        | int i => cases e
        | _ => rfl
      rw [e2] at q
      exact q
def spHour : Sp := fun vs H Q _ => ∃ (x : V) (t : String), vs = [x] ∧ Kd H x t ∧ Q (.bl (isWF 1 x)) H
theorem ok_is_hour (T : Env K mg) : Ok P w K mg base CX0 dd_is_hour "is_hour" 3 ["thing"] spHour := by
  obtain ⟨fd_is_whole_from, D_is_whole_from, g_is_whole_from, k_is_whole_from, b_is_whole_from, G_is_whole_from⟩ := ok_is_whole_from (P := P) (w := w) (base := base) T
  obtain ⟨fd, F⟩ := T.c.def_ 2 (d := dd_is_hour) rfl
  refine ⟨fd, F, T.gl 2 _ rfl, F.kp, F.bindsN fun _ _ _ _ _ _ us hl => match us, hl with | [_], _ => rfl, ?_⟩
  refine F.ok sc_is_hour (fun vs H Q E h => ?_) (fun cdv A outer s H vs Q E hr h => ?_)
  · obtain ⟨x, t, rfl, kd, q⟩ := h
    rfl
  · obtain ⟨x, t, rfl, kd, q⟩ := h
    refine ⟨_, PSs.nox (pss_one (ps_ret (pe_call G_is_whole_from (hr.mono (by decide)) (by rfl) g_is_whole_from k_is_whole_from b_is_whole_from .nil pass0 (pa_cons pe_int (pa_cons (pv 0) pa_nil))))), ?_⟩
    exact ⟨_, rfl, 1, x, t, rfl, kd, q⟩
def spDue : Sp := fun vs H Q _ => ∃ (x : V) (t : String), vs = [x] ∧ Kd H x t ∧ Q (.bl (isDue x)) H
theorem ok_is_due (T : Env K mg) : Ok P w K mg base CX0 dd_is_due "is_due" 3 ["thing"] spDue := by
  obtain ⟨fd_is_whole_from, D_is_whole_from, g_is_whole_from, k_is_whole_from, b_is_whole_from, G_is_whole_from⟩ := ok_is_whole_from (P := P) (w := w) (base := base) T
  obtain ⟨fd, F⟩ := T.c.def_ 3 (d := dd_is_due) rfl
  refine ⟨fd, F, T.gl 3 _ rfl, F.kp, F.bindsN fun _ _ _ _ _ _ us hl => match us, hl with | [_], _ => rfl, ?_⟩
  refine F.ok sc_is_due (fun vs H Q E h => ?_) (fun cdv A outer s H vs Q E hr h => ?_)
  · obtain ⟨x, t, rfl, kd, q⟩ := h
    rfl
  · obtain ⟨x, t, rfl, kd, q⟩ := h
    refine ⟨_, PSs.nox (pss_one (ps_ret (pe_or (pe_cmp (pc_isN (pv 0)) rfl) (pe_one (pe_call G_is_whole_from (hr.mono (by decide)) (by rfl) g_is_whole_from k_is_whole_from b_is_whole_from .nil pass0 (pa_cons pe_int (pa_cons (pv 0) pa_nil))))))), ?_⟩
    refine ⟨_, rfl, _, rfl, ifB (fun e => ?_) (fun e => ?_)⟩
    · have e2 : x = .non := of_decide_eq_true e
      subst e2
      exact q
    · have e2 : isDue x = isWF 0 x := by
        cases x with
        | non => cases e
        | _ => rfl
      rw [e2] at q
      exact ⟨_, rfl, 0, x, t, rfl, kd, q⟩
def spRoomP : Sp := fun vs H Q _ => ∃ (x : V) (t : String), vs = [x] ∧ Kd H x t ∧ Q (.bl (isRoom x)) H
theorem ok_is_room (T : Env K mg) : Ok P w K mg base CX0 dd_is_room "is_room" 3 ["thing"] spRoomP := by
  obtain ⟨fd_is_whole_from, D_is_whole_from, g_is_whole_from, k_is_whole_from, b_is_whole_from, G_is_whole_from⟩ := ok_is_whole_from (P := P) (w := w) (base := base) T
  obtain ⟨fd, F⟩ := T.c.def_ 5 (d := dd_is_room) rfl
  refine ⟨fd, F, T.gl 5 _ rfl, F.kp, F.bindsN fun _ _ _ _ _ _ us hl => match us, hl with | [_], _ => rfl, ?_⟩
  refine F.ok sc_is_room (fun vs H Q E h => ?_) (fun cdv A outer s H vs Q E hr h => ?_)
  · obtain ⟨x, t, rfl, kd, q⟩ := h
    rfl
  · obtain ⟨x, t, rfl, kd, q⟩ := h
    refine ⟨_, PSs.nox (pss_one (ps_ret (pe_and (pe_call G_is_whole_from (hr.mono (by decide)) (by rfl) g_is_whole_from k_is_whole_from b_is_whole_from .nil pass0 (pa_cons pe_int (pa_cons (pv 0) pa_nil))) (pe_one (pe_cmpR op_le (pv 0) (pe_glob (v := .int 3) (by rfl) (T.it 42 _ _ rfl).choose_spec ⟨_, rfl⟩) (nomark _)))))), ?_⟩
    refine ⟨_, rfl, 0, x, t, rfl, kd, _, rfl, ifB (fun e => ?_) (fun e => ?_)⟩
    · cases x with
      | int i =>
        have e2 : isRoom (.int i) = decide (i ≤ 3) := by
          show (decide (0 ≤ i) && decide (i ≤ 3)) = _
          rw [show decide (0 ≤ i) = true from e]
          rfl
        rw [e2] at q
        exact ⟨_, rfl, _, _, rfl, rfl, q⟩
      | _ => cases e
    · have e2 : isRoom x = false := by
        cases x with
        | int i =>
          show (decide (0 ≤ i) && decide (i ≤ 3)) = false
          rw [show decide (0 ≤ i) = false from e]
          rfl
        | _ => rfl
      rw [e2] at q
      exact q
def spTask : Sp := fun vs H Q _ => ∃ (n : Int) (x : V) (t : String), vs = [.int n, x] ∧ Kd H x t ∧ Q (.bl (isTask n x)) H
theorem ok_is_task (T : Env K mg) : Ok P w K mg base CX0 dd_is_task "is_task" 3 ["many", "thing"] spTask := by
  obtain ⟨fd_is_whole_from, D_is_whole_from, g_is_whole_from, k_is_whole_from, b_is_whole_from, G_is_whole_from⟩ := ok_is_whole_from (P := P) (w := w) (base := base) T
  obtain ⟨fd, F⟩ := T.c.def_ 6 (d := dd_is_task) rfl
  refine ⟨fd, F, T.gl 6 _ rfl, F.kp, F.bindsN fun _ _ _ _ _ _ us hl => match us, hl with | [_, _], _ => rfl, ?_⟩
  refine F.ok sc_is_task (fun vs H Q E h => ?_) (fun cdv A outer s H vs Q E hr h => ?_)
  · obtain ⟨n, x, t, rfl, kd, q⟩ := h
    rfl
  · obtain ⟨n, x, t, rfl, kd, q⟩ := h
    refine ⟨_, PSs.nox (pss_one (ps_ret (pe_and (pe_call G_is_whole_from (hr.mono (by decide)) (by rfl) g_is_whole_from k_is_whole_from b_is_whole_from .nil pass0 (pa_cons pe_int (pa_cons (pv 1) pa_nil))) (pe_one (pe_cmpR op_lt (pv 1) (pv 0) (nomark _)))))), ?_⟩
    refine ⟨_, rfl, 0, x, t, rfl, kd, _, rfl, ifB (fun e => ?_) (fun e => ?_)⟩
    · cases x with
      | int i =>
        have e2 : isTask n (.int i) = decide (i < n) := by
          show (decide (0 ≤ i) && decide (i < n)) = _
          rw [show decide (0 ≤ i) = true from e]
          rfl
        rw [e2] at q
        exact ⟨_, rfl, _, rfl, _, _, rfl, rfl, q⟩
      | _ => cases e
    · have e2 : isTask n x = false := by
        cases x with
        | int i =>
          show (decide (0 ≤ i) && decide (i < n)) = false
          rw [show decide (0 ≤ i) = false from e]
          rfl
        | _ => rfl
      rw [e2] at q
      exact q

end
/-! heaps: all but the pile stays -/
def But (p : Addr) (H H' : Hp) : Prop := ∀ b o, b ≠ p → H b = some o → H' b = some o
theorem But.refl (p : Addr) (H : Hp) : But p H H := fun _ _ _ h => h
theorem But.trans {p : Addr} {H H1 H2 : Hp} (a : But p H H1) (b : But p H1 H2) : But p H H2 := fun c o n h => b c o n (a c o n h)
theorem But.upd {p : Addr} {H : Hp} {o : HO} : But p H (upd H p o) := fun b u n h => by
  rw [upd_ne n]
  exact h
theorem But.new {p q : Addr} {H : Hp} {o : HO} (h : H q = none) : But p H (L2.upd H q o) := fun b u _ e => by
  rw [upd_ne (ne_of_none e h)]
  exact e
theorem But.of {p : Addr} {H H' : Hp} (s : Same H H') : But p H H' := fun b o _ h => s b o h
theorem same_upd {H : Hp} {q : Addr} {o : HO} (h : H q = none) : Same H (upd H q o) := fun b u e => by
  rw [upd_ne (ne_of_none e h)]
  exact e
/-- a new object may change -/
theorem same_mut {H H' : Hp} {q : Addr} {o : HO} (e : Same H H') (h : H q = none) : Same H (L2.upd H' q o) := fun a u ha => by
  rw [upd_ne (ne_of_none ha h)]
  exact e a u ha
theorem But.mut {p q : Addr} {H H' : Hp} {o : HO} (e : But p H H') (h : H q = none) : But p H (L2.upd H' q o) := fun a u n ha => by
  rw [upd_ne (ne_of_none ha h)]
  exact e a u n ha
theorem But.free {p l : Addr} {H H' : Hp} (e : But p H H') (n : l ≠ p) (h : H' l = none) : H l = none := by
  cases q : H l with
  | none => rfl
  | some o =>
    rw [e l o n q] at h
    cases h
theorem But.seq {K : PySem.W.Frag} {p a : Addr} {H H' : Hp} {xs : List V} (e : But p H H') (n : a ≠ p) (h : SqL K H a xs) : SqL K H' a xs := by
  rcases h with (h | ⟨o, h⟩) | h
  · exact .inl (.inl (e _ _ n h))
  · exact .inl (.inr ⟨o, e _ _ n h⟩)
  · exact .inr h
theorem lst_ne {H : Hp} {a b : Addr} {xs : List V} (h : H a = some (.lst xs)) (h' : H b = none) : a ≠ b := ne_of_none h h'
/-! numbers -/
theorem fmod_lo {x m : Int} (h : 0 < m) : 0 ≤ x.fmod m := by
  rw [Int.fmod_eq_emod_of_nonneg x (Int.le_of_lt h)]
  exact Int.emod_nonneg x (by omega)
theorem fmod_hi {x m : Int} (h : 0 < m) : x.fmod m < m := by
  rw [Int.fmod_eq_emod_of_nonneg x (Int.le_of_lt h)]
  exact Int.emod_lt_of_pos x h
theorem small_sz {n : Nat} (h : n ≤ 100000) : n ≤ sizeLine := Nat.le_trans h (by decide)
theorem small_lt {n : Nat} (h : n < 100000) : n < sizeLine := Nat.lt_of_lt_of_le h (by decide)
/-- numbers as values -/
def nV (ts : List Nat) : List V := ts.map fun (t : Nat) => V.int (t : Int)
def iV (is : List Int) : List V := is.map V.int
theorem iV_len (is : List Int) : (iV is).length = is.length := List.length_map ..
theorem nV_len (is : List Nat) : (nV is).length = is.length := List.length_map ..
theorem iV_get {is : List Int} {j : Nat} {i : Int} (h : is[j]? = some i) : (iV is)[j]? = some (.int i) := by
  unfold iV
  rw [List.getElem?_map, h]
  rfl
theorem iV_of {is : List Int} {j : Nat} {v : V} (h : (iV is)[j]? = some v) : ∃ i, is[j]? = some i ∧ v = .int i := by
  unfold iV at h
  rw [List.getElem?_map] at h
  cases e : is[j]? with
  | none =>
    rw [e] at h
    cases h
  | some i =>
    rw [e] at h
    exact ⟨i, rfl, (Option.some.inj h).symm⟩
theorem nV_get {is : List Nat} {j : Nat} {i : Nat} (h : is[j]? = some i) : (nV is)[j]? = some (.int (i : Int)) := by
  unfold nV
  rw [List.getElem?_map, h]
  rfl
theorem nV_of {is : List Nat} {j : Nat} {v : V} (h : (nV is)[j]? = some v) : ∃ i : Nat, is[j]? = some i ∧ v = .int (i : Int) := by
  unfold nV at h
  rw [List.getElem?_map] at h
  cases e : is[j]? with
  | none =>
    rw [e] at h
    cases h
  | some i =>
    rw [e] at h
    exact ⟨i, rfl, (Option.some.inj h).symm⟩
theorem atI_iV {is : List Int} {j : Nat} {z i : Int} (e : z = (j : Int)) (h : is[j]? = some i) : atI (iV is) z = some (.int i) := at_of e (iV_get h)
theorem atI_nV {is : List Nat} {j i : Nat} {z : Int} (e : z = (j : Int)) (h : is[j]? = some i) : atI (nV is) z = some (.int (i : Int)) := at_of e (nV_get h)
theorem ixN_at {n j : Nat} {z : Int} (e : z = (j : Int)) (hj : j < n) : ixN n z = some j := by
  subst e
  unfold ixN
  rw [if_pos (by omega), if_pos (by omega)]
  simp
/-- the room of an hour -/
def roomAt (rs : List Int) (h : Int) : Int := rs.getD (h - 1).toNat 2
theorem roomAt_in {rs : List Int} {h : Int} (h1 : 1 ≤ h) (h2 : h ≤ (rs.length : Int)) : rs[(h - 1).toNat]? = some (roomAt rs h) := by
  unfold roomAt
  rw [List.getD_eq_getElem?_getD, List.getElem?_eq_getElem (by omega)]
  rfl
theorem roomAt_out {rs : List Int} {h : Int} (h2 : (rs.length : Int) < h) : roomAt rs h = 2 := by
  unfold roomAt
  rw [List.getD_eq_getElem?_getD, List.getElem?_eq_none (by omega)]
  rfl
/-- both ways of an if lead on alike -/
theorem iteJ {X : Type} {b : Bool} {A B : Prop} {G : X → Prop} (h1 : b = true → (∀ c, G c) → A) (h2 : b = false → (∀ c, G c) → B) (rest : ∀ c, G c) : if b = true then A else B := by
  cases b with
  | true => exact iteT (h1 rfl rest)
  | false => exact iteF (h2 rfl rest)
/-! orders -/
theorem perm_ins {α : Type} (l : List α) (i : Nat) (x : α) : (l.take i ++ [x] ++ l.drop i).Perm (x :: l) := by
  have h : (l.take i ++ [x] ++ l.drop i).Perm (x :: (l.take i ++ l.drop i)) := by
    rw [List.append_assoc]
    exact List.perm_middle
  rw [List.take_append_drop] at h
  exact h
theorem nV_ins (l : List Nat) (i : Nat) (x : Nat) : (nV l).take i ++ [V.int (x : Int)] ++ (nV l).drop i = nV (l.take i ++ [x] ++ l.drop i) := by
  unfold nV
  rw [List.map_append, List.map_append, List.map_take, List.map_drop]
  rfl
theorem range_snoc (i : Nat) : (List.range (i + 1)) = List.range i ++ [i] := List.range_succ
theorem iV_set (l : List Int) (j : Nat) (x : Int) : (iV l).set j (.int x) = iV (l.set j x) := by
  unfold iV
  rw [List.map_set]
theorem iV_app (l : List Int) (x : Int) : iV l ++ [.int x] = iV (l ++ [x]) := by
  unfold iV
  rw [List.map_append]
  rfl
theorem nV_app (l : List Nat) (x : Nat) : nV l ++ [.int (x : Int)] = nV (l ++ [x]) := by
  unfold nV
  rw [List.map_append]
  rfl
/-! rooms of hours -/
structure Rooms (rs : List Int) : Prop where
  len : rs.length ≤ 8
  val : ∀ r ∈ rs, 0 ≤ r ∧ r ≤ 3
theorem Rooms.at_ {rs : List Int} (R : Rooms rs) (h : Int) : 0 ≤ roomAt rs h ∧ roomAt rs h ≤ 3 := by
  unfold roomAt
  rw [List.getD_eq_getElem?_getD]
  cases e : rs[(h - 1).toNat]? with
  | none => exact ⟨by decide, by decide⟩
  | some r => exact R.val r (List.mem_of_getElem? e)
def muH (hour left : Int) : Nat := 2 * (21 - hour).toNat + (if left = 0 then 1 else 0)
theorem muH_lt {hour left l2 : Int} (h : left = 0 ∨ hour < 20) (h2 : 20 ≤ hour → l2 = 2) : muH (hour + 1) l2 < muH hour left := by
  unfold muH
  by_cases h20 : hour < 20
  · split <;> split <;> omega
  · rw [if_pos (by omega : left = 0), if_neg (by rw [h2 (by omega)]; decide)]
    omega
/-! needs: a list of tuples of two tasks -/
def NeedsAt (H : Hp) (q : Addr) (zs : List (Addr × Nat × Nat)) : Prop :=
  H q = some (.lst (zs.map fun z => V.ref z.1)) ∧ ∀ z ∈ zs, H z.1 = some (.tup [.int (z.2.1 : Int), .int (z.2.2 : Int)])
theorem NeedsAt.same {H H' : Hp} {q : Addr} {zs : List (Addr × Nat × Nat)} (n : NeedsAt H q zs) (s : Same H H') : NeedsAt H' q zs := ⟨s _ _ n.1, fun z hz => s _ _ (n.2 z hz)⟩
theorem NeedsAt.but {H H' : Hp} {p q : Addr} {xs : List V} {zs : List (Addr × Nat × Nat)} (n : NeedsAt H q zs) (hp : H p = some (.lst xs)) (nq : q ≠ p) (s : But p H H') : NeedsAt H' q zs :=
  ⟨s _ _ nq n.1, fun z hz => s _ _ (ne_of (n.2 z hz) hp (by intro e; cases e)) (n.2 z hz)⟩
theorem zs_ins {α : Type} (f : α → V) (zs : List α) (i : Nat) (z : α) : (zs.map f).take i ++ [f z] ++ (zs.map f).drop i = (zs.take i ++ [z] ++ zs.drop i).map f := by
  rw [List.map_append, List.map_append, List.map_take, List.map_drop]
  rfl
theorem NeedsAt.ins {H : Hp} {q T : Addr} {zs : List (Addr × Nat × Nat)} {a b i : Nat} (n : NeedsAt H q zs) (nT : H T = none) :
    NeedsAt (upd (upd H T (.tup [.int (a : Int), .int (b : Int)])) q (.lst ((zs.map fun z => V.ref z.1).take i ++ [.ref T] ++ (zs.map fun z => V.ref z.1).drop i))) q (zs.take i ++ [(T, a, b)] ++ zs.drop i) := by
  refine ⟨by rw [upd_same, ← zs_ins (fun z : Addr × Nat × Nat => V.ref z.1)], fun z hz => ?_⟩
  have hz2 := (perm_ins zs i (T, a, b)).mem_iff.mp hz
  rcases List.mem_cons.mp hz2 with e | hz3
  · subst e
    rw [upd_ne (fun e => by
      have := n.1
      rw [← e, nT] at this
      cases this), upd_same]
  · have h1 := n.2 z hz3
    rw [upd_ne (ne_of h1 n.1 (by intro e; cases e)), upd_ne (ne_of_none h1 nT)]
    exact h1
theorem nodup_of_perm {os : List Nat} {n : Nat} (h : os.Perm (List.range n)) : os.Nodup := h.nodup_iff.mpr List.nodup_range
theorem ix_of_nodup {os : List Nat} (h : os.Nodup) {i j : Nat} {t : Nat} (a : os[i]? = some t) (b : os[j]? = some t) : i = j := nd_ix h a b
theorem flat_iV (is : List Int) : (iV is).all flatV = true := by
  unfold iV
  rw [List.all_eq_true]
  intro v hv
  obtain ⟨i, _, rfl⟩ := List.mem_map.mp hv
  rfl
theorem flat_nV (is : List Nat) : (nV is).all flatV = true := by
  unfold nV
  rw [List.all_eq_true]
  intro v hv
  obtain ⟨i, _, rfl⟩ := List.mem_map.mp hv
  rfl
theorem inV_iV (x : Int) (is : List Int) : inV (.int x) (iV is) = decide (x ∈ is) := by
  unfold inV iV
  rw [Bool.eq_iff_iff, List.any_eq_true, decide_eq_true_iff]
  constructor
  · rintro ⟨v, hv, e⟩
    obtain ⟨i, hi, rfl⟩ := List.mem_map.mp hv
    have e2 : i = x := beq_iff_eq.mp e
    rw [← e2]
    exact hi
  · intro h
    exact ⟨.int x, List.mem_map.mpr ⟨x, h, rfl⟩, beq_iff_eq.mpr rfl⟩
theorem inV_nV (x : Nat) (is : List Nat) : inV (.int (x : Int)) (nV is) = decide (x ∈ is) := by
  unfold inV nV
  rw [Bool.eq_iff_iff, List.any_eq_true, decide_eq_true_iff]
  constructor
  · rintro ⟨v, hv, e⟩
    obtain ⟨i, hi, rfl⟩ := List.mem_map.mp hv
    have e2 : (i : Int) = (x : Int) := beq_iff_eq.mp e
    rw [← Int.ofNat.inj e2]
    exact hi
  · intro h
    exact ⟨.int (x : Int), List.mem_map.mpr ⟨x, h, rfl⟩, beq_iff_eq.mpr rfl⟩
/-- each need goes forward along the order -/
def Along (os : List Nat) (zs : List (Addr × Nat × Nat)) (j k : Nat) : Prop := ∀ z ∈ zs, ∃ j' k' : Nat, k' < j' ∧ os[k']? = some z.2.1 ∧ os[j']? = some z.2.2 ∧ (j' < j ∨ (j' = j ∧ k' < k))
theorem Along.mono {os : List Nat} {zs : List (Addr × Nat × Nat)} {j k j2 k2 : Nat} (h : Along os zs j k) (l : j < j2 ∨ (j = j2 ∧ k ≤ k2)) : Along os zs j2 k2 := fun z hz => by
  obtain ⟨j', k', h1, h2, h3, h4⟩ := h z hz
  exact ⟨j', k', h1, h2, h3, by omega⟩
/-! jobs -/
def oO : Option Int → V
  | none => .non
  | some i => .int i
def oV (ds : List (Option Int)) : List V := ds.map oO
theorem oV_len (is : List (Option Int)) : (oV is).length = is.length := List.length_map ..
theorem oV_app (l : List (Option Int)) (x : Option Int) : oV l ++ oV [x] = oV (l ++ [x]) := by
  unfold oV
  rw [List.map_append]
structure JobAt (H : Hp) (J f d n r : Addr) (fs : List Int) (ds : List (Option Int)) (zs : List (Addr × Nat × Nat)) (rs : List Int) : Prop where
  top : H J = some (.tup [.ref f, .ref d, .ref n, .ref r])
  fr : H f = some (.lst (iV fs))
  du : H d = some (.lst (oV ds))
  ne : NeedsAt H n zs
  ro : H r = some (.lst (iV rs))
theorem JobAt.same {H H' : Hp} {J f d n r : Addr} {fs : List Int} {ds : List (Option Int)} {zs : List (Addr × Nat × Nat)} {rs : List Int} (j : JobAt H J f d n r fs ds zs rs) (s : Same H H') : JobAt H' J f d n r fs ds zs rs :=
  ⟨s _ _ j.top, s _ _ j.fr, s _ _ j.du, j.ne.same s, s _ _ j.ro⟩
theorem JobAt.but {H H' : Hp} {J f d n r p : Addr} {xs : List V} {fs : List Int} {ds : List (Option Int)} {zs : List (Addr × Nat × Nat)} {rs : List Int} (j : JobAt H J f d n r fs ds zs rs) (hp : H p = some (.lst xs))
    (nf : f ≠ p) (nd : d ≠ p) (nn : n ≠ p) (nr : r ≠ p) (s : But p H H') : JobAt H' J f d n r fs ds zs rs :=
  ⟨s _ _ (ne_of j.top hp (by intro e; cases e)) j.top, s _ _ nf j.fr, s _ _ nd j.du, j.ne.but hp nn s, s _ _ nr j.ro⟩
structure Valid (fs : List Int) (ds : List (Option Int)) (zs : List (Addr × Nat × Nat)) (rs : List Int) : Prop where
  fl : fs.length ≤ 100
  dl : ds.length = fs.length
  fv : ∀ x ∈ fs, 1 ≤ x ∧ x ≤ 200
  dv : ∀ x, some x ∈ ds → 0 ≤ x ∧ x ≤ 200
  zl : zs.length ≤ 30
  znd : (zs.map (·.2)).Nodup
  rank : ∃ rk : Nat → Nat, ∀ z ∈ zs, z.2.1 < fs.length ∧ z.2.2 < fs.length ∧ rk z.2.1 < rk z.2.2
  ro : Rooms rs
/-- a rank along an order -/
theorem rank_of {os : List Nat} {zs : List (Addr × Nat × Nat)} {n m j k : Nat} (hp : os.Perm (List.range n)) (h : Along os zs j k) (e : n = m) : ∃ rk : Nat → Nat, ∀ z ∈ zs, z.2.1 < m ∧ z.2.2 < m ∧ rk z.2.1 < rk z.2.2 := by
  subst e
  refine ⟨fun t => os.idxOf t, fun z hz => ?_⟩
  obtain ⟨j', k', h1, h2, h3, _⟩ := h z hz
  have nd := nodup_of_perm hp
  have lt : ∀ {i t : Nat}, os[i]? = some t → t < n := fun h => List.mem_range.mp (hp.mem_iff.mp (List.mem_of_getElem? h))
  have ix : ∀ {i t : Nat}, os[i]? = some t → os.idxOf t = i := fun {i t} h => by
    obtain ⟨hi, e⟩ := List.getElem?_eq_some_iff.mp h
    rw [← e]
    exact nd.idxOf_getElem i hi
  refine ⟨lt h2, lt h3, ?_⟩
  show os.idxOf z.2.1 < os.idxOf z.2.2
  rw [ix h2, ix h3]
  exact h1
theorem iteJP {X : Type} {b : Bool} {A B : Prop} {G : X → Prop} (C : X → Prop) (h1 : b = true → (∀ c, C c → G c) → A) (h2 : b = false → (∀ c, C c → G c) → B) (rest : ∀ c, C c → G c) : if b = true then A else B := by
  cases b with
  | true => exact iteT (h1 rfl rest)
  | false => exact iteF (h2 rfl rest)

section
variable {P : Program} {w : World} {K : PySem.W.Frag} {mg : Str → Option Value} {base : Heap}
/-! the law's own helpers: digits of a pile -/
def spMixed : Sp := fun vs H Q _ => ∃ (c k : Int), vs = [.int c, .int k] ∧ ∀ r, 0 ≤ r → r < 2147483579 → Q (.int r) H
theorem ok__law_mixed (T : Env K mg) : Ok P w K mg base CX0 dd__law_mixed "_law_mixed" 1 ["_law_cell", "_law_k"] spMixed := by
  obtain ⟨fd, F⟩ := T.c.def_ 13 (d := dd__law_mixed) rfl
  refine ⟨fd, F, T.gl 13 _ rfl, F.kp, F.bindsN fun _ _ _ _ _ _ us hl => match us, hl with | [_, _], _ => rfl, ?_⟩
  refine F.ok sc__law_mixed (fun vs H Q E h => ?_) (fun cdv A outer s H vs Q E hr h => ?_)
  · obtain ⟨c, k, rfl, q⟩ := h
    rfl
  · obtain ⟨c, k, rfl, q⟩ := h
    refine ⟨_, PSs.nox (pss_cons (ps_set (i := 2) sc__law_mixed.nd rfl (Or.inl rfl) (pe_op op_modN (pe_callTy call_int1 (by rfl) (T.fr 30 _ rfl) (by decide +kernel) (pa_cons (pe_op op_add (pe_op op_add (pe_op op_mul (pe_op op_modN (pe_callTy call_int1 (by rfl) (T.fr 30 _ rfl) (by decide +kernel) (pa_cons (pv 0) pa_nil)) pe_int) pe_int) (pe_op op_mul (pv 1) pe_int)) pe_int) pa_nil)) pe_int))
      (pss_cons (ps_set (i := 2) sc__law_mixed.nd rfl (Or.inl rfl) (pe_op op_modN (pe_callTy call_int1 (by rfl) (T.fr 30 _ rfl) (by decide +kernel) (pa_cons (pe_op op_mul (pv 2) (pv 2)) pa_nil)) pe_int))
      (pss_one (ps_ret (pe_op op_modN (pe_callTy call_int1 (by rfl) (T.fr 30 _ rfl) (by decide +kernel) (pa_cons (pe_op op_mul (pv 2) (pe_op op_add (pv 2) pe_int)) pa_nil)) pe_int))))), ?_⟩
    walk_at "u"
    refine ⟨_, rfl, .inl ⟨_, rfl, _, _, rfl, rfl, by decide, _, _, rfl, rfl, .inr ⟨by decide, by decide⟩, _, rfl, _, _, rfl, rfl, .inr ⟨by decide, by decide⟩, _, _, rfl, rfl, _, _, rfl, rfl, .inl ⟨_, rfl, _, _, rfl, rfl, by decide, ?_⟩⟩⟩
    generalize hz : Int.fmod _ 2147483629 = z
    have z0 : 0 ≤ z := hz ▸ fmod_lo (by decide)
    have z1 : z < 2147483629 := hz ▸ fmod_hi (by decide)
    refine ⟨_, rfl, _, rfl, _, _, rfl, rfl, .inl ⟨by omega, by omega⟩, .inl ⟨_, rfl, _, _, rfl, rfl, by decide, ?_⟩⟩
    generalize hy : Int.fmod _ 2147483587 = y
    have y0 : 0 ≤ y := hy ▸ fmod_lo (by decide)
    have y1 : y < 2147483587 := hy ▸ fmod_hi (by decide)
    refine ⟨_, rfl, _, rfl, _, _, rfl, rfl, _, _, rfl, rfl, .inl ⟨by omega, by omega⟩, .inl ⟨_, rfl, _, _, rfl, rfl, by decide, ?_⟩⟩
    exact q _ (fmod_lo (by decide)) (fmod_hi (by decide))
def spTake : Sp := fun vs H Q _ => ∃ (p : Addr) (x n : Int), vs = [.ref p, .int n] ∧ H p = some (.lst [.int x]) ∧ 0 < n ∧ n < 1000 ∧ ∀ d x', 0 ≤ d → d < n → Q (.int d) (upd H p (.lst [.int x']))
theorem ok__law_take (T : Env K mg) : Ok P w K mg base CX0 dd__law_take "_law_take" 1 ["_law_pile_here", "_law_size"] spTake := by
  obtain ⟨fd, F⟩ := T.c.def_ 15 (d := dd__law_take) rfl
  refine ⟨fd, F, T.gl 15 _ rfl, F.kp, F.bindsN fun _ _ _ _ _ _ us hl => match us, hl with | [_, _], _ => rfl, ?_⟩
  refine F.ok sc__law_take (fun vs H Q E h => ?_) (fun cdv A outer s H vs Q E hr h => ?_)
  · obtain ⟨p, x, n, rfl, hp, n0, n1, q⟩ := h
    rfl
  · obtain ⟨p, x, n, rfl, hp, n0, n1, q⟩ := h
    refine ⟨_, PSs.nox (pss_cons (ps_set (i := 2) sc__law_take.nd rfl (Or.inl rfl) (pe_op op_modN (pe_callTy call_int1 (by rfl) (T.fr 30 _ rfl) (by decide +kernel) (pa_cons (pe_ix ix_list (pv 0) pe_int (fun _ _ => rfl)) pa_nil)) (pv 1)))
      (pss_cons (ps_asg (pe_op op_fdivN (pe_ix ix_list (pv 0) pe_int (fun _ _ => rfl)) (pv 1)) (pg_sub (pv 0) pe_int set_list))
      (pss_one (ps_ret (pv 2))))), ?_⟩
    walk_at "u"
    refine ⟨_, rfl, _, _, _, _, rfl, rfl, SqL.of hp, atI_nat (j := 0) rfl, .inl ⟨_, rfl, _, rfl, _, _, rfl, rfl, by omega, ?_⟩⟩
    refine ⟨_, rfl, _, _, _, _, rfl, rfl, SqL.of hp, atI_nat (j := 0) rfl, _, rfl, _, _, rfl, rfl, ⟨by omega, by omega⟩, ?_⟩
    refine ⟨_, rfl, _, _, _, 0, rfl, rfl, hp, rfl, _, rfl, ?_⟩
    exact q _ _ (fmod_lo n0) (fmod_hi n0)
def spPile (K : PySem.W.Frag) : Sp := fun vs H Q _ => ∃ (a : Addr) (ns : List Int) (k : Int), vs = [.ref a, .int k] ∧ SqL K H a (iV ns) ∧ ns.length ≤ 63 ∧ 0 ≤ k ∧ ∀ p x, H p = none → Q (.ref p) (upd H p (.lst [.int x]))
theorem ok__law_pile (T : Env K mg) : Ok P w K mg base CX0 dd__law_pile "_law_pile" 2 ["_law_script", "_law_k"] (spPile K) := by
  obtain ⟨fd__law_mixed, D__law_mixed, g__law_mixed, k__law_mixed, b__law_mixed, G__law_mixed⟩ := ok__law_mixed (P := P) (w := w) (base := base) T
  obtain ⟨fd, F⟩ := T.c.def_ 14 (d := dd__law_pile) rfl
  refine ⟨fd, F, T.gl 14 _ rfl, F.kp, F.bindsN fun _ _ _ _ _ _ us hl => match us, hl with | [_, _], _ => rfl, ?_⟩
  refine F.ok sc__law_pile (fun vs H Q E h => ?_) (fun cdv A outer s H vs Q E hr h => ?_)
  · obtain ⟨a, ns, k, rfl, hS, hlen, k0, q⟩ := h
    rfl
  · obtain ⟨a, ns, k, rfl, hS, hlen, k0, q⟩ := h
    refine ⟨_, PSs.nox (pss_cons (ps_set (i := 2) sc__law_pile.nd rfl (Or.inl rfl) pe_int)
      (pss_cons (ps_if (pt_cmpR op_lt (pv 1) (pe_callB call_len_seq (by rfl) (T.fr 33 _ rfl) (by decide +kernel) (pa_cons (pv 0) pa_nil)) (nomark _)) (pss_one (ps_set (i := 2) sc__law_pile.nd rfl (Or.inl rfl) (pe_ix ix_list (pv 0) (pv 1) (fun _ _ => rfl)))) pss_nil)
      (pss_cons (ps_if (pt_cmpR op_ge (pv 2) (pe_op op_pow pe_int pe_int) (nomark _)) (pss_one (ps_ret (pe_lst (pa_cons (pe_op op_modN (pe_callTy call_int1 (by rfl) (T.fr 30 _ rfl) (by decide +kernel) (pa_cons (pe_op op_sub (pv 2) (pe_op op_pow pe_int pe_int)) pa_nil)) (pe_op op_mulW (pe_op op_mulW (pe_op op_mulW (pe_op op_pow pe_int pe_int) (pe_op op_pow pe_int pe_int)) (pe_op op_pow pe_int pe_int)) (pe_op op_pow pe_int pe_int))) pa_nil)))) pss_nil)
      (pss_cons (ps_set (i := 3) sc__law_pile.nd rfl (Or.inl rfl) pe_int)
      (pss_cons (ps_for PassesOwn.never rfl (pi_range1 (by rfl) (T.fr 37 _ rfl) (pa_cons pe_int pa_nil)) (pg_name (i := 4) sc__law_pile.nd rfl (Or.inl rfl)) (pss_one (ps_set (i := 3) sc__law_pile.nd rfl (Or.inl rfl) (pe_op op_add (pe_op op_mul (pv 3) pe_int) (pe_call G__law_mixed (hr.mono (by decide)) (by rfl) g__law_mixed k__law_mixed b__law_mixed .nil pass0 (pa_cons (pv 2) (pa_cons (pe_op op_add (pe_op op_add (pe_op op_mul pe_int (pv 1)) (pe_op op_mul pe_int (pv 4))) (pe_op op_mul (pv 4) (pv 4))) pa_nil)))))))
      (pss_one (ps_ret (pe_lst (pa_cons (pv 3) pa_nil))))))))), ?_⟩
    walk_at "u"
    have hL : SqL K H a (iV ns) := hS
    refine ⟨_, rfl, _, rfl, a, iV ns, rfl, .inl hL, _, _, rfl, rfl, _, rfl, ?_⟩
    refine' iteJ (X := Int) (fun e rest => ?_) (fun e rest => ?_) (fun c => ?_)
    rotate_left
    · have hk : k < (ns.length : Int) := by
        have h2 := of_decide_eq_true e
        rw [iV_len] at h2
        exact h2
      obtain ⟨c, hc⟩ : ∃ c, ns[k.toNat]? = some c := ⟨_, List.getElem?_eq_getElem (by omega)⟩
      refine ⟨_, rfl, _, rfl, _, _, _, _, rfl, rfl, hL, atI_iV (j := k.toNat) (by omega) hc, ?_⟩
      exact rest c
    · exact rest 0
    · refine ⟨_, rfl, _, _, rfl, rfl, ⟨by decide, by decide, by decide⟩, _, _, rfl, rfl, _, rfl, ifB (fun e => ?_) (fun e => ?_)⟩
      · refine ⟨_, rfl, _, _, rfl, rfl, ⟨by decide, by decide, by decide⟩, _, _, rfl, rfl, .inl ⟨_, rfl, ?_⟩⟩
        refine ⟨_, _, rfl, rfl, ⟨by decide, by decide, by decide⟩, _, _, rfl, rfl, ⟨by decide, by decide, by decide⟩, _, _, rfl, rfl, (by show _ + _ < 1000000; decide +kernel), ?_⟩
        refine ⟨_, _, rfl, rfl, ⟨by decide, by decide, by decide⟩, _, _, rfl, rfl, (by show _ + _ < 1000000; decide +kernel), ?_⟩
        refine ⟨_, _, rfl, rfl, ⟨by decide, by decide, by decide⟩, _, _, rfl, rfl, (by show _ + _ < 1000000; decide +kernel), ?_⟩
        refine ⟨_, _, rfl, rfl, by decide +kernel, (show 1 ≤ sizeLine by decide), fun p hp => ?_⟩
        exact q p _ hp
      · refine ⟨_, rfl, by decide, by decide, for_range (lo := 0) (n := 24) (fun i σ H' => ∃ f y, σ = [some (.ref a), some (.int k), some (.int c), some (.int f), y] ∧ H' = H) ⟨0, none, rfl, rfl⟩ (fun i σ H' hi hp => ?_) (fun σ H' hp => ?_)⟩
        · obtain ⟨f, y, rfl, rfl⟩ := hp
          refine ⟨_, rfl, _, _, rfl, rfl, .inr ⟨by decide, by decide⟩, _, rfl, _, rfl, _, _, rfl, rfl, .inl ⟨by decide, by decide⟩, _, rfl, _, _, rfl, rfl, .inl ⟨by decide, by decide⟩, _, _, rfl, rfl, _, rfl, _, rfl, _, _, rfl, rfl, .inl ⟨by omega, by omega⟩, _, _, rfl, rfl, ?_⟩
          refine ⟨_, _, rfl, fun r r0 r1 => ?_⟩
          exact ⟨_, _, rfl, rfl, _, _, rfl, rfl⟩
        · obtain ⟨f, y, rfl, rfl⟩ := hp
          exact ⟨_, rfl, (show 1 ≤ sizeLine by decide), fun p hp => q p _ hp⟩
def spOrder : Sp := fun vs H Q _ => ∃ (p : Addr) (x : Int) (n : Nat), vs = [.ref p, .int (n : Int)] ∧ H p = some (.lst [.int x]) ∧ n ≤ 100 ∧
  ∀ (q : Addr) (os : List Nat) (x' : Int) (H' : Hp), H q = none → But p H H' → H' p = some (.lst [.int x']) → H' q = some (.lst (nV os)) → os.Perm (List.range n) → Q (.ref q) H'
theorem ok__law_order (T : Env K mg) : Ok P w K mg base CX0 dd__law_order "_law_order" 2 ["_law_pile_here", "_law_many"] spOrder := by
  obtain ⟨fd__law_take, D__law_take, g__law_take, k__law_take, b__law_take, G__law_take⟩ := ok__law_take (P := P) (w := w) (base := base) T
  obtain ⟨fd, F⟩ := T.c.def_ 16 (d := dd__law_order) rfl
  refine ⟨fd, F, T.gl 16 _ rfl, F.kp, F.bindsN fun _ _ _ _ _ _ us hl => match us, hl with | [_, _], _ => rfl, ?_⟩
  refine F.ok sc__law_order (fun vs H Q E h => ?_) (fun cdv A outer s H vs Q E hr h => ?_)
  · obtain ⟨p, x, n, rfl, hp, hn, q⟩ := h
    rfl
  · obtain ⟨p, x, n, rfl, hp, hn, q⟩ := h
    refine ⟨_, PSs.nox (pss_cons (ps_set (i := 2) sc__law_order.nd rfl (Or.inl rfl) (pe_lst pa_nil))
      (pss_cons (ps_for PassesOwn.never rfl (pi_range1 (by rfl) (T.fr 37 _ rfl) (pa_cons (pv 1) pa_nil)) (pg_name (i := 3) sc__law_order.nd rfl (Or.inl rfl)) (pss_one (ps_expr (pe_bm PySem.F.plainAttrs_list PySem.F.slot_list_insert PySem.F.type_list_insert mt_insert (pv 2) (pa_cons (pe_call G__law_take (hr.mono (by decide)) (by rfl) g__law_take k__law_take b__law_take .nil pass0 (pa_cons (pv 0) (pa_cons (pe_op op_add (pv 3) pe_int) pa_nil))) (pa_cons (pv 3) pa_nil))))))
      (pss_one (ps_ret (pv 2))))), ?_⟩
    walk_at "u"
    refine ⟨by decide, fun o no => ?_⟩
    have npo : p ≠ o := ne_of_none hp no
    refine ⟨_, rfl, _, rfl, by omega, by omega, for_range (lo := 0) (n := (n : Int).toNat) (fun i σ H' => ∃ os x' y, σ = [some (.ref p), some (.int (n : Int)), some (.ref o), y] ∧ But p H H' ∧ H' p = some (.lst [.int x']) ∧ H' o = some (.lst (nV os)) ∧ os.Perm (List.range i))
      ⟨[], x, none, rfl, But.new no, by rw [upd_ne npo]; exact hp, by rw [upd_same]; rfl, List.Perm.refl _⟩ (fun i σ H' hi hP => ?_) (fun σ H' hP => ?_)⟩
    · obtain ⟨os, x', y, rfl, hb, hp', ho, hperm⟩ := hP
      have hl : os.length = i := by rw [hperm.length_eq, List.length_range]
      refine ⟨_, rfl, .inl ⟨rfl, _, .inl (.inl ho)⟩, _, rfl, _, rfl, _, _, rfl, rfl, p, x', _, rfl, hp', by omega, by omega, fun d x2 d0 d1 => ?_⟩
      refine ⟨_, rfl, o, nV os, d, _, rfl, rfl, by rw [upd_ne npo.symm]; exact ho, by rw [nV_len]; exact small_lt (by omega), d0, by omega, ?_⟩
      refine ⟨os.take d.toNat ++ [i] ++ os.drop d.toNat, x2, _, rfl, ?_, ?_, ?_, ?_⟩
      · intro b u nb hb2
        rw [upd_ne (ne_of_none hb2 no), upd_ne nb]
        exact hb b u nb hb2
      · rw [upd_ne npo, upd_same]
      · rw [upd_same, ← nV_ins]
        simp
      · rw [range_snoc]
        exact (perm_ins os d.toNat i).trans ((List.Perm.cons i hperm).trans (List.perm_append_comm (l₁ := [i]) (l₂ := List.range i)))
    · obtain ⟨os, x', y, rfl, hb, hp', ho, hperm⟩ := hP
      refine ⟨_, rfl, ?_⟩
      exact q o os x' H' no hb hp' ho (by simpa using hperm)
def spRoom1 (K : PySem.W.Frag) : Sp := fun vs H Q _ => ∃ (r : Addr) (rs : List Int) (h : Int), vs = [.ref r, .int h] ∧ SqL K H r (iV rs) ∧ 1 ≤ h ∧ Q (.int (roomAt rs h)) H
theorem ok__law_room (T : Env K mg) : Ok P w K mg base CX0 dd__law_room "_law_room" 1 ["_law_rooms", "_law_hour"] (spRoom1 K) := by
  obtain ⟨fd, F⟩ := T.c.def_ 17 (d := dd__law_room) rfl
  refine ⟨fd, F, T.gl 17 _ rfl, F.kp, F.bindsN fun _ _ _ _ _ _ us hl => match us, hl with | [_, _], _ => rfl, ?_⟩
  refine F.ok sc__law_room (fun vs H Q E h => ?_) (fun cdv A outer s H vs Q E hr h => ?_)
  · obtain ⟨r, rs, h, rfl, hr', h1, q⟩ := h
    rfl
  · obtain ⟨r, rs, h, rfl, hr', h1, q⟩ := h
    refine ⟨_, PSs.nox (pss_cons (ps_if (pt_cmpR op_le (pv 1) (pe_callB call_len_seq (by rfl) (T.fr 33 _ rfl) (by decide +kernel) (pa_cons (pv 0) pa_nil)) (nomark _)) (pss_one (ps_ret (pe_ix ix_list (pv 0) (pe_op op_sub (pv 1) pe_int) (fun _ _ => rfl)))) pss_nil)
      (pss_one (ps_ret pe_int))), ?_⟩
    walk_at "u"
    refine ⟨_, rfl, _, rfl, r, iV rs, rfl, .inl hr', _, _, rfl, rfl, _, rfl, ifB (fun e => ?_) (fun e => ?_)⟩
    · have hk : h ≤ (rs.length : Int) := by
        have h2 := of_decide_eq_true e
        rw [iV_len] at h2
        exact h2
      refine ⟨_, rfl, _, rfl, _, _, rfl, rfl, _, _, _, _, rfl, rfl, hr', atI_iV (j := (h - 1).toNat) (by omega) (roomAt_in h1 hk), ?_⟩
      exact q
    · have hk : (rs.length : Int) < h := by
        have h2 := of_decide_eq_false e
        rw [iV_len] at h2
        omega
      rw [roomAt_out hk] at q
      exact q
def spHours : Sp := fun vs H Q _ => ∃ (p oa ra : Addr) (x : Int) (n : Nat) (os : List Nat) (rs : List Int), vs = [.ref p, .ref oa, .ref ra] ∧ H p = some (.lst [.int x]) ∧ H oa = some (.lst (nV os)) ∧ H ra = some (.lst (iV rs)) ∧ oa ≠ p ∧ ra ≠ p ∧ os.Perm (List.range n) ∧ n ≤ 100 ∧ Rooms rs ∧
  ∀ (q : Addr) (hs : List Int) (x' : Int) (H' : Hp), H q = none → But p H H' → H' p = some (.lst [.int x']) → H' q = some (.lst (iV hs)) → hs.length = n → (∀ h ∈ hs, 1 ≤ h ∧ h ≤ 20 + n) → Q (.ref q) H'
theorem ok__law_hours (T : Env K mg) : Ok P w K mg base CX0 dd__law_hours "_law_hours" 2 ["_law_pile_here", "_law_order_here", "_law_rooms"] spHours := by
  obtain ⟨fd__law_room, D__law_room, g__law_room, k__law_room, b__law_room, G__law_room⟩ := ok__law_room (P := P) (w := w) (base := base) T
  obtain ⟨fd__law_take, D__law_take, g__law_take, k__law_take, b__law_take, G__law_take⟩ := ok__law_take (P := P) (w := w) (base := base) T
  obtain ⟨fd, F⟩ := T.c.def_ 18 (d := dd__law_hours) rfl
  refine ⟨fd, F, T.gl 18 _ rfl, F.kp, F.bindsN fun _ _ _ _ _ _ us hl => match us, hl with | [_, _, _], _ => rfl, ?_⟩
  refine F.ok sc__law_hours (fun vs H Q E h => ?_) (fun cdv A outer s H vs Q E hr h => ?_)
  · obtain ⟨p, oa, ra, x, n, os, rs, rfl, hp, hoa, hra, noa, nra, hperm, hn, R, q⟩ := h
    rfl
  · obtain ⟨p, oa, ra, x, n, os, rs, rfl, hp, hoa, hra, noa, nra, hperm, hn, R, q⟩ := h
    refine ⟨_, PSs.nox (pss_cons (ps_setLc (i := 3) (own := [("_law_task", 6)]) (g := gName 6) (tt := tYes) (by rfl) sc__law_hours.nd rfl rfl (sw_true rfl rfl rfl (by decide +kernel)) (pi_list (pv 1)) (blkOk_by (own := [("_law_task", 6)]) (N := N__law_hours) (sc := defScope s__law_hours) (by decide +kernel)) (fun _ _ _ _ _ => (pg_name (i := 6) sc__law_hours.nd rfl (by first | exact Or.inl rfl | exact Or.inr rfl))) (fun _ _ _ _ _ => pts_nil) (fun _ _ _ _ _ => pe_int))
      (pss_cons (ps_set (i := 4) sc__law_hours.nd rfl (Or.inl rfl) pe_int)
      (pss_cons (ps_set (i := 5) sc__law_hours.nd rfl (Or.inl rfl) (pe_call G__law_room (hr.mono (by decide)) (by rfl) g__law_room k__law_room b__law_room .nil pass0 (pa_cons (pv 2) (pa_cons pe_int pa_nil))))
      (pss_cons (ps_for PassesOwn.never rfl (pi_list (pv 1)) (pg_name (i := 6) sc__law_hours.nd rfl (Or.inl rfl)) (pss_cons (ps_while PassesOwn.never (PW.pt (pw_or (pt_cmpR op_eq (pv 5) pe_int (nomark _)) (pw_or1 (PW.pt (pw_and (pt_cmpR op_eq (pe_call G__law_take (hr.mono (by decide)) (by rfl) g__law_take k__law_take b__law_take .nil pass0 (pa_cons (pv 0) (pa_cons pe_int pa_nil))) pe_int (nomark _)) (pw_and1 (pt_cmpR op_lt (pv 4) pe_int (nomark _)))))))) (pss_cons (ps_set (i := 4) sc__law_hours.nd rfl (Or.inl rfl) (pe_op op_add (pv 4) pe_int))
      (pss_one (ps_set (i := 5) sc__law_hours.nd rfl (Or.inl rfl) (pe_call G__law_room (hr.mono (by decide)) (by rfl) g__law_room k__law_room b__law_room .nil pass0 (pa_cons (pv 2) (pa_cons (pv 4) pa_nil)))))))
      (pss_cons (ps_asg (pv 4) (pg_sub (pv 3) (pv 6) set_list))
      (pss_one (ps_set (i := 5) sc__law_hours.nd rfl (Or.inl rfl) (pe_op op_sub (pv 5) pe_int))))))
      (pss_one (ps_ret (pv 3))))))), ?_⟩
    walk_at "u"
    have hl : os.length = n := by rw [hperm.length_eq, List.length_range]
    refine ⟨_, rfl, oa, rfl, ⟨_, SqL.of hoa⟩, fun o no => lc_list (K := K) (a := oa) (xs := nV os) (fun i H' => Same H H' ∧ H' o = some (.lst (iV (List.replicate i 0)))) ⟨same_upd no, upd_same⟩ (fun i H' _ hP => hP.1.seq (SqL.of hoa)) (fun i v H' hv hP => ?_) (fun H' hP => ?_)⟩
    · have hi : i < n := by
        have h2 := (List.getElem?_eq_some_iff.mp hv).1
        rw [nV_len] at h2
        omega
      refine ⟨rfl, ?_⟩
      walk_at "u"
      refine iteT ⟨_, hP.2, by rw [iV_len, List.length_replicate]; exact small_lt (by omega), same_mut hP.1 no, ?_⟩
      rw [upd_same, iV_app, ← List.replicate_succ']
    have npo : p ≠ o := ne_of_none hp no
    obtain ⟨sm, ho⟩ := hP
    rw [nV_len, hl] at ho
    have hra1 : H' ra = some (.lst (iV rs)) := sm _ _ hra
    refine ⟨_, rfl, ra, rs, 1, rfl, SqL.of hra1, by decide, ?_⟩
    refine ⟨_, rfl, oa, rfl, ⟨_, SqL.of (sm _ _ hoa)⟩, for_list (K := K) (a := oa) (xs := nV os) (fun i σ H2 => ∃ hs hour left x' y, σ = [some (.ref p), some (.ref oa), some (.ref ra), some (.ref o), some (.int hour), some (.int left), y] ∧ But p H H2 ∧ H2 p = some (.lst [.int x']) ∧ H2 o = some (.lst (iV hs)) ∧ hs.length = n ∧ 1 ≤ hour ∧ hour ≤ 20 + i ∧ ∀ t, t ∈ os.take i → ∃ h, hs[t]? = some h ∧ 1 ≤ h ∧ h ≤ 20 + n)
      ⟨List.replicate n 0, 1, _, x, none, rfl, But.of sm, sm _ _ hp, ho, List.length_replicate, by decide, by omega, fun t ht => by simp at ht⟩ (fun i σ H2 _ hP => ?_) (fun i v σ H2 hv hP => ?_) (fun σ H2 hP => ?_)⟩
    · obtain ⟨hs, hour, left, x', y, rfl, hb, _⟩ := hP
      exact hb.seq noa (SqL.of hoa)
    · obtain ⟨hs, hour, left, x', y, rfl, hb, hp2, ho2, hhl, h1, h20, hset⟩ := hP
      obtain ⟨t, ht, rfl⟩ := nV_of hv
      have hi : i < n := by
        have h2 := (List.getElem?_eq_some_iff.mp ht).1
        omega
      have htn : t < n := List.mem_range.mp (hperm.mem_iff.mp (List.mem_of_getElem? ht))
      refine ⟨fun m σ H3 => ∃ hour left x', σ = [some (.ref p), some (.ref oa), some (.ref ra), some (.ref o), some (.int hour), some (.int left), some (.int (t : Int))] ∧ But p H H3 ∧ H3 p = some (.lst [.int x']) ∧ H3 o = some (.lst (iV hs)) ∧ 1 ≤ hour ∧ (hour ≤ 20 + i ∨ (hour ≤ 21 + i ∧ left ≠ 0 ∧ 20 ≤ hour)) ∧ m = muH hour left,
        ⟨_, hour, left, x', rfl, hb, hp2, ho2, h1, .inl h20, rfl⟩, fun m σ H3 hW => ?_⟩
      obtain ⟨hour, left, x', rfl, hb, hp3, ho3, h1, h20, rfl⟩ := hW
      have hra3 : H3 ra = some (.lst (iV rs)) := hb _ _ nra hra
      have step : ∀ H4 : Hp, But p H H4 → (∃ x', H4 p = some (.lst [.int x'])) → H4 o = some (.lst (iV hs)) → (left = 0 ∨ hour < 20) → ∃ x', H4 p = some (.lst [.int x']) ∧ H4 ra = some (.lst (iV rs)) ∧ muH (hour + 1) (roomAt rs (hour + 1)) < muH hour left ∧ (hour + 1 ≤ 20 + i ∨ (hour + 1 ≤ 21 + i ∧ roomAt rs (hour + 1) ≠ 0 ∧ 20 ≤ hour + 1)) := fun H4 b4 ⟨x4, p4⟩ o4 hc => by
        have h2 : 20 ≤ hour → roomAt rs (hour + 1) = 2 := fun hh => roomAt_out (by have := R.len; omega)
        refine ⟨x4, p4, b4 _ _ nra hra, muH_lt hc h2, ?_⟩
        by_cases hh : 20 ≤ hour
        · have := h2 hh
          rcases h20 with h20 | ⟨h20, hz, _⟩
          · exact .inr ⟨by omega, by omega, by omega⟩
          · exact absurd (hc.resolve_right (by omega)) hz
        · exact .inl (by omega)
      have fin : (hour ≤ 20 + i ∨ (hour ≤ 21 + i ∧ left ≠ 0 ∧ 20 ≤ hour)) → hour ≤ 20 + ((i + 1 : Nat) : Int) := fun z => by
        rcases z with z | ⟨z, _⟩ <;> omega
      have last : ∀ H4 : Hp, But p H H4 → (∃ x', H4 p = some (.lst [.int x'])) → H4 o = some (.lst (iV hs)) → ∃ hs' x', But p H (upd H4 o (.lst ((iV hs).set t (.int hour)))) ∧ upd H4 o (.lst ((iV hs).set t (.int hour))) p = some (.lst [.int x']) ∧ upd H4 o (.lst ((iV hs).set t (.int hour))) o = some (.lst (iV hs')) ∧ hs'.length = n ∧ ∀ t', t' ∈ os.take (i + 1) → ∃ h, hs'[t']? = some h ∧ 1 ≤ h ∧ h ≤ 20 + n := fun H4 b4 ⟨x4, p4⟩ o4 => by
        refine ⟨hs.set t hour, x4, b4.mut no, by rw [upd_ne npo]; exact p4, by rw [upd_same, iV_set], by rw [List.length_set]; exact hhl, fun t' ht' => ?_⟩
        by_cases e : t' = t
        · subst e
          exact ⟨hour, List.getElem?_set_self (by omega), h1, by have := fin h20; omega⟩
        · rw [List.getElem?_set_ne (fun z => e z.symm)]
          refine hset t' ?_
          rw [List.take_add_one, ht] at ht'
          rcases List.mem_append.mp ht' with z | z
          · exact z
          · exact absurd (by simpa using z) e
      refine ⟨_, rfl, rfl, _, rfl, ifB (fun e => iteT ?_) (fun e => ?_)⟩
      · have hz : left = 0 := V.int.inj (of_decide_eq_true e)
        obtain ⟨x4, p4, r4, m4, i4⟩ := step H3 hb ⟨_, hp3⟩ ho3 (.inl hz)
        refine ⟨fun σ' H' => ∃ m', m' < muH hour left ∧ _, fun _ _ z => z, ?_⟩
        refine ⟨_, rfl, _, _, rfl, rfl, _, rfl, _, rfl, ra, rs, _, rfl, SqL.of r4, by omega, ?_⟩
        exact ⟨_, m4, _, _, x4, rfl, hb, p4, ho3, by omega, i4, rfl⟩
      · refine ⟨_, rfl, p, x', 6, rfl, hp3, by decide, by decide, fun d x4 d0 d1 => ?_⟩
        have b4 : But p H (upd H3 p (.lst [.int x4])) := hb.trans But.upd
        have o4 : upd H3 p (.lst [.int x4]) o = some (.lst (iV hs)) := by
          rw [upd_ne npo.symm]
          exact ho3
        have p4 : upd H3 p (.lst [.int x4]) p = some (.lst [.int x4]) := upd_same
        refine ⟨rfl, _, rfl, ifB (fun e2 => ?_) (fun e2 => iteF ?_)⟩
        · refine ⟨_, rfl, _, _, rfl, rfl, _, rfl, ifB (fun e3 => ?_) (fun e3 => ?_)⟩
          · have hz : hour < 20 := of_decide_eq_true e3
            obtain ⟨x5, p5, r5, m5, i5⟩ := step _ b4 ⟨_, p4⟩ o4 (.inr hz)
            refine ⟨fun σ' H' => ∃ m', m' < muH hour left ∧ _, fun _ _ z => z, ?_⟩
            refine ⟨_, rfl, _, _, rfl, rfl, _, rfl, _, rfl, ra, rs, _, rfl, SqL.of r5, by omega, ?_⟩
            exact ⟨_, m5, _, _, x5, rfl, b4, p5, o4, by omega, i5, rfl⟩
          · obtain ⟨hs', x5, l1, l2, l3, l4, l5⟩ := last _ b4 ⟨_, p4⟩ o4
            refine ⟨_, rfl, _, rfl, _, rfl, _, _, _, t, rfl, rfl, o4, ixN_at rfl (by rw [iV_len]; omega), _, rfl, _, _, rfl, rfl, ?_⟩
            exact ⟨hs', hour, _, x5, _, rfl, l1, l2, l3, l4, h1, fin h20, l5⟩
        · obtain ⟨hs', x5, l1, l2, l3, l4, l5⟩ := last _ b4 ⟨_, p4⟩ o4
          refine ⟨_, rfl, _, rfl, _, rfl, _, _, _, t, rfl, rfl, o4, ixN_at rfl (by rw [iV_len]; omega), _, rfl, _, _, rfl, rfl, ?_⟩
          exact ⟨hs', hour, _, x5, _, rfl, l1, l2, l3, l4, h1, fin h20, l5⟩
    · obtain ⟨hs, hour, left, x', y, rfl, hb, hp2, ho2, hhl, h1, h20, hset⟩ := hP
      refine ⟨_, rfl, ?_⟩
      refine q o hs x' H2 no hb hp2 ho2 hhl fun h hh => ?_
      obtain ⟨t, ht⟩ := List.getElem?_of_mem hh
      have htn : t < n := by
        have := (List.getElem?_eq_some_iff.mp ht).1
        omega
      obtain ⟨h', e1, e2, e3⟩ := hset t (by
        rw [nV_len, List.take_length]
        exact hperm.mem_iff.mpr (List.mem_range.mpr htn))
      rw [ht] at e1
      cases e1
      exact ⟨e2, e3⟩
def spNeeds : Sp := fun vs H Q _ => ∃ (p oa ha : Addr) (x : Int) (n : Nat) (os : List Nat) (hs : List Int), vs = [.ref p, .ref oa, .ref ha] ∧ H p = some (.lst [.int x]) ∧ H oa = some (.lst (nV os)) ∧ H ha = some (.lst (iV hs)) ∧ oa ≠ p ∧ ha ≠ p ∧ os.Perm (List.range n) ∧ hs.length = n ∧ n ≤ 100 ∧
  ∀ (q : Addr) (zs : List (Addr × Nat × Nat)) (x' : Int) (H' : Hp), H q = none → But p H H' → H' p = some (.lst [.int x']) → NeedsAt H' q zs → zs.length ≤ 30 → (zs.map (·.2)).Nodup → Along os zs n 0 → Q (.ref q) H'
theorem ok__law_needs (T : Env K mg) : Ok P w K mg base CX0 dd__law_needs "_law_needs" 2 ["_law_pile_here", "_law_order_here", "_law_hours_here"] spNeeds := by
  obtain ⟨fd__law_take, D__law_take, g__law_take, k__law_take, b__law_take, G__law_take⟩ := ok__law_take (P := P) (w := w) (base := base) T
  obtain ⟨fd, F⟩ := T.c.def_ 19 (d := dd__law_needs) rfl
  refine ⟨fd, F, T.gl 19 _ rfl, F.kp, F.bindsN fun _ _ _ _ _ _ us hl => match us, hl with | [_, _, _], _ => rfl, ?_⟩
  refine F.ok sc__law_needs (fun vs H Q E h => ?_) (fun cdv A outer s H vs Q E hr h => ?_)
  · obtain ⟨p, oa, ha, x, n, os, hs, rfl, hp, hoa, hha, noa, nha, hperm, hhl, hn, q⟩ := h
    rfl
  · obtain ⟨p, oa, ha, x, n, os, hs, rfl, hp, hoa, hha, noa, nha, hperm, hhl, hn, q⟩ := h
    refine ⟨_, PSs.nox (pss_cons (ps_set (i := 3) sc__law_needs.nd rfl (Or.inl rfl) (pe_cmpR op_eq (pe_call G__law_take (hr.mono (by decide)) (by rfl) g__law_take k__law_take b__law_take .nil pass0 (pa_cons (pv 0) (pa_cons pe_int pa_nil))) pe_int (nomark _)))
      (pss_cons (ps_set (i := 4) sc__law_needs.nd rfl (Or.inl rfl) (pe_op op_add pe_int (pe_call G__law_take (hr.mono (by decide)) (by rfl) g__law_take k__law_take b__law_take .nil pass0 (pa_cons (pv 0) (pa_cons pe_int pa_nil)))))
      (pss_cons (ps_set (i := 5) sc__law_needs.nd rfl (Or.inl rfl) (pe_lst pa_nil))
      (pss_cons (ps_for PassesOwn.never rfl (pi_range1 (by rfl) (T.fr 37 _ rfl) (pa_cons (pe_callB call_len_seq (by rfl) (T.fr 33 _ rfl) (by decide +kernel) (pa_cons (pv 1) pa_nil)) pa_nil)) (pg_name (i := 6) sc__law_needs.nd rfl (Or.inl rfl)) (pss_one (ps_for PassesOwn.never rfl (pi_range1 (by rfl) (T.fr 37 _ rfl) (pa_cons (pv 6) pa_nil)) (pg_name (i := 7) sc__law_needs.nd rfl (Or.inl rfl)) (pss_cons (ps_par (i := 8) (j := 9) (by rfl) sc__law_needs.nd rfl rfl (by decide) rfl rfl (pa_cons (pe_ix ix_list (pv 1) (pv 7) (fun _ _ => rfl)) (pa_cons (pe_ix ix_list (pv 1) (pv 6) (fun _ _ => rfl)) pa_nil)) (by rfl))
      (pss_one (ps_if (PW.pt (pw_and (pt_cmpR op_lt (pe_callB call_len_seq (by rfl) (T.fr 33 _ rfl) (by decide +kernel) (pa_cons (pv 5) pa_nil)) pe_int (nomark _)) (pw_and (PW.pt (pw_or (pt_val (pv 3)) (pw_or1 (pt_cmpR op_lt (pe_ix ix_list (pv 2) (pv 8) (fun _ _ => rfl)) (pe_ix ix_list (pv 2) (pv 9) (fun _ _ => rfl)) (nomark _))))) (pw_and1 (pt_cmpR op_eq (pe_call G__law_take (hr.mono (by decide)) (by rfl) g__law_take k__law_take b__law_take .nil pass0 (pa_cons (pv 0) (pa_cons (pv 4) pa_nil))) pe_int (nomark _)))))) (pss_one (ps_expr (pe_bm PySem.F.plainAttrs_list PySem.F.slot_list_insert PySem.F.type_list_insert mt_insert (pv 5) (pa_cons (pe_call G__law_take (hr.mono (by decide)) (by rfl) g__law_take k__law_take b__law_take .nil pass0 (pa_cons (pv 0) (pa_cons (pe_op op_add (pe_callB call_len_seq (by rfl) (T.fr 33 _ rfl) (by decide +kernel) (pa_cons (pv 5) pa_nil)) pe_int) pa_nil))) (pa_cons (pe_tup (pa_cons (pv 8) (pa_cons (pv 9) pa_nil))) pa_nil))))) pss_nil))))))
      (pss_one (ps_ret (pv 5))))))), ?_⟩
    walk_at "u"
    have hl : os.length = n := by rw [hperm.length_eq, List.length_range]
    have hnd := nodup_of_perm hperm
    have hlt : ∀ {i t : Nat}, os[i]? = some t → t < n := fun h => List.mem_range.mp (hperm.mem_iff.mp (List.mem_of_getElem? h))
    refine ⟨_, rfl, p, x, 4, rfl, hp, by decide, by decide, fun d1 x1 _ _ => ⟨rfl, ?_⟩⟩
    generalize hloose : decide (V.int d1 = V.int 0) = loose
    refine ⟨_, rfl, p, x1, 5, rfl, upd_same, by decide, by decide, fun d2 x2 d20 d21 => ⟨_, _, rfl, rfl, (show 0 ≤ sizeLine by decide), fun o no => ?_⟩⟩
    have hb0 : But p H (upd (upd H p (.lst [.int x1])) p (.lst [.int x2])) := But.upd.trans But.upd
    have npo : p ≠ o := ne_of_none (o := .lst [.int x2]) upd_same no
    have no0 : H o = none := hb0.free npo.symm no
    have hb1 : But p H (upd (upd (upd H p (.lst [.int x1])) p (.lst [.int x2])) o (.lst [])) := hb0.trans (But.new no)
    refine ⟨_, rfl, oa, _, rfl, .inl (hb1.seq noa (SqL.of hoa)), _, rfl, ?_⟩
    rw [nV_len, hl]
    refine ⟨by omega, by omega, for_range (lo := 0) (n := (n : Int).toNat) (fun j σ H2 => ∃ zs x' y6 y7 y8 y9, σ = [some (.ref p), some (.ref oa), some (.ref ha), some (.bl loose), some (.int (2 + d2)), some (.ref o), y6, y7, y8, y9] ∧ But p H H2 ∧ H2 p = some (.lst [.int x']) ∧ NeedsAt H2 o zs ∧ zs.length ≤ 30 ∧ (zs.map (·.2)).Nodup ∧ Along os zs j 0)
      ⟨[], x2, none, none, none, none, rfl, hb1, by rw [upd_ne npo, upd_same], ⟨upd_same, fun z hz => by cases hz⟩, by decide, List.nodup_nil, fun z hz => by cases hz⟩ (fun j σ H2 hj hP => ?_) (fun σ H2 hP => ?_)⟩
    · obtain ⟨zs, x', y6, y7, y8, y9, rfl, hb, hp2, hz, hzl, hznd, hal⟩ := hP
      have hj2 : j < n := by omega
      have e0 : (0 : Int) + (j : Int) = (j : Int) := Int.zero_add _
      refine ⟨_, rfl, _, rfl, by omega, by omega, for_range (lo := 0) (n := ((0 : Int) + (j : Int)).toNat) (fun k σ H2 => ∃ zs x' y7 y8 y9, σ = [some (.ref p), some (.ref oa), some (.ref ha), some (.bl loose), some (.int (2 + d2)), some (.ref o), some (.int (0 + (j : Int))), y7, y8, y9] ∧ But p H H2 ∧ H2 p = some (.lst [.int x']) ∧ NeedsAt H2 o zs ∧ zs.length ≤ 30 ∧ (zs.map (·.2)).Nodup ∧ Along os zs j k)
        ⟨zs, x', y7, y8, y9, rfl, hb, hp2, hz, hzl, hznd, hal⟩ (fun k σ H3 hk hP => ?_) (fun σ H3 hP => ?_)⟩
      · obtain ⟨zs, x', y7, y8, y9, rfl, hb, hp3, hz, hzl, hznd, hal⟩ := hP
        have hkj : k < j := by omega
        obtain ⟨a, hak⟩ : ∃ a, os[k]? = some a := ⟨_, List.getElem?_eq_getElem (by omega)⟩
        obtain ⟨b, hbj⟩ : ∃ b, os[j]? = some b := ⟨_, List.getElem?_eq_getElem (by omega)⟩
        have hoa3 := hb _ _ noa hoa
        have hha3 := hb _ _ nha hha
        obtain ⟨ta, hta⟩ : ∃ z, hs[a]? = some z := ⟨_, List.getElem?_eq_getElem (by have := hlt hak; omega)⟩
        obtain ⟨tb, htb⟩ : ∃ z, hs[b]? = some z := ⟨_, List.getElem?_eq_getElem (by have := hlt hbj; omega)⟩
        refine ⟨_, rfl, _, rfl, _, _, _, _, rfl, rfl, SqL.of hoa3, atI_nV (j := k) (by omega) hak, _, rfl, _, rfl, _, _, _, _, rfl, rfl, SqL.of hoa3, atI_nV (j := j) (by omega) hbj, _, _, rfl, ?_⟩
        refine ⟨_, rfl, o, _, rfl, .inl (SqL.of hz.1), _, _, rfl, rfl, _, rfl, ifB (fun e1 => ?_) (fun e1 => iteF ?_)⟩
        · have skip : ∀ x3, ∃ zs' x4 y7' y8' y9', [some (V.ref p), some (.ref oa), some (.ref ha), some (.bl loose), some (.int (2 + d2)), some (.ref o), some (.int (0 + (j : Int))), some (.int (0 + (k : Int))), some (.int (a : Int)), some (.int (b : Int))] = [some (V.ref p), some (.ref oa), some (.ref ha), some (.bl loose), some (.int (2 + d2)), some (.ref o), some (.int (0 + (j : Int))), y7', y8', y9'] ∧ But p H (upd H3 p (.lst [.int x3])) ∧ (upd H3 p (.lst [.int x3])) p = some (.lst [.int x4]) ∧ NeedsAt (upd H3 p (.lst [.int x3])) o zs' ∧ zs'.length ≤ 30 ∧ (zs'.map (·.2)).Nodup ∧ Along os zs' j (k + 1) := fun x3 =>
            ⟨zs, x3, _, _, _, rfl, hb.trans But.upd, upd_same, hz.but hp3 npo.symm But.upd, hzl, hznd, hal.mono (.inr ⟨rfl, Nat.le_succ k⟩)⟩
          have take2 : ∀ x3 d x4 T, 0 ≤ d → d < (zs.length : Int) + 1 → (upd (upd H3 p (.lst [.int x3])) p (.lst [.int x4])) T = none → ∃ zs' x4' y7' y8' y9', [some (V.ref p), some (.ref oa), some (.ref ha), some (.bl loose), some (.int (2 + d2)), some (.ref o), some (.int (0 + (j : Int))), some (.int (0 + (k : Int))), some (.int (a : Int)), some (.int (b : Int))] = [some (V.ref p), some (.ref oa), some (.ref ha), some (.bl loose), some (.int (2 + d2)), some (.ref o), some (.int (0 + (j : Int))), y7', y8', y9'] ∧ But p H (upd (upd (upd (upd H3 p (.lst [.int x3])) p (.lst [.int x4])) T (.tup [.int (a : Int), .int (b : Int)])) o (.lst ((zs.map fun z => V.ref z.1).take d.toNat ++ [.ref T] ++ (zs.map fun z => V.ref z.1).drop d.toNat))) ∧ (upd (upd (upd (upd H3 p (.lst [.int x3])) p (.lst [.int x4])) T (.tup [.int (a : Int), .int (b : Int)])) o (.lst ((zs.map fun z => V.ref z.1).take d.toNat ++ [.ref T] ++ (zs.map fun z => V.ref z.1).drop d.toNat))) p = some (.lst [.int x4']) ∧ NeedsAt (upd (upd (upd (upd H3 p (.lst [.int x3])) p (.lst [.int x4])) T (.tup [.int (a : Int), .int (b : Int)])) o (.lst ((zs.map fun z => V.ref z.1).take d.toNat ++ [.ref T] ++ (zs.map fun z => V.ref z.1).drop d.toNat))) o zs' ∧ zs'.length ≤ 30 ∧ (zs'.map (·.2)).Nodup ∧ Along os zs' j (k + 1) := fun x3 d x4 T hd0 hd1 nT => by
            have hz4 : NeedsAt (upd (upd H3 p (.lst [.int x3])) p (.lst [.int x4])) o zs := (hz.but hp3 npo.symm But.upd).but upd_same npo.symm But.upd
            have hp4 : (upd (upd H3 p (.lst [.int x3])) p (.lst [.int x4])) p = some (.lst [.int x4]) := upd_same
            refine ⟨zs.take d.toNat ++ [(T, a, b)] ++ zs.drop d.toNat, x4, _, _, _, rfl, ?_, by rw [upd_ne npo, upd_ne (ne_of_none hp4 nT)]; exact hp4, hz4.ins nT, ?_, ?_, ?_⟩
            · exact But.mut (((hb.trans But.upd).trans But.upd).trans (But.new nT)) no0
            · rw [(perm_ins zs d.toNat (T, a, b)).length_eq, List.length_cons]
              have h1 : zs.length < 30 := by
                have h3 := of_decide_eq_true e1
                simp only [List.length_map] at h3
                omega
              omega
            · refine (((perm_ins zs d.toNat (T, a, b)).map (·.2)).nodup_iff).mpr ?_
              rw [List.map_cons]
              refine List.nodup_cons.mpr ⟨fun hm => ?_, hznd⟩
              obtain ⟨z, hz1, hz2⟩ := List.mem_map.mp hm
              obtain ⟨j', k', l1, l2, l3, l4⟩ := hal z hz1
              rw [hz2] at l2 l3
              have e1 := ix_of_nodup hnd l2 hak
              have e2 := ix_of_nodup hnd l3 hbj
              omega
            · intro z hz1
              rcases List.mem_cons.mp ((perm_ins zs d.toNat (T, a, b)).mem_iff.mp hz1) with e | hz2
              · subst e
                exact ⟨j, k, hkj, hak, hbj, .inr ⟨rfl, Nat.lt_succ_self k⟩⟩
              · exact hal.mono (k2 := k + 1) (.inr ⟨rfl, Nat.le_succ k⟩) z hz2
          refine ⟨_, rfl, _, rfl, ?_⟩
          refine' iteJ (X := Bool) (fun e rest => ?_) (fun e rest => ?_) (fun c => ?_)
          rotate_left 2
          · refine ⟨_, rfl, _, rfl, _, _, _, _, rfl, rfl, SqL.of hha3, atI_iV (j := a) (by omega) hta, _, rfl, _, rfl, _, _, _, _, rfl, rfl, SqL.of hha3, atI_iV (j := b) (by omega) htb, _, _, rfl, rfl, ?_⟩
            obtain ⟨kk, hkk⟩ : ∃ kk, decide (ta < tb) = kk := ⟨_, rfl⟩
            refine ⟨kk, congrArg V.bl hkk, ?_⟩
            exact rest kk
          · refine ifB (fun _ => ?_) (fun _ => iteF ?_)
            · refine ⟨_, rfl, _, rfl, p, x', _, rfl, hp3, by omega, by omega, fun d x3 _ _ => ⟨rfl, _, rfl, ifB (fun _ => ?_) (fun _ => ?_)⟩⟩
              · have hq3 : (upd H3 p (.lst [.int x3])) o = some (.lst (zs.map fun z => V.ref z.1)) := by
                  rw [upd_ne npo.symm]
                  exact hz.1
                refine ⟨_, rfl, .inl ⟨rfl, _, .inl (.inl hq3)⟩, _, rfl, _, rfl, o, _, rfl, .inl (SqL.of hq3), _, _, rfl, rfl, p, x3, _, rfl, upd_same, ?_⟩
                rw [List.length_map]
                refine ⟨by omega, by omega, fun d x4 hd0 hd1 => ?_⟩
                refine ⟨_, rfl, _, rfl, (show 2 ≤ sizeLine by decide), fun T nT => ?_⟩
                have hq4 : (upd (upd (upd H3 p (.lst [.int x3])) p (.lst [.int x4])) T (.tup [.int (a : Int), .int (b : Int)])) o = some (.lst (zs.map fun z => V.ref z.1)) := by
                  have hq5 : (upd (upd H3 p (.lst [.int x3])) p (.lst [.int x4])) o = some (.lst (zs.map fun z => V.ref z.1)) := by
                    rw [upd_ne npo.symm]
                    exact hq3
                  rw [upd_ne (ne_of_none hq5 nT)]
                  exact hq5
                refine ⟨o, _, d, _, rfl, rfl, hq4, by rw [List.length_map]; exact small_lt (by omega), hd0, by omega, ?_⟩
                exact take2 x3 d x4 T hd0 hd1 nT
              · exact skip x3
            · exact ⟨zs, x', _, _, _, rfl, hb, hp3, hz, hzl, hznd, hal.mono (.inr ⟨rfl, Nat.le_succ k⟩)⟩
          · exact rest true
        · exact ⟨zs, x', _, _, _, rfl, hb, hp3, hz, hzl, hznd, hal.mono (.inr ⟨rfl, Nat.le_succ k⟩)⟩
      · obtain ⟨zs, x', y7, y8, y9, rfl, hb, hp3, hz, hzl, hznd, hal⟩ := hP
        exact ⟨zs, x', _, _, _, _, rfl, hb, hp3, hz, hzl, hznd, hal.mono (.inl (Nat.lt_succ_self j))⟩
    · obtain ⟨zs, x', y6, y7, y8, y9, rfl, hb, hp2, hz, hzl, hznd, hal⟩ := hP
      exact ⟨_, rfl, q o zs x' H2 no0 hb hp2 hz hzl hznd (by simpa using hal)⟩

def spJob : Sp := fun vs H Q _ => ∃ (p : Addr) (x wide : Int) (most : Nat), vs = [.ref p, .int (most : Int), .int wide] ∧ H p = some (.lst [.int x]) ∧ most ≤ 50 ∧ 0 ≤ wide ∧ wide ≤ 1 ∧
  ∀ (J f d n r : Addr) (fs : List Int) (ds : List (Option Int)) (zs : List (Addr × Nat × Nat)) (rs : List Int) (x' : Int) (H' : Hp), H J = none → But p H H' → H' p = some (.lst [.int x']) → JobAt H' J f d n r fs ds zs rs → Valid fs ds zs rs →
    fs.length ≤ most → (3 ∈ rs → fs.length ≤ 9) → (∀ y ∈ rs, y ≤ 2 + wide) → f ≠ p → d ≠ p → n ≠ p → r ≠ p → Q (.ref J) H'
theorem ok__law_job (T : Env K mg) : Ok P w K mg base CX0 dd__law_job "_law_job" 3 ["_law_pile_here", "_law_most", "_law_wide"] spJob := by
  obtain ⟨fd__law_order, D__law_order, g__law_order, k__law_order, b__law_order, G__law_order⟩ := ok__law_order (P := P) (w := w) (base := base) T
  obtain ⟨fd__law_hours, D__law_hours, g__law_hours, k__law_hours, b__law_hours, G__law_hours⟩ := ok__law_hours (P := P) (w := w) (base := base) T
  obtain ⟨fd__law_needs, D__law_needs, g__law_needs, k__law_needs, b__law_needs, G__law_needs⟩ := ok__law_needs (P := P) (w := w) (base := base) T
  obtain ⟨fd__law_take, D__law_take, g__law_take, k__law_take, b__law_take, G__law_take⟩ := ok__law_take (P := P) (w := w) (base := base) T
  obtain ⟨fd, F⟩ := T.c.def_ 20 (d := dd__law_job) rfl
  refine ⟨fd, F, T.gl 20 _ rfl, F.kp, F.bindsN fun _ _ _ _ _ _ us hl => match us, hl with | [_, _, _], _ => rfl, ?_⟩
  refine F.ok sc__law_job (fun vs H Q E h => ?_) (fun cdv A outer s H vs Q E hr h => ?_)
  · obtain ⟨p, x, wide, most, rfl, hp, hmost, w0, w1, q⟩ := h
    rfl
  · obtain ⟨p, x, wide, most, rfl, hp, hmost, w0, w1, q⟩ := h
    refine ⟨_, PSs.nox (pss_cons (ps_setLc (i := 3) (own := [("_law_k", 12)]) (g := gName 12) (tt := tYes) (by rfl) sc__law_job.nd rfl rfl (sw_true rfl rfl rfl (by decide +kernel)) (pi_range1 (by rfl) (T.fr 37 _ rfl) (pa_cons (pe_call G__law_take (hr.mono (by decide)) (by rfl) g__law_take k__law_take b__law_take .nil pass0 (pa_cons (pv 0) (pa_cons pe_int pa_nil))) pa_nil)) (blkOk_by (own := [("_law_k", 12)]) (N := N__law_job) (sc := defScope s__law_job) (by decide +kernel)) (fun _ _ _ _ _ => (pg_name (i := 12) sc__law_job.nd rfl (by first | exact Or.inl rfl | exact Or.inr rfl))) (fun _ _ _ _ _ => pts_nil) (fun _ _ _ _ _ => (pe_ix (r := rIxL K) ix_list (pe_lst (pa_cons pe_int (pa_cons pe_int (pa_cons pe_int (pa_cons pe_int (pa_cons pe_int (pa_cons pe_int (pa_cons (pe_op op_add pe_int (pv 2)) pa_nil)))))))) (pe_call G__law_take (hr.mono (by decide)) (by rfl) g__law_take k__law_take b__law_take .nil pass0 (pa_cons (pv 0) (pa_cons pe_int pa_nil))) (fun _ _ => rfl))))
      (pss_cons (ps_if (pt_cmpR op_in_seq pe_int (pv 3) (by rfl)) (pss_one (ps_set (i := 1) sc__law_job.nd rfl (Or.inl rfl) (pe_callB (call_min2 rfl) (by rfl) (T.fr 38 _ rfl) (by decide +kernel) (pa_cons (pv 1) (pa_cons pe_int pa_nil))))) pss_nil)
      (pss_cons (ps_set (i := 4) sc__law_job.nd rfl (Or.inl rfl) (pe_call G__law_order (hr.mono (by decide)) (by rfl) g__law_order k__law_order b__law_order .nil pass0 (pa_cons (pv 0) (pa_cons (pe_call G__law_take (hr.mono (by decide)) (by rfl) g__law_take k__law_take b__law_take .nil pass0 (pa_cons (pv 0) (pa_cons (pe_op op_add (pv 1) pe_int) pa_nil))) pa_nil))))
      (pss_cons (ps_set (i := 5) sc__law_job.nd rfl (Or.inl rfl) (pe_call G__law_hours (hr.mono (by decide)) (by rfl) g__law_hours k__law_hours b__law_hours .nil pass0 (pa_cons (pv 0) (pa_cons (pv 4) (pa_cons (pv 3) pa_nil)))))
      (pss_cons (ps_set (i := 6) sc__law_job.nd rfl (Or.inl rfl) (pe_call G__law_needs (hr.mono (by decide)) (by rfl) g__law_needs k__law_needs b__law_needs .nil pass0 (pa_cons (pv 0) (pa_cons (pv 4) (pa_cons (pv 5) pa_nil)))))
      (pss_cons (ps_setLc (i := 7) (own := [("_law_hour", 10)]) (g := gName 10) (tt := tYes) (by rfl) sc__law_job.nd rfl rfl (sw_true rfl rfl rfl (by decide +kernel)) (pi_list (pv 5)) (blkOk_by (own := [("_law_hour", 10)]) (N := N__law_job) (sc := defScope s__law_job) (by decide +kernel)) (fun _ _ _ _ _ => (pg_name (i := 10) sc__law_job.nd rfl (by first | exact Or.inl rfl | exact Or.inr rfl))) (fun _ _ _ _ _ => pts_nil) (fun _ _ _ _ _ => (pe_callB (call_max2 rfl) (by rfl) (T.fr 39 _ rfl) (by decide +kernel) (pa_cons pe_int (pa_cons (pe_op op_sub (pv 10) (pe_ix (r := rIxL K) ix_list (pe_lst (pa_cons pe_int (pa_cons pe_int (pa_cons pe_int (pa_cons pe_int (pa_cons pe_int pa_nil)))))) (pe_call G__law_take (hr.mono (by decide)) (by rfl) g__law_take k__law_take b__law_take .nil pass0 (pa_cons (pv 0) (pa_cons pe_int pa_nil))) (fun _ _ => rfl))) pa_nil)))))
      (pss_cons (ps_set (i := 8) sc__law_job.nd rfl (Or.inl rfl) (pe_ix ix_list (pe_lst (pa_cons (pe_lst (pa_cons pe_int (pa_cons pe_int (pa_cons pe_int (pa_cons pe_int pa_nil))))) (pa_cons (pe_lst (pa_cons pe_int (pa_cons pe_int (pa_cons pe_int (pa_cons pe_int pa_nil))))) (pa_cons (pe_lst (pa_cons pe_int (pa_cons pe_int (pa_cons pe_int (pa_cons pe_int pa_nil))))) (pa_cons (pe_lst (pa_cons (pe_un un_neg pe_int) (pa_cons pe_int (pa_cons pe_int (pa_cons pe_int pa_nil))))) pa_nil))))) (pe_call G__law_take (hr.mono (by decide)) (by rfl) g__law_take k__law_take b__law_take .nil pass0 (pa_cons (pv 0) (pa_cons pe_int pa_nil))) (fun _ _ => rfl)))
      (pss_cons (ps_set (i := 9) sc__law_job.nd rfl (Or.inl rfl) (pe_lst pa_nil))
      (pss_cons (ps_for PassesOwn.never rfl (pi_list (pv 5)) (pg_name (i := 10) sc__law_job.nd rfl (Or.inl rfl)) (pss_cons (ps_set (i := 11) sc__law_job.nd rfl (Or.inl rfl) (pe_callB (call_max2 rfl) (by rfl) (T.fr 39 _ rfl) (by decide +kernel) (pa_cons pe_int (pa_cons (pe_op op_add (pv 10) (pe_ix ix_list (pv 8) (pe_call G__law_take (hr.mono (by decide)) (by rfl) g__law_take k__law_take b__law_take .nil pass0 (pa_cons (pv 0) (pa_cons pe_int pa_nil))) (fun _ _ => rfl))) pa_nil))))
      (pss_one (ps_expr (pe_bm PySem.F.plainAttrs_list PySem.F.slot_list_append PySem.F.type_list_append mt_append (pv 9) (pa_cons (pe_ix ix_list (pe_lst (pa_cons (pv 11) (pa_cons (pv 11) (pa_cons (pv 11) (pa_cons pe_non pa_nil))))) (pe_call G__law_take (hr.mono (by decide)) (by rfl) g__law_take k__law_take b__law_take .nil pass0 (pa_cons (pv 0) (pa_cons pe_int pa_nil))) (fun _ _ => rfl)) pa_nil))))))
      (pss_one (ps_ret (pe_tup (pa_cons (pv 7) (pa_cons (pv 9) (pa_cons (pv 6) (pa_cons (pv 3) pa_nil)))))))))))))))), ?_⟩
    walk_at "u"
    -- rooms
    refine ⟨_, rfl, p, x, 9, rfl, hp, by decide, by decide, fun nr x1 nr0 nr1 => ⟨nr, rfl, by omega, by omega, fun D nD => ?_⟩⟩
    have hb1 : But p H (upd H p (.lst [.int x1])) := But.upd
    have hp1 : (upd H p (.lst [.int x1])) p = some (.lst [.int x1]) := upd_same
    have npD : p ≠ D := ne_of_none hp1 nD
    have nD0 : H D = none := hb1.free npD.symm nD
    refine lc_range (lo := 0) (n := nr.toNat) (fun i H' => ∃ x' rs, But p H H' ∧ H' p = some (.lst [.int x']) ∧ H' D = some (.lst (iV rs)) ∧ rs.length = i ∧ ∀ y ∈ rs, 0 ≤ y ∧ y ≤ 2 + wide)
      ⟨x1, [], hb1.trans (But.new nD), by rw [upd_ne npD]; exact hp1, upd_same, rfl, fun y hy => by cases hy⟩ (fun i H2 hi hP => ?_) (fun H2 hP => ?_)
    · obtain ⟨x', rs, hb, hp2, hD, hl, hv⟩ := hP
      refine ⟨rfl, ?_⟩
      walk_at "u"
      refine iteT ⟨_, rfl, _, _, rfl, rfl, (show 7 ≤ sizeLine by decide), fun q2 nq2 => ?_⟩
      have np2 : p ≠ q2 := ne_of_none hp2 nq2
      refine ⟨_, rfl, p, x', 7, rfl, by rw [upd_ne np2]; exact hp2, by decide, by decide, fun d x2 d0 d1 => ?_⟩
      obtain ⟨y, hy, hy0, hy1⟩ : ∃ y, ([0, 1, 2, 2, 1, 2, 2 + wide] : List Int)[d.toNat]? = some y ∧ 0 ≤ y ∧ y ≤ 2 + wide := by
        have : d = 0 ∨ d = 1 ∨ d = 2 ∨ d = 3 ∨ d = 4 ∨ d = 5 ∨ d = 6 := by omega
        rcases this with e | e | e | e | e | e | e <;> subst e <;> exact ⟨_, rfl, by omega, by omega⟩
      have hq : (upd (upd H2 q2 (.lst (iV [0, 1, 2, 2, 1, 2, 2 + wide]))) p (.lst [.int x2])) q2 = some (.lst (iV [0, 1, 2, 2, 1, 2, 2 + wide])) := by
        rw [upd_ne np2.symm, upd_same]
      have hnD : q2 ≠ D := fun e => by
        rw [← e, nq2] at hD
        cases hD
      refine ⟨_, _, _, _, rfl, rfl, SqL.of hq, atI_iV (j := d.toNat) (by omega) hy, iV rs, ?_, by rw [iV_len]; exact small_lt (by omega), x2, rs ++ [y], ?_, ?_, ?_, by rw [List.length_append, hl]; rfl, fun z hz => ?_⟩
      · rw [upd_ne npD.symm, upd_ne hnD.symm]
        exact hD
      · exact But.mut ((hb.trans (But.new nq2)).trans But.upd) nD0
      · rw [upd_ne npD, upd_same]
      · rw [upd_same, iV_app]
      · rcases List.mem_append.mp hz with h | h
        · exact hv z h
        · have e : z = y := by simpa using h
          subst e
          exact ⟨hy0, hy1⟩
    obtain ⟨x2, rs, hb2, hp2, hD, hrl, hrv⟩ := hP
    have R : Rooms rs := ⟨by omega, fun y hy => ⟨(hrv y hy).1, by have := (hrv y hy).2; omega⟩⟩
    -- if 3 in rooms: most = min(most, 9)
    refine ⟨_, rfl, D, _, rfl, .inl (SqL.of hD), rfl, flat_iV _, _, rfl, ?_⟩
    refine' iteJP (X := Nat) (fun m => m ≤ most ∧ (3 ∈ rs → m ≤ 9)) (fun e rest => ?_) (fun e rest => ?_) (fun m hc => ?_)
    rotate_left
    · have hm : 3 ∈ rs → (if (9 : Int) < (most : Int) then (9 : Int) else (most : Int)) ≤ 9 := fun _ => by split <;> omega
      obtain ⟨m, hm1, hm2, hm3⟩ : ∃ m : Nat, (if (9 : Int) < (most : Int) then (9 : Int) else (most : Int)) = (m : Int) ∧ m ≤ most ∧ m ≤ 9 := by
        by_cases h9 : (9 : Int) < (most : Int)
        · exact ⟨9, by rw [if_pos h9]; rfl, by omega, by omega⟩
        · exact ⟨most, by rw [if_neg h9], by omega, by omega⟩
      refine ⟨_, rfl, (most : Int), 9, rfl, ?_⟩
      rw [hm1]
      exact rest m ⟨hm2, fun _ => hm3⟩
    · have h3 : ¬ 3 ∈ rs := fun h => by
        have e2 : inV (.int 3) (iV rs) = false := e
        rw [inV_iV, decide_eq_true h] at e2
        cases e2
      exact rest most ⟨Nat.le_refl _, fun h => absurd h h3⟩
    obtain ⟨hm, hm3⟩ := hc
    have npD2 : D ≠ p := npD.symm
    -- order
    refine ⟨_, rfl, _, rfl, _, rfl, _, _, rfl, rfl, p, x2, _, rfl, hp2, by omega, by omega, fun nt x3 nt0 nt1 => ?_⟩
    obtain ⟨n, rfl⟩ : ∃ n : Nat, nt = (n : Int) := ⟨nt.toNat, by omega⟩
    have hb3 : But p H (upd H2 p (.lst [.int x3])) := hb2.trans But.upd
    refine ⟨p, x3, n, rfl, upd_same, by omega, fun o os x4 H4 no hb4' hp4 ho hperm => ?_⟩
    have hb4 : But p H H4 := hb3.trans hb4'
    have hD4 : H4 D = some (.lst (iV rs)) := hb4' _ _ npD2 (by rw [upd_ne npD2]; exact hD)
    have nop : o ≠ p := fun e => by
      rw [e, upd_same] at no
      cases no
    -- hours
    refine ⟨_, rfl, _, rfl, _, rfl, p, o, D, x4, n, os, rs, rfl, hp4, ho, hD4, nop, npD2, hperm, by omega, R, fun hA hs x5 H5 nh hb5' hp5 hh hhl hhv => ?_⟩
    have hb5 : But p H H5 := hb4.trans hb5'
    have nhp : hA ≠ p := fun e => by
      rw [e, hp4] at nh
      cases nh
    -- needs
    refine ⟨_, rfl, _, rfl, _, rfl, p, o, hA, x5, n, os, hs, rfl, hp5, hb5' _ _ nop ho, hh, nop, nhp, hperm, hhl, by omega, fun nA zs x6 H6 nn hb6' hp6 hz hzl hznd hal => ?_⟩
    have hb6 : But p H H6 := hb5.trans hb6'
    have nnp : nA ≠ p := fun e => by
      rw [e, hp5] at nn
      cases nn
    have hh6 : H6 hA = some (.lst (iV hs)) := hb6' _ _ nhp hh
    -- frees
    refine ⟨_, rfl, hA, rfl, ⟨_, SqL.of hh6⟩, fun fA nf => lc_list (K := K) (a := hA) (xs := iV hs) (fun i H' => ∃ x' fs, But p H6 H' ∧ H' p = some (.lst [.int x']) ∧ H' fA = some (.lst (iV fs)) ∧ fs.length = i ∧ ∀ y ∈ fs, 1 ≤ y ∧ y ≤ 200)
      ⟨x6, [], But.new nf, by rw [upd_ne (ne_of_none hp6 nf)]; exact hp6, upd_same, rfl, fun y hy => by cases hy⟩ (fun i H' _ hP => ?_) (fun i v H7 hv hP => ?_) (fun H7 hP => ?_)⟩
    · obtain ⟨x', fs, hb, _⟩ := hP
      exact hb.seq nhp (SqL.of hh6)
    · obtain ⟨x', fs, hb, hp7, hF, hl, hfv⟩ := hP
      obtain ⟨h, hh1, rfl⟩ := iV_of hv
      have hi : i < n := by
        have := (List.getElem?_eq_some_iff.mp hh1).1
        omega
      have hh2 := hhv h (List.mem_of_getElem? hh1)
      have npf : p ≠ fA := ne_of_none hp6 nf
      refine ⟨rfl, ?_⟩
      walk_at "u"
      refine iteT ⟨_, rfl, (show 5 ≤ sizeLine by decide), fun q2 nq2 => ?_⟩
      have np2 : p ≠ q2 := ne_of_none hp7 nq2
      refine ⟨_, rfl, p, x', 5, rfl, by rw [upd_ne np2]; exact hp7, by decide, by decide, fun d x2 d0 d1 => ?_⟩
      obtain ⟨y, hy, hy0, hy1⟩ : ∃ y, ([0, 1, 2, 9, 9] : List Int)[d.toNat]? = some y ∧ 0 ≤ y ∧ y ≤ 9 := by
        have : d = 0 ∨ d = 1 ∨ d = 2 ∨ d = 3 ∨ d = 4 := by omega
        rcases this with e | e | e | e | e <;> subst e <;> exact ⟨_, rfl, by omega, by omega⟩
      have hq : (upd (upd H7 q2 (.lst (iV [0, 1, 2, 9, 9]))) p (.lst [.int x2])) q2 = some (.lst (iV [0, 1, 2, 9, 9])) := by
        rw [upd_ne np2.symm, upd_same]
      have hnf : q2 ≠ fA := fun e => by
        rw [← e, nq2] at hF
        cases hF
      refine ⟨_, _, _, _, rfl, rfl, SqL.of hq, atI_iV (j := d.toNat) (by omega) hy, _, _, rfl, rfl, _, _, rfl, iV fs, ?_, by rw [iV_len]; exact small_lt (by omega), x2, fs ++ [if h - y > 1 then h - y else 1], ?_, ?_, ?_, by rw [List.length_append, hl]; rfl, fun z hz => ?_⟩
      · rw [upd_ne npf.symm, upd_ne hnf.symm]
        exact hF
      · exact But.mut ((hb.trans (But.new nq2)).trans But.upd) nf
      · rw [upd_ne npf, upd_same]
      · rw [upd_same, iV_app]
      · rcases List.mem_append.mp hz with hm1 | hm1
        · exact hfv z hm1
        · have e : z = (if h - y > 1 then h - y else 1) := List.mem_singleton.mp hm1
          subst e
          split <;> omega
    obtain ⟨x7, fs, hb7', hp7, hF, hfl, hfv⟩ := hP
    rw [iV_len, hhl] at hfl
    have hb7 : But p H H7 := hb6.trans hb7'
    have hh7 : H7 hA = some (.lst (iV hs)) := hb7' _ _ nhp hh6
    have hz7 : NeedsAt H7 nA zs := hz.but hp6 nnp hb7'
    have nfp : fA ≠ p := fun e => by
      rw [e, hp6] at nf
      cases nf
    have hD7 : H7 D = some (.lst (iV rs)) := hb7' _ _ npD2 (hb6' _ _ npD2 (hb5' _ _ npD2 hD4))
    -- slack
    refine ⟨(show 4 ≤ sizeLine by decide), fun l0 n0 => ⟨(show 4 ≤ sizeLine by decide), fun l1 n1 => ⟨(show 4 ≤ sizeLine by decide), fun l2 n2 => ⟨_, rfl, (show 4 ≤ sizeLine by decide), fun l3 n3 => ⟨(show 4 ≤ sizeLine by decide), fun l4 n4 => ?_⟩⟩⟩⟩⟩
    generalize hH8 : upd (upd (upd (upd (upd H7 l0 _) l1 _) l2 _) l3 _) l4 _ = H8
    have s8 : Same H7 H8 := by
      rw [← hH8]
      exact (((((same_upd n0).trans (same_upd n1)).trans (same_upd n2)).trans (same_upd n3))).trans (same_upd n4)
    have g4 : H8 l4 = some (.lst ([.ref l0, .ref l1, .ref l2, .ref l3])) := by
      rw [← hH8, upd_same]
    have g3 : H8 l3 = some (.lst (iV [-1, 0, 1, 3])) := by
      rw [← hH8, upd_ne (ne_of_none (by rw [upd_same]) n4), upd_same]
      rfl
    have g2 : H8 l2 = some (.lst (iV [0, 0, 0, 1])) := by
      rw [← hH8]
      exact (same_upd n4) _ _ ((same_upd n3) _ _ upd_same)
    have g1 : H8 l1 = some (.lst (iV [0, 1, 2, 3])) := by
      rw [← hH8]
      exact (same_upd n4) _ _ ((same_upd n3) _ _ ((same_upd n2) _ _ upd_same))
    have g0 : H8 l0 = some (.lst (iV [0, 0, 1, 2])) := by
      rw [← hH8]
      exact (same_upd n4) _ _ ((same_upd n3) _ _ ((same_upd n2) _ _ ((same_upd n1) _ _ upd_same)))
    have fresh : ∀ {l : Addr} {o : HO}, H8 l = some o → H7 l = none → l ≠ p := fun _ h0 e => by
      rw [e, hp7] at h0
      cases h0
    have m0 : l0 ≠ p := fresh g0 n0
    have m1 : l1 ≠ p := fresh g1 ((same_upd n0).free n1)
    have m2 : l2 ≠ p := fresh g2 (((same_upd n0).trans (same_upd n1)).free n2)
    have m3 : l3 ≠ p := fresh g3 ((((same_upd n0).trans (same_upd n1)).trans (same_upd n2)).free n3)
    have m4 : l4 ≠ p := fresh g4 (((((same_upd n0).trans (same_upd n1)).trans (same_upd n2)).trans (same_upd n3)).free n4)
    have hp8 : H8 p = some (.lst [.int x7]) := s8 _ _ hp7
    refine ⟨_, rfl, p, x7, 4, rfl, hp8, by decide, by decide, fun ds x9 ds0 ds1 => ?_⟩
    obtain ⟨sA, sl, e1, e2, nsp, hsl, hsv⟩ : ∃ (sA : Addr) (sl : List Int), ([V.ref l0, .ref l1, .ref l2, .ref l3])[ds.toNat]? = some (.ref sA) ∧ H8 sA = some (.lst (iV sl)) ∧ sA ≠ p ∧ sl.length = 4 ∧ ∀ y ∈ sl, -1 ≤ y ∧ y ≤ 3 := by
      have : ds = 0 ∨ ds = 1 ∨ ds = 2 ∨ ds = 3 := by omega
      rcases this with e | e | e | e <;> subst e
      · exact ⟨l0, _, rfl, g0, m0, rfl, by decide⟩
      · exact ⟨l1, _, rfl, g1, m1, rfl, by decide⟩
      · exact ⟨l2, _, rfl, g2, m2, rfl, by decide⟩
      · exact ⟨l3, _, rfl, g3, m3, rfl, by decide⟩
    have b9 : But p H8 (upd H8 p (.lst [.int x9])) := But.upd
    refine ⟨l4, _, ds, .ref sA, rfl, rfl, SqL.of (b9 _ _ m4 g4), at_of (j := ds.toNat) (by omega) e1, ?_⟩
    -- dues
    refine ⟨(show 0 ≤ sizeLine by decide), fun dA nd => ?_⟩
    have hb9 : But p H7 (upd H8 p (.lst [.int x9])) := (But.of s8).trans b9
    have np9 : p ≠ dA := ne_of_none (show (upd H8 p (.lst [.int x9])) p = _ from upd_same) nd
    have nd7 : H7 dA = none := hb9.free np9.symm nd
    have hb10 : But p H7 (upd (upd H8 p (.lst [.int x9])) dA (.lst [])) := hb9.trans (But.new nd)
    refine ⟨_, rfl, hA, rfl, ⟨_, hb10.seq nhp (SqL.of hh7)⟩, for_list (K := K) (a := hA) (xs := iV hs) (fun i σ H' => ∃ x' dl y10 y11, σ = [some (.ref p), some (.int (m : Int)), some (.int wide), some (.ref D), some (.ref o), some (.ref hA), some (.ref nA), some (.ref fA), some (.ref sA), some (.ref dA), y10, y11, none] ∧ But p H7 H' ∧ H' p = some (.lst [.int x']) ∧ H' sA = some (.lst (iV sl)) ∧ H' dA = some (.lst (oV dl)) ∧ dl.length = i ∧ ∀ y, some y ∈ dl → 0 ≤ y ∧ y ≤ 200)
      ⟨x9, [], none, none, rfl, hb10, by rw [upd_ne np9, upd_same], (But.new nd) _ _ nsp (b9 _ _ nsp e2), upd_same, rfl, fun y hy => by cases hy⟩ (fun i σ H' _ hP => ?_) (fun i v σ H11 hv hP => ?_) (fun σ H11 hP => ?_)⟩
    · obtain ⟨x', dl, y10, y11, _, hb, _⟩ := hP
      exact hb.seq nhp (SqL.of hh7)
    · obtain ⟨x', dl, y10, y11, rfl, hb, hp11, hs11, hd11, hdl, hdv⟩ := hP
      obtain ⟨h, hh1, rfl⟩ := iV_of hv
      have hi : i < n := by
        have := (List.getElem?_eq_some_iff.mp hh1).1
        omega
      have hh2 := hhv h (List.mem_of_getElem? hh1)
      refine ⟨_, rfl, _, rfl, _, rfl, p, x', 4, rfl, hp11, by decide, by decide, fun d x2 d0 d1 => ?_⟩
      obtain ⟨y, hy⟩ : ∃ y, sl[d.toNat]? = some y := ⟨_, List.getElem?_eq_getElem (by omega)⟩
      have hyv := hsv y (List.mem_of_getElem? hy)
      refine ⟨_, _, _, _, rfl, rfl, SqL.of (But.upd _ _ nsp hs11), atI_iV (j := d.toNat) (by omega) hy, _, _, rfl, rfl, _, _, rfl, ?_⟩
      obtain ⟨z, hz0, hz1, hz2⟩ : ∃ z, (if h + y > 0 then h + y else 0) = z ∧ 0 ≤ z ∧ z ≤ 200 := ⟨_, rfl, by split <;> omega, by split <;> omega⟩
      rw [hz0]
      refine ⟨_, rfl, .inl ⟨rfl, _, .inl (.inl (But.upd _ _ np9.symm hd11))⟩, _, rfl, _, rfl, _, rfl, (show 4 ≤ sizeLine by decide), fun l5 n5 => ?_⟩
      have np5 : p ≠ l5 := ne_of_none (show (upd H11 p (.lst [.int x2])) p = _ from upd_same) n5
      refine ⟨_, rfl, p, x2, 4, rfl, by rw [upd_ne np5, upd_same], by decide, by decide, fun d2 x3 d20 d21 => ?_⟩
      obtain ⟨w2, hw2, hw3⟩ : ∃ w2 : Option Int, ([V.int z, .int z, .int z, .non])[d2.toNat]? = (oV [w2])[0]? ∧ ∀ y, some y ∈ [w2] → 0 ≤ y ∧ y ≤ 200 := by
        have : d2 = 0 ∨ d2 = 1 ∨ d2 = 2 ∨ d2 = 3 := by omega
        have hs : ∀ y, some y ∈ [some z] → 0 ≤ y ∧ y ≤ 200 := fun y hy => by
          have e : y = z := by simpa using hy
          subst e
          exact ⟨hz1, hz2⟩
        rcases this with e | e | e | e <;> subst e
        · exact ⟨some z, rfl, hs⟩
        · exact ⟨some z, rfl, hs⟩
        · exact ⟨some z, rfl, hs⟩
        · exact ⟨none, rfl, fun y hy => by simp at hy⟩
      obtain ⟨v2, hv2⟩ : ∃ v2, oV [w2] = [v2] := by
        cases w2
        · exact ⟨_, rfl⟩
        · exact ⟨_, rfl⟩
      rw [hv2] at hw2
      have n5d : dA ≠ l5 := fun e => by
        have := But.upd (o := .lst [.int x2]) _ _ np9.symm hd11
        rw [e, n5] at this
        cases this
      have hd12 : (upd (upd (upd H11 p (.lst [.int x2])) l5 (.lst [.int z, .int z, .int z, .non])) p (.lst [.int x3])) dA = some (.lst (oV dl)) := by
        rw [upd_ne np9.symm, upd_ne n5d, upd_ne np9.symm]
        exact hd11
      refine ⟨l5, _, d2, v2, rfl, rfl, SqL.of (by rw [upd_ne np5.symm, upd_same]), at_of (j := d2.toNat) (by omega) hw2, dA, _, _, rfl, rfl, hd12, by rw [oV_len]; exact small_lt (by omega), ?_⟩
      refine ⟨x3, dl ++ [w2], _, _, rfl, ?_, ?_, ?_, ?_, by rw [List.length_append, hdl]; rfl, fun y hy => ?_⟩
      · exact But.mut (((hb.trans But.upd).trans (But.new n5)).trans But.upd) nd7
      · rw [upd_ne np9, upd_same]
      · have nds : sA ≠ dA := fun e => by
          have h1 := b9 _ _ nsp e2
          rw [e, nd] at h1
          cases h1
        rw [upd_ne nds]
        exact But.upd _ _ nsp ((But.new n5) _ _ nsp (But.upd _ _ nsp hs11))
      · rw [upd_same, ← oV_app, hv2]
      · rcases List.mem_append.mp hy with h | h
        · exact hdv y h
        · exact hw3 y h
    obtain ⟨x', dl, y10, y11, rfl, hb, hp11, hs11, hd11, hdl, hdv⟩ := hP
    rw [iV_len, hhl] at hdl
    refine ⟨_, rfl, _, rfl, _, rfl, _, rfl, (show 4 ≤ sizeLine by decide), fun J nJ => ?_⟩
    have hz11 : NeedsAt H11 nA zs := hz7.but hp7 nnp hb
    have hbJ : But p H H11 := hb7.trans hb
    have sJ : Same H11 (upd H11 J (.tup [.ref fA, .ref dA, .ref nA, .ref D])) := same_upd nJ
    have nJp : J ≠ p := fun e => by
      rw [e, hp11] at nJ
      cases nJ
    refine q J fA dA nA D fs dl zs rs x' _ (hbJ.free nJp nJ) (hbJ.trans (But.of sJ)) (sJ _ _ hp11) ⟨upd_same, sJ _ _ (hb _ _ nfp hF), sJ _ _ hd11, hz11.same sJ, sJ _ _ (hb _ _ npD2 hD7)⟩ ⟨by omega, by omega, hfv, hdv, hzl, hznd, rank_of hperm hal hfl.symm, R⟩ (by omega) (fun h => ?_) (fun y hy => (hrv y hy).2) nfp np9.symm nnp npD2
    have := hm3 h
    omega

end
/-! len(set(..)) of tuples of ints -/
def rLenSetT (K : PySem.W.Frag) (P : Program) (w : World) : List V → Hp → VK → Prop := fun xs H Q => ∃ (a : Addr) (L : List (Addr × List Int)), xs = [.ref a] ∧ H a = some (SetTO P w a L) ∧ (∀ p ∈ L, SqT K H p.1 (p.2.map V.int)) ∧
  ((L.map (·.2)).Nodup → L.length < 64 → Q (.int L.length) H)
theorem call_len_setT {X : Cx} : CallR X (.builtin "len") (rLenSetT X.K X.prog X.w) := by
  intro pins s σ H xs us Q I r h
  obtain ⟨a, L, rfl, ha, hT, q⟩ := h
  rw [Vals.ref1 r]
  have R0 : SetT0 X.prog X.w s.heap a L := (I.hok a _ ha).1
  obtain ⟨es, ep, t, R⟩ := R0.full fun p hp => I.isT (hT p hp)
  obtain ⟨o, ho, hex, hd⟩ := R.ob
  have hsz := R.size
  have hfew := R.few
  exact call_len_set ho hex hd R.fits (by omega) ⟨.int L.length, H, I.tok _, ⟨_, by rw [hsz]⟩, q R.nd R.few⟩
theorem nodup_perm_len {α : Type} [DecidableEq α] {a b : List α} (ha : a.Nodup) (hb : b.Nodup) (h1 : ∀ x ∈ a, x ∈ b) (h2 : ∀ x ∈ b, x ∈ a) : a.length = b.length := by
  have h : a.Perm b := (List.perm_ext_iff_of_nodup ha hb).mpr fun x => ⟨h1 x, h2 x⟩
  exact h.length_eq
/-- the numbers of a need -/
def pr2 (z : Addr × Nat × Nat) : Addr × List Int := (z.1, [(z.2.1 : Int), (z.2.2 : Int)])
/-! tasks behind a task, without a ring -/
def succ (zs : List (Addr × Nat × Nat)) (a : Nat) : List Nat := (zs.filter fun z => z.2.1 == a).map fun z => z.2.2
theorem succ_snoc (zs : List (Addr × Nat × Nat)) (z : Addr × Nat × Nat) (a : Nat) : succ (zs ++ [z]) a = if z.2.1 = a then succ zs a ++ [z.2.2] else succ zs a := by
  unfold succ
  rw [List.filter_append, List.map_append, List.filter_cons, List.filter_nil]
  by_cases h : z.2.1 = a
  · rw [if_pos h, if_pos (beq_iff_eq.mpr h)]
    rfl
  · rw [if_neg h, if_neg (fun e => h (beq_iff_eq.mp e))]
    simp
theorem mem_succ {zs : List (Addr × Nat × Nat)} {a b : Nat} : b ∈ succ zs a ↔ ∃ z ∈ zs, z.2.1 = a ∧ z.2.2 = b := by
  unfold succ
  rw [List.mem_map]
  constructor
  · rintro ⟨z, hz, e⟩
    obtain ⟨h1, h2⟩ := List.mem_filter.mp hz
    exact ⟨z, h1, beq_iff_eq.mp h2, e⟩
  · rintro ⟨z, h1, h2, e⟩
    exact ⟨z, List.mem_filter.mpr ⟨h1, beq_iff_eq.mpr h2⟩, e⟩
theorem succ_len (zs : List (Addr × Nat × Nat)) (a : Nat) : (succ zs a).length ≤ zs.length := by
  unfold succ
  rw [List.length_map]
  exact List.length_filter_le ..
structure Follow (H H' : Hp) (q : Addr) (as : List Addr) (zs : List (Addr × Nat × Nat)) (n : Nat) : Prop where
  top : H' q = some (.lst (as.map V.ref))
  len : as.length = n
  nd : as.Nodup
  at_ : ∀ (i : Nat) (a : Addr), as[i]? = some a → H a = none ∧ a ≠ q ∧ H' a = some (.lst (nV (succ zs i)))
theorem Follow.same {H H1 H2 : Hp} {q : Addr} {as : List Addr} {zs : List (Addr × Nat × Nat)} {n : Nat} (f : Follow H H1 q as zs n) (s : Same H1 H2) : Follow H H2 q as zs n :=
  ⟨s _ _ f.top, f.len, f.nd, fun i a h => by
    obtain ⟨h1, h2, h3⟩ := f.at_ i a h
    exact ⟨h1, h2, s _ _ h3⟩⟩
theorem rV_get {as : List Addr} {j : Nat} {a : Addr} (h : as[j]? = some a) : (as.map V.ref)[j]? = some (.ref a) := by
  rw [List.getElem?_map, h]
  rfl
/-- how many needs of b have not been done -/
def waitN (zs : List (Addr × Nat × Nat)) (done : List Nat) (b : Nat) : Nat := zs.countP fun z => decide (z.2.2 = b) && !decide (z.2.1 ∈ done)
theorem waitN_snoc (zs : List (Addr × Nat × Nat)) (done : List Nat) (a b : Nat) (h : ¬ a ∈ done) : waitN zs done b = waitN zs (done ++ [a]) b + (succ zs a).count b := by
  unfold waitN succ
  induction zs with
  | nil => rfl
  | cons z r ih =>
    rw [List.countP_cons, List.countP_cons, ih, List.filter_cons]
    by_cases hb : z.2.2 = b
    · by_cases ha : z.2.1 = a
      · have h1 : ¬ z.2.1 ∈ done := fun e => h (ha ▸ e)
        have h2 : z.2.1 ∈ done ++ [a] := List.mem_append.mpr (.inr (List.mem_singleton.mpr ha))
        simp only [hb, h1, h2, ha, beq_self_eq_true, if_true, List.map_cons, List.count_cons, decide_true, decide_false, Bool.not_false, Bool.not_true, Bool.and_true, Bool.and_false, Bool.false_eq_true, if_false]
        have h6 : a ∈ done ++ [a] := ha ▸ h2
        rw [decide_eq_false h, decide_eq_true h6]
        simp only [Bool.not_false, Bool.not_true, Bool.and_true, Bool.and_false, if_true, Bool.false_eq_true, if_false]
        omega
      · have h1 : z.2.1 ∈ done ++ [a] ↔ z.2.1 ∈ done := by
          rw [List.mem_append, List.mem_singleton]
          exact ⟨fun e => e.resolve_right ha, .inl⟩
        have h3 : (z.2.1 == a) = false := beq_eq_false_iff_ne.mpr ha
        simp only [hb, h1, h3, Bool.false_eq_true, if_false]
        omega
    · by_cases ha : z.2.1 = a
      · have h4 : (z.2.2 == b) = false := beq_eq_false_iff_ne.mpr hb
        simp only [hb, ha, beq_self_eq_true, if_true, List.map_cons, List.count_cons, h4, decide_false, Bool.false_and, Bool.false_eq_true, if_false]
        omega
      · have h3 : (z.2.1 == a) = false := beq_eq_false_iff_ne.mpr ha
        simp only [hb, h3, decide_false, Bool.false_and, Bool.false_eq_true, if_false]
        omega
theorem waitN_zero {zs : List (Addr × Nat × Nat)} {done : List Nat} {b : Nat} : waitN zs done b = 0 ↔ ∀ z ∈ zs, z.2.2 = b → z.2.1 ∈ done := by
  unfold waitN
  rw [List.countP_eq_zero]
  constructor
  · intro h z hz e
    have := h z hz
    simp only [e, decide_true, Bool.true_and, Bool.not_eq_true, Bool.not_eq_false'] at this
    simpa using this
  · intro h z hz
    by_cases e : z.2.2 = b
    · simp [e, h z hz e]
    · simp [e]
theorem waitN_take (zs : List (Addr × Nat × Nat)) (b : Nat) (k : Nat) (z : Addr × Nat × Nat) (h : zs[k]? = some z) : waitN (zs.take (k + 1)) [] b = waitN (zs.take k) [] b + if z.2.2 = b then 1 else 0 := by
  unfold waitN
  rw [List.take_add_one, h, List.countP_append]
  congr 1
  by_cases e : z.2.2 = b
  · simp [e]
  · simp [e]
/-- a list by a function -/
structure ByF (ws : List Int) (n : Nat) (f : Nat → Int) : Prop where
  len : ws.length = n
  at_ : ∀ b, b < n → ws[b]? = some (f b)
theorem ByF.set {ws : List Int} {n : Nat} {f g : Nat → Int} (h : ByF ws n f) {b : Nat} {v : Int} (hb : b < n) (e1 : g b = v) (e2 : ∀ c, c ≠ b → g c = f c) : ByF (ws.set b v) n g := by
  refine ⟨by rw [List.length_set]; exact h.len, fun c hc => ?_⟩
  by_cases e : c = b
  · subst e
    rw [List.getElem?_set_self (by rw [h.len]; exact hc), e1]
  · rw [List.getElem?_set_ne (fun z => e z.symm), h.at_ c hc, e2 c e]
theorem ByF.congr {ws : List Int} {n : Nat} {f g : Nat → Int} (h : ByF ws n f) (e : ∀ c, c < n → g c = f c) : ByF ws n g := ⟨h.len, fun b hb => by rw [h.at_ b hb, e b hb]⟩
def Acyc (zs : List (Addr × Nat × Nat)) : Prop := ∃ rk : Nat → Nat, ∀ z ∈ zs, rk z.2.1 < rk z.2.2
/-- the state of the clearing -/
structure Clr (zs : List (Addr × Nat × Nat)) (n : Nat) (cl : List Nat) (at_ : Nat) : Prop where
  nd : cl.Nodup
  lt : ∀ t ∈ cl, t < n
  up : at_ ≤ cl.length
  ord : ∀ z ∈ zs, ∀ i : Nat, cl[i]? = some z.2.2 → ∃ j : Nat, j < i ∧ cl[j]? = some z.2.1
/-- at the end -/
theorem clr_end {zs : List (Addr × Nat × Nat)} {n : Nat} {cl : List Nat} (h : Clr zs n cl cl.length) (hz : ∀ z ∈ zs, z.2.1 < n ∧ z.2.2 < n) (hw : ∀ b, b < n → (b ∈ cl ↔ waitN zs cl b = 0)) :
    decide ((cl.length : Int) < (n : Int)) = false ↔ Acyc zs := by
  constructor
  · intro e
    have hl : n ≤ cl.length := by
      have := of_decide_eq_false e
      omega
    have hall : ∀ t, t < n → t ∈ cl := fun t ht => by
      refine Decidable.byContradiction fun hn => ?_
      have h1 := nat_nodup_len (t :: cl) (List.range n) (List.nodup_cons.mpr ⟨hn, h.nd⟩) fun x hx => by
        rcases List.mem_cons.mp hx with e | hx
        · rw [e]
          exact List.mem_range.mpr ht
        · exact List.mem_range.mpr (h.lt x hx)
      rw [List.length_range, List.length_cons] at h1
      omega
    refine ⟨fun t => cl.idxOf t, fun z hzm => ?_⟩
    have hm : z.2.2 ∈ cl := hall _ (hz z hzm).2
    obtain ⟨i, hi⟩ := List.getElem?_of_mem hm
    obtain ⟨j, hj, hj2⟩ := h.ord z hzm i hi
    have ix : ∀ {i t : Nat}, cl[i]? = some t → cl.idxOf t = i := fun {i t} h2 => by
      obtain ⟨hi, e⟩ := List.getElem?_eq_some_iff.mp h2
      rw [← e]
      exact h.nd.idxOf_getElem i hi
    show cl.idxOf z.2.1 < cl.idxOf z.2.2
    rw [ix hi, ix hj2]
    exact hj
  · rintro ⟨rk, hrk⟩
    have all : ∀ (m t : Nat), rk t ≤ m → t < n → t ∈ cl := by
      intro m
      induction m with
      | zero =>
        intro t hr ht
        refine (hw t ht).mpr (waitN_zero.mpr fun z hzm e => ?_)
        have := hrk z hzm
        rw [e] at this
        omega
      | succ m ih =>
        intro t hr ht
        refine (hw t ht).mpr (waitN_zero.mpr fun z hzm e => ?_)
        have h1 := hrk z hzm
        rw [e] at h1
        exact ih z.2.1 (by omega) (hz z hzm).1
    have := nat_nodup_len (List.range n) cl List.nodup_range fun t ht => all _ t (Nat.le_refl _) (List.mem_range.mp ht)
    rw [List.length_range] at this
    exact decide_eq_false (by omega)
theorem rep_flat (n : Nat) : (List.replicate n [V.int 0]).flatten = iV (List.replicate n 0) := by
  induction n with
  | zero => rfl
  | succ n ih =>
    rw [List.replicate_succ, List.flatten_cons, ih, List.replicate_succ]
    rfl
theorem byF_rep (n : Nat) : ByF (List.replicate n 0) n (fun _ => 0) := ⟨List.length_replicate, fun b hb => by rw [List.getElem?_replicate, if_pos hb]⟩
/-- one follower of a less to wait for -/
theorem cnt_take {l : List Nat} {k b : Nat} (h : l[k]? = some b) (c : Nat) : ((l.take (k + 1)).count c : Int) = ((l.take k).count c : Int) + if c = b then 1 else 0 := by
  rw [List.take_add_one, h, List.count_append]
  show ((((l.take k).count c + [b].count c : Nat)) : Int) = _
  rw [List.count_singleton]
  by_cases e : c = b
  · subst e
    simp
  · rw [if_neg e, if_neg (by simpa using fun z : b = c => e z.symm)]
    simp
theorem cnt_le (l : List Nat) (k c : Nat) : (l.take k).count c ≤ l.count c := (List.take_sublist k l).count_le c
theorem filt_snoc (p : Nat → Bool) (i : Nat) : (List.range (i + 1)).filter p = if p i = true then (List.range i).filter p ++ [i] else (List.range i).filter p := by
  rw [List.range_succ, List.filter_append, List.filter_cons, List.filter_nil]
  split <;> simp

section
variable {P : Program} {w : World} {K : PySem.W.Frag} {mg : Str → Option Value} {base : Heap}
def spFollow : Sp := fun vs H Q _ => ∃ (n : Nat) (N : Addr) (zs : List (Addr × Nat × Nat)), vs = [.int (n : Int), .ref N] ∧ NeedsAt H N zs ∧ (∀ z ∈ zs, z.2.1 < n ∧ z.2.2 < n) ∧ n ≤ 1000 ∧ zs.length ≤ 10000 ∧
  ∀ (q : Addr) (as : List Addr) (H' : Hp), H q = none → Same H H' → Follow H H' q as zs n → Q (.ref q) H'
theorem ok_followers_of (T : Env K mg) : Ok P w K mg base CX0 dd_followers_of "followers_of" 1 ["many", "needs"] spFollow := by
  obtain ⟨fd, F⟩ := T.c.def_ 9 (d := dd_followers_of) rfl
  refine ⟨fd, F, T.gl 9 _ rfl, F.kp, F.bindsN fun _ _ _ _ _ _ us hl => match us, hl with | [_, _], _ => rfl, ?_⟩
  refine F.ok sc_followers_of (fun vs H Q E h => ?_) (fun cdv A outer s H vs Q E hr h => ?_)
  · obtain ⟨n, N, zs, rfl, hN, hz, hn, hzl, q⟩ := h
    rfl
  · obtain ⟨n, N, zs, rfl, hN, hz, hn, hzl, q⟩ := h
    refine ⟨_, PSs.nox (pss_cons (ps_setLc (i := 2) (own := [("_", 5)]) (g := gName 5) (tt := tYes) (by rfl) sc_followers_of.nd rfl rfl (sw_true rfl rfl rfl (by decide +kernel)) (pi_range1 (by rfl) (T.fr 37 _ rfl) (pa_cons (pv 0) pa_nil)) (blkOk_by (own := [("_", 5)]) (N := N_followers_of) (sc := defScope s_followers_of) (by decide +kernel)) (fun _ _ _ _ _ => (pg_name (i := 5) sc_followers_of.nd rfl (by first | exact Or.inl rfl | exact Or.inr rfl))) (fun _ _ _ _ _ => pts_nil) (fun _ _ _ _ _ => (pe_lst pa_nil)))
      (pss_cons (ps_for PassesOwn.never rfl (pi_list (pv 1)) (pg_tup rfl (pgs_cons (pg_name (i := 3) sc_followers_of.nd rfl (Or.inl rfl)) (pgs_cons (pg_name (i := 4) sc_followers_of.nd rfl (Or.inl rfl)) pgs_nil))) (pss_one (ps_expr (pe_bm PySem.F.plainAttrs_list PySem.F.slot_list_append PySem.F.type_list_append mt_append (pe_ix ix_list (pv 2) (pv 3) (fun _ _ => rfl)) (pa_cons (pv 4) pa_nil)))))
      (pss_one (ps_ret (pv 2))))), ?_⟩
    walk_at "u"
    refine ⟨_, rfl, _, rfl, by omega, by omega, fun D nD => lc_range (lo := 0) (n := (n : Int).toNat) (fun i H' => ∃ as : List Addr, Same H H' ∧ H' D = some (.lst (as.map V.ref)) ∧ as.length = i ∧ as.Nodup ∧ ∀ a ∈ as, H a = none ∧ a ≠ D ∧ H' a = some (.lst []))
      ⟨[], same_upd nD, upd_same, rfl, List.nodup_nil, fun a ha => by cases ha⟩ (fun i H' hi hP => ?_) (fun H' hP => ?_)⟩
    · obtain ⟨as, sm, hD, hl, hnd, hv⟩ := hP
      refine ⟨rfl, ?_⟩
      walk_at "u"
      refine iteT ⟨(show 0 ≤ sizeLine by decide), fun q2 n2 => ?_⟩
      have hq2 : q2 ≠ D := fun e => by
        rw [e, hD] at n2
        cases n2
      refine ⟨as.map V.ref, by rw [upd_ne hq2.symm]; exact hD, by rw [List.length_map]; exact small_lt (by omega), as ++ [q2], ?_, ?_, by rw [List.length_append, hl]; rfl, ?_, fun a ha => ?_⟩
      · exact same_mut (sm.trans (same_upd n2)) nD
      · rw [upd_same, List.map_append]
        rfl
      · refine nd_snoc hnd fun h => ?_
        rw [(hv q2 h).2.2] at n2
        cases n2
      · rcases List.mem_append.mp ha with h | h
        · obtain ⟨h1, h2, h3⟩ := hv a h
          refine ⟨h1, h2, ?_⟩
          rw [upd_ne h2, upd_ne (ne_of_none h3 n2)]
          exact h3
        · have e := List.mem_singleton.mp h
          subst e
          refine ⟨sm.free n2, hq2, ?_⟩
          rw [upd_ne hq2, upd_same]
    obtain ⟨as, sm, hD, hl, hnd, hv⟩ := hP
    have hN' : NeedsAt H' N zs := hN.same sm
    refine ⟨_, rfl, N, rfl, ⟨_, SqL.of hN'.1⟩, for_list (K := K) (a := N) (xs := zs.map fun z => V.ref z.1) (fun k σ H2 => ∃ y3 y4, σ = [some (.int (n : Int)), some (.ref N), some (.ref D), y3, y4, none] ∧ Same H H2 ∧ Follow H H2 D as (zs.take k) n)
      ⟨none, none, rfl, sm, hD, by omega, hnd, fun i a h => ?_⟩ (fun k σ H2 _ hP => ?_) (fun k v σ H2 hv2 hP => ?_) (fun σ H2 hP => ?_)⟩
    · exact hv a (List.mem_of_getElem? h)
    · obtain ⟨y3, y4, _, s2, _⟩ := hP
      exact SqL.of (s2 _ _ hN.1)
    · obtain ⟨y3, y4, rfl, s2, F2⟩ := hP
      rw [List.getElem?_map] at hv2
      cases hk : zs[k]? with
      | none =>
        rw [hk] at hv2
        cases hv2
      | some z =>
        rw [hk] at hv2
        cases hv2
        have hzm := List.mem_of_getElem? hk
        have hT := s2 _ _ (hN.2 z hzm)
        have hlt := hz z hzm
        obtain ⟨a, ha⟩ : ∃ a, as[z.2.1]? = some a := ⟨_, List.getElem?_eq_getElem (by rw [F2.len]; omega)⟩
        obtain ⟨hn1, hn2, hn3⟩ := F2.at_ _ _ ha
        refine ⟨z.1, _, rfl, SqT.of hT, rfl, _, _, rfl, _, _, rfl, rfl, ?_⟩
        refine ⟨_, rfl, _, rfl, D, _, _, .ref a, rfl, rfl, SqL.of F2.top, at_of (j := z.2.1) rfl (rV_get ha), .inl ⟨rfl, _, .inl (.inl hn3)⟩, _, rfl, a, _, _, rfl, rfl, hn3, ?_, ?_⟩
        · rw [nV_len]
          exact small_lt (Nat.lt_of_le_of_lt (succ_len _ _) (by rw [List.length_take]; omega))
        · refine ⟨_, _, rfl, same_mut s2 hn1, ?_, F2.len, F2.nd, fun i c hc => ?_⟩
          · rw [upd_ne hn2.symm]
            exact F2.top
          · obtain ⟨g1, g2, g3⟩ := F2.at_ _ _ hc
            refine ⟨g1, g2, ?_⟩
            rw [List.take_add_one, hk]
            show _ = some (HO.lst (nV (succ (zs.take k ++ [z]) i)))
            rw [succ_snoc]
            by_cases e : z.2.1 = i
            · subst e
              rw [ha] at hc
              cases hc
              rw [upd_same, if_pos rfl, nV_app]
            · have hca : c ≠ a := fun z2 => by
                subst z2
                exact e (nd_ix F2.nd ha hc)
              rw [upd_ne hca, if_neg e]
              exact g3
    · obtain ⟨y3, y4, rfl, s2, F2⟩ := hP
      rw [List.length_map, List.take_length] at F2
      exact ⟨_, rfl, q D as H2 nD s2 F2⟩

def spRing : Sp := fun vs H Q _ => ∃ (n : Nat) (N : Addr) (zs : List (Addr × Nat × Nat)), vs = [.int (n : Int), .ref N] ∧ NeedsAt H N zs ∧ (∀ z ∈ zs, z.2.1 < n ∧ z.2.2 < n) ∧ n ≤ 1000 ∧ zs.length ≤ 10000 ∧
  ∀ (b : Bool) (H' : Hp), Same H H' → (b = false ↔ Acyc zs) → Q (.bl b) H'
theorem ok_has_ring (T : Env K mg) : Ok P w K mg base CX0 dd_has_ring "has_ring" 2 ["many", "needs"] spRing := by
  obtain ⟨fd_followers_of, D_followers_of, g_followers_of, k_followers_of, b_followers_of, G_followers_of⟩ := ok_followers_of (P := P) (w := w) (base := base) T
  obtain ⟨fd, F⟩ := T.c.def_ 10 (d := dd_has_ring) rfl
  refine ⟨fd, F, T.gl 10 _ rfl, F.kp, F.bindsN fun _ _ _ _ _ _ us hl => match us, hl with | [_, _], _ => rfl, ?_⟩
  refine F.ok sc_has_ring (fun vs H Q E h => ?_) (fun cdv A outer s H vs Q E hr h => ?_)
  · obtain ⟨n, N, zs, rfl, hN, hz, hn, hzl, q⟩ := h
    rfl
  · obtain ⟨n, N, zs, rfl, hN, hz, hn, hzl, q⟩ := h
    refine ⟨_, PSs.nox (pss_cons (ps_set (i := 2) sc_has_ring.nd rfl (Or.inl rfl) (pe_call G_followers_of (hr.mono (by decide)) (by rfl) g_followers_of k_followers_of b_followers_of .nil pass0 (pa_cons (pv 0) (pa_cons (pv 1) pa_nil))))
      (pss_cons (ps_set (i := 3) sc_has_ring.nd rfl (Or.inr rfl) (pe_op op_rep (pe_lst (pa_cons pe_int pa_nil)) (pv 0)))
      (pss_cons (ps_for PassesOwn.never rfl (pi_list (pv 1)) (pg_tup rfl (pgs_cons (pg_name (i := 4) sc_has_ring.nd rfl (Or.inl rfl)) (pgs_cons (pg_name (i := 5) sc_has_ring.nd rfl (Or.inl rfl)) pgs_nil))) (pss_one (ps_asg (pe_op op_add (pe_ix ix_list (pv 3) (pv 5) (fun _ _ => rfl)) pe_int) (pg_sub (pv 3) (pv 5) set_list))))
      (pss_cons (ps_setLc (i := 6) (own := [("t", 9)]) (g := gName 9) (by rfl) sc_has_ring.nd rfl rfl (sw_true rfl rfl rfl (by decide +kernel)) (pi_range1 (by rfl) (T.fr 37 _ rfl) (pa_cons (pv 0) pa_nil)) (blkOk_by (own := [("t", 9)]) (N := N_has_ring) (sc := defScope s_has_ring) (by decide +kernel)) (fun _ _ _ _ _ => (pg_name (i := 9) sc_has_ring.nd rfl (by first | exact Or.inl rfl | exact Or.inr rfl))) (fun _ _ _ _ _ => (pts_one (pt_cmpR op_eq (pe_ix (r := rIxL K) ix_list (pv 3) (pv 9) (fun _ _ => rfl)) pe_int (nomark _)))) (fun _ _ _ _ _ => (pv 9)))
      (pss_cons (ps_set (i := 7) sc_has_ring.nd rfl (Or.inl rfl) pe_int)
      (pss_cons (ps_while PassesOwn.never (pt_cmpR op_lt (pv 7) (pe_callB call_len_seq (by rfl) (T.fr 33 _ rfl) (by decide +kernel) (pa_cons (pv 6) pa_nil)) (nomark _)) (pss_cons (ps_set (i := 8) sc_has_ring.nd rfl (Or.inl rfl) (pe_ix ix_list (pv 6) (pv 7) (fun _ _ => rfl)))
      (pss_cons (ps_for PassesOwn.never rfl (pi_list (pe_ix ix_list (pv 2) (pv 8) (fun _ _ => rfl))) (pg_name (i := 5) sc_has_ring.nd rfl (Or.inl rfl)) (pss_cons (ps_asg (pe_op op_sub (pe_ix ix_list (pv 3) (pv 5) (fun _ _ => rfl)) pe_int) (pg_sub (pv 3) (pv 5) set_list))
      (pss_one (ps_if (pt_cmpR op_eq (pe_ix ix_list (pv 3) (pv 5) (fun _ _ => rfl)) pe_int (nomark _)) (pss_one (ps_expr (pe_bm PySem.F.plainAttrs_list PySem.F.slot_list_append PySem.F.type_list_append mt_append (pv 6) (pa_cons (pv 5) pa_nil)))) pss_nil))))
      (pss_one (ps_aug (i := 7) sc_has_ring.nd rfl (Or.inl rfl) pe_int ip_add)))))
      (pss_one (ps_ret (pe_cmpR op_lt (pe_callB call_len_seq (by rfl) (T.fr 33 _ rfl) (by decide +kernel) (pa_cons (pv 6) pa_nil)) (pv 0) (nomark _)))))))))), ?_⟩
    walk_at "u"
    refine ⟨_, rfl, _, rfl, n, N, zs, rfl, hN, hz, hn, hzl, fun fo as H1 nfo s1 F1 => ?_⟩
    -- waits = [0] * many
    refine ⟨(show 1 ≤ sizeLine by decide), fun w0 nw0 => ⟨_, rfl, w0, (n : Int), _, rfl, rfl, upd_same, by omega, by omega, by show 1 * _ ≤ _; exact small_sz (by omega), fun W nW => ?_⟩⟩
    have s12 : Same H1 (upd (upd H1 w0 (.lst [.int 0])) W (.lst (List.replicate (n : Int).toNat [V.int 0]).flatten)) := (same_upd nw0).trans (same_upd nW)
    have nW1 : H1 W = none := (same_upd nw0).free nW
    generalize hH2 : upd (upd H1 w0 (.lst [.int 0])) W (.lst (List.replicate (n : Int).toNat [V.int 0]).flatten) = H2 at s12
    have hW2 : H2 W = some (.lst (iV (List.replicate n 0))) := by
      rw [← hH2, upd_same, Int.toNat_natCast, rep_flat]
    have s2 : Same H H2 := s1.trans s12
    have F2 := F1.same s12
    have nW0 : H W = none := s1.free nW1
    have foW : fo ≠ W := ne_of_none F1.top nW1
    have asW : ∀ {i : Nat} {a : Addr}, as[i]? = some a → a ≠ W := fun h => ne_of_none (F1.at_ _ _ h).2.2 nW1
    -- for _, b in needs
    refine ⟨_, rfl, N, rfl, ⟨_, SqL.of (s2 _ _ hN.1)⟩, for_list (K := K) (a := N) (xs := zs.map fun z => V.ref z.1) (fun k σ H' => ∃ ws y4 y5, σ = [some (.int (n : Int)), some (.ref N), some (.ref fo), some (.ref W), y4, y5, none, none, none, none] ∧ Same H H' ∧ Follow H H' fo as zs n ∧ H' W = some (.lst (iV ws)) ∧ ByF ws n (fun b => (waitN (zs.take k) [] b : Int)))
      ⟨_, none, none, rfl, s2, F2, hW2, (byF_rep n).congr fun c hc => rfl⟩ (fun k σ H' _ hP => ?_) (fun k v σ H' hv hP => ?_) (fun σ H' hP => ?_)⟩
    · obtain ⟨ws, y4, y5, _, sm, _⟩ := hP
      exact SqL.of (sm _ _ hN.1)
    · obtain ⟨ws, y4, y5, rfl, sm, F', hW, hB⟩ := hP
      rw [List.getElem?_map] at hv
      cases hk : zs[k]? with
      | none =>
        rw [hk] at hv
        cases hv
      | some z =>
        rw [hk] at hv
        cases hv
        have hzm := List.mem_of_getElem? hk
        have hT := sm _ _ (hN.2 z hzm)
        have hlt := (hz z hzm).2
        refine ⟨z.1, _, rfl, SqT.of hT, rfl, _, _, rfl, _, _, rfl, rfl, ?_⟩
        refine ⟨_, rfl, _, rfl, W, _, _, _, rfl, rfl, SqL.of hW, atI_iV (j := z.2.2) rfl (hB.at_ _ hlt), _, _, rfl, rfl, _, rfl, _, rfl, W, _, _, z.2.2, rfl, rfl, hW, ixN_at rfl (by rw [iV_len, hB.len]; exact hlt), ?_⟩
        refine ⟨ws.set z.2.2 _, _, _, rfl, same_mut sm nW0, ?_, by rw [upd_same, iV_set], hB.set hlt ?_ fun c hc => ?_⟩
        · refine ⟨by rw [upd_ne foW]; exact F'.top, F'.len, F'.nd, fun i a h => ?_⟩
          obtain ⟨g1, g2, g3⟩ := F'.at_ i a h
          exact ⟨g1, g2, by rw [upd_ne (asW h)]; exact g3⟩
        · show ((waitN (zs.take (k + 1)) [] z.2.2 : Nat) : Int) = _
          rw [waitN_take zs z.2.2 k z hk, if_pos rfl]
          rfl
        · show ((waitN (zs.take (k + 1)) [] c : Nat) : Int) = _
          rw [waitN_take zs c k z hk, if_neg fun e => hc e.symm]
          rfl
    obtain ⟨ws, y4, y5, rfl, s3, F3, hW3, hB3⟩ := hP
    rw [List.length_map, List.take_length] at hB3
    -- cleared
    refine ⟨_, rfl, _, rfl, by omega, by omega, fun C nC => lc_range (lo := 0) (n := (n : Int).toNat) (fun i H2 => Same H' H2 ∧ H2 C = some (.lst (nV ((List.range i).filter fun t => waitN zs [] t == 0)))) ⟨same_upd nC, upd_same⟩ (fun i H2 hi hP => ?_) (fun H2 hP => ?_)⟩
    · obtain ⟨sm, hC⟩ := hP
      refine ⟨rfl, ?_⟩
      walk_at "u"
      have hi2 : i < n := by omega
      have e0 : (0 : Int) + (i : Int) = (i : Int) := Int.zero_add _
      refine ⟨_, rfl, _, rfl, W, _, _, _, rfl, rfl, SqL.of (sm _ _ hW3), atI_iV (j := i) e0 (hB3.at_ _ hi2), rfl, _, rfl, ifB (fun e => ?_) (fun e => ?_)⟩
      · have hw : waitN zs [] i = 0 := Int.ofNat.inj (V.int.inj (of_decide_eq_true e))
        refine ⟨_, rfl, _, hC, ?_, same_mut sm nC, ?_⟩
        · rw [nV_len]
          exact small_lt (Nat.lt_of_le_of_lt (List.length_filter_le ..) (by rw [List.length_range]; omega))
        · rw [upd_same, filt_snoc, if_pos (beq_iff_eq.mpr hw), e0, nV_app]
      · have hw : ¬ waitN zs [] i = 0 := fun h => by
          have := of_decide_eq_false e
          exact this (by rw [h]; rfl)
        refine ⟨sm, ?_⟩
        rw [filt_snoc, if_neg fun h => hw (beq_iff_eq.mp h)]
        exact hC
    obtain ⟨s34, hC4⟩ := hP
    rw [Int.toNat_natCast] at hC4
    have s4 : Same H H2 := s3.trans s34
    have F4 := F3.same s34
    have hW4 := s34 _ _ hW3
    have nC0 : H C = none := s3.free nC
    have foC : fo ≠ C := ne_of_none F3.top nC
    have WC : W ≠ C := ne_of_none hW3 nC
    have asC : ∀ {i : Nat} {a : Addr}, as[i]? = some a → a ≠ C := fun h => ne_of_none (F3.at_ _ _ h).2.2 nC
    -- while
    refine ⟨fun m σ H' => ∃ ws cl at_ y4 y5 y8, σ = [some (.int (n : Int)), some (.ref N), some (.ref fo), some (.ref W), y4, y5, some (.ref C), some (.int (at_ : Nat)), y8, none] ∧ Same H H' ∧ Follow H H' fo as zs n ∧ H' W = some (.lst (iV ws)) ∧ ByF ws n (fun b => (waitN zs (cl.take at_) b : Int)) ∧ H' C = some (.lst (nV cl)) ∧ Clr zs n cl at_ ∧ (∀ b, b < n → (b ∈ cl ↔ waitN zs (cl.take at_) b = 0)) ∧ m = n - at_,
      ⟨_, ws, _, 0, _, _, none, rfl, s4, F4, hW4, hB3, hC4, ⟨List.nodup_range.filter _, fun t ht => List.mem_range.mp (List.mem_filter.mp ht).1, Nat.zero_le _, fun z hzm i hi => ?_⟩, fun b hb => ?_, rfl⟩, fun m σ H5 hP => ?_⟩
    · have h1 := (List.mem_filter.mp (List.mem_of_getElem? hi)).2
      have h2 := waitN_zero.mp (beq_iff_eq.mp h1) z hzm rfl
      cases h2
    · rw [List.mem_filter, List.mem_range, beq_iff_eq]
      exact ⟨fun h => h.2, fun h => ⟨hb, h⟩⟩
    obtain ⟨ws, cl, at_, y4, y5, y8, rfl, s5, F5, hW5, hB5, hC5, hcl, hmem, rfl⟩ := hP
    refine ⟨_, rfl, _, rfl, C, _, rfl, .inl (SqL.of hC5), _, _, rfl, rfl, _, rfl, ifB (fun e => ?_) (fun e => ?_)⟩
    · have hat : at_ < cl.length := by
        have h1 := of_decide_eq_true e
        rw [nV_len] at h1
        omega
      have hcln : cl.length ≤ n := by
        have := nat_nodup_len cl (List.range n) hcl.nd fun t ht => List.mem_range.mpr (hcl.lt t ht)
        rw [List.length_range] at this
        exact this
      obtain ⟨a, ha⟩ : ∃ a, cl[at_]? = some a := ⟨_, List.getElem?_eq_getElem hat⟩
      have han : a < n := hcl.lt a (List.mem_of_getElem? ha)
      have hnot : ¬ a ∈ cl.take at_ := fun h => by
        obtain ⟨j, hj⟩ := List.getElem?_of_mem h
        rw [List.getElem?_take] at hj
        split at hj
        · have := ix_of_nodup hcl.nd hj ha
          omega
        · cases hj
      obtain ⟨fa, hfa⟩ : ∃ fa, as[a]? = some fa := ⟨_, List.getElem?_eq_getElem (by rw [F5.len]; exact han)⟩
      have hfa5 := (F5.at_ _ _ hfa).2.2
      refine ⟨fun σ' H' => ∃ m', m' < n - at_ ∧ _, fun _ _ z => z, ?_⟩
      refine ⟨_, rfl, _, rfl, C, _, _, _, rfl, rfl, SqL.of hC5, atI_nV (j := at_) rfl ha, ?_⟩
      refine ⟨_, rfl, _, rfl, fo, _, _, .ref fa, rfl, rfl, SqL.of F5.top, at_of (j := a) rfl (rV_get hfa), fa, rfl, ⟨_, SqL.of hfa5⟩, for_list (K := K) (a := fa) (xs := nV (succ zs a)) (fun k σ H' => ∃ ws cl2 y5, σ = [some (.int (n : Int)), some (.ref N), some (.ref fo), some (.ref W), y4, y5, some (.ref C), some (.int (at_ : Nat)), some (.int (a : Int)), none] ∧ Same H H' ∧ Follow H H' fo as zs n ∧ H' W = some (.lst (iV ws)) ∧ ByF ws n (fun b => (waitN zs (cl.take at_) b : Int) - (((succ zs a).take k).count b : Int)) ∧ H' C = some (.lst (nV (cl ++ cl2))) ∧ Clr zs n (cl ++ cl2) at_ ∧ (∀ b, b < n → (b ∈ cl ++ cl2 ↔ (waitN zs (cl.take at_) b : Int) - (((succ zs a).take k).count b : Int) = 0)))
        ⟨ws, [], y5, rfl, s5, F5, hW5, hB5.congr fun c _ => by simp, by rw [List.append_nil]; exact hC5, by rw [List.append_nil]; exact hcl, fun b hb => by
          rw [List.append_nil, hmem b hb]
          simp⟩ (fun k σ H' _ hP => ?_) (fun k v σ H' hv hP => ?_) (fun σ H' hP => ?_)⟩
      · obtain ⟨ws, cl2, y5, _, _, F', _⟩ := hP
        exact SqL.of (F'.at_ _ _ hfa).2.2
      · obtain ⟨ws, cl2, y5, rfl, s6, F6, hW6, hB6, hC6, hcl6, hmem6⟩ := hP
        obtain ⟨b, hb, rfl⟩ := nV_of hv
        obtain ⟨zb, hzb, e1, e2⟩ := mem_succ.mp (List.mem_of_getElem? hb)
        have hbn : b < n := e2 ▸ (hz zb hzb).2
        have hcnt := waitN_snoc zs (cl.take at_) a b hnot
        have hc1 := cnt_take hb b
        rw [if_pos rfl] at hc1
        have hc2 := cnt_le (succ zs a) (k + 1) b
        have hnin : ¬ b ∈ cl ++ cl2 := fun h => by
          have := (hmem6 b hbn).mp h
          omega
        have F7 : Follow H (upd H' W (.lst ((iV ws).set b (.int ((waitN zs (cl.take at_) b : Int) - (((succ zs a).take k).count b : Int) - 1))))) fo as zs n := ⟨by rw [upd_ne foW]; exact F6.top, F6.len, F6.nd, fun i c h => by
          obtain ⟨g1, g2, g3⟩ := F6.at_ i c h
          exact ⟨g1, g2, by rw [upd_ne (asW h)]; exact g3⟩⟩
        have hW7 : (upd H' W (.lst ((iV ws).set b (.int ((waitN zs (cl.take at_) b : Int) - (((succ zs a).take k).count b : Int) - 1))))) W = some (.lst (iV (ws.set b ((waitN zs (cl.take at_) b : Int) - (((succ zs a).take k).count b : Int) - 1)))) := by
          rw [upd_same, iV_set]
        have hB7 : ByF (ws.set b ((waitN zs (cl.take at_) b : Int) - (((succ zs a).take k).count b : Int) - 1)) n (fun b => (waitN zs (cl.take at_) b : Int) - (((succ zs a).take (k + 1)).count b : Int)) := hB6.set hbn (by
            show (_ : Int) - _ = _
            rw [hc1]
            omega) fun c hc => by
          show (_ : Int) - _ = _ - _
          rw [cnt_take hb c, if_neg hc, Int.add_zero]
        refine ⟨_, rfl, _, rfl, W, _, _, _, rfl, rfl, SqL.of hW6, atI_iV (j := b) rfl (hB6.at_ b hbn), _, _, rfl, rfl, _, rfl, _, rfl, W, _, _, b, rfl, rfl, hW6, ixN_at rfl (by rw [iV_len, hB6.len]; exact hbn), ?_⟩
        refine ⟨_, rfl, _, rfl, W, _, _, _, rfl, rfl, SqL.of hW7, atI_iV (j := b) rfl (hB7.at_ b hbn), rfl, _, rfl, ifB (fun e => ?_) (fun e => ?_)⟩
        · have ez : (waitN zs (cl.take at_) b : Int) - (((succ zs a).take (k + 1)).count b : Int) = 0 := V.int.inj (of_decide_eq_true e)
          have hC7 : (upd H' W (.lst ((iV ws).set b (.int ((waitN zs (cl.take at_) b : Int) - (((succ zs a).take k).count b : Int) - 1))))) C = some (.lst (nV (cl ++ cl2))) := by
            rw [upd_ne WC.symm]
            exact hC6
          have hl6 : (cl ++ cl2).length ≤ n := by
            have := nat_nodup_len (cl ++ cl2) (List.range n) hcl6.nd fun t ht => List.mem_range.mpr (hcl6.lt t ht)
            rw [List.length_range] at this
            exact this
          refine ⟨_, rfl, .inl ⟨rfl, _, .inl (.inl hC7)⟩, _, rfl, C, _, _, rfl, rfl, hC7, by rw [nV_len]; exact small_lt (by omega), ?_⟩
          refine ⟨_, cl2 ++ [b], _, rfl, same_mut (same_mut s6 nW0) nC0, ?_, by rw [upd_ne WC]; exact hW7, hB7, by rw [upd_same, nV_app, List.append_assoc], ?_, fun c hc => ?_⟩
          · exact ⟨by rw [upd_ne foC]; exact F7.top, F7.len, F7.nd, fun i c h => by
              obtain ⟨g1, g2, g3⟩ := F7.at_ i c h
              exact ⟨g1, g2, by rw [upd_ne (asC h)]; exact g3⟩⟩
          · rw [← List.append_assoc]
            refine ⟨nd_snoc hcl6.nd hnin, fun t ht => ?_, by rw [List.length_append]; exact Nat.le_trans hcl6.up (Nat.le_add_right _ _), fun z hzm i hi => ?_⟩
            · rcases List.mem_append.mp ht with h | h
              · exact hcl6.lt t h
              · rw [List.mem_singleton.mp h]
                exact hbn
            · by_cases hil : i < (cl ++ cl2).length
              · rw [List.getElem?_append_left hil] at hi
                obtain ⟨j, hj, hj2⟩ := hcl6.ord z hzm i hi
                exact ⟨j, hj, by rw [List.getElem?_append_left (by omega)]; exact hj2⟩
              · rw [List.getElem?_append_right (by omega)] at hi
                have hb2 : z.2.2 = b := by
                  cases hx : i - (cl ++ cl2).length with
                  | zero =>
                    rw [hx] at hi
                    exact (Option.some.inj hi).symm
                  | succ m =>
                    rw [hx] at hi
                    simp at hi
                have hz0 : waitN zs (cl.take at_ ++ [a]) b = 0 := by omega
                have hz1 := waitN_zero.mp hz0 z hzm hb2
                have ea : cl.take at_ ++ [a] = cl.take (at_ + 1) := by
                  rw [List.take_add_one, ha]
                  rfl
                rw [ea] at hz1
                obtain ⟨j, hj⟩ := List.getElem?_of_mem hz1
                rw [List.getElem?_take] at hj
                split at hj
                · have hj1 : j < cl.length := by omega
                  have hlen : cl.length ≤ (cl ++ cl2).length := by rw [List.length_append]; exact Nat.le_add_right _ _
                  exact ⟨j, by omega, by rw [List.append_assoc, List.getElem?_append_left hj1]; exact hj⟩
                · cases hj
          · rw [← List.append_assoc, List.mem_append, List.mem_singleton]
            by_cases ec : c = b
            · subst ec
              exact ⟨fun _ => ez, fun _ => .inr rfl⟩
            · rw [cnt_take hb c, if_neg ec, Int.add_zero]
              exact ⟨fun h => (hmem6 c hc).mp (h.resolve_right ec), fun h => .inl ((hmem6 c hc).mpr h)⟩
        · have ez : ¬ (waitN zs (cl.take at_) b : Int) - (((succ zs a).take (k + 1)).count b : Int) = 0 := fun h => of_decide_eq_false e (congrArg V.int h)
          refine ⟨_, cl2, _, rfl, same_mut s6 nW0, F7, hW7, hB7, by rw [upd_ne WC.symm]; exact hC6, hcl6, fun c hc => ?_⟩
          by_cases ec : c = b
          · subst ec
            exact ⟨fun h => absurd h hnin, fun h => absurd h ez⟩
          · rw [cnt_take hb c, if_neg ec, Int.add_zero]
            exact hmem6 c hc
      · obtain ⟨ws, cl2, y5, rfl, s6, F6, hW6, hB6, hC6, hcl6, hmem6⟩ := hP
        rw [nV_len, List.take_length] at hB6 hmem6
        have ea : (cl ++ cl2).take (at_ + 1) = cl.take at_ ++ [a] := by
          rw [List.take_append_of_le_length (by omega), List.take_add_one, ha]
          rfl
        have hw : ∀ b, (waitN zs ((cl ++ cl2).take (at_ + 1)) b : Int) = (waitN zs (cl.take at_) b : Int) - ((succ zs a).count b : Int) := fun b => by
          have := waitN_snoc zs (cl.take at_) a b hnot
          rw [ea]
          omega
        refine ⟨_, rfl, _, _, rfl, rfl, n - (at_ + 1), by omega, ws, cl ++ cl2, at_ + 1, _, _, _, rfl, s6, F6, hW6, hB6.congr fun c _ => hw c, hC6, ⟨hcl6.nd, hcl6.lt, by rw [List.length_append]; omega, hcl6.ord⟩, fun b hb => ?_, rfl⟩
        rw [hmem6 b hb, ← hw b]
        omega
    · have hat : at_ = cl.length := by
        have h1 := of_decide_eq_false e
        rw [nV_len] at h1
        have := hcl.up
        omega
      subst hat
      rw [List.take_length] at hmem
      refine ⟨_, rfl, C, _, rfl, .inl (SqL.of hC5), _, rfl, _, _, rfl, rfl, ?_⟩
      rw [nV_len]
      exact q _ H5 s5 (clr_end hcl hz hmem)


theorem isTask_nat {n t : Nat} (h : t < n) : isTask (n : Int) (.int (t : Int)) = true := by
  show (decide ((0 : Int) ≤ (t : Int)) && decide ((t : Int) < (n : Int))) = true
  rw [decide_eq_true (by omega : (0 : Int) ≤ (t : Int)), decide_eq_true (by omega : (t : Int) < (n : Int))]
  rfl
theorem all_rep (n : Nat) : (List.replicate n true).all id = true := by
  rw [List.all_eq_true]
  intro x hx
  exact (List.eq_of_mem_replicate hx)
theorem bl_rep (n : Nat) : (List.replicate n true).map V.bl ++ [V.bl true] = (List.replicate (n + 1) true).map V.bl := by
  rw [List.replicate_succ', List.map_append]
  rfl
theorem pr2_nodup : ∀ {zs : List (Addr × Nat × Nat)}, (zs.map (·.2)).Nodup → (zs.map fun z => (pr2 z).2).Nodup
  | [], _ => List.nodup_nil
  | z :: r, h => by
    rw [List.map_cons] at h
    obtain ⟨h1, h2⟩ := List.nodup_cons.mp h
    rw [List.map_cons]
    refine List.nodup_cons.mpr ⟨fun hm => h1 ?_, pr2_nodup h2⟩
    obtain ⟨y, hy, e⟩ := List.mem_map.mp hm
    refine List.mem_map.mpr ⟨y, hy, ?_⟩
    have e1 : ([(y.2.1 : Int), (y.2.2 : Int)] : List Int) = [(z.2.1 : Int), (z.2.2 : Int)] := e
    injection e1 with a1 a2
    injection a2 with a2 _
    exact Prod.ext (Int.ofNat.inj a1) (Int.ofNat.inj a2)

end
/-! sums of rooms -/
def roomSum (rs : List Int) (s : Int) : Nat → Int
  | 0 => 0
  | k + 1 => roomSum rs s k + roomAt rs (s + (k : Int))
theorem roomSum_eq (rs : List Int) (s : Nat) : ∀ k : Nat, roomSum rs ((s : Int) + 1) k = ((rs.drop s).take k).sum + 2 * ((k : Int) - (min k (rs.length - s) : Nat))
  | 0 => by simp [roomSum]
  | k + 1 => by
    rw [roomSum, roomSum_eq rs s k]
    by_cases h : s + k < rs.length
    · have e1 : roomAt rs ((s : Int) + 1 + (k : Int)) = rs[s + k] := by
        have h2 := roomAt_in (rs := rs) (h := (s : Int) + 1 + (k : Int)) (by omega) (by omega)
        have e2 : ((s : Int) + 1 + (k : Int) - 1).toNat = s + k := by omega
        rw [e2, List.getElem?_eq_getElem h] at h2
        exact (Option.some.inj h2).symm
      have e3 : (rs.drop s)[k]? = some rs[s + k] := by
        rw [List.getElem?_drop, List.getElem?_eq_getElem h]
      rw [e1, List.take_add_one, e3, List.sum_append]
      have e4 : min (k + 1) (rs.length - s) = k + 1 := by omega
      have e5 : min k (rs.length - s) = k := by omega
      rw [e4, e5]
      simp
      all_goals omega
    · rw [roomAt_out (by omega)]
      have e3 : (rs.drop s)[k]? = none := List.getElem?_eq_none (by rw [List.length_drop]; omega)
      rw [List.take_add_one, e3]
      have e4 : min (k + 1) (rs.length - s) = rs.length - s := by omega
      have e5 : min k (rs.length - s) = rs.length - s := by omega
      rw [e4, e5]
      simp
      all_goals omega
/-- room(job, s, e) -/
def roomOf (rs : List Int) (s e : Int) : Int := roomSum rs s (e + 1 - s).toNat
theorem cut_sum {rs : List Int} {s e : Int} (h1 : 1 ≤ s) (h2 : s ≤ e) : cutV (iV rs) (some (s - 1)) (some e) = iV ((rs.drop (s - 1).toNat).take (e + 1 - s).toNat) := by
  obtain ⟨a, rfl⟩ : ∃ a : Nat, s = (a : Int) + 1 := ⟨(s - 1).toNat, by omega⟩
  obtain ⟨b, rfl⟩ : ∃ b : Nat, e = (b : Int) := ⟨e.toNat, by omega⟩
  have e1 : (a : Int) + 1 - 1 = (a : Int) := by omega
  have e2 : ((b : Int) + 1 - ((a : Int) + 1)).toNat = b - a := by omega
  rw [e1, e2, Int.toNat_natCast]
  unfold cutV
  rw [HT.sIx_nat, HT.sIx_nat, iV_len]
  unfold iV
  rw [← List.map_drop, ← List.map_take]
  congr 1
  by_cases h : a ≤ rs.length
  · rw [Nat.min_eq_left h]
    by_cases h3 : b ≤ rs.length
    · rw [Nat.min_eq_left h3]
    · rw [Nat.min_eq_right (by omega), List.take_of_length_le (by rw [List.length_drop]; omega), List.take_of_length_le (by rw [List.length_drop]; omega)]
  · rw [Nat.min_eq_right (by omega : rs.length ≤ a), List.drop_eq_nil_of_le (Nat.le_refl _), List.drop_eq_nil_of_le (by omega), List.take_nil, List.take_nil]
theorem room_val {rs : List Int} {s e : Int} (h1 : 1 ≤ s) (h2 : s ≤ e) : ((rs.drop (s - 1).toNat).take (e + 1 - s).toNat).sum + 2 * (if e - (if (rs.length : Int) > s - 1 then (rs.length : Int) else s - 1) > 0 then e - (if (rs.length : Int) > s - 1 then (rs.length : Int) else s - 1) else 0) = roomOf rs s e := by
  obtain ⟨a, rfl⟩ : ∃ a : Nat, s = (a : Int) + 1 := ⟨(s - 1).toNat, by omega⟩
  unfold roomOf
  rw [roomSum_eq]
  have e1 : ((a : Int) + 1 - 1).toNat = a := by omega
  rw [e1]
  congr 1
  congr 1
  split <;> split <;> omega
theorem roomOf_none {rs : List Int} {s e : Int} (h : e < s) : roomOf rs s e = 0 := by
  unfold roomOf
  rw [show (e + 1 - s).toNat = 0 by omega]
  rfl
/-! reaching -/
inductive Reach (zs : List (Addr × Nat × Nat)) (a : Nat) : Nat → Prop where
  | one {z} (h : z ∈ zs) (e : z.2.1 = a) : Reach zs a z.2.2
  | step {c : Nat} {z} (r : Reach zs a c) (h : z ∈ zs) (e : z.2.1 = c) : Reach zs a z.2.2
/-- all that is found, closed, is all that is reached -/
theorem reach_all {zs : List (Addr × Nat × Nat)} {a : Nat} {fk : List Nat} (h1 : ∀ b ∈ succ zs a, b ∈ fk) (h2 : ∀ c ∈ fk, ∀ b ∈ succ zs c, b ∈ fk) : ∀ {b : Nat}, Reach zs a b → b ∈ fk := by
  intro b r
  induction r with
  | one h e => exact h1 _ (mem_succ.mpr ⟨_, h, e, rfl⟩)
  | step r h e ih => exact h2 _ ih _ (mem_succ.mpr ⟨_, h, e, rfl⟩)
/-! a dict of True -/
def tK (fk : List Nat) : List (Key × V) := fk.map fun (b : Nat) => (Sum.inl (b : Int), V.bl true)
theorem valV_tK (fk : List Nat) (b : Nat) : (valV (tK fk) (Sum.inl (b : Int))).isSome = decide (b ∈ fk) := by
  rw [← valV_any, Bool.eq_iff_iff, List.any_eq_true, decide_eq_true_iff]
  constructor
  · rintro ⟨p, hp, e⟩
    obtain ⟨c, hc, rfl⟩ := List.mem_map.mp hp
    have e2 : (Sum.inl (c : Int) : Key) = Sum.inl (b : Int) := of_decide_eq_true e
    have e3 : (c : Int) = (b : Int) := Sum.inl.inj e2
    rw [← Int.ofNat.inj e3]
    exact hc
  · intro h
    exact ⟨_, List.mem_map.mpr ⟨b, h, rfl⟩, decide_eq_true rfl⟩
theorem tK_put {fk : List Nat} {b : Nat} (h : ¬ b ∈ fk) : putK (tK fk) (Sum.inl (b : Int)) (.bl true) = tK (fk ++ [b]) := by
  have h2 : valV (tK fk) (Sum.inl (b : Int)) = none := by
    have := valV_tK fk b
    rw [decide_eq_false h] at this
    exact Option.isSome_eq_false_iff.mp this |> fun z => by simpa using z
  rw [putK_new _ h2]
  unfold tK
  rw [List.map_append]
  rfl
theorem tK_keys (fk : List Nat) : (tK fk).map (·.1) = (fk.map fun (b : Nat) => (b : Int)).map Sum.inl := by
  unfold tK
  rw [List.map_map, List.map_map]
  rfl
theorem tK_len (fk : List Nat) : (tK fk).length = fk.length := List.length_map ..

/-! ### defs that are called where nothing is being shown: the guards are known -/
/-- a promise that is kept where no repr is under way -/
structure FnG (P : Program) (w : World) (K : PySem.W.Frag) (mg : Str → Option Value) (base : Heap) (CX : CXT) (k : Nat) (f : Addr) (fd : FuncData) (ps : List Str) (sp : Sp) : Prop where
  len : ∀ vs H Q E, sp vs H Q E → vs.length = ps.length
  run : ∀ (A : Around) (outer : List PySem.Env) (s : Shared) (H : Hp) (args : Args) (us : List Value) (vs : List V) (Q : VK) (E : XK),
    Room k A → A.guards = some [] → Env0 P w K mg base A outer s H → BindsTo s fd args (ps.zip us) → Vals vs us → sp vs H Q E → codeAny (model P w) A (.call (.ref f) args) (CR CX outer P w H s Q E) s
/-- THE RULE of such a def: its body, the guards told -/
theorem fnG_of {CX : CXT} {P : Program} {w : World} {K : PySem.W.Frag} {mg : Str → Option Value} {base : Heap} {k : Nat} {f : Addr} {name qual : Str} {params : Arguments} {body : List Stmt} {scope : Scope}
    {dV kV doc pm cdv ct oc : Value} {an od : Option Addr} {osl : Array (Option Value)} {N ps : List Str} {sp : Sp}
    (lk : K.lookup f = some ⟨oc, od, .func (PySem.W.fnOf name qual params body scope dV kV doc pm an cdv ct), osl⟩)
    (hcd : PySem.W.codeIn K cdv qual = true) (S : FnScope N ps scope) (len : ∀ vs H Q E, sp vs H Q E → vs.length = ps.length)
    (hbody : ∀ (A : Around) (outer : List PySem.Env) (s : Shared) (H : Hp) (vs : List V) (Q : VK) (E : XK),
      Room k (A.deeper (envOfC qual scope s.heap.objs.size f cdv)) → (A.deeper (envOfC qual scope s.heap.objs.size f cdv)).guards = some [] → sp vs H Q E →
      ∃ t, PSs (cxOf CX P w K mg base N qual scope f cdv A outer s H E) body t ∧ t { nx := fun _ H' => Q .non H', rt := Q } (start N vs) H) :
    FnG P w K mg base CX (k + 1) f (PySem.W.fnOf name qual params body scope dV kV doc pm an cdv ct) ps sp := by
  refine ⟨len, fun A outer s H args us vs Q E room guards e0 binds rel promise => ?_⟩
  have many := len _ _ _ _ promise
  have there : K.In s.heap := e0.mod.kin.keeps fun b o e => (e0.bs b o e).1
  have free : s.heap.NoLimit := e0.mod.nolimit.keeps fun b o e => (e0.bs b o e).1
  have kinds : ∀ y ∈ ps.zip us, scope.names.lookup y.1 = some .local ∨
      (scope.names.lookup y.1 = some .cell ∧ ((cellsFrom (s.heap.objs.size + 1) scope.names []).lookup y.1).isSome = true) := fun y hy => by
    rcases S.par y.1 (List.of_mem_zip (a := y.1) (b := y.2) hy).1 with z | z
    · exact .inl z
    · exact .inr ⟨z, PySem.W.cellsFrom_some _ _ _ (.inl z)⟩
  refine codeAny_call_function room.depth (there _ _ lk) rfl S.co S.gen rfl (PySem.W.codeRec_of there hcd) (binds _ _ _ _ ?_)
  refine wpAny_newFunctionEnv_cells S.kind kinds fun env henv s1 made => ?_
  subst henv
  refine ⟨free.keeps made.toInCall.keep, codeAny_func ?_⟩
  obtain ⟨t, reads, goal⟩ := hbody A outer s H vs Q E (room.deeper _) guards promise
  have inv := inv_start (CX := CX) (mg := mg) (base := base) (E := E) S room.hd e0 many rel made
  refine wpAny_mono (reads.run [] s1 (start N vs) H _ inv goal) (fun fl s' done => ?_) fun e s' done => done
  match fl, done with
  | .ret u, done =>
    obtain ⟨v, σ', H', J, rv, z⟩ := done
    exact ⟨v, H', J.os, J.bare, J.base, J.hok, rv, z⟩
  | .next, done =>
    obtain ⟨σ', H', J, z⟩ := done
    exact ⟨V.non, H', J.os, J.bare, J.base, J.hok, rfl, z⟩
  | .brk, done => exact done.choose_spec.choose_spec.2.elim
  | .cont, done => exact done.choose_spec.choose_spec.2.elim
theorem funD_okG {P : Program} {w : World} {K : PySem.W.Frag} {mg : Str → Option Value} {base : Heap} {x qual : Str} {params : Arguments} {body : List Stmt} {scope : Scope} {dvs : List V} {kws : List (Str × V)} {f : Addr} {fd : FuncData}
    {CX : CXT} {N ps : List Str} {k : Nat} {sp : Sp} (F : FunD K x qual params body scope dvs kws f fd) (S : FnScope N ps scope) (len : ∀ vs H Q E, sp vs H Q E → vs.length = ps.length)
    (hbody : ∀ (cdv : Value) (A : Around) (outer : List PySem.Env) (s : Shared) (H : Hp) (vs : List V) (Q : VK) (E : XK),
      Room k (A.deeper (envOfC qual scope s.heap.objs.size f cdv)) → (A.deeper (envOfC qual scope s.heap.objs.size f cdv)).guards = some [] → sp vs H Q E →
      ∃ t, PSs (cxOf CX P w K mg base N qual scope f cdv A outer s H E) body t ∧ t { nx := fun _ H' => Q .non H', rt := Q } (start N vs) H) : FnG P w K mg base CX (k + 1) f fd ps sp := by
  obtain ⟨oc, od, dV, kV, doc, pm, an, cdv, ct, osl, rfl, lk, hcd, _, _⟩ := F.ex
  exact fnG_of lk hcd S len fun A outer s H vs Q E room guards promise => hbody cdv A outer s H vs Q E room guards promise
/-- its call, by the def's name -/
theorem pe_callG {X : Cx} {CX : CXT} {k : Nat} {f : Addr} {fd : FuncData} {ps : List Str} {sp : Sp} {dvs : List V} {ds : List Value} {E : XK} {x : Str} {p pos : Pos} {e : Expr} {es : List Expr} {t : TA}
    (hgd : X.A.guards = some []) (F : FnG X.prog X.w X.K X.mg X.base CX k f fd ps sp) (hr : Room k X.A) (hg : Gl X x) (hm : X.mg x = some (.ref f)) (hk : PySem.W.keepIn X.K (.ref f) = true)
    (hb : Binds X.K fd ps ds) (hd : Vals dvs ds) (hx : Passes CX X E) (ha : PA X (e :: es) t) (hdb : (x == ("__debug__" : Str)) = false := by decide)
    (he : starEach (e :: es) X.env = (false, eval e X.env) :: starEach es X.env := by rfl) (hpl : (backTo pos (starEach es X.env)).any (·.1) = false := by rfl) :
    PE X (.Call (.Name x p) (e :: es) [] pos) (tCall sp dvs E t) := by
  refine ⟨fun pins s σ H Q I h => wpAny_Call_Name_kw (ld_glob I hg hm ?_ hdb)⟩
  refine PySem.W.callWith_K (h₀ := X.base) I.ok.mod.kin hk (thn (ha.run pos pins s σ H _ I h) fun us s1 ⟨vs, H1, J, rel, z⟩ => ⟨J.kIn, ?_⟩) he hpl
  have all : Vals (vs ++ dvs) (us ++ ds) := rel.append hd
  have many : (us ++ ds).length = ps.length := all.length.symm.trans (F.len _ _ _ _ z)
  refine wpAny_call (codeAny_mono (F.run X.A X.stack s1 H1 ⟨us, []⟩ (us ++ ds) (vs ++ dvs) Q E hr hgd J.env0 (hb s1 us J.kIn many) all z) fun r s' done => ?_)
  match r, done with
  | .error e, done => exact hx pins σ H1 s1 e s' J done
  | .ok (.ret u), done => exact J.after done
  | .ok .next, done => exact done.elim
  | .ok .brk, done => exact done.elim
  | .ok .cont, done => exact done.elim
/-- the law's call behind the top -/
theorem law_callG {P : Program} {w : World} {K : PySem.W.Frag} {mg mb : Str → Option Value} {CX : CXT} {k : Nat} {fa a : Addr} {fd : FuncData} {x : Str} {sp : Sp} {s₁ : Shared} {vs : List Value} {ns : List Int}
    (KX : K.In s₁.heap) (hns : s₁.heap.Ns mainGlobals mg) (hb : s₁.heap.Ns builtinsNs mb) (hbb : ∀ x : Str, x ≠ "__name__" → mb x = bootBuiltins x) (hlim : s₁.heap.NoLimit) (hg : s₁.gens = #[])
    (ha : s₁.heap.get? a = some { cls := .type "list", data := .seq vs.toArray }) (hi : IntsAre vs ns) (hl : ns.length ≤ sizeLine) (hr : Room k callerA)
    (F : ∀ base : Heap, K.In base → base.Ns mainGlobals mg → FnG P w K mg base CX k fa fd [x] sp) (hbind : ∀ (s : Shared) (u : Value), BindsTo s fd ⟨[u], []⟩ [(x, u)])
    (hsp : ∀ H : Hp, Only H → SqL K H a (ns.map V.int) → sp [.ref a] H (fun v _ => v = .bl true) fun _ _ _ => False) (hCX : ∀ H e s', CX [] H s₁ (fun _ _ _ => False) e s' → False) :
    codeAny (model P w) callerA (.call (.ref fa) ⟨[.ref a], []⟩) (fun r s' => r = .ok (.ret (.bool true)) ∧ OldK s₁.heap s'.heap ∧ s'.os = s₁.os ∧ AllBare s'.gens) s₁ := by
  have rel := vals_ints hi
  have size := hi.length
  have core : ∀ H : Hp, Only H → SqL K H a (ns.map V.int) → HOk P w H s₁.heap → (∀ b u, H b = some u → b = a ∧ K.lookup a = none) →
      codeAny (model P w) callerA (.call (.ref fa) ⟨[.ref a], []⟩) (fun r s' => r = .ok (.ret (.bool true)) ∧ OldK s₁.heap s'.heap ∧ s'.os = s₁.os ∧ AllBare s'.gens) s₁ := by
    intro H only seq held none_but
    have free : ∀ {b : Addr} {o : Obj} {es : Array DictEntry} {ep : Nat}, s₁.heap.get? b = some o → o.data = .dict es ep → H b = none := fun {b o es ep} there isDict => by
      cases tracked : H b with
      | none => rfl
      | some u =>
        obtain ⟨same, _⟩ := none_but b u tracked
        rw [same, ha] at there
        cases there
        exact nomatch (show Data.seq vs.toArray _ = Data.dict es ep from isDict)
    have names : ∀ {b : Addr} {m : Str → Option Value}, s₁.heap.Ns b m → (hidT s₁.heap H).Ns b m := fun ⟨o, es, ep, there, isDict, rest⟩ =>
      ⟨o, es, ep, hidT_get there (free there isDict), isDict, rest⟩
    have written : K.In (hidT s₁.heap H) := fun b o known => hidT_get (KX b o known) (by
      cases tracked : H b with
      | none => rfl
      | some u =>
        obtain ⟨same, unknown⟩ := none_but b u tracked
        rw [same, unknown] at known
        cases known)
    obtain ⟨mc, lim1, lim2⟩ := hlim
    have enters : Env0 P w K mg (hidT s₁.heap H) callerA [] s₁ H :=
      ⟨rfl, ⟨written, names hns, ⟨mb, names hb, hbb⟩, ⟨mc, names lim1, lim2⟩⟩, fun b o e => of_hidT e, Nat.le_of_eq (hidT_size _ _), trivial, fun b z => (nomatch (show b ∈ ([] : List Addr) from z)), held, .of_eq hg⟩
    have runs := (F _ written (names hns)).run callerA [] s₁ H ⟨[.ref a], []⟩ [.ref a] [.ref a] _ _ hr rfl enters (hbind s₁ (.ref a)) (.cons rfl .nil) (hsp H only seq)
    refine codeAny_mono runs fun r s' done => ?_
    match r, done with
    | .error e, done => exact (hCX H e s' done).elim
    | .ok .next, done => exact done.elim
    | .ok .brk, done => exact done.elim
    | .ok .cont, done => exact done.elim
    | .ok (.ret u), done =>
      obtain ⟨v, H', osSame, bare, un, held', told, isTrue⟩ := done
      have isTrue : v = .bl true := isTrue
      subst isTrue
      obtain rfl : u = Value.bool true := told
      refine ⟨rfl, OldK.of_keep fun b o there => ?_, osSame, bare⟩
      cases tracked : H b with
      | none => exact un.keep b o there tracked (fun z => nomatch (show b ∈ ([] : List Addr) from z)) (fun z => nomatch z)
      | some u =>
        rcases only b with z | ⟨ob, xs, z⟩
        · rw [tracked] at z
          cases z
        · have first := (held b _ z).1
          rw [there] at first
          cases first
          exact (held' b _ (un.frzs b _ _ z)).1
  cases known : K.lookup a with
  | some o =>
    have there := KX a o known
    rw [ha] at there
    cases there
    exact core (fun _ => none) (fun _ => .inl rfl) (.inr ⟨_, vs.toArray, _, known, rfl, rfl, rfl, by rw [List.size_toArray, size]; exact hl, by simpa using rel⟩)
      (fun b u z => nomatch (show (none : Option HO) = some u from z)) fun b u z => nomatch (show (none : Option HO) = some u from z)
  | none =>
    refine core (fun b => if b = a then some (.frz { cls := .type "list", data := .seq vs.toArray } (.lst (ns.map V.int))) else none)
      (fun b => ?_) (.inl (.inr ⟨{ cls := .type "list", data := .seq vs.toArray }, if_pos rfl⟩)) (fun b u z => ?_) (fun b u z => ?_)
    · by_cases same : b = a
      · exact .inr ⟨_, _, if_pos same⟩
      · exact .inl (if_neg same)
    · by_cases same : b = a
      · have z' := (if_pos same).symm.trans z
        cases z'
        subst same
        exact ⟨ha, by rw [List.length_map]; exact hl, vs, _, rel, ha⟩
      · exact nomatch (if_neg same).symm.trans z
    · by_cases same : b = a
      · exact ⟨same, known⟩
      · exact nomatch (if_neg same).symm.trans z
/-- the law's walk, by a promise that wants the guards -/
theorem walk_ofG {l : PySem.W.OpenLaw} {n k : Nat} {q : Program} {loose : List Str} {XP : (Str → Option Value) → Heap → Prop} {YP : World → Heap → Prop} {d : DefRec} {CX : CXT} {x : Str}
    (hn : l.most = some n) (hn2 : n ≤ sizeLine) (hdf : d.params.defaults = []) (hr : Room k callerA)
    (F : ∀ (w : World) (mg : Str → Option Value) (fa : Addr) (h : Heap), YP w h → h.Ns mainGlobals mg → mg d.name = some (.ref fa) → ∃ (K : PySem.W.Frag) (fd : FuncData) (sp : Sp), K.In h ∧
      (∀ (s : Shared) (u : Value), BindsTo s fd ⟨[u], []⟩ [(x, u)]) ∧ (∀ (H : Hp) (a : Addr) (ns : List Int), ns.length ≤ n → Only H → SqL K H a (ns.map V.int) → sp [.ref a] H (fun v _ => v = .bl true) fun _ _ _ => False) ∧
      ∀ base : Heap, K.In base → base.Ns mainGlobals mg → FnG l.prog w K mg base CX k fa fd [x] sp)
    (hCX : ∀ (H : Hp) (s : Shared) (e : Value) (s' : Shared), CX [] H s (fun _ _ _ => False) e s' → False) : PySem.W.WalkO q loose XP YP l.row.toRowW d [] (fun f vs => PySem.call f vs) := by
  refine Att.attach_call hn hdf fun w s₀ s₁ mg mb fa o pm cd doc a vs ns G says ho hd hcd named there numbers short noGens => ?_
  obtain ⟨K, fd, sp, KX, binds, promise, keeps⟩ := F w mg fa _ says G.T.g named
  exact law_callG KX G.T.g G.T.b G.T.builtins G.T.nolimit noGens there numbers (Nat.le_trans short hn2) hr keeps binds (fun H only seq => promise H a ns short only seq) fun H e s' => hCX H s₁ e s'
/-! ### str, repr of data -/
def rShow (K : PySem.W.Frag) : List V → Hp → VK → Prop := fun xs H Q => ∃ (a : Addr) (d : PyData), xs = [.ref a] ∧ Dp K H (.ref a) d ∧ d.showable = true ∧ d.hasDict = false ∧ d.depth ≤ 40 ∧ d.shown.length ≤ sizeLine ∧ Q (.str d.shown) H
theorem call_str_data {X : Cx} (hgd : X.A.guards = some []) (hu : X.A.units + 64 < cLine) : CallR X (.type "str") (rShow X.K) := by
  intro pins s σ H xs us Q I r h
  obtain ⟨a, d, rfl, hd, hs, hn, hdep, hsz, q⟩ := h
  obtain ⟨u, rfl, ru⟩ := vals1 r
  obtain ⟨as, rd⟩ := Dp.reads I d _ u hd ru
  cases ru
  refine str_of_reads rd hs (PyData.noDict_hsm hn) hgd (by omega) (fun _ _ e => e) (fun h' t tk keep => ?_) hsz
  exact ⟨.str d.shown, H, I.kept (h' := h') (t' := tk) keep, ⟨t, rfl⟩, q⟩
theorem call_repr_data {X : Cx} (hgd : X.A.guards = some []) (hu : X.A.units + 64 < cLine) : CallR X (.builtin "repr") (rShow X.K) := by
  intro pins s σ H xs us Q I r h
  obtain ⟨a, d, rfl, hd, hs, hn, hdep, hsz, q⟩ := h
  obtain ⟨u, rfl, ru⟩ := vals1 r
  obtain ⟨as, rd⟩ := Dp.reads I d _ u hd ru
  cases ru
  refine repr_of_reads' rd hs (PyData.noDict_hsm hn) hgd (by omega) (fun _ _ e => e) (fun h' t tk keep => ?_) hsz
  exact ⟨.str d.shown, H, I.kept (h' := h') (t' := tk) keep, ⟨t, rfl⟩, q⟩
/-! ### small data -/
structure Sm (wt dp : Nat) (d : PyData) : Prop where
  can : d.canLay0 = true
  short : d.intsShort 13 = true
  show_ : d.showable = true
  dict : d.hasDict = false
  dep : d.depth ≤ dp
  wt : d.weight ≤ wt
theorem Sm.len {wt dp : Nat} {d : PyData} (h : Sm wt dp d) : d.shown.length ≤ 15 * wt + 13 := by
  have h1 := PyData.shown_le 13 (by decide) d (PyData.leavesShort_of_canLay0 13 d h.can h.short)
  have h2 : (13 + 2) * d.weight ≤ 15 * wt := Nat.mul_le_mul_left 15 h.wt
  omega
theorem sm_none : Sm 0 0 .none := ⟨rfl, rfl, rfl, rfl, Nat.le_refl _, Nat.le_refl _⟩
theorem sm_int {i : Int} (h1 : -1000000 ≤ i) (h2 : i ≤ 1000000) : Sm 21 0 (.int i) := by
  have hb : i.natAbs < 2 ^ 20 := by omega
  have hl : i.natAbs.log2 < 20 := PySem.Flt.log2_lt_of (by decide) hb
  refine ⟨rfl, ?_, decide_eq_true (by omega), rfl, Nat.le_refl _, ?_⟩
  · refine PyProof.Rows.intsShort_of_noneOrIn (lo := -1000001) (hi := 1000001) (by decide) (by decide) (.int i) ?_
    show (decide (-1000001 < i) && decide (i < 1000001)) = true
    rw [decide_eq_true (by omega : -1000001 < i), decide_eq_true (by omega : i < 1000001)]
    rfl
  · show (if i == 0 then 0 else i.natAbs.log2 + 1) ≤ 21
    split <;> omega
theorem sm_all {wt dp : Nat} : ∀ {ds : List PyData}, (∀ d ∈ ds, Sm wt dp d) → PyData.canLayAll0 ds = true ∧ PyData.intsShortAll 13 ds = true ∧ PyData.showableAll ds = true ∧ PyData.hasDictAll ds = false ∧ PyData.depthAll ds ≤ dp ∧ PyData.weightAll ds ≤ (wt + 1) * ds.length
  | [], _ => ⟨rfl, rfl, rfl, rfl, Nat.zero_le _, Nat.zero_le _⟩
  | d :: ds, h => by
    have hd := h d (List.mem_cons_self ..)
    obtain ⟨a1, a2, a3, a4, a5, a6⟩ := sm_all (ds := ds) fun x hx => h x (List.mem_cons_of_mem _ hx)
    refine ⟨?_, ?_, ?_, ?_, ?_, ?_⟩
    · show (PyData.canLay0 d && PyData.canLayAll0 ds) = true
      rw [hd.can, a1]
      rfl
    · show (PyData.intsShort 13 d && PyData.intsShortAll 13 ds) = true
      rw [hd.short, a2]
      rfl
    · show (PyData.showable d && PyData.showableAll ds) = true
      rw [hd.show_, a3]
      rfl
    · show (PyData.hasDict d || PyData.hasDictAll ds) = false
      rw [hd.dict, a4]
      rfl
    · show max (PyData.depth d) (PyData.depthAll ds) ≤ dp
      exact Nat.max_le.mpr ⟨hd.dep, a5⟩
    · show PyData.weight d + 1 + PyData.weightAll ds ≤ _
      have := hd.wt
      rw [List.length_cons, Nat.mul_succ]
      omega
theorem sm_list {wt dp : Nat} {ds : List PyData} (h : ∀ d ∈ ds, Sm wt dp d) : Sm ((wt + 1) * ds.length) (dp + 1) (.list ds) := by
  obtain ⟨a1, a2, a3, a4, a5, a6⟩ := sm_all h
  exact ⟨a1, a2, a3, a4, Nat.succ_le_succ a5, a6⟩
theorem sm_tup {wt dp : Nat} {ds : List PyData} (h : ∀ d ∈ ds, Sm wt dp d) : Sm ((wt + 1) * ds.length) (dp + 1) (.tuple ds) := by
  obtain ⟨a1, a2, a3, a4, a5, a6⟩ := sm_all h
  exact ⟨a1, a2, a3, a4, Nat.succ_le_succ a5, a6⟩
theorem Sm.mono {wt dp wt' dp' : Nat} {d : PyData} (h : Sm wt dp d) (h1 : wt ≤ wt') (h2 : dp ≤ dp') : Sm wt' dp' d := ⟨h.can, h.short, h.show_, h.dict, Nat.le_trans h.dep h2, Nat.le_trans h.wt h1⟩
/-! ### a job as data -/
def oD : Option Int → PyData
  | none => .none
  | some i => .int i
def zD (z : Addr × Nat × Nat) : PyData := .tuple [.int (z.2.1 : Int), .int (z.2.2 : Int)]
def jobD (fs : List Int) (ds : List (Option Int)) (zs : List (Addr × Nat × Nat)) (rs : List Int) : PyData := .tuple [.list (fs.map .int), .list (ds.map oD), .list (zs.map zD), .list (rs.map .int)]
theorem dpAll_iV {K : PySem.W.Frag} {H : Hp} : ∀ is : List Int, DpAll K H (iV is) (is.map .int)
  | [] => .nil
  | i :: r => .cons (.int i) (dpAll_iV r)
theorem dpAll_oV {K : PySem.W.Frag} {H : Hp} : ∀ is : List (Option Int), DpAll K H (oV is) (is.map oD)
  | [] => .nil
  | none :: r => .cons .non (dpAll_oV r)
  | some i :: r => .cons (.int i) (dpAll_oV r)
theorem dpAll_zs {K : PySem.W.Frag} {H : Hp} : ∀ {zs : List (Addr × Nat × Nat)}, (∀ z ∈ zs, H z.1 = some (.tup [.int (z.2.1 : Int), .int (z.2.2 : Int)])) → DpAll K H (zs.map fun z => V.ref z.1) (zs.map zD)
  | [], _ => .nil
  | z :: r, h => .cons (.tup (SqT.of (h z (List.mem_cons_self ..))) (.cons (.int _) (.cons (.int _) .nil))) (dpAll_zs fun y hy => h y (List.mem_cons_of_mem _ hy))
theorem JobAt.dp {K : PySem.W.Frag} {H : Hp} {J f d n r : Addr} {fs : List Int} {ds : List (Option Int)} {zs : List (Addr × Nat × Nat)} {rs : List Int} (j : JobAt H J f d n r fs ds zs rs) : Dp K H (.ref J) (jobD fs ds zs rs) :=
  .tup (SqT.of j.top) (.cons (.lst (SqL.of j.fr) (dpAll_iV fs)) (.cons (.lst (SqL.of j.du) (dpAll_oV ds)) (.cons (.lst (SqL.of j.ne.1) (dpAll_zs j.ne.2)) (.cons (.lst (SqL.of j.ro) (dpAll_iV rs)) .nil))))
theorem Valid.sm {fs : List Int} {ds : List (Option Int)} {zs : List (Addr × Nat × Nat)} {rs : List Int} (v : Valid fs ds zs rs) : Sm 30000 3 (jobD fs ds zs rs) := by
  have hl := v.fl
  have hf : Sm 3000 1 (.list (fs.map .int)) := (sm_list (wt := 21) (dp := 0) fun x hx => by
    obtain ⟨i, hi, rfl⟩ := List.mem_map.mp hx
    have := v.fv i hi
    exact sm_int (by omega) (by omega)).mono (by rw [List.length_map]; omega) (by omega)
  have hd : Sm 3000 1 (.list (ds.map oD)) := (sm_list (wt := 21) (dp := 0) fun x hx => by
    obtain ⟨o, ho, rfl⟩ := List.mem_map.mp hx
    cases o with
    | none => exact (show Sm 0 0 (oD none) from sm_none).mono (by omega) (by omega)
    | some i =>
      have := v.dv i ho
      show Sm 21 0 (.int i)
      exact sm_int (by omega) (by omega)).mono (by rw [List.length_map, v.dl]; omega) (by omega)
  have hz : Sm 3000 2 (.list (zs.map zD)) := (sm_list (wt := 44) (dp := 1) fun x hx => by
    obtain ⟨z, hz, rfl⟩ := List.mem_map.mp hx
    have h2 : z.2.1 < fs.length ∧ z.2.2 < fs.length := by
      obtain ⟨rk, h⟩ := v.rank
      exact ⟨(h z hz).1, (h z hz).2.1⟩
    refine (sm_tup (wt := 21) (dp := 0) (ds := [.int (z.2.1 : Int), .int (z.2.2 : Int)]) fun y hy => ?_).mono (by show 22 * 2 ≤ 44; decide) (by omega)
    rcases List.mem_cons.mp hy with e | hy
    · subst e
      exact sm_int (by omega) (by omega)
    · have e := List.mem_singleton.mp hy
      subst e
      exact sm_int (by omega) (by omega)).mono (by rw [List.length_map]; have := v.zl; omega) (by omega)
  have hr : Sm 3000 1 (.list (rs.map .int)) := (sm_list (wt := 21) (dp := 0) fun x hx => by
    obtain ⟨i, hi, rfl⟩ := List.mem_map.mp hx
    have := v.ro.val i hi
    exact sm_int (by omega) (by omega)).mono (by rw [List.length_map]; have := v.ro.len; omega) (by omega)
  refine (sm_tup (wt := 3000) (dp := 2) (ds := [.list (fs.map .int), .list (ds.map oD), .list (zs.map zD), .list (rs.map .int)]) fun y hy => ?_).mono (by show 3001 * 4 ≤ 30000; decide) (by omega)
  rcases List.mem_cons.mp hy with e | hy
  · subst e
    exact hf.mono (by omega) (by omega)
  rcases List.mem_cons.mp hy with e | hy
  · subst e
    exact hd.mono (by omega) (by omega)
  rcases List.mem_cons.mp hy with e | hy
  · subst e
    exact hz.mono (by omega) (by omega)
  · have e := List.mem_singleton.mp hy
    subst e
    exact hr.mono (by omega) (by omega)

/-- the same of a def that wants the guards -/
def OkG (P : Program) (w : World) (K : PySem.W.Frag) (mg : Str → Option Value) (base : Heap) (CX : CXT) (D : He.DefD) (x : Str) (k : Nat) (ps : List Str) (sp : Sp) : Prop :=
  ∃ fd : FuncData, FunD K D.name D.qual D.params D.body D.scope (D.dvs K) (D.kws K) (He.fAd K D.at_) fd ∧ mg x = some (.ref (He.ga K x)) ∧ PySem.W.keepIn K (.ref (He.ga K x)) = true ∧ Binds K fd ps [] ∧ FnG P w K mg base CX k (He.ga K x) fd ps sp
/-! ### keywords -/
theorem vals_getD {zs : List V} {ws : List Value} (r : Vals zs ws) (i : Nat) : RelV (zs.getD i .non) (ws.getD i .none) := by
  rw [List.getD_eq_getElem?_getD, List.getD_eq_getElem?_getD]
  cases e : zs[i]? with
  | none =>
    rw [Vals.none_of r e]
    rfl
  | some v =>
    obtain ⟨u, e2, h⟩ := r.get e
    rw [e2]
    exact h
theorem vals_perm {zs : List V} {ws : List Value} (r : Vals zs ws) : ∀ perm : List Nat, Vals (perm.map fun i => zs.getD i .non) (perm.map fun i => ws.getD i .none)
  | [] => .nil
  | i :: p => .cons (vals_getD r i) (vals_perm r p)
/-- the first n values by position, the others by their names ks, in the order perm -/
theorem kbn_of {K : PySem.W.Frag} {x qual : Str} {params : Arguments} {body : List Stmt} {scope : Scope} {kws : List (Str × V)} {f : Addr} {fd : FuncData} (F : FunD K x qual params body scope [] kws f fd) (ps : List Str) (n : Nat) (ks : List Str) (perm : List Nat)
    (h : ∀ (kV doc pm : Value) (an : Option Addr) (cdv ct : Value) (us ws : List Value), us.length = n → ws.length = ks.length →
      bindArgs (PySem.W.fnOf x qual params body scope .none kV doc pm an cdv ct) ⟨us, ks.zip ws⟩ = pure (ps.zip (us ++ perm.map fun i => ws.getD i .none))) :
    KBn K fd ps n ks (fun us ws => us ++ perm.map fun i => ws.getD i .none) (fun vs zs => vs ++ perm.map fun i => zs.getD i .non) := by
  obtain ⟨oc, od, dV, kV, doc, pm, an, cdv, ct, osl, rfl, lk, hcd, hD, hK⟩ := F.ex
  rcases hD with ⟨_, rfl⟩ | ⟨e, _⟩
  · exact ⟨fun s us ws X h1 h2 => .of_eq (h kV doc pm an cdv ct us ws h1 h2), fun r1 r2 => r1.append (vals_perm r2 perm)⟩
  · exact absurd rfl e

theorem nD_all {K : PySem.W.Frag} {H : Hp} : ∀ is : List Nat, DpAll K H (nV is) (is.map fun (t : Nat) => PyData.int (t : Int))
  | [] => .nil
  | i :: r => .cons (.int _) (nD_all r)
theorem bD_all {K : PySem.W.Frag} {H : Hp} : ∀ is : List Bool, DpAll K H (is.map V.bl) (is.map PyData.bool)
  | [] => .nil
  | i :: r => .cons (.bl _) (bD_all r)
theorem can_all {α : Type} (f : α → PyData) (h : ∀ x, (f x).canLay0 = true ∧ (f x).depth = 0) : ∀ is : List α, SeqAt.shaped (.list (is.map f)) = true := by
  intro is
  have h1 : PyData.canLayAll0 (is.map f) = true ∧ PyData.depthAll (is.map f) = 0 := by
    induction is with
    | nil => exact ⟨rfl, rfl⟩
    | cons x r ih =>
      refine ⟨?_, ?_⟩
      · show (PyData.canLay0 (f x) && PyData.canLayAll0 (r.map f)) = true
        rw [(h x).1, ih.1]
        rfl
      · show max (PyData.depth (f x)) (PyData.depthAll (r.map f)) = 0
        rw [(h x).2, ih.2]
        rfl
  show (PyData.canLayAll0 (is.map f) && decide (PyData.depthAll (is.map f) + 1 ≤ 64)) = true
  rw [h1.1, h1.2]
  rfl
theorem eqv_nil (f : Nat → PyData) (is : List Nat) : PyData.eqv (.list (is.map f)) (.list []) = is.isEmpty := by
  cases is <;> rfl
theorem bl_app (bs : List Bool) (b : Bool) : bs.map V.bl ++ [V.bl b] = (bs ++ [b]).map V.bl := by
  rw [List.map_append]
  rfl
theorem range_map_snoc {α : Type} (f : Nat → α) (i : Nat) : (List.range (i + 1)).map f = (List.range i).map f ++ [f i] := by
  rw [List.range_succ, List.map_append]
  rfl

theorem list_bool_nil {α : Type} {p : α → Bool} {l : List α} : l.filter p = [] ↔ ∀ x ∈ l, p x = false := by
  rw [List.filter_eq_nil_iff]
  constructor
  · intro h x hx
    cases e : p x with
    | false => rfl
    | true => exact absurd e (h x hx)
  · intro h x hx e
    rw [h x hx] at e
    cases e
theorem getD_of {α : Type} {l : List α} {i : Nat} {x d : α} (h : l[i]? = some x) : l.getD i d = x := by
  rw [List.getD_eq_getElem?_getD, h]
  rfl
theorem le_snoc {p : Nat → Bool} {i : Nat} (h : ∀ s < i, p s = false) (hi : p i = false) : ∀ s < i + 1, p s = false := fun s hs => by
  by_cases e : s = i
  · rw [e]
    exact hi
  · exact h s (by omega)
theorem take_snoc_all {α : Type} {p : α → Bool} {l : List α} {i : Nat} {x : α} (hx : l[i]? = some x) (h : ∀ y ∈ l.take i, p y = false) (hi : p x = false) : ∀ y ∈ l.take (i + 1), p y = false := fun y hy => by
  rw [List.take_add_one, hx] at hy
  rcases List.mem_append.mp hy with hy | hy
  · exact h y hy
  · rw [show y = x by simpa using hy]
    exact hi
theorem iV_inj {a b : List Int} (h : iV a = iV b) : a = b := by
  induction a generalizing b with
  | nil =>
    cases b with
    | nil => rfl
    | cons y r => cases h
  | cons x r ih =>
    cases b with
    | nil => cases h
    | cons y t =>
      have h1 := List.cons.inj h
      rw [V.int.inj h1.1, ih h1.2]
theorem filter_snoc {α : Type} (p : α → Bool) {l : List α} {i : Nat} {x : α} (hx : l[i]? = some x) : (l.take (i + 1)).filter p = if p x = true then (l.take i).filter p ++ [x] else (l.take i).filter p := by
  rw [List.take_add_one, hx, List.filter_append]
  cases e : p x with
  | true =>
    rw [if_pos rfl]
    show _ ++ List.filter p [x] = _
    rw [List.filter_cons_of_pos e]
    rfl
  | false =>
    rw [if_neg Bool.false_ne_true]
    show _ ++ List.filter p [x] = _
    rw [List.filter_cons_of_neg (by rw [e]; exact Bool.false_ne_true)]
    show _ ++ [] = _
    rw [List.append_nil]
theorem eqv_list_nil (xs : List PyData) : PyData.eqv (.list xs) (.list []) = xs.isEmpty := by
  cases xs <;> rfl
theorem shaped_map {α : Type} (f : α → PyData) (h : ∀ x, (f x).canLay0 = true ∧ (f x).depth ≤ 10) (is : List α) : SeqAt.shaped (.list (is.map f)) = true := by
  have h1 : PyData.canLayAll0 (is.map f) = true ∧ PyData.depthAll (is.map f) ≤ 10 := by
    induction is with
    | nil => exact ⟨rfl, Nat.zero_le _⟩
    | cons x r ih =>
      refine ⟨?_, ?_⟩
      · show (PyData.canLay0 (f x) && PyData.canLayAll0 (r.map f)) = true
        rw [(h x).1, ih.1]
        rfl
      · show max (PyData.depth (f x)) (PyData.depthAll (r.map f)) ≤ 10
        exact Nat.max_le.mpr ⟨(h x).2, ih.2⟩
  show (PyData.canLayAll0 (is.map f) && decide (PyData.depthAll (is.map f) + 1 ≤ 64)) = true
  rw [h1.1, decide_eq_true (by omega)]
  rfl
theorem isEmpty_filter {α β : Type} (f : α → β) (p : α → Bool) (l : List α) : ((l.filter p).map f).isEmpty = true ↔ ∀ x ∈ l, p x = false := by
  rw [List.isEmpty_iff, List.map_eq_nil_iff]
  exact list_bool_nil
/-- all([f x ..]) by a bound list -/
theorem all_snoc {α : Type} (f : α → Bool) (xs : List α) (i : Nat) (x : α) (h : xs[i]? = some x) : (xs.take (i + 1)).map f = (xs.take i).map f ++ [f x] := by
  rw [List.take_add_one, h, List.map_append]
  rfl

section
variable {P : Program} {w : World} {K : PySem.W.Frag} {mg : Str → Option Value} {base : Heap}

/-! ### things: data of any kind, all of it in the heap -/
mutual
inductive Da (H : Hp) : V → PyData → Prop where
  | non : Da H .non .none
  | bl (b : Bool) : Da H (.bl b) (.bool b)
  | int (i : Int) : Da H (.int i) (.int i)
  | str (x : Str) : Da H (.str x) (.str x)
  | lst {a : Addr} {xs : List V} {ds : List PyData} : H a = some (.lst xs) → DaAll H xs ds → Da H (.ref a) (.list ds)
  | tup {a : Addr} {xs : List V} {ds : List PyData} : H a = some (.tup xs) → DaAll H xs ds → Da H (.ref a) (.tuple ds)
inductive DaAll (H : Hp) : List V → List PyData → Prop where
  | nil : DaAll H [] []
  | cons {v : V} {vs : List V} {d : PyData} {ds : List PyData} : Da H v d → DaAll H vs ds → DaAll H (v :: vs) (d :: ds)
end
section
variable {H H' : Hp}
mutual
theorem Da.same (s : Same H H') : ∀ {v : V} {d : PyData}, Da H v d → Da H' v d
  | _, _, .non => .non
  | _, _, .bl b => .bl b
  | _, _, .int i => .int i
  | _, _, .str x => .str x
  | _, _, .lst e r => .lst (s _ _ e) (DaAll.same s r)
  | _, _, .tup e r => .tup (s _ _ e) (DaAll.same s r)
theorem DaAll.same (s : Same H H') : ∀ {vs : List V} {ds : List PyData}, DaAll H vs ds → DaAll H' vs ds
  | _, _, .nil => .nil
  | _, _, .cons x r => .cons (Da.same s x) (DaAll.same s r)
end
mutual
theorem Da.dp {K : PySem.W.Frag} : ∀ {v : V} {d : PyData}, Da H v d → Dp K H v d
  | _, _, .non => .non
  | _, _, .bl b => .bl b
  | _, _, .int i => .int i
  | _, _, .str x => .str x
  | _, _, .lst e r => .lst (SqL.of e) (DaAll.dp r)
  | _, _, .tup e r => .tup (SqT.of e) (DaAll.dp r)
theorem DaAll.dp {K : PySem.W.Frag} : ∀ {vs : List V} {ds : List PyData}, DaAll H vs ds → DpAll K H vs ds
  | _, _, .nil => .nil
  | _, _, .cons x r => .cons (Da.dp x) (DaAll.dp r)
end
theorem DaAll.len : ∀ {vs : List V} {ds : List PyData}, DaAll H vs ds → vs.length = ds.length
  | _, _, .nil => rfl
  | _, _, .cons _ r => congrArg (· + 1) (DaAll.len r)
theorem DaAll.get : ∀ {vs : List V} {ds : List PyData}, DaAll H vs ds → ∀ {i : Nat} {v : V}, vs[i]? = some v → ∃ d, ds[i]? = some d ∧ Da H v d
  | _, _, .nil, i, v, h => by cases h
  | _, _, .cons x _, 0, v, h => by
    cases h
    exact ⟨_, rfl, x⟩
  | _, _, .cons _ r, i + 1, v, h => DaAll.get r h
theorem DaAll.at_ : ∀ {vs : List V} {ds : List PyData}, DaAll H vs ds → ∀ {i : Nat} {d : PyData}, ds[i]? = some d → ∃ v, vs[i]? = some v ∧ Da H v d
  | _, _, .nil, i, v, h => by cases h
  | _, _, .cons x _, 0, v, h => by
    cases h
    exact ⟨_, rfl, x⟩
  | _, _, .cons _ r, i + 1, v, h => DaAll.at_ r h
end
/-- what type names it -/
def tyD : PyData → String
  | .none => "NoneType"
  | .bool _ => "bool"
  | .int _ => "int"
  | .str _ => "str"
  | .list _ => "list"
  | .tuple _ => "tuple"
  | .dict _ => "dict"
theorem Da.kd {H : Hp} {v : V} {d : PyData} (h : Da H v d) : Kd H v (tyD d) := by
  cases h with
  | non => exact .non
  | bl b => exact .bl b
  | int i => exact .int i
  | str x => exact .str x
  | lst e _ => exact .lst e
  | tup e _ => exact .tup e
def wfD (m : Int) : PyData → Bool
  | .int i => decide (m ≤ i)
  | _ => false
def dueD : PyData → Bool
  | .none => true
  | .int i => decide (0 ≤ i)
  | _ => false
def roomD : PyData → Bool
  | .int i => decide (0 ≤ i) && decide (i ≤ 3)
  | _ => false
def taskD (n : Int) : PyData → Bool
  | .int i => decide (0 ≤ i) && decide (i < n)
  | _ => false
section
variable {H : Hp} {v : V} {d : PyData}
theorem Da.wf (h : Da H v d) (m : Int) : isWF m v = wfD m d := by cases h <;> rfl
theorem Da.due (h : Da H v d) : isDue v = dueD d := by cases h <;> rfl
theorem Da.room (h : Da H v d) : isRoom v = roomD d := by cases h <;> rfl
theorem Da.task (h : Da H v d) (n : Int) : isTask n v = taskD n d := by cases h <;> rfl
end
def neD : PyData → PyData → Bool
  | .int a, .int b => !decide (a = b)
  | _, _ => false
def needD (n : Int) : PyData → Bool
  | .tuple [x, y] => taskD n x && (taskD n y && neD x y)
  | _ => false
theorem taskD_int {n : Int} {d : PyData} (h : taskD n d = true) : ∃ t : Nat, d = .int (t : Int) ∧ (t : Int) < n := by
  cases d with
  | int i =>
    have h2 : (decide (0 ≤ i) && decide (i < n)) = true := h
    rw [Bool.and_eq_true, decide_eq_true_iff, decide_eq_true_iff] at h2
    exact ⟨i.toNat, by rw [Int.toNat_of_nonneg h2.1], by omega⟩
  | _ => cases h
/-- isinstance of a thing -/
theorem isiD {K : PySem.W.Frag} {H : Hp} {v : V} {d : PyData} {c : String} {b : Bool} {Q : VK} (h : Da H v d) (e : kitB (tyD d) c = some b) (q : Q (.bl b) H) : rIsi K [v, .ty c] H Q := rIsi_of h.kd e q
def isTupD : PyData → Bool
  | .tuple _ => true
  | _ => false
def isLstD : PyData → Bool
  | .list _ => true
  | _ => false
theorem kit_tup : ∀ d : PyData, (∀ x, d ≠ .dict x) → kitB (tyD d) "tuple" = some (isTupD d)
  | .none, _ => by decide +kernel
  | .bool _, _ => by show kitB "bool" "tuple" = some false; decide +kernel
  | .int _, _ => by show kitB "int" "tuple" = some false; decide +kernel
  | .str _, _ => by show kitB "str" "tuple" = some false; decide +kernel
  | .list _, _ => by show kitB "list" "tuple" = some false; decide +kernel
  | .tuple _, _ => by show kitB "tuple" "tuple" = some true; decide +kernel
  | .dict x, h => absurd rfl (h x)
theorem kit_lst : ∀ d : PyData, (∀ x, d ≠ .dict x) → kitB (tyD d) "list" = some (isLstD d)
  | .none, _ => by decide +kernel
  | .bool _, _ => by show kitB "bool" "list" = some false; decide +kernel
  | .int _, _ => by show kitB "int" "list" = some false; decide +kernel
  | .str _, _ => by show kitB "str" "list" = some false; decide +kernel
  | .list _, _ => by show kitB "list" "list" = some true; decide +kernel
  | .tuple _, _ => by show kitB "tuple" "list" = some false; decide +kernel
  | .dict x, h => absurd rfl (h x)
theorem Da.nodict {H : Hp} {v : V} {d : PyData} (h : Da H v d) : ∀ x, d ≠ .dict x := fun x e => by
  subst e
  cases h
theorem Da.isTup {K : PySem.W.Frag} {H : Hp} {v : V} {d : PyData} {Q : VK} (h : Da H v d) (q : Q (.bl (isTupD d)) H) : rIsi K [v, .ty "tuple"] H Q := isiD h (kit_tup d h.nodict) q
theorem Da.isLst {K : PySem.W.Frag} {H : Hp} {v : V} {d : PyData} {Q : VK} (h : Da H v d) (q : Q (.bl (isLstD d)) H) : rIsi K [v, .ty "list"] H Q := isiD h (kit_lst d h.nodict) q
theorem Da.tupOf {H : Hp} {v : V} {d : PyData} (h : Da H v d) (e : isTupD d = true) : ∃ a xs ds, v = .ref a ∧ d = .tuple ds ∧ H a = some (.tup xs) ∧ DaAll H xs ds := by
  cases h with
  | tup e1 r => exact ⟨_, _, _, rfl, rfl, e1, r⟩
  | _ => cases e
theorem Da.lstOf {H : Hp} {v : V} {d : PyData} (h : Da H v d) (e : isLstD d = true) : ∃ a xs ds, v = .ref a ∧ d = .list ds ∧ H a = some (.lst xs) ∧ DaAll H xs ds := by
  cases h with
  | lst e1 r => exact ⟨_, _, _, rfl, rfl, e1, r⟩
  | _ => cases e
/-! numbers of a pair -/
def prD (z : Nat × Nat) : PyData := .tuple [.int (z.1 : Int), .int (z.2 : Int)]
theorem needD_pr {n : Int} {d : PyData} (h : needD n d = true) : ∃ z : Nat × Nat, d = prD z ∧ (z.1 : Int) < n ∧ (z.2 : Int) < n ∧ z.1 ≠ z.2 := by
  cases d with
  | tuple xs =>
    match xs, h with
    | [x, y], h =>
      have h2 : (taskD n x && (taskD n y && neD x y)) = true := h
      rw [Bool.and_eq_true, Bool.and_eq_true] at h2
      obtain ⟨a, rfl, ha⟩ := taskD_int h2.1
      obtain ⟨b, rfl, hb⟩ := taskD_int h2.2.1
      have h3 : (!decide ((a : Int) = (b : Int))) = true := h2.2.2
      refine ⟨(a, b), rfl, ha, hb, fun e => ?_⟩
      have e2 : a = b := e
      rw [e2, decide_eq_true rfl] at h3
      cases h3
    | [], h => cases h
    | [x], h => cases h
    | x :: y :: w :: r, h => cases h
  | _ => cases h
theorem needD_of {n : Int} {z : Nat × Nat} (h1 : (z.1 : Int) < n) (h2 : (z.2 : Int) < n) (h3 : z.1 ≠ z.2) : needD n (prD z) = true := by
  show ((decide ((0 : Int) ≤ (z.1 : Int)) && decide ((z.1 : Int) < n)) && ((decide ((0 : Int) ≤ (z.2 : Int)) && decide ((z.2 : Int) < n)) && !decide ((z.1 : Int) = (z.2 : Int)))) = true
  rw [decide_eq_true (by omega : (0 : Int) ≤ (z.1 : Int)), decide_eq_true h1, decide_eq_true (by omega : (0 : Int) ≤ (z.2 : Int)), decide_eq_true h2, decide_eq_false (show ¬ ((z.1 : Int) = (z.2 : Int)) from fun e => h3 (Int.ofNat.inj e))]
  rfl
theorem needD_len {n : Int} {ds : List PyData} (h : ds.length ≠ 2) : needD n (.tuple ds) = false := by
  match ds, h with
  | [], _ => rfl
  | [x], _ => rfl
  | [x, y], h => exact absurd rfl h
  | x :: y :: w :: r, _ => rfl
def spNeedG : Sp := fun vs H Q _ => ∃ (n : Int) (v : V) (d : PyData), vs = [.int n, v] ∧ Da H v d ∧ Q (.bl (needD n d)) H
theorem ok_is_need (T : Env K mg) : Ok P w K mg base CX0 dd_is_need "is_need" 4 ["many", "thing"] spNeedG := by
  obtain ⟨fd_is_task, D_is_task, g_is_task, k_is_task, b_is_task, G_is_task⟩ := ok_is_task (P := P) (w := w) (base := base) T
  obtain ⟨fd, F⟩ := T.c.def_ 7 (d := dd_is_need) rfl
  refine ⟨fd, F, T.gl 7 _ rfl, F.kp, F.bindsN fun _ _ _ _ _ _ us hl => match us, hl with | [_, _], _ => rfl, ?_⟩
  refine F.ok sc_is_need (fun vs H Q E h => ?_) (fun cdv A outer s H vs Q E hr h => ?_)
  · obtain ⟨n, v, d, rfl, hd, q⟩ := h
    rfl
  · obtain ⟨n, v, d, rfl, hd, q⟩ := h
    refine ⟨_, PSs.nox (pss_cons (ps_if (PW.pt (pw_or (pt_not (pt_val (pe_callB call_isi (by rfl) (T.fr 29 _ rfl) (by decide +kernel) (pa_cons (pv 1) (pa_cons (pe_bltn (v := .ty "tuple") (by rfl) (T.fr 34 _ rfl) (by decide +kernel) rfl) pa_nil))))) (pw_or1 (pt_cmpR op_ne (pe_callB call_len_seq (by rfl) (T.fr 33 _ rfl) (by decide +kernel) (pa_cons (pv 1) pa_nil)) pe_int (nomark _))))) (pss_one (ps_ret pe_bl)) pss_nil)
      (pss_cons (ps_asg (pv 1) (pg_tup rfl (pgs_cons (pg_name (i := 2) sc_is_need.nd rfl (Or.inl rfl)) (pgs_cons (pg_name (i := 3) sc_is_need.nd rfl (Or.inl rfl)) pgs_nil))))
      (pss_one (ps_ret (pe_and (pe_call G_is_task (hr.mono (by decide)) (by rfl) g_is_task k_is_task b_is_task .nil pass0 (pa_cons (pv 0) (pa_cons (pv 2) pa_nil))) (pe_and (pe_call G_is_task (hr.mono (by decide)) (by rfl) g_is_task k_is_task b_is_task .nil pass0 (pa_cons (pv 0) (pa_cons (pv 3) pa_nil))) (pe_one (pe_cmpR op_ne (pv 2) (pv 3) (nomark _))))))))), ?_⟩
    walk_at "u"
    refine ⟨_, rfl, hd.isTup ⟨_, rfl, ?_⟩⟩
    cases ed : isTupD d with
    | false =>
      have e2 : needD n d = false := by
        cases d with
        | tuple xs => cases ed
        | _ => rfl
      rw [e2] at q
      exact iteT (iteT q)
    | true =>
      obtain ⟨a, xs, ds, rfl, rfl, ha, hds⟩ := hd.tupOf ed
      refine iteF ⟨_, rfl, a, _, rfl, .inr (SqT.of ha), rfl, _, rfl, ?_⟩
      by_cases hl : xs.length = 2
      · rw [hl]
        refine iteF ?_
        match xs, ds, hds, hl with
        | [x, y], [dx, dy], .cons hx (.cons hy .nil), _ =>
          refine ⟨_, rfl, a, _, rfl, SqT.of ha, rfl, _, _, rfl, _, _, rfl, rfl, ?_⟩
          refine ⟨_, rfl, _, rfl, n, x, _, rfl, hx.kd, _, rfl, ?_⟩
          rw [hx.task]
          refine ifB (fun c => ?_) (fun c => ?_)
          · refine ⟨_, rfl, _, rfl, n, y, _, rfl, hy.kd, _, rfl, ?_⟩
            rw [hy.task]
            refine ifB (fun c2 => ?_) (fun c2 => ?_)
            · obtain ⟨t1, rfl, _⟩ := taskD_int c
              obtain ⟨t2, rfl, _⟩ := taskD_int c2
              cases hx
              cases hy
              have e3 : needD n (.tuple [.int (t1 : Int), .int (t2 : Int)]) = !decide (V.int (t1 : Int) = V.int (t2 : Int)) := by
                show (taskD n (.int (t1 : Int)) && (taskD n (.int (t2 : Int)) && !decide ((t1 : Int) = (t2 : Int)))) = _
                rw [c, c2, Bool.true_and, Bool.true_and]
                by_cases h : (t1 : Int) = (t2 : Int)
                · rw [decide_eq_true h, decide_eq_true (by rw [h])]
                · rw [decide_eq_false h, decide_eq_false (fun z => h (V.int.inj z))]
              rw [e3] at q
              exact ⟨_, rfl, _, rfl, rfl, q⟩
            · have e3 : needD n (.tuple [dx, dy]) = false := by
                show (taskD n dx && (taskD n dy && neD dx dy)) = false
                rw [c2, Bool.false_and, Bool.and_false]
              rw [e3] at q
              exact q
          · have e3 : needD n (.tuple [dx, dy]) = false := by
              show (taskD n dx && (taskD n dy && neD dx dy)) = false
              rw [c, Bool.false_and]
            rw [e3] at q
            exact q
      · rw [needD_len (by rw [← hds.len]; exact hl)] at q
        rw [decide_eq_false (fun e => hl (by have := V.int.inj e; omega))]
        exact iteT q
def Acyc2 (zs : List (Nat × Nat)) : Prop := ∃ rk : Nat → Nat, ∀ z ∈ zs, rk z.1 < rk z.2
/-- a list of things that are needs of n tasks, each once, without a ring -/
def NeedsD (n : Nat) (ds : List PyData) : Prop := ∃ zs : List (Nat × Nat), ds = zs.map prD ∧ (∀ z ∈ zs, z.1 < n ∧ z.2 < n) ∧ zs.Nodup ∧ Acyc2 zs
theorem prD_inj {a b : Nat × Nat} (h : prD a = prD b) : a = b := by
  have h2 : [PyData.int (a.1 : Int), PyData.int (a.2 : Int)] = [PyData.int (b.1 : Int), PyData.int (b.2 : Int)] := PyData.tuple.inj h
  have h3 := List.cons.inj h2
  have h4 := List.cons.inj h3.2
  exact Prod.ext (Int.ofNat.inj (PyData.int.inj h3.1)) (Int.ofNat.inj (PyData.int.inj h4.1))
theorem map_prD_inj : ∀ {a b : List (Nat × Nat)}, a.map prD = b.map prD → a = b
  | [], [], _ => rfl
  | [], _ :: _, h => by cases h
  | _ :: _, [], h => by cases h
  | x :: a, y :: b, h => by
    have h2 := List.cons.inj h
    rw [prD_inj h2.1, map_prD_inj h2.2]
theorem NeedsD.all {n : Nat} {ds : List PyData} (h : NeedsD n ds) : ds.all (needD (n : Int)) = true := by
  obtain ⟨zs, rfl, hz, _, rk, hrk⟩ := h
  rw [List.all_eq_true]
  intro x hx
  obtain ⟨z, hzm, rfl⟩ := List.mem_map.mp hx
  have := hz z hzm
  exact needD_of (by omega) (by omega) fun e => by
    have h2 := hrk z hzm
    rw [e] at h2
    omega
theorem needs_of {H : Hp} {n : Nat} : ∀ {xs : List V} {ds : List PyData}, DaAll H xs ds → ds.all (needD (n : Int)) = true →
    ∃ zs : List (Addr × Nat × Nat), xs = zs.map (fun z => V.ref z.1) ∧ ds = zs.map (fun z => prD z.2) ∧ ∀ z ∈ zs, H z.1 = some (.tup [.int (z.2.1 : Int), .int (z.2.2 : Int)]) ∧ z.2.1 < n ∧ z.2.2 < n
  | _, _, .nil, _ => ⟨[], rfl, rfl, fun _ h => nomatch h⟩
  | _, _, .cons (d := d) hx hr, h => by
    rw [List.all_cons, Bool.and_eq_true] at h
    obtain ⟨zs, e1, e2, hz⟩ := needs_of hr h.2
    obtain ⟨z, rfl, ha, hb, hne⟩ := needD_pr h.1
    cases hx with
    | tup e r =>
      rename_i a ys
      cases r with
      | cons r1 r2 =>
        cases r2 with
        | cons r2 r3 =>
          cases r3
          cases r1
          cases r2
          refine ⟨(a, z) :: zs, by rw [e1]; rfl, by rw [e2]; rfl, fun y hy => ?_⟩
          rcases List.mem_cons.mp hy with q | hy
          · rw [q]
            exact ⟨e, (show z.1 < n by omega), (show z.2 < n by omega)⟩
          · exact hz y hy
theorem sub_len {α : Type} [DecidableEq α] : ∀ (l m : List α), l.Nodup → (∀ x ∈ l, x ∈ m) → l.length ≤ m.length
  | [], _, _, _ => Nat.zero_le _
  | x :: l, m, hn, h => by
    obtain ⟨h1, h2⟩ := List.nodup_cons.mp hn
    have hx := h x List.mem_cons_self
    have := sub_len l (m.erase x) h2 fun y hy => (List.mem_erase_of_ne fun e => h1 (by rw [← e]; exact hy)).mpr (h y (List.mem_cons_of_mem _ hy))
    rw [List.length_erase_of_mem hx] at this
    have := List.length_pos_of_mem hx
    rw [List.length_cons]
    omega
theorem nodup_of_len {α : Type} [DecidableEq α] : ∀ (m l : List α), l.Nodup → (∀ x ∈ l, x ∈ m) → (∀ x ∈ m, x ∈ l) → l.length = m.length → m.Nodup
  | [], _, _, _, _, _ => List.nodup_nil
  | x :: r, l, hn, h1, h2, hl => by
    by_cases hx : x ∈ r
    · have := sub_len l r hn fun y hy => by
        rcases List.mem_cons.mp (h1 y hy) with e | hy
        · rw [e]
          exact hx
        · exact hy
      rw [List.length_cons] at hl
      omega
    · refine List.nodup_cons.mpr ⟨hx, nodup_of_len r (l.erase x) (hn.erase x) (fun y hy => ?_) (fun y hy => ?_) ?_⟩
      · obtain ⟨e1, e2⟩ := hn.mem_erase_iff.mp hy
        exact (List.mem_cons.mp (h1 y e2)).resolve_left e1
      · exact hn.mem_erase_iff.mpr ⟨fun e => hx (by rw [← e]; exact hy), h2 y (List.mem_cons_of_mem _ hy)⟩
      · rw [List.length_erase_of_mem (h2 x List.mem_cons_self), hl, List.length_cons]
        omega
theorem pr2_back : ∀ {zs : List (Addr × Nat × Nat)}, (zs.map fun z => (pr2 z).2).Nodup → (zs.map (·.2)).Nodup
  | [], _ => List.nodup_nil
  | z :: r, h => by
    rw [List.map_cons] at h
    obtain ⟨h1, h2⟩ := List.nodup_cons.mp h
    rw [List.map_cons]
    refine List.nodup_cons.mpr ⟨fun hm => h1 ?_, pr2_back h2⟩
    obtain ⟨y, hy, e⟩ := List.mem_map.mp hm
    exact List.mem_map.mpr ⟨y, hy, by show [(y.2.1 : Int), (y.2.2 : Int)] = [(z.2.1 : Int), (z.2.2 : Int)]; rw [show y.2 = z.2 from e]⟩
def spAreNeedsG : Sp := fun vs H Q _ => ∃ (n : Nat) (N : Addr) (xs : List V) (ds : List PyData), vs = [.int (n : Int), .ref N] ∧ H N = some (.lst xs) ∧ DaAll H xs ds ∧ n ≤ 1000 ∧ ds.length < 64 ∧ ∀ (c : Bool) (H' : Hp), Same H H' → (c = true ↔ NeedsD n ds) → Q (.bl c) H'
theorem ok_are_needs (T : Env K mg) : Ok P w K mg base CX0 dd_are_needs "are_needs" 5 ["many", "things"] spAreNeedsG := by
  obtain ⟨fd_has_ring, D_has_ring, g_has_ring, k_has_ring, b_has_ring, G_has_ring⟩ := ok_has_ring (P := P) (w := w) (base := base) T
  obtain ⟨fd_is_need, D_is_need, g_is_need, k_is_need, b_is_need, G_is_need⟩ := ok_is_need (P := P) (w := w) (base := base) T
  obtain ⟨fd, F⟩ := T.c.def_ 8 (d := dd_are_needs) rfl
  refine ⟨fd, F, T.gl 8 _ rfl, F.kp, F.bindsN fun _ _ _ _ _ _ us hl => match us, hl with | [_, _], _ => rfl, ?_⟩
  refine F.ok sc_are_needs (fun vs H Q E h => ?_) (fun cdv A outer s H vs Q E hr h => ?_)
  · obtain ⟨n, N, xs, ds, rfl, hN, hd, hn, hl, q⟩ := h
    rfl
  · obtain ⟨n, N, xs, ds, rfl, hN, hd, hn, hl, q⟩ := h
    refine ⟨_, PSs.nox (pss_cons (ps_if (pt_not (pt_val (pe_callB (cr_all rfl) (by rfl) (T.fr 32 _ rfl) (by decide +kernel) (pa_cons (pe_lc (own := [("thing", 2)]) (g := gName 2) (tt := tYes) (by rfl) sc_are_needs.nd (pi_list (pv 1)) (blkOk_by (own := [("thing", 2)]) (N := N_are_needs) (sc := defScope s_are_needs) (by decide +kernel)) (fun _ _ _ _ _ => (pg_name (i := 2) sc_are_needs.nd rfl (by first | exact Or.inl rfl | exact Or.inr rfl))) (fun _ _ _ _ _ => pts_nil) (fun _ _ _ _ _ => (pe_call G_is_need (hr.mono (by decide)) (by rfl) g_is_need k_is_need b_is_need .nil pass0 (pa_cons (pv 0) (pa_cons (pv 2) pa_nil))))) pa_nil)))) (pss_one (ps_ret pe_bl)) pss_nil)
      (pss_one (ps_ret (pe_and (pe_cmpR op_eq (pe_callB call_len_setT (by rfl) (T.fr 33 _ rfl) (by decide +kernel) (pa_cons (pe_callTy (cr_setOfT rfl hr.units) (by rfl) (T.fr 36 _ rfl) (by decide +kernel) (pa_cons (pv 1) pa_nil)) pa_nil)) (pe_callB call_len_seq (by rfl) (T.fr 33 _ rfl) (by decide +kernel) (pa_cons (pv 1) pa_nil)) (nomark _)) (pe_one (pe_not (pe_call G_has_ring (hr.mono (by decide)) (by rfl) g_has_ring k_has_ring b_has_ring .nil pass0 (pa_cons (pv 0) (pa_cons (pv 1) pa_nil))))))))), ?_⟩
    walk_at "u"
    have hxl := hd.len
    refine ⟨_, rfl, N, rfl, ⟨_, SqL.of hN⟩, fun D nD => lc_list (K := K) (a := N) (xs := xs) (fun i H' => Same H H' ∧ H' D = some (.lst (((ds.take i).map (needD (n : Int))).map V.bl))) ⟨same_upd nD, upd_same⟩ (fun i H' _ hP => SqL.of (hP.1 _ _ hN)) (fun i v H' hv hP => ?_) (fun H' hP => ?_)⟩
    · obtain ⟨sm, hD⟩ := hP
      obtain ⟨d, hdi, hdv⟩ := hd.get hv
      have hi := (List.getElem?_eq_some_iff.mp hv).1
      refine ⟨rfl, ?_⟩
      walk_at "u"
      refine iteT ⟨_, rfl, _, rfl, (n : Int), v, d, rfl, hdv.same sm, _, hD, ?_, same_mut sm nD, ?_⟩
      · rw [List.length_map, List.length_map, List.length_take]
        exact small_lt (by omega)
      · rw [upd_same, all_snoc _ _ _ _ hdi, ← bl_app]
    obtain ⟨sm, hD⟩ := hP
    rw [hxl, List.take_length] at hD
    refine ⟨D, _, rfl, SqL.of hD, _, rfl, ?_⟩
    rw [List.all_map]
    cases hall : ds.all (id ∘ needD (n : Int)) with
    | false => exact iteT (q false H' sm ⟨fun z => Bool.noConfusion z, fun z => by rw [← hall]; exact z.all⟩)
    | true =>
      obtain ⟨zs, rfl, rfl, hz⟩ := needs_of hd hall
      rw [List.length_map] at hl
      have nd_iff : NeedsD n (zs.map fun z => prD z.2) ↔ (zs.map (·.2)).Nodup ∧ Acyc zs := by
        constructor
        · rintro ⟨zs', e, h1, h2, rk, h3⟩
          have e2 : zs.map (·.2) = zs' := map_prD_inj (by rw [← e, List.map_map]; rfl)
          subst e2
          exact ⟨h2, rk, fun z hzm => h3 z.2 (List.mem_map.mpr ⟨z, hzm, rfl⟩)⟩
        · rintro ⟨h2, rk, h3⟩
          refine ⟨zs.map (·.2), by rw [List.map_map]; rfl, fun y hy => ?_, h2, rk, fun y hy => ?_⟩
          · obtain ⟨z, hzm, rfl⟩ := List.mem_map.mp hy
            exact (hz z hzm).2
          · obtain ⟨z, hzm, rfl⟩ := List.mem_map.mp hy
            exact h3 z hzm
      have hN1 : NeedsAt H N zs := ⟨hN, fun z hzm => (hz z hzm).1⟩
      refine iteF ?_
      have hNs := hN1.same sm
      refine ⟨_, rfl, N, zs.map pr2, rfl, SqL.of ?_, fun p hp => ?_, by rw [List.length_map]; exact hl, fun a L na hL1 hL2 => ?_⟩
      · rw [List.map_map]
        exact hNs.1
      · obtain ⟨z, hzm, rfl⟩ := List.mem_map.mp hp
        exact SqT.of (hNs.2 z hzm)
      have sm2 : Same H (upd H' a (SetTO P w a L)) := sm.trans (same_upd na)
      have hN2 := hN1.same sm2
      refine ⟨a, L, rfl, upd_same, fun p hp => ?_, fun hLnd hL64 => ?_⟩
      · obtain ⟨z, hzm, rfl⟩ := List.mem_map.mp (hL1 p hp)
        exact SqT.of (hN2.2 z hzm)
      have m1 : ∀ x ∈ L.map (·.2), x ∈ zs.map fun z => (pr2 z).2 := fun x hx => by
        obtain ⟨p, hp, rfl⟩ := List.mem_map.mp hx
        obtain ⟨z, hzm, rfl⟩ := List.mem_map.mp (hL1 p hp)
        exact List.mem_map.mpr ⟨z, hzm, rfl⟩
      have m2 : ∀ x ∈ zs.map (fun z => (pr2 z).2), x ∈ L.map (·.2) := fun x hx => by
        obtain ⟨z, hzm, rfl⟩ := List.mem_map.mp hx
        exact hL2 (pr2 z) (List.mem_map.mpr ⟨z, hzm, rfl⟩)
      refine ⟨_, rfl, N, _, rfl, .inl (SqL.of hN2.1), rfl, ?_⟩
      rw [List.length_map]
      refine ⟨_, rfl, ?_⟩
      by_cases hlen : L.length = zs.length
      · have hnd : (zs.map (·.2)).Nodup := pr2_back (nodup_of_len _ _ hLnd m1 m2 (by rw [List.length_map, List.length_map]; exact hlen))
        rw [hlen, decide_eq_true rfl]
        refine iteT ⟨_, rfl, _, rfl, n, N, zs, rfl, hN2, (fun z hzm => (hz z hzm).2), hn, by omega, fun b H3 s3 hb => ⟨b, rfl, ?_⟩⟩
        refine q (!b) H3 (sm2.trans s3) ?_
        rw [nd_iff]
        cases b with
        | false => exact ⟨fun _ => ⟨hnd, hb.mp rfl⟩, fun _ => rfl⟩
        | true => exact ⟨fun z => (by cases z), fun z => (by cases hb.mpr z.2)⟩
      · rw [decide_eq_false (fun e => hlen (by have := V.int.inj e; omega))]
        refine iteF (q false _ sm2 ⟨fun z => Bool.noConfusion z, fun z => absurd ?_ hlen⟩)
        have hnd := pr2_nodup (nd_iff.mp z).1
        have := nodup_perm_len hLnd hnd m1 m2
        rw [List.length_map, List.length_map] at this
        exact this
/-- whether a thing is a job -/
def IsJobD (d : PyData) : Prop := ∃ fs ds ns rs : List PyData, d = .tuple [.list fs, .list ds, .list ns, .list rs] ∧ ds.length = fs.length ∧ fs.all (wfD 1) = true ∧ ds.all dueD = true ∧ NeedsD fs.length ns ∧ rs.all roomD = true
/-- lists of a thing are not too long to be looked at -/
def FewD (d : PyData) : Prop := ∀ ps, d = .tuple ps → ps.length ≤ 1000 ∧ ∀ fs ds ns rs, ps = [.list fs, .list ds, .list ns, .list rs] → fs.length ≤ 1000 ∧ ds.length ≤ 1000 ∧ ns.length < 64 ∧ rs.length ≤ 1000
def spIsJobG : Sp := fun vs H Q _ => ∃ (v : V) (d : PyData), vs = [v] ∧ Da H v d ∧ FewD d ∧ ∀ (c : Bool) (H' : Hp), Same H H' → (c = true ↔ IsJobD d) → Q (.bl c) H'
theorem ok_is_job (T : Env K mg) : Ok P w K mg base CX0 dd_is_job "is_job" 6 ["thing"] spIsJobG := by
  obtain ⟨fd_are_needs, D_are_needs, g_are_needs, k_are_needs, b_are_needs, G_are_needs⟩ := ok_are_needs (P := P) (w := w) (base := base) T
  obtain ⟨fd_is_hour, D_is_hour, g_is_hour, k_is_hour, b_is_hour, G_is_hour⟩ := ok_is_hour (P := P) (w := w) (base := base) T
  obtain ⟨fd_is_due, D_is_due, g_is_due, k_is_due, b_is_due, G_is_due⟩ := ok_is_due (P := P) (w := w) (base := base) T
  obtain ⟨fd_is_room, D_is_room, g_is_room, k_is_room, b_is_room, G_is_room⟩ := ok_is_room (P := P) (w := w) (base := base) T
  obtain ⟨fd, F⟩ := T.c.def_ 4 (d := dd_is_job) rfl
  refine ⟨fd, F, T.gl 4 _ rfl, F.kp, F.bindsN fun _ _ _ _ _ _ us hl => match us, hl with | [_], _ => rfl, ?_⟩
  refine F.ok sc_is_job (fun vs H Q E h => ?_) (fun cdv A outer s H vs Q E hr h => ?_)
  · obtain ⟨v, d, rfl, hd, hf, q⟩ := h
    rfl
  · obtain ⟨v, d, rfl, hd, hf, q⟩ := h
    refine ⟨_, PSs.nox (pss_cons (ps_if (PW.pt (pw_or (pt_not (pt_val (pe_callB call_isi (by rfl) (T.fr 29 _ rfl) (by decide +kernel) (pa_cons (pv 0) (pa_cons (pe_bltn (v := .ty "tuple") (by rfl) (T.fr 34 _ rfl) (by decide +kernel) rfl) pa_nil))))) (pw_or1 (pt_cmpR op_ne (pe_callB call_len_seq (by rfl) (T.fr 33 _ rfl) (by decide +kernel) (pa_cons (pv 0) pa_nil)) pe_int (nomark _))))) (pss_one (ps_ret pe_bl)) pss_nil)
      (pss_cons (ps_if (pt_not (pt_val (pe_callB (cr_all rfl) (by rfl) (T.fr 32 _ rfl) (by decide +kernel) (pa_cons (pe_lc (own := [("part", 5)]) (g := gName 5) (tt := tYes) (by rfl) sc_is_job.nd (pi_tup (pv 0)) (blkOk_by (own := [("part", 5)]) (N := N_is_job) (sc := defScope s_is_job) (by decide +kernel)) (fun _ _ _ _ _ => (pg_name (i := 5) sc_is_job.nd rfl (by first | exact Or.inl rfl | exact Or.inr rfl))) (fun _ _ _ _ _ => pts_nil) (fun _ _ _ _ _ => (pe_callB (r := rIsi K) call_isi (by rfl) (T.fr 29 _ rfl) (by decide +kernel) (pa_cons (pv 5) (pa_cons (pe_bltn (v := .ty "list") (by rfl) (T.fr 35 _ rfl) (by decide +kernel) rfl) pa_nil))))) pa_nil)))) (pss_one (ps_ret pe_bl)) pss_nil)
      (pss_cons (ps_asg (pv 0) (pg_tup rfl (pgs_cons (pg_name (i := 1) sc_is_job.nd rfl (Or.inl rfl)) (pgs_cons (pg_name (i := 2) sc_is_job.nd rfl (Or.inl rfl)) (pgs_cons (pg_name (i := 3) sc_is_job.nd rfl (Or.inl rfl)) (pgs_cons (pg_name (i := 4) sc_is_job.nd rfl (Or.inl rfl)) pgs_nil))))))
      (pss_cons (ps_if (pt_cmpR op_ne (pe_callB call_len_seq (by rfl) (T.fr 33 _ rfl) (by decide +kernel) (pa_cons (pv 2) pa_nil)) (pe_callB call_len_seq (by rfl) (T.fr 33 _ rfl) (by decide +kernel) (pa_cons (pv 1) pa_nil)) (nomark _)) (pss_one (ps_ret pe_bl)) pss_nil)
      (pss_one (ps_ret (pe_and (pe_callB (cr_all rfl) (by rfl) (T.fr 32 _ rfl) (by decide +kernel) (pa_cons (pe_lc (own := [("free", 6)]) (g := gName 6) (tt := tYes) (by rfl) sc_is_job.nd (pi_list (pv 1)) (blkOk_by (own := [("free", 6)]) (N := N_is_job) (sc := defScope s_is_job) (by decide +kernel)) (fun _ _ _ _ _ => (pg_name (i := 6) sc_is_job.nd rfl (by first | exact Or.inl rfl | exact Or.inr rfl))) (fun _ _ _ _ _ => pts_nil) (fun _ _ _ _ _ => (pe_call G_is_hour (hr.mono (by decide)) (by rfl) g_is_hour k_is_hour b_is_hour .nil pass0 (pa_cons (pv 6) pa_nil)))) pa_nil)) (pe_and (pe_callB (cr_all rfl) (by rfl) (T.fr 32 _ rfl) (by decide +kernel) (pa_cons (pe_lc (own := [("due", 7)]) (g := gName 7) (tt := tYes) (by rfl) sc_is_job.nd (pi_list (pv 2)) (blkOk_by (own := [("due", 7)]) (N := N_is_job) (sc := defScope s_is_job) (by decide +kernel)) (fun _ _ _ _ _ => (pg_name (i := 7) sc_is_job.nd rfl (by first | exact Or.inl rfl | exact Or.inr rfl))) (fun _ _ _ _ _ => pts_nil) (fun _ _ _ _ _ => (pe_call G_is_due (hr.mono (by decide)) (by rfl) g_is_due k_is_due b_is_due .nil pass0 (pa_cons (pv 7) pa_nil)))) pa_nil)) (pe_and (pe_call G_are_needs (hr.mono (by decide)) (by rfl) g_are_needs k_are_needs b_are_needs .nil pass0 (pa_cons (pe_callB call_len_seq (by rfl) (T.fr 33 _ rfl) (by decide +kernel) (pa_cons (pv 1) pa_nil)) (pa_cons (pv 3) pa_nil))) (pe_one (pe_callB (cr_all rfl) (by rfl) (T.fr 32 _ rfl) (by decide +kernel) (pa_cons (pe_lc (own := [("places", 8)]) (g := gName 8) (tt := tYes) (by rfl) sc_is_job.nd (pi_list (pv 4)) (blkOk_by (own := [("places", 8)]) (N := N_is_job) (sc := defScope s_is_job) (by decide +kernel)) (fun _ _ _ _ _ => (pg_name (i := 8) sc_is_job.nd rfl (by first | exact Or.inl rfl | exact Or.inr rfl))) (fun _ _ _ _ _ => pts_nil) (fun _ _ _ _ _ => (pe_call G_is_room (hr.mono (by decide)) (by rfl) g_is_room k_is_room b_is_room .nil pass0 (pa_cons (pv 8) pa_nil)))) pa_nil)))))))))))), ?_⟩
    walk_at "u"
    have no : ∀ H', Same H H' → ¬ IsJobD d → Q (.bl false) H' := fun H' s h => q false H' s ⟨fun z => Bool.noConfusion z, fun z => absurd z h⟩
    refine ⟨_, rfl, hd.isTup ⟨_, rfl, ?_⟩⟩
    cases ed : isTupD d with
    | false =>
      exact iteT (iteT (no _ (Same.refl _) fun ⟨fs, ds, ns, rs, e, _⟩ => by
        rw [e] at ed
        cases ed))
    | true =>
      obtain ⟨J, xs, ps, rfl, rfl, hJ, hps⟩ := hd.tupOf ed
      obtain ⟨f1, f2⟩ := hf ps rfl
      have hxl := hps.len
      refine iteF ⟨_, rfl, J, _, rfl, .inr (SqT.of hJ), rfl, _, rfl, ?_⟩
      by_cases hl : xs.length = 4
      rotate_left
      · rw [decide_eq_false (fun e => hl (by have := V.int.inj e; omega))]
        exact iteT (no _ (Same.refl _) fun ⟨fs, ds, ns, rs, e, _⟩ => by
          have e2 := PyData.tuple.inj e
          rw [e2] at hxl
          exact hl hxl)
      rw [hl]
      refine iteF ?_
      refine ⟨_, rfl, J, rfl, ⟨_, SqT.of hJ⟩, fun D nD => lc_tup (K := K) (a := J) (xs := xs) (fun i H' => Same H H' ∧ H' D = some (.lst (((ps.take i).map isLstD).map V.bl))) ⟨same_upd nD, upd_same⟩ (fun i H' _ hP => SqT.of (hP.1 _ _ hJ)) (fun i v H' hv hP => ?_) (fun H' hP => ?_)⟩
      · obtain ⟨sm, hD⟩ := hP
        obtain ⟨d, hdi, hdv⟩ := hps.get hv
        have hi := (List.getElem?_eq_some_iff.mp hv).1
        refine ⟨rfl, ?_⟩
        walk_at "u"
        refine iteT ⟨_, rfl, (hdv.same sm).isLst ⟨_, hD, ?_, same_mut sm nD, ?_⟩⟩
        · rw [List.length_map, List.length_map, List.length_take]
          exact small_lt (by omega)
        · rw [upd_same, all_snoc _ _ _ _ hdi, ← bl_app]
      obtain ⟨s1, hD⟩ := hP
      rw [hxl, List.take_length] at hD
      refine ⟨D, _, rfl, SqL.of hD, _, rfl, ?_⟩
      rw [List.all_map]
      cases hall : ps.all (id ∘ isLstD) with
      | false =>
        refine iteT (no H' s1 fun ⟨fs, ds, ns, rs, e, _⟩ => ?_)
        have e2 := PyData.tuple.inj e
        rw [e2] at hall
        cases hall
      | true =>
        refine iteF ?_
        match xs, ps, hps, hl with
        | [va, vb, vc, ve], [da, db, dc, de], .cons ha (.cons hb (.cons hc (.cons he .nil))), _ =>
          have hall2 : (isLstD da && (isLstD db && (isLstD dc && (isLstD de && true)))) = true := hall
          simp only [Bool.and_eq_true] at hall2
          obtain ⟨l1, l2, l3, l4, _⟩ := hall2
          obtain ⟨a, xa, fs, rfl, rfl, hA, dA⟩ := ha.lstOf l1
          obtain ⟨b, xb, ds, rfl, rfl, hB, dB⟩ := hb.lstOf l2
          obtain ⟨c, xc, ns, rfl, rfl, hC, dC⟩ := hc.lstOf l3
          obtain ⟨e, xe, rs, rfl, rfl, hE, dE⟩ := he.lstOf l4
          obtain ⟨g1, g2, g3, g4⟩ := f2 fs ds ns rs rfl
          have jd : IsJobD (.tuple [.list fs, .list ds, .list ns, .list rs]) ↔ ds.length = fs.length ∧ fs.all (wfD 1) = true ∧ ds.all dueD = true ∧ NeedsD fs.length ns ∧ rs.all roomD = true := by
            constructor
            · rintro ⟨fs', ds', ns', rs', e, h⟩
              have e2 := PyData.tuple.inj e
              injection e2 with a1 e2
              injection e2 with a2 e2
              injection e2 with a3 e2
              injection e2 with a4 e2
              cases PyData.list.inj a1
              cases PyData.list.inj a2
              cases PyData.list.inj a3
              cases PyData.list.inj a4
              exact h
            · intro h
              exact ⟨fs, ds, ns, rs, rfl, h⟩
          rw [jd] at no
          refine ⟨_, rfl, J, _, rfl, SqT.of (s1 _ _ hJ), rfl, _, _, rfl, _, _, rfl, _, _, rfl, _, _, rfl, rfl, ?_⟩
          refine ⟨_, rfl, b, _, rfl, .inl (SqL.of (s1 _ _ hB)), _, rfl, a, _, rfl, .inl (SqL.of (s1 _ _ hA)), rfl, _, rfl, ?_⟩
          rw [dB.len, dA.len]
          by_cases hlen : ds.length = fs.length
          rotate_left
          · rw [decide_eq_false (fun e => hlen (by have := V.int.inj e; omega))]
            exact iteT (no _ s1 fun h => hlen h.1)
          rw [hlen]
          refine iteNS rfl ?_
          refine ⟨_, rfl, a, rfl, ⟨_, SqL.of (s1 _ _ hA)⟩, fun D1 nD1 => lc_list (K := K) (a := a) (xs := xa) (fun i H2 => Same H' H2 ∧ H2 D1 = some (.lst ((((fs).take i).map (wfD 1)).map V.bl))) ⟨same_upd nD1, upd_same⟩ (fun i H2 _ hP => SqL.of (hP.1 _ _ (s1 _ _ hA))) (fun i v H2 hv hP => ?_) (fun HD1 hP => ?_)⟩
          · obtain ⟨sm, hD⟩ := hP
            obtain ⟨d, hdi, hdv⟩ := dA.get hv
            have hi := (List.getElem?_eq_some_iff.mp hdi).1
            refine ⟨rfl, ?_⟩
            walk_at "u"
            refine iteT ⟨_, rfl, v, _, rfl, (hdv.same (s1.trans sm)).kd, _, hD, ?_, same_mut sm nD1, ?_⟩
            · rw [List.length_map, List.length_map, List.length_take]
              exact small_lt (by omega)
            · rw [upd_same, all_snoc _ _ _ _ hdi, ← bl_app, hdv.wf 1]
          obtain ⟨s2, hD1⟩ := hP
          rw [dA.len, List.take_length] at hD1
          have s2' := s1.trans s2
          refine ⟨D1, _, rfl, SqL.of hD1, ?_⟩
          rw [List.all_map]
          refine ⟨_, rfl, ifB (fun c1 => ?_) (fun c1 => no _ s2' fun h => Bool.noConfusion (c1.symm.trans h.2.1))⟩
          refine ⟨_, rfl, b, rfl, ⟨_, SqL.of (s2' _ _ hB)⟩, fun D2 nD2 => lc_list (K := K) (a := b) (xs := xb) (fun i H2 => Same HD1 H2 ∧ H2 D2 = some (.lst ((((ds).take i).map dueD).map V.bl))) ⟨same_upd nD2, upd_same⟩ (fun i H2 _ hP => SqL.of (hP.1 _ _ (s2' _ _ hB))) (fun i v H2 hv hP => ?_) (fun HD2 hP => ?_)⟩
          · obtain ⟨sm, hD⟩ := hP
            obtain ⟨d, hdi, hdv⟩ := dB.get hv
            have hi := (List.getElem?_eq_some_iff.mp hdi).1
            refine ⟨rfl, ?_⟩
            walk_at "u"
            refine iteT ⟨_, rfl, v, _, rfl, (hdv.same (s2'.trans sm)).kd, _, hD, ?_, same_mut sm nD2, ?_⟩
            · rw [List.length_map, List.length_map, List.length_take]
              exact small_lt (by omega)
            · rw [upd_same, all_snoc _ _ _ _ hdi, ← bl_app, hdv.due]
          obtain ⟨s3, hD2⟩ := hP
          rw [dB.len, List.take_length] at hD2
          have s3' := s2'.trans s3
          refine ⟨D2, _, rfl, SqL.of hD2, ?_⟩
          rw [List.all_map]
          refine ⟨_, rfl, ifB (fun c2 => ?_) (fun c2 => no _ s3' fun h => Bool.noConfusion (c2.symm.trans h.2.2.1))⟩
          refine ⟨_, rfl, a, _, rfl, .inl (SqL.of (s3' _ _ hA)), _, rfl, fs.length, c, xc, ns, by rw [dA.len]; rfl, s3' _ _ hC, DaAll.same s3' dC, g1, g3, fun cn H4 s4 hcn => ⟨cn, rfl, ?_⟩⟩
          have s4' := s3'.trans s4
          cases cn with
          | false => exact iteF (no _ s4' fun h => Bool.noConfusion (hcn.mpr h.2.2.2.1))
          | true =>
          refine iteT ?_
          refine ⟨_, rfl, e, rfl, ⟨_, SqL.of (s4' _ _ hE)⟩, fun D3 nD3 => lc_list (K := K) (a := e) (xs := xe) (fun i H2 => Same H4 H2 ∧ H2 D3 = some (.lst ((((rs).take i).map roomD).map V.bl))) ⟨same_upd nD3, upd_same⟩ (fun i H2 _ hP => SqL.of (hP.1 _ _ (s4' _ _ hE))) (fun i v H2 hv hP => ?_) (fun HD3 hP => ?_)⟩
          · obtain ⟨sm, hD⟩ := hP
            obtain ⟨d, hdi, hdv⟩ := dE.get hv
            have hi := (List.getElem?_eq_some_iff.mp hdi).1
            refine ⟨rfl, ?_⟩
            walk_at "u"
            refine iteT ⟨_, rfl, v, _, rfl, (hdv.same (s4'.trans sm)).kd, _, hD, ?_, same_mut sm nD3, ?_⟩
            · rw [List.length_map, List.length_map, List.length_take]
              exact small_lt (by omega)
            · rw [upd_same, all_snoc _ _ _ _ hdi, ← bl_app, hdv.room]
          obtain ⟨s5, hD3⟩ := hP
          rw [dE.len, List.take_length] at hD3
          have s5' := s4'.trans s5
          refine ⟨D3, _, rfl, SqL.of hD3, ?_⟩
          rw [List.all_map]
          exact q _ _ s5' ⟨fun c5 => jd.mpr ⟨hlen, c1, c2, hcn.mp rfl, c5⟩, fun h => (jd.mp h).2.2.2.2⟩

end

/-! ### an exception that is kept in a variable -/
/-- the exception of the class cls that stands at a -/
def ExT (cls : Value) (d : Option Addr) (a : Addr) : HO := .ext fun h => ∃ (oe : Obj) (vs : Array Value), h.get? a = some oe ∧ Zc cls d oe ∧ oe.data = .fields vs
theorem exT_ok {P : Program} {w : World} {H : Hp} {h : Heap} {a : Addr} {cls : Value} {d : Option Addr} {oe : Obj} {vs : Array Value} (e : h.get? a = some oe) (z : Zc cls d oe) (f : oe.data = .fields vs) : ObjOk P w H h a (ExT cls d a) :=
  ⟨⟨oe, vs, e, z, f⟩, ⟨oe, e⟩, fun _ _ ⟨o, v, q, r⟩ k => ⟨o, v, k o q, r⟩⟩
/-- an object that is there, untracked, and was not there at the entry, is tracked from now on -/
theorem inv_track {X : Cx} {pins : List (Addr × Obj)} {σ : L2.St} {H : Hp} {s : Shared} {a : Addr} {o : HO} {oe : Obj} {vs : Array Value} (I : L2.Inv X pins σ H s) (there : s.heap.get? a = some oe) (f : oe.data = .fields vs)
    (none_ : H a = none) (fresh : X.s_0.heap.get? a = none) (notL : a ≠ X.env.locals) (notP : ∀ p ∈ X.pn ++ pins, p.1 ≠ a) (ok : ObjOk X.prog X.w (upd H a o) s.heap a o) : L2.Inv X pins σ (upd H a o) s := by
  have old : ∀ {b : Addr} {u : Obj}, X.s_0.heap.get? b = some u → b ≠ a := fun {b u} e z => by
    rw [z, fresh] at e
    cases e
  have cells : ∀ {x : Str} {c : Addr}, X.env.cells.lookup x = some c → c ≠ a := fun {x c} e z => by
    obtain ⟨v, oc, h1, h2⟩ := I.cell x c e
    rw [z, there] at h1
    cases h1
    rw [f] at h2
    cases h2
  refine ⟨I.ok, I.os, I.bare, ⟨I.base.keep, I.base.slot, fun b u e n hx => ?_, I.base.there, fun b xs q => ?_, fun b u v q => ?_, fun b ps q => ?_⟩, I.loc, I.cell, ?_, fun x c e => ?_, fun p hp => ?_, fun b u e => ?_, I.len⟩
  · rw [upd_ne (old e)]
    exact I.base.free b u e n hx
  · have q2 := I.base.tups b xs q
    rw [upd_ne (ne_of_none q2 none_)]
    exact q2
  · have q2 := I.base.frzs b u v q
    rw [upd_ne (ne_of_none q2 none_)]
    exact q2
  · obtain ⟨more, q2⟩ := I.base.tbls b ps q
    exact ⟨more, by rw [upd_ne (ne_of_none q2 none_)]; exact q2⟩
  · rw [upd_ne notL.symm]
    exact I.free
  · rw [upd_ne (cells e)]
    exact I.freeC x c e
  · obtain ⟨p1, p2, p3⟩ := I.pin p hp
    exact ⟨p1, by rw [upd_ne (notP p hp)]; exact p2, p3⟩
  · by_cases same : b = a
    · subst same
      rw [upd_same] at e
      cases e
      exact ok
    · rw [upd_ne same] at e
      exact (I.hok b u e).stay (fun _ _ _ q => q) (fun c q => by rw [upd_ne (ne_of_none q none_)]; exact q) fun c xs q => by rw [upd_ne (ne_of_none q none_)]; exact q
/-- what is wished at a try whose except clause keeps the exception: behind the suite it is tracked -/
def wKeep (K : PySem.W.Frag) (c : Value) (i : Nat) (ts : Addr → Value → Option Addr → TS) (Wout : WX) (D : Ends) : WX := fun cls d σ H =>
  ∃ b, PySem.W.exmOne K cls c = some b ∧ (b = true → ∀ a, H a = none → ts a cls d
    { nx := fun σ' H' => H' a = none → D.nx (σ'.set i none) (upd H' a (ExT cls d a)), rt := fun v H' => H' a = none → D.rt v (upd H' a (ExT cls d a)),
      bk := fun σ' H' => H' a = none → D.bk (σ'.set i none) (upd H' a (ExT cls d a)), ct := fun σ' H' => H' a = none → D.ct (σ'.set i none) (upd H' a (ExT cls d a)) } (σ.set i (some (.ref a))) H) ∧ (b = false → Wout cls d σ H)
theorem ps_try_keep {X : Cx} {x n : Str} {c : Value} {i : Nat} {body suite : List Stmt} {b₀ : Stmt} {np pos pos' : Pos} {tb : WX → TS} {ts : Addr → Value → Option Addr → TS} {Wout : WX}
    (hs : X.stack = X.env :: X.outer) (hf : X.env.frame = some X.env.locals) (hex : X.ex = []) (hN : X.N.Nodup) (hi : X.N[i]? = some n) (hln : X.env.kindOf n = some .local) (hc : Names X x c) (tk : Takes X Wout)
    (hb : ∀ (W : WX) (pn : List (Addr × Obj)) (xe : Value → Shared → Prop), Takes (X.tr pn xe) W → PassesOwn (model X.prog X.w) X.A X.env xe → PSs (X.tr pn xe) body (tb W))
    (hsu : ∀ (a : Addr) (oe : Obj) (cls : Value) (d : Option Addr) (pn : List (Addr × Obj)), Zc cls d oe → (∃ vs, oe.data = .fields vs) → PSs (X.suite a ((a, oe) :: pn)) (b₀ :: suite) (ts a cls d)) :
    PS X (.Try body [.ExceptHandler (some (.Name x np)) (some n) (b₀ :: suite) pos'] [] [] pos) (fun D σ H => tb (wKeep X.K c i ts Wout D) D σ H) := by
  refine ⟨fun pins s σ H D I h => ?_⟩
  have ok := I.ok
  have frames : X.A.frames = some (X.env :: X.outer) := by rw [ok.frames, hs]
  refine wpAny_Try_except ?_
  let xe1 : Value → Shared → Prop := fun e s₁ => wpAny (model X.prog X.w) X.A (noteFrame e X.env)
    (fun _ s₂ => wpAny (model X.prog X.w) X.A (setFlight e none) (fun _ s₃ => wpAny (model X.prog X.w) X.A
      (handleBy e X.env [.ExceptHandler (some (.Name x np)) (some n) (b₀ :: suite) pos']) (SP X pins D) X.xe s₃) X.xe s₂) X.xe s₁
  refine wpAny_mono ((hb (wKeep X.K c i ts Wout D) (X.pn ++ pins) xe1 (fun u s' air => ?_) PassesOwn.looking).run [] s σ H D (I.toTry _) h) (fun f s1 done => ?_) (fun e s1 he => he)
  · obtain ⟨a, B, sI, pins', σ', H', cls, d, rfl, JT, nb, up, sky, na, os, ag, b, asked, yes, no⟩ := air
    have J : L2.Inv X pins σ' H' sI := JT.ofTry ok
    have sky' : Sky B (X.env :: X.outer) a (Zc cls d) X.env.locals s'.heap := by
      rw [← hs]
      exact sky
    show wpAny (model X.prog X.w) X.A (noteFrame (.ref a) X.env) _ _ _
    refine Sky.land Zc.steady frames hf sky' fun h3 fl3 up3 => ?_
    have J3 : L2.Inv X pins σ' H' { s' with heap := h3 } := J.landed nb fl3.1 (up.trans up3) os ag
    obtain ⟨oe3, vs3, he3, hz3, hd3⟩ := fl3.there
    have notFrame : a ∉ frs (X.env :: X.outer) := fun hm => by
      obtain ⟨_, o', e', other⟩ := fl3.2.2.1.mem hm
      rw [he3] at e'
      cases e'
      exact other _ hd3
    have notL : a ≠ X.env.locals := fun z => notFrame (List.mem_filterMap.mpr ⟨X.env, List.mem_cons_self, by rw [hf, z]⟩)
    have notF : a ∉ X.fs := fun hm => by
      obtain ⟨e, he, q⟩ := List.mem_filterMap.mp hm
      exact notFrame (List.mem_filterMap.mpr ⟨e, List.mem_cons_of_mem _ he, q⟩)
    have freshI : sI.heap.get? a = none := by
      cases q : sI.heap.get? a with
      | none => rfl
      | some o =>
        have z := nb a o q (by rw [hs]; exact notFrame)
        rw [fl3.2.1] at z
        cases z
    have fresh : X.s_0.heap.get? a = none := by
      cases q : X.s_0.heap.get? a with
      | none => rfl
      | some o =>
        obtain ⟨o', z⟩ := J.base.there a o q (by rw [hex]; exact fun z => nomatch z)
        rw [freshI] at z
        cases z
    have notP : ∀ p ∈ X.pn ++ pins, p.1 ≠ a := fun p hp z => by
      have q := (J.pin p hp).1
      rw [z, freshI] at q
      cases q
    have S3 := J3.suite he3 hd3 na notL notF
    refine wpAny_handleBy_cons (codeAny_handlers_test ?_) (by intro q; cases q)
    have kind : PySem.W.Looks (model X.prog X.w) h3 (typeOf (.ref a)) cls := fun A Q E s k q => wpAny_typeOf_ref (k _ _ he3) (by rw [hz3.1]; exact q)
    have answer := PySem.W.exm_one (M := model X.prog X.w) (J3.kIn) kind asked
    have named : ∀ {Q : Value → Shared → Prop} {E : Value → Shared → Prop}, Q c { s' with heap := h3 } → wpAny (model X.prog X.w) (X.A.mark (some (.ref a))) (eval (.Name x np) X.env) Q E { s' with heap := h3 } := fun q => by
      obtain ⟨hg, hdbg, hm | ⟨hm, hv, hnn⟩⟩ := hc
      · exact ld_glob (X := X.suite a ((a, oe3) :: (X.pn ++ pins))) S3 hg hm q hdbg
      · exact ld_blt (X := X.suite a ((a, oe3) :: (X.pn ++ pins))) S3 hg hm hv q hnn hdbg
    refine named (answer.here ?_)
    cases b with
    | true =>
      refine codeAny_handlers_suite_as ?_
      refine HandSPX.lands_againZ fl3 fun h4 fl4 up4 => ?_
      have J4 : L2.Inv X pins σ' H' { s' with heap := h4 } := J.landed nb fl4.1 ((up.trans up3).trans up4) os ag
      obtain ⟨oe4, vs4, he4, hz4, hd4⟩ := fl4.there
      have S4 := J4.suite he4 hd4 na notL notF
      refine store_ok (X := X.suite a ((a, oe4) :: (X.pn ++ pins))) (v := .ref a) S4 hN hi (.inl hln) rfl (fun s5 S5 => ?_) (.inr hln)
      refine wpAny_mono ((hsu a oe4 cls d (X.pn ++ pins) hz4 ⟨_, hd4⟩).run [] s5 _ H' _ S5 (yes rfl a na)) (fun f s6 done => ?_) (fun _ _ z => False.elim z)
      have ends : ∀ {σ6 : L2.St} {H6 : Hp} {Q : Shared → Prop}, L2.Inv (X.suite a ((a, oe4) :: (X.pn ++ pins))) [] σ6 H6 s6 → (∀ s7, H6 a = none → L2.Inv X pins (σ6.set i none) (upd H6 a (ExT cls d a)) s7 → Q s7) →
          wpAny (model X.prog X.w) X.A (do bindName X.env n .none; unbindBehindTheSuite X.env n pos') (fun _ s7 => Q s7) X.xe s6 := fun {σ6 H6 Q} S6 hq => by
        refine gone_ok (X := X.suite a ((a, oe4) :: (X.pn ++ pins))) S6 hN hi hln fun s7 S7 => ?_
        obtain ⟨there, untracked, _⟩ := S7.pin (a, oe4) (List.mem_append_left _ List.mem_cons_self)
        exact hq s7 untracked (inv_track (S7.unsuite ok) there hd4 untracked fresh notL notP (exT_ok there hz4 hd4))
      match f, done with
      | .next, ⟨σ6, H6, S6, q6⟩ => exact ends S6 fun s7 u J7 => ⟨_, _, J7, q6 u⟩
      | .brk, ⟨σ6, H6, S6, q6⟩ => exact ends S6 fun s7 u J7 => ⟨_, _, J7, q6 u⟩
      | .cont, ⟨σ6, H6, S6, q6⟩ => exact ends S6 fun s7 u J7 => ⟨_, _, J7, q6 u⟩
      | .ret u, ⟨v6, σ6, H6, S6, r6, q6⟩ => exact ends S6 fun s7 z J7 => ⟨_, _, _, J7, r6, q6 z⟩
    | false =>
      show wpAny _ X.A (handleBy (.ref a) X.env []) _ _ _
      refine wpAny_handleBy_nil ?_
      obtain ⟨k1, k2, k3, oe, vs, T, oT, ts', he, hz, hd, h1, hr⟩ := id fl3
      unfold PySem.passOn
      refine wpAny_bind (wpAny_field he hd h1 ?_)
      rw [if_neg (show ¬ ((Value.ref T == Value.none) = true) from by simp)]
      have out : wpAny (model X.prog X.w) X.A (setFlight (.ref a) X.env.frame) (fun _ s4 => wpAny (model X.prog X.w) X.A (throw (.ref a) : Sem Flow) (SP X pins D) X.xe s4) X.xe { s' with heap := h3 } := by
        rw [hf]
        refine HandSPX.setFlight_upZ fl3 fun h4 hh4 up4 => wpAny_throw (tk _ _ ?_)
        exact ⟨a, B, sI, pins, σ', H', cls, d, rfl, J, nb, (up.trans up3).trans up4, .inr (.inr (by rw [hs]; exact hh4)), na, os, ag, no rfl⟩
      first
        | exact wpAny_bind (wpAny_pure (wpAny_bind out))
        | exact wpAny_bind out
  · match f, done with
    | .next, ⟨σ', H', J', q⟩ => exact wpAny_execs_nil ⟨σ', H', J'.ofTry ok, q⟩
    | .brk, ⟨σ', H', J', q⟩ => exact ⟨σ', H', J'.ofTry ok, q⟩
    | .cont, ⟨σ', H', J', q⟩ => exact ⟨σ', H', J'.ofTry ok, q⟩
    | .ret u, ⟨v, σ', H', J', r, q⟩ => exact ⟨v, σ', H', J'.ofTry ok, r, q⟩
/-- isinstance of a kept exception -/
def rIsX (K : PySem.W.Frag) : List V → Hp → VK → Prop := fun xs H Q => ∃ (a D : Addr) (c : V) (cv : Value) (b : Bool), xs = [.ref a, c] ∧ H a = some (ExT (.ref D) none a) ∧ ExcC K D ∧ ClsV c cv ∧ PySem.W.kitOne K (.ref D) cv = some b ∧ Q (.bl b) H
theorem call_isX {X : Cx} : CallR X (.builtin "isinstance") (rIsX X.K) := by
  intro pins s σ H xs us Q I r h
  obtain ⟨a, D, c, cv, b, rfl, ha, C, k, e, q⟩ := h
  obtain ⟨u1, u2, rfl, r1, r2⟩ := vals2 r
  have e2 := k.eq r2
  subst e2
  cases (show u1 = Value.ref a from r1)
  obtain ⟨oe, vs, there, hz, hv⟩ := (I.hok a _ ha).1
  have J : PySem.W.InstAt s.heap a oe D none := by
    obtain ⟨oc, od, oda, osl⟩ := oe
    obtain ⟨h1, h2⟩ := hz
    dsimp only at h1 h2 hv
    subst h1 h2 hv
    exact ⟨there, rfl, rfl, trivial⟩
  exact PySem.W.kia_one (PySem.W.handS_kitx_exc C.hg C.hk C.hs C.hd C.ha C.hn C.ht C.hm) I.kIn J e (fun z => nomatch z) fun tk => ⟨.bl b, H, I.kept (t' := tk) fun _ _ z => z, rfl, q⟩
/-- a value of a kind, or a kept exception -/
def rIsA (K : PySem.W.Frag) : List V → Hp → VK → Prop := fun xs H Q => rIsi K xs H Q ∨ rIsX K xs H Q
theorem call_isA {X : Cx} : CallR X (.builtin "isinstance") (rIsA X.K) := CallR.or call_isi call_isX
/-- a call that promises to let nothing out -/
theorem passF {X : Cx} : Passes (L2.CX X.prog X.w) X (fun _ _ _ => False) := fun _ _ _ _ _ _ _ ⟨_, _, _, _, _, _, _, _, _, _, _, _, h⟩ => h.elim

structure SmB (wt dp : Nat) (d : PyData) : Prop where
  can : d.canLay0 = true
  short : d.intsShort 30 = true
  show_ : d.showable = true
  dict : d.hasDict = false
  dep : d.depth ≤ dp
  wt : d.weight ≤ wt
theorem SmB.len {wt dp : Nat} {d : PyData} (h : SmB wt dp d) : d.shown.length ≤ 32 * wt + 30 := by
  have h1 := PyData.shown_le 30 (by decide) d (PyData.leavesShort_of_canLay0 30 d h.can h.short)
  have h2 : (30 + 2) * d.weight ≤ 32 * wt := Nat.mul_le_mul_left 32 h.wt
  omega
mutual
theorem short_mono : ∀ d : PyData, d.intsShort 13 = true → d.intsShort 30 = true
  | .none, _ => rfl
  | .bool _, _ => rfl
  | .str _, _ => rfl
  | .dict _, _ => rfl
  | .int i, h => by
    have h2 : (PyData.shown (.int i)).length ≤ 13 := of_decide_eq_true h
    exact decide_eq_true (by omega)
  | .list xs, h => short_monoAll xs h
  | .tuple xs, h => short_monoAll xs h
theorem short_monoAll : ∀ xs : List PyData, PyData.intsShortAll 13 xs = true → PyData.intsShortAll 30 xs = true
  | [], _ => rfl
  | x :: xs, h => by
    have h2 : (PyData.intsShort 13 x && PyData.intsShortAll 13 xs) = true := h
    rw [Bool.and_eq_true] at h2
    show (PyData.intsShort 30 x && PyData.intsShortAll 30 xs) = true
    rw [short_mono x h2.1, short_monoAll xs h2.2]
    rfl
end
theorem Sm.toB {wt dp : Nat} {d : PyData} (h : Sm wt dp d) : SmB wt dp d := ⟨h.can, short_mono d h.short, h.show_, h.dict, h.dep, h.wt⟩
theorem SmB.mono {wt dp wt' dp' : Nat} {d : PyData} (h : SmB wt dp d) (h1 : wt ≤ wt') (h2 : dp ≤ dp') : SmB wt' dp' d := ⟨h.can, h.short, h.show_, h.dict, Nat.le_trans h.dep h2, Nat.le_trans h.wt h1⟩
theorem smB_all {wt dp : Nat} : ∀ {ds : List PyData}, (∀ d ∈ ds, SmB wt dp d) → PyData.canLayAll0 ds = true ∧ PyData.intsShortAll 30 ds = true ∧ PyData.showableAll ds = true ∧ PyData.hasDictAll ds = false ∧ PyData.depthAll ds ≤ dp ∧ PyData.weightAll ds ≤ (wt + 1) * ds.length
  | [], _ => ⟨rfl, rfl, rfl, rfl, Nat.zero_le _, Nat.zero_le _⟩
  | d :: ds, h => by
    have hd := h d (List.mem_cons_self ..)
    obtain ⟨a1, a2, a3, a4, a5, a6⟩ := smB_all (ds := ds) fun x hx => h x (List.mem_cons_of_mem _ hx)
    refine ⟨?_, ?_, ?_, ?_, ?_, ?_⟩
    · show (PyData.canLay0 d && PyData.canLayAll0 ds) = true
      rw [hd.can, a1]
      rfl
    · show (PyData.intsShort 30 d && PyData.intsShortAll 30 ds) = true
      rw [hd.short, a2]
      rfl
    · show (PyData.showable d && PyData.showableAll ds) = true
      rw [hd.show_, a3]
      rfl
    · show (PyData.hasDict d || PyData.hasDictAll ds) = false
      rw [hd.dict, a4]
      rfl
    · show max (PyData.depth d) (PyData.depthAll ds) ≤ dp
      exact Nat.max_le.mpr ⟨hd.dep, a5⟩
    · show PyData.weight d + 1 + PyData.weightAll ds ≤ _
      have := hd.wt
      rw [List.length_cons, Nat.mul_succ]
      omega
theorem smB_list {wt dp : Nat} {ds : List PyData} (h : ∀ d ∈ ds, SmB wt dp d) : SmB ((wt + 1) * ds.length) (dp + 1) (.list ds) := by
  obtain ⟨a1, a2, a3, a4, a5, a6⟩ := smB_all h
  exact ⟨a1, a2, a3, a4, Nat.succ_le_succ a5, a6⟩
theorem smB_far : SmB 100 0 (.int 100000000000000000000) := ⟨rfl, by decide +kernel, by decide +kernel, rfl, Nat.le_refl _, by decide +kernel⟩
theorem smB_tup {wt dp : Nat} {ds : List PyData} (h : ∀ d ∈ ds, SmB wt dp d) : SmB ((wt + 1) * ds.length) (dp + 1) (.tuple ds) := by
  obtain ⟨a1, a2, a3, a4, a5, a6⟩ := smB_all h
  exact ⟨a1, a2, a3, a4, Nat.succ_le_succ a5, a6⟩

/-! ### frozen data and owned objects: F what stays as it is, os what is changed in place, H the heap -/
structure Sep (F : Hp) (os : List (Addr × HO)) (H : Hp) : Prop where
  fr : Same F H
  ow : ∀ z ∈ os, H z.1 = some z.2 ∧ F z.1 = none
  nd : (os.map (·.1)).Nodup
theorem Sep.nil (H : Hp) : Sep H [] H := ⟨fun _ _ h => h, fun z h => (by cases h), List.nodup_nil⟩
theorem Sep.at_ {F H : Hp} {os : List (Addr × HO)} (S : Sep F os H) {i : Nat} {a : Addr} {o : HO} (h : os[i]? = some (a, o)) : H a = some o := (S.ow _ (List.mem_of_getElem? h)).1
theorem Sep.fresh {F H : Hp} {os : List (Addr × HO)} (S : Sep F os H) {q : Addr} (h : H q = none) : F q = none := by
  cases e : F q with
  | none => rfl
  | some o =>
    rw [S.fr q o e] at h
    cases h
theorem Sep.fresh_ne {F H : Hp} {os : List (Addr × HO)} (S : Sep F os H) {q : Addr} (h : H q = none) {z : Addr × HO} (hz : z ∈ os) : z.1 ≠ q := ne_of_none (S.ow z hz).1 h
/-- more is known of what stays -/
theorem Sep.same {F H H' : Hp} {os : List (Addr × HO)} (S : Sep F os H) (s : Same H H') : Sep F os H' := ⟨fun b o h => s b o (S.fr b o h), fun z hz => ⟨s _ _ (S.ow z hz).1, (S.ow z hz).2⟩, S.nd⟩
/-- a new object that stays -/
theorem Sep.new {F H : Hp} {os : List (Addr × HO)} (S : Sep F os H) {q : Addr} (h : H q = none) (o : HO) : Sep (upd F q o) os (upd H q o) := by
  refine ⟨fun b u e => ?_, fun z hz => ?_, S.nd⟩
  · by_cases n : b = q
    · subst n
      rw [upd_same] at e ⊢
      exact e
    · rw [upd_ne n] at e ⊢
      exact S.fr b u e
  · have n := S.fresh_ne h hz
    rw [upd_ne n, upd_ne n]
    exact S.ow z hz
/-- a new object that may be changed -/
theorem Sep.own {F H : Hp} {os : List (Addr × HO)} (S : Sep F os H) {q : Addr} (h : H q = none) (o : HO) : Sep F ((q, o) :: os) (upd H q o) := by
  refine ⟨fun b u e => same_upd h b u (S.fr b u e), fun z hz => ?_, ?_⟩
  · rcases List.mem_cons.mp hz with e | hz
    · subst e
      exact ⟨upd_same, S.fresh h⟩
    · rw [upd_ne (S.fresh_ne h hz)]
      exact S.ow z hz
  · rw [List.map_cons]
    refine List.nodup_cons.mpr ⟨fun hm => ?_, S.nd⟩
    obtain ⟨z, hz, e⟩ := List.mem_map.mp hm
    exact S.fresh_ne h hz e
theorem map_fst_set : ∀ (os : List (Addr × HO)) (i : Nat) (a : Addr) (o o' : HO), os[i]? = some (a, o) → (os.set i (a, o')).map (·.1) = os.map (·.1)
  | [], _, _, _, _, _ => rfl
  | z :: os, 0, a, o, o', h => by
    cases h
    rfl
  | z :: os, i + 1, a, o, o', h => by
    show z.1 :: (os.set i (a, o')).map (·.1) = z.1 :: os.map (·.1)
    rw [map_fst_set os i a o o' h]
theorem nd_fst {os : List (Addr × HO)} (h : (os.map (·.1)).Nodup) {i : Nat} {a : Addr} {o : HO} (hi : os[i]? = some (a, o)) {j : Nat} {z : Addr × HO} (hj : os[j]? = some z) (e : z.1 = a) : j = i := by
  have h1 : (os.map (·.1))[i]? = some a := by
    rw [List.getElem?_map, hi]
    rfl
  have h2 : (os.map (·.1))[j]? = some a := by
    rw [List.getElem?_map, hj, ← e]
    rfl
  exact nd_ix h h2 h1
/-- what is owned is changed -/
theorem Sep.set {F H : Hp} {os : List (Addr × HO)} (S : Sep F os H) {i : Nat} {a : Addr} {o : HO} (h : os[i]? = some (a, o)) (o' : HO) : Sep F (os.set i (a, o')) (upd H a o') := by
  have fa : F a = none := (S.ow _ (List.mem_of_getElem? h)).2
  refine ⟨fun b u e => ?_, fun z hz => ?_, by rw [map_fst_set os i a o o' h]; exact S.nd⟩
  · rw [upd_ne (ne_of_none e fa)]
    exact S.fr b u e
  · obtain ⟨j, hj⟩ := List.getElem?_of_mem hz
    by_cases e : i = j
    · subst e
      rw [List.getElem?_set_self (List.getElem?_eq_some_iff.mp h).1] at hj
      cases hj
      exact ⟨upd_same, fa⟩
    · rw [List.getElem?_set_ne e] at hj
      have n : z.1 ≠ a := fun q => e (nd_fst S.nd h hj q).symm
      rw [upd_ne n]
      exact S.ow z (List.mem_of_getElem? hj)
/-- what was owned stays from now on -/
theorem Sep.freeze {F H : Hp} {os : List (Addr × HO)} (S : Sep F os H) {i : Nat} {a : Addr} {o : HO} (h : os[i]? = some (a, o)) : Sep (upd F a o) (os.eraseIdx i) H := by
  have fa := S.ow _ (List.mem_of_getElem? h)
  refine ⟨fun b u e => ?_, fun z hz => ?_, ?_⟩
  · by_cases n : b = a
    · subst n
      rw [upd_same] at e
      cases e
      exact fa.1
    · rw [upd_ne n] at e
      exact S.fr b u e
  · obtain ⟨j, hj⟩ := List.getElem?_of_mem hz
    have hz2 : ∃ j, j ≠ i ∧ os[j]? = some z := by
      rw [List.getElem?_eraseIdx] at hj
      by_cases l : j < i
      · rw [if_pos l] at hj
        exact ⟨j, by omega, hj⟩
      · rw [if_neg l] at hj
        exact ⟨j + 1, by omega, hj⟩
    obtain ⟨j, ne, hj⟩ := hz2
    have n : z.1 ≠ a := fun q => ne (nd_fst S.nd h hj q)
    rw [upd_ne n]
    exact S.ow z (List.mem_of_getElem? hj)
  · rw [show (os.eraseIdx i).map (·.1) = (os.map (·.1)).eraseIdx i from by
      rw [List.eraseIdx_eq_take_drop_succ, List.eraseIdx_eq_take_drop_succ, List.map_append, List.map_take, List.map_drop]]
    exact S.nd.sublist (List.eraseIdx_sublist _ _)
/-- an owned object is given up -/
theorem Sep.drop {F H : Hp} {os : List (Addr × HO)} (S : Sep F os H) (i : Nat) : Sep F (os.eraseIdx i) H := by
  refine ⟨S.fr, fun z hz => S.ow z (List.mem_of_mem_eraseIdx hz), ?_⟩
  rw [show (os.eraseIdx i).map (·.1) = (os.map (·.1)).eraseIdx i from by
      rw [List.eraseIdx_eq_take_drop_succ, List.eraseIdx_eq_take_drop_succ, List.map_append, List.map_take, List.map_drop]]
  exact S.nd.sublist (List.eraseIdx_sublist _ _)
/-- all but the pile stays -/
theorem Sep.but {F H H' : Hp} {os : List (Addr × HO)} (S : Sep F os H) {p : Addr} {o o' : HO} (h : os[0]? = some (p, o)) (b : But p H H') (hp : H' p = some o') : Sep F (os.set 0 (p, o')) H' := by
  have fp : F p = none := (S.ow _ (List.mem_of_getElem? h)).2
  refine ⟨fun c u e => b c u (ne_of_none e fp) (S.fr c u e), fun z hz => ?_, by rw [map_fst_set os 0 p o o' h]; exact S.nd⟩
  obtain ⟨j, hj⟩ := List.getElem?_of_mem hz
  by_cases e : 0 = j
  · subst e
    rw [List.getElem?_set_self (List.getElem?_eq_some_iff.mp h).1] at hj
    cases hj
    exact ⟨hp, fp⟩
  · rw [List.getElem?_set_ne e] at hj
    have n : z.1 ≠ p := fun q => e (nd_fst S.nd h hj q).symm
    exact ⟨b _ _ n (S.ow z (List.mem_of_getElem? hj)).1, (S.ow z (List.mem_of_getElem? hj)).2⟩

/-! ### xs[::-1] of a list -/
theorem range_pick {α : Type} : ∀ l : List α, (List.range l.length).filterMap (fun i => l[i]?) = l
  | [] => rfl
  | x :: l => by
    rw [List.length_cons, List.range_succ_eq_map, List.filterMap_cons]
    show x :: ((List.range l.length).map Nat.succ).filterMap (fun i => (x :: l)[i]?) = x :: l
    rw [List.filterMap_map]
    exact congrArg (x :: ·) (range_pick l)
theorem fm_congr {α β : Type} {f g : α → Option β} : ∀ {l : List α}, (∀ x ∈ l, f x = g x) → l.filterMap f = l.filterMap g
  | [], _ => rfl
  | x :: l, h => by
    rw [List.filterMap_cons, List.filterMap_cons, h x List.mem_cons_self, fm_congr fun y hy => h y (List.mem_cons_of_mem _ hy)]
theorem pick_rev (its : List Value) : slicePick its.toArray none none (some (-1)) = its.reverse.toArray := by
  have hb : sliceBounds none none (some (-1)) its.toArray.size = ((its.length : Int) - 1, -1, -1) := by
    rw [List.size_toArray]
    simp [sliceBounds]
  unfold slicePick
  rw [hb]
  have hr : sliceRange ((its.length : Int) - 1) (-1) (-1) = (List.range its.length).map fun k => its.length - 1 - k := by
    unfold sliceRange
    have hc : (if (-1 : Int) > 0 then (if (its.length : Int) - 1 < -1 then (-1 - ((its.length : Int) - 1) + -1 - 1) / -1 else 0) else (if (its.length : Int) - 1 > -1 then ((its.length : Int) - 1 - -1 - -1 - 1) / (- -1) else 0)) = (its.length : Int) := by
      rw [if_neg (by decide)]
      split
      · rw [show (- -1 : Int) = 1 from rfl, Int.ediv_one]
        omega
      · omega
    dsimp only
    rw [hc, Int.toNat_natCast]
    refine List.map_congr_left fun k hk => ?_
    have := List.mem_range.mp hk
    omega
  dsimp only
  rw [hr, List.filterMap_map]
  refine congrArg List.toArray ?_
  have h2 := range_pick its.reverse
  rw [List.length_reverse] at h2
  refine Eq.trans ?_ h2
  refine fm_congr fun k hk => ?_
  have hk2 := List.mem_range.mp hk
  show its.toArray[its.length - 1 - k]? = its.reverse[k]?
  rw [List.getElem?_reverse hk2, List.getElem?_toArray]
def tRev (K : PySem.W.Frag) (te ts : TE) : TE := fun σ H Q => te σ H fun x H1 => ts σ H1 fun y H2 => y = .int (-1) ∧ ∃ a xs, x = .ref a ∧ SqL K H2 a xs ∧ ∀ p, H2 p = none → Q (.ref p) (upd H2 p (.lst xs.reverse))
theorem pe_rev {X : Cx} {e st : Expr} {te ts : TE} {pos p2 : Pos} (he : PE X e te) (hst : PE X st ts) : PE X (.Subscript e (.Slice none none (some st) p2) pos) (tRev X.K te ts) := by
  refine ⟨fun pins s σ H Q I h => ?_⟩
  refine Subscript_ (thn (he.run pins s σ H _ I h) fun v s1 ⟨x, H1, I1, r1, q1⟩ => ?_)
  refine wpAny_Slice ?_
  rw [evalPart_none]
  refine wpAny_pure (wpAny_pure ?_)
  rw [evalPart_some]
  refine thn (hst.run pins s1 σ H1 _ I1 q1) fun vs s2 ⟨y, H2, I2, r2, q2⟩ => ?_
  obtain ⟨rfl, a, xs, rfl, hx, q⟩ := q2
  obtain ⟨t, rfl⟩ := r2
  cases r1
  have I3 : Inv X pins σ H2 { s2 with heap := s2.heap.push { cls := .type "slice", data := .fields #[.none, .none, .int (-1) t] } } := I2.kept (t' := s2.toks) fun b ob q => Heap.get?_push_of_some _ q
  obtain ⟨its, r, ht, hz⟩ := I3.list hx
  have hlen := r.length
  show wpAny (model X.prog X.w) X.A (subscriptTail e (.Slice none none (some st) p2) (.ref a) (.ref s2.heap.objs.size)) (EP X pins σ Q) X.xe { s2 with heap := s2.heap.push { cls := .type "slice", data := .fields #[.none, .none, .int (-1) t] } }
  refine tail_any (ops := [.ref a, .ref s2.heap.objs.size]) ht.isList.typeIs slot_list_getitem.lookup ?_ (by with_unfolding_all rfl)
  refine wpAny_getItem_list_slice ht.isList (Heap.IsSliceOf.new ..) .none .none (.int (-1) t) (by simp) ?_ (by rw [List.size_toArray] <;> omega)
  rw [pick_rev]
  refine ⟨.ref _, _, I3.laid (t' := s2.toks) (o := .lst xs.reverse) (fun b ob q => Heap.get?_push_of_some _ q) (Nat.le_refl _) ?_, rfl, q _ (I3.hok.fresh (Nat.le_refl _))⟩
  exact ⟨by rw [List.length_reverse]; exact hz, _, 0, r.reverse, Heap.get?_push_size _ rfl⟩

section
variable {P : Program} {w : World} {K : PySem.W.Frag} {mg : Str → Option Value} {base : Heap}

def spCheckG (K : PySem.W.Frag) : Sp := fun vs H Q E => ∃ (v : V) (d : PyData), vs = [v] ∧ Da H v d ∧ FewD d ∧ (IsJobD d → ∀ H', Same H H' → Q .non H') ∧ (¬ IsJobD d → ∀ H', Same H H' → E (.ref (He.ga K "NoJob")) none H')
theorem ok_check_job (T : Env K mg) : Ok P w K mg base (L2.CX P w) dd_check_job "check_job" 7 ["job"] (spCheckG K) := by
  obtain ⟨fd_is_job, D_is_job, g_is_job, k_is_job, b_is_job, G_is_job⟩ := ok_is_job (P := P) (w := w) (base := base) T
  obtain ⟨fd, F⟩ := T.c.def_ 11 (d := dd_check_job) rfl
  refine ⟨fd, F, T.gl 11 _ rfl, F.kp, F.bindsN fun _ _ _ _ _ _ us hl => match us, hl with | [_], _ => rfl, ?_⟩
  refine F.ok sc_check_job (fun vs H Q E h => ?_) (fun cdv A outer s H vs Q E hr h => ?_)
  · obtain ⟨v, d, rfl, hd, hf, q1, q2⟩ := h
    rfl
  · obtain ⟨v, d, rfl, hd, hf, q1, q2⟩ := h
    refine ⟨_, (pss_one (ps_if (pt_not (pt_val (pe_call G_is_job (hr.mono (by decide)) (by rfl) g_is_job k_is_job b_is_job .nil pass0 (pa_cons (pv 0) pa_nil)))) (pss_one (ps_raise rfl (takes_of rfl rfl rfl rfl) (pmk_own PySem.F.excBase_ValueError (T.xc 46 _ rfl).1 (T.gl 44 _ rfl) (T.xc 46 _ rfl).2.1 (raises_own (T.xc 46 _ rfl).2.2.1 (T.xc 46 _ rfl).2.2.2) rfl))) pss_nil)), ?_⟩
    walk_at "u"
    refine ⟨_, rfl, v, d, rfl, hd, hf, fun c H1 s1 hc => ⟨_, rfl, ?_⟩⟩
    cases c with
    | false => exact iteT (q2 (fun h => Bool.noConfusion (hc.mpr h)) H1 s1)
    | true => exact iteF (q1 (hc.mp rfl) H1 s1)
theorem rooms_int {H : Hp} : ∀ {xs : List V} {ds : List PyData}, DaAll H xs ds → ds.all roomD = true → ∃ rs : List Int, xs = iV rs ∧ ds = rs.map .int ∧ ∀ r ∈ rs, 0 ≤ r ∧ r ≤ 3
  | _, _, .nil, _ => ⟨[], rfl, rfl, fun _ h => nomatch h⟩
  | _, _, .cons (d := d) hx hr, h => by
    rw [List.all_cons, Bool.and_eq_true] at h
    obtain ⟨rs, e1, e2, h3⟩ := rooms_int hr h.2
    cases d with
    | int i =>
      cases hx
      have h4 : (decide (0 ≤ i) && decide (i ≤ 3)) = true := h.1
      rw [Bool.and_eq_true, decide_eq_true_iff, decide_eq_true_iff] at h4
      refine ⟨i :: rs, by rw [e1]; rfl, by rw [e2]; rfl, fun r hr => ?_⟩
      rcases List.mem_cons.mp hr with e | hr
      · rw [e]
        exact h4
      · exact h3 r hr
    | _ => cases h.1
theorem map_int_inj : ∀ {a b : List Int}, a.map PyData.int = b.map PyData.int → a = b
  | [], [], _ => rfl
  | [], _ :: _, h => by cases h
  | _ :: _, [], h => by cases h
  | x :: a, y :: b, h => by
    have h2 := List.cons.inj h
    rw [PyData.int.inj h2.1, map_int_inj h2.2]
def spNarrow (K : PySem.W.Frag) : Sp := fun vs H Q E => ∃ (v : V) (d : PyData), vs = [v] ∧ Da H v d ∧ FewD d ∧ (IsJobD d → ∀ (a b c : PyData) (rs : List Int), d = .tuple [a, b, c, .list (rs.map .int)] → ∀ H', Same H H' → Q (.bl (!decide (3 ∈ rs))) H') ∧ (¬ IsJobD d → ∀ H', Same H H' → E (.ref (He.ga K "NoJob")) none H')
theorem ok_is_narrow (T : Env K mg) : Ok P w K mg base (L2.CX P w) dd_is_narrow "is_narrow" 8 ["job"] (spNarrow K) := by
  obtain ⟨fd_check_job, D_check_job, g_check_job, k_check_job, b_check_job, G_check_job⟩ := ok_check_job (P := P) (w := w) (base := base) T
  obtain ⟨fd, F⟩ := T.c.def_ 12 (d := dd_is_narrow) rfl
  refine ⟨fd, F, T.gl 12 _ rfl, F.kp, F.bindsN fun _ _ _ _ _ _ us hl => match us, hl with | [_], _ => rfl, ?_⟩
  refine F.ok sc_is_narrow (fun vs H Q E h => ?_) (fun cdv A outer s H vs Q E hr h => ?_)
  · obtain ⟨v, d, rfl, hd, hf, q1, q2⟩ := h
    rfl
  · obtain ⟨v, d, rfl, hd, hf, q1, q2⟩ := h
    refine ⟨_, (pss_cons (ps_expr (pe_call G_check_job (hr.mono (by decide)) (by rfl) g_check_job k_check_job b_check_job .nil (passes_call (takes_of rfl rfl rfl rfl) (fun _ _ _ _ h => h)) (pa_cons (pv 0) pa_nil)))
      (pss_one (ps_ret (pe_cmpR op_notIn_seq (pe_glob (v := .int 3) (by rfl) (T.it 42 _ _ rfl).choose_spec ⟨_, rfl⟩) (pe_ix ix_tup (pv 0) pe_int (fun _ _ => rfl)) (by rfl))))), ?_⟩
    walk_at "u"
    refine ⟨_, rfl, v, d, rfl, hd, hf, fun hj H1 s1 => ?_, q2⟩
    have hj' := hj
    obtain ⟨fs, ds, ns, rs, rfl, _, _, _, _, hr⟩ := hj'
    obtain ⟨J, xs, ps, rfl, e, hJ, hps⟩ := hd.tupOf rfl
    cases e
    cases hps with
    | cons ha hps =>
      cases hps with
      | cons hb hps =>
      cases hps with
      | cons hc hps =>
      cases hps with
      | cons he hps =>
      cases hps
      obtain ⟨e, xe, rs', rfl, e2, hE, dE⟩ := he.lstOf rfl
      cases e2
      obtain ⟨is, rfl, rfl, _⟩ := rooms_int dE hr
      refine ⟨_, rfl, _, _, _, .ref e, rfl, rfl, SqT.of (s1 _ _ hJ), atI_nat (j := 3) rfl, e, _, rfl, .inl (SqL.of (s1 _ _ hE)), rfl, flat_iV _, ?_⟩
      rw [inV_iV]
      exact q1 hj _ _ _ is rfl H1 s1
/-- the tasks of L that need one of L -/
def stepL (zs : List (Addr × Nat × Nat)) (L : List Nat) : List Nat := L.filter fun t => zs.any fun z => decide (z.2.2 = t) && decide (z.2.1 ∈ L)
def iterL (zs : List (Addr × Nat × Nat)) (n : Nat) : Nat → List Nat
  | 0 => List.range n
  | k + 1 => stepL zs (iterL zs n k)
theorem mem_stepL {zs : List (Addr × Nat × Nat)} {L : List Nat} {t : Nat} : t ∈ stepL zs L ↔ t ∈ L ∧ ∃ z ∈ zs, z.2.2 = t ∧ z.2.1 ∈ L := by
  unfold stepL
  rw [List.mem_filter, List.any_eq_true]
  simp only [Bool.and_eq_true, decide_eq_true_iff]
theorem stepL_sub {zs : List (Addr × Nat × Nat)} {L : List Nat} {t : Nat} (h : t ∈ stepL zs L) : t ∈ L := (mem_stepL.mp h).1
theorem countP_lt {p q : Nat → Bool} : ∀ {l : List Nat}, (∀ x ∈ l, p x = true → q x = true) → ∀ {y : Nat}, y ∈ l → q y = true → p y = false → l.countP p < l.countP q
  | [], _, y, hy, _, _ => by cases hy
  | x :: l, h, y, hy, h1, h2 => by
    have hm : l.countP p ≤ l.countP q := List.countP_mono_left fun z hz => h z (List.mem_cons_of_mem _ hz)
    have hx : (if p x = true then 1 else 0) ≤ (if q x = true then 1 else 0 : Nat) := by
      cases e : p x with
      | false =>
        rw [if_neg Bool.false_ne_true]
        exact Nat.zero_le _
      | true =>
        rw [h x List.mem_cons_self e]
        exact Nat.le_refl _
    rw [List.countP_cons, List.countP_cons]
    rcases List.mem_cons.mp hy with e | hy
    · rw [← e, h1, h2, if_neg Bool.false_ne_true, if_pos rfl]
      omega
    · have ih := countP_lt (l := l) (fun z hz => h z (List.mem_cons_of_mem _ hz)) hy h1 h2
      omega
theorem ringless_iff {zs : List (Addr × Nat × Nat)} {n : Nat} (hz : ∀ z ∈ zs, z.2.1 < n ∧ z.2.2 < n) : iterL zs n n = [] ↔ Acyc zs := by
  constructor
  · intro e
    have nxt : ∀ {z : Addr × Nat × Nat}, z ∈ zs → ∀ k, z.2.1 ∈ iterL zs n k → z.2.2 ∈ iterL zs n (k + 1) := fun {z} hzm k => by
      induction k with
      | zero =>
        intro h
        exact mem_stepL.mpr ⟨List.mem_range.mpr (hz z hzm).2, z, hzm, rfl, h⟩
      | succ k ih =>
        intro h
        exact mem_stepL.mpr ⟨ih (stepL_sub h), z, hzm, rfl, h⟩
    refine ⟨fun t => (List.range (n + 1)).countP fun k => decide (t ∈ iterL zs n k), fun z hzm => ?_⟩
    show (List.range (n + 1)).countP (fun k => decide (z.2.1 ∈ iterL zs n k)) < (List.range (n + 1)).countP (fun k => decide (z.2.2 ∈ iterL zs n k))
    have ha : (List.range (n + 1)).countP (fun k => decide (z.2.1 ∈ iterL zs n k)) = (List.range n).countP (fun k => decide (z.2.1 ∈ iterL zs n k)) := by
      rw [List.range_succ, List.countP_append]
      simp [e]
    have hb : (List.range (n + 1)).countP (fun k => decide (z.2.2 ∈ iterL zs n k)) = 1 + (List.range n).countP (fun k => decide (z.2.2 ∈ iterL zs n (k + 1))) := by
      rw [List.range_succ_eq_map, List.countP_cons, List.countP_map]
      have h0 : z.2.2 ∈ iterL zs n 0 := List.mem_range.mpr (hz z hzm).2
      simp only [h0, decide_true, if_true]
      rw [Nat.add_comm]
      rfl
    rw [ha, hb]
    have := List.countP_mono_left (l := List.range n) (p := fun k => decide (z.2.1 ∈ iterL zs n k)) (q := fun k => decide (z.2.2 ∈ iterL zs n (k + 1))) fun k _ h => decide_eq_true (nxt hzm k (of_decide_eq_true h))
    omega
  · rintro ⟨rk, hrk⟩
    have many : ∀ k t, t ∈ iterL zs n k → k ≤ (List.range n).countP fun s => decide (rk s < rk t) := by
      intro k
      induction k with
      | zero => exact fun _ _ => Nat.zero_le _
      | succ k ih =>
        intro t ht
        obtain ⟨_, z, hzm, e, ha⟩ := mem_stepL.mp ht
        have h1 := ih _ ha
        have h2 := hrk z hzm
        rw [e] at h2
        have := countP_lt (l := List.range n) (p := fun s => decide (rk s < rk z.2.1)) (q := fun s => decide (rk s < rk t)) (fun x _ hx => decide_eq_true (Nat.lt_trans (of_decide_eq_true hx) h2)) (List.mem_range.mpr (hz z hzm).1) (decide_eq_true h2) (decide_eq_false (Nat.lt_irrefl _))
        omega
    rw [List.eq_nil_iff_forall_not_mem]
    intro t ht
    have hin : ∀ k, t ∈ iterL zs n k → t < n := by
      intro k
      induction k with
      | zero => exact List.mem_range.mp
      | succ k ih => exact fun h => ih (stepL_sub h)
    have h1 := many n t ht
    have h2 := countP_lt (l := List.range n) (p := fun s => decide (rk s < rk t)) (q := fun _ => true) (fun _ _ _ => rfl) (List.mem_range.mpr (hin n ht)) rfl (decide_eq_false (Nat.lt_irrefl _))
    have h3 : (List.range n).countP (fun _ => true) ≤ (List.range n).length := List.countP_le_length
    rw [List.length_range] at h3
    omega
theorem dec_nat (a b : Nat) : decide (V.int (a : Int) = V.int (b : Int)) = decide (a = b) := by
  by_cases h : a = b
  · rw [decide_eq_true h, decide_eq_true (by rw [h])]
  · rw [decide_eq_false h, decide_eq_false (show ¬ (V.int (a : Int) = V.int (b : Int)) from fun e => h (Int.ofNat.inj (V.int.inj e)))]
theorem any_empty {α β : Type} (f : α → β) (p : α → Bool) (l : List α) : (!((l.filter p).map f).isEmpty) = l.any p := by
  cases e : l.any p with
  | false =>
    have h := (isEmpty_filter f p l).mpr fun x hx => by
      cases q : p x with
      | false => rfl
      | true =>
        rw [List.any_eq_true.mpr ⟨x, hx, q⟩] at e
        cases e
    rw [h]
    rfl
  | true =>
    obtain ⟨x, hx, q⟩ := List.any_eq_true.mp e
    cases h : ((l.filter p).map f).isEmpty with
    | false => rfl
    | true =>
      have := (isEmpty_filter f p l).mp h x hx
      rw [q] at this
      cases this
def spRingless : Sp := fun vs H Q _ => ∃ (n : Nat) (N : Addr) (zs : List (Addr × Nat × Nat)), vs = [.int (n : Int), .ref N] ∧ NeedsAt H N zs ∧ (∀ z ∈ zs, z.2.1 < n ∧ z.2.2 < n) ∧ n ≤ 1000 ∧ zs.length < 64 ∧
  ∀ (c : Bool) (H' : Hp), Same H H' → (c = true ↔ Acyc zs) → Q (.bl c) H'
theorem ok__law_ringless (T : Env K mg) : Ok P w K mg base CX0 dd__law_ringless "_law_ringless" 1 ["_law_many", "_law_needs_here"] spRingless := by
  obtain ⟨fd, F⟩ := T.c.def_ 22 (d := dd__law_ringless) rfl
  refine ⟨fd, F, T.gl 22 _ rfl, F.kp, F.bindsN fun _ _ _ _ _ _ us hl => match us, hl with | [_, _], _ => rfl, ?_⟩
  refine F.ok sc__law_ringless (fun vs H Q E h => ?_) (fun cdv A outer s H vs Q E hr h => ?_)
  · obtain ⟨n, N, zs, rfl, hN, hz, hn, hzl, q⟩ := h
    rfl
  · obtain ⟨n, N, zs, rfl, hN, hz, hn, hzl, q⟩ := h
    refine ⟨_, PSs.nox (pss_cons (ps_set (i := 2) sc__law_ringless.nd rfl (Or.inr rfl) (pe_listRg (by rfl) (by rfl) (T.fr 35 _ rfl) (prg_1 (by rfl) (T.fr 37 _ rfl) (pv 0))))
      (pss_cons (ps_for PassesOwn.never rfl (pi_range1 (by rfl) (T.fr 37 _ rfl) (pa_cons (pv 0) pa_nil)) (pg_name (i := 3) sc__law_ringless.nd rfl (Or.inl rfl)) (pss_one (ps_set (i := 2) sc__law_ringless.nd rfl (Or.inr rfl) (pe_lc (own := [("_law_task", 4)]) (g := gName 4) (by rfl) sc__law_ringless.nd (pi_list (pv 2)) (blkOk_by (own := [("_law_task", 4)]) (N := N__law_ringless) (sc := defScope s__law_ringless) (by decide +kernel)) (fun _ _ _ _ _ => (pg_name (i := 4) sc__law_ringless.nd rfl (by first | exact Or.inl rfl | exact Or.inr rfl))) (fun _ _ _ _ _ => (pts_one (pt_cmpR (r := rNeD K) (op_neD hr.units) (pe_lc (own := [("_law_a", 5), ("_law_b", 6)]) (wi := iList K (tVar 1)) (g := gTup K 2 (gCons (gName 5) (gCons (gName 6) (gNil)))) (by rfl) sc__law_ringless.nd (pi_list (pv 1)) (blkOk_by (own := [("_law_a", 5), ("_law_b", 6)]) (N := N__law_ringless) (by rfl)) (fun _ _ _ _ _ => (pg_tup rfl (pgs_cons (pg_name (i := 5) sc__law_ringless.nd rfl (by first | exact Or.inl rfl | exact Or.inr rfl)) (pgs_cons (pg_name (i := 6) sc__law_ringless.nd rfl (by first | exact Or.inl rfl | exact Or.inr rfl)) pgs_nil)))) (fun _ _ _ _ _ => (pts_one (PW.pt (pw_and (pt_cmpR op_eq (pv 6) (pv 4) (nomark _)) (pw_and1 (pt_cmpR (r := rIn K false) op_in_seq (pv 5) (pv 2) (by rfl))))))) (fun _ _ _ _ _ => (pv 5))) (pe_lst pa_nil) (nomark _)))) (fun _ _ _ _ _ => (pv 4))))))
      (pss_one (ps_ret (pe_cmpR (op_eqD hr.units) (pv 2) (pe_lst pa_nil) (nomark _)))))), ?_⟩
    walk_at "u"
    refine ⟨_, rfl, _, rfl, ⟨by omega, by omega, by omega, by omega, by omega⟩, fun l nl => ?_⟩
    have e0 : rgV 0 (n : Int) = nV (List.range n) := by
      unfold rgV nV
      rw [show ((n : Int) - 0).toNat = n by omega]
      exact List.map_congr_left fun i _ => by
        show V.int (0 + (i : Int)) = V.int (i : Int)
        rw [Int.zero_add]
    rw [e0]
    have lle : ∀ k, (iterL zs n k).length ≤ n := fun k => by
      induction k with
      | zero => exact Nat.le_of_eq (List.length_range ..)
      | succ k ih => exact Nat.le_trans (List.length_filter_le ..) ih
    refine ⟨_, rfl, _, rfl, by omega, by omega, for_range (lo := 0) (n := (n : Int).toNat) (fun i σ H' => ∃ y3 l, σ = [some (.int (n : Int)), some (.ref N), some (.ref l), y3, none, none, none] ∧ Same H H' ∧ H' l = some (.lst (nV (iterL zs n i)))) ⟨none, l, rfl, same_upd nl, upd_same⟩ (fun i σ H' hi hP => ?_) (fun σ H' hP => ?_)⟩
    · obtain ⟨y3, l, rfl, sm, hL⟩ := hP
      refine ⟨_, rfl, l, rfl, ⟨_, SqL.of hL⟩, fun D nD => lc_list (K := K) (a := l) (xs := nV (iterL zs n i)) (fun k H2 => Same H' H2 ∧ H2 D = some (.lst (nV (((iterL zs n i).take k).filter fun t => zs.any fun z => decide (z.2.2 = t) && decide (z.2.1 ∈ iterL zs n i))))) ⟨same_upd nD, upd_same⟩ (fun k H2 _ hP => SqL.of (hP.1 _ _ hL)) (fun k v H2 hv hP => ?_) (fun H2 hP => ?_)⟩
      · obtain ⟨s2, hD⟩ := hP
        obtain ⟨t, ht, rfl⟩ := nV_of hv
        have hkl := (List.getElem?_eq_some_iff.mp ht).1
        have hkn := lle i
        have s12 := sm.trans s2
        refine ⟨rfl, ?_⟩
        walk_at "u"
        refine ⟨_, rfl, N, rfl, ⟨_, SqL.of (s12 _ _ hN.1)⟩, fun D2 nD2 => lc_list (K := K) (a := N) (xs := zs.map fun z => V.ref z.1) (fun j H3 => Same H2 H3 ∧ H3 D2 = some (.lst (nV (((zs.take j).filter fun z => decide (z.2.2 = t) && decide (z.2.1 ∈ iterL zs n i)).map fun z => z.2.1)))) ⟨same_upd nD2, upd_same⟩ (fun j H3 _ hP => SqL.of (hP.1 _ _ (s12 _ _ hN.1))) (fun j x H3 hx hP => ?_) (fun H3 hP => ?_)⟩
        · obtain ⟨s3, hD2⟩ := hP
          rw [List.getElem?_map] at hx
          cases ez : zs[j]? with
          | none =>
            rw [ez] at hx
            cases hx
          | some z =>
            rw [ez] at hx
            cases hx
            have hzm := List.mem_of_getElem? ez
            have hjl := (List.getElem?_eq_some_iff.mp ez).1
            refine ⟨z.1, _, rfl, SqT.of (s3 _ _ (s12 _ _ (hN.2 z hzm))), rfl, _, _, rfl, _, _, rfl, rfl, rfl, ?_⟩
            walk_at "u"
            refine ⟨_, rfl, _, rfl, rfl, _, rfl, ?_⟩
            rw [dec_nat, filter_snoc _ ez]
            refine ifB (fun c => ?_) (fun c => ?_)
            · refine ⟨_, rfl, _, rfl, l, _, rfl, .inl (SqL.of (s3 _ _ (s2 _ _ hL))), rfl, flat_nV _, ?_⟩
              rw [inV_nV]
              refine ⟨_, rfl, ?_⟩
              rw [c, Bool.true_and]
              refine ifB (fun c2 => ?_) (fun c2 => ?_)
              · rw [if_pos (show decide (z.2.1 ∈ iterL zs n i) = true from c2)]
                refine ⟨_, rfl, _, hD2, ?_, same_mut s3 nD2, ?_⟩
                · have e := List.length_filter_le (fun z : Addr × Nat × Nat => decide (z.2.2 = t) && decide (z.2.1 ∈ iterL zs n i)) (zs.take j)
                  rw [List.length_take] at e
                  rw [nV_len, List.length_map]
                  exact small_lt (by omega)
                · rw [upd_same, List.map_append, nV_app]
                  rfl
              · rw [if_neg (by rw [show decide (z.2.1 ∈ iterL zs n i) = false from c2]; exact Bool.false_ne_true)]
                exact ⟨s3, hD2⟩
            · rw [c, Bool.false_and]
              simp only [Bool.false_eq_true, if_false]
              exact ⟨s3, hD2⟩
        obtain ⟨s3, hD2⟩ := hP
        rw [List.length_map, List.take_length] at hD2
        refine ⟨(show 0 ≤ sizeLine by decide), fun e0 ne0 => ?_⟩
        have s4 := same_upd (o := .lst []) ne0
        have s24 := (s2.trans s3).trans s4
        refine ⟨.list (((zs.filter fun z => decide (z.2.2 = t) && decide (z.2.1 ∈ iterL zs n i)).map fun z => z.2.1).map fun (t : Nat) => PyData.int (t : Int)), .list [], .lst (SqL.of (s4 _ _ hD2)) (nD_all _), .lst (SqL.of upd_same) .nil, shaped_map (fun (t : Nat) => PyData.int (t : Int)) (fun _ => ⟨rfl, (show 0 ≤ 10 by decide)⟩) _, rfl, _, rfl, ?_⟩
        rw [eqv_list_nil, List.map_map, any_empty, filter_snoc _ ht]
        have hD4 := s4 _ _ (s3 _ _ hD)
        refine ifB (fun c => ?_) (fun c => ?_)
        · rw [if_pos c]
          refine ⟨_, rfl, _, hD4, ?_, same_mut s24 nD, ?_⟩
          · have e := List.length_filter_le (fun t => zs.any fun z => decide (z.2.2 = t) && decide (z.2.1 ∈ iterL zs n i)) ((iterL zs n i).take k)
            rw [List.length_take] at e
            rw [nV_len]
            exact small_lt (by omega)
          · rw [upd_same, nV_app]
        · rw [if_neg (by rw [c]; exact Bool.false_ne_true)]
          exact ⟨s24, hD4⟩
      · obtain ⟨s2, hD⟩ := hP
        rw [nV_len, List.take_length] at hD
        exact ⟨_, _, rfl, sm.trans s2, hD⟩
    · obtain ⟨y3, l, rfl, sm, hL⟩ := hP
      rw [Int.toNat_natCast] at hL
      refine ⟨_, rfl, (show 0 ≤ sizeLine by decide), fun e0 ne0 => ?_⟩
      have s2 := same_upd (o := .lst []) ne0
      refine ⟨.list ((iterL zs n n).map fun (t : Nat) => PyData.int (t : Int)), .list [], .lst (SqL.of (s2 _ _ hL)) (nD_all _), .lst (SqL.of upd_same) .nil, shaped_map (fun (t : Nat) => PyData.int (t : Int)) (fun _ => ⟨rfl, (show 0 ≤ 10 by decide)⟩) _, rfl, ?_⟩
      rw [eqv_list_nil]
      refine q _ _ (sm.trans s2) ?_
      rw [← ringless_iff hz, List.isEmpty_iff, List.map_eq_nil_iff]

/-! ### min, max of a tuple of two ints -/
def rMinP : List V → Hp → VK → Prop := fun vs H Q => ∃ (a : Addr) (i j : Int), vs = [V.ref a] ∧ H a = some (.tup [.int i, .int j]) ∧ Q (.int (if j < i then j else i)) H
def rMaxP : List V → Hp → VK → Prop := fun vs H Q => ∃ (a : Addr) (i j : Int), vs = [V.ref a] ∧ H a = some (.tup [.int i, .int j]) ∧ Q (.int (if i < j then j else i)) H
theorem pair_reads {X : Cx} {pins : List (Addr × Obj)} {σ : L2.St} {H : Hp} {s : Shared} {a : Addr} {i j : Int} (I : L2.Inv X pins σ H s) (h : H a = some (.tup [.int i, .int j])) : ∃ its : List Value, s.heap.IsTuple a its.toArray ∧ ReadsAll s.heap its.toArray.toList [.int i, .int j] [] := by
  obtain ⟨_, its, rv, o, ho, hc, n, hd⟩ := I.hok a _ h
  obtain ⟨t, u, rfl⟩ := rv.int2
  refine ⟨_, ⟨o, ho, hc, n, hd⟩, ?_⟩
  exact .cons (as := []) (.int i t) (.cons (as := []) (.int j u) .nil)
theorem alike_ii (i j : Int) : PySem.W.AlikeAll [.int i, .int j] := by
  refine ⟨fun x hx y hy => ?_, fun x hx => ?_⟩
  · rcases List.mem_cons.mp hx with rfl | hx
    · rcases List.mem_cons.mp hy with rfl | hy
      · rfl
      · rw [List.mem_singleton.mp hy]
        rfl
    · rw [List.mem_singleton.mp hx]
      rcases List.mem_cons.mp hy with rfl | hy
      · rfl
      · rw [List.mem_singleton.mp hy]
        rfl
  · rcases List.mem_cons.mp hx with rfl | hx
    · exact fun e => by cases e
    · rw [List.mem_singleton.mp hx]
      exact fun e => by cases e
theorem cr_minP {X : Cx} (hc : X.calm = true) (hu : X.A.units + 64 < cLine) : CallR X (.builtin "min") rMinP := by
  intro pins s σ H vs us Q I r h
  obtain ⟨a, i, j, rfl, ha, q⟩ := h
  rw [Vals.ref1 r]
  obtain ⟨its, hT, hR⟩ := pair_reads I ha
  refine PySem.W.min_tuple_data (I.ok.hd hc) hT hR (alike_ii i j) (by show X.A.units + 1 + 0 < cLine; omega) fun k v h' tk bs hv hr hk => ?_
  have e : PySem.W.minD (.int i) [.int j] = .int (if j < i then j else i) := by
    show (if PySem.W.dataLt (.int j) (.int i) = true then PyData.int j else PyData.int i) = _
    rw [PySem.W.dataLt_int]
    by_cases c : j < i
    · rw [if_pos c, if_pos (decide_eq_true c)]
    · rw [if_neg c, if_neg (fun z => c (of_decide_eq_true z))]
  rw [e] at hr
  cases hr with
  | int _ t => exact ⟨.int _, H, I.kept (h' := h') (t' := tk) hk, ⟨t, rfl⟩, q⟩
theorem cr_maxP {X : Cx} (hc : X.calm = true) (hu : X.A.units + 64 < cLine) : CallR X (.builtin "max") rMaxP := by
  intro pins s σ H vs us Q I r h
  obtain ⟨a, i, j, rfl, ha, q⟩ := h
  rw [Vals.ref1 r]
  obtain ⟨its, hT, hR⟩ := pair_reads I ha
  refine PySem.W.max_tuple_data (I.ok.hd hc) hT hR (alike_ii i j) (by show X.A.units + 1 + 0 < cLine; omega) fun k v h' tk bs hv hr hk => ?_
  have e : PySem.W.maxD (.int i) [.int j] = .int (if i < j then j else i) := by
    show (if PySem.W.dataLt (.int i) (.int j) = true then PyData.int j else PyData.int i) = _
    rw [PySem.W.dataLt_int]
    by_cases c : i < j
    · rw [if_pos c, if_pos (decide_eq_true c)]
    · rw [if_neg c, if_neg (fun z => c (of_decide_eq_true z))]
  rw [e] at hr
  cases hr with
  | int _ t => exact ⟨.int _, H, I.kept (h' := h') (t' := tk) hk, ⟨t, rfl⟩, q⟩
theorem room65 {k : Nat} {A : Around} (r : Room k A) : A.units + 65 < cLine := by
  have := r.un
  omega

def spLWhole : Sp := fun vs H Q _ => ∃ (x : V) (t : String), vs = [x] ∧ Kd H x t ∧ Q (.bl (isW x)) H
theorem ok__law_whole (T : Env K mg) : Ok P w K mg base CX0 dd__law_whole "_law_whole" 1 ["_law_thing"] spLWhole := by
  obtain ⟨fd, F⟩ := T.c.def_ 21 (d := dd__law_whole) rfl
  refine ⟨fd, F, T.gl 21 _ rfl, F.kp, F.bindsN fun _ _ _ _ _ _ us hl => match us, hl with | [_], _ => rfl, ?_⟩
  refine F.ok sc__law_whole (fun vs H Q E h => ?_) (fun cdv A outer s H vs Q E hr h => ?_)
  · obtain ⟨x, t, rfl, kd, q⟩ := h
    rfl
  · obtain ⟨x, t, rfl, kd, q⟩ := h
    refine ⟨_, PSs.nox (pss_one (ps_ret (pe_and (pe_callB call_isi (by rfl) (T.fr 29 _ rfl) (by decide +kernel) (pa_cons (pv 0) (pa_cons (pe_bltn (v := .ty "int") (by rfl) (T.fr 30 _ rfl) (by decide +kernel) rfl) pa_nil))) (pe_one (pe_not (pe_callB call_isi (by rfl) (T.fr 29 _ rfl) (by decide +kernel) (pa_cons (pv 0) (pa_cons (pe_bltn (v := .ty "bool") (by rfl) (T.fr 31 _ rfl) (by decide +kernel) rfl) pa_nil)))))))), ?_⟩
    walk_at "u"
    cases kd with
    | non => exact ⟨_, rfl, rIsi_of .non (by decide +kernel) ⟨_, rfl, iteF q⟩⟩
    | bl b => exact ⟨_, rfl, rIsi_of (.bl b) (by decide +kernel) ⟨_, rfl, iteT ⟨_, rfl, rIsi_of (b := true) (.bl b) (by decide +kernel) ⟨_, rfl, q⟩⟩⟩⟩
    | int i => exact ⟨_, rfl, rIsi_of (.int i) (by decide +kernel) ⟨_, rfl, iteT ⟨_, rfl, rIsi_of (b := false) (.int i) (by decide +kernel) ⟨_, rfl, q⟩⟩⟩⟩
    | str z => exact ⟨_, rfl, rIsi_of (.str z) (by decide +kernel) ⟨_, rfl, iteF q⟩⟩
    | lst e => exact ⟨_, rfl, rIsi_of (.lst e) (by decide +kernel) ⟨_, rfl, iteF q⟩⟩
    | tup e => exact ⟨_, rfl, rIsi_of (.tup e) (by decide +kernel) ⟨_, rfl, iteF q⟩⟩
/-! ### things that can be compared -/
def Lay (d : PyData) : Prop := d.canLay0 = true ∧ d.depth ≤ 50
theorem lay_all : ∀ {ds : List PyData}, PyData.canLayAll0 ds = true → PyData.depthAll ds ≤ 50 → ∀ x ∈ ds, Lay x
  | [], _, _, x, h => by cases h
  | d :: ds, h1, h2, x, hx => by
    have h3 : (PyData.canLay0 d && PyData.canLayAll0 ds) = true := h1
    have h4 : max (PyData.depth d) (PyData.depthAll ds) ≤ 50 := h2
    rw [Bool.and_eq_true] at h3
    have h5 := Nat.max_le.mp h4
    rcases List.mem_cons.mp hx with e | hx
    · rw [e]
      exact ⟨h3.1, h5.1⟩
    · exact lay_all h3.2 h5.2 x hx
theorem Lay.lst {ds : List PyData} (h : Lay (.list ds)) : ∀ x ∈ ds, Lay x := by
  have h2 : PyData.depthAll ds + 1 ≤ 50 := h.2
  exact lay_all h.1 (by omega)
theorem Lay.tup {ds : List PyData} (h : Lay (.tuple ds)) : ∀ x ∈ ds, Lay x := by
  have h2 : PyData.depthAll ds + 1 ≤ 50 := h.2
  exact lay_all h.1 (by omega)
theorem shaped_lay {ds : List PyData} (h : ∀ x ∈ ds, Lay x) : SeqAt.shaped (.list ds) = true := by
  have h1 : PyData.canLayAll0 ds = true ∧ PyData.depthAll ds ≤ 50 := by
    induction ds with
    | nil => exact ⟨rfl, Nat.zero_le _⟩
    | cons x r ih =>
      have hx := h x List.mem_cons_self
      have hr := ih fun y hy => h y (List.mem_cons_of_mem _ hy)
      refine ⟨?_, ?_⟩
      · show (PyData.canLay0 x && PyData.canLayAll0 r) = true
        rw [hx.1, hr.1]
        rfl
      · show max (PyData.depth x) (PyData.depthAll r) ≤ 50
        exact Nat.max_le.mpr ⟨hx.2, hr.2⟩
  show (PyData.canLayAll0 ds && decide (PyData.depthAll ds + 1 ≤ 64)) = true
  rw [h1.1, decide_eq_true (by omega)]
  rfl
theorem DaAll.snoc {H : Hp} : ∀ {vs : List V} {ds : List PyData} {v : V} {d : PyData}, DaAll H vs ds → Da H v d → DaAll H (vs ++ [v]) (ds ++ [d])
  | _, _, _, _, .nil, h => .cons h .nil
  | _, _, _, _, .cons x r, h => .cons x (DaAll.snoc r h)
theorem isEmpty_filt {α : Type} (p : α → Bool) (l : List α) : (l.filter p).isEmpty = true ↔ ∀ x ∈ l, p x = false := by
  rw [List.isEmpty_iff]
  exact list_bool_nil
theorem eqv_pr (a b : Nat × Nat) : PyData.eqv (prD a) (prD b) = decide (a = b) := by
  have e : PyData.eqv (prD a) (prD b) = (((a.1 : Int) == (b.1 : Int)) && (((a.2 : Int) == (b.2 : Int)) && true)) := rfl
  rw [e]
  by_cases h : a = b
  · subst h
    rw [decide_eq_true rfl, beq_self_eq_true, beq_self_eq_true]
    rfl
  · rw [decide_eq_false h]
    by_cases h1 : (a.1 : Int) = (b.1 : Int)
    · have h2 : ¬ (a.2 : Int) = (b.2 : Int) := fun z => h (Prod.ext (Int.ofNat.inj h1) (Int.ofNat.inj z))
      rw [beq_eq_false_iff_ne.mpr h2, Bool.false_and, Bool.and_false]
    · rw [beq_eq_false_iff_ne.mpr h1, Bool.false_and]
theorem cut_take (xs : List V) (k : Nat) (h : k ≤ xs.length) : cutV xs none (some (k : Int)) = xs.take k := by
  unfold cutV
  rw [HT.sIx_nat, HT.sIx_none, List.drop_zero, Nat.sub_zero, Nat.min_eq_left h]
theorem DaAll.take {H : Hp} : ∀ {vs : List V} {ds : List PyData}, DaAll H vs ds → ∀ k : Nat, DaAll H (vs.take k) (ds.take k)
  | _, _, .nil, k => by
    rw [List.take_nil, List.take_nil]
    exact .nil
  | _, _, .cons x r, 0 => .nil
  | _, _, .cons x r, k + 1 => .cons x (DaAll.take r k)
theorem needD_bad {n p q : Int} (h : p < 0 ∨ q < 0 ∨ n ≤ p ∨ n ≤ q ∨ p = q) : needD n (.tuple [.int p, .int q]) = false := by
  cases z : needD n (.tuple [.int p, .int q]) with
  | false => rfl
  | true =>
    have h2 : ((decide (0 ≤ p) && decide (p < n)) && ((decide (0 ≤ q) && decide (q < n)) && !decide (p = q))) = true := z
    simp only [Bool.and_eq_true, decide_eq_true_iff, Bool.not_eq_true', decide_eq_false_iff_not] at h2
    omega
def spLIsJob : Sp := fun vs H Q _ => ∃ (v : V) (d : PyData), vs = [v] ∧ Da H v d ∧ FewD d ∧ Lay d ∧ ∀ (c : Bool) (H' : Hp), Same H H' → (c = true ↔ IsJobD d) → Q (.bl c) H'
theorem ok__law_is_job (T : Env K mg) : Ok P w K mg base CX0 dd__law_is_job "_law_is_job" 2 ["_law_thing"] spLIsJob := by
  obtain ⟨fd__law_ringless, D__law_ringless, g__law_ringless, k__law_ringless, b__law_ringless, G__law_ringless⟩ := ok__law_ringless (P := P) (w := w) (base := base) T
  obtain ⟨fd__law_whole, D__law_whole, g__law_whole, k__law_whole, b__law_whole, G__law_whole⟩ := ok__law_whole (P := P) (w := w) (base := base) T
  obtain ⟨fd, F⟩ := T.c.def_ 23 (d := dd__law_is_job) rfl
  refine ⟨fd, F, T.gl 23 _ rfl, F.kp, F.bindsN fun _ _ _ _ _ _ us hl => match us, hl with | [_], _ => rfl, ?_⟩
  refine F.ok sc__law_is_job (fun vs H Q E h => ?_) (fun cdv A outer s H vs Q E hr h => ?_)
  · obtain ⟨v, d, rfl, hd, hf, hly, q⟩ := h
    rfl
  · obtain ⟨v, d, rfl, hd, hf, hly, q⟩ := h
    refine ⟨_, PSs.nox (pss_cons (ps_if (PW.pt (pw_or (pt_not (pt_val (pe_callB call_isi (by rfl) (T.fr 29 _ rfl) (by decide +kernel) (pa_cons (pv 0) (pa_cons (pe_bltn (v := .ty "tuple") (by rfl) (T.fr 34 _ rfl) (by decide +kernel) rfl) pa_nil))))) (pw_or (pt_cmpR op_ne (pe_callB call_len_seq (by rfl) (T.fr 33 _ rfl) (by decide +kernel) (pa_cons (pv 0) pa_nil)) pe_int (nomark _)) (pw_or1 (pt_cmpR (op_neD hr.units) (pe_lc (own := [("_law_part", 7)]) (g := gName 7) (by rfl) sc__law_is_job.nd (pi_tup (pv 0)) (blkOk_by (own := [("_law_part", 7)]) (N := N__law_is_job) (sc := defScope s__law_is_job) (by decide +kernel)) (fun _ _ _ _ _ => (pg_name (i := 7) sc__law_is_job.nd rfl (by first | exact Or.inl rfl | exact Or.inr rfl))) (fun _ _ _ _ _ => (pts_one (pt_not (pt_val (pe_callB (r := rIsi K) call_isi (by rfl) (T.fr 29 _ rfl) (by decide +kernel) (pa_cons (pv 7) (pa_cons (pe_bltn (v := .ty "list") (by rfl) (T.fr 35 _ rfl) (by decide +kernel) rfl) pa_nil))))))) (fun _ _ _ _ _ => (pv 7))) (pe_lst pa_nil) (nomark _)))))) (pss_one (ps_ret pe_bl)) pss_nil)
      (pss_cons (ps_asg (pv 0) (pg_tup rfl (pgs_cons (pg_name (i := 1) sc__law_is_job.nd rfl (Or.inl rfl)) (pgs_cons (pg_name (i := 2) sc__law_is_job.nd rfl (Or.inl rfl)) (pgs_cons (pg_name (i := 3) sc__law_is_job.nd rfl (Or.inl rfl)) (pgs_cons (pg_name (i := 4) sc__law_is_job.nd rfl (Or.inl rfl)) pgs_nil))))))
      (pss_cons (ps_if (PW.pt (pw_or (pt_cmpR (op_neD hr.units) (pe_lc (own := [("_law_one", 6)]) (g := gName 6) (by rfl) sc__law_is_job.nd (pi_list (pv 1)) (blkOk_by (own := [("_law_one", 6)]) (N := N__law_is_job) (sc := defScope s__law_is_job) (by decide +kernel)) (fun _ _ _ _ _ => (pg_name (i := 6) sc__law_is_job.nd rfl (by first | exact Or.inl rfl | exact Or.inr rfl))) (fun _ _ _ _ _ => (pts_one (PW.pt (pw_or (pt_not (pt_val (pe_call G__law_whole (hr.mono (by decide)) (by rfl) g__law_whole k__law_whole b__law_whole .nil pass0 (pa_cons (pv 6) pa_nil)))) (pw_or1 (pt_cmpR op_lt (pv 6) pe_int (nomark _))))))) (fun _ _ _ _ _ => (pv 6))) (pe_lst pa_nil) (nomark _)) (pw_or1 (pt_cmpR op_ne (pe_callB call_len_seq (by rfl) (T.fr 33 _ rfl) (by decide +kernel) (pa_cons (pv 2) pa_nil)) (pe_callB call_len_seq (by rfl) (T.fr 33 _ rfl) (by decide +kernel) (pa_cons (pv 1) pa_nil)) (nomark _))))) (pss_one (ps_ret pe_bl)) pss_nil)
      (pss_cons (ps_if (pt_cmpR (op_neD hr.units) (pe_lc (own := [("_law_one", 6)]) (g := gName 6) (by rfl) sc__law_is_job.nd (pi_list (pv 2)) (blkOk_by (own := [("_law_one", 6)]) (N := N__law_is_job) (sc := defScope s__law_is_job) (by decide +kernel)) (fun _ _ _ _ _ => (pg_name (i := 6) sc__law_is_job.nd rfl (by first | exact Or.inl rfl | exact Or.inr rfl))) (fun _ _ _ _ _ => (pts_one (PW.pt (pw_and (pt_cmpR op_notN (pv 6) pe_non (nomark _)) (pw_and1 (PW.pt (pw_or (pt_not (pt_val (pe_call G__law_whole (hr.mono (by decide)) (by rfl) g__law_whole k__law_whole b__law_whole .nil pass0 (pa_cons (pv 6) pa_nil)))) (pw_or1 (pt_cmpR op_lt (pv 6) pe_int (nomark _)))))))))) (fun _ _ _ _ _ => (pv 6))) (pe_lst pa_nil) (nomark _)) (pss_one (ps_ret pe_bl)) pss_nil)
      (pss_cons (ps_for PassesOwn.never rfl (pi_range1 (by rfl) (T.fr 37 _ rfl) (pa_cons (pe_callB call_len_seq (by rfl) (T.fr 33 _ rfl) (by decide +kernel) (pa_cons (pv 3) pa_nil)) pa_nil)) (pg_name (i := 5) sc__law_is_job.nd rfl (Or.inl rfl)) (pss_cons (ps_set (i := 6) sc__law_is_job.nd rfl (Or.inl rfl) (pe_ix ix_list (pv 3) (pv 5) (fun _ _ => rfl)))
      (pss_cons (ps_if (PW.pt (pw_or (pt_not (pt_val (pe_callB call_isi (by rfl) (T.fr 29 _ rfl) (by decide +kernel) (pa_cons (pv 6) (pa_cons (pe_bltn (v := .ty "tuple") (by rfl) (T.fr 34 _ rfl) (by decide +kernel) rfl) pa_nil))))) (pw_or (pt_cmpR op_ne (pe_callB call_len_seq (by rfl) (T.fr 33 _ rfl) (by decide +kernel) (pa_cons (pv 6) pa_nil)) pe_int (nomark _)) (pw_or (pt_not (pt_val (pe_call G__law_whole (hr.mono (by decide)) (by rfl) g__law_whole k__law_whole b__law_whole .nil pass0 (pa_cons (pe_ix ix_tup (pv 6) pe_int (fun _ _ => rfl)) pa_nil)))) (pw_or1 (pt_not (pt_val (pe_call G__law_whole (hr.mono (by decide)) (by rfl) g__law_whole k__law_whole b__law_whole .nil pass0 (pa_cons (pe_ix ix_tup (pv 6) pe_int (fun _ _ => rfl)) pa_nil))))))))) (pss_one (ps_ret pe_bl)) pss_nil)
      (pss_one (ps_if (PW.pt (pw_or (pt_cmpR op_lt (pe_callB (cr_minP rfl hr.units) (by rfl) (T.fr 38 _ rfl) (by decide +kernel) (pa_cons (pv 6) pa_nil)) pe_int (nomark _)) (pw_or (pt_cmpR op_ge (pe_callB (cr_maxP rfl hr.units) (by rfl) (T.fr 39 _ rfl) (by decide +kernel) (pa_cons (pv 6) pa_nil)) (pe_callB call_len_seq (by rfl) (T.fr 33 _ rfl) (by decide +kernel) (pa_cons (pv 1) pa_nil)) (nomark _)) (pw_or (pt_cmpR op_eq (pe_ix ix_tup (pv 6) pe_int (fun _ _ => rfl)) (pe_ix ix_tup (pv 6) pe_int (fun _ _ => rfl)) (nomark _)) (pw_or1 (pt_cmpR (op_inD (room65 hr)) (pv 6) (pe_slice sl_list (pv 3) po_none (po_some (pv 5))) (by rfl))))))) (pss_one (ps_ret pe_bl)) pss_nil)))))
      (pss_cons (ps_if (pt_cmpR (op_neD hr.units) (pe_lc (own := [("_law_one", 6)]) (g := gName 6) (by rfl) sc__law_is_job.nd (pi_list (pv 4)) (blkOk_by (own := [("_law_one", 6)]) (N := N__law_is_job) (sc := defScope s__law_is_job) (by decide +kernel)) (fun _ _ _ _ _ => (pg_name (i := 6) sc__law_is_job.nd rfl (by first | exact Or.inl rfl | exact Or.inr rfl))) (fun _ _ _ _ _ => (pts_one (PW.pt (pw_or (pt_not (pt_val (pe_call G__law_whole (hr.mono (by decide)) (by rfl) g__law_whole k__law_whole b__law_whole .nil pass0 (pa_cons (pv 6) pa_nil)))) (pw_or (pt_cmpR op_lt (pv 6) pe_int (nomark _)) (pw_or1 (pt_cmpR op_gt (pv 6) pe_int (nomark _)))))))) (fun _ _ _ _ _ => (pv 6))) (pe_lst pa_nil) (nomark _)) (pss_one (ps_ret pe_bl)) pss_nil)
      (pss_one (ps_ret (pe_call G__law_ringless (hr.mono (by decide)) (by rfl) g__law_ringless k__law_ringless b__law_ringless .nil pass0 (pa_cons (pe_callB call_len_seq (by rfl) (T.fr 33 _ rfl) (by decide +kernel) (pa_cons (pv 1) pa_nil)) (pa_cons (pv 3) pa_nil))))))))))), ?_⟩
    walk_at "u"
    have no : ∀ H', Same H H' → ¬ IsJobD d → Q (.bl false) H' := fun H' s h => q false H' s ⟨fun z => Bool.noConfusion z, fun z => absurd z h⟩
    refine ⟨_, rfl, hd.isTup ⟨_, rfl, ?_⟩⟩
    cases ed : isTupD d with
    | false =>
      exact iteT (iteT (no _ (Same.refl _) fun ⟨fs, ds, ns, rs, e, _⟩ => by
        rw [e] at ed
        cases ed))
    | true =>
      obtain ⟨J, xs, ps, rfl, rfl, hJ, hps⟩ := hd.tupOf ed
      obtain ⟨f1, f2⟩ := hf ps rfl
      have hxl := hps.len
      refine iteF ⟨_, rfl, J, _, rfl, .inr (SqT.of hJ), rfl, _, rfl, ?_⟩
      by_cases hl : xs.length = 4
      rotate_left
      · rw [decide_eq_false (fun e => hl (by have := V.int.inj e; omega))]
        exact iteT (iteT (no _ (Same.refl _) fun ⟨fs, ds, ns, rs, e, _⟩ => by
          have e2 := PyData.tuple.inj e
          rw [e2] at hxl
          exact hl hxl))
      rw [hl]
      refine iteF ?_
      refine ⟨_, rfl, J, rfl, ⟨_, SqT.of ((Same.refl H) _ _ hJ)⟩, fun D0 nD0 => lc_tup (K := K) (a := J) (xs := xs) (fun i H2 => Same H H2 ∧ ∃ ys, H2 D0 = some (.lst ys) ∧ DaAll H ys ((ps.take i).filter fun d => !isLstD d)) ⟨same_upd nD0, [], upd_same, .nil⟩ (fun i H2 _ hP => SqT.of (hP.1 _ _ ((Same.refl H) _ _ hJ))) (fun i v H2 hv hP => ?_) (fun HD0 hP => ?_)⟩
      · obtain ⟨sm, ys, hD, hys⟩ := hP
        obtain ⟨d, hdi, hdv⟩ := hps.get hv
        have hi := (List.getElem?_eq_some_iff.mp hdi).1
        have hyl : ys.length < sizeLine := by
          have e1 := hys.len
          have e2 := List.length_filter_le (fun d => !isLstD d) (ps.take i)
          rw [List.length_take] at e2
          exact small_lt (by omega)
        refine ⟨rfl, ?_⟩
        walk_at "u"
        refine ⟨_, rfl, (hdv.same sm).isLst ⟨_, rfl, ?_⟩⟩
        refine ifB (fun c => ?_) (fun c => ?_)
        · exact ⟨_, rfl, _, hD, hyl, same_mut sm nD0, _, upd_same, by rw [filter_snoc _ hdi, if_pos c]; exact hys.snoc hdv⟩
        · exact ⟨sm, ys, hD, by rw [filter_snoc _ hdi, if_neg (by rw [c]; exact Bool.false_ne_true)]; exact hys⟩
      obtain ⟨tD0, ysD0, hD0, hyD0⟩ := hP
      rw [hps.len, List.take_length] at hyD0
      refine ⟨(show 0 ≤ sizeLine by decide), fun eD0 neD0 => ?_⟩
      have uD0 := (((Same.refl H)).trans tD0).trans (same_upd (o := .lst []) neD0)
      refine ⟨.list (ps.filter fun d => !isLstD d), .list [], .lst (SqL.of ((same_upd neD0) _ _ hD0)) (DaAll.dp (DaAll.same uD0 hyD0)), .lst (SqL.of upd_same) .nil, shaped_lay (fun x hx => hly.tup x (List.mem_filter.mp hx).1), rfl, _, rfl, ?_⟩
      rw [eqv_list_nil]
      generalize upd HD0 eD0 (.lst []) = GD0 at uD0 ⊢
      cases hall : ps.all isLstD with
      | false =>
        have e1 : (ps.filter fun d => !isLstD d).isEmpty = false := by
          cases z : (ps.filter fun d => !isLstD d).isEmpty with
          | false => rfl
          | true =>
            have h := (isEmpty_filt _ _).mp z
            have : ps.all isLstD = true := List.all_eq_true.mpr fun x hx => by
              have := h x hx
              cases y : isLstD x with
              | true => rfl
              | false =>
                rw [y] at this
                cases this
            rw [this] at hall
            cases hall
        rw [e1]
        refine iteT (no _ uD0 fun ⟨fs, ds, ns, rs, e, _⟩ => ?_)
        have e2 := PyData.tuple.inj e
        rw [e2] at hall
        cases hall
      | true =>
        have e1 : (ps.filter fun d => !isLstD d).isEmpty = true := (isEmpty_filt _ _).mpr fun x hx => by
          rw [List.all_eq_true.mp hall x hx]
          rfl
        rw [e1]
        refine iteF ?_
        clear e1 hyD0
        match xs, ps, hps, hl with
        | [va, vb, vc, ve], [da, db, dc, de], .cons ha (.cons hb (.cons hc (.cons he .nil))), _ =>
          have hall2 : (isLstD da && (isLstD db && (isLstD dc && (isLstD de && true)))) = true := hall
          simp only [Bool.and_eq_true] at hall2
          obtain ⟨l1, l2, l3, l4, _⟩ := hall2
          obtain ⟨a, xa, fs, rfl, rfl, hA, dA⟩ := ha.lstOf l1
          obtain ⟨b, xb, ds, rfl, rfl, hB, dB⟩ := hb.lstOf l2
          obtain ⟨c, xc, ns, rfl, rfl, hC, dC⟩ := hc.lstOf l3
          obtain ⟨e, xe, rs, rfl, rfl, hE, dE⟩ := he.lstOf l4
          obtain ⟨g1, g2, g3, g4⟩ := f2 fs ds ns rs rfl
          have y1 : Lay (.list fs) := hly.tup _ (by simp)
          have y2 : Lay (.list ds) := hly.tup _ (by simp)
          have y3 : Lay (.list ns) := hly.tup _ (by simp)
          have y4 : Lay (.list rs) := hly.tup _ (by simp)
          have jd : IsJobD (.tuple [.list fs, .list ds, .list ns, .list rs]) ↔ ds.length = fs.length ∧ fs.all (wfD 1) = true ∧ ds.all dueD = true ∧ NeedsD fs.length ns ∧ rs.all roomD = true := by
            constructor
            · rintro ⟨fs', ds', ns', rs', e, h⟩
              have e2 := PyData.tuple.inj e
              injection e2 with a1 e2
              injection e2 with a2 e2
              injection e2 with a3 e2
              injection e2 with a4 e2
              cases PyData.list.inj a1
              cases PyData.list.inj a2
              cases PyData.list.inj a3
              cases PyData.list.inj a4
              exact h
            · intro h
              exact ⟨fs, ds, ns, rs, rfl, h⟩
          rw [jd] at no
          have nall : ∀ (f : PyData → Bool) (l : List PyData), (!(l.filter fun d => !f d).isEmpty) = !(l.all f) := fun f l => by
            congr 1
            cases z : l.all f with
            | true => exact (isEmpty_filt _ _).mpr fun x hx => by rw [List.all_eq_true.mp z x hx]; rfl
            | false =>
              cases y : (l.filter fun d => !f d).isEmpty with
              | false => rfl
              | true =>
                have h := (isEmpty_filt _ _).mp y
                have : l.all f = true := List.all_eq_true.mpr fun x hx => by
                  have := h x hx
                  cases w : f x with
                  | true => rfl
                  | false =>
                    rw [w] at this
                    cases this
                rw [this] at z
                cases z
          refine ⟨_, rfl, J, _, rfl, SqT.of (uD0 _ _ hJ), rfl, _, _, rfl, _, _, rfl, _, _, rfl, _, _, rfl, rfl, ?_⟩
          refine ⟨_, rfl, a, rfl, ⟨_, SqL.of (uD0 _ _ hA)⟩, fun D1 nD1 => lc_list (K := K) (a := a) (xs := xa) (fun i H2 => Same GD0 H2 ∧ ∃ ys, H2 D1 = some (.lst ys) ∧ DaAll H ys ((fs.take i).filter fun d => !wfD 1 d)) ⟨same_upd nD1, [], upd_same, .nil⟩ (fun i H2 _ hP => SqL.of (hP.1 _ _ (uD0 _ _ hA))) (fun i v H2 hv hP => ?_) (fun HD1 hP => ?_)⟩
          · obtain ⟨sm, ys, hD, hys⟩ := hP
            obtain ⟨d, hdi, hdv⟩ := dA.get hv
            have hi := (List.getElem?_eq_some_iff.mp hdi).1
            have hyl : ys.length < sizeLine := by
              have e1 := hys.len
              have e2 := List.length_filter_le (fun d => !wfD 1 d) (fs.take i)
              rw [List.length_take] at e2
              exact small_lt (by omega)
            refine ⟨rfl, ?_⟩
            walk_at "u"
            cases hdv with
            | int z =>
              have hdv : Da H (.int z) (.int z) := .int z
              refine ⟨_, rfl, _, _, rfl, .int z, _, rfl, iteF ?_⟩
              refine ⟨_, rfl, _, _, rfl, rfl, _, rfl, ?_⟩
              have ez : (!wfD 1 (.int z)) = decide (z < 1) := by
                show (!decide (1 ≤ z)) = decide (z < 1)
                by_cases w : z < 1
                · rw [decide_eq_true w, decide_eq_false (by omega)]; rfl
                · rw [decide_eq_false w, decide_eq_true (by omega)]; rfl
              refine ifB (fun c => ?_) (fun c => ?_)
              · exact ⟨_, rfl, _, hD, hyl, same_mut sm nD1, _, upd_same, by rw [filter_snoc _ hdi, if_pos (ez.trans c)]; exact hys.snoc hdv⟩
              · exact ⟨sm, ys, hD, by rw [filter_snoc _ hdi, if_neg (by rw [ez, c]; exact Bool.false_ne_true)]; exact hys⟩
            | non =>
              have hdv : Da H .non .none := .non
              exact ⟨_, rfl, _, _, rfl, .non, _, rfl, iteT ⟨_, rfl, _, hD, hyl, same_mut sm nD1, _, upd_same, by rw [filter_snoc _ hdi, if_pos (show (!wfD 1 (.none : PyData)) = true from rfl)]; exact hys.snoc hdv⟩⟩
            | bl w =>
              have hdv : Da H (.bl w) (.bool w) := .bl w
              exact ⟨_, rfl, _, _, rfl, .bl w, _, rfl, iteT ⟨_, rfl, _, hD, hyl, same_mut sm nD1, _, upd_same, by rw [filter_snoc _ hdi, if_pos (show (!wfD 1 ((.bool w) : PyData)) = true from rfl)]; exact hys.snoc hdv⟩⟩
            | str w =>
              have hdv : Da H (.str w) (.str w) := .str w
              exact ⟨_, rfl, _, _, rfl, .str w, _, rfl, iteT ⟨_, rfl, _, hD, hyl, same_mut sm nD1, _, upd_same, by rw [filter_snoc _ hdi, if_pos (show (!wfD 1 ((.str w) : PyData)) = true from rfl)]; exact hys.snoc hdv⟩⟩
            | lst ee rr =>
              have hdv := Da.lst ee rr
              exact ⟨_, rfl, _, _, rfl, .lst ((uD0.trans sm) _ _ ee), _, rfl, iteT ⟨_, rfl, _, hD, hyl, same_mut sm nD1, _, upd_same, by rw [filter_snoc _ hdi, if_pos (show (!wfD 1 (.list _ : PyData)) = true from rfl)]; exact hys.snoc hdv⟩⟩
            | tup ee rr =>
              have hdv := Da.tup ee rr
              exact ⟨_, rfl, _, _, rfl, .tup ((uD0.trans sm) _ _ ee), _, rfl, iteT ⟨_, rfl, _, hD, hyl, same_mut sm nD1, _, upd_same, by rw [filter_snoc _ hdi, if_pos (show (!wfD 1 (.tuple _ : PyData)) = true from rfl)]; exact hys.snoc hdv⟩⟩
          obtain ⟨tD1, ysD1, hD1, hyD1⟩ := hP
          rw [dA.len, List.take_length] at hyD1
          refine ⟨(show 0 ≤ sizeLine by decide), fun eD1 neD1 => ?_⟩
          have uD1 := ((uD0).trans tD1).trans (same_upd (o := .lst []) neD1)
          refine ⟨.list (fs.filter fun d => !wfD 1 d), .list [], .lst (SqL.of ((same_upd neD1) _ _ hD1)) (DaAll.dp (DaAll.same uD1 hyD1)), .lst (SqL.of upd_same) .nil, shaped_lay (fun x hx => y1.lst x (List.mem_filter.mp hx).1), rfl, _, rfl, ?_⟩
          rw [eqv_list_nil]
          generalize upd HD1 eD1 (.lst []) = GD1 at uD1 ⊢
          rw [nall]
          cases hall1 : fs.all (wfD 1) with
          | false => exact iteT (iteT (no _ uD1 fun h => by rw [h.2.1] at hall1; cases hall1))
          | true =>
          refine iteF ⟨_, rfl, b, _, rfl, .inl (SqL.of (uD1 _ _ hB)), _, rfl, a, _, rfl, .inl (SqL.of (uD1 _ _ hA)), rfl, _, rfl, ?_⟩
          rw [dB.len, dA.len]
          by_cases hlen : ds.length = fs.length
          rotate_left
          · rw [decide_eq_false (fun e => hlen (by have := V.int.inj e; omega))]
            exact iteT (no _ uD1 fun h => hlen h.1)
          rw [hlen]
          refine iteNS rfl ?_
          refine ⟨_, rfl, b, rfl, ⟨_, SqL.of (uD1 _ _ hB)⟩, fun D2 nD2 => lc_list (K := K) (a := b) (xs := xb) (fun i H2 => Same GD1 H2 ∧ ∃ ys, H2 D2 = some (.lst ys) ∧ DaAll H ys ((ds.take i).filter fun d => !dueD d)) ⟨same_upd nD2, [], upd_same, .nil⟩ (fun i H2 _ hP => SqL.of (hP.1 _ _ (uD1 _ _ hB))) (fun i v H2 hv hP => ?_) (fun HD2 hP => ?_)⟩
          · obtain ⟨sm, ys, hD, hys⟩ := hP
            obtain ⟨d, hdi, hdv⟩ := dB.get hv
            have hi := (List.getElem?_eq_some_iff.mp hdi).1
            have hyl : ys.length < sizeLine := by
              have e1 := hys.len
              have e2 := List.length_filter_le (fun d => !dueD d) (ds.take i)
              rw [List.length_take] at e2
              exact small_lt (by omega)
            refine ⟨rfl, ?_⟩
            walk_at "u"
            cases hdv with
            | non =>
              refine ⟨_, rfl, rfl, _, rfl, iteF (iteF ?_)⟩
              exact ⟨sm, ys, hD, by rw [filter_snoc _ hdi, if_neg (show ¬ (!dueD .none) = true from Bool.false_ne_true)]; exact hys⟩
            | int z =>
              have hdv : Da H (.int z) (.int z) := .int z
              refine ⟨_, rfl, rfl, _, rfl, iteT ⟨_, rfl, _, _, rfl, .int z, _, rfl, iteF ?_⟩⟩
              refine ⟨_, rfl, _, _, rfl, rfl, _, rfl, ?_⟩
              have ez : (!dueD (.int z)) = decide (z < 0) := by
                show (!decide (0 ≤ z)) = decide (z < 0)
                by_cases w : z < 0
                · rw [decide_eq_true w, decide_eq_false (by omega)]; rfl
                · rw [decide_eq_false w, decide_eq_true (by omega)]; rfl
              refine ifB (fun c => ?_) (fun c => ?_)
              · exact ⟨_, rfl, _, hD, hyl, same_mut sm nD2, _, upd_same, by rw [filter_snoc _ hdi, if_pos (ez.trans c)]; exact hys.snoc hdv⟩
              · exact ⟨sm, ys, hD, by rw [filter_snoc _ hdi, if_neg (by rw [ez, c]; exact Bool.false_ne_true)]; exact hys⟩
            | bl w =>
              have hdv : Da H (.bl w) (.bool w) := .bl w
              exact ⟨_, rfl, rfl, _, rfl, iteT ⟨_, rfl, _, _, rfl, .bl w, _, rfl, iteT ⟨_, rfl, _, hD, hyl, same_mut sm nD2, _, upd_same, by rw [filter_snoc _ hdi, if_pos (show (!dueD ((.bool w) : PyData)) = true from rfl)]; exact hys.snoc hdv⟩⟩⟩
            | str w =>
              have hdv : Da H (.str w) (.str w) := .str w
              exact ⟨_, rfl, rfl, _, rfl, iteT ⟨_, rfl, _, _, rfl, .str w, _, rfl, iteT ⟨_, rfl, _, hD, hyl, same_mut sm nD2, _, upd_same, by rw [filter_snoc _ hdi, if_pos (show (!dueD ((.str w) : PyData)) = true from rfl)]; exact hys.snoc hdv⟩⟩⟩
            | lst ee rr =>
              have hdv := Da.lst ee rr
              exact ⟨_, rfl, rfl, _, rfl, iteT ⟨_, rfl, _, _, rfl, .lst ((uD1.trans sm) _ _ ee), _, rfl, iteT ⟨_, rfl, _, hD, hyl, same_mut sm nD2, _, upd_same, by rw [filter_snoc _ hdi, if_pos (show (!dueD (.list _ : PyData)) = true from rfl)]; exact hys.snoc hdv⟩⟩⟩
            | tup ee rr =>
              have hdv := Da.tup ee rr
              exact ⟨_, rfl, rfl, _, rfl, iteT ⟨_, rfl, _, _, rfl, .tup ((uD1.trans sm) _ _ ee), _, rfl, iteT ⟨_, rfl, _, hD, hyl, same_mut sm nD2, _, upd_same, by rw [filter_snoc _ hdi, if_pos (show (!dueD (.tuple _ : PyData)) = true from rfl)]; exact hys.snoc hdv⟩⟩⟩
          obtain ⟨tD2, ysD2, hD2, hyD2⟩ := hP
          rw [dB.len, List.take_length] at hyD2
          refine ⟨(show 0 ≤ sizeLine by decide), fun eD2 neD2 => ?_⟩
          have uD2 := ((uD1).trans tD2).trans (same_upd (o := .lst []) neD2)
          refine ⟨.list (ds.filter fun d => !dueD d), .list [], .lst (SqL.of ((same_upd neD2) _ _ hD2)) (DaAll.dp (DaAll.same uD2 hyD2)), .lst (SqL.of upd_same) .nil, shaped_lay (fun x hx => y2.lst x (List.mem_filter.mp hx).1), rfl, _, rfl, ?_⟩
          rw [eqv_list_nil]
          generalize upd HD2 eD2 (.lst []) = GD2 at uD2 ⊢
          rw [nall]
          cases hall2 : ds.all dueD with
          | false => exact iteT (no _ uD2 fun h => by rw [h.2.2.1] at hall2; cases hall2)
          | true =>
          refine iteF ?_
          have ncl := dC.len
          refine ⟨_, rfl, c, _, rfl, .inl (SqL.of (uD2 _ _ hC)), ?_⟩
          rw [ncl]
          have badn : ∀ {i : Nat} {d : PyData}, ns[i]? = some d → needD (fs.length : Int) d = false → ∀ H', Same H H' → Q (.bl false) H' := fun {i d} hi e H' s => no H' s fun h => by
            have := List.all_eq_true.mp h.2.2.2.1.all d (List.mem_of_getElem? hi)
            rw [e] at this
            cases this
          refine ⟨_, rfl, by omega, by omega, for_range (lo := 0) (n := ns.length) (fun i σ H' => ∃ y5 y6, σ = [some (.ref J), some (.ref a), some (.ref b), some (.ref c), some (.ref e), y5, y6, none] ∧ Same H H' ∧ ∃ zs : List (Nat × Nat), ns.take i = zs.map prD ∧ (∀ z ∈ zs, z.1 < fs.length ∧ z.2 < fs.length ∧ z.1 ≠ z.2) ∧ zs.Nodup) ⟨none, none, rfl, uD2, [], rfl, fun z hz => (by cases hz), List.nodup_nil⟩ (fun i σ H' hi hP => ?_) (fun σ H' hP => ?_)⟩
          · obtain ⟨y5, y6, rfl, sm, zs, ez, hzs, hnd⟩ := hP
            obtain ⟨v, hv⟩ : ∃ v, xc[i]? = some v := ⟨_, List.getElem?_eq_getElem (by omega)⟩
            obtain ⟨d, hdi, hdv0⟩ := dC.get hv
            have hdv := hdv0.same sm
            have ei : (0 : Int) + (i : Int) = (i : Int) := by omega
            rw [ei]
            walk_at "u"
            refine ⟨_, rfl, _, rfl, c, xc, _, v, rfl, rfl, SqL.of (sm _ _ hC), atI_nat hv, ?_⟩
            refine ⟨_, rfl, hdv.isTup ⟨_, rfl, ?_⟩⟩
            cases et : isTupD d with
            | false =>
              exact iteT (badn hdi (by cases d with
                | tuple _ => cases et
                | _ => rfl) _ sm)
            | true =>
            obtain ⟨t, xs2, ds2, rfl, rfl, hT, hd2⟩ := hdv.tupOf et
            refine iteF ⟨_, rfl, t, _, rfl, .inr (SqT.of hT), rfl, _, rfl, ?_⟩
            by_cases h2l : xs2.length = 2
            rotate_left
            · rw [decide_eq_false (fun e => h2l (by have := V.int.inj e; omega))]
              exact iteT (badn hdi (needD_len (by rw [← hd2.len]; exact h2l)) _ sm)
            rw [h2l]
            refine iteF ?_
            cases hd2 with
            | nil => cases h2l
            | cons hx hd3 =>
            cases hd3 with
            | nil => cases h2l
            | cons hy hd4 =>
            cases hd4 with
            | cons _ _ => simp at h2l
            | nil =>
            rename_i x dx y dy
            have nw1 : isW x = false → needD (fs.length : Int) (.tuple [dx, dy]) = false := fun z => by
              cases hx with
              | int _ => cases z
              | _ => rfl
            have nw2 : isW y = false → needD (fs.length : Int) (.tuple [dx, dy]) = false := fun z => by
              have z2 : taskD (fs.length : Int) dy = false := by
                cases hy with
                | int _ => cases z
                | _ => rfl
              show (taskD _ dx && (taskD _ dy && neD dx dy)) = false
              rw [z2, Bool.false_and, Bool.and_false]
            refine ⟨_, rfl, t, _, _, x, rfl, rfl, SqT.of hT, atI_nat (j := 0) rfl, x, _, rfl, hx.kd, _, rfl, ?_⟩
            cases ex : isW x with
            | false => exact iteT (badn hdi (nw1 ex) _ sm)
            | true =>
            refine iteF ⟨_, rfl, t, _, _, y, rfl, rfl, SqT.of hT, atI_nat (j := 1) rfl, y, _, rfl, hy.kd, _, rfl, ?_⟩
            cases ey : isW y with
            | false => exact iteT (badn hdi (nw2 ey) _ sm)
            | true =>
            refine iteF ?_
            obtain ⟨p1, rfl, rfl⟩ : ∃ p1 : Int, x = .int p1 ∧ dx = .int p1 := by
              cases hx with
              | int i => exact ⟨i, rfl, rfl⟩
              | _ => cases ex
            obtain ⟨q1, rfl, rfl⟩ : ∃ q1 : Int, y = .int q1 ∧ dy = .int q1 := by
              cases hy with
              | int i => exact ⟨i, rfl, rfl⟩
              | _ => cases ey
            refine ⟨_, rfl, t, p1, q1, rfl, hT, _, _, rfl, rfl, _, rfl, ?_⟩
            refine ifB (fun c1 => ?_) (fun c1 => ?_)
            · have := of_decide_eq_true c1
              exact badn hdi (needD_bad (by split at this <;> omega)) _ sm
            have c1' := of_decide_eq_false c1
            refine ⟨_, rfl, t, p1, q1, rfl, hT, _, rfl, a, _, rfl, .inl (SqL.of (sm _ _ hA)), _, _, rfl, rfl, _, rfl, ?_⟩
            rw [dA.len]
            refine ifB (fun c2 => ?_) (fun c2 => ?_)
            · have := of_decide_eq_true c2
              exact badn hdi (needD_bad (by split at this <;> omega)) _ sm
            have c2' := of_decide_eq_false c2
            refine ⟨_, rfl, t, _, _, .int p1, rfl, rfl, SqT.of hT, atI_nat (j := 0) rfl, _, rfl, t, _, _, .int q1, rfl, rfl, SqT.of hT, atI_nat (j := 1) rfl, rfl, _, rfl, ?_⟩
            refine ifB (fun c3 => ?_) (fun c3 => ?_)
            · have := V.int.inj (of_decide_eq_true c3)
              exact badn hdi (needD_bad (by omega)) _ sm
            have c3' : ¬ p1 = q1 := fun z => of_decide_eq_false c3 (by rw [z])
            obtain ⟨p2, rfl⟩ : ∃ p2 : Nat, p1 = (p2 : Int) := ⟨p1.toNat, by split at c1' <;> omega⟩
            obtain ⟨q2, rfl⟩ : ∃ q2 : Nat, q1 = (q2 : Int) := ⟨q1.toNat, by split at c1' <;> omega⟩
            have hp2 : p2 < fs.length := by split at c2' <;> omega
            have hq2 : q2 < fs.length := by split at c2' <;> omega
            have dt := dC.take i
            refine ⟨_, rfl, _, rfl, _, rfl, _, rfl, c, xc, rfl, SqL.of (sm _ _ hC), fun w nw => ?_⟩
            rw [cut_take _ _ (by omega)]
            have sw := same_upd (o := .lst (xc.take i)) nw
            refine ⟨prD (p2, q2), ns.take i, (hdv.same sw).dp, .lst (SqL.of upd_same) (DaAll.dp (DaAll.same (sm.trans sw) dt)), rfl, shaped_lay (fun x hx => y3.lst x (List.mem_of_mem_take hx)), _, rfl, ?_⟩
            have ea : (ns.take i).any (fun z => PyData.eqv z (prD (p2, q2))) = decide ((p2, q2) ∈ zs) := by
              rw [ez, List.any_map, Bool.eq_iff_iff, List.any_eq_true, decide_eq_true_iff]
              constructor
              · rintro ⟨z, hz, e⟩
                have e2 : decide (z = (p2, q2)) = true := by
                  rw [← eqv_pr]
                  exact e
                rw [← of_decide_eq_true e2]
                exact hz
              · intro h
                exact ⟨_, h, by show PyData.eqv (prD (p2, q2)) (prD (p2, q2)) = true; rw [eqv_pr]; exact decide_eq_true rfl⟩
            rw [ea]
            refine ifB (fun c4 => ?_) (fun c4 => ?_)
            · have hin := of_decide_eq_true c4
              refine no _ (sm.trans sw) fun h => ?_
              obtain ⟨zz, e1, _, hnd2, _⟩ := h.2.2.2.1
              have e2 : (zz.take i).map prD = zs.map prD := by rw [← ez, e1, List.map_take]
              have e3 := map_prD_inj e2
              have e4 : (zz.map prD)[i]? = some (prD (p2, q2)) := by rw [← e1]; exact hdi
              rw [List.getElem?_map] at e4
              cases e5 : zz[i]? with
              | none =>
                rw [e5] at e4
                cases e4
              | some z =>
                rw [e5] at e4
                have e6 : z = (p2, q2) := prD_inj (Option.some.inj e4)
                rw [← e3] at hin
                obtain ⟨j, hj, ej⟩ := List.mem_take_iff_getElem.mp hin
                have e7 : zz[j]? = some (p2, q2) := by
                  rw [List.getElem?_eq_getElem (by omega), ej]
                rw [e6] at e5
                have := nd_ix hnd2 e5 e7
                omega
            · have hnin := of_decide_eq_false c4
              refine ⟨_, _, rfl, sm.trans sw, zs ++ [(p2, q2)], ?_, fun z hz => ?_, nd_snoc hnd hnin⟩
              · rw [List.take_add_one, hdi, ez, List.map_append]
                rfl
              · rcases List.mem_append.mp hz with hz | hz
                · exact hzs z hz
                · rw [List.mem_singleton.mp hz]
                  exact ⟨hp2, hq2, fun e => c3' (by rw [show p2 = q2 from e])⟩
          obtain ⟨y5, y6, rfl, s4, zs, ez, hzs, hnd⟩ := hP
          rw [List.take_length] at ez
          walk_at "u"
          refine ⟨_, rfl, e, rfl, ⟨_, SqL.of (s4 _ _ hE)⟩, fun D3 nD3 => lc_list (K := K) (a := e) (xs := xe) (fun i H2 => Same H' H2 ∧ ∃ ys, H2 D3 = some (.lst ys) ∧ DaAll H ys ((rs.take i).filter fun d => !roomD d)) ⟨same_upd nD3, [], upd_same, .nil⟩ (fun i H2 _ hP => SqL.of (hP.1 _ _ (s4 _ _ hE))) (fun i v H2 hv hP => ?_) (fun HD3 hP => ?_)⟩
          · obtain ⟨sm, ys, hD, hys⟩ := hP
            obtain ⟨d, hdi, hdv⟩ := dE.get hv
            have hi := (List.getElem?_eq_some_iff.mp hdi).1
            have hyl : ys.length < sizeLine := by
              have e1 := hys.len
              have e2 := List.length_filter_le (fun d => !roomD d) (rs.take i)
              rw [List.length_take] at e2
              exact small_lt (by omega)
            refine ⟨rfl, ?_⟩
            walk_at "u"
            cases hdv with
            | int z =>
              have hdv : Da H (.int z) (.int z) := .int z
              refine ⟨_, rfl, _, _, rfl, .int z, _, rfl, iteF ?_⟩
              have ez : roomD (.int z) = (decide (0 ≤ z) && decide (z ≤ 3)) := rfl
              refine ⟨_, rfl, _, _, rfl, rfl, _, rfl, ?_⟩
              refine ifB (fun c => ?_) (fun c => ?_)
              · have cz := of_decide_eq_true c
                exact ⟨_, rfl, _, hD, hyl, same_mut sm nD3, _, upd_same, by rw [filter_snoc _ hdi, if_pos (by rw [ez, decide_eq_false (by omega)]; rfl)]; exact hys.snoc hdv⟩
              have cz := of_decide_eq_false c
              refine ⟨_, rfl, _, _, rfl, rfl, _, rfl, ?_⟩
              refine ifB (fun c9 => ?_) (fun c9 => ?_)
              · have cz9 := of_decide_eq_true c9
                exact ⟨_, rfl, _, hD, hyl, same_mut sm nD3, _, upd_same, by rw [filter_snoc _ hdi, if_pos (by rw [ez, decide_eq_true (by omega : 0 ≤ z), decide_eq_false (by omega)]; rfl)]; exact hys.snoc hdv⟩
              · have cz9 := of_decide_eq_false c9
                exact ⟨sm, ys, hD, by rw [filter_snoc _ hdi, if_neg (by rw [ez, decide_eq_true (by omega : 0 ≤ z), decide_eq_true (by omega : z ≤ 3)]; exact Bool.false_ne_true)]; exact hys⟩
            | non =>
              have hdv : Da H .non .none := .non
              exact ⟨_, rfl, _, _, rfl, .non, _, rfl, iteT ⟨_, rfl, _, hD, hyl, same_mut sm nD3, _, upd_same, by rw [filter_snoc _ hdi, if_pos (show (!roomD (.none : PyData)) = true from rfl)]; exact hys.snoc hdv⟩⟩
            | bl w =>
              have hdv : Da H (.bl w) (.bool w) := .bl w
              exact ⟨_, rfl, _, _, rfl, .bl w, _, rfl, iteT ⟨_, rfl, _, hD, hyl, same_mut sm nD3, _, upd_same, by rw [filter_snoc _ hdi, if_pos (show (!roomD ((.bool w) : PyData)) = true from rfl)]; exact hys.snoc hdv⟩⟩
            | str w =>
              have hdv : Da H (.str w) (.str w) := .str w
              exact ⟨_, rfl, _, _, rfl, .str w, _, rfl, iteT ⟨_, rfl, _, hD, hyl, same_mut sm nD3, _, upd_same, by rw [filter_snoc _ hdi, if_pos (show (!roomD ((.str w) : PyData)) = true from rfl)]; exact hys.snoc hdv⟩⟩
            | lst ee rr =>
              have hdv := Da.lst ee rr
              exact ⟨_, rfl, _, _, rfl, .lst ((s4.trans sm) _ _ ee), _, rfl, iteT ⟨_, rfl, _, hD, hyl, same_mut sm nD3, _, upd_same, by rw [filter_snoc _ hdi, if_pos (show (!roomD (.list _ : PyData)) = true from rfl)]; exact hys.snoc hdv⟩⟩
            | tup ee rr =>
              have hdv := Da.tup ee rr
              exact ⟨_, rfl, _, _, rfl, .tup ((s4.trans sm) _ _ ee), _, rfl, iteT ⟨_, rfl, _, hD, hyl, same_mut sm nD3, _, upd_same, by rw [filter_snoc _ hdi, if_pos (show (!roomD (.tuple _ : PyData)) = true from rfl)]; exact hys.snoc hdv⟩⟩
          obtain ⟨tD3, ysD3, hD3, hyD3⟩ := hP
          rw [dE.len, List.take_length] at hyD3
          refine ⟨(show 0 ≤ sizeLine by decide), fun eD3 neD3 => ?_⟩
          have uD3 := (s4.trans tD3).trans (same_upd (o := .lst []) neD3)
          refine ⟨.list (rs.filter fun d => !roomD d), .list [], .lst (SqL.of ((same_upd neD3) _ _ hD3)) (DaAll.dp (DaAll.same uD3 hyD3)), .lst (SqL.of upd_same) .nil, shaped_lay (fun x hx => y4.lst x (List.mem_filter.mp hx).1), rfl, _, rfl, ?_⟩
          rw [eqv_list_nil]
          generalize upd HD3 eD3 (.lst []) = GD3 at uD3 ⊢
          rw [nall]
          cases hall5 : rs.all roomD with
          | false => exact iteT (no _ uD3 fun h => by rw [h.2.2.2.2] at hall5; cases hall5)
          | true =>
          refine iteF ?_
          have hal : ns.all (needD (fs.length : Int)) = true := by
            rw [ez, List.all_map, List.all_eq_true]
            intro z hz
            obtain ⟨w1, w2, w3⟩ := hzs z hz
            exact needD_of (by omega) (by omega) w3
          obtain ⟨zA, ex1, ex2, hzA⟩ := needs_of dC hal
          have ezA : zA.map (·.2) = zs := map_prD_inj (by rw [List.map_map, ← ez, ex2]; rfl)
          have hNA : NeedsAt GD3 c zA := ⟨by rw [uD3 _ _ hC, ex1], fun z hz => uD3 _ _ (hzA z hz).1⟩
          refine ⟨_, rfl, a, _, rfl, .inl (SqL.of (uD3 _ _ hA)), _, rfl, fs.length, c, zA, by rw [dA.len]; rfl, hNA, (fun z hz => (hzA z hz).2), g1, ?_, fun cc H6 s6 hcc => ?_⟩
          · have := congrArg List.length ex2
            rw [List.length_map] at this
            omega
          refine q _ _ (uD3.trans s6) ?_
          rw [jd, hcc]
          constructor
          · rintro ⟨rk, hrk⟩
            refine ⟨hlen, hall1, hall2, ⟨zs, ez, fun z hz => ⟨(hzs z hz).1, (hzs z hz).2.1⟩, hnd, rk, fun z hz => ?_⟩, hall5⟩
            rw [← ezA] at hz
            obtain ⟨y, hy, rfl⟩ := List.mem_map.mp hz
            exact hrk y hy
          · rintro ⟨_, _, _, ⟨zz, e1, _, _, rk, hrk⟩, _⟩
            have e3 : zz = zs := map_prD_inj (by rw [← e1, ez])
            rw [e3, ← ezA] at hrk
            exact ⟨rk, fun z hz => hrk z.2 (List.mem_map.mpr ⟨z, hz, rfl⟩)⟩

/-- isinstance of the error in the suite that caught it -/
def rIsP (K : PySem.W.Frag) (a : Addr) (cls : Value) (d : Option Addr) : List V → Hp → VK → Prop := fun xs H Q => ∃ (D : Addr) (c : V) (cv : Value) (b : Bool), cls = .ref D ∧ d = none ∧ xs = [.ref a, c] ∧ ExcC K D ∧ ClsV c cv ∧ PySem.W.kitOne K (.ref D) cv = some b ∧ Q (.bl b) H
theorem call_isP {X : Cx} {a : Addr} {oe : Obj} {cls : Value} {d : Option Addr} (hp : (a, oe) ∈ X.pn) (hz : Zc cls d oe) (hf : ∃ vs, oe.data = .fields vs) : CallR X (.builtin "isinstance") (rIsP X.K a cls d) := by
  intro pins s σ H xs us Q I r h
  obtain ⟨D, c, cv, b, rfl, rfl, rfl, C, k, e, q⟩ := h
  obtain ⟨u1, u2, rfl, r1, r2⟩ := vals2 r
  have e2 := k.eq r2
  subst e2
  cases (show u1 = Value.ref a from r1)
  have there := (I.pin (a, oe) (List.mem_append_left _ hp)).1
  obtain ⟨vs, hv⟩ := hf
  have J : PySem.W.InstAt s.heap a oe D none := by
    obtain ⟨oc, od, oda, osl⟩ := oe
    obtain ⟨h1, h2⟩ := hz
    dsimp only at h1 h2 hv
    subst h1 h2 hv
    exact ⟨there, rfl, rfl, trivial⟩
  exact PySem.W.kia_one (PySem.W.handS_kitx_exc C.hg C.hk C.hs C.hd C.ha C.hn C.ht C.hm) I.kIn J e (fun z => nomatch z) fun tk => ⟨.bl b, H, I.kept (t' := tk) fun _ _ z => z, rfl, q⟩

/-- what _law_narrow tells -/
def spLNarrow (K : PySem.W.Frag) : Sp := fun vs H Q _ => ∃ (v : V) (d : PyData), vs = [v] ∧ Da H v d ∧ FewD d ∧ (IsJobD d → ∀ (a b c : PyData) (rs : List Int), d = .tuple [a, b, c, .list (rs.map .int)] → ∀ H', Same H H' → Q (.bl (!decide (3 ∈ rs))) H') ∧
  (¬ IsJobD d → ∀ (p : Addr) H', Same H H' → H' p = some (.lst [.str "error", .bl true, .bl true]) → Q (.ref p) H')
theorem ok__law_narrow (T : Env K mg) : Ok P w K mg base CX0 dd__law_narrow "_law_narrow" 9 ["_law_thing"] (spLNarrow K) := by
  obtain ⟨fd_is_narrow, D_is_narrow, g_is_narrow, k_is_narrow, b_is_narrow, G_is_narrow⟩ := ok_is_narrow (P := P) (w := w) (base := base) T
  obtain ⟨fd, F⟩ := T.c.def_ 25 (d := dd__law_narrow) rfl
  refine ⟨fd, F, T.gl 25 _ rfl, F.kp, F.bindsN fun _ _ _ _ _ _ us hl => match us, hl with | [_], _ => rfl, ?_⟩
  refine F.ok sc__law_narrow (fun vs H Q E h => ?_) (fun cdv A outer s H vs Q E hr h => ?_)
  · obtain ⟨v, d, rfl, hd, hf, q1, q2⟩ := h
    rfl
  · obtain ⟨v, d, rfl, hd, hf, q1, q2⟩ := h
    refine ⟨_, PSs.nox (pss_cons (ps_set (i := 1) sc__law_narrow.nd rfl (Or.inl rfl) pe_non)
      (pss_cons (ps_try_keep (i := 2) rfl rfl rfl sc__law_narrow.nd rfl rfl ⟨rfl, by decide, .inl (T.gl 44 _ rfl)⟩ takes0 (fun W pn xe tk _ => (pss_one (ps_set (i := 1) sc__law_narrow.nd rfl (Or.inl rfl) (pe_callS G_is_narrow (hr.mono (by decide)) (by rfl) g_is_narrow k_is_narrow b_is_narrow (fun σ => passAt tk σ) (pa_cons (pv 0) pa_nil))))) (fun a oe cls d pn hz hf => (pss_one (ps_set (i := 1) sc__law_narrow.nd rfl (Or.inl rfl) (pe_lst (pa_cons pe_str (pa_cons (pe_callB (r := rIsP K a cls d) (call_isP List.mem_cons_self hz hf) (by rfl) (T.fr 29 _ rfl) (by decide +kernel) (pa_cons (pv 2) (pa_cons (pe_glob (v := .ref (He.ga K "JobError")) (by rfl) (T.gl 43 _ rfl) rfl) pa_nil))) (pa_cons (pe_callB (r := rIsP K a cls d) (call_isP List.mem_cons_self hz hf) (by rfl) (T.fr 29 _ rfl) (by decide +kernel) (pa_cons (pv 2) (pa_cons (pe_bltn (v := .ty "ValueError") (by rfl) (T.fr 40 _ rfl) (by decide +kernel) rfl) pa_nil))) pa_nil))))))))
      (pss_one (ps_ret (pv 1))))), ?_⟩
    walk_at "u"
    refine ⟨_, rfl, v, d, rfl, hd, hf, fun hj a b c rs e H1 s1 => ⟨_, rfl, q1 hj a b c rs e H1 s1⟩, fun hj H1 s1 => ?_⟩
    refine ⟨true, (T.xm 47 _ _ _ rfl), fun _ a na => ?_, fun z => Bool.noConfusion z⟩
    refine ⟨_, rfl, He.ga K "NoJob", _, _, true, rfl, rfl, rfl, excB_ok (T.xk 0 _ rfl), .own _, of_decide_eq_true (T.xk 1 _ rfl), _, rfl, He.ga K "NoJob", _, _, true, rfl, rfl, rfl, excB_ok (T.xk 0 _ rfl), .ty _, of_decide_eq_true (T.xk 2 _ rfl), (show 3 ≤ sizeLine by decide), fun p np na' => ?_⟩
    have pa : p ≠ a := ne_of_none upd_same na'
    refine ⟨_, rfl, q2 hj p _ ((s1.trans (same_upd np)).trans (same_upd na')) ?_⟩
    rw [upd_ne pa, upd_same]
theorem DaAll.append {H : Hp} : ∀ {vs ws : List V} {ds es : List PyData}, DaAll H vs ds → DaAll H ws es → DaAll H (vs ++ ws) (ds ++ es)
  | _, _, _, _, .nil, h => h
  | _, _, _, _, .cons x r, h => .cons x (DaAll.append r h)
/-- any truth that _law_far tells of a job -/
def spLFar : Sp := fun vs H Q _ => ∃ (v : V) (d : PyData), vs = [v] ∧ Da H v d ∧ FewD d ∧ IsJobD d ∧ ∀ (c : Bool) H', Same H H' → Q (.bl c) H'
theorem ok__law_far (T : Env K mg) : Ok P w K mg base CX0 dd__law_far "_law_far" 1 ["_law_thing"] spLFar := by
  obtain ⟨fd, F⟩ := T.c.def_ 26 (d := dd__law_far) rfl
  refine ⟨fd, F, T.gl 26 _ rfl, F.kp, F.bindsN fun _ _ _ _ _ _ us hl => match us, hl with | [_], _ => rfl, ?_⟩
  refine F.ok sc__law_far (fun vs H Q E h => ?_) (fun cdv A outer s H vs Q E hr h => ?_)
  · obtain ⟨v, d, rfl, hd, hf, hj, q⟩ := h
    rfl
  · obtain ⟨v, d, rfl, hd, hf, hj, q⟩ := h
    refine ⟨_, PSs.nox (pss_cons (ps_asg (pv 0) (pg_tup rfl (pgs_cons (pg_name (i := 1) sc__law_far.nd rfl (Or.inl rfl)) (pgs_cons (pg_name (i := 2) sc__law_far.nd rfl (Or.inl rfl)) (pgs_cons (pg_name (i := 3) sc__law_far.nd rfl (Or.inl rfl)) (pgs_cons (pg_name (i := 4) sc__law_far.nd rfl (Or.inl rfl)) pgs_nil))))))
      (pss_cons (ps_setLc (i := 5) (own := [("_law_number", 6)]) (g := gName 6) (by rfl) sc__law_far.nd rfl rfl (sw_true rfl rfl rfl (by decide +kernel)) (pi_list (pe_op op_cat (pv 1) (pv 2))) (blkOk_by (own := [("_law_number", 6)]) (N := N__law_far) (sc := defScope s__law_far) (by decide +kernel)) (fun _ _ _ _ _ => (pg_name (i := 6) sc__law_far.nd rfl (by first | exact Or.inl rfl | exact Or.inr rfl))) (fun _ _ _ _ _ => (pts_one (PW.pt (pw_and (pt_cmpR op_notN (pv 6) pe_non (nomark _)) (pw_and1 (pt_cmpR op_gt (pv 6) pe_int (nomark _))))))) (fun _ _ _ _ _ => (pv 6)))
      (pss_one (ps_ret (pe_or (pe_cmpR (op_neD hr.units) (pv 5) (pe_lst pa_nil) (nomark _)) (pe_or (pe_cmpR op_gt (pe_callB call_len_seq (by rfl) (T.fr 33 _ rfl) (by decide +kernel) (pa_cons (pv 1) pa_nil)) (pe_ix ix_list (pe_lst (pa_cons pe_int (pa_cons pe_int pa_nil))) (pe_callTy call_int1 (by rfl) (T.fr 30 _ rfl) (by decide +kernel) (pa_cons (pe_cmpR op_in_seq pe_int (pv 4) (by rfl)) pa_nil)) (fun _ _ => rfl)) (nomark _)) (pe_or (pe_cmpR op_gt (pe_callB call_len_seq (by rfl) (T.fr 33 _ rfl) (by decide +kernel) (pa_cons (pv 3) pa_nil)) pe_int (nomark _)) (pe_one (pe_cmpR op_gt (pe_callB call_len_seq (by rfl) (T.fr 33 _ rfl) (by decide +kernel) (pa_cons (pv 4) pa_nil)) pe_int (nomark _)))))))))), ?_⟩
    walk_at "u"
    have hj' := hj
    obtain ⟨fs, ds, ns, rs, rfl, hlen, h1, h2, _, h5⟩ := hj'
    obtain ⟨J, xs, ps, rfl, e, hJ, hps⟩ := hd.tupOf rfl
    cases e
    obtain ⟨g1, g2, g3, g4⟩ := (hf _ rfl).2 fs ds ns rs rfl
    cases hps with
    | cons ha hps =>
      cases hps with
      | cons hb hps =>
      cases hps with
      | cons hc hps =>
      cases hps with
      | cons he hps =>
      cases hps
      obtain ⟨a, xa, fs', rfl, e1, hA, dA⟩ := ha.lstOf rfl
      cases e1
      obtain ⟨b, xb, ds', rfl, e1, hB, dB⟩ := hb.lstOf rfl
      cases e1
      obtain ⟨c, xc, ns', rfl, e1, hC, dC⟩ := hc.lstOf rfl
      cases e1
      obtain ⟨e, xe, rs', rfl, e1, hE, dE⟩ := he.lstOf rfl
      cases e1
      obtain ⟨is, rfl, rfl, _⟩ := rooms_int dE h5
      refine ⟨_, rfl, J, _, rfl, SqT.of hJ, rfl, _, _, rfl, _, _, rfl, _, _, rfl, _, _, rfl, rfl, ?_⟩
      have lab : (xa ++ xb).length ≤ 2000 := by
        rw [List.length_append, dA.len, dB.len]
        omega
      refine ⟨_, rfl, _, rfl, a, b, xa, xb, rfl, rfl, hA, hB, by rw [← List.length_append]; exact small_sz (by omega), fun M nM => ?_⟩
      have s1 := same_upd (o := .lst (xa ++ xb)) nM
      have hM : (upd H M (.lst (xa ++ xb))) M = some (.lst (xa ++ xb)) := upd_same
      generalize upd H M (.lst (xa ++ xb)) = H1 at s1 hM ⊢
      have elt : ∀ {i : Nat} {v : V}, (xa ++ xb)[i]? = some v → v = .non ∨ ∃ z, v = .int z := fun {i v} hv => by
        obtain ⟨d, hdi, hdv⟩ := (dA.append dB).get hv
        rcases List.mem_append.mp (List.mem_of_getElem? hdi) with hm | hm
        · have := List.all_eq_true.mp h1 d hm
          cases hdv with
          | int z => exact .inr ⟨z, rfl⟩
          | _ => cases this
        · have := List.all_eq_true.mp h2 d hm
          cases hdv with
          | int z => exact .inr ⟨z, rfl⟩
          | non => exact .inl rfl
          | _ => cases this
      refine ⟨M, rfl, ⟨_, SqL.of hM⟩, fun D nD => lc_list (K := K) (a := M) (xs := xa ++ xb) (fun i H2 => Same H1 H2 ∧ ∃ gs : List Int, H2 D = some (.lst (iV gs)) ∧ gs.length ≤ i) ⟨same_upd nD, [], upd_same, Nat.le_refl _⟩ (fun i H2 _ hP => SqL.of (hP.1 _ _ hM)) (fun i v H2 hv hP => ?_) (fun H2 hP => ?_)⟩
      · obtain ⟨sm, gs, hD, hgl⟩ := hP
        have hi := (List.getElem?_eq_some_iff.mp hv).1
        refine ⟨rfl, ?_⟩
        walk_at "u"
        rcases elt hv with rfl | ⟨z, rfl⟩
        · exact ⟨_, rfl, rfl, _, rfl, iteF (iteF ⟨sm, gs, hD, by omega⟩)⟩
        · refine ⟨_, rfl, rfl, _, rfl, iteT ⟨_, rfl, _, _, rfl, rfl, _, rfl, ?_⟩⟩
          refine ifB (fun c => ?_) (fun c => ⟨sm, gs, hD, by omega⟩)
          exact ⟨_, rfl, _, hD, by rw [iV_len]; exact small_lt (by omega), same_mut sm nD, gs ++ [z], by rw [upd_same, iV_app], by rw [List.length_append, List.length_singleton]; omega⟩
      obtain ⟨s2, gs, hD, _⟩ := hP
      refine ⟨_, rfl, (show 0 ≤ sizeLine by decide), fun e0 ne0 => ?_⟩
      have s3 := same_upd (o := .lst []) ne0
      have s13 := (s1.trans s2).trans s3
      refine ⟨.list (gs.map .int), .list [], .lst (SqL.of (s3 _ _ hD)) (dpAll_iV gs), .lst (SqL.of upd_same) .nil, shaped_map .int (fun _ => ⟨rfl, (show 0 ≤ 10 by decide)⟩) gs, rfl, ?_⟩
      refine ⟨_, rfl, ifB (fun _ => q true _ s13) (fun _ => ?_)⟩
      refine ⟨_, rfl, a, _, rfl, .inl (SqL.of (s13 _ _ hA)), (show 2 ≤ sizeLine by decide), fun l nl => ?_⟩
      have s5 := s13.trans (same_upd (o := .lst [.int 12, .int 9]) nl)
      refine ⟨_, rfl, e, _, rfl, .inl (SqL.of (s5 _ _ hE)), rfl, flat_iV _, .inr ⟨_, rfl, ?_⟩⟩
      rw [inV_iV]
      cases decide (3 ∈ is) with
      | true => exact ⟨l, _, _, .int 9, rfl, rfl, SqL.of upd_same, atI_nat (j := 1) rfl, _, _, rfl, rfl, _, rfl, ifB (fun _ => q true _ s5) (fun _ => ⟨_, rfl, c, _, rfl, .inl (SqL.of (s5 _ _ hC)), _, _, rfl, rfl, _, rfl, ifB (fun _ => q true _ s5) (fun _ => ⟨_, rfl, e, _, rfl, .inl (SqL.of (s5 _ _ hE)), _, _, rfl, rfl, q _ _ s5⟩)⟩)⟩
      | false => exact ⟨l, _, _, .int 12, rfl, rfl, SqL.of upd_same, atI_nat (j := 0) rfl, _, _, rfl, rfl, _, rfl, ifB (fun _ => q true _ s5) (fun _ => ⟨_, rfl, c, _, rfl, .inl (SqL.of (s5 _ _ hC)), _, _, rfl, rfl, _, rfl, ifB (fun _ => q true _ s5) (fun _ => ⟨_, rfl, e, _, rfl, .inl (SqL.of (s5 _ _ hE)), _, _, rfl, rfl, q _ _ s5⟩)⟩)⟩

/-! ### str of a thing -/
def strD : PyData → Str
  | .none => "None"
  | .int i => toString i
  | .str x => x
  | d => d.shown
def rNone : List V → Hp → VK → Prop := fun xs H Q => xs = [.non] ∧ Q (.str "None") H
theorem call_str_none {X : Cx} : CallR X (.type "str") rNone := by
  intro pins s σ H xs us Q I r h
  obtain ⟨rfl, q⟩ := h
  obtain ⟨u, rfl, ru⟩ := vals1 r
  cases (show u = Value.none from ru)
  exact PySem.P.str_of_none ⟨.str _, H, I.tok _, ⟨_, rfl⟩, q⟩
def rStrI : List V → Hp → VK → Prop := fun xs H Q => ∃ i : Int, xs = [.int i] ∧ i.natAbs.log2 < 1920 ∧ Q (.str (toString i)) H
def rStrS : List V → Hp → VK → Prop := fun xs H Q => ∃ a, xs = [.str a] ∧ Q (.str a) H
theorem call_str_s {X : Cx} : CallR X (.type "str") rStrS := by
  intro pins s σ H xs us Q I r h
  obtain ⟨a, rfl, q⟩ := h
  obtain ⟨u, rfl, t, rfl⟩ := vals1 r
  exact PySem.P.str_of_str ⟨.str a, H, I, ⟨t, rfl⟩, q⟩
def rStrA (K : PySem.W.Frag) : List V → Hp → VK → Prop := fun xs H Q => rShow K xs H Q ∨ rNone xs H Q ∨ rStrI xs H Q ∨ rStrS xs H Q
theorem call_str_any {X : Cx} (hgd : X.A.guards = some []) (hu : X.A.units + 64 < cLine) : CallR X (.type "str") (rStrA X.K) :=
  (call_str_data hgd hu).or (call_str_none.or (CallR.or call_str_int call_str_s))
/-- what str needs of a thing -/
structure StrOk (v : V) (d : PyData) : Prop where
  show_ : d.showable = true
  dict : d.hasDict = false
  dep : d.depth ≤ 40
  len : d.shown.length ≤ sizeLine
  int : ∀ i, v = .int i → i.natAbs.log2 < 1920
  bl : ∀ b, v ≠ .bl b
theorem str_any {K : PySem.W.Frag} {H : Hp} {v : V} {d : PyData} {Q : VK} (h : Da H v d) (ok : StrOk v d) (q : Q (.str (strD d)) H) : rStrA K [v] H Q := by
  have hdp : Dp K H v d := h.dp
  cases h with
  | non => exact .inr (.inl ⟨rfl, q⟩)
  | bl b => exact absurd rfl (ok.bl b)
  | int i => exact .inr (.inr (.inl ⟨i, rfl, ok.int i rfl, q⟩))
  | str x => exact .inr (.inr (.inr ⟨x, rfl, q⟩))
  | lst e r => exact .inl ⟨_, _, rfl, hdp, ok.show_, ok.dict, ok.dep, ok.len, q⟩
  | tup e r => exact .inl ⟨_, _, rfl, hdp, ok.show_, ok.dict, ok.dep, ok.len, q⟩
def spLGood : Sp := fun vs H Q _ => ∃ (v : V) (d : PyData), vs = [v] ∧ Da H v d ∧ FewD d ∧ Lay d ∧ StrOk v d ∧ ∀ H', Same H H' → Q (.bl true) H'
theorem ok__law_good (T : Env K mg) : OkG P w K mg base CX0 dd__law_good "_law_good" 10 ["_law_thing"] spLGood := by
  obtain ⟨fd__law_is_job, D__law_is_job, g__law_is_job, k__law_is_job, b__law_is_job, G__law_is_job⟩ := ok__law_is_job (P := P) (w := w) (base := base) T
  obtain ⟨fd_is_job, D_is_job, g_is_job, k_is_job, b_is_job, G_is_job⟩ := ok_is_job (P := P) (w := w) (base := base) T
  obtain ⟨fd__law_narrow, D__law_narrow, g__law_narrow, k__law_narrow, b__law_narrow, G__law_narrow⟩ := ok__law_narrow (P := P) (w := w) (base := base) T
  obtain ⟨fd__law_far, D__law_far, g__law_far, k__law_far, b__law_far, G__law_far⟩ := ok__law_far (P := P) (w := w) (base := base) T
  obtain ⟨fd, F⟩ := T.c.def_ 27 (d := dd__law_good) rfl
  refine ⟨fd, F, T.gl 27 _ rfl, F.kp, F.bindsN fun _ _ _ _ _ _ us hl => match us, hl with | [_], _ => rfl, ?_⟩
  refine funD_okG F sc__law_good (fun vs H Q E h => ?_) (fun cdv A outer s H vs Q E hr hgd h => ?_)
  · obtain ⟨v, d, rfl, hd, hf, hly, hok, q⟩ := h
    rfl
  · obtain ⟨v, d, rfl, hd, hf, hly, hok, q⟩ := h
    refine ⟨_, PSs.nox (pss_cons (ps_set (i := 1) sc__law_good.nd rfl (Or.inl rfl) (pe_callTy (call_str_any hgd hr.units) (by rfl) (T.fr 41 _ rfl) (by decide +kernel) (pa_cons (pv 0) pa_nil)))
      (pss_cons (ps_set (i := 2) sc__law_good.nd rfl (Or.inl rfl) (pe_call G__law_is_job (hr.mono (by decide)) (by rfl) g__law_is_job k__law_is_job b__law_is_job .nil pass0 (pa_cons (pv 0) pa_nil)))
      (pss_cons (ps_set (i := 3) sc__law_good.nd rfl (Or.inl rfl) (pe_call G_is_job (hr.mono (by decide)) (by rfl) g_is_job k_is_job b_is_job .nil pass0 (pa_cons (pv 0) pa_nil)))
      (pss_cons (ps_if (PW.pt (pw_or (pt_not (pt_val (pe_callB call_isi (by rfl) (T.fr 29 _ rfl) (by decide +kernel) (pa_cons (pv 3) (pa_cons (pe_bltn (v := .ty "bool") (by rfl) (T.fr 31 _ rfl) (by decide +kernel) rfl) pa_nil))))) (pw_or1 (pt_cmpR op_ne (pv 3) (pv 2) (nomark _))))) (pss_one (ps_ret pe_bl)) pss_nil)
      (pss_cons (ps_if (PW.pt (pw_and (pt_val (pv 2)) (pw_and1 (pt_val (pe_call G__law_far (hr.mono (by decide)) (by rfl) g__law_far k__law_far b__law_far .nil pass0 (pa_cons (pv 0) pa_nil)))))) (pss_one (ps_ret (pe_cmpR op_eq (pe_callTy (call_str_any hgd hr.units) (by rfl) (T.fr 41 _ rfl) (by decide +kernel) (pa_cons (pv 0) pa_nil)) (pv 1) (nomark _)))) pss_nil)
      (pss_cons (ps_set (i := 4) sc__law_good.nd rfl (Or.inl rfl) (pe_call G__law_narrow (hr.mono (by decide)) (by rfl) g__law_narrow k__law_narrow b__law_narrow .nil pass0 (pa_cons (pv 0) pa_nil)))
      (pss_cons (ps_if (PW.pt (pw_and (pt_not (pt_val (pv 2))) (pw_and1 (pt_cmpR (op_neD hr.units) (pv 4) (pe_lst (pa_cons pe_str (pa_cons pe_bl (pa_cons pe_bl pa_nil)))) (nomark _))))) (pss_one (ps_ret pe_bl)) pss_nil)
      (pss_cons (ps_if (PW.pt (pw_and (pt_val (pv 2)) (pw_and1 (PW.pt (pw_or (pt_not (pt_val (pe_callB call_isi (by rfl) (T.fr 29 _ rfl) (by decide +kernel) (pa_cons (pv 4) (pa_cons (pe_bltn (v := .ty "bool") (by rfl) (T.fr 31 _ rfl) (by decide +kernel) rfl) pa_nil))))) (pw_or1 (pt_cmpR op_ne (pv 4) (pe_cmpR op_notIn_seq pe_int (pe_ix ix_tup (pv 0) pe_int (fun _ _ => rfl)) (by rfl)) (nomark _)))))))) (pss_one (ps_ret pe_bl)) pss_nil)
      (pss_one (ps_ret (pe_cmpR op_eq (pe_callTy (call_str_any hgd hr.units) (by rfl) (T.fr 41 _ rfl) (by decide +kernel) (pa_cons (pv 0) pa_nil)) (pv 1) (nomark _)))))))))))), ?_⟩
    walk_at "u"
    refine ⟨_, rfl, str_any hd hok ?_⟩
    refine ⟨_, rfl, v, d, rfl, hd, hf, hly, fun c1 H1 s1 hc1 => ?_⟩
    refine ⟨_, rfl, v, d, rfl, hd.same s1, hf, fun c2 H2 s2 hc2 => ?_⟩
    have ec : c1 = c2 := Bool.eq_iff_iff.mpr (hc1.trans hc2.symm)
    subst ec
    have s12 := s1.trans s2
    refine ⟨_, rfl, rIsi_of (b := true) (.bl c1) (by decide +kernel) ⟨_, rfl, iteF ?_⟩⟩
    refine ⟨_, rfl, _, rfl, rfl, _, rfl, ?_⟩
    rw [decide_eq_true rfl]
    refine iteF ?_
    have told : ∀ H3, Same H H3 → rStrA K [v] H3 fun x H1 => ∃ v_4, (some (some (V.str (strD d)))) = some (some v_4) ∧ rEq x v_4 H1 Q := fun H3 s3 => str_any (hd.same s3) hok ⟨_, rfl, rfl, by rw [decide_eq_true rfl]; exact q _ s3⟩
    cases c1 with
    | false =>
      have nj : ¬ IsJobD d := fun h => Bool.noConfusion (hc1.mpr h)
      refine ⟨_, rfl, _, rfl, iteF ⟨_, rfl, v, d, rfl, hd.same s12, hf, fun hj => absurd hj nj, fun _ p H3 s3 hp => ?_⟩⟩
      have s13 := s12.trans s3
      refine ⟨_, rfl, _, rfl, iteT ⟨_, rfl, (show 3 ≤ sizeLine by decide), fun e ne => ?_⟩⟩
      have s4 := same_upd (o := .lst [.str "error", .bl true, .bl true]) ne
      refine ⟨.list [.str "error", .bool true, .bool true], .list [.str "error", .bool true, .bool true], .lst (SqL.of (s4 _ _ hp)) (.cons (.str _) (.cons (.bl _) (.cons (.bl _) .nil))), .lst (SqL.of upd_same) (.cons (.str _) (.cons (.bl _) (.cons (.bl _) .nil))), by decide +kernel, by decide +kernel, _, rfl, ?_⟩
      rw [show PyData.eqv (.list [.str "error", .bool true, .bool true]) (.list [.str "error", .bool true, .bool true]) = true from by decide +kernel]
      refine iteF ⟨_, rfl, _, rfl, iteF ⟨_, rfl, told _ (s13.trans s4)⟩⟩
    | true =>
      have hj : IsJobD d := hc1.mp rfl
      refine ⟨_, rfl, _, rfl, iteT ⟨_, rfl, v, d, rfl, hd.same s12, hf, hj, fun c3 H3 s3 => ⟨_, rfl, ?_⟩⟩⟩
      have s13 := s12.trans s3
      cases c3 with
      | true => exact iteT ⟨_, rfl, told _ s13⟩
      | false =>
      obtain ⟨fs, ds, ns, rs, rfl, _, _, _, _, h5⟩ := id hj
      obtain ⟨J, xs, ps, rfl, e, hJ, hps⟩ := hd.tupOf rfl
      cases e
      cases hps with
      | cons ha hps =>
      cases hps with
      | cons hb hps =>
      cases hps with
      | cons hc hps =>
      cases hps with
      | cons he hps =>
      cases hps
      obtain ⟨e, xe, rs', rfl, e1, hE, dE⟩ := he.lstOf rfl
      cases e1
      obtain ⟨is, rfl, rfl, _⟩ := rooms_int dE h5
      refine iteF ⟨_, rfl, _, _, rfl, hd.same s13, hf, fun _ a b c rs e2 H4 s4 => ?_, fun h => absurd hj h⟩
      have er : is = rs := by
        have e3 := PyData.tuple.inj e2
        injection e3 with a1 e3
        injection e3 with a2 e3
        injection e3 with a3 e3
        injection e3 with a4 e3
        exact map_int_inj (PyData.list.inj a4)
      subst er
      have s14 := s13.trans s4
      refine ⟨_, rfl, _, rfl, iteF ⟨_, rfl, _, rfl, iteT ?_⟩⟩
      refine ⟨_, rfl, rIsi_of (b := true) (.bl _) (by decide +kernel) ⟨_, rfl, iteF ?_⟩⟩
      refine ⟨_, rfl, _, rfl, _, _, _, .ref e, rfl, rfl, SqT.of (s14 _ _ hJ), atI_nat (j := 3) rfl, e, _, rfl, .inl (SqL.of (s14 _ _ hE)), rfl, flat_iV _, ?_⟩
      rw [inV_iV]
      refine ⟨rfl, _, rfl, ?_⟩
      rw [decide_eq_true (show (V.bl !decide (3 ∈ is)) = V.bl (if true = true then !decide (3 ∈ is) else decide (3 ∈ is)) from rfl)]
      exact iteF ⟨_, rfl, told _ s14⟩

/-- what stands in a bent part -/
def El (d : PyData) : Prop := SmB 200 2 d
def Els (n : Nat) (ds : List PyData) : Prop := ds.length ≤ n ∧ ∀ d ∈ ds, El d
theorem Els.sm {n : Nat} {ds : List PyData} (h : Els n ds) (hn : n ≤ 62) : SmB 30000 3 (.list ds) ∧ SmB 30000 3 (.tuple ds) := by
  have h1 : 201 * ds.length ≤ 30000 := by
    have := h.1
    omega
  exact ⟨(smB_list h.2).mono h1 (Nat.le_refl _), (smB_tup h.2).mono h1 (Nat.le_refl _)⟩
def ownL (as : List Addr) (xss : List (List V)) : List (Addr × HO) := (as.zip xss).map fun z => (z.1, .lst z.2)
theorem ownL_get : ∀ {as : List Addr} {xss : List (List V)} {i : Nat} {a : Addr} {xs : List V}, as[i]? = some a → xss[i]? = some xs → (ownL as xss)[i]? = some (a, .lst xs)
  | [], _, _, _, _, h, _ => by cases h
  | _ :: _, [], _, _, _, _, h => by cases h
  | a :: as, x :: xss, 0, _, _, h1, h2 => by
    cases h1
    cases h2
    rfl
  | a :: as, x :: xss, i + 1, _, _, h1, h2 => ownL_get (as := as) (xss := xss) h1 h2
theorem ownL_set : ∀ {as : List Addr} {xss : List (List V)} {i : Nat} {a : Addr} (xs : List V), as[i]? = some a → (ownL as xss).set i (a, .lst xs) = ownL as (xss.set i xs)
  | [], _, _, _, _, h => by cases h
  | _ :: _, [], _, _, _, h => rfl
  | a :: as, x :: xss, 0, _, _, h1 => by
    cases h1
    rfl
  | a :: as, x :: xss, i + 1, _, xs, h1 => congrArg ((a, HO.lst x) :: ·) (ownL_set (as := as) (xss := xss) xs h1)
theorem ownL_snoc : ∀ {as : List Addr} {xss : List (List V)} (a : Addr) (xs : List V), as.length = xss.length → ownL (as ++ [a]) (xss ++ [xs]) = ownL as xss ++ [(a, .lst xs)]
  | [], [], _, _, _ => rfl
  | [], _ :: _, _, _, h => by cases h
  | _ :: _, [], _, _, h => by cases h
  | b :: as, y :: xss, a, xs, h => congrArg ((b, HO.lst y) :: ·) (ownL_snoc (as := as) (xss := xss) a xs (Nat.succ.inj h))
/-- a new object that may be changed, put last -/
theorem Sep.own' {F H : Hp} {os : List (Addr × HO)} (S : Sep F os H) {q : Addr} (h : H q = none) (o : HO) : Sep F (os ++ [(q, o)]) (upd H q o) := by
  have S2 := S.own h o
  refine ⟨S2.fr, fun z hz => S2.ow z ?_, ?_⟩
  · rcases List.mem_append.mp hz with h | h
    · exact List.mem_cons_of_mem _ h
    · rw [List.mem_singleton.mp h]
      exact List.mem_cons_self
  · refine (List.Perm.nodup_iff ?_).mp S2.nd
    rw [List.map_append, List.map_cons]
    exact (List.perm_append_singleton _ _).symm
/-- the parts of a job, being bent -/
structure Bent (F H : Hp) (p D : Addr) (x : Int) (as : List Addr) (xss : List (List V)) (n : Nat) : Prop where
  sep : Sep F ((p, .lst [.int x]) :: (D, .lst (as.map V.ref)) :: ownL as xss) H
  la : as.length = 4
  lx : xss.length = 4
  el : ∀ (i : Nat) (xs : List V), xss[i]? = some xs → ∃ ds, DaAll F xs ds ∧ Els n ds
theorem Bent.pile {F H : Hp} {p D : Addr} {x : Int} {as : List Addr} {xss : List (List V)} {n : Nat} (B : Bent F H p D x as xss n) : H p = some (.lst [.int x]) := B.sep.at_ (i := 0) rfl
theorem Bent.top {F H : Hp} {p D : Addr} {x : Int} {as : List Addr} {xss : List (List V)} {n : Nat} (B : Bent F H p D x as xss n) : H D = some (.lst (as.map V.ref)) := B.sep.at_ (i := 1) rfl
theorem Bent.at_ {F H : Hp} {p D : Addr} {x : Int} {as : List Addr} {xss : List (List V)} {n : Nat} (B : Bent F H p D x as xss n) {i : Nat} {a : Addr} {xs : List V} (h1 : as[i]? = some a) (h2 : xss[i]? = some xs) : H a = some (.lst xs) :=
  B.sep.at_ (i := i + 2) (ownL_get h1 h2)
theorem Bent.take {F H : Hp} {p D : Addr} {x : Int} {as : List Addr} {xss : List (List V)} {n : Nat} (B : Bent F H p D x as xss n) (x' : Int) : Bent F (upd H p (.lst [.int x'])) p D x' as xss n :=
  ⟨B.sep.set (i := 0) rfl _, B.la, B.lx, B.el⟩
theorem Bent.new {F H : Hp} {p D : Addr} {x : Int} {as : List Addr} {xss : List (List V)} {n : Nat} (B : Bent F H p D x as xss n) {q : Addr} (h : H q = none) (o : HO) : Bent (upd F q o) (upd H q o) p D x as xss n :=
  ⟨B.sep.new h o, B.la, B.lx, fun i xs e => by
    obtain ⟨ds, h1, h2⟩ := B.el i xs e
    exact ⟨ds, h1.same (same_upd (B.sep.fresh h)), h2⟩⟩
theorem Bent.put {F H : Hp} {p D : Addr} {x : Int} {as : List Addr} {xss : List (List V)} {n m : Nat} (B : Bent F H p D x as xss n) (hm : n ≤ m) {i : Nat} {a : Addr} {xs : List V} (h1 : as[i]? = some a) (h2 : xss[i]? = some xs) (xs' : List V)
    (he : ∃ ds, DaAll F xs' ds ∧ Els m ds) : Bent F (upd H a (.lst xs')) p D x as (xss.set i xs') m := by
  have S := B.sep.set (i := i + 2) (ownL_get h1 h2) (.lst xs')
  have e : (((p, HO.lst [.int x]) :: (D, HO.lst (as.map V.ref)) :: ownL as xss).set (i + 2) (a, .lst xs')) = ((p, HO.lst [.int x]) :: (D, HO.lst (as.map V.ref)) :: ownL as (xss.set i xs')) := by
    rw [← ownL_set xs' h1]
    rfl
  rw [e] at S
  refine ⟨S, B.la, by rw [List.length_set]; exact B.lx, fun j ys hj => ?_⟩
  by_cases e : i = j
  · subst e
    rw [List.getElem?_set_self (List.getElem?_eq_some_iff.mp h2).1] at hj
    cases hj
    exact he
  · rw [List.getElem?_set_ne e] at hj
    obtain ⟨ds, q1, q2⟩ := B.el j ys hj
    exact ⟨ds, q1, Nat.le_trans q2.1 hm, q2.2⟩
/-- a part of what is handed out -/
def Prt (e : PyData) : Prop := SmB 30000 3 e ∧ ∀ ds, e = .list ds → ds.length ≤ 62
theorem DaAll.ins {H : Hp} : ∀ {vs : List V} {ds : List PyData}, DaAll H vs ds → ∀ (i : Nat) {v : V} {d : PyData}, Da H v d → DaAll H (vs.take i ++ [v] ++ vs.drop i) (ds.take i ++ [d] ++ ds.drop i)
  | _, _, .nil, i, v, d, h => by
    rw [List.take_nil, List.take_nil, List.drop_nil, List.drop_nil]
    exact .cons h .nil
  | _, _, .cons x r, 0, v, d, h => .cons h (.cons x r)
  | _, _, .cons x r, i + 1, v, d, h => .cons x (DaAll.ins r i h)
theorem DaAll.set {H : Hp} : ∀ {vs : List V} {ds : List PyData}, DaAll H vs ds → ∀ (i : Nat) {v : V} {d : PyData}, Da H v d → DaAll H (vs.set i v) (ds.set i d)
  | _, _, .nil, i, v, d, h => .nil
  | _, _, .cons x r, 0, v, d, h => .cons h r
  | _, _, .cons x r, i + 1, v, d, h => .cons x (DaAll.set r i h)
theorem DaAll.drop {H : Hp} : ∀ {vs : List V} {ds : List PyData}, DaAll H vs ds → ∀ k : Nat, DaAll H (vs.drop k) (ds.drop k)
  | _, _, .nil, k => by
    rw [List.drop_nil, List.drop_nil]
    exact .nil
  | _, _, .cons x r, 0 => .cons x r
  | _, _, .cons x r, k + 1 => DaAll.drop r k
theorem DaAll.rev {H : Hp} : ∀ {vs : List V} {ds : List PyData}, DaAll H vs ds → DaAll H vs.reverse ds.reverse
  | _, _, .nil => .nil
  | _, _, .cons x r => by
    rw [List.reverse_cons, List.reverse_cons]
    exact (DaAll.rev r).snoc x
theorem Els.ins {n : Nat} {ds : List PyData} (h : Els n ds) (i : Nat) {d : PyData} (hd : El d) : Els (n + 1) (ds.take i ++ [d] ++ ds.drop i) := by
  have hp := perm_ins ds i d
  refine ⟨by rw [hp.length_eq, List.length_cons]; have := h.1; omega, fun y hy => ?_⟩
  rcases List.mem_cons.mp (hp.mem_iff.mp hy) with e | hy
  · rw [e]
    exact hd
  · exact h.2 y hy
theorem Els.set {n : Nat} {ds : List PyData} (h : Els n ds) (i : Nat) {d : PyData} (hd : El d) : Els (n + 1) (ds.set i d) := by
  refine ⟨by rw [List.length_set]; have := h.1; omega, fun y hy => ?_⟩
  rcases List.mem_or_eq_of_mem_set hy with e | e
  · exact h.2 y e
  · rw [e]
    exact hd
theorem el_flat {d : PyData} {v : V} (h : v = .non ∨ (∃ b, v = .bl b) ∨ ∃ i : Int, v = .int i ∧ -1000000 ≤ i ∧ i ≤ 1000000) (H : Hp) (e : Da H v d) : El d := by
  rcases h with rfl | ⟨b, rfl⟩ | ⟨i, rfl, h1, h2⟩
  · cases e
    exact (Sm.toB sm_none).mono (by decide) (by decide)
  · cases e
    exact ⟨rfl, rfl, rfl, rfl, Nat.zero_le _, by cases b <;> decide⟩
  · cases e
    exact (Sm.toB (sm_int h1 h2)).mono (by decide) (by decide)
theorem el_str {x : Str} (h1 : PyData.canLay0 (.str x) = true) (h2 : PyData.showable (.str x) = true) (h3 : PyData.weight (.str x) ≤ 200) : El (.str x) := ⟨h1, rfl, h2, rfl, Nat.zero_le _, h3⟩
theorem sm_small {i : Int} (h1 : -1000000 ≤ i) (h2 : i ≤ 1000000) : SmB 21 0 (.int i) := Sm.toB (sm_int h1 h2)
theorem sm_bool (b : Bool) : SmB 21 0 (.bool b) := ⟨rfl, rfl, rfl, rfl, Nat.zero_le _, by cases b <;> decide⟩
theorem sm_non : SmB 21 0 .none := (Sm.toB sm_none).mono (by decide) (by decide)
/-- a tuple or a list of few flat things -/
theorem el_few {ds : List PyData} (h : ∀ d ∈ ds, SmB 44 1 d) (hl : ds.length ≤ 4) : El (.tuple ds) ∧ El (.list ds) := by
  have h1 : 45 * ds.length ≤ 200 := by omega
  exact ⟨(smB_tup h).mono h1 (Nat.le_refl _), (smB_list h).mono h1 (Nat.le_refl _)⟩
theorem all1 {P : PyData → Prop} {a : PyData} (h : P a) : ∀ d ∈ [a], P d := fun d hd => by
  rw [List.mem_singleton.mp hd]
  exact h
theorem all2 {P : PyData → Prop} {a b : PyData} (h : P a) (h2 : P b) : ∀ d ∈ [a, b], P d := fun d hd => by
  rcases List.mem_cons.mp hd with e | hd
  · rw [e]
    exact h
  · exact all1 h2 d hd
theorem all3 {P : PyData → Prop} {a b c : PyData} (h : P a) (h2 : P b) (h3 : P c) : ∀ d ∈ [a, b, c], P d := fun d hd => by
  rcases List.mem_cons.mp hd with e | hd
  · rw [e]
    exact h
  · exact all2 h2 h3 d hd
/-- all parts stay from now on -/
theorem Bent.freeze {F H : Hp} {p D : Addr} {x : Int} {as : List Addr} {xss : List (List V)} (B : Bent F H p D x as xss 31) :
    ∃ (F2 : Hp) (es : List PyData), Same F F2 ∧ Sep F2 [(p, .lst [.int x]), (D, .lst (as.map V.ref))] H ∧ DaAll F2 (as.map V.ref) es ∧ es.length = 4 ∧ ∀ (i : Nat) (e : PyData), es[i]? = some e → ∃ (ds : List PyData) (a : Addr) (xs : List V), e = .list ds ∧ as[i]? = some a ∧ Els 31 ds ∧ F2 a = some (.lst xs) ∧ DaAll F2 xs ds := by
  obtain ⟨S, la, lx, el⟩ := B
  match as, xss, la, lx with
  | [a0, a1, a2, a3], [x0, x1, x2, x3], _, _ =>
    have S0 := S.freeze (i := 2) rfl
    have S1 := S0.freeze (i := 2) rfl
    have S2 := S1.freeze (i := 2) rfl
    have S3 := S2.freeze (i := 2) rfl
    have g0 : Same F (upd F a0 (.lst x0)) := same_upd (S.ow _ (List.mem_of_getElem? (i := 2) rfl)).2
    have g1 : Same _ (upd (upd F a0 (.lst x0)) a1 (.lst x1)) := same_upd (S0.ow _ (List.mem_of_getElem? (i := 2) rfl)).2
    have g2 : Same _ (upd (upd (upd F a0 (.lst x0)) a1 (.lst x1)) a2 (.lst x2)) := same_upd (S1.ow _ (List.mem_of_getElem? (i := 2) rfl)).2
    have g3 : Same _ (upd (upd (upd (upd F a0 (.lst x0)) a1 (.lst x1)) a2 (.lst x2)) a3 (.lst x3)) := same_upd (S2.ow _ (List.mem_of_getElem? (i := 2) rfl)).2
    have g := ((g0.trans g1).trans g2).trans g3
    have h0 : (upd (upd (upd (upd F a0 (.lst x0)) a1 (.lst x1)) a2 (.lst x2)) a3 (.lst x3)) a0 = some (.lst x0) := g3 _ _ (g2 _ _ (g1 _ _ upd_same))
    have h1 : (upd (upd (upd (upd F a0 (.lst x0)) a1 (.lst x1)) a2 (.lst x2)) a3 (.lst x3)) a1 = some (.lst x1) := g3 _ _ (g2 _ _ upd_same)
    have h2 : (upd (upd (upd (upd F a0 (.lst x0)) a1 (.lst x1)) a2 (.lst x2)) a3 (.lst x3)) a2 = some (.lst x2) := g3 _ _ upd_same
    have h3 : (upd (upd (upd (upd F a0 (.lst x0)) a1 (.lst x1)) a2 (.lst x2)) a3 (.lst x3)) a3 = some (.lst x3) := upd_same
    generalize upd (upd (upd (upd F a0 (.lst x0)) a1 (.lst x1)) a2 (.lst x2)) a3 (.lst x3) = F2 at g S3 h0 h1 h2 h3
    obtain ⟨d0, e0, l0⟩ := el 0 x0 rfl
    obtain ⟨d1, e1, l1⟩ := el 1 x1 rfl
    obtain ⟨d2, e2, l2⟩ := el 2 x2 rfl
    obtain ⟨d3, e3, l3⟩ := el 3 x3 rfl
    have k0 := e0.same g
    have k1 := e1.same g
    have k2 := e2.same g
    have k3 := e3.same g
    refine ⟨F2, [.list d0, .list d1, .list d2, .list d3], g, S3, .cons (.lst h0 k0) (.cons (.lst h1 k1) (.cons (.lst h2 k2) (.cons (.lst h3 k3) .nil))), rfl, fun i e he => ?_⟩
    match i, he with
    | 0, he => cases he; exact ⟨d0, a0, x0, rfl, rfl, l0, h0, k0⟩
    | 1, he => cases he; exact ⟨d1, a1, x1, rfl, rfl, l1, h1, k1⟩
    | 2, he => cases he; exact ⟨d2, a2, x2, rfl, rfl, l2, h2, k2⟩
    | 3, he => cases he; exact ⟨d3, a3, x3, rfl, rfl, l3, h3, k3⟩
theorem few_tup {es : List PyData} (h : ∀ e ∈ es, Prt e) (hl : es.length ≤ 5) : FewD (.tuple es) ∧ SmB 160000 5 (.tuple es) := by
  refine ⟨fun ps e => ?_, (smB_tup (wt := 30000) (dp := 3) fun d hd => (h d hd).1).mono (by omega) (by decide)⟩
  cases e
  refine ⟨by omega, fun fs ds ns rs e => ?_⟩
  subst e
  have q0 := (h (.list fs) (List.mem_of_getElem? (i := 0) rfl)).2 _ rfl
  have q1 := (h (.list ds) (List.mem_of_getElem? (i := 1) rfl)).2 _ rfl
  have q2 := (h (.list ns) (List.mem_of_getElem? (i := 2) rfl)).2 _ rfl
  have q3 := (h (.list rs) (List.mem_of_getElem? (i := 3) rfl)).2 _ rfl
  omega
theorem few_other {d : PyData} (h : ∀ ps, d ≠ .tuple ps) : FewD d := fun ps e => absurd e (h ps)
def spLBent : Sp := fun vs H Q _ => ∃ (p J f d n r : Addr) (x : Int) (F : Hp) (fs : List Int) (ds : List (Option Int)) (zs : List (Addr × Nat × Nat)) (rs : List Int), vs = [.ref p, .ref J] ∧ Sep F [(p, .lst [.int x])] H ∧ JobAt F J f d n r fs ds zs rs ∧ Valid fs ds zs rs ∧ fs.length ≤ 12 ∧
  ∀ (v : V) (e : PyData) (F' H' : Hp) (x' : Int), Same F F' → Sep F' [(p, .lst [.int x'])] H' → Da F' v e → FewD e → SmB 160000 5 e → (∀ b, v ≠ .bl b) → (∀ i, v = .int i → i.natAbs.log2 < 1920) → Q v H'
theorem daAll_iV {H : Hp} : ∀ is : List Int, DaAll H (iV is) (is.map .int)
  | [] => .nil
  | i :: r => .cons (.int i) (daAll_iV r)
theorem daAll_oV {H : Hp} : ∀ is : List (Option Int), DaAll H (oV is) (is.map oD)
  | [] => .nil
  | none :: r => .cons .non (daAll_oV r)
  | some i :: r => .cons (.int i) (daAll_oV r)
theorem daAll_zs {H : Hp} : ∀ {zs : List (Addr × Nat × Nat)}, (∀ z ∈ zs, H z.1 = some (.tup [.int (z.2.1 : Int), .int (z.2.2 : Int)])) → DaAll H (zs.map fun z => V.ref z.1) (zs.map zD)
  | [], _ => .nil
  | z :: r, h => .cons (.tup (h z (List.mem_cons_self ..)) (.cons (.int _) (.cons (.int _) .nil))) (daAll_zs fun y hy => h y (List.mem_cons_of_mem _ hy))
/-- a new object that stays, beside others -/
theorem Bent.add {F0 F H : Hp} {p D : Addr} {x : Int} {as : List Addr} {xss : List (List V)} {n : Nat} {vs : List V} {ds : List PyData} (B : Bent F H p D x as xss n) (A : DaAll F vs ds) (g : Same F0 F) {q : Addr} (h : H q = none) (o : HO) :
    ∃ F', Bent F' (upd H q o) p D x as xss n ∧ DaAll F' vs ds ∧ Same F0 F' ∧ F' q = some o :=
  ⟨_, B.new h o, A.same (same_upd (B.sep.fresh h)), g.trans (same_upd (B.sep.fresh h)), upd_same⟩
theorem Bent.mono {F H : Hp} {p D : Addr} {x : Int} {as : List Addr} {xss : List (List V)} {n m : Nat} (B : Bent F H p D x as xss n) (h : n ≤ m) : Bent F H p D x as xss m :=
  ⟨B.sep, B.la, B.lx, fun i xs e => by
    obtain ⟨ds, h1, h2⟩ := B.el i xs e
    exact ⟨ds, h1, Nat.le_trans h2.1 h, h2.2⟩⟩
theorem Sep.add {F0 F H : Hp} {os : List (Addr × HO)} {vs ws : List V} {ds es : List PyData} (S : Sep F os H) (A : DaAll F vs ds) (W : DaAll F ws es) (g : Same F0 F) {q : Addr} (h : H q = none) (o : HO) :
    ∃ F', Sep F' os (upd H q o) ∧ DaAll F' vs ds ∧ DaAll F' ws es ∧ Same F0 F' ∧ Same F F' ∧ F' q = some o :=
  ⟨_, S.new h o, A.same (same_upd (S.fresh h)), W.same (same_upd (S.fresh h)), g.trans (same_upd (S.fresh h)), same_upd (S.fresh h), upd_same⟩
theorem small44 {i : Int} (h1 : -1000000 ≤ i) (h2 : i ≤ 1000000) : SmB 44 1 (.int i) := (sm_small h1 h2).mono (by decide) (by decide)
theorem bool44 (b : Bool) : SmB 44 1 (.bool b) := (sm_bool b).mono (by decide) (by decide)
theorem non44 : SmB 44 1 .none := sm_non.mono (by decide) (by decide)
theorem str44 : SmB 44 1 (.str "0") := ⟨by decide +kernel, rfl, by decide +kernel, rfl, by decide, by decide +kernel⟩
theorem lst44 {i : Int} (h1 : -1000000 ≤ i) (h2 : i ≤ 1000000) : SmB 44 1 (.list [.int i]) := (smB_list (wt := 21) (dp := 0) (all1 (sm_small h1 h2))).mono (by show 22 * 1 ≤ 44; decide) (by decide)
theorem prt_flat {e : PyData} (h : SmB 200 0 e) (hl : ∀ ds, e ≠ .list ds) : Prt e := ⟨h.mono (by decide) (by decide), fun ds h => absurd h (hl ds)⟩
theorem prt_str (x : Str) (h1 : PyData.canLay0 (.str x) = true) (h2 : PyData.showable (.str x) = true) (h3 : PyData.weight (.str x) ≤ 200) : Prt (.str x) := prt_flat ⟨h1, rfl, h2, rfl, Nat.zero_le _, h3⟩ fun ds h => by cases h
theorem cut_da {H : Hp} {vs : List V} {ds : List PyData} (A : DaAll H vs ds) (lo hi : Option Int) : ∃ k m, DaAll H (cutV vs lo hi) ((ds.drop k).take m) := ⟨_, _, (A.drop _).take _⟩
theorem mem_cut {α : Type} {k m : Nat} {ds : List α} {x : α} (h : x ∈ (ds.drop k).take m) : x ∈ ds := List.mem_of_mem_drop (List.mem_of_mem_take h)
theorem cut_len {α : Type} (k m : Nat) (ds : List α) : ((ds.drop k).take m).length ≤ ds.length := by
  rw [List.length_take, List.length_drop]
  omega
theorem DaAll.app {H : Hp} : ∀ {vs ws : List V} {ds es : List PyData}, DaAll H vs ds → DaAll H ws es → DaAll H (vs ++ ws) (ds ++ es)
  | _, _, _, _, .nil, h => h
  | _, _, _, _, .cons x r, h => .cons x (DaAll.app r h)
theorem sm_es {es : List PyData} (h : ∀ e ∈ es, Prt e) (hl : es.length ≤ 5) : SmB 160000 5 (.list es) := (smB_list (wt := 30000) (dp := 3) fun d hd => (h d hd).1).mono (by omega) (by decide)
theorem Bent.add' {F0 F H : Hp} {p D : Addr} {x : Int} {as : List Addr} {xss : List (List V)} {n : Nat} {vs : List V} {ds : List PyData} (B : Bent F H p D x as xss n) (A : DaAll F vs ds) (g : Same F0 F) {q : Addr} (h : H q = none) (o : HO) :
    ∃ F', Bent F' (upd H q o) p D x as xss n ∧ DaAll F' vs ds ∧ Same F0 F' ∧ F' q = some o ∧ Same F F' :=
  ⟨_, B.new h o, A.same (same_upd (B.sep.fresh h)), g.trans (same_upd (B.sep.fresh h)), upd_same, same_upd (B.sep.fresh h)⟩
theorem Els.mono {n m : Nat} {ds : List PyData} (h : Els n ds) (l : n ≤ m) : Els m ds := ⟨Nat.le_trans h.1 l, h.2⟩
theorem Els.prt {n : Nat} {ds : List PyData} (h : Els n ds) (hn : n ≤ 62) : Prt (.list ds) ∧ Prt (.tuple ds) :=
  ⟨⟨(h.sm hn).1, fun ds' e => by cases e; exact Nat.le_trans h.1 hn⟩, ⟨(h.sm hn).2, fun ds' e => by cases e⟩⟩
theorem Els.cut {n : Nat} {ds : List PyData} (h : Els n ds) (k m : Nat) : Els n ((ds.drop k).take m) := ⟨Nat.le_trans (cut_len k m ds) h.1, fun d hd => h.2 d (mem_cut hd)⟩
theorem Els.dbl {n : Nat} {ds : List PyData} (h : Els n ds) : Els (n + n) (ds ++ ds) := ⟨by rw [List.length_append]; have := h.1; omega, fun d hd => by rcases List.mem_append.mp hd with e | e <;> exact h.2 d e⟩
theorem few_prt {e : PyData} (h : SmB 200 0 e) (ht : ∀ ps, e ≠ .tuple ps) : FewD e ∧ SmB 160000 5 e := ⟨few_other ht, h.mono (by decide) (by decide)⟩

theorem ok__law_bent_job (T : Env K mg) : Ok P w K mg base CX0 dd__law_bent_job "_law_bent_job" 2 ["_law_pile_here", "_law_job_here"] spLBent := by
  obtain ⟨fd__law_take, D__law_take, g__law_take, k__law_take, b__law_take, G__law_take⟩ := ok__law_take (P := P) (w := w) (base := base) T
  obtain ⟨fd, F⟩ := T.c.def_ 24 (d := dd__law_bent_job) rfl
  refine ⟨fd, F, T.gl 24 _ rfl, F.kp, F.bindsN fun _ _ _ _ _ _ us hl => match us, hl with | [_, _], _ => rfl, ?_⟩
  refine F.ok sc__law_bent_job (fun vs H Q E h => ?_) (fun cdv A outer s H vs Q E hr h => ?_)
  · obtain ⟨p, J, f, d, n, r, x, F, fs, ds, zs, rs, rfl, hS, hJ, hv, h12, q⟩ := h
    rfl
  · obtain ⟨p, J, f, d, n, r, x, F, fs, ds, zs, rs, rfl, hS, hJ, hv, h12, q⟩ := h
    refine ⟨_, PSs.nox (pss_cons (ps_setLc (i := 2) (own := [("_law_part", 10)]) (g := gName 10) (tt := tYes) (by rfl) sc__law_bent_job.nd rfl rfl (sw_true rfl rfl rfl (by decide +kernel)) (pi_tup (pv 1)) (blkOk_by (own := [("_law_part", 10)]) (N := N__law_bent_job) (sc := defScope s__law_bent_job) (by decide +kernel)) (fun _ _ _ _ _ => (pg_name (i := 10) sc__law_bent_job.nd rfl (by first | exact Or.inl rfl | exact Or.inr rfl))) (fun _ _ _ _ _ => pts_nil) (fun _ _ _ _ _ => (pe_callTy (r := rListQ K) call_list_of (by rfl) (T.fr 35 _ rfl) (by decide +kernel) (pa_cons (pv 10) pa_nil))))
      (pss_cons (ps_set (i := 3) sc__law_bent_job.nd rfl (Or.inl rfl) (pe_call G__law_take (hr.mono (by decide)) (by rfl) g__law_take k__law_take b__law_take .nil pass0 (pa_cons (pv 0) (pa_cons pe_int pa_nil))))
      (pss_cons (ps_set (i := 4) sc__law_bent_job.nd rfl (Or.inl rfl) (pe_call G__law_take (hr.mono (by decide)) (by rfl) g__law_take k__law_take b__law_take .nil pass0 (pa_cons (pv 0) (pa_cons pe_int pa_nil))))
      (pss_cons (ps_if (pt_cmpR op_lt (pv 3) pe_int (nomark _)) (pss_cons (ps_set (i := 5) sc__law_bent_job.nd rfl (Or.inl rfl) (pe_lst (pa_cons pe_int (pa_cons (pe_un un_neg pe_int) (pa_cons pe_bl (pa_cons pe_bl (pa_cons pe_non (pa_cons pe_str (pa_cons (pe_tup pa_nil) (pa_cons (pe_op op_pow pe_int pe_int) (pa_cons pe_int (pa_cons pe_int (pa_cons (pe_tup (pa_cons pe_int (pa_cons pe_int pa_nil))) (pa_cons (pe_lst (pa_cons pe_int pa_nil)) (pa_cons pe_int pa_nil)))))))))))))))
      (pss_cons (ps_set (i := 6) sc__law_bent_job.nd rfl (Or.inl rfl) (pe_ix ix_list (pv 5) (pe_call G__law_take (hr.mono (by decide)) (by rfl) g__law_take k__law_take b__law_take .nil pass0 (pa_cons (pv 0) (pa_cons pe_int pa_nil))) (fun _ _ => rfl)))
      (pss_one (ps_if (PW.pt (pw_or (pt_cmpR (op_eqD hr.units) (pe_ix ix_list (pv 2) (pv 4) (fun _ _ => rfl)) (pe_lst pa_nil) (nomark _)) (pw_or1 (pt_cmpR op_eq (pe_call G__law_take (hr.mono (by decide)) (by rfl) g__law_take k__law_take b__law_take .nil pass0 (pa_cons (pv 0) (pa_cons pe_int pa_nil))) pe_int (nomark _))))) (pss_one (ps_expr (pe_bm PySem.F.plainAttrs_list PySem.F.slot_list_insert PySem.F.type_list_insert mt_insert (pe_ix ix_list (pv 2) (pv 4) (fun _ _ => rfl)) (pa_cons (pe_call G__law_take (hr.mono (by decide)) (by rfl) g__law_take k__law_take b__law_take .nil pass0 (pa_cons (pv 0) (pa_cons (pe_op op_add (pe_callB call_len_seq (by rfl) (T.fr 33 _ rfl) (by decide +kernel) (pa_cons (pe_ix ix_list (pv 2) (pv 4) (fun _ _ => rfl)) pa_nil)) pe_int) pa_nil))) (pa_cons (pv 6) pa_nil))))) (pss_one (ps_asg (pv 6) (pg_sub (pe_ix ix_list (pv 2) (pv 4) (fun _ _ => rfl)) (pe_call G__law_take (hr.mono (by decide)) (by rfl) g__law_take k__law_take b__law_take .nil pass0 (pa_cons (pv 0) (pa_cons (pe_callB call_len_seq (by rfl) (T.fr 33 _ rfl) (by decide +kernel) (pa_cons (pe_ix ix_list (pv 2) (pv 4) (fun _ _ => rfl)) pa_nil)) pa_nil))) set_list))))))) pss_nil)
      (pss_cons (ps_if (PW.pt (pw_and (pt_cmpR op_gt (pv 3) pe_int (nomark _)) (pw_and1 (pt_cmpR op_lt (pv 3) pe_int (nomark _))))) (pss_cons (ps_set (i := 7) sc__law_bent_job.nd rfl (Or.inl rfl) (pe_op op_add (pe_callB call_len_seq (by rfl) (T.fr 33 _ rfl) (by decide +kernel) (pa_cons (pe_ix ix_list (pv 2) pe_int (fun _ _ => rfl)) pa_nil)) pe_int))
      (pss_cons (ps_par (i := 8) (j := 9) (by rfl) sc__law_bent_job.nd rfl rfl (by decide) rfl rfl (pa_cons (pe_call G__law_take (hr.mono (by decide)) (by rfl) g__law_take k__law_take b__law_take .nil pass0 (pa_cons (pv 0) (pa_cons (pv 7) pa_nil))) (pa_cons (pe_call G__law_take (hr.mono (by decide)) (by rfl) g__law_take k__law_take b__law_take .nil pass0 (pa_cons (pv 0) (pa_cons (pv 7) pa_nil))) pa_nil)) (by rfl))
      (pss_cons (ps_set (i := 5) sc__law_bent_job.nd rfl (Or.inl rfl) (pe_lst (pa_cons (pe_tup (pa_cons (pv 8) (pa_cons (pv 9) pa_nil))) (pa_cons (pe_tup (pa_cons (pv 9) (pa_cons (pv 8) pa_nil))) (pa_cons (pe_lst (pa_cons (pv 8) (pa_cons (pv 9) pa_nil))) (pa_cons (pe_tup (pa_cons (pv 8) (pa_cons (pv 9) (pa_cons (pv 8) pa_nil)))) (pa_cons (pe_tup (pa_cons (pv 8) pa_nil)) (pa_cons (pe_tup (pa_cons (pv 8) (pa_cons pe_non pa_nil))) (pa_cons (pe_tup (pa_cons (pv 8) (pa_cons pe_bl pa_nil))) (pa_cons (pe_tup (pa_cons (pe_op op_sub (pv 8) pe_int) (pa_cons (pv 9) pa_nil))) (pa_cons (pe_tup (pa_cons pe_non (pa_cons (pv 9) pa_nil))) (pa_cons (pe_tup (pa_cons pe_bl (pa_cons (pv 9) pa_nil))) pa_nil))))))))))))
      (pss_cons (ps_set (i := 5) sc__law_bent_job.nd rfl (Or.inl rfl) (pe_op op_cat (pv 5) (pe_lst (pa_cons (pe_tup (pa_cons pe_bl (pa_cons (pv 9) pa_nil))) (pa_cons (pe_tup (pa_cons pe_str (pa_cons (pv 9) pa_nil))) (pa_cons (pe_tup (pa_cons (pe_lst (pa_cons (pv 8) pa_nil)) (pa_cons (pv 9) pa_nil))) (pa_cons (pe_tup (pa_cons (pv 8) (pa_cons (pe_un un_neg pe_int) pa_nil))) (pa_cons (pe_tup (pa_cons (pv 9) (pa_cons (pe_op op_sub (pe_op op_sub (pv 8) pe_int) (pv 7)) pa_nil))) pa_nil))))))))
      (pss_one (ps_expr (pe_bm PySem.F.plainAttrs_list PySem.F.slot_list_insert PySem.F.type_list_insert mt_insert (pe_ix ix_list (pv 2) pe_int (fun _ _ => rfl)) (pa_cons (pe_call G__law_take (hr.mono (by decide)) (by rfl) g__law_take k__law_take b__law_take .nil pass0 (pa_cons (pv 0) (pa_cons (pe_op op_add (pe_callB call_len_seq (by rfl) (T.fr 33 _ rfl) (by decide +kernel) (pa_cons (pe_ix ix_list (pv 2) pe_int (fun _ _ => rfl)) pa_nil)) pe_int) pa_nil))) (pa_cons (pe_ix ix_list (pv 5) (pe_call G__law_take (hr.mono (by decide)) (by rfl) g__law_take k__law_take b__law_take .nil pass0 (pa_cons (pv 0) (pa_cons pe_int pa_nil))) (fun _ _ => rfl)) pa_nil))))))))) pss_nil)
      (pss_cons (ps_if (pt_cmpR op_eq (pv 3) pe_int (nomark _)) (pss_one (ps_asg (pe_ix ix_list (pe_lst (pa_cons (pe_callTy call_tuple_of (by rfl) (T.fr 34 _ rfl) (by decide +kernel) (pa_cons (pe_ix ix_list (pv 2) (pv 4) (fun _ _ => rfl)) pa_nil)) (pa_cons pe_non (pa_cons pe_int (pa_cons pe_str (pa_cons (pe_slice sl_list (pe_ix ix_list (pv 2) (pv 4) (fun _ _ => rfl)) (po_some pe_int) po_none) (pa_cons (pe_op op_cat (pe_ix ix_list (pv 2) (pv 4) (fun _ _ => rfl)) (pe_ix ix_list (pv 2) (pv 4) (fun _ _ => rfl))) pa_nil))))))) (pe_call G__law_take (hr.mono (by decide)) (by rfl) g__law_take k__law_take b__law_take .nil pass0 (pa_cons (pv 0) (pa_cons pe_int pa_nil))) (fun _ _ => rfl)) (pg_sub (pv 2) (pv 4) set_list))) pss_nil)
      (pss_cons (ps_if (pt_cmpR op_eq (pv 3) pe_int (nomark _)) (pss_cons (ps_set (i := 5) sc__law_bent_job.nd rfl (Or.inl rfl) (pe_lst (pa_cons (pv 2) (pa_cons (pe_callTy call_tuple_of (by rfl) (T.fr 34 _ rfl) (by decide +kernel) (pa_cons (pe_slice sl_list (pv 2) po_none (po_some pe_int)) pa_nil)) (pa_cons (pe_callTy call_tuple_of (by rfl) (T.fr 34 _ rfl) (by decide +kernel) (pa_cons (pe_op op_cat (pv 2) (pe_lst (pa_cons (pe_lst pa_nil) pa_nil))) pa_nil)) (pa_cons pe_non (pa_cons (pe_tup pa_nil) (pa_cons pe_int (pa_cons pe_str (pa_cons (pe_callTy call_tuple_of (by rfl) (T.fr 34 _ rfl) (by decide +kernel) (pa_cons (pe_rev (pv 2) (pe_un un_neg pe_int)) pa_nil)) pa_nil))))))))))
      (pss_one (ps_ret (pe_ix ix_list (pv 5) (pe_call G__law_take (hr.mono (by decide)) (by rfl) g__law_take k__law_take b__law_take .nil pass0 (pa_cons (pv 0) (pa_cons pe_int pa_nil))) (fun _ _ => rfl))))) pss_nil)
      (pss_one (ps_ret (pe_callTy call_tuple_of (by rfl) (T.fr 34 _ rfl) (by decide +kernel) (pa_cons (pv 2) pa_nil))))))))))), ?_⟩
    walk_at "u"
    have hJH := hJ.same hS.fr
    have dls := hv.dl
    have zls := hv.zl
    have rls := hv.ro.len
    refine ⟨_, rfl, J, rfl, ⟨_, SqT.of hJH.top⟩, fun D nD => lc_tup (K := K) (a := J) (xs := [.ref f, .ref d, .ref n, .ref r]) (fun i H' => ∃ as, as.length = i ∧ Sep F ((p, .lst [.int x]) :: (D, .lst (as.map V.ref)) :: ownL as ([iV fs, oV ds, zs.map fun (z : Addr × Nat × Nat) => V.ref z.1, iV rs].take i)) H') (by have h0 := hS.own' nD (.lst []); exact ⟨[], rfl, h0⟩) (fun i H' _ hP => ?_) (fun i v H' hv hP => ?_) (fun H' hP => ?_)⟩
    · obtain ⟨as, _, S⟩ := hP
      exact SqT.of (S.fr _ _ hJ.top)
    · obtain ⟨as, hl, S⟩ := hP
      obtain ⟨b, xs, rfl, hb, hL⟩ : ∃ b xs, v = .ref b ∧ F b = some (.lst xs) ∧ [iV fs, oV ds, zs.map fun (z : Addr × Nat × Nat) => V.ref z.1, iV rs][i]? = some xs := by
        match i, hv with
        | 0, hv => cases hv; exact ⟨f, _, rfl, hJ.fr, rfl⟩
        | 1, hv => cases hv; exact ⟨d, _, rfl, hJ.du, rfl⟩
        | 2, hv => cases hv; exact ⟨n, _, rfl, hJ.ne.1, rfl⟩
        | 3, hv => cases hv; exact ⟨r, _, rfl, hJ.ro, rfl⟩
      have hi : i < 4 := (List.getElem?_eq_some_iff.mp hv).1
      refine ⟨rfl, ?_⟩
      walk_at "u"
      refine iteT ⟨_, rfl, b, xs, rfl, .inl (SqL.of (S.fr _ _ hb)), fun l nl => ?_⟩
      have S2 := S.own' nl (.lst xs)
      refine ⟨_, S2.at_ (i := 1) rfl, by rw [List.length_map, hl]; exact small_lt (Nat.lt_trans hi (by decide)), as ++ [l], by rw [List.length_append, hl]; rfl, ?_⟩
      have S3 := S2.set (i := 1) rfl (.lst (as.map V.ref ++ [.ref l]))
      rw [List.take_add_one, hL]
      show Sep F ((p, .lst [.int x]) :: (D, .lst ((as ++ [l]).map V.ref)) :: ownL (as ++ [l]) (_ ++ [xs])) _
      rw [ownL_snoc l xs (by rw [List.length_take, hl]; exact (Nat.min_eq_left (Nat.le_of_lt hi)).symm), List.map_append]
      exact S3
    obtain ⟨as, la, S⟩ := hP
    have la : as.length = 4 := la
    have B0 : Bent F H' p D x as [iV fs, oV ds, zs.map fun (z : Addr × Nat × Nat) => V.ref z.1, iV rs] 30 := by
      have hjd : DaAll F (iV fs) (fs.map .int) ∧ DaAll F (oV ds) (ds.map oD) ∧ DaAll F (zs.map fun z => V.ref z.1) (zs.map zD) ∧ DaAll F (iV rs) (rs.map .int) := ⟨daAll_iV fs, daAll_oV ds, daAll_zs hJ.ne.2, daAll_iV rs⟩
      refine ⟨S, la, rfl, fun i xs hx => ?_⟩
      match i, hx with
      | 0, hx =>
        cases hx
        refine ⟨_, hjd.1, by rw [List.length_map]; omega, fun e he => ?_⟩
        obtain ⟨y, hy, rfl⟩ := List.mem_map.mp he
        have := hv.fv y hy
        exact (sm_small (by omega) (by omega)).mono (by decide) (by decide)
      | 1, hx =>
        cases hx
        refine ⟨_, hjd.2.1, by rw [List.length_map]; omega, fun e he => ?_⟩
        obtain ⟨y, hy, rfl⟩ := List.mem_map.mp he
        cases y with
        | none => exact sm_non.mono (by decide) (by decide)
        | some y =>
          have := hv.dv y hy
          exact (sm_small (by omega) (by omega)).mono (by decide) (by decide)
      | 2, hx =>
        cases hx
        refine ⟨_, hjd.2.2.1, by rw [List.length_map]; omega, fun e he => ?_⟩
        obtain ⟨y, hy, rfl⟩ := List.mem_map.mp he
        obtain ⟨rk, hrk⟩ := hv.rank
        have := hrk y hy
        exact (el_few (all2 ((sm_small (by omega) (by omega)).mono (by decide) (by decide)) ((sm_small (by omega) (by omega)).mono (by decide) (by decide))) (show 2 ≤ 4 by decide)).1
      | 3, hx =>
        cases hx
        refine ⟨_, hjd.2.2.2, by rw [List.length_map]; omega, fun e he => ?_⟩
        obtain ⟨y, hy, rfl⟩ := List.mem_map.mp he
        have := hv.ro.val y hy
        exact (sm_small (by omega) (by omega)).mono (by decide) (by decide)
    generalize [iV fs, oV ds, zs.map fun (z : Addr × Nat × Nat) => V.ref z.1, iV rs] = xss at B0
    clear S
    generalize H' = H1 at B0 ⊢
    refine ⟨_, rfl, p, x, 12, rfl, B0.pile, by decide, by decide, fun wy x1 w0 w1 => ?_⟩
    have B1 := B0.take x1
    refine ⟨_, rfl, p, x1, 4, rfl, B1.pile, by decide, by decide, fun at_ x2 a0 a1 => ?_⟩
    have B2 := B1.take x2
    generalize upd (upd H1 p (.lst [.int x1])) p (.lst [.int x2]) = H2 at B2 ⊢
    clear B1 B0
    obtain ⟨j, rfl⟩ : ∃ j : Nat, at_ = (j : Int) := ⟨at_.toNat, by omega⟩
    have hj : j < 4 := by omega
    obtain ⟨a, ha⟩ : ∃ a, as[j]? = some a := ⟨_, List.getElem?_eq_getElem (by omega)⟩
    have eqw : ∀ {k : Int}, decide (V.int wy = V.int k) = true → wy = k := fun c => V.int.inj (of_decide_eq_true c)
    have haR : (as.map V.ref)[j]? = some (.ref a) := rV_get ha
    -- the end: tuple(parts)
    have fin : ∀ (F3 H3 : Hp) (x3 : Int) (xss3 : List (List V)), Same F F3 → Bent F3 H3 p D x3 as xss3 31 → ∀ l, H3 l = none → Q (.ref l) (upd H3 l (.tup (as.map V.ref))) := fun F3 H3 x3 xss3 s3 B3 l nl => by
      obtain ⟨F4, es, s4, S4, d4, l4, ok4⟩ := B3.freeze
      have S5 := (S4.new nl (.tup (as.map V.ref))).drop 1
      have s5 : Same F4 (upd F4 l (.tup (as.map V.ref))) := same_upd (S4.fresh nl)
      have hf := few_tup (es := es) (fun e he => by
        obtain ⟨i, hi⟩ := List.getElem?_of_mem he
        obtain ⟨ds, _, _, rfl, _, h1, _⟩ := ok4 i e hi
        exact ⟨(h1.sm (by decide)).1, fun ds' e' => by cases e'; have := h1.1; omega⟩) (by omega)
      exact q _ (.tuple es) _ _ x3 ((s3.trans s4).trans s5) S5 (.tup upd_same (d4.same s5)) hf.1 hf.2 (fun b e => by cases e) (fun i e => by cases e)
    refine ⟨_, rfl, _, _, rfl, rfl, _, rfl, ifB (fun c => ?_) (fun c => ?_)⟩
    · have c5 : wy < 5 := of_decide_eq_true c
      refine ⟨_, rfl, ?_⟩
      refine ⟨(show 0 ≤ sizeLine by decide), fun t0 n0 => ⟨_, _, rfl, rfl, ⟨by decide, by decide, by decide⟩, (show 2 ≤ sizeLine by decide), fun t1 n1 => ⟨(show 1 ≤ sizeLine by decide), fun t2 n2 => ⟨(show 13 ≤ sizeLine by decide), fun o no => ?_⟩⟩⟩⟩
      have B3 := (((B2.new n0 (.tup [])).new n1 (.tup [.int 0, .int 1])).new n2 (.lst [.int 1])).new no (.lst [.int 0, .int (-1), .bl true, .bl false, .non, .str "1", .ref t0, .int ((10 : Int) ^ (20 : Int).toNat), .int 4, .int 3, .ref t1, .ref t2, .int 7])
      have g0 : Same F (upd F t0 (.tup [])) := same_upd (B2.sep.fresh n0)
      have g1 : Same _ (upd (upd F t0 (.tup [])) t1 (.tup [.int 0, .int 1])) := same_upd ((B2.new n0 _).sep.fresh n1)
      have g2 : Same _ (upd (upd (upd F t0 (.tup [])) t1 (.tup [.int 0, .int 1])) t2 (.lst [.int 1])) := same_upd (((B2.new n0 _).new n1 _).sep.fresh n2)
      have g3 : Same _ (upd (upd (upd (upd F t0 (.tup [])) t1 (.tup [.int 0, .int 1])) t2 (.lst [.int 1])) o (.lst [.int 0, .int (-1), .bl true, .bl false, .non, .str "1", .ref t0, .int ((10 : Int) ^ (20 : Int).toNat), .int 4, .int 3, .ref t1, .ref t2, .int 7])) := same_upd ((((B2.new n0 _).new n1 _).new n2 _).sep.fresh no)
      have g := ((g0.trans g1).trans g2).trans g3
      have k0 := g3 _ _ (g2 _ _ (g1 _ _ upd_same))
      have k1 := g3 _ _ (g2 _ _ upd_same)
      have k2 := g3 _ _ upd_same
      have k3 : (upd (upd (upd (upd F t0 (.tup [])) t1 (.tup [.int 0, .int 1])) t2 (.lst [.int 1])) o (.lst [.int 0, .int (-1), .bl true, .bl false, .non, .str "1", .ref t0, .int ((10 : Int) ^ (20 : Int).toNat), .int 4, .int 3, .ref t1, .ref t2, .int 7])) o = some (.lst [.int 0, .int (-1), .bl true, .bl false, .non, .str "1", .ref t0, .int ((10 : Int) ^ (20 : Int).toNat), .int 4, .int 3, .ref t1, .ref t2, .int 7]) := upd_same
      generalize upd (upd (upd (upd F t0 (.tup [])) t1 (.tup [.int 0, .int 1])) t2 (.lst [.int 1])) o (.lst [.int 0, .int (-1), .bl true, .bl false, .non, .str "1", .ref t0, .int ((10 : Int) ^ (20 : Int).toNat), .int 4, .int 3, .ref t1, .ref t2, .int 7]) = F3 at B3 g k0 k1 k2 k3
      clear g0 g1 g2 g3
      generalize upd (upd (upd (upd H2 t0 (.tup [])) t1 (.tup [.int 0, .int 1])) t2 (.lst [.int 1])) o (.lst [.int 0, .int (-1), .bl true, .bl false, .non, .str "1", .ref t0, .int ((10 : Int) ^ (20 : Int).toNat), .int 4, .int 3, .ref t1, .ref t2, .int 7]) = H3 at B3 ⊢
      have hall : ∀ e ∈ [PyData.int 0, .int (-1), .bool true, .bool false, .none, .str "1", .tuple [], .int ((10 : Int) ^ (20 : Int).toNat), .int 4, .int 3, .tuple [.int 0, .int 1], .list [.int 1], .int 7], El e := fun e he => by
        simp only [List.mem_cons, List.not_mem_nil, or_false] at he
        rcases he with h | h | h | h | h | h | h | h | h | h | h | h | h <;> subst h
        · exact (sm_small (by decide) (by decide)).mono (by decide) (by decide)
        · exact (sm_small (by decide) (by decide)).mono (by decide) (by decide)
        · exact (sm_bool _).mono (by decide) (by decide)
        · exact (sm_bool _).mono (by decide) (by decide)
        · exact sm_non.mono (by decide) (by decide)
        · exact el_str (by decide +kernel) (by decide +kernel) (by decide +kernel)
        · exact (el_few (fun d h => by cases h) (by decide)).1
        · exact smB_far.mono (by decide) (by decide)
        · exact (sm_small (by decide) (by decide)).mono (by decide) (by decide)
        · exact (sm_small (by decide) (by decide)).mono (by decide) (by decide)
        · exact (el_few (all2 ((sm_small (by decide) (by decide)).mono (by decide) (by decide)) ((sm_small (by decide) (by decide)).mono (by decide) (by decide))) (show 2 ≤ 4 by decide)).1
        · exact (el_few (all1 ((sm_small (by decide) (by decide)).mono (by decide) (by decide))) (show 1 ≤ 4 by decide)).2
        · exact (sm_small (by decide) (by decide)).mono (by decide) (by decide)
      have hda : DaAll F3 [.int 0, .int (-1), .bl true, .bl false, .non, .str "1", .ref t0, .int ((10 : Int) ^ (20 : Int).toNat), .int 4, .int 3, .ref t1, .ref t2, .int 7] [PyData.int 0, .int (-1), .bool true, .bool false, .none, .str "1", .tuple [], .int ((10 : Int) ^ (20 : Int).toNat), .int 4, .int 3, .tuple [.int 0, .int 1], .list [.int 1], .int 7] :=
        .cons (.int _) (.cons (.int _) (.cons (.bl _) (.cons (.bl _) (.cons .non (.cons (.str _) (.cons (.tup k0 .nil) (.cons (.int _) (.cons (.int _) (.cons (.int _) (.cons (.tup k1 (.cons (.int _) (.cons (.int _) .nil))) (.cons (.lst k2 (.cons (.int _) .nil)) (.cons (.int _) .nil))))))))))))
      refine ⟨_, rfl, _, rfl, p, x2, 13, rfl, B3.pile, by decide, by decide, fun d0 x3 d00 d01 => ?_⟩
      have B4 := B3.take x3
      obtain ⟨jd, rfl⟩ : ∃ jd : Nat, d0 = (jd : Int) := ⟨d0.toNat, by omega⟩
      have hjd : jd < 13 := by omega
      obtain ⟨v, hv1⟩ : ∃ v, [V.int 0, .int (-1), .bl true, .bl false, .non, .str "1", .ref t0, .int ((10 : Int) ^ (20 : Int).toNat), .int 4, .int 3, .ref t1, .ref t2, .int 7][jd]? = some v := ⟨_, List.getElem?_eq_getElem (by exact hjd)⟩
      obtain ⟨dv, hd1, hd2⟩ := hda.get hv1
      have hel := hall dv (List.mem_of_getElem? hd1)
      obtain ⟨xs, hxs⟩ : ∃ xs, xss[j]? = some xs := ⟨_, List.getElem?_eq_getElem (by rw [B4.lx]; exact hj)⟩
      refine ⟨o, _, _, v, rfl, rfl, SqL.of (B4.sep.fr _ _ k3), atI_nat hv1, ?_⟩
      generalize upd H3 p (.lst [.int x3]) = H4 at B4 ⊢
      clear B3
      obtain ⟨dxs, hdx, hex⟩ := B4.el j xs hxs
      have lxs : xs.length ≤ 30 := by rw [hdx.len]; exact hex.1
      have hA : H4 a = some (.lst xs) := B4.at_ ha hxs
      -- if parts[at] == [] or take(3) == 0
      refine ⟨_, rfl, _, rfl, D, _, _, .ref a, rfl, rfl, SqL.of B4.top, atI_nat haR, (show 0 ≤ sizeLine by decide), fun e0 ne0 => ?_⟩
      have s0 := same_upd (o := .lst []) ne0
      have B5 := B4.new ne0 (.lst [])
      have hd2' : Da (upd F3 e0 (.lst [])) v dv := hd2.same (same_upd (B4.sep.fresh ne0))
      have gF : Same F (upd F3 e0 (.lst [])) := g.trans (same_upd (B4.sep.fresh ne0))
      have hdx' : DaAll (upd F3 e0 (.lst [])) xs dxs := hdx.same (same_upd (B4.sep.fresh ne0))
      refine ⟨.list dxs, .list [], .lst (SqL.of (s0 _ _ hA)) ((hdx.same (B4.sep.fr.trans s0)).dp), .lst (SqL.of upd_same) .nil, shaped_lay (fun y hy => ⟨(hex.2 y hy).can, Nat.le_trans (hex.2 y hy).dep (by decide)⟩), rfl, _, rfl, ?_⟩
      generalize upd F3 e0 (.lst []) = F5 at B5 hd2' gF hdx'
      generalize upd H4 e0 (.lst []) = H5 at B5 ⊢
      refine ifB (fun c1 => iteT ?_) (fun c1 => ?_)
      · have hA5 := B5.at_ ha hxs
        refine ⟨_, rfl, _, rfl, D, _, _, .ref a, rfl, rfl, SqL.of B5.top, atI_nat haR, .inl ⟨rfl, _, .inl (.inl hA5)⟩, _, rfl, _, rfl, _, rfl, D, _, _, .ref a, rfl, rfl, SqL.of B5.top, atI_nat haR, a, xs, rfl, .inl (SqL.of hA5), _, _, rfl, rfl, p, x3, _, rfl, B5.pile, by omega, by omega, fun i x4 i0 i1 => ?_⟩
        have B6 := B5.take x4
        have B7 := B6.put (m := 31) (by decide) ha hxs (xs.take i.toNat ++ [v] ++ xs.drop i.toNat) ⟨_, hdx'.ins i.toNat hd2', hex.ins i.toNat hel⟩
        refine ⟨_, rfl, a, xs, i, v, rfl, rfl, B6.at_ ha hxs, small_lt (by omega), i0, by omega, ?_⟩
        refine ⟨_, rfl, _, _, rfl, rfl, _, rfl, ifB (fun e => absurd (of_decide_eq_true e) (by omega)) (fun _ => iteF ?_)⟩
        refine ⟨_, rfl, rfl, _, rfl, ifB (fun c4 => absurd (eqw c4) (by omega)) (fun _ => ⟨_, rfl, rfl, _, rfl, ifB (fun c4 => absurd (eqw c4) (by omega)) (fun _ => ?_)⟩)⟩
        exact ⟨_, rfl, D, _, rfl, .inl ⟨SqL.of B7.top, fin _ _ _ _ gF B7⟩⟩
      · refine ⟨_, rfl, p, x3, 3, rfl, B5.pile, by decide, by decide, fun d5 x5 d50 d51 => ?_⟩
        have B6 := B5.take x5
        have hA6 := B6.at_ ha hxs
        generalize upd H5 p (.lst [.int x5]) = H6 at B6 hA6 ⊢
        refine ⟨rfl, _, rfl, ifB (fun c2 => ?_) (fun c2 => ?_)⟩
        · refine ⟨_, rfl, _, rfl, D, _, _, .ref a, rfl, rfl, SqL.of B6.top, atI_nat haR, .inl ⟨rfl, _, .inl (.inl hA6)⟩, _, rfl, _, rfl, _, rfl, D, _, _, .ref a, rfl, rfl, SqL.of B6.top, atI_nat haR, a, xs, rfl, .inl (SqL.of hA6), _, _, rfl, rfl, p, x5, _, rfl, B6.pile, by omega, by omega, fun i x4 i0 i1 => ?_⟩
          have B7 := B6.take x4
          have B8 := B7.put (m := 31) (by decide) ha hxs (xs.take i.toNat ++ [v] ++ xs.drop i.toNat) ⟨_, hdx'.ins i.toNat hd2', hex.ins i.toNat hel⟩
          refine ⟨_, rfl, a, xs, i, v, rfl, rfl, B7.at_ ha hxs, small_lt (by omega), i0, by omega, ?_⟩
          refine ⟨_, rfl, _, _, rfl, rfl, _, rfl, ifB (fun e => absurd (of_decide_eq_true e) (by omega)) (fun _ => iteF ?_)⟩
          refine ⟨_, rfl, rfl, _, rfl, ifB (fun c4 => absurd (eqw c4) (by omega)) (fun _ => ⟨_, rfl, rfl, _, rfl, ifB (fun c4 => absurd (eqw c4) (by omega)) (fun _ => ?_)⟩)⟩
          exact ⟨_, rfl, D, _, rfl, .inl ⟨SqL.of B8.top, fin _ _ _ _ gF B8⟩⟩
        · have hne : xs ≠ [] := fun e => by
            subst e
            cases hdx
            exact absurd c1 (by decide)
          have hpos : 0 < xs.length := List.length_pos_iff.mpr hne
          refine ⟨_, rfl, _, rfl, _, rfl, D, _, _, .ref a, rfl, rfl, SqL.of B6.top, atI_nat haR, ?_⟩
          refine ⟨_, rfl, _, rfl, _, rfl, D, _, _, .ref a, rfl, rfl, SqL.of B6.top, atI_nat haR, a, xs, rfl, .inl (SqL.of hA6), p, x5, _, rfl, B6.pile, by omega, by omega, fun i x4 i0 i1 => ?_⟩
          have B7 := B6.take x4
          have B8 := B7.put (m := 31) (by decide) ha hxs (xs.set i.toNat v) ⟨_, hdx'.set i.toNat hd2', hex.set i.toNat hel⟩
          refine ⟨a, xs, i, i.toNat, rfl, rfl, B7.at_ ha hxs, ixN_at (by omega) (by omega), ?_⟩
          refine ⟨_, rfl, _, _, rfl, rfl, _, rfl, ifB (fun e => absurd (of_decide_eq_true e) (by omega)) (fun _ => iteF ?_)⟩
          refine ⟨_, rfl, rfl, _, rfl, ifB (fun c4 => absurd (eqw c4) (by omega)) (fun _ => ⟨_, rfl, rfl, _, rfl, ifB (fun c4 => absurd (eqw c4) (by omega)) (fun _ => ?_)⟩)⟩
          exact ⟨_, rfl, D, _, rfl, .inl ⟨SqL.of B8.top, fin _ _ _ _ gF B8⟩⟩
    · have c5 : ¬ wy < 5 := of_decide_eq_false c
      refine ⟨_, rfl, _, _, rfl, rfl, _, rfl, ifB (fun e => ?_) (fun e => absurd (show wy > 4 by omega) (of_decide_eq_false e))⟩
      refine ⟨_, rfl, _, _, rfl, rfl, _, rfl, ifB (fun e9 => ?_) (fun e9 => ?_)⟩
      · have c9 : wy < 9 := of_decide_eq_true e9
        -- many = len(parts[0]) + 1
        obtain ⟨z0, hz0⟩ : ∃ a, as[0]? = some a := ⟨_, List.getElem?_eq_getElem (by omega)⟩
        obtain ⟨y0, hy0⟩ : ∃ xs, xss[0]? = some xs := ⟨_, List.getElem?_eq_getElem (by rw [B2.lx]; decide)⟩
        obtain ⟨z2, hz2⟩ : ∃ a, as[2]? = some a := ⟨_, List.getElem?_eq_getElem (by omega)⟩
        obtain ⟨y2, hy2⟩ : ∃ xs, xss[2]? = some xs := ⟨_, List.getElem?_eq_getElem (by rw [B2.lx]; decide)⟩
        obtain ⟨dy0, hdy0, hey0⟩ := B2.el 0 y0 hy0
        obtain ⟨dy2, hdy2, hey2⟩ := B2.el 2 y2 hy2
        have ly0 : y0.length ≤ 30 := by rw [hdy0.len]; exact hey0.1
        have ly2 : y2.length ≤ 30 := by rw [hdy2.len]; exact hey2.1
        refine ⟨_, rfl, D, _, _, .ref z0, rfl, rfl, SqL.of B2.top, atI_nat (j := 0) (rV_get hz0), z0, y0, rfl, .inl (SqL.of (B2.at_ hz0 hy0)), _, _, rfl, rfl, ?_⟩
        refine ⟨_, rfl, _, rfl, p, x2, _, rfl, B2.pile, by omega, by omega, fun ia x3 ia0 ia1 => ?_⟩
        have B3 := B2.take x3
        refine ⟨_, rfl, _, rfl, p, x3, _, rfl, B3.pile, by omega, by omega, fun ib x4 ib0 ib1 => ?_⟩
        have B4 := B3.take x4
        generalize upd (upd H2 p (.lst [.int x3])) p (.lst [.int x4]) = H4 at B4 ⊢
        clear B3
        have A0 : DaAll F [] [] := .nil
        have g0 : Same F F := fun _ _ h => h
        refine ⟨_, _, rfl, _, rfl, _, rfl, (show 2 ≤ sizeLine by decide), fun t0 n0 => ?_⟩
        obtain ⟨F10, B5, A1, g1, k0⟩ := B4.add A0 g0 n0 (.tup [.int ia, .int ib])
        replace A1 := A1.snoc (.tup k0 (.cons (.int _) (.cons (.int _) .nil)))
        refine ⟨_, rfl, _, rfl, (show 2 ≤ sizeLine by decide), fun t1 n1 => ?_⟩
        obtain ⟨F11, B5, A2, g2, k1⟩ := B5.add A1 g1 n1 (.tup [.int ib, .int ia])
        replace A2 := A2.snoc (.tup k1 (.cons (.int _) (.cons (.int _) .nil)))
        refine ⟨_, rfl, _, rfl, (show 2 ≤ sizeLine by decide), fun t2 n2 => ?_⟩
        obtain ⟨F12, B5, A3, g3, k2⟩ := B5.add A2 g2 n2 (.lst [.int ia, .int ib])
        replace A3 := A3.snoc (.lst k2 (.cons (.int _) (.cons (.int _) .nil)))
        refine ⟨_, rfl, _, rfl, _, rfl, (show 3 ≤ sizeLine by decide), fun t3 n3 => ?_⟩
        obtain ⟨F13, B5, A4, g4, k3⟩ := B5.add A3 g3 n3 (.tup [.int ia, .int ib, .int ia])
        replace A4 := A4.snoc (.tup k3 (.cons (.int _) (.cons (.int _) (.cons (.int _) .nil))))
        refine ⟨_, rfl, (show 1 ≤ sizeLine by decide), fun t4 n4 => ?_⟩
        obtain ⟨F14, B5, A5, g5, k4⟩ := B5.add A4 g4 n4 (.tup [.int ia])
        replace A5 := A5.snoc (.tup k4 (.cons (.int _) .nil))
        refine ⟨_, rfl, (show 2 ≤ sizeLine by decide), fun t5 n5 => ?_⟩
        obtain ⟨F15, B5, A6, g6, k5⟩ := B5.add A5 g5 n5 (.tup [.int ia, .non])
        replace A6 := A6.snoc (.tup k5 (.cons (.int _) (.cons .non .nil)))
        refine ⟨_, rfl, (show 2 ≤ sizeLine by decide), fun t6 n6 => ?_⟩
        obtain ⟨F16, B5, A7, g7, k6⟩ := B5.add A6 g6 n6 (.tup [.int ia, .bl true])
        replace A7 := A7.snoc (.tup k6 (.cons (.int _) (.cons (.bl _) .nil)))
        refine ⟨_, rfl, _, _, rfl, rfl, _, rfl, (show 2 ≤ sizeLine by decide), fun t7 n7 => ?_⟩
        obtain ⟨F17, B5, A8, g8, k7⟩ := B5.add A7 g7 n7 (.tup [.int (ia - 1), .int ib])
        replace A8 := A8.snoc (.tup k7 (.cons (.int _) (.cons (.int _) .nil)))
        refine ⟨_, rfl, (show 2 ≤ sizeLine by decide), fun t8 n8 => ?_⟩
        obtain ⟨F18, B5, A9, g9, k8⟩ := B5.add A8 g8 n8 (.tup [.non, .int ib])
        replace A9 := A9.snoc (.tup k8 (.cons .non (.cons (.int _) .nil)))
        refine ⟨_, rfl, (show 2 ≤ sizeLine by decide), fun t9 n9 => ?_⟩
        obtain ⟨F19, B5, A10, g10, k9⟩ := B5.add A9 g9 n9 (.tup [.bl true, .int ib])
        replace A10 := A10.snoc (.tup k9 (.cons (.bl _) (.cons (.int _) .nil)))
        refine ⟨(show 10 ≤ sizeLine by decide), fun o1 no1 => ?_⟩
        obtain ⟨F19b, B6, A11, g11, k11⟩ := B5.add A10 g10 no1 (.lst [.ref t0, .ref t1, .ref t2, .ref t3, .ref t4, .ref t5, .ref t6, .ref t7, .ref t8, .ref t9])
        have B5 := B6
        refine ⟨_, rfl, ?_⟩
        refine ⟨_, rfl, (show 2 ≤ sizeLine by decide), fun t20 n20 => ?_⟩
        obtain ⟨F20, B5, A20, g20, k20, s20⟩ := B5.add' A11 g11 n20 (.tup [.bl false, .int ib])
        replace k11 := s20 _ _ k11
        replace A20 := A20.snoc (.tup k20 (.cons (.bl _) (.cons (.int _) .nil)))
        refine ⟨_, rfl, (show 2 ≤ sizeLine by decide), fun t21 n21 => ?_⟩
        obtain ⟨F21, B5, A21, g21, k21, s21⟩ := B5.add' A20 g20 n21 (.tup [.str "0", .int ib])
        replace k11 := s21 _ _ k11
        replace A21 := A21.snoc (.tup k21 (.cons (.str _) (.cons (.int _) .nil)))
        refine ⟨_, rfl, (show 1 ≤ sizeLine by decide), fun t22 n22 => ?_⟩
        obtain ⟨F22, B5, A22, g22, k22, s22⟩ := B5.add' A21 g21 n22 (.lst [.int ia])
        replace k11 := s22 _ _ k11
        replace A22 := A22.snoc (.lst k22 (.cons (.int ia) .nil))
        refine ⟨_, rfl, (show 2 ≤ sizeLine by decide), fun t23 n23 => ?_⟩
        obtain ⟨F23, B5, A23, g23, k23, s23⟩ := B5.add' A22 g22 n23 (.tup [.ref t22, .int ib])
        replace k11 := s23 _ _ k11
        have LL : Da F23 (.ref t22) (.list [.int ia]) := by
          obtain ⟨w, hw1, hw2⟩ := A23.at_ (i := 12) (d := .list [.int ia]) rfl
          have e : w = .ref t22 := (Option.some.inj hw1).symm
          rw [← e]
          exact hw2
        replace A23 : DaAll F23 [.ref t0, .ref t1, .ref t2, .ref t3, .ref t4, .ref t5, .ref t6, .ref t7, .ref t8, .ref t9, .ref t20, .ref t21] _ := A23.take 12
        replace A23 := A23.snoc (.tup k23 (.cons LL (.cons (.int ib) .nil)))
        refine ⟨_, rfl, _, rfl, (show 2 ≤ sizeLine by decide), fun t24 n24 => ?_⟩
        obtain ⟨F24, B5, A24, g24, k24, s24⟩ := B5.add' A23 g23 n24 (.tup [.int ia, .int (-1)])
        replace k11 := s24 _ _ k11
        replace A24 := A24.snoc (.tup k24 (.cons (.int _) (.cons (.int _) .nil)))
        refine ⟨_, rfl, _, rfl, _, _, rfl, rfl, _, rfl, _, _, rfl, rfl, (show 2 ≤ sizeLine by decide), fun t25 n25 => ?_⟩
        obtain ⟨F25, B5, A25, g25, k25, s25⟩ := B5.add' A24 g24 n25 (.tup [.int ib, .int (ia - 1 - ((y0.length : Int) + 1))])
        replace k11 := s25 _ _ k11
        replace A25 := A25.snoc (.tup k25 (.cons (.int _) (.cons (.int _) .nil)))
        refine ⟨(show 5 ≤ sizeLine by decide), fun o2 no2 => ?_⟩
        obtain ⟨F30, B7, A30, g30, k30, s30⟩ := B5.add' A25 g25 no2 (.lst [.ref t20, .ref t21, .ref t23, .ref t24, .ref t25])
        replace k11 := s30 _ _ k11
        clear B5 B6 B4 s20 s21 s22 s23 s24 s25 s30 k0 k1 k2 k3 k4 k5 k6 k7 k8 k9 k20 k21 k22 k23 k24 k25 LL A0 A1 A2 A3 A4 A5 A6 A7 A8 A9 A10 A11 A20 A21 A22 A23 A24 A25 g0 g1 g2 g3 g4 g5 g6 g7 g8 g9 g10 g11 g20 g21 g22 g23 g24 g25
        have h11 := B7.sep.fr _ _ k11
        have h30 := B7.sep.fr _ _ k30
        refine ⟨o1, o2, _, _, rfl, rfl, h11, h30, (show 15 ≤ sizeLine by decide), fun o3 no3 => ?_⟩
        obtain ⟨F31, B8, A31, g31, k31, s31⟩ := B7.add' A30 g30 no3 (.lst ([.ref t0, .ref t1, .ref t2, .ref t3, .ref t4, .ref t5, .ref t6, .ref t7, .ref t8, .ref t9] ++ [.ref t20, .ref t21, .ref t23, .ref t24, .ref t25]))
        generalize hH8 : upd (_ : Hp) o3 _ = H8 at B8 ⊢
        clear hH8 h11 h30 k11 k30 B7
        have hall : ∀ e ∈ [PyData.tuple [.int ia, .int ib], .tuple [.int ib, .int ia], .list [.int ia, .int ib], .tuple [.int ia, .int ib, .int ia], .tuple [.int ia], .tuple [.int ia, .none], .tuple [.int ia, .bool true], .tuple [.int (ia - 1), .int ib], .tuple [.none, .int ib], .tuple [.bool true, .int ib], .tuple [.bool false, .int ib], .tuple [.str "0", .int ib], .tuple [.list [.int ia], .int ib], .tuple [.int ia, .int (-1)], .tuple [.int ib, .int (ia - 1 - ((y0.length : Int) + 1))]], El e := fun e he => by
          have sa : SmB 44 1 (.int ia) := small44 (by omega) (by omega)
          have sb : SmB 44 1 (.int ib) := small44 (by omega) (by omega)
          simp only [List.mem_cons, List.not_mem_nil, or_false] at he
          rcases he with h | h | h | h | h | h | h | h | h | h | h | h | h | h | h <;> subst h
          · exact (el_few (all2 sa sb) (show 2 ≤ 4 by decide)).1
          · exact (el_few (all2 sb sa) (show 2 ≤ 4 by decide)).1
          · exact (el_few (all2 sa sb) (show 2 ≤ 4 by decide)).2
          · exact (el_few (all3 sa sb sa) (show 3 ≤ 4 by decide)).1
          · exact (el_few (all1 sa) (show 1 ≤ 4 by decide)).1
          · exact (el_few (all2 sa non44) (show 2 ≤ 4 by decide)).1
          · exact (el_few (all2 sa (bool44 _)) (show 2 ≤ 4 by decide)).1
          · exact (el_few (all2 (small44 (by omega) (by omega)) sb) (show 2 ≤ 4 by decide)).1
          · exact (el_few (all2 non44 sb) (show 2 ≤ 4 by decide)).1
          · exact (el_few (all2 (bool44 _) sb) (show 2 ≤ 4 by decide)).1
          · exact (el_few (all2 (bool44 _) sb) (show 2 ≤ 4 by decide)).1
          · exact (el_few (all2 str44 sb) (show 2 ≤ 4 by decide)).1
          · exact (el_few (all2 (lst44 (by omega) (by omega)) sb) (show 2 ≤ 4 by decide)).1
          · exact (el_few (all2 sa (small44 (by decide) (by decide))) (show 2 ≤ 4 by decide)).1
          · exact (el_few (all2 sb (small44 (by omega) (by omega))) (show 2 ≤ 4 by decide)).1
        have hda : DaAll F31 ([.ref t0, .ref t1, .ref t2, .ref t3, .ref t4, .ref t5, .ref t6, .ref t7, .ref t8, .ref t9] ++ [.ref t20, .ref t21, .ref t23, .ref t24, .ref t25]) [PyData.tuple [.int ia, .int ib], .tuple [.int ib, .int ia], .list [.int ia, .int ib], .tuple [.int ia, .int ib, .int ia], .tuple [.int ia], .tuple [.int ia, .none], .tuple [.int ia, .bool true], .tuple [.int (ia - 1), .int ib], .tuple [.none, .int ib], .tuple [.bool true, .int ib], .tuple [.bool false, .int ib], .tuple [.str "0", .int ib], .tuple [.list [.int ia], .int ib], .tuple [.int ia, .int (-1)], .tuple [.int ib, .int (ia - 1 - ((y0.length : Int) + 1))]] := A31
        have hA8 := B8.at_ hz2 hy2
        refine ⟨_, rfl, D, _, _, .ref z2, rfl, rfl, SqL.of B8.top, atI_nat (j := 2) (rV_get hz2), .inl ⟨rfl, _, .inl (.inl hA8)⟩, _, rfl, _, rfl, D, _, _, .ref z2, rfl, rfl, SqL.of B8.top, atI_nat (j := 2) (rV_get hz2), z2, y2, rfl, .inl (SqL.of hA8), _, _, rfl, rfl, p, x4, _, rfl, B8.pile, by omega, by omega, fun i x5 i0 i1 => ?_⟩
        have B9 := B8.take x5
        refine ⟨_, rfl, _, rfl, p, x5, 15, rfl, B9.pile, by decide, by decide, fun d0 x6 d00 d01 => ?_⟩
        have B10 := B9.take x6
        obtain ⟨jd, rfl⟩ : ∃ jd : Nat, d0 = (jd : Int) := ⟨d0.toNat, by omega⟩
        have hjd : jd < 15 := by omega
        obtain ⟨v, hv1⟩ : ∃ v, ([.ref t0, .ref t1, .ref t2, .ref t3, .ref t4, .ref t5, .ref t6, .ref t7, .ref t8, .ref t9] ++ [.ref t20, .ref t21, .ref t23, .ref t24, .ref t25] : List V)[jd]? = some v := ⟨_, List.getElem?_eq_getElem (by exact hjd)⟩
        obtain ⟨dv, hd1, hd2⟩ := hda.get hv1
        have hel := hall dv (List.mem_of_getElem? hd1)
        have gg := g31
        refine ⟨o3, _, _, v, rfl, rfl, SqL.of (B10.sep.fr _ _ k31), atI_nat hv1, ?_⟩
        have B11 := B10.put (m := 31) (by decide) hz2 hy2 (y2.take i.toNat ++ [v] ++ y2.drop i.toNat) (by
          obtain ⟨dq, h1, h2⟩ := B10.el 2 y2 hy2
          exact ⟨_, h1.ins i.toNat hd2, h2.ins i.toNat hel⟩)
        refine ⟨z2, y2, i, v, rfl, rfl, B10.at_ hz2 hy2, small_lt (by omega), i0, by omega, ?_⟩
        refine ⟨_, rfl, rfl, _, rfl, ifB (fun c4 => absurd (eqw c4) (by omega)) (fun _ => ⟨_, rfl, rfl, _, rfl, ifB (fun c4 => absurd (eqw c4) (by omega)) (fun _ => ?_)⟩)⟩
        exact ⟨_, rfl, D, _, rfl, .inl ⟨SqL.of B11.top, fin _ _ _ _ gg B11⟩⟩
      · have c9 : ¬ wy < 9 := of_decide_eq_false e9
        -- the parts stay from now on
        obtain ⟨F4, es, s4, S4, d4, l4, ok4⟩ := (B2.mono (show 30 ≤ 31 by decide)).freeze
        have hprt : ∀ e ∈ es, Prt e := fun e he => by
          obtain ⟨i, hi⟩ := List.getElem?_of_mem he
          obtain ⟨ds, _, _, rfl, _, h1, _⟩ := ok4 i e hi
          exact ⟨(h1.sm (by decide)).1, fun ds' e' => by cases e'; have := h1.1; omega⟩
        have hD2 : H2 D = some (.lst (as.map V.ref)) := S4.at_ (i := 1) rfl
        refine ⟨_, rfl, rfl, _, rfl, ifB (fun c4 => ?_) (fun c4 => ?_)⟩
        · have hw := eqw c4
          obtain ⟨e, he⟩ : ∃ e, es[j]? = some e := ⟨_, List.getElem?_eq_getElem (by rw [l4]; exact hj)⟩
          obtain ⟨dj, a', xs, hej, ha', hels, hxF, hdj⟩ := ok4 j e he
          have ea : a' = a := Option.some.inj (ha'.symm.trans ha)
          subst ea
          have lxs : xs.length ≤ 31 := by rw [hdj.len]; exact hels.1
          have hA := S4.fr _ _ hxF
          have A0 : DaAll F4 [] [] := .nil
          refine ⟨_, rfl, _, rfl, D, _, _, .ref a', rfl, rfl, SqL.of hD2, atI_nat haR, a', xs, rfl, .inl ⟨SqL.of hA, fun t0 n0 => ?_⟩⟩
          obtain ⟨F5, S5, A1, W1, g1, s1, k1⟩ := S4.add A0 d4 s4 n0 (.tup xs)
          have dj1 := hdj.same s1
          replace A1 := A1.snoc (.tup k1 dj1)
          have hxF1 := s1 _ _ hxF
          have hD5 := S5.at_ (i := 1) rfl
          refine ⟨_, rfl, _, rfl, D, _, _, .ref a', rfl, rfl, SqL.of hD5, atI_nat haR, _, rfl, a', xs, rfl, SqL.of (S5.fr _ _ hxF1), fun t1 n1 => ?_⟩
          obtain ⟨F6, S6, A2, W2, g2, s2, k2⟩ := S5.add ((((A1.snoc .non).snoc (.int 0)).snoc (.str ""))) W1 g1 n1 (.lst (cutV xs (some 1) none))
          obtain ⟨q1, q2, hcut⟩ := cut_da (dj1.same s2) (some 1) none
          replace A2 := A2.snoc (.lst k2 hcut)
          have hxF2 := s2 _ _ hxF1
          have dj2 := dj1.same s2
          have hD6 := S6.at_ (i := 1) rfl
          have hA6 := S6.fr _ _ hxF2
          refine ⟨_, rfl, _, rfl, D, _, _, .ref a', rfl, rfl, SqL.of hD6, atI_nat haR, _, rfl, _, rfl, D, _, _, .ref a', rfl, rfl, SqL.of hD6, atI_nat haR, a', a', xs, xs, rfl, rfl, hA6, hA6, small_sz (by omega), fun t2 n2 => ?_⟩
          obtain ⟨F7, S7, A3, W3, g3, s3, k3⟩ := S6.add A2 W2 g2 n2 (.lst (xs ++ xs))
          have dj3 := dj2.same s3
          replace A3 := A3.snoc (.lst k3 (dj3.app dj3))
          refine ⟨(show 6 ≤ sizeLine by decide), fun o no => ?_⟩
          obtain ⟨F8, S8, A5, W5, g5, s5, k5⟩ := S7.add A3 W3 g3 no (.lst [.ref t0, .non, .int 0, .str "", .ref t1, .ref t2])
          have A6 : DaAll F8 [.ref t0, .non, .int 0, .str "", .ref t1, .ref t2] [.tuple dj, .none, .int 0, .str "", .list ((dj.drop q1).take q2), .list (dj ++ dj)] := A5
          refine ⟨_, rfl, p, x2, 6, rfl, S8.at_ (i := 0) rfl, by decide, by decide, fun d0 x3 d00 d01 => ?_⟩
          have S9 := S8.set (i := 0) rfl (.lst [.int x3])
          obtain ⟨jd, rfl⟩ : ∃ jd : Nat, d0 = (jd : Int) := ⟨d0.toNat, by omega⟩
          have hjd : jd < 6 := by omega
          obtain ⟨v, hv1⟩ : ∃ v, [V.ref t0, .non, .int 0, .str "", .ref t1, .ref t2][jd]? = some v := ⟨_, List.getElem?_eq_getElem (by exact hjd)⟩
          obtain ⟨dv, hd1, hd2⟩ := A6.get hv1
          have hpr : Prt dv := by
            match jd, hd1 with
            | 0, hd1 => cases hd1; exact (hels.prt (by decide)).2
            | 1, hd1 => cases hd1; exact prt_flat (sm_non.mono (by decide) (by decide)) fun ds h => by cases h
            | 2, hd1 => cases hd1; exact prt_flat ((sm_small (by decide) (by decide)).mono (by decide) (by decide)) fun ds h => by cases h
            | 3, hd1 => cases hd1; exact prt_str _ (by decide +kernel) (by decide +kernel) (by decide +kernel)
            | 4, hd1 => cases hd1; exact ((hels.cut q1 q2).prt (by decide)).1
            | 5, hd1 => cases hd1; exact (hels.dbl.prt (by decide)).1
          have hD9 := S9.at_ (i := 1) rfl
          refine ⟨o, _, _, v, rfl, rfl, SqL.of (S9.fr _ _ k5), atI_nat hv1, ?_⟩
          refine ⟨_, rfl, _, rfl, D, _, _, j, rfl, rfl, hD9, ixN_at rfl (by rw [List.length_map, la]; exact hj), ?_⟩
          have S10 := S9.set (i := 1) rfl (.lst ((as.map V.ref).set j v))
          refine ⟨_, rfl, rfl, _, rfl, ifB (fun c5 => absurd (eqw c5) (by omega)) (fun _ => ?_)⟩
          refine ⟨_, rfl, D, _, rfl, .inl ⟨SqL.of (S10.at_ (i := 1) rfl), fun l nl => ?_⟩⟩
          have S11 := (S10.new nl (.tup ((as.map V.ref).set j v))).drop 1
          have s11 : Same F8 (upd F8 l (.tup ((as.map V.ref).set j v))) := same_upd (S10.fresh nl)
          have hf := few_tup (es := es.set j dv) (fun e he => by
            rcases List.mem_or_eq_of_mem_set he with z | z
            · exact hprt e z
            · rw [z]
              exact hpr) (by rw [List.length_set]; omega)
          exact q _ (.tuple (es.set j dv)) _ _ x3 (g5.trans s11) S11 (.tup upd_same ((W5.set j hd2).same s11)) hf.1 hf.2 (fun b e => by cases e) (fun i e => by cases e)
        · refine ⟨_, rfl, rfl, _, rfl, ifB (fun c5 => ?_) (fun c5 => ?_)⟩
          · have hw := eqw c5
            have S5 := S4.freeze (i := 1) rfl
            have s5 : Same F4 (upd F4 D (.lst (as.map V.ref))) := same_upd (S4.ow _ (List.mem_of_getElem? (i := 1) rfl)).2
            have W5 := d4.same s5
            have kD : (upd F4 D (.lst (as.map V.ref))) D = some (.lst (as.map V.ref)) := upd_same
            have g5 := s4.trans s5
            generalize upd F4 D (.lst (as.map V.ref)) = F5 at S5 s5 W5 kD g5
            have A0 : DaAll F5 [.ref D] [.list es] := .cons (.lst kD W5) .nil
            have lR : (as.map V.ref).length = 4 := by rw [List.length_map, la]
            refine ⟨_, rfl, _, rfl, _, rfl, D, _, rfl, SqL.of (S5.fr _ _ kD), fun t0 n0 => ?_⟩
            obtain ⟨F6, S6, A1, W6, g6, s6, k6⟩ := S5.add A0 W5 g5 n0 (.lst (cutV (as.map V.ref) none (some 3)))
            refine ⟨t0, _, rfl, .inl ⟨SqL.of (S6.fr _ _ k6), fun t1 n1 => ?_⟩⟩
            obtain ⟨F7, S7, A2, W7, g7, s7, k7⟩ := S6.add A1 W6 g6 n1 (.tup (cutV (as.map V.ref) none (some 3)))
            obtain ⟨q1, q2, hcut⟩ := cut_da W7 none (some 3)
            replace A2 := A2.snoc (.tup k7 hcut)
            refine ⟨_, rfl, (show 0 ≤ sizeLine by decide), fun t2 n2 => ?_⟩
            obtain ⟨F8, S8, A3, W8, g8, s8, k8⟩ := S7.add A2 W7 g7 n2 (.lst [])
            refine ⟨(show 1 ≤ sizeLine by decide), fun t3 n3 => ?_⟩
            obtain ⟨F9, S9, A4, W9, g9, s9, k9⟩ := S8.add A3 W8 g8 n3 (.lst [.ref t2])
            have kD9 := s9 _ _ (s8 _ _ (s7 _ _ (s6 _ _ kD)))
            refine ⟨D, t3, _, _, rfl, rfl, S9.fr _ _ kD9, S9.fr _ _ k9, small_sz (by rw [lR]; exact (show 4 + 1 ≤ 100000 by decide)), fun t4 n4 => ?_⟩
            obtain ⟨F10, S10, A5, W10, g10, s10, k10⟩ := S9.add A4 W9 g9 n4 (.lst (as.map V.ref ++ [.ref t2]))
            refine ⟨t4, _, rfl, .inl ⟨SqL.of (S10.fr _ _ k10), fun t5 n5 => ?_⟩⟩
            obtain ⟨F11, S11, A6, W11, g11, s11, k11⟩ := S10.add A5 W10 g10 n5 (.tup (as.map V.ref ++ [.ref t2]))
            replace A6 := A6.snoc (.tup k11 (W11.app (.cons (.lst (s11 _ _ (s10 _ _ (s9 _ _ k8))) .nil) .nil)))
            refine ⟨(show 0 ≤ sizeLine by decide), fun t6 n6 => ?_⟩
            obtain ⟨F12, S12, A7, W12, g12, s12, k12⟩ := S11.add (A6.snoc .non) W11 g11 n6 (.tup [])
            have kD12 := s12 _ _ (s11 _ _ (s10 _ _ kD9))
            replace A7 := ((A7.snoc (.tup k12 .nil)).snoc (.int 0)).snoc (.str "job")
            refine ⟨_, rfl, _, rfl, rfl, D, _, rfl, SqL.of (S12.fr _ _ kD12), fun t7 n7 => ?_⟩
            obtain ⟨F13, S13, A8, W13, g13, s13, k13⟩ := S12.add A7 W12 g12 n7 (.lst (as.map V.ref).reverse)
            refine ⟨t7, _, rfl, .inl ⟨SqL.of (S13.fr _ _ k13), fun t8 n8 => ?_⟩⟩
            obtain ⟨F14, S14, A9, W14, g14, s14, k14⟩ := S13.add A8 W13 g13 n8 (.tup (as.map V.ref).reverse)
            replace A9 := A9.snoc (.tup k14 W14.rev)
            refine ⟨(show 8 ≤ sizeLine by decide), fun o no => ?_⟩
            obtain ⟨F15, S15, A10, W15, g15, s15, k15⟩ := S14.add A9 W14 g14 no (.lst [.ref D, .ref t1, .ref t5, .non, .ref t6, .int 0, .str "job", .ref t8])
            have A11 : DaAll F15 [.ref D, .ref t1, .ref t5, .non, .ref t6, .int 0, .str "job", .ref t8] [.list es, .tuple ((es.drop q1).take q2), .tuple (es ++ [.list []]), .none, .tuple [], .int 0, .str "job", .tuple es.reverse] := A10
            refine ⟨_, rfl, _, rfl, p, x2, 8, rfl, S15.at_ (i := 0) rfl, by decide, by decide, fun d0 x3 d00 d01 => ?_⟩
            have S16 := S15.set (i := 0) rfl (.lst [.int x3])
            obtain ⟨jd, rfl⟩ : ∃ jd : Nat, d0 = (jd : Int) := ⟨d0.toNat, by omega⟩
            have hjd : jd < 8 := by omega
            obtain ⟨v, hv1⟩ : ∃ v, [V.ref D, .ref t1, .ref t5, .non, .ref t6, .int 0, .str "job", .ref t8][jd]? = some v := ⟨_, List.getElem?_eq_getElem (by exact hjd)⟩
            obtain ⟨dv, hd1, hd2⟩ := A11.get hv1
            have nil0 : Prt (.list []) := ⟨⟨rfl, rfl, rfl, rfl, by decide, by decide⟩, fun ds e => by cases e; exact Nat.zero_le _⟩
            have hok : FewD dv ∧ SmB 160000 5 dv := by
              match jd, hd1 with
              | 0, hd1 => cases hd1; exact ⟨few_other (fun ps e => by cases e), sm_es hprt (by omega)⟩
              | 1, hd1 => cases hd1; exact few_tup (fun e he => hprt e (mem_cut he)) (by have := cut_len q1 q2 es; omega)
              | 2, hd1 =>
                cases hd1
                exact few_tup (fun e he => by
                  rcases List.mem_append.mp he with z | z
                  · exact hprt e z
                  · rw [List.mem_singleton.mp z]
                    exact nil0) (by rw [List.length_append, l4]; decide)
              | 3, hd1 => cases hd1; exact few_prt (sm_non.mono (by decide) (by decide)) (fun ps e => by cases e)
              | 4, hd1 => cases hd1; exact few_tup (fun e he => by cases he) (by decide)
              | 5, hd1 => cases hd1; exact few_prt ((sm_small (by decide) (by decide)).mono (by decide) (by decide)) (fun ps e => by cases e)
              | 6, hd1 => cases hd1; exact few_prt ⟨by decide +kernel, rfl, by decide +kernel, rfl, Nat.zero_le _, by decide +kernel⟩ (fun ps e => by cases e)
              | 7, hd1 => cases hd1; exact few_tup (fun e he => hprt e (List.mem_reverse.mp he)) (by rw [List.length_reverse]; omega)
            have hv2 : (∀ b, v ≠ .bl b) ∧ (∀ i, v = .int i → i.natAbs.log2 < 1920) := by
              match jd, hv1 with
              | 0, hv1 => cases hv1; exact ⟨fun b e => (by cases e), fun i e => (by cases e)⟩
              | 1, hv1 => cases hv1; exact ⟨fun b e => (by cases e), fun i e => (by cases e)⟩
              | 2, hv1 => cases hv1; exact ⟨fun b e => (by cases e), fun i e => (by cases e)⟩
              | 3, hv1 => cases hv1; exact ⟨fun b e => (by cases e), fun i e => (by cases e)⟩
              | 4, hv1 => cases hv1; exact ⟨fun b e => (by cases e), fun i e => (by cases e)⟩
              | 5, hv1 => cases hv1; exact ⟨fun b e => (by cases e), fun i e => (by cases e; decide +kernel)⟩
              | 6, hv1 => cases hv1; exact ⟨fun b e => (by cases e), fun i e => (by cases e)⟩
              | 7, hv1 => cases hv1; exact ⟨fun b e => (by cases e), fun i e => (by cases e)⟩
            exact ⟨o, _, _, v, rfl, rfl, SqL.of (S16.fr _ _ k15), atI_nat hv1, q v dv _ _ x3 g15 S16 hd2 hok.1 hok.2 hv2.1 hv2.2⟩
          · exact ⟨_, rfl, D, _, rfl, .inl ⟨SqL.of hD2, fin _ _ _ _ (fun _ _ h => h) (B2.mono (by decide))⟩⟩

theorem fresh_same {p : Addr} {H H1 H2 : Hp} (s : Same H H1) (n : H p = none) (b : But p H1 H2) : Same H H2 := fun a o h => b a o (ne_of_none h n) (s a o h)
theorem good_of {v : V} {e : PyData} (h : SmB 160000 5 e) (h1 : ∀ b, v ≠ .bl b) (h2 : ∀ i, v = .int i → i.natAbs.log2 < 1920) : Lay e ∧ StrOk v e :=
  ⟨⟨h.can, Nat.le_trans h.dep (by decide)⟩, ⟨h.show_, h.dict, Nat.le_trans h.dep (by decide), Nat.le_trans h.len (by decide), h2, h1⟩⟩
theorem JobAt.da {H : Hp} {J f d n r : Addr} {fs : List Int} {ds : List (Option Int)} {zs : List (Addr × Nat × Nat)} {rs : List Int} (j : JobAt H J f d n r fs ds zs rs) : Da H (.ref J) (jobD fs ds zs rs) :=
  .tup j.top (.cons (.lst j.fr (daAll_iV fs)) (.cons (.lst j.du (daAll_oV ds)) (.cons (.lst j.ne.1 (daAll_zs j.ne.2)) (.cons (.lst j.ro (daAll_iV rs)) .nil))))
theorem jobD_few {fs : List Int} {ds : List (Option Int)} {zs : List (Addr × Nat × Nat)} {rs : List Int} (h1 : fs.length ≤ 1000) (h2 : ds.length ≤ 1000) (h3 : zs.length < 64) (h4 : rs.length ≤ 1000) : FewD (jobD fs ds zs rs) := fun ps e => by
  cases e
  refine ⟨(show 4 ≤ 1000 by decide), fun fs' ds' ns' rs' e => ?_⟩
  cases e
  exact ⟨by rw [List.length_map]; exact h1, by rw [List.length_map]; exact h2, by rw [List.length_map]; exact h3, by rw [List.length_map]; exact h4⟩
theorem jobD_is {fs : List Int} {ds : List (Option Int)} {zs : List (Addr × Nat × Nat)} {rs : List Int} (h1 : ds.length = fs.length) (h2 : ∀ x ∈ fs, 1 ≤ x) (h3 : ∀ x, some x ∈ ds → 0 ≤ x) (h4 : (zs.map (·.2)).Nodup) (h5 : ∃ rk : Nat → Nat, ∀ z ∈ zs, z.2.1 < fs.length ∧ z.2.2 < fs.length ∧ rk z.2.1 < rk z.2.2)
    (h6 : ∀ y ∈ rs, 0 ≤ y ∧ y ≤ 3) : IsJobD (jobD fs ds zs rs) := by
  refine ⟨_, _, _, _, rfl, by rw [List.length_map, List.length_map, h1], List.all_eq_true.mpr fun x hx => ?_, List.all_eq_true.mpr fun x hx => ?_, ⟨zs.map (·.2), ?_, fun z hz => ?_, h4, ?_⟩, List.all_eq_true.mpr fun x hx => ?_⟩
  · obtain ⟨i, hi, rfl⟩ := List.mem_map.mp hx
    exact decide_eq_true (h2 i hi)
  · obtain ⟨i, hi, rfl⟩ := List.mem_map.mp hx
    cases i with
    | none => rfl
    | some i => exact decide_eq_true (h3 i hi)
  · rw [List.map_map]
    rfl
  · obtain ⟨y, hy, rfl⟩ := List.mem_map.mp hz
    obtain ⟨rk, h⟩ := h5
    rw [List.length_map]
    exact ⟨(h y hy).1, (h y hy).2.1⟩
  · obtain ⟨rk, h⟩ := h5
    refine ⟨rk, fun z hz => ?_⟩
    obtain ⟨y, hy, rfl⟩ := List.mem_map.mp hz
    exact (h y hy).2.2
  · obtain ⟨i, hi, rfl⟩ := List.mem_map.mp hx
    have := h6 i hi
    show (decide (0 ≤ i) && decide (i ≤ 3)) = true
    rw [decide_eq_true this.1, decide_eq_true this.2]
    rfl
theorem rep_one (k : Nat) : (List.replicate k [V.int 1]).flatten = iV (List.replicate k 1) := by
  induction k with
  | zero => rfl
  | succ k ih =>
    rw [List.replicate_succ, List.flatten_cons, ih]
    rfl
theorem iV_append (a b : List Int) : iV a ++ iV b = iV (a ++ b) := (List.map_append ..).symm
theorem oV_append (a b : List (Option Int)) : oV a ++ oV b = oV (a ++ b) := (List.map_append ..).symm
theorem Sep.hide {H : Hp} {p : Addr} {o : HO} (h : H p = some o) : ∃ F, Sep F [(p, o)] H ∧ But p H F := by
  refine ⟨fun b => if b = p then none else H b, ⟨fun b u e => ?_, fun z hz => ?_, ?_⟩, fun b u n e => ?_⟩
  · by_cases n : b = p
    · exact nomatch (if_pos n).symm.trans e
    · exact (if_neg n).symm.trans e
  · rw [List.mem_singleton.mp hz]
    exact ⟨h, if_pos rfl⟩
  · exact List.nodup_cons.mpr ⟨fun h => (by cases h), List.nodup_nil⟩
  · exact (if_neg n).trans e
theorem Sep.add1 {F H : Hp} {os : List (Addr × HO)} (S : Sep F os H) {q : Addr} (h : H q = none) (o : HO) : ∃ F', Sep F' os (upd H q o) ∧ Same F F' ∧ F' q = some o :=
  ⟨_, S.new h o, same_upd (S.fresh h), upd_same⟩
def spLaw (K : PySem.W.Frag) : Sp := fun vs H Q _ => ∃ (a : Addr) (ns : List Int), vs = [.ref a] ∧ SqL K H a (ns.map V.int) ∧ ns.length ≤ 63 ∧ ∀ H', Q (.bl true) H'
theorem okl_law {fd : FuncData} (F : FunD K dd_law.name dd_law.qual dd_law.params dd_law.body dd_law.scope (dd_law.dvs K) (dd_law.kws K) (He.fAd K dd_law.at_) fd) (T : Env K mg) : FnG P w K mg base CX0 11 (He.fAd K dd_law.at_) fd ["_law_script"] (spLaw K) := by
  obtain ⟨fd__law_good, D__law_good, g__law_good, k__law_good, b__law_good, G__law_good⟩ := ok__law_good (P := P) (w := w) (base := base) T
  obtain ⟨fd__law_pile, D__law_pile, g__law_pile, k__law_pile, b__law_pile, G__law_pile⟩ := ok__law_pile (P := P) (w := w) (base := base) T
  obtain ⟨fd__law_job, D__law_job, g__law_job, k__law_job, b__law_job, G__law_job⟩ := ok__law_job (P := P) (w := w) (base := base) T
  obtain ⟨fd_is_job, D_is_job, g_is_job, k_is_job, b_is_job, G_is_job⟩ := ok_is_job (P := P) (w := w) (base := base) T
  obtain ⟨fd__law_bent_job, D__law_bent_job, g__law_bent_job, k__law_bent_job, b__law_bent_job, G__law_bent_job⟩ := ok__law_bent_job (P := P) (w := w) (base := base) T
  refine funD_okG F sc_law (fun vs H Q E h => ?_) (fun cdv A outer s H vs Q E hr hgd h => ?_)
  · obtain ⟨a, ns, rfl, hS, hlen, q⟩ := h
    rfl
  · obtain ⟨a, ns, rfl, hS, hlen, q⟩ := h
    refine ⟨_, PSs.nox (pss_cons (ps_for PassesOwn.never rfl (pi_range1 (by rfl) (T.fr 37 _ rfl) (pa_cons (pe_callB (call_max2 rfl) (by rfl) (T.fr 39 _ rfl) (by decide +kernel) (pa_cons pe_int (pa_cons (pe_callB (call_min2 rfl) (by rfl) (T.fr 38 _ rfl) (by decide +kernel) (pa_cons (pe_callB call_len_seq (by rfl) (T.fr 33 _ rfl) (by decide +kernel) (pa_cons (pv 0) pa_nil)) (pa_cons pe_int pa_nil))) pa_nil))) pa_nil)) (pg_name (i := 1) sc_law.nd rfl (Or.inl rfl)) (pss_cons (ps_set (i := 2) sc_law.nd rfl (Or.inl rfl) (pe_call G__law_pile (hr.mono (by decide)) (by rfl) g__law_pile k__law_pile b__law_pile .nil pass0 (pa_cons (pv 0) (pa_cons (pv 1) pa_nil))))
      (pss_cons (ps_set (i := 3) sc_law.nd rfl (Or.inl rfl) (pe_call G__law_job (hr.mono (by decide)) (by rfl) g__law_job k__law_job b__law_job .nil pass0 (pa_cons (pv 2) (pa_cons pe_int (pa_cons pe_int pa_nil)))))
      (pss_cons (ps_set (i := 4) sc_law.nd rfl (Or.inl rfl) (pe_tup (pa_cons (pe_op op_cat (pe_ix ix_tup (pv 3) pe_int (fun _ _ => rfl)) (pe_lst (pa_cons pe_int (pa_cons pe_int (pa_cons pe_int pa_nil))))) (pa_cons (pe_op op_cat (pe_ix ix_tup (pv 3) pe_int (fun _ _ => rfl)) (pe_lst (pa_cons pe_non (pa_cons pe_int (pa_cons pe_int pa_nil))))) (pa_cons (pe_ix ix_tup (pv 3) pe_int (fun _ _ => rfl)) (pa_cons (pe_op op_cat (pe_ix ix_tup (pv 3) pe_int (fun _ _ => rfl)) (pe_op op_rep (pe_lst (pa_cons pe_int pa_nil)) (pe_op op_sub pe_int (pe_callB call_len_seq (by rfl) (T.fr 33 _ rfl) (by decide +kernel) (pa_cons (pe_ix ix_tup (pv 3) pe_int (fun _ _ => rfl)) pa_nil))))) pa_nil))))))
      (pss_cons (ps_if (PW.pt (pw_or (pt_not (pt_val (pe_callG hgd G__law_good (hr.mono (by decide)) (by rfl) g__law_good k__law_good b__law_good .nil pass0 (pa_cons (pv 3) pa_nil)))) (pw_or (pt_cmpR op_notBl (pe_call G_is_job (hr.mono (by decide)) (by rfl) g_is_job k_is_job b_is_job .nil pass0 (pa_cons (pv 3) pa_nil)) pe_bl (nomark _)) (pw_or1 (pt_cmpR op_notBl (pe_call G_is_job (hr.mono (by decide)) (by rfl) g_is_job k_is_job b_is_job .nil pass0 (pa_cons (pv 4) pa_nil)) pe_bl (nomark _)))))) (pss_one (ps_ret pe_bl)) pss_nil)
      (pss_one (ps_for PassesOwn.never rfl (pi_range1 (by rfl) (T.fr 37 _ rfl) (pa_cons pe_int pa_nil)) (pg_name (i := 5) sc_law.nd rfl (Or.inl rfl)) (pss_one (ps_if (pt_not (pt_val (pe_callG hgd G__law_good (hr.mono (by decide)) (by rfl) g__law_good k__law_good b__law_good .nil pass0 (pa_cons (pe_call G__law_bent_job (hr.mono (by decide)) (by rfl) g__law_bent_job k__law_bent_job b__law_bent_job .nil pass0 (pa_cons (pv 2) (pa_cons (pv 3) pa_nil))) pa_nil)))) (pss_one (ps_ret pe_bl)) pss_nil)))))))))
      (pss_one (ps_ret (pe_callG hgd G__law_good (hr.mono (by decide)) (by rfl) g__law_good k__law_good b__law_good .nil pass0 (pa_cons (pe_tup (pa_cons (pe_lst pa_nil) (pa_cons (pe_lst pa_nil) (pa_cons (pe_lst pa_nil) (pa_cons (pe_lst pa_nil) pa_nil))))) pa_nil))))), ?_⟩
    walk_at "u"
    have em : ∃ m : Int, (if (if (8 : Int) < ((ns.map V.int).length : Int) then (8 : Int) else ((ns.map V.int).length : Int)) > 2 then (if (8 : Int) < ((ns.map V.int).length : Int) then (8 : Int) else ((ns.map V.int).length : Int)) else 2) = m ∧ 2 ≤ m ∧ m ≤ 8 := ⟨_, rfl, by split <;> split <;> omega, by split <;> split <;> omega⟩
    obtain ⟨m, em, m0, m1⟩ := em
    refine ⟨_, rfl, a, _, rfl, .inl hS, _, _, rfl, _, _, rfl, ?_⟩
    rw [em]
    refine ⟨_, rfl, by omega, by omega, for_range (lo := 0) (n := m.toNat) (fun i σ H' => ∃ y1 y2 y3 y4 y5, σ = [some (.ref a), y1, y2, y3, y4, y5] ∧ Same H H') ⟨none, none, none, none, none, rfl, Same.refl _⟩ (fun i σ H' hi hP => ?_) (fun σ H' hP => ?_)⟩
    · obtain ⟨y1, y2, y3, y4, y5, rfl, sm⟩ := hP
      refine ⟨_, rfl, _, rfl, a, ns, _, rfl, sm.seq hS, hlen, by omega, fun p x np => ?_⟩
      have s1 : Same H (upd H' p (.lst [.int x])) := sm.trans (same_upd np)
      have np0 : H p = none := sm.free np
      refine ⟨_, rfl, p, x, 1, 12, rfl, upd_same, by decide, by decide, by decide, fun J f d n r fs ds zs rs x' H2 nJ b2 hp2 hj hv hfl _ _ nf nd nn nr => ?_⟩
      have s2 : Same H H2 := fresh_same s1 np0 b2
      -- the frozen heap: all but the pile
      obtain ⟨F, S, bF⟩ := Sep.hide hp2
      have sF : Same H F := fresh_same s2 np0 bF
      have jF : JobAt F J f d n r fs ds zs rs := hj.but hp2 nf nd nn nr bF
      clear nf nd nn nr hj hp2 b2 s2 bF s1
      have rl := hv.ro.len
      have dl := hv.dl
      have zl := hv.zl
      refine ⟨_, rfl, _, _, _, .ref f, rfl, rfl, SqT.of (S.fr _ _ jF.top), atI_nat (j := 0) rfl, (show 3 ≤ sizeLine by decide), fun t1 n1 => ?_⟩
      obtain ⟨F1, S1, g1, k1⟩ := S.add1 n1 (.lst (iV [1, 50, 1]))
      refine ⟨f, t1, _, _, rfl, rfl, S1.fr _ _ (g1 _ _ jF.fr), S1.fr _ _ k1, small_sz (by rw [iV_len, iV_len]; show fs.length + 3 ≤ 100000; omega), fun t2 n2 => ?_⟩
      obtain ⟨F2, S2, g2, k2⟩ := S1.add1 n2 (.lst (iV fs ++ iV [1, 50, 1]))
      have g02 := g1.trans g2
      refine ⟨_, rfl, _, _, _, .ref d, rfl, rfl, SqT.of (S2.fr _ _ (g02 _ _ jF.top)), atI_nat (j := 1) rfl, (show 3 ≤ sizeLine by decide), fun t3 n3 => ?_⟩
      obtain ⟨F3, S3, g3, k3⟩ := S2.add1 n3 (.lst (oV [none, some 0, some 99]))
      have g03 := g02.trans g3
      refine ⟨d, t3, _, _, rfl, rfl, S3.fr _ _ (g03 _ _ jF.du), S3.fr _ _ k3, small_sz (by rw [oV_len, oV_len]; show ds.length + 3 ≤ 100000; omega), fun t4 n4 => ?_⟩
      obtain ⟨F4, S4, g4, k4⟩ := S3.add1 n4 (.lst (oV ds ++ oV [none, some 0, some 99]))
      have g04 := g03.trans g4
      refine ⟨_, rfl, _, _, _, .ref n, rfl, rfl, SqT.of (S4.fr _ _ (g04 _ _ jF.top)), atI_nat (j := 2) rfl, ?_⟩
      refine ⟨_, rfl, _, _, _, .ref r, rfl, rfl, SqT.of (S4.fr _ _ (g04 _ _ jF.top)), atI_nat (j := 3) rfl, (show 1 ≤ sizeLine by decide), fun t5 n5 => ?_⟩
      obtain ⟨F5, S5, g5, k5⟩ := S4.add1 n5 (.lst [.int 1])
      have g05 := g04.trans g5
      refine ⟨_, rfl, _, _, _, .ref r, rfl, rfl, SqT.of (S5.fr _ _ (g05 _ _ jF.top)), atI_nat (j := 3) rfl, r, _, rfl, .inl (SqL.of (S5.fr _ _ (g05 _ _ jF.ro))), _, _, rfl, rfl, t5, _, _, rfl, rfl, S5.fr _ _ k5, by rw [iV_len]; omega, by rw [iV_len]; omega, small_sz (by rw [iV_len]; show 1 * (21 - (rs.length : Int)).toNat ≤ 100000; omega), fun t6 n6 => ?_⟩
      obtain ⟨ko, hko⟩ : ∃ ko : Nat, (21 - ((iV rs).length : Int)).toNat = ko ∧ ko ≤ 21 := ⟨_, rfl, by omega⟩
      rw [hko.1, rep_one]
      obtain ⟨F6, S6, g6, k6⟩ := S5.add1 n6 (.lst (iV (List.replicate ko 1)))
      have g06 := g05.trans g6
      refine ⟨r, t6, _, _, rfl, rfl, S6.fr _ _ (g06 _ _ jF.ro), S6.fr _ _ k6, small_sz (by rw [iV_len, iV_len, List.length_replicate]; omega), fun t7 n7 => ?_⟩
      obtain ⟨F7, S7, g7, k7⟩ := S6.add1 n7 (.lst (iV rs ++ iV (List.replicate ko 1)))
      refine ⟨(show 4 ≤ sizeLine by decide), fun M nM => ?_⟩
      obtain ⟨F8, S8, g8, k8⟩ := S7.add1 nM (.tup [.ref t2, .ref t4, .ref n, .ref t7])
      have g08 := (g06.trans g7).trans g8
      have jM : JobAt F8 M t2 t4 n t7 (fs ++ [1, 50, 1]) (ds ++ [none, some 0, some 99]) zs (rs ++ List.replicate ko 1) :=
        ⟨k8, by rw [← iV_append]; exact g8 _ _ (g7 _ _ (g6 _ _ (g5 _ _ (g4 _ _ (g3 _ _ k2))))), by rw [← oV_append]; exact g8 _ _ (g7 _ _ (g6 _ _ (g5 _ _ k4))), jF.ne.same g08, by rw [← iV_append]; exact g8 _ _ k7⟩
      have jF8 := jF.same g08
      have sF8 := sF.trans g08
      clear g1 g2 g3 g4 g5 g6 g7 g8 k1 k2 k3 k4 k5 k6 k7 k8 S S1 S2 S3 S4 S5 S6 S7 g02 g03 g04 g05 g06 jF sF
      obtain ⟨rk, hrk⟩ := hv.rank
      have hJ : IsJobD (jobD fs ds zs rs) := jobD_is hv.dl (fun x hx => (hv.fv x hx).1) (fun x hx => (hv.dv x hx).1) hv.znd hv.rank hv.ro.val
      have hM : IsJobD (jobD (fs ++ [1, 50, 1]) (ds ++ [none, some 0, some 99]) zs (rs ++ List.replicate ko 1)) := by
        refine jobD_is (by rw [List.length_append, List.length_append, hv.dl]; rfl) (fun x hx => ?_) (fun x hx => ?_) hv.znd ⟨rk, fun z hz => ?_⟩ (fun y hy => ?_)
        · rcases List.mem_append.mp hx with z | z
          · exact (hv.fv x z).1
          · simp only [List.mem_cons, List.not_mem_nil, or_false] at z
            omega
        · rcases List.mem_append.mp hx with z | z
          · exact (hv.dv x z).1
          · simp only [List.mem_cons, List.not_mem_nil, or_false, reduceCtorEq, false_or, Option.some.injEq] at z
            omega
        · have := hrk z hz
          rw [List.length_append]
          exact ⟨by omega, by omega, this.2.2⟩
        · rcases List.mem_append.mp hy with z | z
          · exact hv.ro.val y z
          · rw [List.eq_of_mem_replicate z]
            decide
      have hfJ : FewD (jobD fs ds zs rs) := jobD_few (by omega) (by omega) (by omega) (by omega)
      have hfM : FewD (jobD (fs ++ [1, 50, 1]) (ds ++ [none, some 0, some 99]) zs (rs ++ List.replicate ko 1)) :=
        jobD_few (by rw [List.length_append]; show fs.length + 3 ≤ 1000; omega) (by rw [List.length_append]; show ds.length + 3 ≤ 1000; omega) (by omega) (by rw [List.length_append, List.length_replicate]; omega)
      obtain ⟨ly, so⟩ := good_of (v := .ref J) (hv.sm.toB.mono (by decide) (by decide)) (fun b e => (by cases e)) (fun i e => (by cases e))
      have dJ := jF8.da
      have dM := jM.da
      refine ⟨_, rfl, _, _, rfl, dJ.same S8.fr, hfJ, ly, so, fun H9 s9 => ⟨_, rfl, iteF ?_⟩⟩
      have S9 := S8.same s9
      refine ⟨_, rfl, _, _, rfl, dJ.same S9.fr, hfJ, fun c H10 s10 hc => ⟨c, true, rfl, rfl, ?_⟩⟩
      have ec : c = true := hc.mpr hJ
      subst ec
      have S10 := S9.same s10
      refine ⟨_, rfl, iteF ⟨_, rfl, _, _, rfl, dM.same S10.fr, hfM, fun c H11 s11 hc => ⟨c, true, rfl, rfl, ?_⟩⟩⟩
      have ec : c = true := hc.mpr hM
      subst ec
      have S11 := S10.same s11
      refine ⟨_, rfl, iteF ?_⟩
      refine ⟨_, rfl, by omega, by omega, for_range (lo := 0) (n := 8) (fun i σ H' => ∃ y1 y5 x F', σ = [some (.ref a), some y1, some (.ref p), some (.ref J), some (.ref M), y5] ∧ Same F8 F' ∧ Sep F' [(p, .lst [.int x])] H') ⟨_, _, _, F8, rfl, fun _ _ h => h, S11⟩ (fun i2 σ H12 hi2 hP => ?_) (fun σ H12 hP => ?_)⟩
      · obtain ⟨y1, y5, x5, F', rfl, sF', S12⟩ := hP
        refine ⟨_, rfl, _, rfl, p, J, f, d, n, r, x5, F', fs, ds, zs, rs, rfl, S12, jF8.same sF', hv, hfl, fun v e F2 H13 x6 sF2 S13 hde hfe hse hnb hni => ?_⟩
        obtain ⟨ly2, so2⟩ := good_of hse hnb hni
        exact ⟨v, e, rfl, hde.same S13.fr, hfe, ly2, so2, fun H14 s14 => ⟨_, rfl, iteF ⟨_, _, x6, F2, rfl, sF'.trans sF2, S13.same s14⟩⟩⟩
      · obtain ⟨y1, y5, x5, F', rfl, sF', S12⟩ := hP
        exact ⟨_, _, _, _, _, rfl, (sF8.trans sF').trans S12.fr⟩
    · obtain ⟨y1, y2, y3, y4, y5, rfl, sm⟩ := hP
      refine ⟨(show 0 ≤ sizeLine by decide), fun a1 n1 => ⟨(show 0 ≤ sizeLine by decide), fun a2 n2 => ⟨(show 0 ≤ sizeLine by decide), fun a3 n3 => ⟨(show 0 ≤ sizeLine by decide), fun a4 n4 => ⟨(show 4 ≤ sizeLine by decide), fun J nJ => ?_⟩⟩⟩⟩⟩
      obtain ⟨F1, S1, g1, k1⟩ := (Sep.nil H').add1 n1 (.lst [])
      obtain ⟨F2, S2, g2, k2⟩ := S1.add1 n2 (.lst [])
      obtain ⟨F3, S3, g3, k3⟩ := S2.add1 n3 (.lst [])
      obtain ⟨F4, S4, g4, k4⟩ := S3.add1 n4 (.lst [])
      obtain ⟨F5, S5, g5, k5⟩ := S4.add1 nJ (.tup [.ref a1, .ref a2, .ref a3, .ref a4])
      have jE : JobAt F5 J a1 a2 a3 a4 [] [] [] [] := ⟨k5, g5 _ _ (g4 _ _ (g3 _ _ (g2 _ _ k1))), g5 _ _ (g4 _ _ (g3 _ _ k2)), ⟨g5 _ _ (g4 _ _ k3), fun z hz => (by cases hz)⟩, g5 _ _ k4⟩
      have vE : Valid [] [] [] [] := ⟨by decide, rfl, fun x hx => (by cases hx), fun x hx => (by cases hx), by decide, List.nodup_nil, ⟨fun t => t, fun z hz => (by cases hz)⟩, ⟨by decide, fun y hy => (by cases hy)⟩⟩
      obtain ⟨ly, so⟩ := good_of (v := .ref J) (vE.sm.toB.mono (by decide) (by decide)) (fun b e => (by cases e)) (fun i e => (by cases e))
      exact ⟨_, _, rfl, jE.da.same S5.fr, jobD_few (by decide) (by decide) (by decide) (by decide), ly, so, fun H9 s9 => q H9⟩

end
/-! ### the head -/
def loose0 : List PySem.Str := ["is_whole", "is_whole_from", "is_hour", "is_due", "is_job", "is_room", "is_task", "is_need", "are_needs", "followers_of", "has_ring", "check_job", "is_narrow", "_law_mixed", "_law_pile", "_law_take", "_law_order", "_law_room", "_law_hours", "_law_needs"]
def loose1 : List PySem.Str := ["_law_job", "_law_whole", "_law_ringless", "_law_is_job", "_law_bent_job", "_law_narrow", "_law_far", "_law_good", "MOST_ROOM", "JobError", "NoJob"]
abbrev R : PySem.W.OpenRow := PySem.W.OpenLaw.row PySem.Challenge.rw_duepairs_k01_what_is_a_job
abbrev hk : PySem.W.Hook := hookE 4 fa fn exK
def ob (s : PySem.W.SharedT) : AlE := obsE 4 fa fn exK (HandSHeadRun.getT s)
theorem ob_eq (s : PySem.W.SharedT) : ob s = hk.obs s.abs := obsE_eq (HandSHeadRun.getT_eq s)
abbrev loose : List PySem.Str := loose0 ++ loose1
theorem run (w : World) : HandSHeadRun.RunEq R (PySem.W.view R.prog [35]) hk ob 4000 loose w := by
  intro os
  kernel_rfl
theorem facts {P : Program} {w : World} {K : PySem.W.Frag} {h : Heap} {mg : Str → Option Value} {f : Addr} (X : K.In h) (G : h.Ns mainGlobals mg) (hfa : mg ("law" : Str) = some (.ref f)) (c : He.SaysD fa fn K) (ex : exK K = true) :
    ∃ fd : FuncData, (∀ (s : Shared) (v : Value), BindsTo s fd ⟨[v], []⟩ [("_law_script", v)]) ∧ ∀ base : Heap, K.In base → base.Ns mainGlobals mg → FnG P w K mg base CX0 11 f fd ["_law_script"] (spLaw K) := by
  have T : Env K mg := ⟨c, fun i x e => He.glo_ok X G (c.fact i e), fun i x e => He.free_ok X G (c.fact i e), fun i x n e => He.int_ok X G (c.fact i e), fun i x e => He.exc_ok (c.fact i e), fun i x y b e => He.exm_ok (c.fact i e), fun i f e => List.all_eq_true.mp ex f (List.mem_of_getElem? e)⟩
  obtain ⟨fd, F⟩ := c.def_ 28 (d := dd_law) rfl
  have e := hfa.symm.trans (T.gl 28 "law" rfl)
  cases e
  have b := FunD.bindsA (ps := ["_law_script"]) F fun _ _ _ _ _ _ us hl => match us, hl with | [_], _ => rfl
  refine ⟨fd, fun s v => b s [v] rfl, fun base _ _ => ?_⟩
  exact okl_law F T
end DP
open PySem PySem.W PySem.Calls PyProof.Rows
set_option maxRecDepth 100000 in
set_option maxHeartbeats 0 in
theorem PySem.Challenge.cw_duepairs_k01_what_is_a_job_holds : PySem.Challenge.rw_duepairs_k01_what_is_a_job.Holds := by
  w_on; o_law
  refine HandSHeadRun.head_any (r := OpenLaw.row PySem.Challenge.rw_duepairs_k01_what_is_a_job) (q := view (OpenLaw.row PySem.Challenge.rw_duepairs_k01_what_is_a_job).prog [35]) (H := DP.hk) (ob := DP.ob) (M := 4000) (loose := DP.loose) (d := HandSHeadRun.topDef (OpenLaw.row PySem.Challenge.rw_duepairs_k01_what_is_a_job).prog 35) (kwd := []) DP.ob_eq
    (by kernel_rfl) (fun s => by kernel_rfl) DP.run (by kernel_rfl) (by kernel_rfl) (by kernel_rfl) (by rfl) (by first | assumption | decide +kernel) (by decide +kernel) ⟨rfl, rfl, rfl, rfl, rfl, by decide +kernel⟩ ?hw ?hc
  case hw => w_witness2
  case hc =>
    refine DP.walk_ofG (l := PySem.Challenge.rw_duepairs_k01_what_is_a_job) (n := 63) (k := 11) (x := "_law_script") (CX := L2.CX0) rfl (by decide) (by kernel_rfl) ⟨rfl, by decide, by decide⟩ ?F (fun _ _ _ _ z => z)
    intro w mg fa h Y G hmg0
    obtain ⟨K, KX, c, ex⟩ := Y
    have hmg : mg ("law" : PySem.Str) = some (.ref fa) := by
      have e : (HandSHeadRun.topDef (OpenLaw.row PySem.Challenge.rw_duepairs_k01_what_is_a_job).prog 35).name = ("law" : PySem.Str) := by kernel_rfl
      rw [← e]
      exact hmg0
    obtain ⟨fd, hb, hF⟩ := DP.facts (P := (PySem.Challenge.rw_duepairs_k01_what_is_a_job).prog) (w := w) KX G hmg c ex
    exact ⟨K, fd, DP.spLaw K, KX, hb, fun H a ns hl _ hS => ⟨a, ns, rfl, hS, hl, fun _ => rfl⟩, hF⟩

