import PyProof.Rows.All
import Wide.All
import OpenK.AllK
import Wide.FinOn
import KE.KStateDown
import Lean
import HandS.ForMost
import HandS.More
import HandS.SortInts
import HandS.IsInst
import HandS.Wide
import HandS.TupSets
import HandS.Defaults
import HandS.WordsExc
import HandS.Head0
import HandS.Head1
import HandS.Head2
import HandS.HeadEnd
import HandS.HeadHook1
import HandS.HeadHook2
import HandS.Conv
import HandS.NoneIn
import HandS.ForExc
import HandS.ExcIs
import HandS.DictTup
import HandS.ListItems
import HandS.SetFor
import HandS.SortInts
import HandS.Walk
import HandS.Style
import HandS.RaiseMore
import HandS.Deep
import HandS.DictComp
import HandS.TupAny
import HandS.StrMore
import PySem.Challenge.RW_duepairs_k60_jobs_written
import PyProof.ReprRoads
import PyProof.Rows.ReprShort
import PyProof.ReprLen
import KE.DataMinMax
import KE.KUnpackStar
import KE.GoesEnumKw
import HandS.SortKw
import KE.IntTextText
set_option Elab.async false
set_option linter.all false
set_option maxRecDepth 100000
set_option maxHeartbeats 4000000
set_option synthInstance.maxSize 100000
set_option synthInstance.maxHeartbeats 4000000
namespace DP
open PySem PySem.Spec PyProof.Rows L2
/-! the text by places -/
def topS (i : Nat) : Stmt := PySem.Challenge.pw_duepairs_k60_jobs_written.main.body.getD i (.Pass ⟨0, 0, 0, 0⟩)
abbrev s_is_whole : Stmt := topS 5
abbrev N_is_whole : List Str := ["thing"]
theorem sc_is_whole : FnScope N_is_whole ["thing"] (defScope s_is_whole) := ⟨rfl, rfl, rfl, by decide +kernel, rfl, by decide +kernel, by decide +kernel⟩
def dd_is_whole : He.DefD := ⟨("is_whole", none), "is_whole", "is_whole", defArgs s_is_whole, defBody s_is_whole, defScope s_is_whole, [], []⟩
abbrev s_is_whole_from : Stmt := topS 6
abbrev N_is_whole_from : List Str := ["least", "thing"]
theorem sc_is_whole_from : FnScope N_is_whole_from ["least", "thing"] (defScope s_is_whole_from) := ⟨rfl, rfl, rfl, by decide +kernel, rfl, by decide +kernel, by decide +kernel⟩
def dd_is_whole_from : He.DefD := ⟨("is_whole_from", none), "is_whole_from", "is_whole_from", defArgs s_is_whole_from, defBody s_is_whole_from, defScope s_is_whole_from, [], []⟩
abbrev s_is_hour : Stmt := topS 7
abbrev N_is_hour : List Str := ["thing"]
theorem sc_is_hour : FnScope N_is_hour ["thing"] (defScope s_is_hour) := ⟨rfl, rfl, rfl, by decide +kernel, rfl, by decide +kernel, by decide +kernel⟩
def dd_is_hour : He.DefD := ⟨("is_hour", none), "is_hour", "is_hour", defArgs s_is_hour, defBody s_is_hour, defScope s_is_hour, [], []⟩
abbrev s_is_due : Stmt := topS 8
abbrev N_is_due : List Str := ["thing"]
theorem sc_is_due : FnScope N_is_due ["thing"] (defScope s_is_due) := ⟨rfl, rfl, rfl, by decide +kernel, rfl, by decide +kernel, by decide +kernel⟩
def dd_is_due : He.DefD := ⟨("is_due", none), "is_due", "is_due", defArgs s_is_due, defBody s_is_due, defScope s_is_due, [], []⟩
abbrev s_is_job : Stmt := topS 11
abbrev N_is_job : List Str := ["thing", "frees", "dues", "needs", "rooms", "part", "free", "due", "places"]
theorem sc_is_job : FnScope N_is_job ["thing"] (defScope s_is_job) := ⟨rfl, rfl, rfl, by decide +kernel, rfl, by decide +kernel, by decide +kernel⟩
def dd_is_job : He.DefD := ⟨("is_job", none), "is_job", "is_job", defArgs s_is_job, defBody s_is_job, defScope s_is_job, [], []⟩
abbrev s_is_room : Stmt := topS 12
abbrev N_is_room : List Str := ["thing"]
theorem sc_is_room : FnScope N_is_room ["thing"] (defScope s_is_room) := ⟨rfl, rfl, rfl, by decide +kernel, rfl, by decide +kernel, by decide +kernel⟩
def dd_is_room : He.DefD := ⟨("is_room", none), "is_room", "is_room", defArgs s_is_room, defBody s_is_room, defScope s_is_room, [], []⟩
abbrev s_is_task : Stmt := topS 13
abbrev N_is_task : List Str := ["many", "thing"]
theorem sc_is_task : FnScope N_is_task ["many", "thing"] (defScope s_is_task) := ⟨rfl, rfl, rfl, by decide +kernel, rfl, by decide +kernel, by decide +kernel⟩
def dd_is_task : He.DefD := ⟨("is_task", none), "is_task", "is_task", defArgs s_is_task, defBody s_is_task, defScope s_is_task, [], []⟩
abbrev s_is_need : Stmt := topS 14
abbrev N_is_need : List Str := ["many", "thing", "a", "b"]
theorem sc_is_need : FnScope N_is_need ["many", "thing"] (defScope s_is_need) := ⟨rfl, rfl, rfl, by decide +kernel, rfl, by decide +kernel, by decide +kernel⟩
def dd_is_need : He.DefD := ⟨("is_need", none), "is_need", "is_need", defArgs s_is_need, defBody s_is_need, defScope s_is_need, [], []⟩
abbrev s_are_needs : Stmt := topS 15
abbrev N_are_needs : List Str := ["many", "things", "thing"]
theorem sc_are_needs : FnScope N_are_needs ["many", "things"] (defScope s_are_needs) := ⟨rfl, rfl, rfl, by decide +kernel, rfl, by decide +kernel, by decide +kernel⟩
def dd_are_needs : He.DefD := ⟨("are_needs", none), "are_needs", "are_needs", defArgs s_are_needs, defBody s_are_needs, defScope s_are_needs, [], []⟩
abbrev s_followers_of : Stmt := topS 16
abbrev N_followers_of : List Str := ["many", "needs", "followers", "a", "b", "_"]
theorem sc_followers_of : FnScope N_followers_of ["many", "needs"] (defScope s_followers_of) := ⟨rfl, rfl, rfl, by decide +kernel, rfl, by decide +kernel, by decide +kernel⟩
def dd_followers_of : He.DefD := ⟨("followers_of", none), "followers_of", "followers_of", defArgs s_followers_of, defBody s_followers_of, defScope s_followers_of, [], []⟩
abbrev s_has_ring : Stmt := topS 17
abbrev N_has_ring : List Str := ["many", "needs", "followers", "waits", "_", "b", "cleared", "at", "a", "t"]
theorem sc_has_ring : FnScope N_has_ring ["many", "needs"] (defScope s_has_ring) := ⟨rfl, rfl, rfl, by decide +kernel, rfl, by decide +kernel, by decide +kernel⟩
def dd_has_ring : He.DefD := ⟨("has_ring", none), "has_ring", "has_ring", defArgs s_has_ring, defBody s_has_ring, defScope s_has_ring, [], []⟩
abbrev s_check_job : Stmt := topS 18
abbrev N_check_job : List Str := ["job"]
theorem sc_check_job : FnScope N_check_job ["job"] (defScope s_check_job) := ⟨rfl, rfl, rfl, by decide +kernel, rfl, by decide +kernel, by decide +kernel⟩
def dd_check_job : He.DefD := ⟨("check_job", none), "check_job", "check_job", defArgs s_check_job, defBody s_check_job, defScope s_check_job, [], []⟩
abbrev s_number_in : Stmt := topS 20
abbrev N_number_in : List Str := ["word"]
theorem sc_number_in : FnScope N_number_in ["word"] (defScope s_number_in) := ⟨rfl, rfl, rfl, by decide +kernel, rfl, by decide +kernel, by decide +kernel⟩
def dd_number_in : He.DefD := ⟨("number_in", none), "number_in", "number_in", defArgs s_number_in, defBody s_number_in, defScope s_number_in, [], []⟩
abbrev s_spelled : Stmt := topS 21
abbrev N_spelled : List Str := ["words", "word"]
theorem sc_spelled : FnScope N_spelled ["words"] (defScope s_spelled) := ⟨rfl, rfl, rfl, by decide +kernel, rfl, by decide +kernel, by decide +kernel⟩
def dd_spelled : He.DefD := ⟨("spelled", none), "spelled", "spelled", defArgs s_spelled, defBody s_spelled, defScope s_spelled, [], []⟩
abbrev s_job_text : Stmt := topS 23
abbrev N_job_text : List Str := ["job", "frees", "dues", "needs", "rooms", "tasks", "ends", "free", "due", "a", "b", "words"]
theorem sc_job_text : FnScope N_job_text ["job"] (defScope s_job_text) := ⟨rfl, rfl, rfl, by decide +kernel, rfl, by decide +kernel, by decide +kernel⟩
def dd_job_text : He.DefD := ⟨("job_text", none), "job_text", "job_text", defArgs s_job_text, defBody s_job_text, defScope s_job_text, [], []⟩
abbrev s_rows_in : Stmt := topS 24
abbrev N_rows_in : List Str := ["text"]
theorem sc_rows_in : FnScope N_rows_in ["text"] (defScope s_rows_in) := ⟨rfl, rfl, rfl, by decide +kernel, rfl, by decide +kernel, by decide +kernel⟩
def dd_rows_in : He.DefD := ⟨("rows_in", none), "rows_in", "rows_in", defArgs s_rows_in, defBody s_rows_in, defScope s_rows_in, [], []⟩
abbrev s_read_job : Stmt := topS 25
abbrev N_read_job : List Str := ["text", "job", "number", "row"]
theorem sc_read_job : FnScope N_read_job ["text"] (defScope s_read_job) := ⟨rfl, rfl, rfl, by decide +kernel, rfl, by decide +kernel, by decide +kernel⟩
def dd_read_job : He.DefD := ⟨("read_job", none), "read_job", "read_job", defArgs s_read_job, defBody s_read_job, defScope s_read_job, [], []⟩
abbrev s_take_row : Stmt := topS 26
abbrev N_take_row : List Str := ["job", "row", "word", "others", "numbers", "other"]
theorem sc_take_row : FnScope N_take_row ["job", "row"] (defScope s_take_row) := ⟨rfl, rfl, rfl, by decide +kernel, rfl, by decide +kernel, by decide +kernel⟩
def dd_take_row : He.DefD := ⟨("take_row", none), "take_row", "take_row", defArgs s_take_row, defBody s_take_row, defScope s_take_row, [], []⟩
abbrev s_take_task : Stmt := topS 27
abbrev N_take_task : List Str := ["job", "numbers", "frees", "dues", "needs", "_"]
theorem sc_take_task : FnScope N_take_task ["job", "numbers"] (defScope s_take_task) := ⟨rfl, rfl, rfl, by decide +kernel, rfl, by decide +kernel, by decide +kernel⟩
def dd_take_task : He.DefD := ⟨("take_task", none), "take_task", "take_task", defArgs s_take_task, defBody s_take_task, defScope s_take_task, [], []⟩
abbrev s_take_need : Stmt := topS 28
abbrev N_take_need : List Str := ["job", "numbers", "frees", "_", "needs", "need"]
theorem sc_take_need : FnScope N_take_need ["job", "numbers"] (defScope s_take_need) := ⟨rfl, rfl, rfl, by decide +kernel, rfl, by decide +kernel, by decide +kernel⟩
def dd_take_need : He.DefD := ⟨("take_need", none), "take_need", "take_need", defArgs s_take_need, defBody s_take_need, defScope s_take_need, [], []⟩
abbrev s_take_rooms : Stmt := topS 29
abbrev N_take_rooms : List Str := ["job", "numbers", "number"]
theorem sc_take_rooms : FnScope N_take_rooms ["job", "numbers"] (defScope s_take_rooms) := ⟨rfl, rfl, rfl, by decide +kernel, rfl, by decide +kernel, by decide +kernel⟩
def dd_take_rooms : He.DefD := ⟨("take_rooms", none), "take_rooms", "take_rooms", defArgs s_take_rooms, defBody s_take_rooms, defScope s_take_rooms, [], []⟩
abbrev s__law_mixed : Stmt := topS 31
abbrev N__law_mixed : List Str := ["_law_cell", "_law_k", "_law_number"]
theorem sc__law_mixed : FnScope N__law_mixed ["_law_cell", "_law_k"] (defScope s__law_mixed) := ⟨rfl, rfl, rfl, by decide +kernel, rfl, by decide +kernel, by decide +kernel⟩
def dd__law_mixed : He.DefD := ⟨("_law_mixed", none), "_law_mixed", "_law_mixed", defArgs s__law_mixed, defBody s__law_mixed, defScope s__law_mixed, [], []⟩
abbrev s__law_pile : Stmt := topS 32
abbrev N__law_pile : List Str := ["_law_script", "_law_k", "_law_cell", "_law_found", "_law_j"]
theorem sc__law_pile : FnScope N__law_pile ["_law_script", "_law_k"] (defScope s__law_pile) := ⟨rfl, rfl, rfl, by decide +kernel, rfl, by decide +kernel, by decide +kernel⟩
def dd__law_pile : He.DefD := ⟨("_law_pile", none), "_law_pile", "_law_pile", defArgs s__law_pile, defBody s__law_pile, defScope s__law_pile, [], []⟩
abbrev s__law_take : Stmt := topS 33
abbrev N__law_take : List Str := ["_law_pile_here", "_law_size", "_law_digit"]
theorem sc__law_take : FnScope N__law_take ["_law_pile_here", "_law_size"] (defScope s__law_take) := ⟨rfl, rfl, rfl, by decide +kernel, rfl, by decide +kernel, by decide +kernel⟩
def dd__law_take : He.DefD := ⟨("_law_take", none), "_law_take", "_law_take", defArgs s__law_take, defBody s__law_take, defScope s__law_take, [], []⟩
abbrev s__law_order : Stmt := topS 34
abbrev N__law_order : List Str := ["_law_pile_here", "_law_many", "_law_order_here", "_law_k"]
theorem sc__law_order : FnScope N__law_order ["_law_pile_here", "_law_many"] (defScope s__law_order) := ⟨rfl, rfl, rfl, by decide +kernel, rfl, by decide +kernel, by decide +kernel⟩
def dd__law_order : He.DefD := ⟨("_law_order", none), "_law_order", "_law_order", defArgs s__law_order, defBody s__law_order, defScope s__law_order, [], []⟩
abbrev s__law_room : Stmt := topS 35
abbrev N__law_room : List Str := ["_law_rooms", "_law_hour"]
theorem sc__law_room : FnScope N__law_room ["_law_rooms", "_law_hour"] (defScope s__law_room) := ⟨rfl, rfl, rfl, by decide +kernel, rfl, by decide +kernel, by decide +kernel⟩
def dd__law_room : He.DefD := ⟨("_law_room", none), "_law_room", "_law_room", defArgs s__law_room, defBody s__law_room, defScope s__law_room, [], []⟩
abbrev s__law_hours : Stmt := topS 36
abbrev N__law_hours : List Str := ["_law_pile_here", "_law_order_here", "_law_rooms", "_law_hours_here", "_law_hour", "_law_left", "_law_task"]
theorem sc__law_hours : FnScope N__law_hours ["_law_pile_here", "_law_order_here", "_law_rooms"] (defScope s__law_hours) := ⟨rfl, rfl, rfl, by decide +kernel, rfl, by decide +kernel, by decide +kernel⟩
def dd__law_hours : He.DefD := ⟨("_law_hours", none), "_law_hours", "_law_hours", defArgs s__law_hours, defBody s__law_hours, defScope s__law_hours, [], []⟩
abbrev s__law_needs : Stmt := topS 37
abbrev N__law_needs : List Str := ["_law_pile_here", "_law_order_here", "_law_hours_here", "_law_loose", "_law_dense", "_law_needs_here", "_law_j", "_law_k", "_law_a", "_law_b"]
theorem sc__law_needs : FnScope N__law_needs ["_law_pile_here", "_law_order_here", "_law_hours_here"] (defScope s__law_needs) := ⟨rfl, rfl, rfl, by decide +kernel, rfl, by decide +kernel, by decide +kernel⟩
def dd__law_needs : He.DefD := ⟨("_law_needs", none), "_law_needs", "_law_needs", defArgs s__law_needs, defBody s__law_needs, defScope s__law_needs, [], []⟩
abbrev s__law_job : Stmt := topS 38
abbrev N__law_job : List Str := ["_law_pile_here", "_law_most", "_law_wide", "_law_rooms", "_law_order_here", "_law_hours_here", "_law_needs_here", "_law_frees", "_law_slack", "_law_dues", "_law_hour", "_law_due", "_law_k"]
theorem sc__law_job : FnScope N__law_job ["_law_pile_here", "_law_most", "_law_wide"] (defScope s__law_job) := ⟨rfl, rfl, rfl, by decide +kernel, rfl, by decide +kernel, by decide +kernel⟩
def dd__law_job : He.DefD := ⟨("_law_job", none), "_law_job", "_law_job", defArgs s__law_job, defBody s__law_job, defScope s__law_job, [], []⟩
abbrev s__law_text : Stmt := topS 39
abbrev N__law_text : List Str := ["_law_job_here", "_law_frees", "_law_dues", "_law_needs_here", "_law_rooms", "_law_rows", "_law_t", "_law_row", "_law_a", "_law_b", "_law_one"]
theorem sc__law_text : FnScope N__law_text ["_law_job_here"] (defScope s__law_text) := ⟨rfl, rfl, rfl, by decide +kernel, rfl, by decide +kernel, by decide +kernel⟩
def dd__law_text : He.DefD := ⟨("_law_text", none), "_law_text", "_law_text", defArgs s__law_text, defBody s__law_text, defScope s__law_text, [], []⟩
abbrev s__law_good : Stmt := topS 40
abbrev N__law_good : List Str := ["_law_job_here", "_law_kept", "_law_due", "_law_found", "_law_told", "_law_sizes", "_law_k", "_law_part"]
theorem sc__law_good : FnScope N__law_good ["_law_job_here"] (defScope s__law_good) := ⟨rfl, rfl, rfl, by decide +kernel, rfl, by decide +kernel, by decide +kernel⟩
def dd__law_good : He.DefD := ⟨("_law_good", none), "_law_good", "_law_good", defArgs s__law_good, defBody s__law_good, defScope s__law_good, [], []⟩
abbrev s_law : Stmt := topS 41
abbrev N_law : List Str := ["_law_script", "_law_k"]
theorem sc_law : FnScope N_law ["_law_script"] (defScope s_law) := ⟨rfl, rfl, rfl, by decide +kernel, rfl, by decide +kernel, by decide +kernel⟩
def dd_law : He.DefD := ⟨("law", none), "law", "law", defArgs s_law, defBody s_law, defScope s_law, [], []⟩
def fn : List He.DefD := ([dd_is_whole, dd_is_whole_from, dd_is_hour, dd_is_due, dd_is_job, dd_is_room, dd_is_task, dd_is_need, dd_are_needs, dd_followers_of, dd_has_ring, dd_check_job, dd_number_in, dd_spelled, dd_job_text, dd_rows_in, dd_read_job, dd_take_row, dd_take_task, dd_take_need] : List He.DefD) ++ ([dd_take_rooms, dd__law_mixed, dd__law_pile, dd__law_take, dd__law_order, dd__law_room, dd__law_hours, dd__law_needs, dd__law_job, dd__law_text, dd__law_good, dd_law] : List He.DefD)
def fa : List He.Fa := ([.glo "is_whole", .glo "is_whole_from", .glo "is_hour", .glo "is_due", .glo "is_job", .glo "is_room", .glo "is_task", .glo "is_need", .glo "are_needs", .glo "followers_of", .glo "has_ring", .glo "check_job", .glo "number_in", .glo "spelled", .glo "job_text", .glo "rows_in", .glo "read_job", .glo "take_row", .glo "take_task", .glo "take_need"] : List He.Fa) ++ ([.glo "take_rooms", .glo "_law_mixed", .glo "_law_pile", .glo "_law_take", .glo "_law_order", .glo "_law_room", .glo "_law_hours", .glo "_law_needs", .glo "_law_job", .glo "_law_text", .glo "_law_good", .glo "law", .free "isinstance", .free "int", .free "bool", .free "all", .free "len", .free "tuple", .free "list", .free "set"] : List He.Fa) ++ ([.free "range", .free "str", .free "zip", .free "enumerate", .free "min", .free "max", .free "repr", .int "MOST_ROOM" 3] : List He.Fa)
/-- what the top has left, as the walk asks it -/
structure Env (K : PySem.W.Frag) (mg : Str → Option Value) : Prop where
  c : He.SaysD fa fn K
  gl : ∀ (i : Nat) (x : Str), fa[i]? = some (.glo x) → mg x = some (.ref (He.ga K x))
  fr : ∀ (i : Nat) (x : Str), fa[i]? = some (.free x) → mg x = none
  it : ∀ (i : Nat) (x : Str) (n : Int), fa[i]? = some (.int x n) → ∃ t, mg x = some (.int n t)
/-- the def that the module's name x stands for keeps its promise -/
def Ok (P : Program) (w : World) (K : PySem.W.Frag) (mg : Str → Option Value) (base : Heap) (CX : CXT) (D : He.DefD) (x : Str) (k : Nat) (ps : List Str) (sp : Sp) : Prop :=
  ∃ fd : FuncData, FunD K D.name D.qual D.params D.body D.scope (D.dvs K) (D.kws K) (He.fAd K D.at_) fd ∧ mg x = some (.ref (He.ga K x)) ∧ PySem.W.keepIn K (.ref (He.ga K x)) = true ∧ Binds K fd ps [] ∧ FnOk P w K mg base CX k (He.ga K x) fd ps sp

/-! kinds of values -/
inductive Kd (H : Hp) : V → String → Prop where
  | non : Kd H .non "NoneType"
  | bl (b : Bool) : Kd H (.bl b) "bool"
  | int (i : Int) : Kd H (.int i) "int"
  | str (x : Str) : Kd H (.str x) "str"
  | lst {a : Addr} {xs : List V} (e : H a = some (.lst xs)) : Kd H (.ref a) "list"
  | tup {a : Addr} {xs : List V} (e : H a = some (.tup xs)) : Kd H (.ref a) "tuple"
theorem Kd.tyx {K : PySem.W.Frag} {H : Hp} {x : V} {t : String} (k : Kd H x t) : TyX K H x (.type t) := by
  cases k with
  | non => exact .base .non
  | bl b => exact .base (.bl b)
  | int i => exact .base (.int i)
  | str x => exact .base (.str x)
  | lst e => exact .base (.lst e)
  | tup e => exact .base (.tup e)
/-- isinstance of a value of such a kind -/
theorem rIsi_of {K : PySem.W.Frag} {H : Hp} {x : V} {t c : String} {b : Bool} {Q : VK} (k : Kd H x t) (e : kitB t c = some b) (q : Q (.bl b) H) : rIsi K [x, .ty c] H Q :=
  ⟨x, .ty c, .type t, .type c, b, rfl, .ty c, k.tyx, kit_ty e, q⟩
def isW : V → Bool
  | .int _ => true
  | _ => false
def isWF (m : Int) : V → Bool
  | .int i => decide (m ≤ i)
  | _ => false
def isDue : V → Bool
  | .non => true
  | .int i => decide (0 ≤ i)
  | _ => false
def isRoom : V → Bool
  | .int i => decide (0 ≤ i) && decide (i ≤ 3)
  | _ => false
def isTask (n : Int) : V → Bool
  | .int i => decide (0 ≤ i) && decide (i < n)
  | _ => false
theorem ifB {c : Bool} {A B : Prop} (h1 : c = true → A) (h2 : c = false → B) : if c = true then A else B := by
  cases c with
  | true => exact iteT (h1 rfl)
  | false => exact iteF (h2 rfl)
def rLenQ (K : PySem.W.Frag) : List V → Hp → VK → Prop := fun xs H Q => ∃ p ys, xs = [.ref p] ∧ (SqL K H p ys ∨ SqT K H p ys) ∧ Q (.int ys.length) H
def rListQ (K : PySem.W.Frag) : List V → Hp → VK → Prop := fun xs H Q => ∃ p ys, xs = [.ref p] ∧ (SqL K H p ys ∨ SqT K H p ys) ∧ ∀ l, H l = none → Q (.ref l) (upd H l (.lst ys))

open Lean in
local macro_rules | `(tactic| walk_at "u") => `(tactic| dsimp only [tRet, tRetN, tSeq, tIfS, tNext, tDrop, tAsg, tPar, tAug, tCB, tCons, tNil, tVar, tC, tAndV, tOrV, tNotV, tAnd, tOr, tNot, tB, tTest, tOp, tUn, rI, rI0, rU, tIf, tCall, tIsN, tNotN, gName, gTup, gCons, gNil, gSub, tLst, tTup, tBM, tBM0, tSl, tPart, tNoPart, tYes, tCallN])
local macro_rules | `(tactic| walk_at "T") => `(tactic| ((try dsimp only); (try simp only [Bool.not_true, Bool.not_false, Bool.false_eq_true, reduceIte])))
local macro_rules | `(tactic| walk_at "F") => `(tactic| ((try dsimp only); (try simp only [Bool.not_true, Bool.not_false, Bool.false_eq_true, reduceIte])))


/-! heaps: all but the pile stays -/
def But (p : Addr) (H H' : Hp) : Prop := ∀ b o, b ≠ p → H b = some o → H' b = some o
theorem But.refl (p : Addr) (H : Hp) : But p H H := fun _ _ _ h => h
theorem But.trans {p : Addr} {H H1 H2 : Hp} (a : But p H H1) (b : But p H1 H2) : But p H H2 := fun c o n h => b c o n (a c o n h)
theorem But.upd {p : Addr} {H : Hp} {o : HO} : But p H (upd H p o) := fun b u n h => by
  rw [upd_ne n]
  exact h
theorem But.new {p q : Addr} {H : Hp} {o : HO} (h : H q = none) : But p H (L2.upd H q o) := fun b u _ e => by
  rw [upd_ne (ne_of_none e h)]
  exact e
theorem But.of {p : Addr} {H H' : Hp} (s : Same H H') : But p H H' := fun b o _ h => s b o h
theorem same_upd {H : Hp} {q : Addr} {o : HO} (h : H q = none) : Same H (upd H q o) := fun b u e => by
  rw [upd_ne (ne_of_none e h)]
  exact e
/-- a new object may change -/
theorem same_mut {H H' : Hp} {q : Addr} {o : HO} (e : Same H H') (h : H q = none) : Same H (L2.upd H' q o) := fun a u ha => by
  rw [upd_ne (ne_of_none ha h)]
  exact e a u ha
theorem But.mut {p q : Addr} {H H' : Hp} {o : HO} (e : But p H H') (h : H q = none) : But p H (L2.upd H' q o) := fun a u n ha => by
  rw [upd_ne (ne_of_none ha h)]
  exact e a u n ha
theorem But.free {p l : Addr} {H H' : Hp} (e : But p H H') (n : l ≠ p) (h : H' l = none) : H l = none := by
  cases q : H l with
  | none => rfl
  | some o =>
    rw [e l o n q] at h
    cases h
theorem But.seq {K : PySem.W.Frag} {p a : Addr} {H H' : Hp} {xs : List V} (e : But p H H') (n : a ≠ p) (h : SqL K H a xs) : SqL K H' a xs := by
  rcases h with (h | ⟨o, h⟩) | h
  · exact .inl (.inl (e _ _ n h))
  · exact .inl (.inr ⟨o, e _ _ n h⟩)
  · exact .inr h
theorem lst_ne {H : Hp} {a b : Addr} {xs : List V} (h : H a = some (.lst xs)) (h' : H b = none) : a ≠ b := ne_of_none h h'
/-! numbers -/
theorem fmod_lo {x m : Int} (h : 0 < m) : 0 ≤ x.fmod m := by
  rw [Int.fmod_eq_emod_of_nonneg x (Int.le_of_lt h)]
  exact Int.emod_nonneg x (by omega)
theorem fmod_hi {x m : Int} (h : 0 < m) : x.fmod m < m := by
  rw [Int.fmod_eq_emod_of_nonneg x (Int.le_of_lt h)]
  exact Int.emod_lt_of_pos x h
theorem small_sz {n : Nat} (h : n ≤ 100000) : n ≤ sizeLine := Nat.le_trans h (by decide)
theorem small_lt {n : Nat} (h : n < 100000) : n < sizeLine := Nat.lt_of_lt_of_le h (by decide)
/-- numbers as values -/
def nV (ts : List Nat) : List V := ts.map fun (t : Nat) => V.int (t : Int)
def iV (is : List Int) : List V := is.map V.int
theorem iV_len (is : List Int) : (iV is).length = is.length := List.length_map ..
theorem nV_len (is : List Nat) : (nV is).length = is.length := List.length_map ..
theorem iV_get {is : List Int} {j : Nat} {i : Int} (h : is[j]? = some i) : (iV is)[j]? = some (.int i) := by
  unfold iV
  rw [List.getElem?_map, h]
  rfl
theorem iV_of {is : List Int} {j : Nat} {v : V} (h : (iV is)[j]? = some v) : ∃ i, is[j]? = some i ∧ v = .int i := by
  unfold iV at h
  rw [List.getElem?_map] at h
  cases e : is[j]? with
  | none =>
    rw [e] at h
    cases h
  | some i =>
    rw [e] at h
    exact ⟨i, rfl, (Option.some.inj h).symm⟩
theorem nV_get {is : List Nat} {j : Nat} {i : Nat} (h : is[j]? = some i) : (nV is)[j]? = some (.int (i : Int)) := by
  unfold nV
  rw [List.getElem?_map, h]
  rfl
theorem nV_of {is : List Nat} {j : Nat} {v : V} (h : (nV is)[j]? = some v) : ∃ i : Nat, is[j]? = some i ∧ v = .int (i : Int) := by
  unfold nV at h
  rw [List.getElem?_map] at h
  cases e : is[j]? with
  | none =>
    rw [e] at h
    cases h
  | some i =>
    rw [e] at h
    exact ⟨i, rfl, (Option.some.inj h).symm⟩
theorem atI_iV {is : List Int} {j : Nat} {z i : Int} (e : z = (j : Int)) (h : is[j]? = some i) : atI (iV is) z = some (.int i) := at_of e (iV_get h)
theorem atI_nV {is : List Nat} {j i : Nat} {z : Int} (e : z = (j : Int)) (h : is[j]? = some i) : atI (nV is) z = some (.int (i : Int)) := at_of e (nV_get h)
theorem ixN_at {n j : Nat} {z : Int} (e : z = (j : Int)) (hj : j < n) : ixN n z = some j := by
  subst e
  unfold ixN
  rw [if_pos (by omega), if_pos (by omega)]
  simp
/-- the room of an hour -/
def roomAt (rs : List Int) (h : Int) : Int := rs.getD (h - 1).toNat 2
theorem roomAt_in {rs : List Int} {h : Int} (h1 : 1 ≤ h) (h2 : h ≤ (rs.length : Int)) : rs[(h - 1).toNat]? = some (roomAt rs h) := by
  unfold roomAt
  rw [List.getD_eq_getElem?_getD, List.getElem?_eq_getElem (by omega)]
  rfl
theorem roomAt_out {rs : List Int} {h : Int} (h2 : (rs.length : Int) < h) : roomAt rs h = 2 := by
  unfold roomAt
  rw [List.getD_eq_getElem?_getD, List.getElem?_eq_none (by omega)]
  rfl
/-- both ways of an if lead on alike -/
theorem iteJ {X : Type} {b : Bool} {A B : Prop} {G : X → Prop} (h1 : b = true → (∀ c, G c) → A) (h2 : b = false → (∀ c, G c) → B) (rest : ∀ c, G c) : if b = true then A else B := by
  cases b with
  | true => exact iteT (h1 rfl rest)
  | false => exact iteF (h2 rfl rest)
/-! orders -/
theorem perm_ins {α : Type} (l : List α) (i : Nat) (x : α) : (l.take i ++ [x] ++ l.drop i).Perm (x :: l) := by
  have h : (l.take i ++ [x] ++ l.drop i).Perm (x :: (l.take i ++ l.drop i)) := by
    rw [List.append_assoc]
    exact List.perm_middle
  rw [List.take_append_drop] at h
  exact h
theorem nV_ins (l : List Nat) (i : Nat) (x : Nat) : (nV l).take i ++ [V.int (x : Int)] ++ (nV l).drop i = nV (l.take i ++ [x] ++ l.drop i) := by
  unfold nV
  rw [List.map_append, List.map_append, List.map_take, List.map_drop]
  rfl
theorem range_snoc (i : Nat) : (List.range (i + 1)) = List.range i ++ [i] := List.range_succ
theorem iV_set (l : List Int) (j : Nat) (x : Int) : (iV l).set j (.int x) = iV (l.set j x) := by
  unfold iV
  rw [List.map_set]
theorem iV_app (l : List Int) (x : Int) : iV l ++ [.int x] = iV (l ++ [x]) := by
  unfold iV
  rw [List.map_append]
  rfl
theorem nV_app (l : List Nat) (x : Nat) : nV l ++ [.int (x : Int)] = nV (l ++ [x]) := by
  unfold nV
  rw [List.map_append]
  rfl
/-! rooms of hours -/
structure Rooms (rs : List Int) : Prop where
  len : rs.length ≤ 20
  val : ∀ r ∈ rs, 0 ≤ r ∧ r ≤ 3
theorem Rooms.at_ {rs : List Int} (R : Rooms rs) (h : Int) : 0 ≤ roomAt rs h ∧ roomAt rs h ≤ 3 := by
  unfold roomAt
  rw [List.getD_eq_getElem?_getD]
  cases e : rs[(h - 1).toNat]? with
  | none => exact ⟨by decide, by decide⟩
  | some r => exact R.val r (List.mem_of_getElem? e)
def muH (hour left : Int) : Nat := 2 * (21 - hour).toNat + (if left = 0 then 1 else 0)
theorem muH_lt {hour left l2 : Int} (h : left = 0 ∨ hour < 20) (h2 : 20 ≤ hour → l2 = 2) : muH (hour + 1) l2 < muH hour left := by
  unfold muH
  by_cases h20 : hour < 20
  · split <;> split <;> omega
  · rw [if_pos (by omega : left = 0), if_neg (by rw [h2 (by omega)]; decide)]
    omega
/-! needs: a list of tuples of two tasks -/
def NeedsAt (H : Hp) (q : Addr) (zs : List (Addr × Nat × Nat)) : Prop :=
  H q = some (.lst (zs.map fun z => V.ref z.1)) ∧ ∀ z ∈ zs, H z.1 = some (.tup [.int (z.2.1 : Int), .int (z.2.2 : Int)])
theorem NeedsAt.same {H H' : Hp} {q : Addr} {zs : List (Addr × Nat × Nat)} (n : NeedsAt H q zs) (s : Same H H') : NeedsAt H' q zs := ⟨s _ _ n.1, fun z hz => s _ _ (n.2 z hz)⟩
theorem NeedsAt.but {H H' : Hp} {p q : Addr} {xs : List V} {zs : List (Addr × Nat × Nat)} (n : NeedsAt H q zs) (hp : H p = some (.lst xs)) (nq : q ≠ p) (s : But p H H') : NeedsAt H' q zs :=
  ⟨s _ _ nq n.1, fun z hz => s _ _ (ne_of (n.2 z hz) hp (by intro e; cases e)) (n.2 z hz)⟩
theorem zs_ins {α : Type} (f : α → V) (zs : List α) (i : Nat) (z : α) : (zs.map f).take i ++ [f z] ++ (zs.map f).drop i = (zs.take i ++ [z] ++ zs.drop i).map f := by
  rw [List.map_append, List.map_append, List.map_take, List.map_drop]
  rfl
theorem NeedsAt.ins {H : Hp} {q T : Addr} {zs : List (Addr × Nat × Nat)} {a b i : Nat} (n : NeedsAt H q zs) (nT : H T = none) :
    NeedsAt (upd (upd H T (.tup [.int (a : Int), .int (b : Int)])) q (.lst ((zs.map fun z => V.ref z.1).take i ++ [.ref T] ++ (zs.map fun z => V.ref z.1).drop i))) q (zs.take i ++ [(T, a, b)] ++ zs.drop i) := by
  refine ⟨by rw [upd_same, ← zs_ins (fun z : Addr × Nat × Nat => V.ref z.1)], fun z hz => ?_⟩
  have hz2 := (perm_ins zs i (T, a, b)).mem_iff.mp hz
  rcases List.mem_cons.mp hz2 with e | hz3
  · subst e
    rw [upd_ne (fun e => by
      have := n.1
      rw [← e, nT] at this
      cases this), upd_same]
  · have h1 := n.2 z hz3
    rw [upd_ne (ne_of h1 n.1 (by intro e; cases e)), upd_ne (ne_of_none h1 nT)]
    exact h1
theorem nodup_of_perm {os : List Nat} {n : Nat} (h : os.Perm (List.range n)) : os.Nodup := h.nodup_iff.mpr List.nodup_range
theorem ix_of_nodup {os : List Nat} (h : os.Nodup) {i j : Nat} {t : Nat} (a : os[i]? = some t) (b : os[j]? = some t) : i = j := nd_ix h a b
theorem flat_iV (is : List Int) : (iV is).all flatV = true := by
  unfold iV
  rw [List.all_eq_true]
  intro v hv
  obtain ⟨i, _, rfl⟩ := List.mem_map.mp hv
  rfl
theorem flat_nV (is : List Nat) : (nV is).all flatV = true := by
  unfold nV
  rw [List.all_eq_true]
  intro v hv
  obtain ⟨i, _, rfl⟩ := List.mem_map.mp hv
  rfl
theorem inV_iV (x : Int) (is : List Int) : inV (.int x) (iV is) = decide (x ∈ is) := by
  unfold inV iV
  rw [Bool.eq_iff_iff, List.any_eq_true, decide_eq_true_iff]
  constructor
  · rintro ⟨v, hv, e⟩
    obtain ⟨i, hi, rfl⟩ := List.mem_map.mp hv
    have e2 : i = x := beq_iff_eq.mp e
    rw [← e2]
    exact hi
  · intro h
    exact ⟨.int x, List.mem_map.mpr ⟨x, h, rfl⟩, beq_iff_eq.mpr rfl⟩
theorem inV_nV (x : Nat) (is : List Nat) : inV (.int (x : Int)) (nV is) = decide (x ∈ is) := by
  unfold inV nV
  rw [Bool.eq_iff_iff, List.any_eq_true, decide_eq_true_iff]
  constructor
  · rintro ⟨v, hv, e⟩
    obtain ⟨i, hi, rfl⟩ := List.mem_map.mp hv
    have e2 : (i : Int) = (x : Int) := beq_iff_eq.mp e
    rw [← Int.ofNat.inj e2]
    exact hi
  · intro h
    exact ⟨.int (x : Int), List.mem_map.mpr ⟨x, h, rfl⟩, beq_iff_eq.mpr rfl⟩
/-- each need goes forward along the order -/
def Along (os : List Nat) (zs : List (Addr × Nat × Nat)) (j k : Nat) : Prop := ∀ z ∈ zs, ∃ j' k' : Nat, k' < j' ∧ os[k']? = some z.2.1 ∧ os[j']? = some z.2.2 ∧ (j' < j ∨ (j' = j ∧ k' < k))
theorem Along.mono {os : List Nat} {zs : List (Addr × Nat × Nat)} {j k j2 k2 : Nat} (h : Along os zs j k) (l : j < j2 ∨ (j = j2 ∧ k ≤ k2)) : Along os zs j2 k2 := fun z hz => by
  obtain ⟨j', k', h1, h2, h3, h4⟩ := h z hz
  exact ⟨j', k', h1, h2, h3, by omega⟩
/-! jobs -/
def oO : Option Int → V
  | none => .non
  | some i => .int i
def oV (ds : List (Option Int)) : List V := ds.map oO
theorem oV_len (is : List (Option Int)) : (oV is).length = is.length := List.length_map ..
theorem oV_app (l : List (Option Int)) (x : Option Int) : oV l ++ oV [x] = oV (l ++ [x]) := by
  unfold oV
  rw [List.map_append]
structure JobAt (H : Hp) (J f d n r : Addr) (fs : List Int) (ds : List (Option Int)) (zs : List (Addr × Nat × Nat)) (rs : List Int) : Prop where
  top : H J = some (.tup [.ref f, .ref d, .ref n, .ref r])
  fr : H f = some (.lst (iV fs))
  du : H d = some (.lst (oV ds))
  ne : NeedsAt H n zs
  ro : H r = some (.lst (iV rs))
theorem JobAt.same {H H' : Hp} {J f d n r : Addr} {fs : List Int} {ds : List (Option Int)} {zs : List (Addr × Nat × Nat)} {rs : List Int} (j : JobAt H J f d n r fs ds zs rs) (s : Same H H') : JobAt H' J f d n r fs ds zs rs :=
  ⟨s _ _ j.top, s _ _ j.fr, s _ _ j.du, j.ne.same s, s _ _ j.ro⟩
theorem JobAt.but {H H' : Hp} {J f d n r p : Addr} {xs : List V} {fs : List Int} {ds : List (Option Int)} {zs : List (Addr × Nat × Nat)} {rs : List Int} (j : JobAt H J f d n r fs ds zs rs) (hp : H p = some (.lst xs))
    (nf : f ≠ p) (nd : d ≠ p) (nn : n ≠ p) (nr : r ≠ p) (s : But p H H') : JobAt H' J f d n r fs ds zs rs :=
  ⟨s _ _ (ne_of j.top hp (by intro e; cases e)) j.top, s _ _ nf j.fr, s _ _ nd j.du, j.ne.but hp nn s, s _ _ nr j.ro⟩
structure Valid (fs : List Int) (ds : List (Option Int)) (zs : List (Addr × Nat × Nat)) (rs : List Int) : Prop where
  fl : fs.length ≤ 100
  dl : ds.length = fs.length
  fv : ∀ x ∈ fs, 1 ≤ x ∧ x ≤ 200
  dv : ∀ x, some x ∈ ds → 0 ≤ x ∧ x ≤ 200
  zl : zs.length ≤ 30
  znd : (zs.map (·.2)).Nodup
  rank : ∃ rk : Nat → Nat, ∀ z ∈ zs, z.2.1 < fs.length ∧ z.2.2 < fs.length ∧ rk z.2.1 < rk z.2.2
  ro : Rooms rs
/-- a rank along an order -/
theorem rank_of {os : List Nat} {zs : List (Addr × Nat × Nat)} {n m j k : Nat} (hp : os.Perm (List.range n)) (h : Along os zs j k) (e : n = m) : ∃ rk : Nat → Nat, ∀ z ∈ zs, z.2.1 < m ∧ z.2.2 < m ∧ rk z.2.1 < rk z.2.2 := by
  subst e
  refine ⟨fun t => os.idxOf t, fun z hz => ?_⟩
  obtain ⟨j', k', h1, h2, h3, _⟩ := h z hz
  have nd := nodup_of_perm hp
  have lt : ∀ {i t : Nat}, os[i]? = some t → t < n := fun h => List.mem_range.mp (hp.mem_iff.mp (List.mem_of_getElem? h))
  have ix : ∀ {i t : Nat}, os[i]? = some t → os.idxOf t = i := fun {i t} h => by
    obtain ⟨hi, e⟩ := List.getElem?_eq_some_iff.mp h
    rw [← e]
    exact nd.idxOf_getElem i hi
  refine ⟨lt h2, lt h3, ?_⟩
  show os.idxOf z.2.1 < os.idxOf z.2.2
  rw [ix h2, ix h3]
  exact h1
theorem iteJP {X : Type} {b : Bool} {A B : Prop} {G : X → Prop} (C : X → Prop) (h1 : b = true → (∀ c, C c → G c) → A) (h2 : b = false → (∀ c, C c → G c) → B) (rest : ∀ c, C c → G c) : if b = true then A else B := by
  cases b with
  | true => exact iteT (h1 rfl rest)
  | false => exact iteF (h2 rfl rest)

/-! ### things: data of any kind, all of it in the heap -/
mutual
inductive Da (H : Hp) : V → PyData → Prop where
  | non : Da H .non .none
  | bl (b : Bool) : Da H (.bl b) (.bool b)
  | int (i : Int) : Da H (.int i) (.int i)
  | str (x : Str) : Da H (.str x) (.str x)
  | lst {a : Addr} {xs : List V} {ds : List PyData} : H a = some (.lst xs) → DaAll H xs ds → Da H (.ref a) (.list ds)
  | tup {a : Addr} {xs : List V} {ds : List PyData} : H a = some (.tup xs) → DaAll H xs ds → Da H (.ref a) (.tuple ds)
inductive DaAll (H : Hp) : List V → List PyData → Prop where
  | nil : DaAll H [] []
  | cons {v : V} {vs : List V} {d : PyData} {ds : List PyData} : Da H v d → DaAll H vs ds → DaAll H (v :: vs) (d :: ds)
end
section
variable {H H' : Hp}
mutual
theorem Da.same (s : Same H H') : ∀ {v : V} {d : PyData}, Da H v d → Da H' v d
  | _, _, .non => .non
  | _, _, .bl b => .bl b
  | _, _, .int i => .int i
  | _, _, .str x => .str x
  | _, _, .lst e r => .lst (s _ _ e) (DaAll.same s r)
  | _, _, .tup e r => .tup (s _ _ e) (DaAll.same s r)
theorem DaAll.same (s : Same H H') : ∀ {vs : List V} {ds : List PyData}, DaAll H vs ds → DaAll H' vs ds
  | _, _, .nil => .nil
  | _, _, .cons x r => .cons (Da.same s x) (DaAll.same s r)
end
mutual
theorem Da.dp {K : PySem.W.Frag} : ∀ {v : V} {d : PyData}, Da H v d → Dp K H v d
  | _, _, .non => .non
  | _, _, .bl b => .bl b
  | _, _, .int i => .int i
  | _, _, .str x => .str x
  | _, _, .lst e r => .lst (SqL.of e) (DaAll.dp r)
  | _, _, .tup e r => .tup (SqT.of e) (DaAll.dp r)
theorem DaAll.dp {K : PySem.W.Frag} : ∀ {vs : List V} {ds : List PyData}, DaAll H vs ds → DpAll K H vs ds
  | _, _, .nil => .nil
  | _, _, .cons x r => .cons (Da.dp x) (DaAll.dp r)
end
theorem DaAll.len : ∀ {vs : List V} {ds : List PyData}, DaAll H vs ds → vs.length = ds.length
  | _, _, .nil => rfl
  | _, _, .cons _ r => congrArg (· + 1) (DaAll.len r)
theorem DaAll.get : ∀ {vs : List V} {ds : List PyData}, DaAll H vs ds → ∀ {i : Nat} {v : V}, vs[i]? = some v → ∃ d, ds[i]? = some d ∧ Da H v d
  | _, _, .nil, i, v, h => by cases h
  | _, _, .cons x _, 0, v, h => by
    cases h
    exact ⟨_, rfl, x⟩
  | _, _, .cons _ r, i + 1, v, h => DaAll.get r h
theorem DaAll.at_ : ∀ {vs : List V} {ds : List PyData}, DaAll H vs ds → ∀ {i : Nat} {d : PyData}, ds[i]? = some d → ∃ v, vs[i]? = some v ∧ Da H v d
  | _, _, .nil, i, v, h => by cases h
  | _, _, .cons x _, 0, v, h => by
    cases h
    exact ⟨_, rfl, x⟩
  | _, _, .cons _ r, i + 1, v, h => DaAll.at_ r h
end
/-- what type names it -/
def tyD : PyData → String
  | .none => "NoneType"
  | .bool _ => "bool"
  | .int _ => "int"
  | .str _ => "str"
  | .list _ => "list"
  | .tuple _ => "tuple"
  | .dict _ => "dict"
theorem Da.kd {H : Hp} {v : V} {d : PyData} (h : Da H v d) : Kd H v (tyD d) := by
  cases h with
  | non => exact .non
  | bl b => exact .bl b
  | int i => exact .int i
  | str x => exact .str x
  | lst e _ => exact .lst e
  | tup e _ => exact .tup e
def wfD (m : Int) : PyData → Bool
  | .int i => decide (m ≤ i)
  | _ => false
def dueD : PyData → Bool
  | .none => true
  | .int i => decide (0 ≤ i)
  | _ => false
def roomD : PyData → Bool
  | .int i => decide (0 ≤ i) && decide (i ≤ 3)
  | _ => false
def taskD (n : Int) : PyData → Bool
  | .int i => decide (0 ≤ i) && decide (i < n)
  | _ => false
section
variable {H : Hp} {v : V} {d : PyData}
theorem Da.wf (h : Da H v d) (m : Int) : isWF m v = wfD m d := by cases h <;> rfl
theorem Da.due (h : Da H v d) : isDue v = dueD d := by cases h <;> rfl
theorem Da.room (h : Da H v d) : isRoom v = roomD d := by cases h <;> rfl
theorem Da.task (h : Da H v d) (n : Int) : isTask n v = taskD n d := by cases h <;> rfl
end
def neD : PyData → PyData → Bool
  | .int a, .int b => !decide (a = b)
  | _, _ => false
def needD (n : Int) : PyData → Bool
  | .tuple [x, y] => taskD n x && (taskD n y && neD x y)
  | _ => false
theorem taskD_int {n : Int} {d : PyData} (h : taskD n d = true) : ∃ t : Nat, d = .int (t : Int) ∧ (t : Int) < n := by
  cases d with
  | int i =>
    have h2 : (decide (0 ≤ i) && decide (i < n)) = true := h
    rw [Bool.and_eq_true, decide_eq_true_iff, decide_eq_true_iff] at h2
    exact ⟨i.toNat, by rw [Int.toNat_of_nonneg h2.1], by omega⟩
  | _ => cases h
/-- isinstance of a thing -/
theorem isiD {K : PySem.W.Frag} {H : Hp} {v : V} {d : PyData} {c : String} {b : Bool} {Q : VK} (h : Da H v d) (e : kitB (tyD d) c = some b) (q : Q (.bl b) H) : rIsi K [v, .ty c] H Q := rIsi_of h.kd e q
def isTupD : PyData → Bool
  | .tuple _ => true
  | _ => false
def isLstD : PyData → Bool
  | .list _ => true
  | _ => false
theorem kit_tup : ∀ d : PyData, (∀ x, d ≠ .dict x) → kitB (tyD d) "tuple" = some (isTupD d)
  | .none, _ => by decide +kernel
  | .bool _, _ => by show kitB "bool" "tuple" = some false; decide +kernel
  | .int _, _ => by show kitB "int" "tuple" = some false; decide +kernel
  | .str _, _ => by show kitB "str" "tuple" = some false; decide +kernel
  | .list _, _ => by show kitB "list" "tuple" = some false; decide +kernel
  | .tuple _, _ => by show kitB "tuple" "tuple" = some true; decide +kernel
  | .dict x, h => absurd rfl (h x)
theorem kit_lst : ∀ d : PyData, (∀ x, d ≠ .dict x) → kitB (tyD d) "list" = some (isLstD d)
  | .none, _ => by decide +kernel
  | .bool _, _ => by show kitB "bool" "list" = some false; decide +kernel
  | .int _, _ => by show kitB "int" "list" = some false; decide +kernel
  | .str _, _ => by show kitB "str" "list" = some false; decide +kernel
  | .list _, _ => by show kitB "list" "list" = some true; decide +kernel
  | .tuple _, _ => by show kitB "tuple" "list" = some false; decide +kernel
  | .dict x, h => absurd rfl (h x)
theorem Da.nodict {H : Hp} {v : V} {d : PyData} (h : Da H v d) : ∀ x, d ≠ .dict x := fun x e => by
  subst e
  cases h
theorem Da.isTup {K : PySem.W.Frag} {H : Hp} {v : V} {d : PyData} {Q : VK} (h : Da H v d) (q : Q (.bl (isTupD d)) H) : rIsi K [v, .ty "tuple"] H Q := isiD h (kit_tup d h.nodict) q
theorem Da.isLst {K : PySem.W.Frag} {H : Hp} {v : V} {d : PyData} {Q : VK} (h : Da H v d) (q : Q (.bl (isLstD d)) H) : rIsi K [v, .ty "list"] H Q := isiD h (kit_lst d h.nodict) q
theorem Da.tupOf {H : Hp} {v : V} {d : PyData} (h : Da H v d) (e : isTupD d = true) : ∃ a xs ds, v = .ref a ∧ d = .tuple ds ∧ H a = some (.tup xs) ∧ DaAll H xs ds := by
  cases h with
  | tup e1 r => exact ⟨_, _, _, rfl, rfl, e1, r⟩
  | _ => cases e
theorem Da.lstOf {H : Hp} {v : V} {d : PyData} (h : Da H v d) (e : isLstD d = true) : ∃ a xs ds, v = .ref a ∧ d = .list ds ∧ H a = some (.lst xs) ∧ DaAll H xs ds := by
  cases h with
  | lst e1 r => exact ⟨_, _, _, rfl, rfl, e1, r⟩
  | _ => cases e
/-! numbers of a pair -/
def prD (z : Nat × Nat) : PyData := .tuple [.int (z.1 : Int), .int (z.2 : Int)]
theorem needD_pr {n : Int} {d : PyData} (h : needD n d = true) : ∃ z : Nat × Nat, d = prD z ∧ (z.1 : Int) < n ∧ (z.2 : Int) < n ∧ z.1 ≠ z.2 := by
  cases d with
  | tuple xs =>
    match xs, h with
    | [x, y], h =>
      have h2 : (taskD n x && (taskD n y && neD x y)) = true := h
      rw [Bool.and_eq_true, Bool.and_eq_true] at h2
      obtain ⟨a, rfl, ha⟩ := taskD_int h2.1
      obtain ⟨b, rfl, hb⟩ := taskD_int h2.2.1
      have h3 : (!decide ((a : Int) = (b : Int))) = true := h2.2.2
      refine ⟨(a, b), rfl, ha, hb, fun e => ?_⟩
      have e2 : a = b := e
      rw [e2, decide_eq_true rfl] at h3
      cases h3
    | [], h => cases h
    | [x], h => cases h
    | x :: y :: w :: r, h => cases h
  | _ => cases h
theorem needD_of {n : Int} {z : Nat × Nat} (h1 : (z.1 : Int) < n) (h2 : (z.2 : Int) < n) (h3 : z.1 ≠ z.2) : needD n (prD z) = true := by
  show ((decide ((0 : Int) ≤ (z.1 : Int)) && decide ((z.1 : Int) < n)) && ((decide ((0 : Int) ≤ (z.2 : Int)) && decide ((z.2 : Int) < n)) && !decide ((z.1 : Int) = (z.2 : Int)))) = true
  rw [decide_eq_true (by omega : (0 : Int) ≤ (z.1 : Int)), decide_eq_true h1, decide_eq_true (by omega : (0 : Int) ≤ (z.2 : Int)), decide_eq_true h2, decide_eq_false (show ¬ ((z.1 : Int) = (z.2 : Int)) from fun e => h3 (Int.ofNat.inj e))]
  rfl
theorem needD_len {n : Int} {ds : List PyData} (h : ds.length ≠ 2) : needD n (.tuple ds) = false := by
  match ds, h with
  | [], _ => rfl
  | [x], _ => rfl
  | [x, y], h => exact absurd rfl h
  | x :: y :: w :: r, _ => rfl

/-! tuples that stand in the written part -/
structure KT (K : PySem.W.Frag) (a : Addr) (xs : List V) : Prop where
  ex : ∃ (o : Obj) (its : Array Value) (n : Nat), K.lookup a = some o ∧ o.cls = .type "tuple" ∧ o.data = .seq its n ∧ its.size ≤ sizeLine ∧ Vals xs its.toList
theorem KT.sq {K : PySem.W.Frag} {a : Addr} {xs : List V} (h : KT K a xs) (H : Hp) : SqT K H a xs := .inr h.ex
theorem KT.tyx {K : PySem.W.Frag} {a : Addr} {xs : List V} (h : KT K a xs) (H : Hp) : TyX K H (.ref a) (.type "tuple") := by
  obtain ⟨o, its, n, e, c, _⟩ := h.ex
  exact .kTuple e c

/-! ### data, some of it in the heap, some a constant of a module -/
/-- what constants there are -/
def kconst : List PyData → Bool
  | [.str _] => true
  | [.tuple [], .tuple [], .tuple [], .tuple []] => true
  | _ => false
mutual
inductive Dk (K : PySem.W.Frag) (H : Hp) : V → PyData → Prop where
  | non : Dk K H .non .none
  | bl (b : Bool) : Dk K H (.bl b) (.bool b)
  | int (i : Int) : Dk K H (.int i) (.int i)
  | str (x : Str) : Dk K H (.str x) (.str x)
  | lst {a : Addr} {xs : List V} {ds : List PyData} : H a = some (.lst xs) → DkAll K H xs ds → Dk K H (.ref a) (.list ds)
  | tup {a : Addr} {xs : List V} {ds : List PyData} : H a = some (.tup xs) → DkAll K H xs ds → Dk K H (.ref a) (.tuple ds)
  | ktup {a : Addr} {xs : List V} {ds : List PyData} : kconst ds = true → KT K a xs → DkAll K H xs ds → Dk K H (.ref a) (.tuple ds)
inductive DkAll (K : PySem.W.Frag) (H : Hp) : List V → List PyData → Prop where
  | nil : DkAll K H [] []
  | cons {v : V} {vs : List V} {d : PyData} {ds : List PyData} : Dk K H v d → DkAll K H vs ds → DkAll K H (v :: vs) (d :: ds)
end
section
variable {K : PySem.W.Frag} {H H' : Hp}
mutual
theorem Dk.same (s : Same H H') : ∀ {v : V} {d : PyData}, Dk K H v d → Dk K H' v d
  | _, _, .non => .non
  | _, _, .bl b => .bl b
  | _, _, .int i => .int i
  | _, _, .str x => .str x
  | _, _, .lst e r => .lst (s _ _ e) (DkAll.same s r)
  | _, _, .tup e r => .tup (s _ _ e) (DkAll.same s r)
  | _, _, .ktup c e r => .ktup c e (DkAll.same s r)
theorem DkAll.same (s : Same H H') : ∀ {vs : List V} {ds : List PyData}, DkAll K H vs ds → DkAll K H' vs ds
  | _, _, .nil => .nil
  | _, _, .cons x r => .cons (Dk.same s x) (DkAll.same s r)
end
mutual
theorem Dk.dp : ∀ {v : V} {d : PyData}, Dk K H v d → Dp K H v d
  | _, _, .non => .non
  | _, _, .bl b => .bl b
  | _, _, .int i => .int i
  | _, _, .str x => .str x
  | _, _, .lst e r => .lst (SqL.of e) (DkAll.dp r)
  | _, _, .tup e r => .tup (SqT.of e) (DkAll.dp r)
  | _, _, .ktup _ e r => .tup (e.sq _) (DkAll.dp r)
theorem DkAll.dp : ∀ {vs : List V} {ds : List PyData}, DkAll K H vs ds → DpAll K H vs ds
  | _, _, .nil => .nil
  | _, _, .cons x r => .cons (Dk.dp x) (DkAll.dp r)
end
mutual
theorem Da.dk : ∀ {v : V} {d : PyData}, Da H v d → Dk K H v d
  | _, _, .non => .non
  | _, _, .bl b => .bl b
  | _, _, .int i => .int i
  | _, _, .str x => .str x
  | _, _, .lst e r => .lst e (DaAll.dk r)
  | _, _, .tup e r => .tup e (DaAll.dk r)
theorem DaAll.dk : ∀ {vs : List V} {ds : List PyData}, DaAll H vs ds → DkAll K H vs ds
  | _, _, .nil => .nil
  | _, _, .cons x r => .cons (Da.dk x) (DaAll.dk r)
end
theorem DkAll.len : ∀ {vs : List V} {ds : List PyData}, DkAll K H vs ds → vs.length = ds.length
  | _, _, .nil => rfl
  | _, _, .cons _ r => congrArg (· + 1) (DkAll.len r)
theorem DkAll.get : ∀ {vs : List V} {ds : List PyData}, DkAll K H vs ds → ∀ {i : Nat} {v : V}, vs[i]? = some v → ∃ d, ds[i]? = some d ∧ Dk K H v d
  | _, _, .nil, i, v, h => by cases h
  | _, _, .cons x _, 0, v, h => by
    cases h
    exact ⟨_, rfl, x⟩
  | _, _, .cons _ r, i + 1, v, h => DkAll.get r h
theorem DkAll.at_ : ∀ {vs : List V} {ds : List PyData}, DkAll K H vs ds → ∀ {i : Nat} {d : PyData}, ds[i]? = some d → ∃ v, vs[i]? = some v ∧ Dk K H v d
  | _, _, .nil, i, v, h => by cases h
  | _, _, .cons x _, 0, v, h => by
    cases h
    exact ⟨_, rfl, x⟩
  | _, _, .cons _ r, i + 1, v, h => DkAll.at_ r h
end
section
variable {K : PySem.W.Frag}
/-! ### the value layer: what a def does, told of data and of few objects that change -/
/-- a value: data that stays as it is, an object of the store, a tuple in which such objects stand -/
inductive T where
  | fz (d : PyData)
  | rf (j : Nat)
  | tp (ts : List T)
  /-- the script -/
  | scr (ns : List Int)
mutual
inductive RepV (K : PySem.W.Frag) (F : Hp) (α : List Addr) : V → T → Prop where
  | fz {v : V} {d : PyData} : Dk K F v d → RepV K F α v (.fz d)
  | rf {a : Addr} {j : Nat} : α[j]? = some a → RepV K F α (.ref a) (.rf j)
  | tp {a : Addr} {vs : List V} {ts : List T} : F a = some (.tup vs) → RepVs K F α vs ts → RepV K F α (.ref a) (.tp ts)
  | scr {a : Addr} {ns : List Int} : SqL K F a (ns.map V.int) → RepV K F α (.ref a) (.scr ns)
inductive RepVs (K : PySem.W.Frag) (F : Hp) (α : List Addr) : List V → List T → Prop where
  | nil : RepVs K F α [] []
  | cons {v : V} {t : T} {vs : List V} {ts : List T} : RepV K F α v t → RepVs K F α vs ts → RepVs K F α (v :: vs) (t :: ts)
end
/-- an object of the store -/
inductive O where
  | lst (ts : List T)
  | dk (kvs : List (Key × T))
  | ins (C : Addr) (fs : List (Str × T))
  | gone
/-- an error: its class, its attributes (none: it has no dict of its own) -/
structure Er where
  C : Addr
  fs : Option (List (Str × T))
def RepO (K : PySem.W.Frag) (F : Hp) (α : List Addr) (H : Hp) (a : Addr) : O → Prop
  | .lst ts => ∃ vs, H a = some (.lst vs) ∧ RepVs K F α vs ts
  | .dk kvs => ∃ ws, H a = some (.dK ws) ∧ ws.map (·.1) = kvs.map (·.1) ∧ RepVs K F α (ws.map (·.2)) (kvs.map (·.2))
  | .ins C fs => ∃ dx ws, H a = some (.ins C dx ws) ∧ ws.map (·.1) = fs.map (·.1) ∧ RepVs K F α (ws.map (·.2)) (fs.map (·.2))
  | .gone => ∃ o, H a = some o
/-- the heap's state: F what stays, α where the store's objects stand -/
structure Hs (K : PySem.W.Frag) (F : Hp) (α : List Addr) (S : List O) (H : Hp) : Prop where
  sub : Same F H
  len : α.length = S.length
  nd : α.Nodup
  out : ∀ a ∈ α, F a = none
  at_ : ∀ (j : Nat) (a : Addr) (o : O), α[j]? = some a → S[j]? = some o → RepO K F α H a o
structure Step (F : Hp) (α : List Addr) (H F' : Hp) (α' : List Addr) (H' : Hp) : Prop where
  f : Same F F'
  a : ∃ β, α' = α ++ β ∧ ∀ b ∈ β, H b = none
  fix : ∀ b o, H b = some o → b ∉ α → H' b = some o
  new : ∀ b, F' b ≠ none → F b ≠ none ∨ H b = none
  grow : ∀ b, H b ≠ none → H' b ≠ none
theorem Same.rfl' {H : Hp} : Same H H := fun _ _ h => h
section
variable {F F' F'' H H' H'' : Hp} {α α' α'' : List Addr}
theorem Step.refl : Step F α H F α H := ⟨Same.rfl', ⟨[], (List.append_nil _).symm, fun b h => by cases h⟩, fun _ _ h _ => h, fun _ h => .inl h, fun _ h => h⟩
theorem Step.trans (s : Step F α H F' α' H') (u : Step F' α' H' F'' α'' H'') : Step F α H F'' α'' H'' := by
  have back : ∀ b, H' b = none → H b = none := fun b h => by
    cases e : H b with
    | none => rfl
    | some o => exact absurd h (s.grow b (by rw [e]; exact fun z => by cases z))
  obtain ⟨β, e1, n1⟩ := s.a
  obtain ⟨γ, e2, n2⟩ := u.a
  refine ⟨s.f.trans u.f, ⟨β ++ γ, by rw [e2, e1, List.append_assoc], fun b hb => ?_⟩, fun b o h1 h2 => ?_, fun b h => ?_, fun b h => u.grow b (s.grow b h)⟩
  · rcases List.mem_append.mp hb with h | h
    · exact n1 b h
    · exact back b (n2 b h)
  · refine u.fix b o (s.fix b o h1 h2) fun h3 => ?_
    rw [e1] at h3
    rcases List.mem_append.mp h3 with h3 | h3
    · exact h2 h3
    · rw [n1 b h3] at h1
      cases h1
  · rcases u.new b h with h | h
    · exact s.new b h
    · exact .inr (back b h)
mutual
theorem RepV.mono (s : Same F F') {β : List Addr} : ∀ {v : V} {t : T}, RepV K F α v t → RepV K F' (α ++ β) v t
  | _, _, .fz h => .fz (h.same s)
  | _, _, .rf h => .rf (by rw [List.getElem?_append_left (List.getElem?_eq_some_iff.mp h).1]; exact h)
  | _, _, .tp h r => .tp (s _ _ h) (RepVs.mono s r)
  | _, _, .scr h => .scr (s.seq h)
theorem RepVs.mono (s : Same F F') {β : List Addr} : ∀ {vs : List V} {ts : List T}, RepVs K F α vs ts → RepVs K F' (α ++ β) vs ts
  | _, _, .nil => .nil
  | _, _, .cons h r => .cons (RepV.mono s h) (RepVs.mono s r)
end
theorem RepV.step {v : V} {t : T} (h : RepV K F α v t) (s : Step F α H F' α' H') : RepV K F' α' v t := by
  obtain ⟨β, e, _⟩ := s.a
  subst e
  exact h.mono s.f
theorem RepVs.step {v : List V} {t : List T} (h : RepVs K F α v t) (s : Step F α H F' α' H') : RepVs K F' α' v t := by
  obtain ⟨β, e, _⟩ := s.a
  subst e
  exact h.mono s.f
theorem RepVs.len : ∀ {vs : List V} {ts : List T}, RepVs K F α vs ts → vs.length = ts.length
  | _, _, .nil => rfl
  | _, _, .cons _ r => congrArg (· + 1) (RepVs.len r)
theorem RepVs.get : ∀ {vs : List V} {ts : List T}, RepVs K F α vs ts → ∀ {i : Nat} {v : V}, vs[i]? = some v → ∃ t, ts[i]? = some t ∧ RepV K F α v t
  | _, _, .nil, i, v, h => by cases h
  | _, _, .cons x _, 0, v, h => by
    cases h
    exact ⟨_, rfl, x⟩
  | _, _, .cons _ r, i + 1, v, h => RepVs.get r h
theorem RepVs.at_ : ∀ {vs : List V} {ts : List T}, RepVs K F α vs ts → ∀ {i : Nat} {t : T}, ts[i]? = some t → ∃ v, vs[i]? = some v ∧ RepV K F α v t
  | _, _, .nil, i, v, h => by cases h
  | _, _, .cons x _, 0, v, h => by
    cases h
    exact ⟨_, rfl, x⟩
  | _, _, .cons _ r, i + 1, v, h => RepVs.at_ r h
theorem RepVs.append {vs ws : List V} {ts us : List T} (h : RepVs K F α vs ts) (g : RepVs K F α ws us) : RepVs K F α (vs ++ ws) (ts ++ us) := by
  induction vs generalizing ts with
  | nil => cases h; exact g
  | cons v vs ih =>
    cases h with
    | cons a b => exact .cons a (ih b)
theorem RepVs.set : ∀ {vs : List V} {ts : List T}, RepVs K F α vs ts → ∀ (i : Nat) {v : V} {t : T}, RepV K F α v t → RepVs K F α (vs.set i v) (ts.set i t)
  | _, _, .nil, _, _, _, _ => .nil
  | _, _, .cons _ r, 0, _, _, h => .cons h r
  | _, _, .cons x r, i + 1, _, _, h => .cons x (RepVs.set r i h)
theorem RepVs.take : ∀ {vs : List V} {ts : List T} (n : Nat), RepVs K F α vs ts → RepVs K F α (vs.take n) (ts.take n)
  | _, _, 0, _ => by
    rw [List.take_zero, List.take_zero]
    exact .nil
  | _, _, n + 1, .nil => .nil
  | _, _, n + 1, .cons x r => .cons x (RepVs.take n r)
theorem RepVs.drop : ∀ {vs : List V} {ts : List T} (n : Nat), RepVs K F α vs ts → RepVs K F α (vs.drop n) (ts.drop n)
  | _, _, 0, h => h
  | _, _, n + 1, .nil => .nil
  | _, _, n + 1, .cons _ r => RepVs.drop n r
theorem RepVs.rev {vs : List V} {ts : List T} (h : RepVs K F α vs ts) : RepVs K F α vs.reverse ts.reverse := by
  induction vs generalizing ts with
  | nil => cases h; exact .nil
  | cons v vs ih =>
    cases h with
    | cons a b =>
      rw [List.reverse_cons, List.reverse_cons]
      exact (ih b).append (.cons a .nil)
theorem DkAll.reps {vs : List V} {ds : List PyData} (h : DkAll K F vs ds) : RepVs K F α vs (ds.map T.fz) := by
  induction vs generalizing ds with
  | nil => cases h; exact .nil
  | cons v vs ih =>
    cases h with
    | cons a b => exact .cons (.fz a) (ih b)
/-- all of them are data -/
def allD : List T → Option (List PyData)
  | [] => some []
  | .fz d :: ts => match allD ts with
    | some ds => some (d :: ds)
    | none => none
  | _ :: _ => none
theorem allD_map (ds : List PyData) : allD (ds.map T.fz) = some ds := by
  induction ds with
  | nil => rfl
  | cons d ds ih =>
    rw [List.map_cons]
    show (match allD (ds.map T.fz) with | some es => some (d :: es) | none => none) = _
    rw [ih]
theorem allD_eq {ts : List T} {ds : List PyData} (h : allD ts = some ds) : ts = ds.map T.fz := by
  induction ts generalizing ds with
  | nil => cases h; rfl
  | cons t ts ih =>
    cases t with
    | fz d =>
      have h2 : (match allD ts with | some es => some (d :: es) | none => none) = some ds := h
      cases e : allD ts with
      | none => rw [e] at h2; cases h2
      | some es =>
        rw [e] at h2
        cases h2
        rw [ih e]
        rfl
    | rf j => cases h
    | tp us => cases h
    | scr ns => cases h
theorem RepVs.dkAll : ∀ {ds : List PyData} {vs : List V}, RepVs K F α vs (ds.map T.fz) → DkAll K F vs ds
  | [], _, .nil => .nil
  | d :: ds, _, .cons (.fz h) r => .cons h (RepVs.dkAll r)
end

/-! what is done at the heap: a new object that stays, one that may change, a change -/
section
variable {F F' H H' : Hp} {α : List Addr} {S : List O}
theorem RepO.mono {a : Addr} {o : O} {β : List Addr} (h : RepO K F α H a o) (s : Same F F') (ha : H' a = H a) : RepO K F' (α ++ β) H' a o := by
  cases o with
  | lst ts => obtain ⟨vs, h1, h2⟩ := h; exact ⟨vs, by rw [ha]; exact h1, h2.mono s⟩
  | dk kvs => obtain ⟨vs, h1, h2, h3⟩ := h; exact ⟨vs, by rw [ha]; exact h1, h2, h3.mono s⟩
  | ins C fs => obtain ⟨dx, ws, h1, h2, h3⟩ := h; exact ⟨dx, ws, by rw [ha]; exact h1, h2, h3.mono s⟩
  | gone => obtain ⟨o, h1⟩ := h; exact ⟨o, by rw [ha]; exact h1⟩
theorem RepO.there {a : Addr} {o : O} (h : RepO K F α H a o) : H a ≠ none := by
  cases o with
  | lst ts => obtain ⟨vs, h1, h2⟩ := h; rw [h1]; exact fun z => by cases z
  | dk kvs => obtain ⟨vs, h1, h2, h3⟩ := h; rw [h1]; exact fun z => by cases z
  | ins C fs => obtain ⟨dx, ws, h1, h2, h3⟩ := h; rw [h1]; exact fun z => by cases z
  | gone => obtain ⟨o, h1⟩ := h; rw [h1]; exact fun z => by cases z
theorem Hs.there (h : Hs K F α S H) {a : Addr} (ha : a ∈ α) : H a ≠ none := by
  obtain ⟨j, hj⟩ := List.getElem?_of_mem ha
  have hl : j < S.length := by rw [← h.len]; exact (List.getElem?_eq_some_iff.mp hj).1
  exact (h.at_ j a _ hj (List.getElem?_eq_getElem hl)).there
/-- a new object that stays as it is -/
theorem Hs.frz (h : Hs K F α S H) {p : Addr} (hp : H p = none) (o : HO) : Hs K (upd F p o) α S (upd H p o) ∧ Step F α H (upd F p o) α (upd H p o) := by
  have fp : F p = none := h.sub.free hp
  have np : p ∉ α := fun hm => h.there hm hp
  have sf : Same F (upd F p o) := same_upd fp
  refine ⟨⟨fun b u e => ?_, h.len, h.nd, fun a ha => ?_, fun j a ob h1 h2 => ?_⟩, ⟨sf, ⟨[], (List.append_nil _).symm, fun b hb => by cases hb⟩, fun b u e _ => same_upd hp b u e, fun b e => ?_, fun b e => ?_⟩⟩
  · by_cases n : b = p
    · subst n
      rw [upd_same] at e ⊢
      exact e
    · rw [upd_ne n] at e ⊢
      exact h.sub b u e
  · rw [upd_ne (fun e => np (by rw [← e]; exact ha))]
    exact h.out a ha
  · have := (h.at_ j a ob h1 h2).mono (β := []) (H' := upd H p o) sf (upd_ne fun e => np (e ▸ List.mem_of_getElem? h1))
    rw [List.append_nil] at this
    exact this
  · by_cases n : b = p
    · subst n
      exact .inr hp
    · rw [upd_ne n] at e
      exact .inl e
  · by_cases n : b = p
    · subst n
      rw [upd_same]
      exact fun z => by cases z
    · rw [upd_ne n]
      exact e
/-- a new object of the store -/
theorem Hs.alloc (h : Hs K F α S H) {p : Addr} (hp : H p = none) (o : HO) (ob : O) (ho : ∀ H', H' p = some o → RepO K F (α ++ [p]) H' p ob) : Hs K F (α ++ [p]) (S ++ [ob]) (upd H p o) ∧ Step F α H F (α ++ [p]) (upd H p o) := by
  have fp : F p = none := h.sub.free hp
  have np : p ∉ α := fun hm => h.there hm hp
  refine ⟨⟨fun b u e => same_upd hp b u (h.sub b u e), by rw [List.length_append, List.length_append, h.len]; rfl, ?_, fun a ha => ?_, fun j a ob' h1 h2 => ?_⟩, ⟨Same.rfl', ⟨[p], rfl, fun b hb => by rw [List.mem_singleton.mp hb]; exact hp⟩, fun b u e _ => same_upd hp b u e, fun b e => .inl e, fun b e => ?_⟩⟩
  · exact nd_snoc h.nd np
  · rcases List.mem_append.mp ha with ha | ha
    · exact h.out a ha
    · rw [List.mem_singleton.mp ha]
      exact fp
  · by_cases hj : j < α.length
    · rw [List.getElem?_append_left hj] at h1
      rw [List.getElem?_append_left (by rw [← h.len]; exact hj)] at h2
      exact (h.at_ j a ob' h1 h2).mono Same.rfl' (upd_ne fun e => np (e ▸ List.mem_of_getElem? h1))
    · have ej : j = α.length := by
        have := (List.getElem?_eq_some_iff.mp h1).1
        rw [List.length_append, List.length_singleton] at this
        omega
      subst ej
      rw [List.getElem?_append_right (Nat.le_refl _), Nat.sub_self] at h1
      rw [h.len, List.getElem?_append_right (Nat.le_refl _), Nat.sub_self] at h2
      cases h1
      cases h2
      exact ho _ upd_same
  · by_cases n : b = p
    · subst n
      rw [upd_same]
      exact fun z => by cases z
    · rw [upd_ne n]
      exact e
/-- an object of the store is changed -/
theorem Hs.put (h : Hs K F α S H) {j : Nat} {a : Addr} (hj : α[j]? = some a) (o : HO) (ob : O) (ho : ∀ H', H' a = some o → RepO K F α H' a ob) : Hs K F α (S.set j ob) (upd H a o) ∧ Step F α H F α (upd H a o) := by
  have ha : a ∈ α := List.mem_of_getElem? hj
  have fa := h.out a ha
  refine ⟨⟨fun b u e => ?_, by rw [List.length_set]; exact h.len, h.nd, h.out, fun k b ob' h1 h2 => ?_⟩, ⟨Same.rfl', ⟨[], (List.append_nil _).symm, fun b hb => by cases hb⟩, fun b u e hn => ?_, fun b e => .inl e, fun b e => ?_⟩⟩
  · rw [upd_ne (ne_of_none e fa)]
    exact h.sub b u e
  · by_cases e : j = k
    · subst e
      rw [hj] at h1
      cases h1
      have hl : j < S.length := by rw [← h.len]; exact (List.getElem?_eq_some_iff.mp hj).1
      rw [List.getElem?_set_self hl] at h2
      cases h2
      exact ho _ upd_same
    · rw [List.getElem?_set_ne e] at h2
      have n : b ≠ a := fun z => e (nd_ix h.nd hj (z ▸ h1))
      have := (h.at_ k b ob' h1 h2).mono (β := []) (F' := F) (H' := upd H a o) Same.rfl' (upd_ne n)
      rw [List.append_nil] at this
      exact this
  · rw [upd_ne fun z => hn (by rw [z]; exact ha)]
    exact e
  · by_cases n : b = a
    · subst n
      rw [upd_same]
      exact fun z => by cases z
    · rw [upd_ne n]
      exact e
end
/-! what is wanted, told of values -/
abbrev VX := Er → List O → Prop
abbrev VQ := T → List O → Prop
abbrev Gm := List (Option T)
abbrev VTE := VX → Gm → List O → VQ → Prop
abbrev VTT := VX → Gm → List O → (Bool → List O → Prop) → Prop
abbrev VTA := VX → Gm → List O → (List T → List O → Prop) → Prop
abbrev VTO := VX → Gm → List O → (Option Int → List O → Prop) → Prop
structure VEn where
  nx : Gm → List O → Prop
  rt : VQ
  bk : Gm → List O → Prop := fun _ _ => False
  ct : Gm → List O → Prop := fun _ _ => False
abbrev VTS := VX → VEn → Gm → List O → Prop
abbrev VTG := VX → T → Gm → List O → (Gm → List O → Prop) → Prop
abbrev VTGs := VX → List T → Gm → List O → (Gm → List O → Prop) → Prop
abbrev VTI := VX → Gm → List O → (List T → List O → Prop) → Prop
structure SRep (K : PySem.W.Frag) (F : Hp) (α : List Addr) (σ : L2.St) (Γ : Gm) : Prop where
  len : σ.length = Γ.length
  at_ : ∀ (i : Nat) (t : T), Γ[i]? = some (some t) → ∃ v, σ[i]? = some (some v) ∧ RepV K F α v t
theorem SRep.step {F F' H H' : Hp} {α α' : List Addr} {σ : L2.St} {Γ : Gm} (h : SRep K F α σ Γ) (s : Step F α H F' α' H') : SRep K F' α' σ Γ :=
  ⟨h.len, fun i t e => let ⟨v, h1, h2⟩ := h.at_ i t e; ⟨v, h1, h2.step s⟩⟩
theorem SRep.set {F : Hp} {α : List Addr} {σ : L2.St} {Γ : Gm} (h : SRep K F α σ Γ) {v : V} {t : T} (i : Nat) (r : RepV K F α v t) : SRep K F α (σ.set i (some v)) (Γ.set i (some t)) := by
  refine ⟨by rw [List.length_set, List.length_set]; exact h.len, fun k u e => ?_⟩
  by_cases ek : i = k
  · subst ek
    by_cases hl : i < Γ.length
    · rw [List.getElem?_set_self hl] at e
      cases e
      exact ⟨v, by rw [List.getElem?_set_self (by rw [h.len]; exact hl)], r⟩
    · rw [List.getElem?_eq_none (by rw [List.length_set]; omega)] at e
      cases e
  · rw [List.getElem?_set_ne ek] at e ⊢
    exact h.at_ k u e
/-- slots that are forgotten -/
def wipeG : Gm → List Nat → Gm
  | Γ, [] => Γ
  | Γ, i :: is => wipeG (Γ.set i none) is
theorem wipeG_len : ∀ (is : List Nat) (Γ : Gm), (wipeG Γ is).length = Γ.length
  | [], _ => rfl
  | i :: is, Γ => (wipeG_len is _).trans List.length_set
theorem wipeG_get : ∀ (is : List Nat) (Γ : Gm) (k : Nat) (u : T), (wipeG Γ is)[k]? = some (some u) → k ∉ is ∧ Γ[k]? = some (some u)
  | [], _, k, u, e => ⟨fun h => (by cases h), e⟩
  | i :: is, Γ, k, u, e => by
    obtain ⟨h1, h2⟩ := wipeG_get is _ k u e
    by_cases ek : i = k
    · subst ek
      by_cases hl : i < Γ.length
      · rw [List.getElem?_set_self hl] at h2
        cases h2
      · rw [List.getElem?_eq_none (by rw [List.length_set]; omega)] at h2
        cases h2
    · rw [List.getElem?_set_ne ek] at h2
      exact ⟨fun hm => (List.mem_cons.mp hm).elim (fun z => ek z.symm) h1, h2⟩
theorem SRep.forget {F : Hp} {α : List Addr} {σ σ' : L2.St} {Γ : Gm} (h : SRep K F α σ Γ) (is : List Nat) (hl : σ'.length = σ.length) (hs : ∀ i, i ∉ is → σ'[i]? = σ[i]?) : SRep K F α σ' (wipeG Γ is) := by
  refine ⟨by rw [hl, wipeG_len]; exact h.len, fun k u e => ?_⟩
  obtain ⟨h1, h2⟩ := wipeG_get is Γ k u e
  obtain ⟨v, h3, h4⟩ := h.at_ k u h2
  exact ⟨v, by rw [hs k h1]; exact h3, h4⟩
def ErAt (K : PySem.W.Frag) (F : Hp) (α : List Addr) (H : Hp) (er : Er) (cls : Value) (d : Option Addr) : Prop :=
  cls = .ref er.C ∧ match er.fs, d with
  | none, none => True
  | some fs, some d => ∃ ws, H d = some (.xd ws) ∧ ws.map (·.1) = fs.map (·.1) ∧ RepVs K F α (ws.map (·.2)) (fs.map (·.2))
  | _, _ => False
/-- what the heap owes when an error leaves -/
def XL (K : PySem.W.Frag) (F : Hp) (α : List Addr) (H : Hp) (E : XK) (vx : VX) : Prop := ∀ F' α' H' S' er cls d, Step F α H F' α' H' → Hs K F' α' S' H' → ErAt K F' α' H' er cls d → vx er S' → E cls d H'
def QL (K : PySem.W.Frag) (F : Hp) (α : List Addr) (H : Hp) (Q : VK) (q : VQ) : Prop := ∀ F' α' H' v r S', Step F α H F' α' H' → Hs K F' α' S' H' → RepV K F' α' v r → q r S' → Q v H'
def BL (K : PySem.W.Frag) (F : Hp) (α : List Addr) (H : Hp) (Q : Bool → Hp → Prop) (q : Bool → List O → Prop) : Prop := ∀ F' α' H' b S', Step F α H F' α' H' → Hs K F' α' S' H' → q b S' → Q b H'
def AL (K : PySem.W.Frag) (F : Hp) (α : List Addr) (H : Hp) (Q : List V → Hp → Prop) (q : List T → List O → Prop) : Prop := ∀ F' α' H' v r S', Step F α H F' α' H' → Hs K F' α' S' H' → RepVs K F' α' v r → q r S' → Q v H'
def OL (K : PySem.W.Frag) (F : Hp) (α : List Addr) (H : Hp) (Q : Option Int → Hp → Prop) (q : Option Int → List O → Prop) : Prop := ∀ F' α' H' b S', Step F α H F' α' H' → Hs K F' α' S' H' → q b S' → Q b H'
def GL (K : PySem.W.Frag) (F : Hp) (α : List Addr) (H : Hp) (Q : L2.St → Hp → Prop) (q : Gm → List O → Prop) : Prop := ∀ F' α' H' σ' Γ' S', Step F α H F' α' H' → Hs K F' α' S' H' → SRep K F' α' σ' Γ' → q Γ' S' → Q σ' H'
section
variable {F F' H H' : Hp} {α α' : List Addr}
theorem XL.step {E : XK} {vx : VX} (h : XL K F α H E vx) (s : Step F α H F' α' H') : XL K F' α' H' E vx := fun F2 a2 H2 S2 er cls d s2 => h F2 a2 H2 S2 er cls d (s.trans s2)
theorem QL.step {Q : VK} {q : VQ} (h : QL K F α H Q q) (s : Step F α H F' α' H') : QL K F' α' H' Q q := fun F2 a2 H2 v r S2 s2 => h F2 a2 H2 v r S2 (s.trans s2)
theorem BL.step {Q : Bool → Hp → Prop} {q : Bool → List O → Prop} (h : BL K F α H Q q) (s : Step F α H F' α' H') : BL K F' α' H' Q q := fun F2 a2 H2 v S2 s2 => h F2 a2 H2 v S2 (s.trans s2)
theorem AL.step {Q : List V → Hp → Prop} {q : List T → List O → Prop} (h : AL K F α H Q q) (s : Step F α H F' α' H') : AL K F' α' H' Q q := fun F2 a2 H2 v r S2 s2 => h F2 a2 H2 v r S2 (s.trans s2)
theorem OL.step {Q : Option Int → Hp → Prop} {q : Option Int → List O → Prop} (h : OL K F α H Q q) (s : Step F α H F' α' H') : OL K F' α' H' Q q := fun F2 a2 H2 v S2 s2 => h F2 a2 H2 v S2 (s.trans s2)
theorem GL.step {Q : L2.St → Hp → Prop} {q : Gm → List O → Prop} (h : GL K F α H Q q) (s : Step F α H F' α' H') : GL K F' α' H' Q q := fun F2 a2 H2 v r S2 s2 => h F2 a2 H2 v r S2 (s.trans s2)
end
structure DL (K : PySem.W.Frag) (F : Hp) (α : List Addr) (H : Hp) (D : Ends) (d : VEn) : Prop where
  nx : GL K F α H D.nx d.nx
  rt : QL K F α H D.rt d.rt
  bk : GL K F α H D.bk d.bk
  ct : GL K F α H D.ct d.ct
theorem DL.step {F F' H H' : Hp} {α α' : List Addr} {D : Ends} {d : VEn} (h : DL K F α H D d) (s : Step F α H F' α' H') : DL K F' α' H' D d := ⟨h.nx.step s, h.rt.step s, h.bk.step s, h.ct.step s⟩
/-! a reading told of values -/
class SimE (K : PySem.W.Frag) (E : XK) (t : TE) (w : outParam VTE) : Prop where
  sim : ∀ {F α H σ Γ S} {Q : VK} {q : VQ} {vx : VX}, Hs K F α S H → SRep K F α σ Γ → XL K F α H E vx → QL K F α H Q q → w vx Γ S q → t σ H Q
class SimT (K : PySem.W.Frag) (E : XK) (t : TT) (w : outParam VTT) : Prop where
  sim : ∀ {F α H σ Γ S} {Q : Bool → Hp → Prop} {q : Bool → List O → Prop} {vx : VX}, Hs K F α S H → SRep K F α σ Γ → XL K F α H E vx → BL K F α H Q q → w vx Γ S q → t σ H Q
class SimA (K : PySem.W.Frag) (E : XK) (t : TA) (w : outParam VTA) : Prop where
  sim : ∀ {F α H σ Γ S} {Q : List V → Hp → Prop} {q : List T → List O → Prop} {vx : VX}, Hs K F α S H → SRep K F α σ Γ → XL K F α H E vx → AL K F α H Q q → w vx Γ S q → t σ H Q
class SimO (K : PySem.W.Frag) (E : XK) (t : TO) (w : outParam VTO) : Prop where
  sim : ∀ {F α H σ Γ S} {Q : Option Int → Hp → Prop} {q : Option Int → List O → Prop} {vx : VX}, Hs K F α S H → SRep K F α σ Γ → XL K F α H E vx → OL K F α H Q q → w vx Γ S q → t σ H Q
class SimG (K : PySem.W.Frag) (E : XK) (t : TG) (w : outParam VTG) : Prop where
  sim : ∀ {F α H σ Γ S v r} {Q : L2.St → Hp → Prop} {q : Gm → List O → Prop} {vx : VX}, Hs K F α S H → SRep K F α σ Γ → RepV K F α v r → XL K F α H E vx → GL K F α H Q q → w vx r Γ S q → t v σ H Q
class SimGs (K : PySem.W.Frag) (E : XK) (t : TGs) (w : outParam VTGs) : Prop where
  sim : ∀ {F α H σ Γ S v r} {Q : L2.St → Hp → Prop} {q : Gm → List O → Prop} {vx : VX}, Hs K F α S H → SRep K F α σ Γ → RepVs K F α v r → XL K F α H E vx → GL K F α H Q q → w vx r Γ S q → t v σ H Q
class SimS (K : PySem.W.Frag) (E : XK) (t : TS) (w : outParam VTS) : Prop where
  sim : ∀ {F α H σ Γ S} {D : Ends} {d : VEn} {vx : VX}, Hs K F α S H → SRep K F α σ Γ → XL K F α H E vx → DL K F α H D d → w vx d Γ S → t D σ H

/-! statements -/
def ifV (b : Bool) (A B : Prop) : Prop := (b = true → A) ∧ (b = false → B)
theorem ifV.T {A B : Prop} (h : A) : ifV true A B := ⟨fun _ => h, fun z => by cases z⟩
theorem ifV.F {A B : Prop} (h : B) : ifV false A B := ⟨fun z => (by cases z), fun _ => h⟩
theorem ifV_true {A B : Prop} : ifV true A B ↔ A := ⟨fun h => h.1 rfl, ifV.T⟩
theorem ifV_false {A B : Prop} : ifV false A B ↔ B := ⟨fun h => h.2 rfl, ifV.F⟩
theorem ifV.ite {b : Bool} {A B A' B' : Prop} (h : ifV b A B) (ha : A → A') (hb : B → B') : if b = true then A' else B' := by
  cases b with
  | true => exact iteT (ha (h.1 rfl))
  | false => exact iteF (hb (h.2 rfl))
def wNext : VTS := fun _ d Γ S => d.nx Γ S
def wBreak : VTS := fun _ d Γ S => d.bk Γ S
def wCont : VTS := fun _ d Γ S => d.ct Γ S
def wSeq (t u : VTS) : VTS := fun vx d Γ S => t vx { d with nx := fun Γ' S' => u vx d Γ' S' } Γ S
def wDrop (e : VTE) : VTS := fun vx d Γ S => e vx Γ S fun _ S' => d.nx Γ S'
def wRet (e : VTE) : VTS := fun vx d Γ S => e vx Γ S d.rt
def wRetN : VTS := fun _ d _ S => d.rt (.fz .none) S
def wIfS (c : VTT) (t u : VTS) : VTS := fun vx d Γ S => c vx Γ S fun b S' => ifV b (t vx d Γ S') (u vx d Γ S')
def wAsg (e : VTE) (g : VTG) : VTS := fun vx d Γ S => e vx Γ S fun r S1 => g vx r Γ S1 d.nx
def wgName (i : Nat) : VTG := fun _ r Γ S q => q (Γ.set i (some r)) S
def wgNil : VTGs := fun _ r Γ S q => match r with
  | [] => q Γ S
  | _ => False
def wgCons (g : VTG) (u : VTGs) : VTGs := fun vx r Γ S q => match r with
  | t :: ts => g vx t Γ S fun Γ' S' => u vx ts Γ' S' q
  | [] => False
def wgTup (n : Nat) (u : VTGs) : VTG := fun vx r Γ S q => match r with
  | .fz (.tuple ds) => ds.length = n ∧ u vx (ds.map T.fz) Γ S q
  | .tp ts => ts.length = n ∧ u vx ts Γ S q
  | _ => False
def wgUnl (n : Nat) (u : VTGs) : VTG := fun vx r Γ S q => match r with
  | .fz (.list ds) => ds.length = n ∧ u vx (ds.map T.fz) Γ S q
  | .rf j => match S[j]? with
    | some (.lst ts) => ts.length = n ∧ u vx ts Γ S q
    | _ => False
  | _ => False
def wPar (i j : Nat) (a : VTA) : VTS := fun vx d Γ S => a vx Γ S fun ts S1 => match ts with
  | [x, y] => d.nx ((Γ.set i (some x)).set j (some y)) S1
  | _ => False
section
variable {E : XK} {t u : TS} {wt wu : VTS} {te : TE} {we : VTE}
instance : SimS K E tNext wNext := ⟨fun hs sr _ dl h => dl.nx _ _ _ _ _ _ .refl hs sr h⟩
instance : SimS K E tBreak wBreak := ⟨fun hs sr _ dl h => dl.bk _ _ _ _ _ _ .refl hs sr h⟩
instance : SimS K E tCont wCont := ⟨fun hs sr _ dl h => dl.ct _ _ _ _ _ _ .refl hs sr h⟩
instance [ht : SimS K E t wt] [hu : SimS K E u wu] : SimS K E (tSeq t u) (wSeq wt wu) :=
  ⟨fun {F α H σ Γ S D d vx} hs sr xl dl h => ht.sim hs sr xl (d := { d with nx := fun Γ' S' => wu vx d Γ' S' }) ⟨fun _ _ _ _ _ _ s hs' sr' q => hu.sim hs' sr' (xl.step s) (dl.step s) q, dl.rt, dl.bk, dl.ct⟩ h⟩
instance [he : SimE K E te we] : SimS K E (tDrop te) (wDrop we) :=
  ⟨fun hs sr xl dl h => he.sim hs sr xl (fun _ _ _ _ _ _ s hs' _ q => dl.nx _ _ _ _ _ _ s hs' (sr.step s) q) h⟩
instance [he : SimE K E te we] : SimS K E (tRet te) (wRet we) := ⟨fun hs sr xl dl h => he.sim hs sr xl dl.rt h⟩
instance : SimS K E tRetN wRetN := ⟨fun hs sr xl dl h => dl.rt _ _ _ _ _ _ .refl hs (.fz .non) h⟩
instance {c : TT} {wc : VTT} [hc : SimT K E c wc] [ht : SimS K E t wt] [hu : SimS K E u wu] : SimS K E (tIfS c t u) (wIfS wc wt wu) :=
  ⟨fun hs sr xl dl h => hc.sim hs sr xl (fun _ _ _ _ _ s hs' q => q.ite (fun a => ht.sim hs' (sr.step s) (xl.step s) (dl.step s) a) (fun a => hu.sim hs' (sr.step s) (xl.step s) (dl.step s) a)) h⟩
instance {g : TG} {wg : VTG} [he : SimE K E te we] [hg : SimG K E g wg] : SimS K E (tAsg te g) (wAsg we wg) :=
  ⟨fun hs sr xl dl h => he.sim hs sr xl (fun _ _ _ _ _ _ s hs' r q => hg.sim hs' (sr.step s) r (xl.step s) (dl.step s).nx q) h⟩
instance {i : Nat} : SimG K E (gName i) (wgName i) := ⟨fun hs sr r _ gl h => gl _ _ _ _ _ _ .refl hs (sr.set i r) h⟩
instance : SimGs K E gNil wgNil := ⟨fun {F α H σ Γ S v r Q q vx} hs sr rr _ gl h => by
  cases rr with
  | nil => exact ⟨rfl, gl _ _ _ _ _ _ .refl hs sr h⟩
  | cons a b => exact h.elim⟩
instance {g : TG} {gs : TGs} {wg : VTG} {wgs : VTGs} [hg : SimG K E g wg] [hgs : SimGs K E gs wgs] : SimGs K E (gCons g gs) (wgCons wg wgs) := ⟨fun {F α H σ Γ S v r Q q vx} hs sr rr xl gl h => by
  cases rr with
  | nil => exact h.elim
  | cons a b => exact ⟨_, _, rfl, hg.sim hs sr a xl (fun _ _ _ _ _ _ s hs' sr' q => hgs.sim hs' sr' (b.step s) (xl.step s) (gl.step s) q) h⟩⟩
instance {n : Nat} {gs : TGs} {wgs : VTGs} [hgs : SimGs K E gs wgs] : SimG K E (gTup K n gs) (wgTup n wgs) := ⟨fun {F α H σ Γ S v r Q q vx} hs sr rr xl gl h => by
  cases rr with
  | fz d =>
    cases d with
    | tup e r =>
      obtain ⟨hl, h⟩ := h
      exact ⟨_, _, rfl, SqT.of (hs.sub _ _ e), by rw [r.len]; exact hl, hgs.sim hs sr r.reps xl gl h⟩
    | ktup _ e r =>
      obtain ⟨hl, h⟩ := h
      exact ⟨_, _, rfl, e.sq _, by rw [r.len]; exact hl, hgs.sim hs sr r.reps xl gl h⟩
    | _ => exact h.elim
  | rf _ => exact h.elim
  | tp e r =>
    obtain ⟨hl, h⟩ := h
    exact ⟨_, _, rfl, SqT.of (hs.sub _ _ e), by rw [r.len]; exact hl, hgs.sim hs sr r xl gl h⟩
  | scr _ => exact h.elim⟩
theorem Hs.lst {F : Hp} {α : List Addr} {S : List O} {H : Hp} (hs : Hs K F α S H) {j : Nat} {a : Addr} {ts : List T} (ha : α[j]? = some a) (hj : S[j]? = some (.lst ts)) : ∃ vs, H a = some (.lst vs) ∧ RepVs K F α vs ts := hs.at_ j a _ ha hj
instance {n : Nat} {gs : TGs} {wgs : VTGs} [hgs : SimGs K E gs wgs] : SimG K E (gUnl K n gs) (wgUnl n wgs) := ⟨fun {F α H σ Γ S v r Q q vx} hs sr rr xl gl h => by
  cases rr with
  | fz d =>
    cases d with
    | lst e r =>
      obtain ⟨hl, h⟩ := h
      exact ⟨_, _, rfl, SqL.of (hs.sub _ _ e), by rw [r.len]; exact hl, hgs.sim hs sr r.reps xl gl h⟩
    | _ => exact h.elim
  | rf e =>
    rename_i a j
    unfold wgUnl at h
    dsimp only at h
    split at h
    · rename_i ts e2
      obtain ⟨vs, h1, h2⟩ := hs.lst e e2
      exact ⟨_, _, rfl, SqL.of h1, by rw [h2.len]; exact h.1, hgs.sim hs sr h2 xl gl h.2⟩
    · exact h.elim
  | tp e r => exact h.elim
  | scr _ => exact h.elim⟩
instance {i j : Nat} {ta : TA} {wa : VTA} [ha : SimA K E ta wa] : SimS K E (tPar i j ta) (wPar i j wa) := ⟨fun {F α H σ Γ S D d vx} hs sr xl dl h => ha.sim hs sr xl (fun _ _ _ v r _ s hs' rr q => by
  cases rr with
  | nil => exact q.elim
  | cons a b =>
    cases b with
    | nil => exact q.elim
    | cons b c =>
      cases c with
      | nil => exact ⟨_, _, rfl, dl.nx _ _ _ _ _ _ s hs' (((sr.step s).set i a).set j b) q⟩
      | cons _ _ => exact q.elim) h⟩
end
/-! expressions -/
def wVar (i : Nat) : VTE := fun _ Γ S q => match Γ[i]? with
  | some (some t) => q t S
  | _ => False
def wC (t : T) : VTE := fun _ _ S q => q t S
class ValT (v : V) (d : outParam PyData) : Prop where
  rep : ∀ (K : PySem.W.Frag) (H : Hp), Dk K H v d
instance {i : Int} : ValT (.int i) (.int i) := ⟨fun _ _ => .int i⟩
instance {b : Bool} : ValT (.bl b) (.bool b) := ⟨fun _ _ => .bl b⟩
instance : ValT .non .none := ⟨fun _ _ => .non⟩
instance {x : Str} : ValT (.str x) (.str x) := ⟨fun _ _ => .str x⟩
def wB (e : VTE) : VTT := fun vx Γ S q => e vx Γ S fun r S1 => match r with
  | .fz (.bool b) => q b S1
  | _ => False
def wAnd (a b : VTT) : VTT := fun vx Γ S q => a vx Γ S fun c S1 => ifV c (b vx Γ S1 q) (q false S1)
def wOr (a b : VTT) : VTT := fun vx Γ S q => a vx Γ S fun c S1 => ifV c (q true S1) (b vx Γ S1 q)
def wNot (a : VTT) : VTT := fun vx Γ S q => a vx Γ S fun c S1 => q (!c) S1
def wAndV (a b : VTE) : VTE := fun vx Γ S q => a vx Γ S fun r S1 => match r with
  | .fz (.bool c) => ifV c (b vx Γ S1 q) (q (.fz (.bool false)) S1)
  | _ => False
def wOrV (a b : VTE) : VTE := fun vx Γ S q => a vx Γ S fun r S1 => match r with
  | .fz (.bool c) => ifV c (q (.fz (.bool true)) S1) (b vx Γ S1 q)
  | _ => False
def wNotV (a : VTE) : VTE := fun vx Γ S q => a vx Γ S fun r S1 => match r with
  | .fz (.bool c) => q (.fz (.bool (!c))) S1
  | _ => False
def wIf (c : VTT) (a b : VTE) : VTE := fun vx Γ S q => c vx Γ S fun k S1 => ifV k (a vx Γ S1 q) (b vx Γ S1 q)
abbrev VR2 := T → T → List O → VQ → Prop
abbrev VRs := List T → List O → VQ → Prop
def wOp (r : VR2) (a b : VTE) : VTE := fun vx Γ S q => a vx Γ S fun x S1 => b vx Γ S1 fun y S2 => r x y S2 q
def wUn (r : T → List O → VQ → Prop) (a : VTE) : VTE := fun vx Γ S q => a vx Γ S fun x S1 => r x S1 q
def wCB (r : VRs) (a : VTA) : VTE := fun vx Γ S q => a vx Γ S fun xs S1 => r xs S1 q
def wNil : VTA := fun _ _ S q => q [] S
def wCons (e : VTE) (a : VTA) : VTA := fun vx Γ S q => e vx Γ S fun x S1 => a vx Γ S1 fun xs S2 => q (x :: xs) S2
def isNon : T → Bool
  | .fz .none => true
  | _ => false
def wIsN (e : VTE) : VTE := fun vx Γ S q => e vx Γ S fun x S1 => q (.fz (.bool (isNon x))) S1
def wNotN (e : VTE) : VTE := fun vx Γ S q => e vx Γ S fun x S1 => q (.fz (.bool (!isNon x))) S1
/-- an operation on values, told of data -/
class LOp (K : PySem.W.Frag) (r : R2) (rv : outParam VR2) : Prop where
  lift : ∀ {F α H S x y tx ty} {Q : VK} {q : VQ}, Hs K F α S H → RepV K F α x tx → RepV K F α y ty → QL K F α H Q q → rv tx ty S q → r x y H Q
class LUn (K : PySem.W.Frag) (r : V → Hp → VK → Prop) (rv : outParam (T → List O → VQ → Prop)) : Prop where
  lift : ∀ {F α H S x tx} {Q : VK} {q : VQ}, Hs K F α S H → RepV K F α x tx → QL K F α H Q q → rv tx S q → r x H Q
class LCall (K : PySem.W.Frag) (r : List V → Hp → VK → Prop) (rv : outParam VRs) : Prop where
  lift : ∀ {F α H S xs ts} {Q : VK} {q : VQ}, Hs K F α S H → RepVs K F α xs ts → QL K F α H Q q → rv ts S q → r xs H Q
theorem isNon_ok {F : Hp} {α : List Addr} {v : V} {t : T} (r : RepV K F α v t) : decide (v = .non) = isNon t := by
  cases r with
  | fz d => cases d <;> rfl
  | rf _ => rfl
  | tp _ _ => rfl
  | scr _ => rfl
section
variable {E : XK} {ta tb : TE} {wa wb : VTE}
instance {i : Nat} : SimE K E (tVar i) (wVar i) := ⟨fun {F α H σ Γ S Q q vx} hs sr _ ql h => by
  unfold wVar at h
  split at h
  · rename_i t e
    obtain ⟨v, h1, h2⟩ := sr.at_ i t e
    exact ⟨v, h1, ql _ _ _ _ _ _ .refl hs h2 h⟩
  · exact h.elim⟩
instance {v : V} {d : PyData} [hv : ValT v d] : SimE K E (tC v) (wC (.fz d)) := ⟨fun {F α H σ Γ S Q q vx} hs sr _ ql h => ql _ _ _ _ _ _ .refl hs (.fz (hv.rep K F)) h⟩
theorem boolV {F : Hp} {α : List Addr} {v : V} {b : Bool} (r : RepV K F α v (.fz (.bool b))) : v = .bl b := by
  cases r with
  | fz d => cases d; rfl
instance [ha : SimE K E ta wa] : SimT K E (tB ta) (wB wa) := ⟨fun {F α H σ Γ S Q q vx} hs sr xl bl h => ha.sim hs sr xl (fun _ _ _ v r _ s hs' rr k => by
  split at k
  · cases boolV rr
    exact ⟨_, rfl, bl _ _ _ _ _ s hs' k⟩
  · exact k.elim) h⟩
instance [ha : SimE K E ta wa] : SimT K E (tTest ta) (wB wa) := ⟨fun {F α H σ Γ S Q q vx} hs sr xl bl h => ha.sim hs sr xl (fun _ _ _ v r _ s hs' rr k => by
  split at k
  · cases boolV rr
    exact ⟨_, rfl, bl _ _ _ _ _ s hs' k⟩
  · exact k.elim) h⟩
instance {t u : TT} {wt wu : VTT} [ht : SimT K E t wt] [hu : SimT K E u wu] : SimT K E (tAnd t u) (wAnd wt wu) :=
  ⟨fun hs sr xl bl h => ht.sim hs sr xl (fun _ _ _ _ _ s hs' k => k.ite (fun a => hu.sim hs' (sr.step s) (xl.step s) (bl.step s) a) fun a => bl _ _ _ _ _ s hs' a) h⟩
instance {t u : TT} {wt wu : VTT} [ht : SimT K E t wt] [hu : SimT K E u wu] : SimT K E (tOr t u) (wOr wt wu) :=
  ⟨fun hs sr xl bl h => ht.sim hs sr xl (fun _ _ _ _ _ s hs' k => k.ite (fun a => bl _ _ _ _ _ s hs' a) fun a => hu.sim hs' (sr.step s) (xl.step s) (bl.step s) a) h⟩
instance {t : TT} {wt : VTT} [ht : SimT K E t wt] : SimT K E (tNot t) (wNot wt) := ⟨fun hs sr xl bl h => ht.sim hs sr xl (fun _ _ _ _ _ s hs' k => bl _ _ _ _ _ s hs' k) h⟩
instance [ha : SimE K E ta wa] [hb : SimE K E tb wb] : SimE K E (tAndV ta tb) (wAndV wa wb) := ⟨fun {F α H σ Γ S Q q vx} hs sr xl ql h => ha.sim hs sr xl (fun _ _ _ v r _ s hs' rr k => by
  split at k
  · cases boolV rr
    exact ⟨_, rfl, k.ite (fun a => hb.sim hs' (sr.step s) (xl.step s) (ql.step s) a) fun a => ql _ _ _ _ _ _ s hs' (.fz (.bl _)) a⟩
  · exact k.elim) h⟩
instance [ha : SimE K E ta wa] [hb : SimE K E tb wb] : SimE K E (tOrV ta tb) (wOrV wa wb) := ⟨fun {F α H σ Γ S Q q vx} hs sr xl ql h => ha.sim hs sr xl (fun _ _ _ v r _ s hs' rr k => by
  split at k
  · cases boolV rr
    exact ⟨_, rfl, k.ite (fun a => ql _ _ _ _ _ _ s hs' (.fz (.bl _)) a) fun a => hb.sim hs' (sr.step s) (xl.step s) (ql.step s) a⟩
  · exact k.elim) h⟩
instance [ha : SimE K E ta wa] : SimE K E (tNotV ta) (wNotV wa) := ⟨fun {F α H σ Γ S Q q vx} hs sr xl ql h => ha.sim hs sr xl (fun _ _ _ v r _ s hs' rr k => by
  split at k
  · cases boolV rr
    exact ⟨_, rfl, ql _ _ _ _ _ _ s hs' (.fz (.bl _)) k⟩
  · exact k.elim) h⟩
instance {t : TT} {wt : VTT} [ht : SimT K E t wt] [ha : SimE K E ta wa] [hb : SimE K E tb wb] : SimE K E (tIf t ta tb) (wIf wt wa wb) :=
  ⟨fun hs sr xl ql h => ht.sim hs sr xl (fun _ _ _ _ _ s hs' k => k.ite (fun a => ha.sim hs' (sr.step s) (xl.step s) (ql.step s) a) fun a => hb.sim hs' (sr.step s) (xl.step s) (ql.step s) a) h⟩
instance [ha : SimE K E ta wa] : SimE K E (tIsN ta) (wIsN wa) := ⟨fun {F α H σ Γ S Q q vx} hs sr xl ql h => ha.sim hs sr xl (fun _ _ _ v r _ s hs' rr k => by
  rw [← isNon_ok rr] at k
  exact ql _ _ _ _ _ _ s hs' (.fz (.bl _)) k) h⟩
instance [ha : SimE K E ta wa] : SimE K E (tNotN ta) (wNotN wa) := ⟨fun {F α H σ Γ S Q q vx} hs sr xl ql h => ha.sim hs sr xl (fun _ _ _ v r _ s hs' rr k => by
  rw [← isNon_ok rr] at k
  exact ql _ _ _ _ _ _ s hs' (.fz (.bl _)) k) h⟩
instance {r : R2} {rv : VR2} [ha : SimE K E ta wa] [hb : SimE K E tb wb] [l : LOp K r rv] : SimE K E (tOp r ta tb) (wOp rv wa wb) :=
  ⟨fun hs sr xl ql h => ha.sim hs sr xl (fun _ _ _ _ _ _ s hs1 r1 k => hb.sim hs1 (sr.step s) (xl.step s) (fun _ _ _ _ _ _ s2 hs2 r2 k2 => l.lift hs2 (r1.step s2) r2 (ql.step (s.trans s2)) k2) k) h⟩
instance {r : V → Hp → VK → Prop} {rv : T → List O → VQ → Prop} [ha : SimE K E ta wa] [l : LUn K r rv] : SimE K E (tUn r ta) (wUn rv wa) :=
  ⟨fun hs sr xl ql h => ha.sim hs sr xl (fun _ _ _ _ _ _ s hs1 r1 k => l.lift hs1 r1 (ql.step s) k) h⟩
instance : SimA K E tNil wNil := ⟨fun hs _ _ al h => al _ _ _ _ _ _ .refl hs .nil h⟩
instance {t : TA} {wt : VTA} [ha : SimE K E ta wa] [ht : SimA K E t wt] : SimA K E (tCons ta t) (wCons wa wt) :=
  ⟨fun hs sr xl al h => ha.sim hs sr xl (fun _ _ _ _ _ _ s hs1 r1 k => ht.sim hs1 (sr.step s) (xl.step s) (fun _ _ _ _ _ _ s2 hs2 r2 k2 => al _ _ _ _ _ _ (s.trans s2) hs2 (.cons (r1.step s2) r2) k2) k) h⟩
instance {t : TA} {wt : VTA} {r : List V → Hp → VK → Prop} {rv : VRs} [ht : SimA K E t wt] [l : LCall K r rv] : SimE K E (tCB r t) (wCB rv wt) :=
  ⟨fun hs sr xl ql h => ht.sim hs sr xl (fun _ _ _ _ _ _ s hs1 r1 k => l.lift hs1 r1 (ql.step s) k) h⟩
end

/-! a call: the callee sees the objects that its arguments reach, numbered anew -/
mutual
def renT (f : Nat → Nat) : T → T
  | .fz d => .fz d
  | .rf j => .rf (f j)
  | .tp ts => .tp (renTs f ts)
  | .scr ns => .scr ns
def renTs (f : Nat → Nat) : List T → List T
  | [] => []
  | t :: ts => renT f t :: renTs f ts
end
mutual
def rfsT : T → List Nat
  | .fz _ => []
  | .rf j => [j]
  | .tp ts => rfsTs ts
  | .scr _ => []
def rfsTs : List T → List Nat
  | [] => []
  | t :: ts => rfsT t ++ rfsTs ts
end
def renO (f : Nat → Nat) : O → O
  | .lst ts => .lst (renTs f ts)
  | .dk kvs => .dk (kvs.map fun p => (p.1, renT f p.2))
  | .ins C fs => .ins C (fs.map fun p => (p.1, renT f p.2))
  | .gone => .gone
def rfsO : O → List Nat
  | .lst ts => rfsTs ts
  | .dk kvs => rfsTs (kvs.map (·.2))
  | .ins _ fs => rfsTs (fs.map (·.2))
  | .gone => []
theorem renTs_map (f : Nat → Nat) : ∀ ts : List T, renTs f ts = ts.map (renT f)
  | [] => rfl
  | _ :: ts => congrArg _ (renTs_map f ts)
theorem renTs_fz (f : Nat → Nat) : ∀ ds : List PyData, renTs f (ds.map T.fz) = ds.map T.fz
  | [] => rfl
  | _ :: ds => congrArg _ (renTs_fz f ds)
theorem rfsTs_fz : ∀ ds : List PyData, rfsTs (ds.map T.fz) = []
  | [] => rfl
  | _ :: ds => rfsTs_fz ds
theorem renTs_append (f : Nat → Nat) (ts us : List T) : renTs f (ts ++ us) = renTs f ts ++ renTs f us := by rw [renTs_map, renTs_map, renTs_map, List.map_append]
theorem rfsTs_append : ∀ ts us : List T, rfsTs (ts ++ us) = rfsTs ts ++ rfsTs us
  | [], _ => rfl
  | t :: ts, us => by
    show rfsT t ++ rfsTs (ts ++ us) = rfsT t ++ rfsTs ts ++ rfsTs us
    rw [rfsTs_append ts us, List.append_assoc]
section
variable {F H : Hp} {α β : List Addr} {f : Nat → Nat} {js : List Nat}
mutual
theorem RepV.ren (h : ∀ (j : Nat) (a : Addr), j ∈ js → α[j]? = some a → β[f j]? = some a) : ∀ {v : V} {t : T}, RepV K F α v t → (∀ j ∈ rfsT t, j ∈ js) → RepV K F β v (renT f t)
  | _, _, .fz d, _ => .fz d
  | _, _, .rf e, hj => .rf (h _ _ (hj _ List.mem_cons_self) e)
  | _, _, .tp e r, hj => .tp e (RepVs.ren h r hj)
  | _, _, .scr e, _ => .scr e
theorem RepVs.ren (h : ∀ (j : Nat) (a : Addr), j ∈ js → α[j]? = some a → β[f j]? = some a) : ∀ {vs : List V} {ts : List T}, RepVs K F α vs ts → (∀ j ∈ rfsTs ts, j ∈ js) → RepVs K F β vs (renTs f ts)
  | _, _, .nil, _ => .nil
  | _, _, .cons x r, hj => .cons (RepV.ren h x fun j m => hj j (List.mem_append_left _ m)) (RepVs.ren h r fun j m => hj j (List.mem_append_right _ m))
end
theorem RepO.ren {a : Addr} {o : O} (h : ∀ (j : Nat) (a : Addr), j ∈ js → α[j]? = some a → β[f j]? = some a) (r : RepO K F α H a o) (hj : ∀ j ∈ rfsO o, j ∈ js) : RepO K F β H a (renO f o) := by
  cases o with
  | lst ts =>
    obtain ⟨vs, h1, h2⟩ := r
    exact ⟨vs, h1, h2.ren h hj⟩
  | dk kvs =>
    obtain ⟨ws, h1, h2, h3⟩ := r
    refine ⟨ws, h1, by rw [h2, List.map_map]; rfl, ?_⟩
    have := h3.ren h hj
    rw [renTs_map] at this
    rw [List.map_map] at this ⊢
    exact this
  | ins C fs =>
    obtain ⟨dx, ws, h1, h2, h3⟩ := r
    refine ⟨dx, ws, h1, by rw [h2, List.map_map]; rfl, ?_⟩
    have := h3.ren h hj
    rw [renTs_map] at this
    rw [List.map_map] at this ⊢
    exact this
  | gone => exact r
end
def inB (j : Nat) : List Nat → Bool
  | [] => false
  | k :: ks => (j == k) || inB j ks
def idxB (j : Nat) : List Nat → Nat
  | [] => 0
  | k :: ks => if j == k then 0 else idxB j ks + 1
/-- numbers added that are not there yet -/
def addN (js : List Nat) : List Nat → List Nat
  | [] => js
  | k :: ks => if inB k js then addN js ks else addN (js ++ [k]) ks
def stepN (S : List O) (js : List Nat) : List Nat := js.foldl (fun acc j => addN acc (match S[j]? with | some o => rfsO o | none => [])) js
/-- the objects that are reached: themselves and, twice, what stands in them -/
def jsOf (S : List O) (ts : List T) : List Nat := match addN [] (rfsTs ts) with
  | [] => []
  | js => stepN S (stepN S js)
def nodB : List Nat → Prop
  | [] => True
  | k :: ks => inB k ks = false ∧ nodB ks
def subL (js : List Nat) : List Nat → Prop
  | [] => True
  | k :: ks => inB k js = true ∧ subL js ks
def okO (S : List O) (js : List Nat) : List Nat → Prop
  | [] => True
  | k :: ks => (match S[k]? with | some o => subL js (rfsO o) | none => False) ∧ okO S js ks
def okJs (S : List O) (ts : List T) (js : List Nat) : Prop := nodB js ∧ subL js (rfsTs ts) ∧ okO S js js
def outN (js : List Nat) (n : Nat) (k : Nat) : Nat := if k < js.length then js.getD k 0 else n + (k - js.length)
def putAll : List Nat → List O → List O → List O
  | [], _, S => S
  | j :: js, os, S => match os with
    | [] => S
    | o :: os => putAll js os (S.set j o)
/-- the caller's store behind the call -/
def backS (S : List O) (js : List Nat) (Sl : List O) : List O := putAll js ((Sl.take js.length).map (renO (outN js S.length))) S ++ (Sl.drop js.length).map (renO (outN js S.length))
def renEr (f : Nat → Nat) (er : Er) : Er := ⟨er.C, er.fs.map fun fs => fs.map fun p => (p.1, renT f p.2)⟩
/-- what a def promises, told of values -/
abbrev VSp := List T → List O → VX → VQ → Prop
def callJ (V : VSp) (vx : VX) (ts : List T) (S : List O) (q : VQ) (js : List Nat) : Prop :=
  okJs S ts js ∧ V (renTs (fun j => idxB j js) ts) (js.map fun j => renO (fun j => idxB j js) (S.getD j .gone)) (fun er Sl => vx (renEr (outN js S.length) er) (backS S js Sl)) (fun r Sl => q (renT (outN js S.length) r) (backS S js Sl))
def callV (V : VSp) (vx : VX) (ts : List T) (S : List O) (q : VQ) : Prop := callJ V vx ts S q (jsOf S ts)
def liftV (K : PySem.W.Frag) (V : VSp) : Sp := fun vs H Q E => ∃ F α S ts q vx, Hs K F α S H ∧ RepVs K F α vs ts ∧ XL K F α H E vx ∧ QL K F α H Q q ∧ V ts S vx q
theorem inB_iff {j : Nat} : ∀ {js : List Nat}, inB j js = true ↔ j ∈ js
  | [] => ⟨fun h => (by cases h), fun h => (by cases h)⟩
  | k :: ks => by
    show ((j == k) || inB j ks) = true ↔ _
    rw [Bool.or_eq_true, beq_iff_eq, inB_iff, List.mem_cons]
theorem nodB_ok : ∀ {js : List Nat}, nodB js → js.Nodup
  | [], _ => List.nodup_nil
  | k :: ks, h => by
    refine List.nodup_cons.mpr ⟨fun m => ?_, nodB_ok h.2⟩
    have h1 := h.1
    rw [inB_iff.mpr m] at h1
    cases h1
theorem subL_ok {js : List Nat} : ∀ {ks : List Nat}, subL js ks → ∀ j ∈ ks, j ∈ js
  | [], _, j, h => by cases h
  | k :: ks, h, j, hj => by
    rcases List.mem_cons.mp hj with e | hj
    · rw [e]
      exact inB_iff.mp h.1
    · exact subL_ok h.2 j hj
theorem okO_ok {S : List O} {js : List Nat} : ∀ {ks : List Nat}, okO S js ks → ∀ j ∈ ks, ∃ o, S[j]? = some o ∧ ∀ k ∈ rfsO o, k ∈ js
  | [], _, j, h => by cases h
  | k :: ks, h, j, hj => by
    rcases List.mem_cons.mp hj with e | hj
    · have h1 := h.1
      rw [e]
      split at h1
      · rename_i o eo
        exact ⟨o, eo, subL_ok h1⟩
      · exact h1.elim
    · exact okO_ok h.2 j hj
theorem idxB_get {j : Nat} : ∀ {js : List Nat}, j ∈ js → js[idxB j js]? = some j
  | [], h => by cases h
  | k :: ks, h => by
    by_cases e : j = k
    · subst e
      show (j :: ks)[if j == j then 0 else idxB j ks + 1]? = _
      rw [beq_self_eq_true, if_pos rfl]
      rfl
    · have h2 : j ∈ ks := (List.mem_cons.mp h).resolve_left e
      show (k :: ks)[if j == k then 0 else idxB j ks + 1]? = _
      rw [if_neg (fun z => e (beq_iff_eq.mp z)), List.getElem?_cons_succ]
      exact idxB_get h2
theorem putAll_len : ∀ (js : List Nat) (os : List O) (S : List O), (putAll js os S).length = S.length
  | [], _, S => rfl
  | j :: js, [], S => rfl
  | j :: js, o :: os, S => (putAll_len js os _).trans List.length_set
theorem putAll_out {j : Nat} : ∀ (js : List Nat) (os : List O) (S : List O), j ∉ js → (putAll js os S)[j]? = S[j]?
  | [], _, S, _ => rfl
  | k :: js, [], S, _ => rfl
  | k :: js, o :: os, S, h => by
    show (putAll js os (S.set k o))[j]? = _
    rw [putAll_out js os _ fun m => h (List.mem_cons_of_mem _ m), List.getElem?_set_ne fun e => h (by rw [e]; exact List.mem_cons_self)]
theorem putAll_in {j i : Nat} {o : O} : ∀ (js : List Nat) (os : List O) (S : List O), js.Nodup → js[i]? = some j → os[i]? = some o → j < S.length → (putAll js os S)[j]? = some o
  | [], _, S, _, h, _, _ => by cases h
  | k :: js, [], S, _, _, h, _ => by cases h
  | k :: js, u :: os, S, nd, h1, h2, hl => by
    have n2 := List.nodup_cons.mp nd
    cases i with
    | zero =>
      cases h1
      cases h2
      show (putAll js os (S.set j o))[j]? = _
      rw [putAll_out js os _ n2.1, List.getElem?_set_self hl]
    | succ i =>
      rw [List.getElem?_cons_succ] at h1 h2
      exact putAll_in js os _ n2.2 h1 h2 (by rw [List.length_set]; exact hl)
/-- the callee's view of the heap -/
theorem Hs.sub_ {F : Hp} {α : List Addr} {S : List O} {H : Hp} (hs : Hs K F α S H) {js : List Nat} (nd : js.Nodup) (hj : ∀ j ∈ js, ∃ o, S[j]? = some o ∧ ∀ k ∈ rfsO o, k ∈ js) :
    Hs K F (js.map fun j => α.getD j 0) (js.map fun j => renO (fun j => idxB j js) (S.getD j .gone)) H ∧ ∀ (j : Nat) (a : Addr), j ∈ js → α[j]? = some a → (js.map fun j => α.getD j 0)[idxB j js]? = some a := by
  have hin : ∀ (j : Nat) (a : Addr), j ∈ js → α[j]? = some a → (js.map fun j => α.getD j 0)[idxB j js]? = some a := fun j a hm ha => by
    rw [List.getElem?_map, idxB_get hm]
    show some (α.getD j 0) = _
    rw [List.getD_eq_getElem?_getD, ha]
    rfl
  have hal : ∀ j ∈ js, ∃ a, α[j]? = some a := fun j hm => by
    obtain ⟨o, h1, _⟩ := hj j hm
    exact ⟨_, List.getElem?_eq_getElem (by rw [hs.len]; exact (List.getElem?_eq_some_iff.mp h1).1)⟩
  refine ⟨⟨hs.sub, by rw [List.length_map, List.length_map], ?_, fun a ha => ?_, fun k a o h1 h2 => ?_⟩, hin⟩
  · refine List.Pairwise.map _ (fun i k hik => hik) ?_
    refine List.Pairwise.imp_of_mem (fun {i k} hi hk hne e => ?_) nd
    obtain ⟨a, ea⟩ := hal i hi
    obtain ⟨b, eb⟩ := hal k hk
    rw [List.getD_eq_getElem?_getD, List.getD_eq_getElem?_getD, ea, eb] at e
    have e : a = b := e
    subst e
    exact hne (nd_ix hs.nd ea eb)
  · obtain ⟨j, hm, e⟩ := List.mem_map.mp ha
    obtain ⟨b, eb⟩ := hal j hm
    rw [List.getD_eq_getElem?_getD, eb] at e
    have e : b = a := e
    subst e
    exact hs.out b (List.mem_of_getElem? eb)
  · rw [List.getElem?_map] at h1 h2
    cases ek : js[k]? with
    | none =>
      rw [ek] at h1
      cases h1
    | some j =>
      rw [ek] at h1 h2
      have hm := List.mem_of_getElem? ek
      obtain ⟨b, eb⟩ := hal j hm
      obtain ⟨ob, eo, hr⟩ := hj j hm
      have e1 : α.getD j 0 = a := Option.some.inj h1
      have e2 : renO (fun j => idxB j js) (S.getD j .gone) = o := Option.some.inj h2
      rw [List.getD_eq_getElem?_getD, eb] at e1
      rw [List.getD_eq_getElem?_getD, eo] at e2
      subst e2
      have e1 : b = a := e1
      subst e1
      exact (hs.at_ j b ob eb eo).ren hin hr
theorem Hs.back {F F' : Hp} {α α' : List Addr} {S Sl : List O} {H H' : Hp} (hs : Hs K F α S H) {js : List Nat} (nd : js.Nodup) (hj : ∀ j ∈ js, ∃ o, S[j]? = some o)
    (hs' : Hs K F' α' Sl H') (st : Step F (js.map fun j => α.getD j 0) H F' α' H') :
    ∃ β, Hs K F' (α ++ β) (backS S js Sl) H' ∧ Step F α H F' (α ++ β) H' ∧ ∀ {v : V} {t : T}, RepV K F' α' v t → RepV K F' (α ++ β) v (renT (outN js S.length) t) := by
  obtain ⟨β, eβ, hβ⟩ := st.a
  have hal : ∀ j ∈ js, ∃ a, α[j]? = some a := fun j hm => by
    obtain ⟨o, h1⟩ := hj j hm
    exact ⟨_, List.getElem?_eq_getElem (by rw [hs.len]; exact (List.getElem?_eq_some_iff.mp h1).1)⟩
  have hm0 : (js.map fun j => α.getD j 0).length = js.length := List.length_map ..
  have hout : ∀ (k : Nat) (a : Addr), k ∈ rfsT (.rf k) → α'[k]? = some a → (α ++ β)[outN js S.length k]? = some a := fun k a _ ha => by
    rw [eβ] at ha
    unfold outN
    by_cases hk : k < js.length
    · rw [if_pos hk]
      rw [List.getElem?_append_left (by rw [hm0]; exact hk), List.getElem?_map] at ha
      have ek : js[k]? = some (js.getD k 0) := by
        rw [List.getD_eq_getElem?_getD, List.getElem?_eq_getElem hk]
        rfl
      rw [ek] at ha
      obtain ⟨b, eb⟩ := hal _ (List.mem_of_getElem? ek)
      have e1 : α.getD (js.getD k 0) 0 = a := Option.some.inj ha
      rw [List.getD_eq_getElem?_getD (l := α), eb] at e1
      have e1 : b = a := e1
      subst e1
      rw [List.getElem?_append_left (List.getElem?_eq_some_iff.mp eb).1]
      exact eb
    · rw [if_neg hk]
      rw [List.getElem?_append_right (by omega), hm0] at ha
      rw [List.getElem?_append_right (by rw [hs.len]; omega), hs.len]
      rw [show S.length + (k - js.length) - S.length = k - js.length by omega]
      exact ha
  have hrep : ∀ {v : V} {t : T}, RepV K F' α' v t → RepV K F' (α ++ β) v (renT (outN js S.length) t) := fun {v t} r => r.ren (js := rfsT t) (fun j a _ e => hout j a List.mem_cons_self e) fun _ h => h
  have hrepO : ∀ {a : Addr} {o : O}, RepO K F' α' H' a o → RepO K F' (α ++ β) H' a (renO (outN js S.length) o) := fun {a o} r => r.ren (js := rfsO o) (fun j a _ e => hout j a List.mem_cons_self e) fun _ h => h
  have hlen : js.length ≤ Sl.length := by rw [← hs'.len, eβ, List.length_append, hm0]; omega
  have hlb : Sl.length - js.length = β.length := by rw [← hs'.len, eβ, List.length_append, hm0]; omega
  have hsub : ∀ a ∈ (js.map fun j => α.getD j 0), a ∈ α := fun a ha => by
    obtain ⟨j, hm, e⟩ := List.mem_map.mp ha
    obtain ⟨b, eb⟩ := hal j hm
    rw [List.getD_eq_getElem?_getD, eb] at e
    have e : b = a := e
    subst e
    exact List.mem_of_getElem? eb
  refine ⟨β, ⟨hs'.sub, ?_, ?_, fun a ha => ?_, fun j a o h1 h2 => ?_⟩, ⟨st.f, ⟨β, rfl, hβ⟩, fun b o h1 h2 => st.fix b o h1 fun h3 => h2 (hsub b h3), st.new, st.grow⟩, hrep⟩
  · unfold backS
    rw [List.length_append, List.length_append, putAll_len, List.length_map, List.length_drop, hlb, hs.len]
  · refine List.nodup_append.mpr ⟨hs.nd, ?_, fun a ha b hb e => ?_⟩
    · have := hs'.nd
      rw [eβ] at this
      exact (List.nodup_append.mp this).2.1
    · subst e
      exact hs.there ha (hβ a hb)
  · rcases List.mem_append.mp ha with h | h
    · cases e : F' a with
      | none => rfl
      | some o =>
        rcases st.new a (by rw [e]; exact fun z => by cases z) with h2 | h2
        · exact absurd (hs.out a h) h2
        · exact absurd h2 (hs.there h)
    · exact hs'.out a (by rw [eβ]; exact List.mem_append_right _ h)
  · unfold backS at h2
    by_cases hjl : j < S.length
    · rw [List.getElem?_append_left (by rw [hs.len]; exact hjl)] at h1
      rw [List.getElem?_append_left (by rw [putAll_len]; exact hjl)] at h2
      by_cases hm : j ∈ js
      · obtain ⟨i, hi⟩ := List.getElem?_of_mem hm
        have il := (List.getElem?_eq_some_iff.mp hi).1
        have ho : Sl[i]? = some (Sl[i]'(by omega)) := List.getElem?_eq_getElem (by omega)
        have ho2 : ((Sl.take js.length).map (renO (outN js S.length)))[i]? = some (renO (outN js S.length) (Sl[i]'(by omega))) := by
          rw [List.getElem?_map, List.getElem?_take_of_lt il, ho]
          rfl
        rw [putAll_in js _ S nd hi ho2 hjl] at h2
        cases h2
        refine hrepO (hs'.at_ i a _ ?_ ho)
        rw [eβ, List.getElem?_append_left (by rw [hm0]; exact il), List.getElem?_map, hi]
        show some (α.getD j 0) = _
        rw [List.getD_eq_getElem?_getD, h1]
        rfl
      · rw [putAll_out js _ S hm] at h2
        have r := hs.at_ j a o h1 h2
        have na : a ∉ (js.map fun j => α.getD j 0) := fun ha => by
          obtain ⟨k, hk, e⟩ := List.mem_map.mp ha
          obtain ⟨b, eb⟩ := hal k hk
          rw [List.getD_eq_getElem?_getD, eb] at e
          have e : b = a := e
          subst e
          exact hm (nd_ix hs.nd eb h1 ▸ hk)
        refine r.mono st.f ?_
        cases e : H a with
        | none => exact absurd e r.there
        | some u => exact st.fix a u e na
    · have hj2 : S.length ≤ j := by omega
      rw [List.getElem?_append_right (by rw [hs.len]; exact hj2), hs.len] at h1
      rw [List.getElem?_append_right (by rw [putAll_len]; exact hj2), putAll_len, List.getElem?_map, List.getElem?_drop] at h2
      cases eo : Sl[js.length + (j - S.length)]? with
      | none =>
        rw [eo] at h2
        cases h2
      | some ob =>
        rw [eo] at h2
        have h2 : some (renO (outN js S.length) ob) = some o := h2
        cases h2
        refine hrepO (hs'.at_ _ a ob ?_ eo)
        rw [eβ, List.getElem?_append_right (by rw [hm0]; omega), hm0, show js.length + (j - S.length) - js.length = j - S.length by omega]
        exact h1
theorem ErAt.ren {F : Hp} {α β : List Addr} {H : Hp} {er : Er} {cls : Value} {d : Option Addr} {f : Nat → Nat} (h : ErAt K F α H er cls d) (hr : ∀ {v : V} {t : T}, RepV K F α v t → RepV K F β v (renT f t)) : ErAt K F β H (renEr f er) cls d := by
  obtain ⟨C, fs⟩ := er
  obtain ⟨h1, h2⟩ := h
  refine ⟨h1, ?_⟩
  cases fs with
  | none =>
    cases d with
    | none => exact h2
    | some d => exact h2.elim
  | some fs =>
    cases d with
    | none => exact h2.elim
    | some d =>
      obtain ⟨ws, e1, e2, e3⟩ := h2
      refine ⟨ws, e1, by rw [e2, List.map_map]; rfl, ?_⟩
      have all : ∀ {vs : List V} {ts : List T}, RepVs K F α vs ts → RepVs K F β vs (ts.map (renT f)) := fun {vs ts} r => by
        induction vs generalizing ts with
        | nil => cases r; exact .nil
        | cons v vs ih =>
          cases r with
          | cons a b => exact .cons (hr a) (ih b)
      have := all e3
      rw [List.map_map] at this ⊢
      exact this
def wCall (V : VSp) (a : VTA) : VTE := fun vx Γ S q => a vx Γ S fun ts S1 => callV V vx ts S1 q
theorem liftV_of {W : VSp} {F : Hp} {α : List Addr} {H : Hp} {S : List O} {vs : List V} {ts : List T} {E : XK} {Q : VK} {q : VQ} {vx : VX} (hs : Hs K F α S H) (rr : RepVs K F α vs ts) (xl : XL K F α H E vx) (ql : QL K F α H Q q) (h : callV W vx ts S q) : liftV K W vs H Q E := by
  obtain ⟨⟨nd, h1, h2⟩, h3⟩ := h
  have nd := nodB_ok nd
  have h1 := subL_ok h1
  have h2 := okO_ok h2
  obtain ⟨hs2, hin⟩ := hs.sub_ nd h2
  refine ⟨F, _, _, _, _, _, hs2, rr.ren hin h1, fun F' α' H' S' er cls d st hs' ea k => ?_, fun F' α' H' v r S' st hs' rv k => ?_, h3⟩
  · obtain ⟨β, hb, sb, hr⟩ := hs.back nd (fun j hm => let ⟨o, e, _⟩ := h2 j hm; ⟨o, e⟩) hs' st
    exact xl _ _ _ _ _ cls d sb hb (ea.ren hr) k
  · obtain ⟨β, hb, sb, hr⟩ := hs.back nd (fun j hm => let ⟨o, e, _⟩ := h2 j hm; ⟨o, e⟩) hs' st
    exact ql _ _ _ v _ _ sb hb (hr rv) k
/-- a callee that lets no error out -/
def wCall0 (V : VSp) (a : VTA) : VTE := fun vx Γ S q => a vx Γ S fun ts S1 => callV V (fun _ _ => False) ts S1 q
instance {E : XK} {t : TA} {wt : VTA} {W : VSp} [ht : SimA K E t wt] : SimE K E (tCall (liftV K W) [] E0 t) (wCall0 W wt) :=
  ⟨fun {F α H σ Γ S Q q vx} hs sr xl ql h => ht.sim hs sr xl (fun _ _ _ v r _ s hs1 r1 k => by
    rw [List.append_nil]
    exact liftV_of hs1 r1 (fun _ _ _ _ _ _ _ _ _ _ z => z) (ql.step s) k) h⟩
instance {E : XK} {t : TA} {wt : VTA} {W : VSp} [ht : SimA K E t wt] : SimE K E (tCall (liftV K W) [] (fun _ _ _ => False) t) (wCall0 W wt) :=
  ⟨fun {F α H σ Γ S Q q vx} hs sr xl ql h => ht.sim hs sr xl (fun _ _ _ v r _ s hs1 r1 k => by
    rw [List.append_nil]
    exact liftV_of hs1 r1 (fun _ _ _ _ _ _ _ _ _ _ z => z) (ql.step s) k) h⟩
instance {E : XK} {t : TA} {wt : VTA} {W : VSp} [ht : SimA K E t wt] : SimE K E (tCall (liftV K W) [] E t) (wCall W wt) :=
  ⟨fun {F α H σ Γ S Q q vx} hs sr xl ql h => ht.sim hs sr xl (fun _ _ _ v r _ s hs1 r1 k => by
    rw [List.append_nil]
    exact liftV_of hs1 r1 (xl.step s) (ql.step s) k) h⟩

/-! a def's end: what is new is let go, a new list that is returned stays as it is from then on -/
def optAll : List (Option PyData) → Option (List PyData)
  | [] => some []
  | some d :: os => match optAll os with
    | some ds => some (d :: ds)
    | none => none
  | none :: _ => none
mutual
def frzT (S : List O) (m : Nat) : Nat → T → Option PyData
  | _, .fz d => some d
  | 0, .rf _ => none
  | n + 1, .rf k => if m ≤ k then (match S[k]? with
    | some (.lst ts) => (frzTs S m n ts).map PyData.list
    | _ => none) else none
  | n, .tp ts => (frzTs S m n ts).map PyData.tuple
  | _, .scr _ => none
def frzTs (S : List O) (m : Nat) : Nat → List T → Option (List PyData)
  | _, [] => some []
  | n, t :: ts => match frzT S m n t with
    | some d => match frzTs S m n ts with
      | some ds => some (d :: ds)
      | none => none
    | none => none
end
theorem frzTs_fz {S : List O} {m n : Nat} : ∀ ds : List PyData, frzTs S m n (ds.map T.fz) = some ds
  | [] => by
    rw [List.map_nil, frzTs]
  | d :: ds => by
    rw [List.map_cons, frzTs, frzT]
    dsimp only
    rw [frzTs_fz ds]
/-- nothing that was there before leads to what is new -/
def cloL (m : Nat) : List O → Prop
  | [] => True
  | o :: os => (∀ j ∈ rfsO o, j < m) ∧ cloL m os
def clo (m : Nat) (S : List O) : Prop := cloL m (S.take m)
theorem cloL_mem {m : Nat} : ∀ {os : List O}, cloL m os → ∀ o ∈ os, ∀ j ∈ rfsO o, j < m
  | [], _, o, h => by cases h
  | u :: os, hc, o, h => by
    rcases List.mem_cons.mp h with e | h
    · rw [e]
      exact hc.1
    · exact cloL_mem hc.2 o h
theorem clo_mem {m : Nat} {S : List O} (h : clo m S) : ∀ o ∈ S.take m, ∀ j ∈ rfsO o, j < m := cloL_mem h
theorem Hs.dropN {F : Hp} {α β : List Addr} {S : List O} {H : Hp} {m : Nat} (hs : Hs K F (α ++ β) S H) (hm : α.length = m) (hc : clo m S) :
    ∃ F', Hs K F' α (S.take m) H ∧ Same F F' ∧ (∀ b, F' b ≠ none → F b ≠ none ∨ b ∈ β) ∧ (∀ (k : Nat) (a : Addr), m ≤ k → (α ++ β)[k]? = some a → F' a = H a) ∧ (∀ (v : V) (t : T), RepV K F (α ++ β) v t → (∀ j ∈ rfsT t, j < m) → RepV K F' α v t) := by
  classical
  have hsame : Same F (fun b => if b ∈ β then H b else F b) := fun b o e => by
    have : b ∉ β := fun hb => by
      rw [hs.out b (List.mem_append_right _ hb)] at e
      cases e
    exact (if_neg this).trans e
  have hcut : ∀ (j : Nat) (a : Addr), j ∈ List.range m → (α ++ β)[j]? = some a → α[j]? = some a := fun j a hj e => by
    rw [List.getElem?_append_left (by rw [hm]; exact List.mem_range.mp hj)] at e
    exact e
  have hren : ∀ {v : V} {t : T}, RepV K F (α ++ β) v t → (∀ j ∈ rfsT t, j < m) → RepV K F α v (renT id t) := fun {v t} r h => r.ren (js := List.range m) hcut fun j hj => List.mem_range.mpr (h j hj)
  have renid : ∀ t : T, renT id t = t := fun t => by
    have : ∀ n, (∀ t : T, sizeOf t ≤ n → renT id t = t) ∧ ∀ ts : List T, sizeOf ts ≤ n → renTs id ts = ts := by
      intro n
      induction n with
      | zero =>
        refine ⟨fun t h => ?_, fun ts h => ?_⟩
        · cases t <;> simp at h
        · cases ts <;> simp at h
      | succ n ih =>
        refine ⟨fun t h => ?_, fun ts h => ?_⟩
        · cases t with
          | fz d => rfl
          | rf j => rfl
          | scr ns => rfl
          | tp us =>
            have : sizeOf us ≤ n := by simp at h; omega
            show T.tp (renTs id us) = _
            rw [ih.2 us this]
        · cases ts with
          | nil => rfl
          | cons t us =>
            have h1 : sizeOf t ≤ n := by simp at h; omega
            have h2 : sizeOf us ≤ n := by simp at h; omega
            show renT id t :: renTs id us = _
            rw [ih.1 t h1, ih.2 us h2]
    exact (this (sizeOf t)).1 t (Nat.le_refl _)
  have renOid : ∀ o : O, renO id o = o := fun o => by
    cases o with
    | lst ts =>
      show O.lst (renTs id ts) = _
      rw [renTs_map, show renT id = id from funext renid, List.map_id]
    | dk kvs =>
      show O.dk (kvs.map fun p => (p.1, renT id p.2)) = _
      rw [show (fun p : Key × T => (p.1, renT id p.2)) = id from funext fun p => by rw [renid]; rfl, List.map_id]
    | ins C fs =>
      show O.ins C (fs.map fun p => (p.1, renT id p.2)) = _
      rw [show (fun p : Str × T => (p.1, renT id p.2)) = id from funext fun p => by rw [renid]; rfl, List.map_id]
    | gone => rfl
  have hml : m ≤ S.length := by
    have := hs.len
    rw [List.length_append] at this
    omega
  refine ⟨fun b => if b ∈ β then H b else F b, ⟨fun b o e => ?_, by rw [List.length_take]; omega, (List.nodup_append.mp hs.nd).1, fun a ha => ?_, fun j a o h1 h2 => ?_⟩, hsame, fun b h => ?_, fun k a hk e => ?_, fun v t r h => ?_⟩
  · by_cases hb : b ∈ β
    · exact (if_pos hb).symm.trans e
    · exact hs.sub b o ((if_neg hb).symm.trans e)
  · have : a ∉ β := fun hb => (List.nodup_append.mp hs.nd).2.2 a ha a hb rfl
    exact (if_neg this).trans (hs.out a (List.mem_append_left _ ha))
  · have hj : j < m := by
      rw [← hm]
      exact (List.getElem?_eq_some_iff.mp h1).1
    rw [List.getElem?_take_of_lt hj] at h2
    have r := hs.at_ j a o (by rw [List.getElem?_append_left (by omega)]; exact h1) h2
    have r2 : RepO K F α H a (renO id o) := r.ren (js := List.range m) hcut fun k hk => List.mem_range.mpr (clo_mem hc o (List.mem_of_getElem? (by rw [List.getElem?_take_of_lt hj]; exact h2)) k hk)
    rw [renOid] at r2
    have r3 := r2.mono (β := []) (H' := H) hsame rfl
    rw [List.append_nil] at r3
    exact r3
  · by_cases hb : b ∈ β
    · exact .inr hb
    · have h : (if b ∈ β then H b else F b) ≠ none := h
      rw [if_neg hb] at h
      exact .inl h
  · rw [List.getElem?_append_right (by omega)] at e
    exact if_pos (List.mem_of_getElem? e)
  · have r2 := hren r h
    rw [renid] at r2
    have r3 := r2.mono (β := []) hsame
    rw [List.append_nil] at r3
    exact r3
mutual
theorem frzT_ok {F F' : Hp} {α : List Addr} {S : List O} {H : Hp} {m : Nat} (hs : Hs K F α S H) (sf : Same F F') (hk : ∀ (k : Nat) (a : Addr), m ≤ k → α[k]? = some a → F' a = H a) : ∀ (n : Nat) {v : V} {t : T} {d : PyData}, RepV K F α v t → frzT S m n t = some d → Dk K F' v d
  | n, _, .fz d, e, .fz h, h2 => by
    rw [frzT] at h2
    cases h2
    exact h.same sf
  | 0, _, .rf k, e, r, h2 => by
    rw [frzT] at h2
    cases h2
  | n + 1, _, .rf k, e, .rf (a := a) ha, h2 => by
    rw [frzT] at h2
    split at h2
    · rename_i hmk
      split at h2
      · rename_i ts hS
        cases e2 : frzTs S m n ts with
        | none =>
          rw [e2] at h2
          cases h2
        | some ds =>
          rw [e2] at h2
          cases h2
          obtain ⟨vs, h3, h4⟩ := hs.lst ha hS
          exact .lst (by rw [hk k a hmk ha]; exact h3) (frzTs_ok hs sf hk n h4 e2)
      · cases h2
    · cases h2
  | n, _, .tp ts, e, .tp h r, h2 => by
    rw [frzT] at h2
    cases e2 : frzTs S m n ts with
    | none =>
      rw [e2] at h2
      cases h2
    | some ds =>
      rw [e2] at h2
      cases h2
      exact .tup (sf _ _ h) (frzTs_ok hs sf hk n r e2)
  | n, _, .scr ns, e, .scr h, h2 => by
    rw [frzT] at h2
    cases h2
theorem frzTs_ok {F F' : Hp} {α : List Addr} {S : List O} {H : Hp} {m : Nat} (hs : Hs K F α S H) (sf : Same F F') (hk : ∀ (k : Nat) (a : Addr), m ≤ k → α[k]? = some a → F' a = H a) : ∀ (n : Nat) {vs : List V} {ts : List T} {ds : List PyData}, RepVs K F α vs ts → frzTs S m n ts = some ds → DkAll K F' vs ds
  | n, _, [], ds, .nil, h2 => by
    rw [frzTs] at h2
    cases h2
    exact .nil
  | n, _, t :: ts, ds, .cons x r, h2 => by
    rw [frzTs] at h2
    cases e1 : frzT S m n t with
    | none =>
      rw [e1] at h2
      cases h2
    | some d =>
      rw [e1] at h2
      cases e2 : frzTs S m n ts with
      | none =>
        rw [e2] at h2
        cases h2
      | some ds' =>
        rw [e2] at h2
        cases h2
        exact .cons (frzT_ok hs sf hk n x e1) (frzTs_ok hs sf hk n r e2)
end
/-- what a def returns, where it is data -/
def retD (m : Nat) (q : VQ) : VQ := fun r S => match frzT S m 3 r with
  | some d => clo m S ∧ q (.fz d) (S.take m)
  | none => q r S
/-- all that is new is kept -/
def retK (q : VQ) : VQ := q
def frzFs (S : List O) (m : Nat) : List (Str × T) → Option (List (Str × T))
  | [] => some []
  | p :: fs => match frzT S m 3 p.2 with
    | some d => match frzFs S m fs with
      | some gs => some ((p.1, .fz d) :: gs)
      | none => none
    | none => none
def retX (m : Nat) (vx : VX) : VX := fun er S => match er.fs with
  | none => clo m S ∧ vx er (S.take m)
  | some fs => match frzFs S m fs with
    | some gs => clo m S ∧ vx ⟨er.C, some gs⟩ (S.take m)
    | none => vx er S
theorem frzFs_ok {F F' : Hp} {α β : List Addr} {S : List O} {H : Hp} {m : Nat} (hs : Hs K F α S H) (sf : Same F F') (hk : ∀ (k : Nat) (a : Addr), m ≤ k → α[k]? = some a → F' a = H a) : ∀ (fs gs : List (Str × T)) (ws : List (Str × V)), ws.map (·.1) = fs.map (·.1) → RepVs K F α (ws.map (·.2)) (fs.map (·.2)) → frzFs S m fs = some gs → ws.map (·.1) = gs.map (·.1) ∧ RepVs K F' β (ws.map (·.2)) (gs.map (·.2))
  | [], gs, ws, h1, h2, h3 => by
    rw [frzFs] at h3
    cases h3
    cases ws with
    | nil => exact ⟨rfl, .nil⟩
    | cons w ws => cases h1
  | p :: fs, gs, ws, h1, h2, h3 => by
    rw [frzFs] at h3
    cases ws with
    | nil => cases h1
    | cons w ws =>
      injection h1 with h4 h5
      cases h2 with
      | cons a b =>
        cases e1 : frzT S m 3 p.2 with
        | none =>
          rw [e1] at h3
          cases h3
        | some d =>
          rw [e1] at h3
          cases e2 : frzFs S m fs with
          | none =>
            rw [e2] at h3
            cases h3
          | some gs' =>
            rw [e2] at h3
            cases h3
            obtain ⟨k1, k2⟩ := frzFs_ok (β := β) hs sf hk fs gs' ws h5 b e2
            exact ⟨by rw [List.map_cons, List.map_cons, k1]; exact congrArg (· :: gs'.map (·.1)) h4, .cons (.fz (frzT_ok hs sf hk 3 a e1)) k2⟩
/-- a promise tells how many arguments there are -/
class VLen (V : VSp) (n : outParam Nat) : Prop where
  len : ∀ {ts : List T} {S : List O} {vx : VX} {q : VQ}, V ts S vx q → ts.length = n
def startG : List Str → List T → Gm
  | [], ts => ts.map some
  | _ :: N, [] => none :: startG N []
  | _ :: N, t :: ts => some t :: startG N ts
theorem startG_eq : ∀ (N : List Str) (ts : List T), startG N ts = ts.map some ++ List.replicate (N.length - ts.length) none
  | [], ts => by
    show ts.map some = _
    rw [List.length_nil, Nat.zero_sub]
    exact (List.append_nil _).symm
  | n :: N, [] => by
    show none :: startG N [] = _
    rw [startG_eq N [], List.map_nil, List.nil_append, List.nil_append, List.length_cons, List.length_nil, Nat.sub_zero, Nat.sub_zero, List.replicate_succ]
  | n :: N, t :: ts => by
    show some t :: startG N ts = _
    rw [startG_eq N ts, List.map_cons, List.cons_append, List.length_cons, List.length_cons, Nat.add_sub_add_right]
theorem SRep.start {F : Hp} {α : List Addr} {N : List Str} {vs : List V} {ts : List T} (r : RepVs K F α vs ts) : SRep K F α (L2.start N vs) (startG N ts) := by
  have hl := r.len
  rw [startG_eq]
  refine ⟨by unfold L2.start; rw [List.length_append, List.length_append, List.length_map, List.length_map, List.length_replicate, List.length_replicate, hl], fun i t e => ?_⟩
  unfold L2.start
  by_cases hi : i < ts.length
  · rw [List.getElem?_append_left (by rw [List.length_map]; exact hi), List.getElem?_map] at e
    rw [List.getElem?_append_left (by rw [List.length_map, hl]; exact hi), List.getElem?_map]
    cases e2 : ts[i]? with
    | none =>
      rw [e2] at e
      cases e
    | some u =>
      rw [e2] at e
      cases e
      obtain ⟨v, h1, h2⟩ := r.at_ e2
      exact ⟨v, by rw [h1]; rfl, h2⟩
  · rw [List.getElem?_append_right (by rw [List.length_map]; omega), List.getElem?_replicate] at e
    split at e <;> cases e
theorem Step.cut {F F' F'' H H' : Hp} {α β : List Addr} (st : Step F α H F' (α ++ β) H') (sf : Same F' F'') (hn : ∀ b, F'' b ≠ none → F' b ≠ none ∨ b ∈ β) : Step F α H F'' α H' := by
  obtain ⟨γ, e, hγ⟩ := st.a
  have eγ : γ = β := (List.append_cancel_left e).symm
  subst eγ
  refine ⟨st.f.trans sf, ⟨[], (List.append_nil _).symm, fun b h => (by cases h)⟩, st.fix, fun b h => ?_, st.grow⟩
  rcases hn b h with h | h
  · exact st.new b h
  · exact .inr (hγ b h)
/-- THE RULE: a body, told of values -/
theorem vbody {E : XK} {t : TS} {w : VTS} [hw : SimS K E t w] {N : List Str} {F : Hp} {α : List Addr} {S : List O} {H : Hp} {vs : List V} {ts : List T} {Q : VK} {q : VQ} {vx : VX} (hs : Hs K F α S H) (rr : RepVs K F α vs ts) (xl : XL K F α H E vx) (ql : QL K F α H Q q)
    (h : w (retX S.length vx) { nx := fun _ S' => retD S.length q (.fz .none) S', rt := retD S.length q } (startG N ts) S) : t { nx := fun _ H' => Q .non H', rt := Q } (L2.start N vs) H := by
  have ret : ∀ F' α' H' v r S', Step F α H F' α' H' → Hs K F' α' S' H' → RepV K F' α' v r → retD S.length q r S' → Q v H' := fun F' α' H' v r S' st hs' rv k => by
    unfold retD at k
    split at k
    · rename_i d ed
      obtain ⟨β, e, hβ⟩ := st.a
      subst e
      obtain ⟨F2, h1, h2, h3, h4, h5⟩ := hs'.dropN hs.len k.1
      exact ql _ _ _ _ _ _ (st.cut h2 h3) h1 (.fz (frzT_ok hs' h2 h4 3 rv ed)) k.2
    · exact ql _ _ _ _ _ _ st hs' rv k
  refine hw.sim (d := { nx := fun _ S' => retD S.length q (.fz .none) S', rt := retD S.length q }) hs (SRep.start rr) (fun F' α' H' S' er cls d st hs' ea k => ?_) ⟨fun F' α' H' σ' Γ' S' st hs' _ k => ret F' α' H' .non _ S' st hs' (.fz .non) k, ret, fun _ _ _ _ _ _ _ _ _ k => k.elim, fun _ _ _ _ _ _ _ _ _ k => k.elim⟩ h
  obtain ⟨C, fs⟩ := er
  obtain ⟨e1, e2⟩ := ea
  obtain ⟨β, e, hβ⟩ := st.a
  subst e
  cases fs with
  | none =>
    obtain ⟨F2, h1, h2, h3, h4, h5⟩ := hs'.dropN hs.len k.1
    cases d with
    | none => exact xl _ _ _ _ _ _ _ (st.cut h2 h3) h1 ⟨e1, trivial⟩ k.2
    | some d => exact e2.elim
  | some fs =>
    cases d with
    | none => exact e2.elim
    | some d =>
      obtain ⟨ws, g1, g2, g3⟩ := e2
      have k : (match frzFs S' S.length fs with | some gs => clo S.length S' ∧ vx ⟨C, some gs⟩ (S'.take S.length) | none => vx ⟨C, some fs⟩ S') := k
      cases ef : frzFs S' S.length fs with
      | some gs =>
        rw [ef] at k
        obtain ⟨F2, h1, h2, h3, h4, h5⟩ := hs'.dropN hs.len k.1
        obtain ⟨k1, k2⟩ := frzFs_ok (β := α) hs' h2 h4 fs gs ws g2 g3 ef
        exact xl _ _ _ _ ⟨C, some gs⟩ _ (some d) (st.cut h2 h3) h1 ⟨e1, ws, g1, k1, k2⟩ k.2
      | none =>
        rw [ef] at k
        exact xl _ _ _ _ _ _ _ st hs' ⟨e1, ws, g1, g2, g3⟩ k
theorem vbodyK {E : XK} {t : TS} {w : VTS} [hw : SimS K E t w] {N : List Str} {F : Hp} {α : List Addr} {S : List O} {H : Hp} {vs : List V} {ts : List T} {Q : VK} {q : VQ} {vx : VX} (hs : Hs K F α S H) (rr : RepVs K F α vs ts) (xl : XL K F α H E vx) (ql : QL K F α H Q q)
    (h : w vx { nx := fun _ S' => q (.fz .none) S', rt := q } (startG N ts) S) : t { nx := fun _ H' => Q .non H', rt := Q } (L2.start N vs) H :=
  hw.sim (d := { nx := fun _ S' => q (.fz .none) S', rt := q }) hs (SRep.start rr) xl ⟨fun F' α' H' σ' Γ' S' st hs' _ k => ql _ _ _ _ _ _ st hs' (.fz .non) k, ql, fun _ _ _ _ _ _ _ _ _ k => k.elim, fun _ _ _ _ _ _ _ _ _ k => k.elim⟩ h

/-! loops -/
/-- what a loop walks: its items, what the store must keep meanwhile -/
structure Walks (K : PySem.W.Frag) (J : It) (items : List T) (okS : List O → Prop) (F : Hp) (α : List Addr) (H : Hp) : Prop where
  go : ∀ {F' α' H' S' i x}, Step F α H F' α' H' → Hs K F' α' S' H' → okS S' → items[i]? = some x →
    J.go i H' ∧ ∀ v H2, J.yld i H' v H2 → ∃ F2, Hs K F2 α' S' H2 ∧ Step F' α' H' F2 α' H2 ∧ RepV K F2 α' v x
  stop : ∀ {F' α' H' S' i}, Step F α H F' α' H' → Hs K F' α' S' H' → okS S' → items.length ≤ i → J.stop i H'
theorem Walks.step {J : It} {items : List T} {okS : List O → Prop} {F F' H H' : Hp} {α α' : List Addr} (h : Walks K J items okS F α H) (s : Step F α H F' α' H') : Walks K J items okS F' α' H' :=
  ⟨fun s2 => h.go (s.trans s2), fun s2 => h.stop (s.trans s2)⟩
abbrev VIt := VX → Gm → List O → (List T → (List O → Prop) → List O → Prop) → Prop
class SimI (K : PySem.W.Frag) (E : XK) (t : TI) (w : outParam VIt) : Prop where
  sim : ∀ {F α H σ Γ S} {R : It → Hp → Prop} {q : List T → (List O → Prop) → List O → Prop} {vx : VX}, Hs K F α S H → SRep K F α σ Γ → XL K F α H E vx →
    (∀ F' α' H' J items okS S', Step F α H F' α' H' → Hs K F' α' S' H' → Walks K J items okS F' α' H' → q items okS S' → R J H') → w vx Γ S q → t σ H R
/-- the turns of a for, one after another -/
def forV (d : VEn) (g : T → Gm → List O → (Gm → List O → Prop) → Prop) (b : VEn → Gm → List O → Prop) (okS : List O → Prop) : List T → Gm → List O → Prop
  | [], Γ, S => okS S ∧ d.nx Γ S
  | x :: xs, Γ, S => okS S ∧ g x Γ S fun Γ1 S1 => b { nx := fun Γ2 S2 => forV d g b okS xs Γ2 S2, ct := fun Γ2 S2 => forV d g b okS xs Γ2 S2, bk := d.nx, rt := d.rt } Γ1 S1
def wFor (wi : VIt) (wg : VTG) (wb : VTS) : VTS := fun vx d Γ S => wi vx Γ S fun items okS S1 => forV d (wg vx) (wb vx) okS items Γ S1
def wWhile (c : VTT) (b : VTS) : VTS := fun vx d Γ S => ∃ W : Nat → Gm → List O → Prop, (∃ m, W m Γ S) ∧ ∀ m Γ S, W m Γ S →
  c vx Γ S fun k S1 => ifV k (b vx { nx := fun Γ' S' => ∃ m', m' < m ∧ W m' Γ' S', ct := fun Γ' S' => ∃ m', m' < m ∧ W m' Γ' S', bk := d.nx, rt := d.rt } Γ S1) (d.nx Γ S1)
section
variable {E : XK}
instance {wi : TI} {g : TG} {tb : TS} {vi : VIt} {vg : VTG} {vb : VTS} [hi : SimI K E wi vi] [hg : SimG K E g vg] [hb : SimS K E tb vb] : SimS K E (tFor wi g tb) (wFor vi vg vb) :=
  ⟨fun {F α H σ Γ S D d vx} hs sr xl dl h => hi.sim hs sr xl (fun F1 α1 H1 J items okS S1 st1 hs1 wk q => by
    refine ⟨fun i m σ' H' => m = items.length - i ∧ ∃ F' α' Γ' S', Step F1 α1 H1 F' α' H' ∧ Hs K F' α' S' H' ∧ SRep K F' α' σ' Γ' ∧ forV d (vg vx) (vb vx) okS (items.drop i) Γ' S', ⟨_, rfl, _, _, _, _, .refl, hs1, sr.step st1, q⟩, ?_⟩
    rintro i m σ' H' ⟨rfl, F', α', Γ', S', st, hs', sr', q⟩
    cases e : items.drop i with
    | nil =>
      rw [e] at q
      obtain ⟨q1, q2⟩ := q
      have hl : items.length ≤ i := by
        have := congrArg List.length e
        rw [List.length_drop, List.length_nil] at this
        omega
      exact .inl ⟨wk.stop st hs' q1 hl, dl.nx _ _ _ _ _ _ (st1.trans st) hs' sr' q2⟩
    | cons x xs =>
      rw [e] at q
      obtain ⟨q1, q2⟩ := q
      have hx : items[i]? = some x := by
        rw [← List.head?_drop, e]
        rfl
      have hxs : items.drop (i + 1) = xs := by
        rw [← List.drop_drop, e]
        rfl
      have hil : i < items.length := (List.getElem?_eq_some_iff.mp hx).1
      obtain ⟨go, yl⟩ := wk.go st hs' q1 hx
      refine .inr ⟨go, fun σ2 H2 => ∃ F2 α2 Γ2 S2, Step F1 α1 H1 F2 α2 H2 ∧ Hs K F2 α2 S2 H2 ∧ SRep K F2 α2 σ2 Γ2 ∧ forV d (vg vx) (vb vx) okS xs Γ2 S2, fun σ2 H2 hN => ⟨items.length - (i + 1), by omega, rfl, ?_⟩, fun v H2 hy => ?_⟩
      · rw [hxs]
        exact hN
      · obtain ⟨F2, hs2, st2, rv⟩ := yl v H2 hy
        have st12 := st1.trans (st.trans st2)
        refine hg.sim hs2 (sr'.step st2) rv (xl.step st12) (fun F3 α3 H3 σ3 Γ3 S3 st3 hs3 sr3 q3 => ?_) q2
        have st13 := st12.trans st3
        have st1' := (st.trans st2).trans st3
        refine hb.sim (d := { nx := fun Γ2 S2 => forV d (vg vx) (vb vx) okS xs Γ2 S2, ct := fun Γ2 S2 => forV d (vg vx) (vb vx) okS xs Γ2 S2, bk := d.nx, rt := d.rt }) hs3 sr3 (xl.step st13)
          ⟨fun F4 α4 H4 σ4 Γ4 S4 st4 hs4 sr4 q4 => ⟨F4, α4, Γ4, S4, st1'.trans st4, hs4, sr4, q4⟩, (dl.step st13).rt, (dl.step st13).nx, fun F4 α4 H4 σ4 Γ4 S4 st4 hs4 sr4 q4 => ⟨F4, α4, Γ4, S4, st1'.trans st4, hs4, sr4, q4⟩⟩ q3) h⟩
instance {c : TT} {tb : TS} {vc : VTT} {vb : VTS} [hc : SimT K E c vc] [hb : SimS K E tb vb] : SimS K E (tWhile c tb) (wWhile vc vb) :=
  ⟨fun {F α H σ Γ S D d vx} hs sr xl dl h => by
    obtain ⟨W, ⟨m0, w0⟩, turn⟩ := h
    refine ⟨fun m σ' H' => ∃ F' α' Γ' S', Step F α H F' α' H' ∧ Hs K F' α' S' H' ∧ SRep K F' α' σ' Γ' ∧ W m Γ' S', ⟨m0, F, α, Γ, S, .refl, hs, sr, w0⟩, ?_⟩
    rintro m σ' H' ⟨F', α', Γ', S', st, hs', sr', wm⟩
    refine hc.sim hs' sr' (xl.step st) (fun F1 α1 H1 k S1 st1 hs1 q => ?_) (turn m Γ' S' wm)
    have st' := st.trans st1
    refine q.ite (fun q => ?_) fun q => dl.nx _ _ _ _ _ _ st' hs1 (sr'.step st1) q
    refine ⟨fun σ2 H2 => ∃ m', m' < m ∧ ∃ F2 α2 Γ2 S2, Step F α H F2 α2 H2 ∧ Hs K F2 α2 S2 H2 ∧ SRep K F2 α2 σ2 Γ2 ∧ W m' Γ2 S2, fun σ2 H2 ⟨m', hm, hN⟩ => ⟨m', hm, hN⟩, ?_⟩
    refine hb.sim (d := { nx := fun Γ' S' => ∃ m', m' < m ∧ W m' Γ' S', ct := fun Γ' S' => ∃ m', m' < m ∧ W m' Γ' S', bk := d.nx, rt := d.rt }) hs1 (sr'.step st1) (xl.step st')
      ⟨fun F4 α4 H4 σ4 Γ4 S4 st4 hs4 sr4 ⟨m', hm, q4⟩ => ⟨m', hm, F4, α4, Γ4, S4, st'.trans st4, hs4, sr4, q4⟩, (dl.step st').rt, (dl.step st').nx, fun F4 α4 H4 σ4 Γ4 S4 st4 hs4 sr4 ⟨m', hm, q4⟩ => ⟨m', hm, F4, α4, Γ4, S4, st'.trans st4, hs4, sr4, q4⟩⟩ q⟩
/-! what is walked -/
def rngT (lo : Int) (n : Nat) : List T := (List.range n).map fun k => .fz (.int (lo + (k : Nat)))
theorem rngT_get {lo : Int} {n i : Nat} {x : T} (h : (rngT lo n)[i]? = some x) : i < n ∧ x = .fz (.int (lo + (i : Nat))) := by
  unfold rngT at h
  rw [List.getElem?_map] at h
  cases e : (List.range n)[i]? with
  | none =>
    rw [e] at h
    cases h
  | some k =>
    rw [e] at h
    cases h
    obtain ⟨h1, h2⟩ := List.getElem?_eq_some_iff.mp e
    rw [List.length_range] at h1
    rw [List.getElem_range] at h2
    subst h2
    exact ⟨h1, rfl⟩
theorem walks_rng {lo : Int} {n : Nat} {F : Hp} {α : List Addr} {H : Hp} : Walks K (Itr lo n) (rngT lo n) (fun _ => True) F α H := by
  refine ⟨fun {F' α' H' S' i x} _ hs _ hx => ?_, fun {F' α' H' S' i} _ _ _ hl => ?_⟩
  · obtain ⟨h1, rfl⟩ := rngT_get hx
    refine ⟨h1, fun v H2 ⟨e1, e2⟩ => ?_⟩
    subst e1 e2
    exact ⟨F', hs, .refl, .fz (.int _)⟩
  · unfold rngT at hl
    rw [List.length_map, List.length_range] at hl
    exact hl
def wRng1 (a : VTA) : VIt := fun vx Γ S q => a vx Γ S fun ts S1 => match ts with
  | [.fz (.int j)] => -(2 ^ 62) ≤ j ∧ j < 2 ^ 62 ∧ q (rngT 0 j.toNat) (fun _ => True) S1
  | _ => False
def wRng2 (a : VTA) : VIt := fun vx Γ S q => a vx Γ S fun ts S1 => match ts with
  | [.fz (.int i), .fz (.int j)] => (-(2 ^ 62) ≤ i ∧ i < 2 ^ 62 ∧ -(2 ^ 62) ≤ j ∧ j < 2 ^ 62) ∧ q (rngT i (j - i).toNat) (fun _ => True) S1
  | _ => False
theorem intV {F : Hp} {α : List Addr} {v : V} {i : Int} (r : RepV K F α v (.fz (.int i))) : v = .int i := by
  cases r with
  | fz d => cases d; rfl
theorem strV {F : Hp} {α : List Addr} {v : V} {i : Str} (r : RepV K F α v (.fz (.str i))) : v = .str i := by
  cases r with
  | fz d => cases d; rfl
theorem nonV {F : Hp} {α : List Addr} {v : V} (r : RepV K F α v (.fz .none)) : v = .non := by
  cases r with
  | fz d => cases d; rfl
theorem lstV {F : Hp} {α : List Addr} {v : V} {ds : List PyData} (r : RepV K F α v (.fz (.list ds))) : ∃ a xs, v = .ref a ∧ F a = some (.lst xs) ∧ DkAll K F xs ds := by
  cases r with
  | fz d =>
    cases d with
    | lst e h => exact ⟨_, _, rfl, e, h⟩
theorem tupV {F : Hp} {α : List Addr} {v : V} {ds : List PyData} (r : RepV K F α v (.fz (.tuple ds))) : ∃ a xs, v = .ref a ∧ (∀ H', Same F H' → SqT K H' a xs) ∧ DkAll K F xs ds := by
  cases r with
  | fz d =>
    cases d with
    | tup e h => exact ⟨_, _, rfl, fun H' s => SqT.of (s _ _ e), h⟩
    | ktup _ e h => exact ⟨_, _, rfl, fun H' s => e.sq H', h⟩
theorem RepVs.one {F : Hp} {α : List Addr} {vs : List V} {t : T} (r : RepVs K F α vs [t]) : ∃ v, vs = [v] ∧ RepV K F α v t := by
  cases r with
  | cons a b =>
    cases b
    exact ⟨_, rfl, a⟩
theorem RepVs.two {F : Hp} {α : List Addr} {vs : List V} {t u : T} (r : RepVs K F α vs [t, u]) : ∃ v w, vs = [v, w] ∧ RepV K F α v t ∧ RepV K F α w u := by
  cases r with
  | cons a b =>
    obtain ⟨w, e, h⟩ := b.one
    subst e
    exact ⟨_, _, rfl, a, h⟩
theorem RepVs.three {F : Hp} {α : List Addr} {vs : List V} {t u x : T} (r : RepVs K F α vs [t, u, x]) : ∃ v w y, vs = [v, w, y] ∧ RepV K F α v t ∧ RepV K F α w u ∧ RepV K F α y x := by
  cases r with
  | cons a b =>
    obtain ⟨w, y, e, h⟩ := b.two
    subst e
    exact ⟨_, _, _, rfl, a, h⟩
instance {ta : TA} {wa : VTA} [ha : SimA K E ta wa] : SimI K E (iRng1 ta) (wRng1 wa) := ⟨fun {F α H σ Γ S R q vx} hs sr xl k h => ha.sim hs sr xl (fun _ _ _ v r _ s hs' rr z => by
  split at z
  · obtain ⟨x, rfl, rx⟩ := rr.one
    exact ⟨_, by rw [intV rx], z.1, z.2.1, k _ _ _ _ _ _ _ s hs' walks_rng z.2.2⟩
  · exact z.elim) h⟩
instance {ta : TA} {wa : VTA} [ha : SimA K E ta wa] : SimI K E (iRng2 ta) (wRng2 wa) := ⟨fun {F α H σ Γ S R q vx} hs sr xl k h => ha.sim hs sr xl (fun _ _ _ v r _ s hs' rr z => by
  split at z
  · obtain ⟨x, y, rfl, rx, ry⟩ := rr.two
    exact ⟨_, _, by rw [intV rx, intV ry], z.1, k _ _ _ _ _ _ _ s hs' walks_rng z.2⟩
  · exact z.elim) h⟩
/-- the items of a list or a tuple -/
def itemsV (S : List O) : T → Option (List T × (List O → Prop))
  | .fz (.list ds) => some (ds.map T.fz, fun _ => True)
  | .rf j => match S[j]? with
    | some (.lst ts) => some (ts, fun S' => S'[j]? = some (.lst ts))
    | _ => none
  | _ => none
def itemsT : T → Option (List T)
  | .fz (.tuple ds) => some (ds.map T.fz)
  | .tp ts => some ts
  | _ => none
def wIList (e : VTE) : VIt := fun vx Γ S q => e vx Γ S fun x S1 => match itemsV S1 x with
  | some (ts, okS) => q ts okS S1
  | none => False
def wITup (e : VTE) : VIt := fun vx Γ S q => e vx Γ S fun x S1 => match itemsT x with
  | some ts => q ts (fun _ => True) S1
  | none => False
theorem SqL.only {K : PySem.W.Frag} {H : Hp} {a : Addr} {xs ys : List V} (h : H a = some (.lst xs)) (hn : K.lookup a = none) (g : SqL K H a ys) : ys = xs := by
  rcases g with (g | ⟨o, g⟩) | ⟨o, its, n, g, _⟩
  · rw [h] at g
    cases g
    rfl
  · rw [h] at g
    cases g
  · rw [hn] at g
    cases g
end
section
variable {F H : Hp} {α : List Addr}
theorem walks_lst {a : Addr} {vs : List V} {ds : List PyData} (ha : F a = some (.lst vs)) (hd : DkAll K F vs ds) : Walks K (Itl K a) (ds.map T.fz) (fun _ => True) F α H := by
  refine ⟨fun {F' α' H' S' i x} st hs _ hx => ?_, fun {F' α' H' S' i} st hs _ hl => ?_⟩
  · have h1 : H' a = some (.lst vs) := hs.sub _ _ (st.f _ _ ha)
    obtain ⟨v, hv, rv⟩ := (hd.reps (α := α)).at_ hx
    refine ⟨⟨vs, v, SqL.of h1, hv⟩, fun v2 H2 ⟨e1, e2⟩ => ?_⟩
    subst e1
    have := e2 vs (SqL.of h1)
    rw [hv] at this
    cases this
    exact ⟨F', hs, .refl, rv.step st⟩
  · exact ⟨vs, SqL.of (hs.sub _ _ (st.f _ _ ha)), by rw [hd.len]; rw [List.length_map] at hl; exact hl⟩
theorem walks_ref {a : Addr} {j : Nat} {ts : List T} (ha : α[j]? = some a) : Walks K (Itl K a) ts (fun S' => S'[j]? = some (.lst ts)) F α H := by
  have hα : ∀ {F' α' H'}, Step F α H F' α' H' → α'[j]? = some a := fun {F' α' H'} st => by
    obtain ⟨β, e, _⟩ := st.a
    rw [e, List.getElem?_append_left (List.getElem?_eq_some_iff.mp ha).1]
    exact ha
  refine ⟨fun {F' α' H' S' i x} st hs hok hx => ?_, fun {F' α' H' S' i} st hs hok hl => ?_⟩
  · obtain ⟨vs, h1, h2⟩ := hs.lst (hα st) hok
    obtain ⟨v, hv, rv⟩ := h2.at_ hx
    refine ⟨⟨vs, v, SqL.of h1, hv⟩, fun v2 H2 ⟨e1, e2⟩ => ?_⟩
    subst e1
    have := e2 vs (SqL.of h1)
    rw [hv] at this
    cases this
    exact ⟨F', hs, .refl, rv⟩
  · obtain ⟨vs, h1, h2⟩ := hs.lst (hα st) hok
    exact ⟨vs, SqL.of h1, by rw [h2.len]; exact hl⟩
theorem walks_tup {a : Addr} {vs : List V} {ts : List T} (ha : ∀ H', Same F H' → SqT K H' a vs) (hd : RepVs K F α vs ts) : Walks K (Itt K a) ts (fun _ => True) F α H := by
  refine ⟨fun {F' α' H' S' i x} st hs _ hx => ?_, fun {F' α' H' S' i} st hs _ hl => ?_⟩
  · have h1 : SqT K H' a vs := ha H' (st.f.trans hs.sub)
    obtain ⟨v, hv, rv⟩ := hd.at_ hx
    refine ⟨⟨vs, v, h1, hv⟩, fun v2 H2 ⟨e1, e2⟩ => ?_⟩
    subst e1
    have := e2 vs h1
    rw [hv] at this
    cases this
    exact ⟨F', hs, .refl, rv.step st⟩
  · exact ⟨vs, ha H' (st.f.trans hs.sub), by rw [hd.len]; exact hl⟩
/-- a pair that is made anew -/
def tupT (ts : List T) : T := match allD ts with
  | some ds => .fz (.tuple ds)
  | none => .tp ts
theorem tupT_ok {a : Addr} {vs : List V} {ts : List T} (ha : F a = some (.tup vs)) (r : RepVs K F α vs ts) : RepV K F α (.ref a) (tupT ts) := by
  unfold tupT
  split
  · rename_i ds e
    rw [allD_eq e] at r
    exact .fz (.tup ha r.dkAll)
  · exact .tp ha r
theorem Hs.tup {S : List O} (hs : Hs K F α S H) {p : Addr} (hp : H p = none) {vs : List V} {ts : List T} (r : RepVs K F α vs ts) : Hs K (upd F p (.tup vs)) α S (upd H p (.tup vs)) ∧ Step F α H (upd F p (.tup vs)) α (upd H p (.tup vs)) ∧ RepV K (upd F p (.tup vs)) α (.ref p) (tupT ts) := by
  obtain ⟨h1, h2⟩ := hs.frz hp (.tup vs)
  exact ⟨h1, h2, tupT_ok upd_same (r.step h2)⟩
theorem Hs.lstN {S : List O} (hs : Hs K F α S H) {p : Addr} (hp : H p = none) {vs : List V} {ds : List PyData} (r : RepVs K F α vs (ds.map T.fz)) : Hs K (upd F p (.lst vs)) α S (upd H p (.lst vs)) ∧ Step F α H (upd F p (.lst vs)) α (upd H p (.lst vs)) ∧ RepV K (upd F p (.lst vs)) α (.ref p) (.fz (.list ds)) := by
  obtain ⟨h1, h2⟩ := hs.frz hp (.lst vs)
  exact ⟨h1, h2, .fz (.lst upd_same ((r.step h2).dkAll))⟩
/-- items with their numbers -/
def enumT : Nat → List T → List T
  | _, [] => []
  | n, t :: ts => tupT [.fz (.int (n : Nat)), t] :: enumT (n + 1) ts
theorem enumT_get : ∀ {ts : List T} {n i : Nat} {x : T}, (enumT n ts)[i]? = some x → ∃ t, ts[i]? = some t ∧ x = tupT [.fz (.int ((n + i : Nat) : Int)), t]
  | [], n, i, x, h => by cases h
  | t :: ts, n, 0, x, h => by
    cases h
    exact ⟨t, rfl, rfl⟩
  | t :: ts, n, i + 1, x, h => by
    obtain ⟨u, h1, h2⟩ := enumT_get (ts := ts) (n := n + 1) (i := i) h
    exact ⟨u, h1, by rw [h2, show n + 1 + i = n + (i + 1) by omega]⟩
theorem enumT_len : ∀ (ts : List T) (n : Nat), (enumT n ts).length = ts.length
  | [], _ => rfl
  | _ :: ts, n => congrArg (· + 1) (enumT_len ts (n + 1))
theorem walks_enum {a : Addr} {items : List T} {okS : List O → Prop} (w : Walks K (Itl K a) items okS F α H) (hL : ∀ {F' α' H' S'}, Step F α H F' α' H' → Hs K F' α' S' H' → okS S' → ∃ vs, H' a = some (.lst vs) ∧ RepVs K F' α' vs items) : Walks K (Ite K a) (enumT 0 items) okS F α H := by
  refine ⟨fun {F' α' H' S' i x} st hs hok hx => ?_, fun {F' α' H' S' i} st hs hok hl => ?_⟩
  · obtain ⟨t, h1, rfl⟩ := enumT_get hx
    obtain ⟨vs, h2, h3⟩ := hL st hs hok
    obtain ⟨v, hv, rv⟩ := h3.at_ h1
    refine ⟨⟨vs, v, SqL.of h2, hv⟩, fun v2 H2 ⟨p, x, e1, e2, e3, e4⟩ => ?_⟩
    subst e1 e3
    have := e4 vs (SqL.of h2)
    rw [hv] at this
    cases this
    obtain ⟨g1, g2, g3⟩ := hs.tup (ts := [.fz (.int ((0 + i : Nat) : Int)), t]) e2 (.cons (.fz (by rw [Nat.zero_add]; exact .int _)) (.cons rv .nil))
    exact ⟨_, g1, g2, g3⟩
  · obtain ⟨vs, h2, h3⟩ := hL st hs hok
    exact ⟨vs, SqL.of h2, by rw [h3.len]; rw [enumT_len] at hl; exact hl⟩
def zipT : List T → List T → List T
  | t :: ts, u :: us => tupT [t, u] :: zipT ts us
  | _, _ => []
theorem zipT_get : ∀ {ts us : List T} {i : Nat} {x : T}, (zipT ts us)[i]? = some x → ∃ t u, ts[i]? = some t ∧ us[i]? = some u ∧ x = tupT [t, u]
  | [], us, i, x, h => by
    cases us <;> cases h
  | t :: ts, [], i, x, h => by cases h
  | t :: ts, u :: us, 0, x, h => by
    cases h
    exact ⟨t, u, rfl, rfl, rfl⟩
  | t :: ts, u :: us, i + 1, x, h => zipT_get (ts := ts) (us := us) (i := i) h
theorem zipT_len : ∀ (ts us : List T), (zipT ts us).length = min ts.length us.length
  | [], us => by
    rw [show zipT [] us = [] by cases us <;> rfl]
    simp
  | t :: ts, [] => by
    show 0 = _
    simp
  | t :: ts, u :: us => by
    show (zipT ts us).length + 1 = _
    rw [zipT_len, List.length_cons, List.length_cons]
    omega
theorem walks_zip {a b : Addr} {xs ys : List T} {okX okY : List O → Prop} (hX : ∀ {F' α' H' S'}, Step F α H F' α' H' → Hs K F' α' S' H' → okX S' → ∃ vs, H' a = some (.lst vs) ∧ RepVs K F' α' vs xs)
    (hY : ∀ {F' α' H' S'}, Step F α H F' α' H' → Hs K F' α' S' H' → okY S' → ∃ vs, H' b = some (.lst vs) ∧ RepVs K F' α' vs ys) : Walks K (Itz K a b) (zipT xs ys) (fun S => okX S ∧ okY S) F α H := by
  refine ⟨fun {F' α' H' S' i x} st hs hok hx => ?_, fun {F' α' H' S' i} st hs hok hl => ?_⟩
  · obtain ⟨t, u, h1, h2, rfl⟩ := zipT_get hx
    obtain ⟨vs, h3, h4⟩ := hX st hs hok.1
    obtain ⟨ws, h5, h6⟩ := hY st hs hok.2
    obtain ⟨v, hv, rv⟩ := h4.at_ h1
    obtain ⟨w, hw, rw'⟩ := h6.at_ h2
    refine ⟨⟨vs, ws, v, w, SqL.of h3, SqL.of h5, hv, hw⟩, fun v2 H2 ⟨p, x, y, e1, e2, e3, e4, e5⟩ => ?_⟩
    subst e1 e3
    have := e4 vs (SqL.of h3)
    rw [hv] at this
    cases this
    have := e5 ws (SqL.of h5)
    rw [hw] at this
    cases this
    obtain ⟨g1, g2, g3⟩ := hs.tup (ts := [t, u]) e2 (.cons rv (.cons rw' .nil))
    exact ⟨_, g1, g2, g3⟩
  · obtain ⟨vs, h3, h4⟩ := hX st hs hok.1
    obtain ⟨ws, h5, h6⟩ := hY st hs hok.2
    refine ⟨vs, ws, SqL.of h3, SqL.of h5, ?_⟩
    rw [h4.len, h6.len]
    rw [zipT_len] at hl
    omega
/-- where a list that is walked stands -/
theorem items_ok {S : List O} {t : T} {ts : List T} {okS : List O → Prop} {v : V} (hs : Hs K F α S H) (r : RepV K F α v t) (e : itemsV S t = some (ts, okS)) :
    ∃ a, v = .ref a ∧ okS S ∧ Walks K (Itl K a) ts okS F α H ∧ ∀ {F' α' H' S'}, Step F α H F' α' H' → Hs K F' α' S' H' → okS S' → ∃ vs, H' a = some (.lst vs) ∧ RepVs K F' α' vs ts := by
  cases t with
  | fz d =>
    cases d with
    | list ds =>
      cases e
      obtain ⟨a, xs, rfl, h1, h2⟩ := lstV r
      exact ⟨a, rfl, trivial, walks_lst h1 h2, fun {F' α' H' S'} st hs' _ => ⟨xs, hs'.sub _ _ (st.f _ _ h1), h2.reps.step st⟩⟩
    | _ => cases e
  | rf j =>
    cases r with
    | rf ha =>
      rename_i a
      unfold itemsV at e
      dsimp only at e
      split at e
      · rename_i us e2
        cases e
        refine ⟨a, rfl, e2, walks_ref ha, fun {F' α' H' S'} st hs' hok => ?_⟩
        obtain ⟨β, e3, _⟩ := st.a
        exact hs'.lst (by rw [e3, List.getElem?_append_left (List.getElem?_eq_some_iff.mp ha).1]; exact ha) hok
      · cases e
  | tp us => cases e
  | scr ns => cases e
theorem itemsT_ok {t : T} {ts : List T} {v : V} (r : RepV K F α v t) (e : itemsT t = some ts) : ∃ a vs, v = .ref a ∧ (∀ H', Same F H' → SqT K H' a vs) ∧ RepVs K F α vs ts := by
  cases t with
  | fz d =>
    cases d with
    | tuple ds =>
      cases e
      obtain ⟨a, xs, rfl, h1, h2⟩ := tupV r
      exact ⟨a, xs, rfl, h1, h2.reps⟩
    | _ => cases e
  | rf j => cases e
  | scr ns => cases e
  | tp us =>
    cases e
    cases r with
    | tp h1 h2 => exact ⟨_, _, rfl, fun H' s => SqT.of (s _ _ h1), h2⟩
end
section
variable {E : XK} {te : TE} {we : VTE} {ta : TA} {wa : VTA}
instance [he : SimE K E te we] : SimI K E (iList K te) (wIList we) := ⟨fun {F α H σ Γ S R q vx} hs sr xl k h => he.sim hs sr xl (fun F1 α1 H1 v r S1 s hs' rv z => by
  split at z
  · rename_i ts okS e
    obtain ⟨a, rfl, h1, h2, h3⟩ := items_ok (K := K) hs' rv e
    obtain ⟨vs, h4, _⟩ := h3 .refl hs' h1
    exact ⟨a, rfl, ⟨vs, SqL.of h4⟩, k _ _ _ _ _ _ _ s hs' h2 z⟩
  · exact z.elim) h⟩
instance [he : SimE K E te we] : SimI K E (iTup K te) (wITup we) := ⟨fun {F α H σ Γ S R q vx} hs sr xl k h => he.sim hs sr xl (fun F1 α1 H1 v r S1 s hs' rv z => by
  split at z
  · rename_i ts e
    obtain ⟨a, vs, rfl, h1, h2⟩ := itemsT_ok rv e
    exact ⟨a, rfl, ⟨vs, h1 _ hs'.sub⟩, k _ _ _ _ _ _ _ s hs' (walks_tup h1 h2) z⟩
  · exact z.elim) h⟩
def wEnum (a : VTA) : VIt := fun vx Γ S q => a vx Γ S fun ts S1 => match ts with
  | [x] => match itemsV S1 x with
    | some (ts, okS) => q (enumT 0 ts) okS S1
    | none => False
  | _ => False
instance [ha : SimA K E ta wa] : SimI K E (iEnum K ta) (wEnum wa) := ⟨fun {F α H σ Γ S R q vx} hs sr xl k h => ha.sim hs sr xl (fun F1 α1 H1 v r S1 s hs' rv z => by
  split at z
  · rename_i x
    obtain ⟨y, rfl, ry⟩ := rv.one
    split at z
    · rename_i ts okS e
      obtain ⟨a, rfl, h1, h2, h3⟩ := items_ok (K := K) hs' ry e
      obtain ⟨vs, h4, _⟩ := h3 .refl hs' h1
      exact ⟨a, vs, rfl, SqL.of h4, k _ _ _ _ _ _ _ s hs' (walks_enum h2 h3) z⟩
    · exact z.elim
  · exact z.elim) h⟩
def wZip (a : VTA) : VIt := fun vx Γ S q => a vx Γ S fun ts S1 => match ts with
  | [x, y] => match itemsV S1 x, itemsV S1 y with
    | some (ts, okX), some (us, okY) => q (zipT ts us) (fun S => okX S ∧ okY S) S1
    | _, _ => False
  | _ => False
instance [ha : SimA K E ta wa] : SimI K E (iZip K ta) (wZip wa) := ⟨fun {F α H σ Γ S R q vx} hs sr xl k h => ha.sim hs sr xl (fun F1 α1 H1 v r S1 s hs' rv z => by
  split at z
  · obtain ⟨x, y, rfl, rx, ry⟩ := rv.two
    split at z
    · rename_i e1 e2
      obtain ⟨a, rfl, h1, h2, h3⟩ := items_ok (K := K) hs' rx e1
      obtain ⟨b, rfl, g1, g2, g3⟩ := items_ok (K := K) hs' ry e2
      obtain ⟨vs, h4, _⟩ := h3 .refl hs' h1
      obtain ⟨ws, g4, _⟩ := g3 .refl hs' g1
      exact ⟨a, b, vs, ws, rfl, SqL.of h4, SqL.of g4, k _ _ _ _ _ _ _ s hs' (walks_zip h3 g3) z⟩
    · exact z.elim
  · exact z.elim) h⟩
end

/-! comprehensions -/
theorem wipe_get : ∀ (is : List Nat) (σ : L2.St) (k : Nat), k ∉ is → (wipe σ is)[k]? = σ[k]?
  | [], σ, k, _ => rfl
  | i :: is, σ, k, h => by
    show ((wipe σ is).set i none)[k]? = _
    rw [List.getElem?_set_ne fun e => h (by rw [e]; exact List.mem_cons_self)]
    exact wipe_get is σ k fun m => h (List.mem_cons_of_mem _ m)
theorem wipe_len (is : List Nat) (σ : L2.St) : (wipe σ is).length = σ.length := wipe_length σ is
theorem wipe_in : ∀ (is : List Nat) (σ : L2.St) (k : Nat), k ∈ is → (wipe σ is)[k]? = if k < σ.length then some none else none
  | [], σ, k, h => by cases h
  | i :: is, σ, k, h => by
    show ((wipe σ is).set i none)[k]? = _
    by_cases e : i = k
    · subst e
      rw [List.getElem?_set]
      simp [wipe_length]
    · rw [List.getElem?_set_ne e]
      exact wipe_in is σ k ((List.mem_cons.mp h).resolve_left fun z => e z.symm)
theorem wipe_same {σ σ' : L2.St} (is : List Nat) (hl : σ.length = σ'.length) (h : ∀ k, k ∉ is → σ'[k]? = σ[k]?) : wipe σ' is = wipe σ is := by
  refine List.ext_getElem? fun k => ?_
  by_cases hm : k ∈ is
  · rw [wipe_in is σ k hm, wipe_in is σ' k hm, hl]
  · rw [wipe_get is _ k hm, wipe_get is _ k hm]
    exact h k hm
/-- a target stores in these slots alone -/
class GOn (t : TG) (is : outParam (List Nat)) : Prop where
  on : ∀ {v : V} {σ : L2.St} {H : Hp} {Q : L2.St → Hp → Prop}, t v σ H Q → t v σ H fun σ' H' => Q σ' H' ∧ σ.length = σ'.length ∧ ∀ k, k ∉ is → σ'[k]? = σ[k]?
class GsOn (t : TGs) (is : outParam (List Nat)) : Prop where
  on : ∀ {v : List V} {σ : L2.St} {H : Hp} {Q : L2.St → Hp → Prop}, t v σ H Q → t v σ H fun σ' H' => Q σ' H' ∧ σ.length = σ'.length ∧ ∀ k, k ∉ is → σ'[k]? = σ[k]?
instance {i : Nat} : GOn (gName i) [i] := ⟨fun h => ⟨h, List.length_set.symm, fun k hk => List.getElem?_set_ne fun e => hk (by rw [e]; exact List.mem_cons_self)⟩⟩
instance : GsOn gNil [] := ⟨fun ⟨e, h⟩ => ⟨e, h, rfl, fun _ _ => rfl⟩⟩
/-- what is wanted of a target may be weakened -/
class GMono (t : TG) : Prop where
  mono : ∀ {v : V} {σ : L2.St} {H : Hp} {Q Q' : L2.St → Hp → Prop}, (∀ σ' H', Q σ' H' → Q' σ' H') → t v σ H Q → t v σ H Q'
class GsMono (t : TGs) : Prop where
  mono : ∀ {v : List V} {σ : L2.St} {H : Hp} {Q Q' : L2.St → Hp → Prop}, (∀ σ' H', Q σ' H' → Q' σ' H') → t v σ H Q → t v σ H Q'
instance {i : Nat} : GMono (gName i) := ⟨fun h q => h _ _ q⟩
instance : GsMono gNil := ⟨fun h q => ⟨q.1, h _ _ q.2⟩⟩
instance {t : TG} {u : TGs} [h1 : GMono t] [h2 : GsMono u] : GsMono (gCons t u) := ⟨fun h ⟨v, r, e, q⟩ => ⟨v, r, e, h1.mono (fun _ _ q => h2.mono h q) q⟩⟩
instance {K : PySem.W.Frag} {n : Nat} {u : TGs} [h2 : GsMono u] : GMono (gTup K n u) := ⟨fun h ⟨a, xs, e, s, l, q⟩ => ⟨a, xs, e, s, l, h2.mono h q⟩⟩
instance {t : TG} {u : TGs} {is js : List Nat} [m1 : GMono t] [m2 : GsMono u] [h1 : GOn t is] [h2 : GsOn u js] : GsOn (gCons t u) (is ++ js) := ⟨fun ⟨v, r, e, q⟩ => ⟨v, r, e, m1.mono (fun σ1 H1 ⟨q, hl, hk⟩ => m2.mono (fun σ2 H2 ⟨q, hl2, hk2⟩ => ⟨q, hl.trans hl2, fun k hm => by
  rw [hk2 k fun z => hm (List.mem_append_right _ z), hk k fun z => hm (List.mem_append_left _ z)]⟩) (h2.on q)) (h1.on q)⟩⟩
instance {K : PySem.W.Frag} {n : Nat} {u : TGs} {is : List Nat} [h2 : GsOn u is] : GOn (gTup K n u) is := ⟨fun ⟨a, xs, e, s, l, q⟩ => ⟨a, xs, e, s, l, h2.on q⟩⟩
/-- the turns of a comprehension -/
def lcV (g : T → List O → (Gm → List O → Prop) → Prop) (c : Gm → List O → (Bool → List O → Prop) → Prop) (e : Gm → List O → VQ → Prop) (okS : List O → Prop) (q : List T → List O → Prop) : List T → List T → List O → Prop
  | acc, [], S => okS S ∧ q acc S
  | acc, x :: xs, S => okS S ∧ g x S fun Γ1 S1 => c Γ1 S1 fun b S2 => ifV b (e Γ1 S2 fun y S3 => acc.length < 100000 ∧ lcV g c e okS q (acc ++ [y]) xs S3) (lcV g c e okS q acc xs S2)
def subB (is vs : List Nat) : Bool := is.all fun i => inB i vs
/-- a list that stays as it is if all of it is data -/
def lcR (q : VQ) (acc : List T) (S : List O) : Prop := match allD acc with
  | some ds => q (.fz (.list ds)) S
  | none => q (.rf S.length) (S ++ [.lst acc])
def wLc (wi : VIt) (wg : VTG) (wt : VTT) (we : VTE) (is vs : List Nat) : VTE := fun vx Γ S q => subB is vs = true ∧ wi vx Γ S fun items okS S1 => lcV (fun x S q => wg vx x (wipeG Γ vs) S q) (wt vx) (we vx) okS (lcR q) [] items S1
def wLcN (wi : VIt) (wg : VTG) (wt : VTT) (we : VTE) (is vs : List Nat) : VTE := fun vx Γ S q => subB is vs = true ∧ wi vx Γ S fun items okS S1 => lcV (fun x S q => wg vx x (wipeG Γ vs) S q) (wt vx) (we vx) okS (fun acc S => q (.rf S.length) (S ++ [.lst acc])) [] items S1
def wYes : VTT := fun _ _ S q => q true S
/-- a list that may be changed later -/
def tLcN (wi : TI) (g : TG) (tt : TT) (te : TE) (vs : List Nat) : TE := tLc wi g tt te vs
instance {E : XK} : SimT K E tYes wYes := ⟨fun hs _ _ bl h => bl _ _ _ _ _ .refl hs h⟩
section
variable {F H F' H' : Hp} {α α' : List Addr} {S : List O}
/-- an object at the side, in neither -/
theorem Hs.side (hs : Hs K F α S H) {D : Addr} (o : HO) (nd : D ∉ α) (fd : F D = none) : Hs K F α S (upd H D o) := by
  refine ⟨fun b u e => ?_, hs.len, hs.nd, hs.out, fun j a ob h1 h2 => ?_⟩
  · rw [upd_ne (ne_of_none e fd)]
    exact hs.sub b u e
  · have := (hs.at_ j a ob h1 h2).mono (β := []) (F' := F) (H' := upd H D o) Same.rfl' (upd_ne fun e => nd (by rw [← e]; exact List.mem_of_getElem? h1))
    rw [List.append_nil] at this
    exact this
theorem Step.side (st : Step F α H F' α' H') {D : Addr} (o : HO) (hD : H D = none) : Step F α H F' α' (upd H' D o) := by
  refine ⟨st.f, st.a, fun b u h1 h2 => ?_, st.new, fun b h => ?_⟩
  · rw [upd_ne (ne_of_none h1 hD)]
    exact st.fix b u h1 h2
  · by_cases e : b = D
    · rw [e, upd_same]
      exact fun z => by cases z
    · rw [upd_ne e]
      exact st.grow b h
theorem Step.outD (st : Step F α H F' α' H') {D : Addr} {o : HO} (hD : H D = some o) (nd : D ∉ α) (fd : F D = none) : H' D = some o ∧ D ∉ α' ∧ F' D = none := by
  refine ⟨st.fix D o hD nd, fun h => ?_, ?_⟩
  · obtain ⟨β, e, hβ⟩ := st.a
    rw [e] at h
    rcases List.mem_append.mp h with h | h
    · exact nd h
    · rw [hβ D h] at hD
      cases hD
  · cases e : F' D with
    | none => rfl
    | some u =>
      rcases st.new D (by rw [e]; exact fun z => by cases z) with h | h
      · exact absurd fd h
      · rw [h] at hD
        cases hD
end
theorem lc_core {E : XK} {wi : TI} {g : TG} {tt : TT} {te : TE} {vs is : List Nat} {vi : VIt} {vg : VTG} {vt : VTT} {ve : VTE} [hi : SimI K E wi vi] [hg : SimG K E g vg] [gm : GMono g] [go : GOn g is] [ht : SimT K E tt vt] [he : SimE K E te ve]
    {F : Hp} {α : List Addr} {H : Hp} {σ : L2.St} {Γ : Gm} {S : List O} {Q : VK} {fin : List T → List O → Prop} {vx : VX} (hs : Hs K F α S H) (sr : SRep K F α σ Γ) (xl : XL K F α H E vx)
    (hsub : subB is vs = true) (h : vi vx Γ S fun items okS S1 => lcV (fun x S q => vg vx x (wipeG Γ vs) S q) (vt vx) (ve vx) okS fin [] items S1)
    (hfin : ∀ F' α' H' acc S' D ws, Step F α H F' α' H' → Hs K F' α' S' H' → H' D = some (.lst ws) → D ∉ α' → F' D = none → H D = none → RepVs K F' α' ws acc → fin acc S' → Q (.ref D) H') : tLc wi g tt te vs σ H Q := by
  have hsub2 : ∀ i ∈ is, i ∈ vs := fun i hi => inB_iff.mp (List.all_eq_true.mp hsub i hi)
  refine hi.sim hs sr xl (fun F1 α1 H1 J items okS S1 st1 hs1 wk q D hD => ?_) h
  have hD0 : H D = none := by
    cases e : H D with
    | none => rfl
    | some o => exact absurd hD (st1.grow D (by rw [e]; exact fun z => by cases z))
  have fD : F1 D = none := hs1.sub.free hD
  have aD : D ∉ α1 := fun m => hs1.there m hD
  have srw : ∀ {F' α'}, SRep K F' α' σ Γ → SRep K F' α' (wipe σ vs) (wipeG Γ vs) := fun s => s.forget vs (wipe_len _ _) fun k hk => wipe_get _ _ _ hk
  refine ⟨fun i m H' => m = items.length - i ∧ ∃ F' α' S' acc ws, Step F1 α1 H1 F' α' H' ∧ Hs K F' α' S' H' ∧ H' D = some (.lst ws) ∧ D ∉ α' ∧ F' D = none ∧ RepVs K F' α' ws acc ∧ lcV (fun x S q => vg vx x (wipeG Γ vs) S q) (vt vx) (ve vx) okS fin acc (items.drop i) S', ⟨_, rfl, F1, α1, S1, [], [], Step.refl.side _ hD, hs1.side _ aD fD, upd_same, aD, fD, .nil, q⟩, ?_⟩
  rintro i m H' ⟨rfl, F', α', S', acc, ws, st, hs', hD', aD', fD', rw', q⟩
  cases e : items.drop i with
  | nil =>
    rw [e] at q
    obtain ⟨q1, q2⟩ := q
    have hl : items.length ≤ i := by
      have := congrArg List.length e
      rw [List.length_drop, List.length_nil] at this
      omega
    exact .inl ⟨wk.stop st hs' q1 hl, hfin _ _ _ acc S' D ws (st1.trans st) hs' hD' aD' fD' hD0 rw' q2⟩
  | cons x xs =>
    rw [e] at q
    obtain ⟨q1, q2⟩ := q
    have hx : items[i]? = some x := by
      rw [← List.head?_drop, e]
      rfl
    have hxs : items.drop (i + 1) = xs := by
      rw [← List.drop_drop, e]
      rfl
    have hil : i < items.length := (List.getElem?_eq_some_iff.mp hx).1
    obtain ⟨go', yl⟩ := wk.go st hs' q1 hx
    obtain ⟨Nx, hNx⟩ : ∃ Nx : Hp → Prop, Nx = fun H2 => ∃ F2 α2 S2 acc2 ws2, Step F1 α1 H1 F2 α2 H2 ∧ Hs K F2 α2 S2 H2 ∧ H2 D = some (.lst ws2) ∧ D ∉ α2 ∧ F2 D = none ∧ RepVs K F2 α2 ws2 acc2 ∧ lcV (fun x S q => vg vx x (wipeG Γ vs) S q) (vt vx) (ve vx) okS fin acc2 xs S2 := ⟨_, rfl⟩
    refine .inr ⟨go', Nx, fun H2 hN => ⟨items.length - (i + 1), by omega, rfl, ?_⟩, fun v H2 hy => ?_⟩
    · rw [hxs]
      rw [hNx] at hN
      exact hN
    · obtain ⟨F2, hs2, st2, rv⟩ := yl v H2 hy
      have s2 := st.trans st2
      have sr0 := srw (sr.step (st1.trans s2))
      refine gm.mono (Q := fun σ3 H3 => (tt σ3 H3 fun b H4 => if b = true then te σ3 H4 fun y H5 => ∃ acc, H5 D = some (.lst acc) ∧ acc.length < sizeLine ∧ Nx (upd H5 D (.lst (acc ++ [y]))) else Nx H4) ∧ (wipe σ vs).length = σ3.length ∧ ∀ k, k ∉ is → σ3[k]? = (wipe σ vs)[k]?) (fun σ3 H3 z => ⟨?_, z.1⟩) (go.on (hg.sim (Q := fun σ3 H3 => tt σ3 H3 fun b H4 => if b = true then te σ3 H4 fun y H5 => ∃ acc, H5 D = some (.lst acc) ∧ acc.length < sizeLine ∧ Nx (upd H5 D (.lst (acc ++ [y]))) else Nx H4) hs2 sr0 rv (xl.step (st1.trans s2)) (fun F3 α3 H3 σ3 Γ3 S3 st3 hs3 sr3 q3 => ?_) q2))
      · rw [wipe_same (σ := wipe σ vs) (σ' := σ3) vs z.2.1 fun k hk => z.2.2 k fun m => hk (hsub2 k m)]
        exact wipe_same vs (wipe_length _ _).symm fun k hk => wipe_get vs σ k hk
      · have s3 := s2.trans st3
        refine ht.sim hs3 sr3 (xl.step (st1.trans s3)) (fun F4 α4 H4 b S4 st4 hs4 q4 => ?_) q3
        have s4 := s3.trans st4
        have s24 := (st2.trans st3).trans st4
        refine q4.ite (fun q4 => ?_) fun q4 => ?_
        · refine he.sim hs4 (sr3.step st4) (xl.step (st1.trans s4)) (fun F5 α5 H5 v5 y S5 st5 hs5 rv5 q5 => ?_) q4
          have s5 := s4.trans st5
          have s25 := s24.trans st5
          obtain ⟨g1, g2, g3⟩ := s25.outD hD' aD' fD'
          have rw5 := rw'.step s25
          refine ⟨ws, g1, by rw [rw5.len]; exact small_lt q5.1, by rw [hNx]; exact ⟨F5, α5, S5, acc ++ [y], ws ++ [v5], s5.side _ hD, hs5.side _ g2 g3, upd_same, g2, g3, rw5.append (.cons rv5 .nil), q5.2⟩⟩
        · obtain ⟨g1, g2, g3⟩ := s24.outD hD' aD' fD'
          rw [hNx]
          exact ⟨F4, α4, S4, acc, ws, s4, hs4, g1, g2, g3, rw'.step s24, q4⟩
/-- what stands at the side comes to what stays -/
theorem Hs.sideF {F H : Hp} {α : List Addr} {S : List O} (hs : Hs K F α S H) {D : Addr} {o : HO} (hD : H D = some o) (nd : D ∉ α) (fd : F D = none) : Hs K (upd F D o) α S H := by
  refine ⟨fun b u e => ?_, hs.len, hs.nd, fun a ha => ?_, fun j a ob h1 h2 => ?_⟩
  · by_cases n : b = D
    · subst n
      rw [upd_same] at e
      cases e
      exact hD
    · rw [upd_ne n] at e
      exact hs.sub b u e
  · rw [upd_ne fun e => nd (by rw [← e]; exact ha)]
    exact hs.out a ha
  · have := (hs.at_ j a ob h1 h2).mono (β := []) (F' := upd F D o) (H' := H) (same_upd fd) rfl
    rw [List.append_nil] at this
    exact this
theorem Step.sideF {F H F' H' : Hp} {α α' : List Addr} (st : Step F α H F' α' H') {D : Addr} {o : HO} (hD0 : H D = none) (fd : F' D = none) : Step F α H (upd F' D o) α' H' := by
  refine ⟨st.f.trans (same_upd fd), st.a, st.fix, fun b h => ?_, st.grow⟩
  by_cases n : b = D
  · rw [n]
    exact .inr hD0
  · rw [upd_ne n] at h
    exact st.new b h
theorem Hs.sideA {F H : Hp} {α : List Addr} {S : List O} (hs : Hs K F α S H) {D : Addr} {ws : List V} {ts : List T} (hD : H D = some (.lst ws)) (nd : D ∉ α) (fd : F D = none) (r : RepVs K F α ws ts) : Hs K F (α ++ [D]) (S ++ [.lst ts]) H := by
  refine ⟨hs.sub, by rw [List.length_append, List.length_append, hs.len]; rfl, nd_snoc hs.nd nd, fun a ha => ?_, fun j a ob h1 h2 => ?_⟩
  · rcases List.mem_append.mp ha with ha | ha
    · exact hs.out a ha
    · rw [List.mem_singleton.mp ha]
      exact fd
  · by_cases hj : j < α.length
    · rw [List.getElem?_append_left hj] at h1
      rw [List.getElem?_append_left (by rw [← hs.len]; exact hj)] at h2
      exact (hs.at_ j a ob h1 h2).mono Same.rfl' rfl
    · have ej : j = α.length := by
        have := (List.getElem?_eq_some_iff.mp h1).1
        rw [List.length_append, List.length_singleton] at this
        omega
      subst ej
      rw [List.getElem?_append_right (Nat.le_refl _), Nat.sub_self] at h1
      rw [hs.len, List.getElem?_append_right (Nat.le_refl _), Nat.sub_self] at h2
      cases h1
      cases h2
      exact ⟨ws, hD, r.mono Same.rfl'⟩
theorem Step.sideA {F H F' H' : Hp} {α α' : List Addr} (st : Step F α H F' α' H') {D : Addr} (hD0 : H D = none) : Step F α H F' (α' ++ [D]) H' := by
  obtain ⟨β, e, hβ⟩ := st.a
  refine ⟨st.f, ⟨β ++ [D], by rw [e, List.append_assoc], fun b hb => ?_⟩, st.fix, st.new, st.grow⟩
  rcases List.mem_append.mp hb with h | h
  · exact hβ b h
  · rw [List.mem_singleton.mp h]
    exact hD0
theorem newRef {F : Hp} {α : List Addr} {S : List O} {H : Hp} {D : Addr} {o : O} (hs : Hs K F (α ++ [D]) (S ++ [o]) H) : RepV K F (α ++ [D]) (.ref D) (.rf S.length) := by
  refine .rf ?_
  have h := hs.len
  rw [List.length_append, List.length_append, List.length_singleton, List.length_singleton] at h
  rw [List.getElem?_append_right (by omega), show S.length - α.length = 0 by omega]
  rfl
instance {E : XK} {wi : TI} {g : TG} {tt : TT} {te : TE} {vs is : List Nat} {vi : VIt} {vg : VTG} {vt : VTT} {ve : VTE} [hi : SimI K E wi vi] [hg : SimG K E g vg] [gm : GMono g] [go : GOn g is] [ht : SimT K E tt vt] [he : SimE K E te ve] : SimE K E (tLc wi g tt te vs) (wLc vi vg vt ve is vs) :=
  ⟨fun {F α H σ Γ S Q q vx} hs sr xl ql h => lc_core hs sr xl h.1 h.2 fun F' α' H' acc S' D ws st hs' hD aD fD hD0 rr k => by
    unfold lcR at k
    split at k
    · rename_i ds e
      rw [allD_eq e] at rr
      have s2 := st.sideF (o := .lst ws) hD0 fD
      exact ql _ _ _ _ _ _ s2 (hs'.sideF hD aD fD) (.fz (.lst upd_same (rr.dkAll.same (same_upd fD)))) k
    · have h2 := hs'.sideA hD aD fD rr
      exact ql _ _ _ _ _ _ (st.sideA hD0) h2 (newRef h2) k⟩
instance {E : XK} {wi : TI} {g : TG} {tt : TT} {te : TE} {vs is : List Nat} {vi : VIt} {vg : VTG} {vt : VTT} {ve : VTE} [hi : SimI K E wi vi] [hg : SimG K E g vg] [gm : GMono g] [go : GOn g is] [ht : SimT K E tt vt] [he : SimE K E te ve] : SimE K E (tLcN wi g tt te vs) (wLcN vi vg vt ve is vs) :=
  ⟨fun {F α H σ Γ S Q q vx} hs sr xl ql h => lc_core hs sr xl h.1 h.2 fun F' α' H' acc S' D ws st hs' hD aD fD hD0 rr k => by
    have h2 := hs'.sideA hD aD fD rr
    exact ql _ _ _ _ _ _ (st.sideA hD0) h2 (newRef h2) k⟩

/-! operations on values -/
/-- the items of a list -/
def seqOf (S : List O) : T → Option (List T)
  | .fz (.list ds) => some (ds.map T.fz)
  | .rf j => match S[j]? with
    | some (.lst ts) => some ts
    | _ => none
  | _ => none
theorem seqOf_ok {F H : Hp} {α : List Addr} {S : List O} {t : T} {ts : List T} {v : V} (hs : Hs K F α S H) (r : RepV K F α v t) (e : seqOf S t = some ts) : ∃ a vs, v = .ref a ∧ H a = some (.lst vs) ∧ RepVs K F α vs ts := by
  cases t with
  | fz d =>
    cases d with
    | list ds =>
      cases e
      obtain ⟨a, xs, rfl, h1, h2⟩ := lstV r
      exact ⟨a, xs, rfl, hs.sub _ _ h1, h2.reps⟩
    | _ => cases e
  | rf j =>
    cases r with
    | rf ha =>
      rename_i a
      unfold seqOf at e
      dsimp only at e
      split at e
      · rename_i us e2
        cases e
        obtain ⟨vs, h1, h2⟩ := hs.lst ha e2
        exact ⟨a, vs, rfl, h1, h2⟩
      · cases e
  | tp us => cases e
  | scr ns => cases e
/-- a new list: data stays as it is -/
def newL (q : VQ) (ts : List T) (S : List O) : Prop := match allD ts with
  | some ds => q (.fz (.list ds)) S
  | none => q (.rf S.length) (S ++ [.lst ts])
theorem newL_ok {F H : Hp} {α : List Addr} {S : List O} {Q : VK} {q : VQ} {ts : List T} {vs : List V} (hs : Hs K F α S H) (ql : QL K F α H Q q) (r : RepVs K F α vs ts) (h : newL q ts S) (p : Addr) (hp : H p = none) : Q (.ref p) (upd H p (.lst vs)) := by
  unfold newL at h
  split at h
  · rename_i ds e
    rw [allD_eq e] at r
    obtain ⟨h1, h2, h3⟩ := hs.lstN hp r
    exact ql _ _ _ _ _ _ h2 h1 h3 h
  · obtain ⟨h1, h2⟩ := hs.alloc hp (.lst vs) (.lst ts) fun H' e => ⟨vs, e, r.mono Same.rfl'⟩
    exact ql _ _ _ _ _ _ h2 h1 (newRef h1) h
def newLN (q : VQ) (ts : List T) (S : List O) : Prop := q (.rf S.length) (S ++ [.lst ts])
theorem newLN_ok {F H : Hp} {α : List Addr} {S : List O} {Q : VK} {q : VQ} {ts : List T} {vs : List V} (hs : Hs K F α S H) (ql : QL K F α H Q q) (r : RepVs K F α vs ts) (h : newLN q ts S) (p : Addr) (hp : H p = none) : Q (.ref p) (upd H p (.lst vs)) := by
  obtain ⟨h1, h2⟩ := hs.alloc hp (.lst vs) (.lst ts) fun H' e => ⟨vs, e, r.mono Same.rfl'⟩
  exact ql _ _ _ _ _ _ h2 h1 (newRef h1) h
theorem newT_ok {F H : Hp} {α : List Addr} {S : List O} {Q : VK} {q : VQ} {ts : List T} {vs : List V} (hs : Hs K F α S H) (ql : QL K F α H Q q) (r : RepVs K F α vs ts) (h : q (tupT ts) S) (p : Addr) (hp : H p = none) : Q (.ref p) (upd H p (.tup vs)) := by
  obtain ⟨h1, h2, h3⟩ := hs.tup hp r
  exact ql _ _ _ _ _ _ h2 h1 h3 h
/-! displays -/
def wLst (a : VTA) : VTE := fun vx Γ S q => a vx Γ S fun ts S1 => ts.length ≤ 100000 ∧ newL q ts S1
def wLstN (a : VTA) : VTE := fun vx Γ S q => a vx Γ S fun ts S1 => ts.length ≤ 100000 ∧ newLN q ts S1
def wTup (a : VTA) : VTE := fun vx Γ S q => a vx Γ S fun ts S1 => ts.length ≤ 100000 ∧ q (tupT ts) S1
def tLstN (t : TA) : TE := tLst t
section
variable {E : XK} {ta : TA} {wa : VTA}
instance [ha : SimA K E ta wa] : SimE K E (tLst ta) (wLst wa) := ⟨fun {F α H σ Γ S Q q vx} hs sr xl ql h => ha.sim hs sr xl (fun _ _ _ _ _ _ s hs' rr z => ⟨by rw [rr.len]; exact small_sz z.1, newL_ok hs' (ql.step s) rr z.2⟩) h⟩
instance [ha : SimA K E ta wa] : SimE K E (tLstN ta) (wLstN wa) := ⟨fun {F α H σ Γ S Q q vx} hs sr xl ql h => ha.sim hs sr xl (fun _ _ _ _ _ _ s hs' rr z => ⟨by rw [rr.len]; exact small_sz z.1, newLN_ok hs' (ql.step s) rr z.2⟩) h⟩
instance [ha : SimA K E ta wa] : SimE K E (tTup ta) (wTup wa) := ⟨fun {F α H σ Γ S Q q vx} hs sr xl ql h => ha.sim hs sr xl (fun _ _ _ _ _ _ s hs' rr z => ⟨by rw [rr.len]; exact small_sz z.1, newT_ok hs' (ql.step s) rr z.2⟩) h⟩
end
/-! numbers -/
def vI0 (f : Int → Int → Int) : VR2 := fun x y S q => match x, y with
  | .fz (.int i), .fz (.int j) => q (.fz (.int (f i j))) S
  | _, _ => False
def vI0b (f : Int → Int → Bool) : VR2 := fun x y S q => match x, y with
  | .fz (.int i), .fz (.int j) => q (.fz (.bool (f i j))) S
  | _, _ => False
def vI (C : Int → Int → Prop) (f : Int → Int → Int) : VR2 := fun x y S q => match x, y with
  | .fz (.int i), .fz (.int j) => C i j ∧ q (.fz (.int (f i j))) S
  | _, _ => False
theorem ql_here {F H : Hp} {α : List Addr} {S : List O} {Q : VK} {q : VQ} {v : V} {t : T} (hs : Hs K F α S H) (ql : QL K F α H Q q) (r : RepV K F α v t) (h : q t S) : Q v H := ql _ _ _ _ _ _ .refl hs r h
instance {f : Int → Int → Int} : LOp K (rI0 fun i j => V.int (f i j)) (vI0 f) := ⟨fun {F α H S x y tx ty Q q} hs rx ry ql h => by
  unfold vI0 at h
  split at h
  · exact ⟨_, _, intV rx, intV ry, ql_here hs ql (.fz (.int _)) h⟩
  · exact h.elim⟩
instance {f : Int → Int → Bool} : LOp K (rI0 fun i j => V.bl (f i j)) (vI0b f) := ⟨fun {F α H S x y tx ty Q q} hs rx ry ql h => by
  unfold vI0b at h
  split at h
  · exact ⟨_, _, intV rx, intV ry, ql_here hs ql (.fz (.bl _)) h⟩
  · exact h.elim⟩
instance {C : Int → Int → Prop} {f : Int → Int → Int} : LOp K (rI C fun i j => V.int (f i j)) (vI C f) := ⟨fun {F α H S x y tx ty Q q} hs rx ry ql h => by
  unfold vI at h
  split at h
  · exact ⟨_, _, intV rx, intV ry, h.1, ql_here hs ql (.fz (.int _)) h.2⟩
  · exact h.elim⟩
def vNeg : T → List O → VQ → Prop := fun x S q => match x with
  | .fz (.int i) => q (.fz (.int (-i))) S
  | _ => False
instance : LUn K (rU fun i => V.int (-i)) vNeg := ⟨fun {F α H S x tx Q q} hs rx ql h => by
  unfold vNeg at h
  split at h
  · exact ⟨_, intV rx, ql_here hs ql (.fz (.int _)) h⟩
  · exact h.elim⟩
/-! +: numbers, texts, lists, tuples -/
def rAddX (K : PySem.W.Frag) : R2 := fun x y H Q => (∃ i j, x = .int i ∧ y = .int j ∧ Q (.int (i + j)) H) ∨ (∃ i j, x = .str i ∧ y = .str j ∧ i.length + j.length ≤ sizeLine ∧ Q (.str (i ++ j)) H) ∨ rCat x y H Q ∨ rCatA K x y H Q
def rAddXN (K : PySem.W.Frag) : R2 := rAddX K
theorem op_addX {X : Cx} : OpR X (binaryOp .Add) (rAddX X.K) := fun pins s σ H x y v u Q I rx ry h => by
  rcases h with h | h | h | h
  · exact op_add pins s σ H x y v u Q I rx ry h
  · exact op_add_str pins s σ H x y v u Q I rx ry h
  · exact op_cat pins s σ H x y v u Q I rx ry h
  · exact op_catA pins s σ H x y v u Q I rx ry h
theorem op_addXN {X : Cx} : OpR X (binaryOp .Add) (rAddXN X.K) := op_addX
def catL (k : VQ → List T → List O → Prop) (x y : T) (S : List O) (q : VQ) : Prop := match seqOf S x, seqOf S y with
  | some ts, some us => ts.length + us.length ≤ 100000 ∧ k q (ts ++ us) S
  | _, _ => match itemsT x, itemsT y with
    | some ts, some us => ts.length + us.length ≤ 100000 ∧ (if ts = [] then q y S else if us = [] then q x S else q (tupT (ts ++ us)) S)
    | _, _ => False
def vAdd : VR2 := fun x y S q => match x, y with
  | .fz (.int i), .fz (.int j) => q (.fz (.int (i + j))) S
  | .fz (.str i), .fz (.str j) => i.length + j.length ≤ sizeLine ∧ q (.fz (.str (i ++ j))) S
  | .fz (.list xs), .fz (.list ys) => xs.length + ys.length ≤ 100000 ∧ q (.fz (.list (xs ++ ys))) S
  | .fz (.tuple xs), .fz (.tuple ys) => xs.length + ys.length ≤ 100000 ∧ q (.fz (.tuple (xs ++ ys))) S
  | x, y => catL newL x y S q
def vAddN : VR2 := fun x y S q => catL newLN x y S q
theorem catL_ok {F H : Hp} {α : List Addr} {S : List O} {x y : V} {tx ty : T} {Q : VK} {q : VQ} (k : VQ → List T → List O → Prop)
    (hk : ∀ {ts : List T} {vs : List V}, RepVs K F α vs ts → k q ts S → ∀ p, H p = none → Q (.ref p) (upd H p (.lst vs))) (hs : Hs K F α S H) (rx : RepV K F α x tx) (ry : RepV K F α y ty) (ql : QL K F α H Q q) (h : catL k tx ty S q) : rAddX K x y H Q := by
  unfold catL at h
  split at h
  · rename_i ts us e1 e2
    obtain ⟨a, vs, rfl, h1, h2⟩ := seqOf_ok hs rx e1
    obtain ⟨b, ws, rfl, h3, h4⟩ := seqOf_ok hs ry e2
    exact .inr (.inr (.inl ⟨a, b, vs, ws, rfl, rfl, h1, h3, by rw [h2.len, h4.len]; exact small_sz h.1, hk (h2.append h4) h.2⟩))
  · split at h
    · rename_i ts us e1 e2
      obtain ⟨a, vs, rfl, h1, h2⟩ := itemsT_ok rx e1
      obtain ⟨b, ws, rfl, h3, h4⟩ := itemsT_ok ry e2
      have l1 := h2.len
      have l2 := h4.len
      refine .inr (.inr (.inr ⟨a, b, vs, ws, rfl, rfl, h1 _ hs.sub, h3 _ hs.sub, by rw [l1, l2]; exact small_sz h.1, fun e => ?_, fun e1' e2' => ?_, fun e1' e2' => ?_⟩))
      · have : ts = [] := List.eq_nil_of_length_eq_zero (by rw [← l1, e]; rfl)
        have h := h.2
        rw [if_pos this] at h
        exact ql_here hs ql ry h
      · have n1 : ts ≠ [] := fun z => e1' (List.eq_nil_of_length_eq_zero (by rw [l1, z]; rfl))
        have n2 : us = [] := List.eq_nil_of_length_eq_zero (by rw [← l2, e2']; rfl)
        have h := h.2
        rw [if_neg n1, if_pos n2] at h
        exact ql_here hs ql rx h
      · have n1 : ts ≠ [] := fun z => e1' (List.eq_nil_of_length_eq_zero (by rw [l1, z]; rfl))
        have n2 : us ≠ [] := fun z => e2' (List.eq_nil_of_length_eq_zero (by rw [l2, z]; rfl))
        have h := h.2
        rw [if_neg n1, if_neg n2] at h
        exact newT_ok hs ql (h2.append h4) h
    · exact h.elim
theorem allD_some {ts : List T} {ds : List PyData} (h : allD ts = some ds) : tupT ts = .fz (.tuple ds) := by
  unfold tupT
  rw [h]
theorem allD_append (xs ys : List PyData) : allD (xs.map T.fz ++ ys.map T.fz) = some (xs ++ ys) := by
  rw [← List.map_append]
  exact allD_map _
theorem tupT_map (ds : List PyData) : tupT (ds.map T.fz) = .fz (.tuple ds) := allD_some (allD_map ds)
theorem newL_map {q : VQ} {S : List O} (ds : List PyData) : newL q (ds.map T.fz) S ↔ q (.fz (.list ds)) S := by
  unfold newL
  rw [allD_map]
instance : LOp K (rAddX K) vAdd := ⟨fun {F α H S x y tx ty Q q} hs rx ry ql h => by
  unfold vAdd at h
  split at h
  · exact .inl ⟨_, _, intV rx, intV ry, ql_here hs ql (.fz (.int _)) h⟩
  · exact .inr (.inl ⟨_, _, strV rx, strV ry, h.1, ql_here hs ql (.fz (.str _)) h.2⟩)
  · rename_i xs ys
    refine catL_ok newL (fun r h => newL_ok hs ql r h) hs rx ry ql ?_
    unfold catL
    dsimp only [seqOf]
    refine ⟨by rw [List.length_map, List.length_map]; exact h.1, ?_⟩
    rw [← List.map_append]
    exact (newL_map _).mpr h.2
  · rename_i xs ys
    refine catL_ok newL (fun r h => newL_ok hs ql r h) hs rx ry ql ?_
    unfold catL
    dsimp only [seqOf, itemsT]
    refine ⟨by rw [List.length_map, List.length_map]; exact h.1, ?_⟩
    rw [← List.map_append, tupT_map]
    split
    · rename_i e
      have e2 : xs = [] := List.map_eq_nil_iff.mp e
      subst e2
      exact h.2
    · split
      · rename_i e
        have e2 : ys = [] := List.map_eq_nil_iff.mp e
        subst e2
        have h2 := h.2
        rw [List.append_nil] at h2
        exact h2
      · exact h.2
  · exact catL_ok newL (fun r h => newL_ok hs ql r h) hs rx ry ql h⟩
instance : LOp K (rAddXN K) vAddN := ⟨fun {F α H S x y tx ty Q q} hs rx ry ql h => catL_ok newLN (fun r h => newLN_ok hs ql r h) hs rx ry ql h⟩
/-! ==, != -/
/-- of flat data -/
def eqS : PyData → PyData → Option Bool
  | .none, .none => some true
  | .none, .int _ => some false
  | .none, .bool _ => some false
  | .none, .str _ => some false
  | .int _, .none => some false
  | .bool _, .none => some false
  | .str _, .none => some false
  | .int i, .int j => some (decide (i = j))
  | .bool i, .bool j => some (decide (i = j))
  | .str i, .str j => some (decide (i = j))
  | .int _, .str _ => some false
  | .str _, .int _ => some false
  | .bool _, .str _ => some false
  | .str _, .bool _ => some false
  | _, _ => none
def rEqX (K : PySem.W.Frag) : R2 := fun x y H Q => rEq x y H Q ∨ rEqD K x y H Q
def rNeX (K : PySem.W.Frag) : R2 := fun x y H Q => rNe x y H Q ∨ rNeD K x y H Q
theorem op_eqX {X : Cx} (hu : X.A.units + 64 < cLine) : OpR X (compareOp .Eq) (rEqX X.K) := fun pins s σ H x y v u Q I rx ry h => h.elim (op_eq pins s σ H x y v u Q I rx ry) (op_eqD hu pins s σ H x y v u Q I rx ry)
theorem op_neX {X : Cx} (hu : X.A.units + 64 < cLine) : OpR X (compareOp .NotEq) (rNeX X.K) := fun pins s σ H x y v u Q I rx ry h => h.elim (op_ne pins s σ H x y v u Q I rx ry) (op_neD hu pins s σ H x y v u Q I rx ry)
/-- what a value is as data, where it stands -/
def datOf (S : List O) : T → Option PyData
  | .fz d => some d
  | .rf j => match S[j]? with
    | some (.lst ts) => (allD ts).map .list
    | _ => none
  | .tp _ => none
  | .scr _ => none
theorem datOf_ok {F H : Hp} {α : List Addr} {S : List O} {t : T} {d : PyData} {v : V} (hs : Hs K F α S H) (r : RepV K F α v t) (e : datOf S t = some d) : Dp K H v d := by
  cases t with
  | fz d' =>
    cases e
    cases r with
    | fz h => exact (h.same hs.sub).dp
  | rf j =>
    cases r with
    | rf ha =>
      unfold datOf at e
      dsimp only at e
      split at e
      · rename_i us e2
        obtain ⟨vs, h1, h2⟩ := hs.lst ha e2
        cases e3 : allD us with
        | none =>
          rw [e3] at e
          cases e
        | some ds =>
          rw [e3] at e
          cases e
          rw [allD_eq e3] at h2
          exact .lst (SqL.of h1) (h2.dkAll.same hs.sub).dp
      · cases e
  | tp us => cases e
  | scr ns => cases e
def vEqW (f : Bool → Bool) : VR2 := fun x y S q => match datOf S x, datOf S y with
  | some d, some e => match eqS d e with
    | some b => q (.fz (.bool (f b))) S
    | none => SeqAt.shaped d = true ∧ SeqAt.shaped e = true ∧ q (.fz (.bool (f (PyData.eqv d e)))) S
  | _, _ => False
theorem eqS_ok {F : Hp} {α : List Addr} {x y : V} {d e : PyData} {b : Bool} (rx : RepV K F α x (.fz d)) (ry : RepV K F α y (.fz e)) (h : eqS d e = some b) : scal x y = true ∧ decide (x = y) = b := by
  cases rx with
  | fz hx =>
    cases ry with
    | fz hy =>
      cases hx <;> cases hy <;> first
        | (cases h; done)
        | (cases h; refine ⟨rfl, ?_⟩; first | rfl | (rw [decide_eq_decide]; exact ⟨fun z => by injection z, fun z => by rw [z]⟩))
theorem datOf_sc {S : List O} {t : T} {d e : PyData} {b : Bool} (h : datOf S t = some d) (g : eqS d e = some b ∨ eqS e d = some b) : t = .fz d := by
  cases t with
  | fz d' => cases h; rfl
  | rf j =>
    unfold datOf at h
    dsimp only at h
    split at h
    · rename_i us e2
      cases e3 : allD us with
      | none =>
        rw [e3] at h
        cases h
      | some ds =>
        rw [e3] at h
        cases h
        rcases g with g | g
        · cases e <;> cases g
        · cases e <;> cases g
    · cases h
  | tp us => cases h
  | scr ns => cases h
theorem eqW_ok {F H : Hp} {α : List Addr} {S : List O} {x y : V} {tx ty : T} {Q : VK} {q : VQ} {f : Bool → Bool} (hs : Hs K F α S H) (rx : RepV K F α x tx) (ry : RepV K F α y ty) (ql : QL K F α H Q q) (h : vEqW f tx ty S q) :
    (scal x y = true ∧ Q (.bl (f (decide (x = y)))) H) ∨ (∃ d e, Dp K H x d ∧ Dp K H y e ∧ SeqAt.shaped d = true ∧ SeqAt.shaped e = true ∧ Q (.bl (f (PyData.eqv d e))) H) := by
  unfold vEqW at h
  split at h
  · rename_i d e e1 e2
    split at h
    · rename_i b eb
      have t1 := datOf_sc e1 (.inl eb)
      have t2 := datOf_sc e2 (.inr eb)
      subst t1 t2
      obtain ⟨h1, h2⟩ := eqS_ok rx ry eb
      refine .inl ⟨h1, ?_⟩
      rw [h2]
      exact ql_here hs ql (.fz (.bl _)) h
    · exact .inr ⟨d, e, datOf_ok hs rx e1, datOf_ok hs ry e2, h.1, h.2.1, ql_here hs ql (.fz (.bl _)) h.2.2⟩
  · exact h.elim
instance : LOp K (rEqX K) (vEqW id) := ⟨fun hs rx ry ql h => eqW_ok hs rx ry ql h⟩
instance : LOp K (rNeX K) (vEqW not) := ⟨fun hs rx ry ql h => eqW_ok hs rx ry ql h⟩
def vIsB : VR2 := fun x y S q => match x, y with
  | .fz (.bool a), .fz (.bool b) => q (.fz (.bool (decide (a = b)))) S
  | _, _ => False
instance : LOp K rIsB vIsB := ⟨fun {F α H S x y tx ty Q q} hs rx ry ql h => by
  unfold vIsB at h
  split at h
  · exact ⟨_, _, boolV rx, boolV ry, ql_here hs ql (.fz (.bl _)) h⟩
  · exact h.elim⟩
instance : LOp K (fun x y H Q => y = .non ∧ Q (.bl (decide (x = .non))) H) (fun x y S q => y = .fz .none ∧ q (.fz (.bool (isNon x))) S) := ⟨fun {F α H S x y tx ty Q q} hs rx ry ql h => by
  obtain ⟨h1, h2⟩ := h
  subst h1
  exact ⟨nonV ry, by rw [isNon_ok rx]; exact ql_here hs ql (.fz (.bl _)) h2⟩⟩

/-! x[i], x[i:j] -/
/-- the item at i, from the end if i is below 0 -/
def atN {α : Type} (xs : List α) (i : Int) : Option α := if 0 ≤ i then xs[i.toNat]? else if 0 ≤ xs.length + i then xs[(xs.length + i).toNat]? else none
theorem atN_atI {α : Type} {xs : List α} {i : Int} {v : α} (h : atN xs i = some v) : atI xs i = some v := by
  unfold atN at h
  split at h
  · rename_i h0
    have := atI_nat h
    rw [Int.toNat_of_nonneg h0] at this
    exact this
  · split at h
    · rename_i h0 h1
      have hj := (List.getElem?_eq_some_iff.mp h).1
      unfold atI
      have e : ixN xs.length i = some (xs.length + i).toNat := by
        unfold ixN
        rw [if_neg (by omega), if_pos (by omega)]
        congr 1
        omega
      rw [e]
      exact h
    · cases h
theorem atN_map {α β : Type} (f : α → β) (xs : List α) (i : Int) : atN (xs.map f) i = (atN xs i).map f := by
  unfold atN
  rw [List.length_map, List.getElem?_map, List.getElem?_map]
  split
  · rfl
  · split <;> rfl
theorem atN_nat {α : Type} (xs : List α) (i : Nat) : atN xs (i : Int) = xs[i]? := by
  unfold atN
  rw [if_pos (by omega)]
  rfl
theorem atN_rep {F : Hp} {α : List Addr} {vs : List V} {ts : List T} (r : RepVs K F α vs ts) {i : Int} {t : T} (h : atN ts i = some t) : ∃ v, atI vs i = some v ∧ RepV K F α v t := by
  unfold atN at h
  have hl := r.len
  split at h
  · rename_i h0
    obtain ⟨v, h1, h2⟩ := r.at_ h
    exact ⟨v, atN_atI (by unfold atN; rw [if_pos h0]; exact h1), h2⟩
  · split at h
    · rename_i h0 h1
      obtain ⟨v, h3, h4⟩ := r.at_ h
      exact ⟨v, atN_atI (by unfold atN; rw [if_neg h0, if_pos (by rw [hl]; exact h1), hl]; exact h3), h4⟩
    · cases h
/-- the items of a list or a tuple -/
def itemsA (S : List O) : T → Option (List T)
  | .scr ns => some (ns.map fun i => .fz (.int i))
  | t => match itemsT t with
    | some ts => some ts
    | none => seqOf S t
theorem reps_scr {F : Hp} {α : List Addr} : ∀ ns : List Int, RepVs K F α (ns.map V.int) (ns.map fun i => T.fz (.int i))
  | [] => .nil
  | _ :: ns => .cons (.fz (.int _)) (reps_scr ns)
theorem itemsA_ok {F H : Hp} {α : List Addr} {S : List O} {t : T} {ts : List T} {v : V} (hs : Hs K F α S H) (r : RepV K F α v t) (e : itemsA S t = some ts) : ∃ a vs, v = .ref a ∧ (SqL K H a vs ∨ SqT K H a vs) ∧ RepVs K F α vs ts := by
  unfold itemsA at e
  split at e
  · cases e
    cases r with
    | scr h => exact ⟨_, _, rfl, .inl (hs.sub.seq h), reps_scr _⟩
  · split at e
    · rename_i us e2
      cases e
      obtain ⟨a, vs, rfl, h1, h2⟩ := itemsT_ok r e2
      exact ⟨a, vs, rfl, .inr (h1 _ hs.sub), h2⟩
    · obtain ⟨a, vs, rfl, h1, h2⟩ := seqOf_ok hs r e
      exact ⟨a, vs, rfl, .inl (SqL.of h1), h2⟩
def strAt (z : Str) (i : Int) : Option Str := (atN z.cps.toList i).map fun c => ⟨#[c]⟩
def vIx : VR2 := fun x y S q => match x, y with
  | .fz (.list ds), .fz (.int i) => match atN ds i with
    | some d => q (.fz d) S
    | none => False
  | .fz (.tuple ds), .fz (.int i) => match atN ds i with
    | some d => q (.fz d) S
    | none => False
  | .fz (.str z), .fz (.int i) => z.length ≤ sizeLine ∧ match strAt z i with
    | some c => q (.fz (.str c)) S
    | none => False
  | x, .fz (.int i) => match itemsA S x with
    | some ts => match atN ts i with
      | some t => q t S
      | none => False
    | none => False
  | _, _ => False
theorem ixItems {F H : Hp} {α : List Addr} {S : List O} {x : V} {tx t : T} {ts : List T} {i : Int} {Q : VK} {q : VQ} (hs : Hs K F α S H) (rx : RepV K F α x tx) (ql : QL K F α H Q q) (e : itemsA S tx = some ts) (e2 : atN ts i = some t) (h : q t S) : rIx K x (.int i) H Q := by
  obtain ⟨a, vs, rfl, h1, h2⟩ := itemsA_ok hs rx e
  obtain ⟨v, h3, h4⟩ := atN_rep h2 e2
  rcases h1 with h1 | h1
  · exact .inl ⟨a, vs, i, v, rfl, rfl, h1, h3, ql_here hs ql h4 h⟩
  · exact .inr (.inl ⟨a, vs, i, v, rfl, rfl, h1, h3, ql_here hs ql h4 h⟩)
instance : LOp K (rIx K) vIx := ⟨fun {F α H S x y tx ty Q q} hs rx ry ql h => by
  unfold vIx at h
  split at h
  · split at h
    · rename_i e
      rw [intV ry]
      exact ixItems hs rx ql (ts := _) (by unfold itemsA; rfl) (by rw [atN_map, e]; rfl) h
    · exact h.elim
  · split at h
    · rename_i e
      rw [intV ry]
      exact ixItems hs rx ql (ts := _) (by unfold itemsA; rfl) (by rw [atN_map, e]; rfl) h
    · exact h.elim
  · obtain ⟨hz, h⟩ := h
    split at h
    · rename_i e
      unfold strAt at e
      rw [Option.map_eq_some_iff] at e
      obtain ⟨cp, e2, rfl⟩ := e
      rw [intV ry, strV rx]
      exact .inr (.inr ⟨_, _, cp, rfl, rfl, hz, atN_atI e2, ql_here hs ql (.fz (.str _)) h⟩)
    · exact h.elim
  · split at h
    · rename_i e
      split at h
      · rename_i e2
        rw [intV ry]
        exact ixItems hs rx ql e e2 h
      · exact h.elim
    · exact h.elim
  · exact h.elim⟩
def vPart (e : VTE) : VTO := fun vx Γ S q => e vx Γ S fun x S1 => match x with
  | .fz (.int i) => q (some i) S1
  | _ => False
def vNoPart : VTO := fun _ _ S q => q none S
instance {E : XK} {te : TE} {we : VTE} [he : SimE K E te we] : SimO K E (tPart te) (vPart we) := ⟨fun {F α H σ Γ S Q q vx} hs sr xl ol h => he.sim hs sr xl (fun _ _ _ v r _ s hs' rr z => by
  split at z
  · exact ⟨_, intV rr, ol _ _ _ _ _ s hs' z⟩
  · exact z.elim) h⟩
instance {E : XK} : SimO K E tNoPart vNoPart := ⟨fun hs _ _ ol h => ol _ _ _ _ _ .refl hs h⟩
def cutL {α : Type} (xs : List α) (lo hi : Option Int) : List α := (xs.drop (HT.sIx xs.length 0 lo)).take (HT.sIx xs.length xs.length hi - HT.sIx xs.length 0 lo)
theorem cutL_map {α β : Type} (f : α → β) (xs : List α) (lo hi : Option Int) : cutL (xs.map f) lo hi = (cutL xs lo hi).map f := by
  unfold cutL
  rw [List.length_map, List.map_take, List.map_drop]
class LSl (K : PySem.W.Frag) (r : V → Option Int → Option Int → Hp → VK → Prop) (rv : outParam (T → Option Int → Option Int → List O → VQ → Prop)) : Prop where
  lift : ∀ {F α H S x tx lo hi} {Q : VK} {q : VQ}, Hs K F α S H → RepV K F α x tx → QL K F α H Q q → rv tx lo hi S q → r x lo hi H Q
def wSl (r : T → Option Int → Option Int → List O → VQ → Prop) (e : VTE) (l h : VTO) : VTE := fun vx Γ S q => e vx Γ S fun x S1 => l vx Γ S1 fun lo S2 => h vx Γ S2 fun hi S3 => r x lo hi S3 q
instance {E : XK} {r : V → Option Int → Option Int → Hp → VK → Prop} {rv : T → Option Int → Option Int → List O → VQ → Prop} {te : TE} {tl th : TO} {we : VTE} {wl wh : VTO} [he : SimE K E te we] [hl : SimO K E tl wl] [hh : SimO K E th wh] [l : LSl K r rv] : SimE K E (tSl r te tl th) (wSl rv we wl wh) :=
  ⟨fun hs sr xl ql h => he.sim hs sr xl (fun _ _ _ _ _ _ s1 hs1 r1 k => hl.sim hs1 (sr.step s1) (xl.step s1) (fun _ _ _ _ _ s2 hs2 k => hh.sim hs2 (sr.step (s1.trans s2)) (xl.step (s1.trans s2)) (fun _ _ _ _ _ s3 hs3 k => l.lift hs3 (r1.step (s2.trans s3)) (ql.step ((s1.trans s2).trans s3)) k) k) k) h⟩
/-- lists, tuples, texts -/
def rSlX (K : PySem.W.Frag) : V → Option Int → Option Int → Hp → VK → Prop := fun x lo hi H Q => rSlL K x lo hi H Q ∨ rSlA K x lo hi H Q ∨ rSlS x lo hi H Q
def rSlXN (K : PySem.W.Frag) : V → Option Int → Option Int → Hp → VK → Prop := rSlL K
theorem sl_X {X : Cx} : SlR X (rSlX X.K) := fun pins s σ H x v vl vu lo hi sl Q I rx hs pl pu h => by
  rcases h with h | h | h
  · exact sl_list pins s σ H x v vl vu lo hi sl Q I rx hs pl pu h
  · exact sl_tupA pins s σ H x v vl vu lo hi sl Q I rx hs pl pu h
  · exact sl_str pins s σ H x v vl vu lo hi sl Q I rx hs pl pu h
theorem sl_XN {X : Cx} : SlR X (rSlXN X.K) := sl_list
def vSl : T → Option Int → Option Int → List O → VQ → Prop := fun x lo hi S q => match x with
  | .fz (.list ds) => q (.fz (.list (cutL ds lo hi))) S
  | .fz (.tuple ds) => q (.fz (.tuple (cutL ds lo hi))) S
  | .fz (.str z) => z.length ≤ sizeLine ∧ q (.fz (.str (cutS z lo hi))) S
  | x => match seqOf S x with
    | some ts => newL q (cutL ts lo hi) S
    | none => False
theorem RepVs.cut {F : Hp} {α : List Addr} {vs : List V} {ts : List T} (r : RepVs K F α vs ts) (lo hi : Option Int) : RepVs K F α (cutV vs lo hi) (cutL ts lo hi) := by
  unfold cutV cutL
  rw [r.len]
  exact (r.drop _).take _
theorem slL_ok {F H : Hp} {α : List Addr} {S : List O} {x : V} {tx : T} {ts : List T} {lo hi : Option Int} {Q : VK} {q : VQ} (hs : Hs K F α S H) (rx : RepV K F α x tx) (ql : QL K F α H Q q) (e : seqOf S tx = some ts) (h : newL q (cutL ts lo hi) S) : rSlL K x lo hi H Q := by
  obtain ⟨a, vs, rfl, h1, h2⟩ := seqOf_ok hs rx e
  exact ⟨a, vs, rfl, SqL.of h1, fun p hp => newL_ok hs ql (h2.cut lo hi) h p hp⟩
theorem cut_all {xs : List V} {lo hi : Option Int} (h : HT.sIx xs.length 0 lo = 0 ∧ HT.sIx xs.length xs.length hi = xs.length) {α : Type} {ys : List α} (hl : ys.length = xs.length) : cutL ys lo hi = ys := by
  unfold cutL
  rw [hl, h.1, h.2, List.drop_zero, Nat.sub_zero, ← hl, List.take_length]
instance : LSl K (rSlX K) vSl := ⟨fun {F α H S x tx lo hi Q q} hs rx ql h => by
  unfold vSl at h
  split at h
  · exact .inl (slL_ok hs rx ql (by unfold seqOf; rfl) (by rw [cutL_map]; exact (newL_map _).mpr h))
  · rename_i ds
    obtain ⟨a, vs, rfl, h1, h2⟩ := tupV rx
    refine .inr (.inl ⟨a, vs, rfl, h1 _ hs.sub, fun e => ?_, fun _ p hp => ?_⟩)
    · rw [cut_all e (by rw [h2.len])] at h
      exact ql_here hs ql rx h
    · have r2 : RepVs K F α vs (ds.map T.fz) := h2.reps
      exact newT_ok hs ql (r2.cut lo hi) (by rw [cutL_map, tupT_map]; exact h) p hp
  · rw [strV rx]
    exact .inr (.inr ⟨_, rfl, h.1, ql_here hs ql (.fz (.str _)) h.2⟩)
  · split at h
    · rename_i e
      exact .inl (slL_ok hs rx ql e h)
    · exact h.elim⟩
instance : LSl K (rSlXN K) (fun x lo hi S q => match seqOf S x with | some ts => newLN q (cutL ts lo hi) S | none => False) := ⟨fun {F α H S x tx lo hi Q q} hs rx ql h => by
  split at h
  · rename_i e
    obtain ⟨a, vs, rfl, h1, h2⟩ := seqOf_ok hs rx e
    exact ⟨a, vs, rfl, SqL.of h1, fun p hp => newLN_ok hs ql (h2.cut lo hi) h p hp⟩
  · exact h.elim⟩
/-! built-in functions -/
def rLenX (K : PySem.W.Frag) : List V → Hp → VK → Prop := fun xs H Q => ∃ x n, xs = [x] ∧ LenV K x H n ∧ Q (.int n) H
theorem call_lenX {X : Cx} : CallR X (.builtin "len") (rLenX X.K) := call_len
def vLen : VRs := fun ts S q => match ts with
  | [.fz (.list ds)] => q (.fz (.int ds.length)) S
  | [.fz (.tuple ds)] => q (.fz (.int ds.length)) S
  | [.fz (.str z)] => z.length ≤ sizeLine ∧ q (.fz (.int z.length)) S
  | [x] => match itemsA S x with
    | some ts => q (.fz (.int ts.length)) S
    | none => False
  | _ => False
theorem lenX_ok {F H : Hp} {α : List Addr} {S : List O} {xs : List V} {t : T} {ts : List T} {Q : VK} {q : VQ} (hs : Hs K F α S H) (rr : RepVs K F α xs [t]) (ql : QL K F α H Q q) (e : itemsA S t = some ts) (h : q (.fz (.int ts.length)) S) : rLenX K xs H Q := by
  obtain ⟨x, rfl, rx⟩ := rr.one
  obtain ⟨a, vs, rfl, h1, h2⟩ := itemsA_ok hs rx e
  refine ⟨_, vs.length, rfl, ?_, by rw [h2.len]; exact ql_here hs ql (.fz (.int _)) h⟩
  rcases h1 with h1 | h1
  · exact .inl ⟨vs, h1, rfl⟩
  · exact .inr ⟨vs, h1, rfl⟩
instance : LCall K (rLenX K) vLen := ⟨fun {F α H S xs ts Q q} hs rr ql h => by
  unfold vLen at h
  split at h
  · exact lenX_ok hs rr ql (by unfold itemsA; rfl) (by rw [List.length_map]; exact h)
  · exact lenX_ok hs rr ql (by unfold itemsA; rfl) (by rw [List.length_map]; exact h)
  · obtain ⟨x, rfl, rx⟩ := rr.one
    rw [strV rx]
    exact ⟨_, _, rfl, ⟨h.1, rfl⟩, ql_here hs ql (.fz (.int _)) h.2⟩
  · split at h
    · rename_i e
      exact lenX_ok hs rr ql e h
    · exact h.elim
  · exact h.elim⟩
/-- isinstance of data: of what it says -/
def tyT : T → Option String
  | .fz d => some (tyD d)
  | .tp _ => some "tuple"
  | .rf _ => none
  | .scr _ => none
def vIsi (c : String) : T → List O → VQ → Prop := fun x S q => match tyT x with
  | some t => match kitB t c with
    | some b => q (.fz (.bool b)) S
    | none => False
  | none => match seqOf S x with
    | some _ => match kitB "list" c with
      | some b => q (.fz (.bool b)) S
      | none => False
    | none => False
def wIsi (c : String) (e : VTE) : VTE := fun vx Γ S q => e vx Γ S fun x S1 => vIsi c x S1 q
theorem Dk.tyx {H : Hp} {v : V} {d : PyData} (h : Dk K H v d) : TyX K H v (.type (tyD d)) := by
  cases h with
  | non => exact .base .non
  | bl b => exact .base (.bl b)
  | int i => exact .base (.int i)
  | str x => exact .base (.str x)
  | lst e _ => exact .base (.lst e)
  | tup e _ => exact .base (.tup e)
  | ktup _ e _ => exact e.tyx H
theorem tyT_ok {F H : Hp} {α : List Addr} {S : List O} {x : V} {t : T} {c : String} (hs : Hs K F α S H) (r : RepV K F α x t) (e : tyT t = some c) : TyX K H x (.type c) := by
  cases r with
  | fz h =>
    cases e
    exact (h.same hs.sub).tyx
  | tp h _ =>
    cases e
    exact .base (.tup (hs.sub _ _ h))
  | rf _ => cases e
  | scr _ => cases e
instance (priority := high) {E : XK} {c : String} {te : TE} {we : VTE} [he : SimE K E te we] : SimE K E (tCB (rIsi K) (tCons te (tCons (tC (.ty c)) tNil))) (wIsi c we) := ⟨fun {F α H σ Γ S Q q vx} hs sr xl ql h => he.sim hs sr xl (fun _ _ _ v r _ s hs' rr z => by
  unfold vIsi at z
  split at z
  · rename_i t e
    split at z
    · rename_i b eb
      exact ⟨v, .ty c, .type t, .type c, b, rfl, .ty c, tyT_ok hs' rr e, kit_ty eb, ql_here hs' (ql.step s) (.fz (.bl _)) z⟩
    · exact z.elim
  · split at z
    · rename_i ts e2
      split at z
      · rename_i b eb
        obtain ⟨a, vs, rfl, h1, h2⟩ := seqOf_ok hs' rr e2
        exact ⟨_, .ty c, .type "list", .type c, b, rfl, .ty c, .base (.lst h1), kit_ty eb, ql_here hs' (ql.step s) (.fz (.bl _)) z⟩
      · exact z.elim
    · exact z.elim) h⟩
/-- all the same kind -/
def boolsD : List PyData → Option (List Bool)
  | [] => some []
  | .bool b :: ds => match boolsD ds with
    | some bs => some (b :: bs)
    | none => none
  | _ :: _ => none
theorem boolsD_map (bs : List Bool) : boolsD (bs.map .bool) = some bs := by
  induction bs with
  | nil => rfl
  | cons b bs ih =>
    show (match boolsD (bs.map .bool) with | some cs => some (b :: cs) | none => none) = _
    rw [ih]
theorem boolsD_eq {ds : List PyData} {bs : List Bool} (h : boolsD ds = some bs) : ds = bs.map .bool := by
  induction ds generalizing bs with
  | nil => cases h; rfl
  | cons d ds ih =>
    cases d with
    | bool b =>
      have h2 : (match boolsD ds with | some cs => some (b :: cs) | none => none) = some bs := h
      cases e : boolsD ds with
      | none => rw [e] at h2; cases h2
      | some cs =>
        rw [e] at h2
        cases h2
        rw [ih e]
        rfl
    | _ => cases h
def intsD : List PyData → Option (List Int)
  | [] => some []
  | .int b :: ds => match intsD ds with
    | some bs => some (b :: bs)
    | none => none
  | _ :: _ => none
theorem intsD_map (bs : List Int) : intsD (bs.map .int) = some bs := by
  induction bs with
  | nil => rfl
  | cons b bs ih =>
    show (match intsD (bs.map .int) with | some cs => some (b :: cs) | none => none) = _
    rw [ih]
theorem intsD_eq {ds : List PyData} {bs : List Int} (h : intsD ds = some bs) : ds = bs.map .int := by
  induction ds generalizing bs with
  | nil => cases h; rfl
  | cons d ds ih =>
    cases d with
    | int b =>
      have h2 : (match intsD ds with | some cs => some (b :: cs) | none => none) = some bs := h
      cases e : intsD ds with
      | none => rw [e] at h2; cases h2
      | some cs =>
        rw [e] at h2
        cases h2
        rw [ih e]
        rfl
    | _ => cases h
def strsD : List PyData → Option (List Str)
  | [] => some []
  | .str b :: ds => match strsD ds with
    | some bs => some (b :: bs)
    | none => none
  | _ :: _ => none
theorem strsD_map (bs : List Str) : strsD (bs.map .str) = some bs := by
  induction bs with
  | nil => rfl
  | cons b bs ih =>
    show (match strsD (bs.map .str) with | some cs => some (b :: cs) | none => none) = _
    rw [ih]
theorem strsD_eq {ds : List PyData} {bs : List Str} (h : strsD ds = some bs) : ds = bs.map .str := by
  induction ds generalizing bs with
  | nil => cases h; rfl
  | cons d ds ih =>
    cases d with
    | str b =>
      have h2 : (match strsD ds with | some cs => some (b :: cs) | none => none) = some bs := h
      cases e : strsD ds with
      | none => rw [e] at h2; cases h2
      | some cs =>
        rw [e] at h2
        cases h2
        rw [ih e]
        rfl
    | _ => cases h
theorem dk_bools {F : Hp} : ∀ {bs : List Bool} {vs : List V}, DkAll K F vs (bs.map .bool) → vs = bs.map V.bl
  | [], _, .nil => rfl
  | b :: bs, _, .cons (.bl _) r => congrArg _ (dk_bools r)
theorem dk_ints {F : Hp} : ∀ {bs : List Int} {vs : List V}, DkAll K F vs (bs.map .int) → vs = bs.map V.int
  | [], _, .nil => rfl
  | b :: bs, _, .cons (.int _) r => congrArg _ (dk_ints r)
theorem dk_strs {F : Hp} : ∀ {bs : List Str} {vs : List V}, DkAll K F vs (bs.map .str) → vs = bs.map V.str
  | [], _, .nil => rfl
  | b :: bs, _, .cons (.str _) r => congrArg _ (dk_strs r)
/-- the data of a list -/
def datsOf (S : List O) (t : T) : Option (List PyData) := match t with
  | .fz (.list ds) => some ds
  | t => match seqOf S t with
    | some ts => allD ts
    | none => none
theorem datsOf_ok {F H : Hp} {α : List Addr} {S : List O} {t : T} {ds : List PyData} {v : V} (hs : Hs K F α S H) (r : RepV K F α v t) (e : datsOf S t = some ds) : ∃ a vs, v = .ref a ∧ H a = some (.lst vs) ∧ DkAll K F vs ds := by
  unfold datsOf at e
  split at e
  · cases e
    obtain ⟨a, xs, rfl, h1, h2⟩ := lstV r
    exact ⟨a, xs, rfl, hs.sub _ _ h1, h2⟩
  · split at e
    · rename_i ts e2
      obtain ⟨a, vs, rfl, h1, h2⟩ := seqOf_ok hs r e2
      rw [allD_eq e] at h2
      exact ⟨a, vs, rfl, h1, h2.dkAll⟩
    · cases e
def vAll : VRs := fun ts S q => match ts with
  | [x] => match (datsOf S x).bind boolsD with
    | some bs => q (.fz (.bool (bs.all id))) S
    | none => False
  | _ => False
def vAny : VRs := fun ts S q => match ts with
  | [x] => match (datsOf S x).bind boolsD with
    | some bs => q (.fz (.bool (bs.any id))) S
    | none => False
  | _ => False
def vSum : VRs := fun ts S q => match ts with
  | [x] => match (datsOf S x).bind intsD with
    | some bs => q (.fz (.int bs.sum)) S
    | none => False
  | _ => False
theorem bools_ok {F H : Hp} {α : List Addr} {S : List O} {t : T} {bs : List Bool} {v : V} (hs : Hs K F α S H) (r : RepV K F α v t) (e : (datsOf S t).bind boolsD = some bs) : ∃ a, v = .ref a ∧ H a = some (.lst (bs.map V.bl)) := by
  cases e2 : datsOf S t with
  | none =>
    rw [e2] at e
    cases e
  | some ds =>
    rw [e2] at e
    obtain ⟨a, vs, rfl, h1, h2⟩ := datsOf_ok hs r e2
    rw [boolsD_eq e] at h2
    rw [dk_bools h2] at h1
    exact ⟨a, rfl, h1⟩
theorem ints_ok {F H : Hp} {α : List Addr} {S : List O} {t : T} {bs : List Int} {v : V} (hs : Hs K F α S H) (r : RepV K F α v t) (e : (datsOf S t).bind intsD = some bs) : ∃ a, v = .ref a ∧ H a = some (.lst (bs.map V.int)) := by
  cases e2 : datsOf S t with
  | none =>
    rw [e2] at e
    cases e
  | some ds =>
    rw [e2] at e
    obtain ⟨a, vs, rfl, h1, h2⟩ := datsOf_ok hs r e2
    rw [intsD_eq e] at h2
    rw [dk_ints h2] at h1
    exact ⟨a, rfl, h1⟩
instance : LCall K (rAll K) vAll := ⟨fun {F α H S xs ts Q q} hs rr ql h => by
  unfold vAll at h
  split at h
  · split at h
    · rename_i e
      obtain ⟨x, rfl, rx⟩ := rr.one
      obtain ⟨a, rfl, h1⟩ := bools_ok hs rx e
      exact ⟨a, _, rfl, SqL.of h1, ql_here hs ql (.fz (.bl _)) h⟩
    · exact h.elim
  · exact h.elim⟩
instance : LCall K (rAny K) vAny := ⟨fun {F α H S xs ts Q q} hs rr ql h => by
  unfold vAny at h
  split at h
  · split at h
    · rename_i e
      obtain ⟨x, rfl, rx⟩ := rr.one
      obtain ⟨a, rfl, h1⟩ := bools_ok hs rx e
      exact ⟨a, _, rfl, SqL.of h1, ql_here hs ql (.fz (.bl _)) h⟩
    · exact h.elim
  · exact h.elim⟩
instance : LCall K (rSum K) vSum := ⟨fun {F α H S xs ts Q q} hs rr ql h => by
  unfold vSum at h
  split at h
  · split at h
    · rename_i e
      obtain ⟨x, rfl, rx⟩ := rr.one
      obtain ⟨a, rfl, h1⟩ := ints_ok hs rx e
      exact ⟨a, _, rfl, SqL.of h1, ql_here hs ql (.fz (.int _)) h⟩
    · exact h.elim
  · exact h.elim⟩
/-- max, min of a list of numbers that is not empty -/
def maxI : List Int → Int
  | [] => 0
  | x :: xs => xs.foldl (fun a b => if b > a then b else a) x
def rMax2 : List V → Hp → VK → Prop := fun xs H Q => ∃ i j, xs = [V.int i, V.int j] ∧ Q (V.int (if j > i then j else i)) H
def rMin2 : List V → Hp → VK → Prop := fun xs H Q => ∃ i j, xs = [V.int i, V.int j] ∧ Q (V.int (if j < i then j else i)) H
theorem call_maxX {X : Cx} (hc : X.calm = true) : CallR X (.builtin "max") rMax2 := call_max2 hc
theorem call_minX {X : Cx} (hc : X.calm = true) : CallR X (.builtin "min") rMin2 := call_min2 hc
def vMax2 : VRs := fun ts S q => match ts with
  | [.fz (.int i), .fz (.int j)] => q (.fz (.int (if j > i then j else i))) S
  | _ => False
def vMin2 : VRs := fun ts S q => match ts with
  | [.fz (.int i), .fz (.int j)] => q (.fz (.int (if j < i then j else i))) S
  | _ => False
instance : LCall K rMax2 vMax2 := ⟨fun {F α H S xs ts Q q} hs rr ql h => by
  unfold vMax2 at h
  split at h
  · obtain ⟨x, y, rfl, rx, ry⟩ := rr.two
    exact ⟨_, _, by rw [intV rx, intV ry], ql_here hs ql (.fz (.int _)) h⟩
  · exact h.elim⟩
instance : LCall K rMin2 vMin2 := ⟨fun {F α H S xs ts Q q} hs rr ql h => by
  unfold vMin2 at h
  split at h
  · obtain ⟨x, y, rfl, rx, ry⟩ := rr.two
    exact ⟨_, _, by rw [intV rx, intV ry], ql_here hs ql (.fz (.int _)) h⟩
  · exact h.elim⟩
def vMaxL : VRs := fun ts S q => match ts with
  | [x] => match (datsOf S x).bind intsD with
    | some ns => 0 < ns.length ∧ ∀ m, m ∈ ns → (∀ y ∈ ns, y ≤ m) → q (.fz (.int m)) S
    | none => False
  | _ => False
def vMinL : VRs := fun ts S q => match ts with
  | [x] => match (datsOf S x).bind intsD with
    | some ns => 0 < ns.length ∧ ∀ m, m ∈ ns → (∀ y ∈ ns, m ≤ y) → q (.fz (.int m)) S
    | none => False
  | _ => False
instance : LCall K (rMax K) vMaxL := ⟨fun {F α H S xs ts Q q} hs rr ql h => by
  unfold vMaxL at h
  split at h
  · split at h
    · rename_i e
      obtain ⟨x, rfl, rx⟩ := rr.one
      obtain ⟨a, rfl, h1⟩ := ints_ok hs rx e
      exact ⟨a, _, rfl, SqL.of h1, h.1, fun m hm hy => ql_here hs ql (.fz (.int _)) (h.2 m hm hy)⟩
    · exact h.elim
  · exact h.elim⟩
instance : LCall K (rMin K) vMinL := ⟨fun {F α H S xs ts Q q} hs rr ql h => by
  unfold vMinL at h
  split at h
  · split at h
    · rename_i e
      obtain ⟨x, rfl, rx⟩ := rr.one
      obtain ⟨a, rfl, h1⟩ := ints_ok hs rx e
      exact ⟨a, _, rfl, SqL.of h1, h.1, fun m hm hy => ql_here hs ql (.fz (.int _)) (h.2 m hm hy)⟩
    · exact h.elim
  · exact h.elim⟩
/-- list(x), tuple(x) -/
def rListX (K : PySem.W.Frag) : List V → Hp → VK → Prop := fun xs H Q => ∃ p ys, xs = [.ref p] ∧ (SqL K H p ys ∨ SqT K H p ys) ∧ ∀ l, H l = none → Q (.ref l) (upd H l (.lst ys))
def rListXN (K : PySem.W.Frag) : List V → Hp → VK → Prop := rListX K
theorem call_listX {X : Cx} : CallR X (.type "list") (rListX X.K) := call_list_of
theorem call_listXN {X : Cx} : CallR X (.type "list") (rListXN X.K) := call_list_of
def vListW (k : VQ → List T → List O → Prop) : VRs := fun ts S q => match ts with
  | [x] => match itemsA S x with
    | some ts => k q ts S
    | none => False
  | _ => False
def vList : VRs := fun ts S q => match ts with
  | [.fz (.list ds)] => q (.fz (.list ds)) S
  | [.fz (.tuple ds)] => q (.fz (.list ds)) S
  | ts => vListW newL ts S q
theorem vListW_ok {F H : Hp} {α : List Addr} {S : List O} {xs : List V} {ts : List T} {Q : VK} {q : VQ} {k : VQ → List T → List O → Prop} (hs : Hs K F α S H) (rr : RepVs K F α xs ts)
    (hk : ∀ {ts : List T} {vs : List V}, RepVs K F α vs ts → k q ts S → ∀ p, H p = none → Q (.ref p) (upd H p (.lst vs))) (h : vListW k ts S q) : rListX K xs H Q := by
  unfold vListW at h
  split at h
  · split at h
    · rename_i e
      obtain ⟨x, rfl, rx⟩ := rr.one
      obtain ⟨a, vs, rfl, h1, h2⟩ := itemsA_ok hs rx e
      exact ⟨a, vs, rfl, h1, hk h2 h⟩
    · exact h.elim
  · exact h.elim
instance : LCall K (rListX K) vList := ⟨fun {F α H S xs ts Q q} hs rr ql h => by
  unfold vList at h
  split at h
  · exact vListW_ok hs rr (k := newL) (fun r h => newL_ok hs ql r h) (by unfold vListW; exact (newL_map _).mpr h)
  · exact vListW_ok hs rr (k := newL) (fun r h => newL_ok hs ql r h) (by unfold vListW; exact (newL_map _).mpr h)
  · exact vListW_ok hs rr (k := newL) (fun r h => newL_ok hs ql r h) h⟩
instance : LCall K (rListXN K) (vListW newLN) := ⟨fun {F α H S xs ts Q q} hs rr ql h => vListW_ok hs rr (k := newLN) (fun r h => newLN_ok hs ql r h) h⟩
/-- int(x) -/
def rInt1 : List V → Hp → VK → Prop := fun xs H Q => (∃ i, xs = [V.int i] ∧ Q (V.int i) H) ∨ ∃ k, xs = [V.bl k] ∧ Q (V.int (if k = true then 1 else 0)) H
theorem call_intX {X : Cx} : CallR X (.type "int") rInt1 := call_int1
def vInt1 : VRs := fun ts S q => match ts with
  | [.fz (.int i)] => q (.fz (.int i)) S
  | [.fz (.bool k)] => q (.fz (.int (if k = true then 1 else 0))) S
  | _ => False
instance : LCall K rInt1 vInt1 := ⟨fun {F α H S xs ts Q q} hs rr ql h => by
  unfold vInt1 at h
  split at h
  · obtain ⟨x, rfl, rx⟩ := rr.one
    exact .inl ⟨_, by rw [intV rx], ql_here hs ql (.fz (.int _)) h⟩
  · obtain ⟨x, rfl, rx⟩ := rr.one
    exact .inr ⟨_, by rw [boolV rx], ql_here hs ql (.fz (.int _)) h⟩
  · exact h.elim⟩

/-! truth, tests in a row -/
def tTru (K : PySem.W.Frag) (ta : TE) : TT := fun σ H Q => ta σ H fun x H' => ∃ k, TruV K x H' k ∧ Q k H'
theorem pt_tru {X : Cx} {a : Expr} {ta : TE} (ha : PE X a ta) (he : ∀ whole, isTrue a X.env whole = (do let v ← whole; standAt a.pos; holding [v] (truthy v)) := by intro _; rfl) : PT X a (tTru X.K ta) := pt_truth ha he
def vTru : T → List O → (Bool → List O → Prop) → Prop := fun x S q => match x with
  | .fz .none => q false S
  | .fz (.bool b) => q b S
  | .fz (.int i) => q (i != 0) S
  | .fz (.str z) => z.length ≤ sizeLine ∧ q ((z.length : Int) != 0) S
  | .fz (.list ds) => q (!ds.isEmpty) S
  | .fz (.tuple ds) => q (!ds.isEmpty) S
  | .tp ts => q (!ts.isEmpty) S
  | x => match seqOf S x with
    | some ts => q (!ts.isEmpty) S
    | none => False
def wTru (e : VTE) : VTT := fun vx Γ S q => e vx Γ S fun x S1 => vTru x S1 q
theorem isEmpty_len {α β : Type} {xs : List α} {ys : List β} (h : xs.length = ys.length) : xs.isEmpty = ys.isEmpty := by
  cases xs <;> cases ys <;> first | rfl | cases h
instance {E : XK} {te : TE} {we : VTE} [he : SimE K E te we] : SimT K E (tTru K te) (wTru we) := ⟨fun {F α H σ Γ S Q q vx} hs sr xl bl h => he.sim hs sr xl (fun F1 α1 H1 v r S1 s hs' rr z => by
  have fin : ∀ {b : Bool}, q b S1 → Q b H1 := fun {b} h => bl _ _ _ _ _ s hs' h
  unfold vTru at z
  split at z
  · rw [nonV rr]; exact ⟨_, rfl, fin z⟩
  · rw [boolV rr]; exact ⟨_, rfl, fin z⟩
  · rw [intV rr]; exact ⟨_, rfl, fin z⟩
  · rw [strV rr]; exact ⟨_, ⟨z.1, rfl⟩, fin z.2⟩
  · obtain ⟨a, xs, rfl, h1, h2⟩ := lstV rr
    exact ⟨_, .inl ⟨xs, SqL.of (hs'.sub _ _ h1), by rw [isEmpty_len h2.len]⟩, fin z⟩
  · obtain ⟨a, xs, rfl, h1, h2⟩ := tupV rr
    exact ⟨_, .inr (.inl ⟨xs, h1 _ hs'.sub, by rw [isEmpty_len h2.len]⟩), fin z⟩
  · cases rr with
    | tp h1 h2 => exact ⟨_, .inr (.inl ⟨_, SqT.of (hs'.sub _ _ h1), by rw [isEmpty_len h2.len]⟩), fin z⟩
  · split at z
    · rename_i e
      obtain ⟨a, xs, rfl, h1, h2⟩ := seqOf_ok hs' rr e
      exact ⟨_, .inl ⟨xs, SqL.of h1, by rw [isEmpty_len h2.len]⟩, fin z⟩
    · exact z.elim) h⟩
def wChain (r r' : VR2) (a b c : VTE) : VTE := fun vx Γ S q => a vx Γ S fun x S1 => b vx Γ S1 fun y S2 => r x y S2 fun z S3 => match z with
  | .fz (.bool k) => ifV k (c vx Γ S3 fun w S4 => r' y w S4 q) (q (.fz (.bool false)) S3)
  | _ => False
instance {E : XK} {r r' : R2} {v v' : VR2} {ta tb tc : TE} {wa wb wc : VTE} [ha : SimE K E ta wa] [hb : SimE K E tb wb] [hc : SimE K E tc wc] [l : LOp K r v] [l' : LOp K r' v'] : SimE K E (tChain r r' ta tb tc) (wChain v v' wa wb wc) :=
  ⟨fun {F α H σ Γ S Q q vx} hs sr xl ql h => ha.sim hs sr xl (fun F1 α1 H1 v1 x1 S1 s1 hs1 r1 k => hb.sim hs1 (sr.step s1) (xl.step s1) (fun F2 α2 H2 v2 x2 S2 s2 hs2 r2 k => l.lift hs2 (r1.step s2) r2 (fun F3 α3 H3 v3 x3 S3 s3 hs3 r3 k => by
    have s13 := (s1.trans s2).trans s3
    split at k
    · rw [boolV r3]
      exact ⟨_, rfl, k.ite (fun k => hc.sim hs3 (sr.step s13) (xl.step s13) (fun F4 α4 H4 v4 x4 S4 s4 hs4 r4 k => l'.lift hs4 (r2.step (s3.trans s4)) r4 (ql.step (s13.trans s4)) k) k) fun k => ql _ _ _ _ _ _ s13 hs3 (.fz (.bl _)) k⟩
    · exact k.elim) k) k) h⟩
/-! in -/
def flatD : PyData → Bool
  | .none => true
  | .bool _ => true
  | .int _ => true
  | .str _ => true
  | _ => false
/-- the data of a list or a tuple; whether it is a list -/
def datsA (S : List O) (t : T) : Option (Bool × List PyData) := match t with
  | .fz (.tuple ds) => some (false, ds)
  | t => match datsOf S t with
    | some ds => some (true, ds)
    | none => none
theorem flatD_ok {F : Hp} {v : V} {d : PyData} (h : Dk K F v d) (f : flatD d = true) : flatV v = true := by
  cases h <;> first | rfl | cases f
theorem eqV_eqv {F : Hp} {v w : V} {d e : PyData} (h : Dk K F v d) (g : Dk K F w e) (f1 : flatD d = true) (f2 : flatD e = true) : eqV v w = PyData.eqv d e := by
  cases h <;> first | (cases f1; done) | (cases g <;> first | (cases f2; done) | rfl | (unfold eqV PyData.eqv; rfl) | (simp [eqV, PyData.eqv]))
theorem inV_any {F : Hp} {v : V} {d : PyData} (h : Dk K F v d) (f1 : flatD d = true) : ∀ {vs : List V} {ds : List PyData}, DkAll K F vs ds → ds.all flatD = true → vs.all flatV = true ∧ inV v vs = ds.any fun z => PyData.eqv z d
  | _, _, .nil, _ => ⟨rfl, rfl⟩
  | _, _, .cons x r, f => by
    rw [List.all_cons, Bool.and_eq_true] at f
    obtain ⟨h1, h2⟩ := inV_any h f1 r f.2
    refine ⟨by rw [List.all_cons, flatD_ok x f.1, h1]; rfl, ?_⟩
    unfold inV at h2 ⊢
    rw [List.any_cons, List.any_cons, h2, eqV_eqv x h f.1 f1]
def rInX (K : PySem.W.Frag) : R2 := fun x y H Q => rIn K false x y H Q ∨ rInD K x y H Q
def rNotInX (K : PySem.W.Frag) : R2 := fun x y H Q => rIn K true x y H Q ∨ rNotInD K x y H Q
theorem op_inX {X : Cx} (hu : X.A.units + 65 < cLine) : OpR X (compareOp .In) (rInX X.K) := fun pins s σ H x y v u Q I rx ry h => h.elim (op_in_seq pins s σ H x y v u Q I rx ry) (op_inD hu pins s σ H x y v u Q I rx ry)
theorem op_notInX {X : Cx} (hu : X.A.units + 65 < cLine) : OpR X (compareOp .NotIn) (rNotInX X.K) := fun pins s σ H x y v u Q I rx ry h => h.elim (op_notIn_seq pins s σ H x y v u Q I rx ry) (op_notInD hu pins s σ H x y v u Q I rx ry)
def vInW (f : Bool → Bool) : VR2 := fun x y S q => match datOf S x, datsA S y with
  | some d, some (l, ds) => ((flatD d && ds.all flatD) = true ∨ (l = true ∧ SeqAt.shaped d = true ∧ SeqAt.shaped (.list ds) = true)) ∧ q (.fz (.bool (f (ds.any fun z => PyData.eqv z d)))) S
  | _, _ => False
theorem datsA_ok {F H : Hp} {α : List Addr} {S : List O} {t : T} {l : Bool} {ds : List PyData} {v : V} (hs : Hs K F α S H) (r : RepV K F α v t) (e : datsA S t = some (l, ds)) : ∃ a vs, v = .ref a ∧ DkAll K F vs ds ∧ ((l = true ∧ H a = some (.lst vs)) ∨ (l = false ∧ SqT K H a vs)) := by
  unfold datsA at e
  split at e
  · cases e
    obtain ⟨a, xs, rfl, h1, h2⟩ := tupV r
    exact ⟨a, xs, rfl, h2, .inr ⟨rfl, h1 _ hs.sub⟩⟩
  · split at e
    · rename_i e2
      cases e
      obtain ⟨a, xs, rfl, h1, h2⟩ := datsOf_ok hs r e2
      exact ⟨a, xs, rfl, h2, .inl ⟨rfl, h1⟩⟩
    · cases e
theorem inW_ok {F H : Hp} {α : List Addr} {S : List O} {x y : V} {tx ty : T} {Q : VK} {q : VQ} {f : Bool → Bool} (hs : Hs K F α S H) (rx : RepV K F α x tx) (ry : RepV K F α y ty) (ql : QL K F α H Q q) (h : vInW f tx ty S q) :
    (∃ p xs, y = .ref p ∧ (SqL K H p xs ∨ SqT K H p xs) ∧ flatV x = true ∧ xs.all flatV = true ∧ Q (.bl (f (inV x xs))) H) ∨ (∃ d ds, Dp K H x d ∧ Dp K H y (.list ds) ∧ SeqAt.shaped d = true ∧ SeqAt.shaped (.list ds) = true ∧ Q (.bl (f (ds.any fun z => PyData.eqv z d))) H) := by
  unfold vInW at h
  split at h
  · rename_i d l ds e1 e2
    obtain ⟨hc, h⟩ := h
    obtain ⟨a, vs, rfl, h1, h2⟩ := datsA_ok hs ry e2
    rcases hc with hc | ⟨rfl, hc1, hc2⟩
    · rw [Bool.and_eq_true] at hc
      have tx' : tx = .fz d := by
        cases tx with
        | fz d' => cases e1; rfl
        | rf j =>
          unfold datOf at e1
          dsimp only at e1
          split at e1
          · rename_i us e3
            cases e4 : allD us with
            | none =>
              rw [e4] at e1
              cases e1
            | some es =>
              rw [e4] at e1
              cases e1
              cases hc.1
          · cases e1
        | tp us => cases e1
        | scr ns => cases e1
      subst tx'
      cases rx with
      | fz hx =>
        obtain ⟨h3, h4⟩ := inV_any hx hc.1 h1 hc.2
        refine .inl ⟨a, vs, rfl, ?_, flatD_ok hx hc.1, h3, ?_⟩
        · rcases h2 with ⟨_, h2⟩ | ⟨_, h2⟩
          · exact .inl (SqL.of h2)
          · exact .inr h2
        · rw [h4]
          exact ql_here hs ql (.fz (.bl _)) h
    · rcases h2 with ⟨_, h2⟩ | ⟨h2, _⟩
      · exact .inr ⟨d, ds, datOf_ok hs rx e1, .lst (SqL.of h2) (h1.same hs.sub).dp, hc1, hc2, ql_here hs ql (.fz (.bl _)) h⟩
      · cases h2
  · exact h.elim
instance : LOp K (rInX K) (vInW id) := ⟨fun hs rx ry ql h => inW_ok hs rx ry ql h⟩
instance : LOp K (rNotInX K) (vInW not) := ⟨fun hs rx ry ql h => inW_ok hs rx ry ql h⟩
/-! methods -/
class LMt (K : PySem.W.Frag) (r : V → List V → Hp → VK → Prop) (rv : outParam (T → List T → List O → VQ → Prop)) : Prop where
  lift : ∀ {F α H S x tx xs ts} {Q : VK} {q : VQ}, Hs K F α S H → RepV K F α x tx → RepVs K F α xs ts → QL K F α H Q q → rv tx ts S q → r x xs H Q
/-- what kind the object is -/
def isKd (n : String) (S : List O) : T → Prop
  | .fz (.str _) => n = "str"
  | .fz (.list _) => n = "list"
  | .rf j => match S[j]? with
    | some (.lst _) => n = "list"
    | _ => False
  | _ => False
def wBM (n : String) (r : T → List T → List O → VQ → Prop) (e : VTE) (a : VTA) : VTE := fun vx Γ S q => e vx Γ S fun x S1 => isKd n S1 x ∧ a vx Γ S1 fun ts S2 => r x ts S2 q
def wBM0 (n : String) (r : T → List T → List O → VQ → Prop) (e : VTE) : VTE := fun vx Γ S q => e vx Γ S fun x S1 => isKd n S1 x ∧ r x [] S1 q
theorem isKd_ok {F H : Hp} {α : List Addr} {S : List O} {x : V} {tx : T} {n : String} (hs : Hs K F α S H) (r : RepV K F α x tx) (h : isKd n S tx) : tyV K n x H := by
  unfold isKd at h
  split at h
  · rw [strV r]
    exact h
  · obtain ⟨a, xs, rfl, h1, h2⟩ := lstV r
    exact .inl ⟨h, xs, SqL.of (hs.sub _ _ h1)⟩
  · split at h
    · rename_i e
      cases r with
      | rf ha =>
        obtain ⟨vs, h1, h2⟩ := hs.lst ha e
        exact .inl ⟨h, vs, SqL.of h1⟩
    · exact h.elim
  · exact h.elim
instance {E : XK} {n : String} {r : V → List V → Hp → VK → Prop} {rv : T → List T → List O → VQ → Prop} {te : TE} {ta : TA} {we : VTE} {wa : VTA} [he : SimE K E te we] [ha : SimA K E ta wa] [l : LMt K r rv] : SimE K E (tBM K n r te ta) (wBM n rv we wa) :=
  ⟨fun hs sr xl ql h => he.sim hs sr xl (fun _ _ _ _ _ _ s1 hs1 r1 k => ⟨isKd_ok hs1 r1 k.1, ha.sim hs1 (sr.step s1) (xl.step s1) (fun _ _ _ _ _ _ s2 hs2 r2 k => l.lift hs2 (r1.step s2) r2 (ql.step (s1.trans s2)) k) k.2⟩) h⟩
instance {E : XK} {n : String} {r : V → List V → Hp → VK → Prop} {rv : T → List T → List O → VQ → Prop} {te : TE} {we : VTE} [he : SimE K E te we] [l : LMt K r rv] : SimE K E (tBM0 K n r te) (wBM0 n rv we) :=
  ⟨fun hs sr xl ql h => he.sim hs sr xl (fun _ _ _ _ _ _ s1 hs1 r1 k => ⟨isKd_ok hs1 r1 k.1, l.lift hs1 r1 .nil (ql.step s1) k.2⟩) h⟩
def vAppend : T → List T → List O → VQ → Prop := fun x ts S q => match x, ts with
  | .rf j, [t] => match S[j]? with
    | some (.lst us) => us.length < 100000 ∧ q (.fz .none) (S.set j (.lst (us ++ [t])))
    | _ => False
  | _, _ => False
instance : LMt K rAppend vAppend := ⟨fun {F α H S x tx xs ts Q q} hs rx rr ql h => by
  unfold vAppend at h
  split at h
  · split at h
    · rename_i us e
      cases rx with
      | rf ha =>
        obtain ⟨y, rfl, ry⟩ := rr.one
        obtain ⟨vs, h1, h2⟩ := hs.lst ha e
        obtain ⟨g1, g2⟩ := hs.put ha (.lst (vs ++ [y])) (.lst (us ++ [_])) fun H' e => ⟨_, e, h2.append (.cons ry .nil)⟩
        exact ⟨_, vs, y, rfl, rfl, h1, by rw [h2.len]; exact small_lt h.1, ql _ _ _ _ _ _ g2 g1 (.fz .non) h.2⟩
    · exact h.elim
  · exact h.elim⟩
def vExtend : T → List T → List O → VQ → Prop := fun x ts S q => match x, ts with
  | .rf j, [t] => match S[j]?, seqOf S t with
    | some (.lst us), some ws => us.length + ws.length ≤ 100000 ∧ q (.fz .none) (S.set j (.lst (us ++ ws)))
    | _, _ => False
  | _, _ => False
instance : LMt K rExtend vExtend := ⟨fun {F α H S x tx xs ts Q q} hs rx rr ql h => by
  unfold vExtend at h
  split at h
  · split at h
    · rename_i us ws e e2
      cases rx with
      | rf ha =>
        obtain ⟨y, rfl, ry⟩ := rr.one
        obtain ⟨vs, h1, h2⟩ := hs.lst ha e
        obtain ⟨b, zs, rfl, h3, h4⟩ := seqOf_ok hs ry e2
        obtain ⟨g1, g2⟩ := hs.put ha (.lst (vs ++ zs)) (.lst (us ++ ws)) fun H' e => ⟨_, e, h2.append h4⟩
        exact ⟨_, b, vs, zs, rfl, rfl, h1, h3, by rw [h2.len, h4.len]; exact small_sz h.1, ql _ _ _ _ _ _ g2 g1 (.fz .non) h.2⟩
    · exact h.elim
  · exact h.elim⟩
def vPop : T → List T → List O → VQ → Prop := fun x ts S q => match x, ts with
  | .rf j, [] => match S[j]? with
    | some (.lst us) => match us[us.length - 1]? with
      | some t => q t (S.set j (.lst us.dropLast))
      | none => False
    | _ => False
  | _, _ => False
theorem RepVs.dropLast {F : Hp} {α : List Addr} {vs : List V} {ts : List T} (r : RepVs K F α vs ts) : RepVs K F α vs.dropLast ts.dropLast := by
  rw [List.dropLast_eq_take, List.dropLast_eq_take, r.len]
  exact r.take _
instance : LMt K rPop vPop := ⟨fun {F α H S x tx xs ts Q q} hs rx rr ql h => by
  unfold vPop at h
  split at h
  · split at h
    · rename_i us e
      split at h
      · rename_i t e2
        cases rx with
        | rf ha =>
          cases rr
          obtain ⟨vs, h1, h2⟩ := hs.lst ha e
          obtain ⟨y, h3, h4⟩ := h2.at_ e2
          obtain ⟨g1, g2⟩ := hs.put ha (.lst vs.dropLast) (.lst us.dropLast) fun H' e => ⟨_, e, h2.dropLast⟩
          exact ⟨_, vs, y, rfl, rfl, h1, by rw [h2.len]; exact h3, ql _ _ _ _ _ _ g2 g1 (h4.step g2) h⟩
      · exact h.elim
    · exact h.elim
  · exact h.elim⟩
def rInsertX : V → List V → Hp → VK → Prop := fun x vs H Q => ∃ (l : Addr) (xs : List V) (i : Int) (y : V), x = .ref l ∧ vs = [.int i, y] ∧ H l = some (.lst xs) ∧ xs.length < sizeLine ∧ 0 ≤ i ∧ i < 2 ^ 63 ∧ Q .non (upd H l (.lst (xs.take i.toNat ++ [y] ++ xs.drop i.toNat)))
theorem mt_insertX {X : Cx} : MtR X "list.insert" rInsertX := mt_insert
def vInsert : T → List T → List O → VQ → Prop := fun x ts S q => match x, ts with
  | .rf j, [.fz (.int i), t] => match S[j]? with
    | some (.lst us) => us.length < 100000 ∧ 0 ≤ i ∧ i < 2 ^ 63 ∧ q (.fz .none) (S.set j (.lst (us.take i.toNat ++ [t] ++ us.drop i.toNat)))
    | _ => False
  | _, _ => False
instance : LMt K rInsertX vInsert := ⟨fun {F α H S x tx xs ts Q q} hs rx rr ql h => by
  unfold vInsert at h
  split at h
  · split at h
    · rename_i us e
      cases rx with
      | rf ha =>
        obtain ⟨i, y, rfl, ri, ry⟩ := rr.two
        obtain ⟨vs, h1, h2⟩ := hs.lst ha e
        rename_i t _ _ _
        obtain ⟨g1, g2⟩ := hs.put ha (.lst (vs.take _ ++ [y] ++ vs.drop _)) (.lst (us.take _ ++ [_] ++ us.drop _)) fun H' e => ⟨_, e, ((h2.take _).append (.cons ry .nil)).append (h2.drop _)⟩
        rw [intV ri]
        exact ⟨_, vs, _, y, rfl, rfl, h1, by rw [h2.len]; exact small_lt h.1, h.2.1, h.2.2.1, ql _ _ _ _ _ _ g2 g1 (.fz .non) h.2.2.2⟩
    · exact h.elim
  · exact h.elim⟩
/-! methods of texts -/
def rStr1 (g : Str → Str → V) : V → List V → Hp → VK → Prop := fun x xs H Q => ∃ a b, x = .str a ∧ xs = [.str b] ∧ Q (g a b) H
def rStr0 (g : Str → V) : V → List V → Hp → VK → Prop := fun x xs H Q => ∃ a, x = .str a ∧ xs = [] ∧ True ∧ Q (g a) H
theorem mt_startsX {X : Cx} : MtR X "str.startswith" (rStr1 fun a b => .bl (Txt.startswith a b)) := mt_startswith
theorem mt_endsX {X : Cx} : MtR X "str.endswith" (rStr1 fun a b => .bl (Txt.endswith a b)) := mt_endswith
theorem mt_asciiX {X : Cx} : MtR X "str.isascii" (rStr0 fun a => .bl (Txt.isascii a)) := mt_isascii
theorem mt_decX {X : Cx} : MtR X "str.isdecimal" (rStr0 fun a => .bl (Txt.isdecimal a)) := mt_isdecimal
instance {f : Str → Str → Bool} : LMt K (rStr1 fun a b => V.bl (f a b)) (fun x ts S q => match x, ts with | .fz (.str a), [.fz (.str b)] => q (.fz (.bool (f a b))) S | _, _ => False) := ⟨fun {F α H S x tx xs ts Q q} hs rx rr ql h => by
  split at h
  · obtain ⟨y, rfl, ry⟩ := rr.one
    exact ⟨_, _, strV rx, by rw [strV ry], ql_here hs ql (.fz (.bl _)) h⟩
  · exact h.elim⟩
instance {f : Str → Bool} : LMt K (rStr0 fun a => V.bl (f a)) (fun x ts S q => match x, ts with | .fz (.str a), [] => q (.fz (.bool (f a))) S | _, _ => False) := ⟨fun {F α H S x tx xs ts Q q} hs rx rr ql h => by
  split at h
  · cases rr
    exact ⟨_, strV rx, rfl, trivial, ql_here hs ql (.fz (.bl _)) h⟩
  · exact h.elim⟩
def rJoinX (K : PySem.W.Frag) : V → List V → Hp → VK → Prop := fun x xs H Q => ∃ a p, ∃ ys : List Str, x = .str a ∧ xs = [.ref p] ∧ (SqL K H p (ys.map V.str) ∨ SqT K H p (ys.map V.str)) ∧ (ys.map (fun x => x.length)).sum + ys.length * a.length ≤ 16777216 ∧ Q (.str (Txt.join a ys)) H
theorem mt_joinX {X : Cx} : MtR X "str.join" (rJoinX X.K) := mt_join
instance : LMt K (rJoinX K) (fun x ts S q => match x, ts with
    | .fz (.str a), [t] => match (datsOf S t).bind strsD with
      | some ys => (ys.map (fun x => x.length)).sum + ys.length * a.length ≤ 16777216 ∧ q (.fz (.str (Txt.join a ys))) S
      | none => False
    | _, _ => False) := ⟨fun {F α H S x tx xs ts Q q} hs rx rr ql h => by
  split at h
  · split at h
    · rename_i ys e
      obtain ⟨y, rfl, ry⟩ := rr.one
      rw [Option.bind_eq_some_iff] at e
      obtain ⟨ds, e1, e2⟩ := e
      obtain ⟨a, vs, rfl, h1, h2⟩ := datsOf_ok hs ry e1
      rw [strsD_eq e2] at h2
      rw [dk_strs h2] at h1
      rw [strV rx]
      exact ⟨_, a, ys, rfl, rfl, .inl (SqL.of h1), h.1, ql_here hs ql (.fz (.str _)) h.2⟩
    · exact h.elim
  · exact h.elim⟩
def rSplitX : V → List V → Hp → VK → Prop := fun x xs H Q => ∃ a b, x = .str a ∧ xs = [.str b] ∧ (b.length == 0) = false ∧ a.length + 2 ≤ sizeLine ∧ rNewStrs (Txt.split a b) H Q
theorem mt_splitX {X : Cx} : MtR X "str.split" rSplitX := mt_split
theorem reps_strs {F : Hp} {α : List Addr} : ∀ ys : List Str, RepVs K F α (ys.map V.str) ((ys.map PyData.str).map T.fz)
  | [] => .nil
  | _ :: ys => .cons (.fz (.str _)) (reps_strs ys)
instance : LMt K rSplitX (fun x ts S q => match x, ts with
    | .fz (.str a), [.fz (.str b)] => (b.length == 0) = false ∧ a.length + 2 ≤ sizeLine ∧ q (.fz (.list ((Txt.split a b).map .str))) S
    | _, _ => False) := ⟨fun {F α H S x tx xs ts Q q} hs rx rr ql h => by
  split at h
  · obtain ⟨y, rfl, ry⟩ := rr.one
    rw [strV rx, strV ry]
    exact ⟨_, _, rfl, rfl, h.1, h.2.1, fun p hp => newL_ok hs ql (reps_strs _) ((newL_map _).mpr h.2.2) p hp⟩
  · exact h.elim⟩
/-! x[i] = y, x += y -/
class LSet (K : PySem.W.Frag) (r : TSet) (rv : outParam (T → T → T → List O → (List O → Prop) → Prop)) : Prop where
  lift : ∀ {F α H S o i v to ti tv} {Q : Hp → Prop} {q : List O → Prop}, Hs K F α S H → RepV K F α o to → RepV K F α i ti → RepV K F α v tv →
    (∀ F' α' H' S', Step F α H F' α' H' → Hs K F' α' S' H' → q S' → Q H') → rv to ti tv S q → r o i v H Q
def wgSub (o i : VTE) (r : T → T → T → List O → (List O → Prop) → Prop) : VTG := fun vx t Γ S q => o vx Γ S fun x S1 => i vx Γ S1 fun y S2 => r x y t S2 fun S3 => q Γ S3
instance {E : XK} {to ti : TE} {r : TSet} {wo wi : VTE} {rv : T → T → T → List O → (List O → Prop) → Prop} [ho : SimE K E to wo] [hi : SimE K E ti wi] [l : LSet K r rv] : SimG K E (gSub to ti r) (wgSub wo wi rv) :=
  ⟨fun hs sr rv xl gl h => ho.sim hs sr xl (fun _ _ _ _ _ _ s1 hs1 r1 k => hi.sim hs1 (sr.step s1) (xl.step s1) (fun _ _ _ _ _ _ s2 hs2 r2 k => l.lift hs2 (r1.step s2) r2 (rv.step (s1.trans s2)) (fun _ _ _ _ s3 hs3 k => gl _ _ _ _ _ _ ((s1.trans s2).trans s3) hs3 (sr.step ((s1.trans s2).trans s3)) k) k) k) h⟩
/-- the place of the index -/
def plN (n : Nat) (i : Int) : Option Nat := if 0 ≤ i then (if i.toNat < n then some i.toNat else none) else if 0 ≤ n + i then some (n + i).toNat else none
theorem plN_ok {n : Nat} {i : Int} {j : Nat} (h : plN n i = some j) : ixN n i = some j := by
  unfold plN at h
  unfold ixN
  split at h
  · rename_i h0
    split at h
    · cases h
      rw [if_pos h0, if_pos (by omega)]
    · cases h
  · split at h
    · cases h
      rename_i h0 h1
      rw [if_neg h0, if_pos (by omega)]
      congr 1
      omega
    · cases h
def vSet : T → T → T → List O → (List O → Prop) → Prop := fun x y t S q => match x, y with
  | .rf j, .fz (.int i) => match S[j]? with
    | some (.lst us) => match plN us.length i with
      | some k => q (S.set j (.lst (us.set k t)))
      | none => False
    | _ => False
  | _, _ => False
instance : LSet K rSetL vSet := ⟨fun {F α H S o i v to ti tv Q q} hs ro ri rv k h => by
  unfold vSet at h
  split at h
  · split at h
    · rename_i us e
      split at h
      · rename_i k' ek
        cases ro with
        | rf ha =>
          obtain ⟨vs, h1, h2⟩ := hs.lst ha e
          obtain ⟨g1, g2⟩ := hs.put ha (.lst (vs.set k' v)) (.lst (us.set k' tv)) fun H' e => ⟨_, e, h2.set k' rv⟩
          exact ⟨_, vs, _, k', rfl, intV ri, h1, by rw [h2.len]; exact plN_ok ek, k _ _ _ _ g2 g1 h⟩
      · exact h.elim
    · exact h.elim
  · exact h.elim⟩
def wAug (i : Nat) (e : VTE) (f : Int → Int → Int) : VTS := fun vx d Γ S => match Γ[i]? with
  | some (some (.fz (.int a))) => e vx Γ S fun y S1 => match y with
    | .fz (.int b) => d.nx (Γ.set i (some (.fz (.int (f a b))))) S1
    | _ => False
  | _ => False
instance {E : XK} {i : Nat} {te : TE} {we : VTE} {f : Int → Int → Int} [he : SimE K E te we] : SimS K E (tAug i te (ipI f)) (wAug i we f) := ⟨fun {F α H σ Γ S D d vx} hs sr xl dl h => by
  unfold wAug at h
  split at h
  · rename_i a e
    obtain ⟨v, h1, h2⟩ := sr.at_ i _ e
    rw [intV h2] at h1
    refine ⟨_, h1, he.sim hs sr xl (fun F1 α1 H1 v1 r1 S1 s hs1 rr k => ?_) h⟩
    split at k
    · rw [intV rr]
      exact ⟨_, _, rfl, rfl, dl.nx _ _ _ _ _ _ s hs1 ((sr.step s).set i (.fz (.int _))) k⟩
    · exact k.elim
  · exact h.elim⟩

/-! loops by an invariant -/
theorem forV_inv {d : VEn} {g : T → Gm → List O → (Gm → List O → Prop) → Prop} {b : VEn → Gm → List O → Prop} {okS : List O → Prop} {items : List T} {Γ : Gm} {S : List O} (I : Nat → Gm → List O → Prop) (h0 : I 0 Γ S) (hok : ∀ i Γ S, i ≤ items.length → I i Γ S → okS S)
    (step : ∀ i x Γ S (k : Gm → List O → Prop), items[i]? = some x → I i Γ S → (∀ Γ S, I (i + 1) Γ S → k Γ S) → g x Γ S fun Γ1 S1 => b { nx := k, ct := k, bk := d.nx, rt := d.rt } Γ1 S1)
    (hd : ∀ Γ S, I items.length Γ S → d.nx Γ S) : forV d g b okS items Γ S := by
  have key : ∀ (n i : Nat), n + i = items.length → ∀ Γ S, I i Γ S → forV d g b okS (items.drop i) Γ S := by
    intro n
    induction n with
    | zero =>
      intro i hi Γ S hI
      have : i = items.length := by omega
      subst this
      rw [List.drop_length]
      exact ⟨hok _ _ _ (Nat.le_refl _) hI, hd _ _ hI⟩
    | succ n ih =>
      intro i hi Γ S hI
      have hl : i < items.length := by omega
      rw [List.drop_eq_getElem_cons hl]
      exact ⟨hok _ _ _ (by omega) hI, step i _ Γ S _ (List.getElem?_eq_getElem hl) hI fun Γ' S' h => ih (i + 1) (by omega) Γ' S' h⟩
  exact key items.length 0 (by omega) Γ S h0
theorem lcV_inv {g : T → List O → (Gm → List O → Prop) → Prop} {c : Gm → List O → (Bool → List O → Prop) → Prop} {e : Gm → List O → VQ → Prop} {okS : List O → Prop} {q : List T → List O → Prop} {items : List T} {S : List O} (I : Nat → List T → List O → Prop) (h0 : I 0 [] S)
    (hok : ∀ i acc S, i ≤ items.length → I i acc S → okS S)
    (step : ∀ i x acc S (k : List T → List O → Prop), items[i]? = some x → I i acc S → (∀ acc S, I (i + 1) acc S → k acc S) → g x S fun Γ1 S1 => c Γ1 S1 fun b S2 => ifV b (e Γ1 S2 fun y S3 => acc.length < 100000 ∧ k (acc ++ [y]) S3) (k acc S2))
    (hd : ∀ acc S, I items.length acc S → q acc S) : lcV g c e okS q [] items S := by
  have key : ∀ (n i : Nat), n + i = items.length → ∀ acc S, I i acc S → lcV g c e okS q acc (items.drop i) S := by
    intro n
    induction n with
    | zero =>
      intro i hi acc S hI
      have : i = items.length := by omega
      subst this
      rw [List.drop_length]
      exact ⟨hok _ _ _ (Nat.le_refl _) hI, hd _ _ hI⟩
    | succ n ih =>
      intro i hi acc S hI
      have hl : i < items.length := by omega
      rw [List.drop_eq_getElem_cons hl]
      exact ⟨hok _ _ _ (by omega) hI, step i _ acc S (lcV g c e okS q · (items.drop (i + 1)) ·) (List.getElem?_eq_getElem hl) hI fun acc' S' h => ih (i + 1) (by omega) acc' S' h⟩
  exact key items.length 0 (by omega) [] S h0
/-- a comprehension that makes a value of each item, the store staying -/
theorem lcV_map {g : T → List O → (Gm → List O → Prop) → Prop} {c : Gm → List O → (Bool → List O → Prop) → Prop} {e : Gm → List O → VQ → Prop} {okS : List O → Prop} {q : List T → List O → Prop} {items : List T} {S : List O} (f : T → T) (hs : okS S) (hl : items.length ≤ 100000)
    (step : ∀ (i : Nat) (x : T) (k : T → List O → Prop) (k0 : List O → Prop), items[i]? = some x → k (f x) S → g x S fun Γ1 S1 => c Γ1 S1 fun b S2 => ifV b (e Γ1 S2 fun y S3 => k y S3) (k0 S2))
    (hd : q (items.map f) S) : lcV g c e okS q [] items S := by
  refine lcV_inv (fun i acc S' => S' = S ∧ acc = (items.take i).map f) ⟨rfl, rfl⟩ (fun i acc S' _ h => by rw [h.1]; exact hs) (fun i x acc S' k hx h hk => ?_) (fun acc S' h => ?_)
  · obtain ⟨rfl, rfl⟩ := h
    have hil := (List.getElem?_eq_some_iff.mp hx).1
    refine step i x (fun y S3 => ((items.take i).map f).length < 100000 ∧ k ((items.take i).map f ++ [y]) S3) _ hx ⟨?_, hk _ _ ⟨rfl, ?_⟩⟩
    · rw [List.length_map, List.length_take]
      omega
    · rw [List.take_add_one, hx, List.map_append]
      rfl
  · obtain ⟨rfl, rfl⟩ := h
    rw [List.take_length]
    exact hd
theorem rngT_at {lo : Int} {n i : Nat} (h : i < n) : (rngT lo n)[i]? = some (.fz (.int (lo + (i : Nat)))) := by
  unfold rngT
  rw [List.getElem?_map, List.getElem?_range h]
  rfl
theorem rngT_len (lo : Int) (n : Nat) : (rngT lo n).length = n := by
  unfold rngT
  rw [List.length_map, List.length_range]
theorem set_last {α : Type} (xs : List α) (x y : α) : (xs ++ [x]).set xs.length y = xs ++ [y] := by
  rw [List.set_append_right _ _ (Nat.le_refl _), Nat.sub_self]
  rfl
theorem atN_in {α : Type} {xs : List α} {i : Int} (h0 : 0 ≤ i) (h1 : i < xs.length) : ∃ x, atN xs i = some x ∧ xs[i.toNat]? = some x ∧ x ∈ xs := by
  have hl : i.toNat < xs.length := by omega
  refine ⟨xs[i.toNat], ?_, List.getElem?_eq_getElem hl, List.getElem_mem hl⟩
  unfold atN
  rw [if_pos h0]
  exact List.getElem?_eq_getElem hl
theorem plN_nat (n i : Nat) : plN n (i : Int) = if i < n then some i else none := by
  unfold plN
  rw [if_pos (by omega), Int.toNat_natCast]
theorem plN_in {n : Nat} {i : Nat} (h : i < n) : plN n (i : Int) = some i := by
  unfold plN
  rw [if_pos (by omega), if_pos (by rw [Int.toNat_natCast]; exact h), Int.toNat_natCast]
/-! one statement at a time -/
theorem vstep {t u : VTS} {vx : VX} {d : VEn} {Γ : Gm} {S : List O} (h : ∀ k : Gm → List O → Prop, (∀ Γ S, u vx d Γ S → k Γ S) → t vx { d with nx := k } Γ S) : wSeq t u vx d Γ S := h _ fun _ _ h => h
/-- what the first statement leaves, said in between -/
theorem vcut {t u : VTS} {vx : VX} {d : VEn} {Γ : Gm} {S : List O} (P : Gm → List O → Prop) (h1 : ∀ k : Gm → List O → Prop, (∀ Γ S, P Γ S → k Γ S) → t vx { d with nx := k } Γ S) (h2 : ∀ Γ S, P Γ S → u vx d Γ S) : wSeq t u vx d Γ S := h1 _ h2
/-- numbers of tasks as data -/
def natsL (os : List Nat) : List PyData := os.map fun (t : Nat) => .int (t : Int)
def intsL (is : List Int) : List PyData := is.map .int
abbrev fzs (ds : List PyData) : List T := ds.map T.fz
theorem fzs_snoc (xs : List PyData) (y : PyData) : List.map T.fz xs ++ [T.fz y] = List.map T.fz (xs ++ [y]) := by
  rw [List.map_append]
  rfl
theorem fzs_cat (xs ys : List PyData) : List.map T.fz xs ++ List.map T.fz ys = List.map T.fz (xs ++ ys) := List.map_append.symm
theorem fzs_ins (xs : List PyData) (n : Nat) (y : PyData) : (List.map T.fz xs).take n ++ [T.fz y] ++ (List.map T.fz xs).drop n = List.map T.fz (xs.take n ++ [y] ++ xs.drop n) := by
  rw [List.map_append, List.map_append, List.map_take, List.map_drop]
  rfl
theorem fzs_set (xs : List PyData) (n : Nat) (y : PyData) : (List.map T.fz xs).set n (T.fz y) = List.map T.fz (xs.set n y) := by rw [List.map_set]
theorem natsL_snoc (os : List Nat) (t : Nat) : natsL os ++ [.int (t : Int)] = natsL (os ++ [t]) := by
  unfold natsL
  rw [List.map_append]
  rfl
theorem natsL_ins (os : List Nat) (n t : Nat) : (natsL os).take n ++ [.int (t : Int)] ++ (natsL os).drop n = natsL (os.take n ++ [t] ++ os.drop n) := by
  unfold natsL
  rw [List.map_append, List.map_append, List.map_take, List.map_drop]
  rfl
theorem intsL_snoc (os : List Int) (t : Int) : intsL os ++ [.int t] = intsL (os ++ [t]) := by
  unfold intsL
  rw [List.map_append]
  rfl
theorem intsL_set (os : List Int) (n : Nat) (t : Int) : (intsL os).set n (.int t) = intsL (os.set n t) := by
  unfold intsL
  rw [List.map_set]
theorem natsL_len (os : List Nat) : (natsL os).length = os.length := List.length_map ..
theorem intsL_len (os : List Int) : (intsL os).length = os.length := List.length_map ..
theorem natsL_get {os : List Nat} {i t : Nat} (h : os[i]? = some t) : (natsL os)[i]? = some (.int (t : Int)) := by
  unfold natsL
  rw [List.getElem?_map, h]
  rfl
theorem intsL_get {os : List Int} {i : Nat} {t : Int} (h : os[i]? = some t) : (intsL os)[i]? = some (.int t) := by
  unfold intsL
  rw [List.getElem?_map, h]
  rfl
theorem zadd (i : Nat) : (0 : Int) + (i : Int) = (i : Int) := by omega
theorem rng0_get {n i : Nat} {x : T} (h : (rngT 0 n)[i]? = some x) : i < n ∧ x = .fz (.int (i : Int)) := by
  obtain ⟨h1, h2⟩ := rngT_get h
  rw [zadd] at h2
  exact ⟨h1, h2⟩
theorem intsL_flat (rs : List Int) : (intsL rs).all flatD = true := by
  unfold intsL
  rw [List.all_eq_true]
  intro d hd
  obtain ⟨i, _, rfl⟩ := List.mem_map.mp hd
  rfl
theorem natsL_flat (rs : List Nat) : (natsL rs).all flatD = true := by
  unfold natsL
  rw [List.all_eq_true]
  intro d hd
  obtain ⟨i, _, rfl⟩ := List.mem_map.mp hd
  rfl
theorem intsL_any (rs : List Int) (i : Int) : ((intsL rs).any fun z => PyData.eqv z (.int i)) = decide (i ∈ rs) := by
  unfold intsL
  rw [Bool.eq_iff_iff, List.any_eq_true, decide_eq_true_iff]
  constructor
  · rintro ⟨d, hd, e⟩
    obtain ⟨j, hj, rfl⟩ := List.mem_map.mp hd
    have e2 : j = i := by
      rw [PyData.eqv] at e
      exact beq_iff_eq.mp e
    rw [← e2]
    exact hj
  · intro h
    refine ⟨.int i, List.mem_map.mpr ⟨i, h, rfl⟩, ?_⟩
    rw [PyData.eqv]
    exact beq_iff_eq.mpr rfl
theorem natsL_ints (os : List Nat) : natsL os = intsL (os.map fun (t : Nat) => (t : Int)) := by
  unfold natsL intsL
  rw [List.map_map]
  rfl
theorem natsL_any (rs : List Nat) (i : Nat) : ((natsL rs).any fun z => PyData.eqv z (.int (i : Int))) = decide (i ∈ rs) := by
  rw [natsL_ints, intsL_any, decide_eq_decide, List.mem_map]
  exact ⟨fun ⟨j, h, e⟩ => Int.ofNat.inj e ▸ h, fun h => ⟨i, h, rfl⟩⟩
theorem lcR_map (q : VQ) (ds : List PyData) (S : List O) : lcR q (List.map T.fz ds) S = q (.fz (.list ds)) S := by
  unfold lcR
  rw [allD_map]
/-- one of written numbers -/
theorem atN_ints {l : List Int} {d lo hi : Int} (h0 : 0 ≤ d) (h1 : d < (l.length : Int)) (h : ∀ y ∈ l, lo ≤ y ∧ y ≤ hi) : ∃ y, atN (l.map PyData.int) d = some (.int y) ∧ lo ≤ y ∧ y ≤ hi := by
  obtain ⟨y, e, _, hm⟩ := atN_in h0 h1
  exact ⟨y, by rw [atN_map, e]; rfl, h y hm⟩
theorem atN_one {l : List PyData} {d : Int} (h0 : 0 ≤ d) (h1 : d < (l.length : Int)) : ∃ y, atN l d = some y ∧ y ∈ l := by
  obtain ⟨y, e, _, hm⟩ := atN_in h0 h1
  exact ⟨y, e, hm⟩
theorem ints_item {l : List Int} {i : Nat} {v : T} (h : (List.map T.fz (intsL l))[i]? = some v) : ∃ x, l[i]? = some x ∧ v = .fz (.int x) := by
  unfold intsL at h
  rw [List.getElem?_map, List.getElem?_map] at h
  cases e : l[i]? with
  | none =>
    rw [e] at h
    cases h
  | some t =>
    rw [e] at h
    cases h
    exact ⟨t, rfl, rfl⟩
theorem nats_item {l : List Nat} {i : Nat} {v : T} (h : (List.map T.fz (natsL l))[i]? = some v) : ∃ x, l[i]? = some x ∧ v = .fz (.int (x : Int)) := by
  unfold natsL at h
  rw [List.getElem?_map, List.getElem?_map] at h
  cases e : l[i]? with
  | none =>
    rw [e] at h
    cases h
  | some t =>
    rw [e] at h
    cases h
    exact ⟨t, rfl, rfl⟩

end
/-! ### defs that are called where nothing is being shown: the guards are known -/
/-- a promise that is kept where no repr is under way -/
structure FnG (P : Program) (w : World) (K : PySem.W.Frag) (mg : Str → Option Value) (base : Heap) (CX : CXT) (k : Nat) (f : Addr) (fd : FuncData) (ps : List Str) (sp : Sp) : Prop where
  len : ∀ vs H Q E, sp vs H Q E → vs.length = ps.length
  run : ∀ (A : Around) (outer : List PySem.Env) (s : Shared) (H : Hp) (args : Args) (us : List Value) (vs : List V) (Q : VK) (E : XK),
    Room k A → A.guards = some [] → Env0 P w K mg base A outer s H → BindsTo s fd args (ps.zip us) → Vals vs us → sp vs H Q E → codeAny (model P w) A (.call (.ref f) args) (CR CX outer P w H s Q E) s
/-- THE RULE of such a def: its body, the guards told -/
theorem fnG_of {CX : CXT} {P : Program} {w : World} {K : PySem.W.Frag} {mg : Str → Option Value} {base : Heap} {k : Nat} {f : Addr} {name qual : Str} {params : Arguments} {body : List Stmt} {scope : Scope}
    {dV kV doc pm cdv ct oc : Value} {an od : Option Addr} {osl : Array (Option Value)} {N ps : List Str} {sp : Sp}
    (lk : K.lookup f = some ⟨oc, od, .func (PySem.W.fnOf name qual params body scope dV kV doc pm an cdv ct), osl⟩)
    (hcd : PySem.W.codeIn K cdv qual = true) (S : FnScope N ps scope) (len : ∀ vs H Q E, sp vs H Q E → vs.length = ps.length)
    (hbody : ∀ (A : Around) (outer : List PySem.Env) (s : Shared) (H : Hp) (vs : List V) (Q : VK) (E : XK),
      Room k (A.deeper (envOfC qual scope s.heap.objs.size f cdv)) → (A.deeper (envOfC qual scope s.heap.objs.size f cdv)).guards = some [] → sp vs H Q E →
      ∃ t, PSs (cxOf CX P w K mg base N qual scope f cdv A outer s H E) body t ∧ t { nx := fun _ H' => Q .non H', rt := Q } (start N vs) H) :
    FnG P w K mg base CX (k + 1) f (PySem.W.fnOf name qual params body scope dV kV doc pm an cdv ct) ps sp := by
  refine ⟨len, fun A outer s H args us vs Q E room guards e0 binds rel promise => ?_⟩
  have many := len _ _ _ _ promise
  have there : K.In s.heap := e0.mod.kin.keeps fun b o e => (e0.bs b o e).1
  have free : s.heap.NoLimit := e0.mod.nolimit.keeps fun b o e => (e0.bs b o e).1
  have kinds : ∀ y ∈ ps.zip us, scope.names.lookup y.1 = some .local ∨
      (scope.names.lookup y.1 = some .cell ∧ ((cellsFrom (s.heap.objs.size + 1) scope.names []).lookup y.1).isSome = true) := fun y hy => by
    rcases S.par y.1 (List.of_mem_zip (a := y.1) (b := y.2) hy).1 with z | z
    · exact .inl z
    · exact .inr ⟨z, PySem.W.cellsFrom_some _ _ _ (.inl z)⟩
  refine codeAny_call_function room.depth (there _ _ lk) rfl S.co S.gen rfl (PySem.W.codeRec_of there hcd) (binds _ _ _ _ ?_)
  refine wpAny_newFunctionEnv_cells S.kind kinds fun env henv s1 made => ?_
  subst henv
  refine ⟨free.keeps made.toInCall.keep, codeAny_func ?_⟩
  obtain ⟨t, reads, goal⟩ := hbody A outer s H vs Q E (room.deeper _) guards promise
  have inv := inv_start (CX := CX) (mg := mg) (base := base) (E := E) S room.hd e0 many rel made
  refine wpAny_mono (reads.run [] s1 (start N vs) H _ inv goal) (fun fl s' done => ?_) fun e s' done => done
  match fl, done with
  | .ret u, done =>
    obtain ⟨v, σ', H', J, rv, z⟩ := done
    exact ⟨v, H', J.os, J.bare, J.base, J.hok, rv, z⟩
  | .next, done =>
    obtain ⟨σ', H', J, z⟩ := done
    exact ⟨V.non, H', J.os, J.bare, J.base, J.hok, rfl, z⟩
  | .brk, done => exact done.choose_spec.choose_spec.2.elim
  | .cont, done => exact done.choose_spec.choose_spec.2.elim
theorem funD_okG {P : Program} {w : World} {K : PySem.W.Frag} {mg : Str → Option Value} {base : Heap} {x qual : Str} {params : Arguments} {body : List Stmt} {scope : Scope} {dvs : List V} {kws : List (Str × V)} {f : Addr} {fd : FuncData}
    {CX : CXT} {N ps : List Str} {k : Nat} {sp : Sp} (F : FunD K x qual params body scope dvs kws f fd) (S : FnScope N ps scope) (len : ∀ vs H Q E, sp vs H Q E → vs.length = ps.length)
    (hbody : ∀ (cdv : Value) (A : Around) (outer : List PySem.Env) (s : Shared) (H : Hp) (vs : List V) (Q : VK) (E : XK),
      Room k (A.deeper (envOfC qual scope s.heap.objs.size f cdv)) → (A.deeper (envOfC qual scope s.heap.objs.size f cdv)).guards = some [] → sp vs H Q E →
      ∃ t, PSs (cxOf CX P w K mg base N qual scope f cdv A outer s H E) body t ∧ t { nx := fun _ H' => Q .non H', rt := Q } (start N vs) H) : FnG P w K mg base CX (k + 1) f fd ps sp := by
  obtain ⟨oc, od, dV, kV, doc, pm, an, cdv, ct, osl, rfl, lk, hcd, _, _⟩ := F.ex
  exact fnG_of lk hcd S len fun A outer s H vs Q E room guards promise => hbody cdv A outer s H vs Q E room guards promise
/-- its call, by the def's name -/
theorem pe_callG {X : Cx} {CX : CXT} {k : Nat} {f : Addr} {fd : FuncData} {ps : List Str} {sp : Sp} {dvs : List V} {ds : List Value} {E : XK} {x : Str} {p pos : Pos} {e : Expr} {es : List Expr} {t : TA}
    (hgd : X.A.guards = some []) (F : FnG X.prog X.w X.K X.mg X.base CX k f fd ps sp) (hr : Room k X.A) (hg : Gl X x) (hm : X.mg x = some (.ref f)) (hk : PySem.W.keepIn X.K (.ref f) = true)
    (hb : Binds X.K fd ps ds) (hd : Vals dvs ds) (hx : Passes CX X E) (ha : PA X (e :: es) t) (hdb : (x == ("__debug__" : Str)) = false := by decide)
    (he : starEach (e :: es) X.env = (false, eval e X.env) :: starEach es X.env := by rfl) (hpl : (backTo pos (starEach es X.env)).any (·.1) = false := by rfl) :
    PE X (.Call (.Name x p) (e :: es) [] pos) (tCall sp dvs E t) := by
  refine ⟨fun pins s σ H Q I h => wpAny_Call_Name_kw (ld_glob I hg hm ?_ hdb)⟩
  refine PySem.W.callWith_K (h₀ := X.base) I.ok.mod.kin hk (thn (ha.run pos pins s σ H _ I h) fun us s1 ⟨vs, H1, J, rel, z⟩ => ⟨J.kIn, ?_⟩) he hpl
  have all : Vals (vs ++ dvs) (us ++ ds) := rel.append hd
  have many : (us ++ ds).length = ps.length := all.length.symm.trans (F.len _ _ _ _ z)
  refine wpAny_call (codeAny_mono (F.run X.A X.stack s1 H1 ⟨us, []⟩ (us ++ ds) (vs ++ dvs) Q E hr hgd J.env0 (hb s1 us J.kIn many) all z) fun r s' done => ?_)
  match r, done with
  | .error e, done => exact hx pins σ H1 s1 e s' J done
  | .ok (.ret u), done => exact J.after done
  | .ok .next, done => exact done.elim
  | .ok .brk, done => exact done.elim
  | .ok .cont, done => exact done.elim
/-- the law's call behind the top -/
theorem law_callG {P : Program} {w : World} {K : PySem.W.Frag} {mg mb : Str → Option Value} {CX : CXT} {k : Nat} {fa a : Addr} {fd : FuncData} {x : Str} {sp : Sp} {s₁ : Shared} {vs : List Value} {ns : List Int}
    (KX : K.In s₁.heap) (hns : s₁.heap.Ns mainGlobals mg) (hb : s₁.heap.Ns builtinsNs mb) (hbb : ∀ x : Str, x ≠ "__name__" → mb x = bootBuiltins x) (hlim : s₁.heap.NoLimit) (hg : s₁.gens = #[])
    (ha : s₁.heap.get? a = some { cls := .type "list", data := .seq vs.toArray }) (hi : IntsAre vs ns) (hl : ns.length ≤ sizeLine) (hr : Room k callerA)
    (F : ∀ base : Heap, K.In base → base.Ns mainGlobals mg → FnG P w K mg base CX k fa fd [x] sp) (hbind : ∀ (s : Shared) (u : Value), BindsTo s fd ⟨[u], []⟩ [(x, u)])
    (hsp : ∀ H : Hp, Only H → SqL K H a (ns.map V.int) → sp [.ref a] H (fun v _ => v = .bl true) fun _ _ _ => False) (hCX : ∀ H e s', CX [] H s₁ (fun _ _ _ => False) e s' → False) :
    codeAny (model P w) callerA (.call (.ref fa) ⟨[.ref a], []⟩) (fun r s' => r = .ok (.ret (.bool true)) ∧ OldK s₁.heap s'.heap ∧ s'.os = s₁.os ∧ AllBare s'.gens) s₁ := by
  have rel := vals_ints hi
  have size := hi.length
  have core : ∀ H : Hp, Only H → SqL K H a (ns.map V.int) → HOk P w H s₁.heap → (∀ b u, H b = some u → b = a ∧ K.lookup a = none) →
      codeAny (model P w) callerA (.call (.ref fa) ⟨[.ref a], []⟩) (fun r s' => r = .ok (.ret (.bool true)) ∧ OldK s₁.heap s'.heap ∧ s'.os = s₁.os ∧ AllBare s'.gens) s₁ := by
    intro H only seq held none_but
    have free : ∀ {b : Addr} {o : Obj} {es : Array DictEntry} {ep : Nat}, s₁.heap.get? b = some o → o.data = .dict es ep → H b = none := fun {b o es ep} there isDict => by
      cases tracked : H b with
      | none => rfl
      | some u =>
        obtain ⟨same, _⟩ := none_but b u tracked
        rw [same, ha] at there
        cases there
        exact nomatch (show Data.seq vs.toArray _ = Data.dict es ep from isDict)
    have names : ∀ {b : Addr} {m : Str → Option Value}, s₁.heap.Ns b m → (hidT s₁.heap H).Ns b m := fun ⟨o, es, ep, there, isDict, rest⟩ =>
      ⟨o, es, ep, hidT_get there (free there isDict), isDict, rest⟩
    have written : K.In (hidT s₁.heap H) := fun b o known => hidT_get (KX b o known) (by
      cases tracked : H b with
      | none => rfl
      | some u =>
        obtain ⟨same, unknown⟩ := none_but b u tracked
        rw [same, unknown] at known
        cases known)
    obtain ⟨mc, lim1, lim2⟩ := hlim
    have enters : Env0 P w K mg (hidT s₁.heap H) callerA [] s₁ H :=
      ⟨rfl, ⟨written, names hns, ⟨mb, names hb, hbb⟩, ⟨mc, names lim1, lim2⟩⟩, fun b o e => of_hidT e, Nat.le_of_eq (hidT_size _ _), trivial, fun b z => (nomatch (show b ∈ ([] : List Addr) from z)), held, .of_eq hg⟩
    have runs := (F _ written (names hns)).run callerA [] s₁ H ⟨[.ref a], []⟩ [.ref a] [.ref a] _ _ hr rfl enters (hbind s₁ (.ref a)) (.cons rfl .nil) (hsp H only seq)
    refine codeAny_mono runs fun r s' done => ?_
    match r, done with
    | .error e, done => exact (hCX H e s' done).elim
    | .ok .next, done => exact done.elim
    | .ok .brk, done => exact done.elim
    | .ok .cont, done => exact done.elim
    | .ok (.ret u), done =>
      obtain ⟨v, H', osSame, bare, un, held', told, isTrue⟩ := done
      have isTrue : v = .bl true := isTrue
      subst isTrue
      obtain rfl : u = Value.bool true := told
      refine ⟨rfl, OldK.of_keep fun b o there => ?_, osSame, bare⟩
      cases tracked : H b with
      | none => exact un.keep b o there tracked (fun z => nomatch (show b ∈ ([] : List Addr) from z)) (fun z => nomatch z)
      | some u =>
        rcases only b with z | ⟨ob, xs, z⟩
        · rw [tracked] at z
          cases z
        · have first := (held b _ z).1
          rw [there] at first
          cases first
          exact (held' b _ (un.frzs b _ _ z)).1
  cases known : K.lookup a with
  | some o =>
    have there := KX a o known
    rw [ha] at there
    cases there
    exact core (fun _ => none) (fun _ => .inl rfl) (.inr ⟨_, vs.toArray, _, known, rfl, rfl, rfl, by rw [List.size_toArray, size]; exact hl, by simpa using rel⟩)
      (fun b u z => nomatch (show (none : Option HO) = some u from z)) fun b u z => nomatch (show (none : Option HO) = some u from z)
  | none =>
    refine core (fun b => if b = a then some (.frz { cls := .type "list", data := .seq vs.toArray } (.lst (ns.map V.int))) else none)
      (fun b => ?_) (.inl (.inr ⟨{ cls := .type "list", data := .seq vs.toArray }, if_pos rfl⟩)) (fun b u z => ?_) (fun b u z => ?_)
    · by_cases same : b = a
      · exact .inr ⟨_, _, if_pos same⟩
      · exact .inl (if_neg same)
    · by_cases same : b = a
      · have z' := (if_pos same).symm.trans z
        cases z'
        subst same
        exact ⟨ha, by rw [List.length_map]; exact hl, vs, _, rel, ha⟩
      · exact nomatch (if_neg same).symm.trans z
    · by_cases same : b = a
      · exact ⟨same, known⟩
      · exact nomatch (if_neg same).symm.trans z
/-- the law's walk, by a promise that wants the guards -/
theorem walk_ofG {l : PySem.W.OpenLaw} {n k : Nat} {q : Program} {loose : List Str} {XP : (Str → Option Value) → Heap → Prop} {YP : World → Heap → Prop} {d : DefRec} {CX : CXT} {x : Str}
    (hn : l.most = some n) (hn2 : n ≤ sizeLine) (hdf : d.params.defaults = []) (hr : Room k callerA)
    (F : ∀ (w : World) (mg : Str → Option Value) (fa : Addr) (h : Heap), YP w h → h.Ns mainGlobals mg → mg d.name = some (.ref fa) → ∃ (K : PySem.W.Frag) (fd : FuncData) (sp : Sp), K.In h ∧
      (∀ (s : Shared) (u : Value), BindsTo s fd ⟨[u], []⟩ [(x, u)]) ∧ (∀ (H : Hp) (a : Addr) (ns : List Int), ns.length ≤ n → Only H → SqL K H a (ns.map V.int) → sp [.ref a] H (fun v _ => v = .bl true) fun _ _ _ => False) ∧
      ∀ base : Heap, K.In base → base.Ns mainGlobals mg → FnG l.prog w K mg base CX k fa fd [x] sp)
    (hCX : ∀ (H : Hp) (s : Shared) (e : Value) (s' : Shared), CX [] H s (fun _ _ _ => False) e s' → False) : PySem.W.WalkO q loose XP YP l.row.toRowW d [] (fun f vs => PySem.call f vs) := by
  refine Att.attach_call hn hdf fun w s₀ s₁ mg mb fa o pm cd doc a vs ns G says ho hd hcd named there numbers short noGens => ?_
  obtain ⟨K, fd, sp, KX, binds, promise, keeps⟩ := F w mg fa _ says G.T.g named
  exact law_callG KX G.T.g G.T.b G.T.builtins G.T.nolimit noGens there numbers (Nat.le_trans short hn2) hr keeps binds (fun H only seq => promise H a ns short only seq) fun H e s' => hCX H s₁ e s'
/-! ### str, repr of data -/
def rShow (K : PySem.W.Frag) : List V → Hp → VK → Prop := fun xs H Q => ∃ (a : Addr) (d : PyData), xs = [.ref a] ∧ Dp K H (.ref a) d ∧ d.showable = true ∧ d.hasDict = false ∧ d.depth ≤ 40 ∧ d.shown.length ≤ sizeLine ∧ Q (.str d.shown) H
theorem call_str_data {X : Cx} (hgd : X.A.guards = some []) (hu : X.A.units + 64 < cLine) : CallR X (.type "str") (rShow X.K) := by
  intro pins s σ H xs us Q I r h
  obtain ⟨a, d, rfl, hd, hs, hn, hdep, hsz, q⟩ := h
  obtain ⟨u, rfl, ru⟩ := vals1 r
  obtain ⟨as, rd⟩ := Dp.reads I d _ u hd ru
  cases ru
  refine str_of_reads rd hs (PyData.noDict_hsm hn) hgd (by omega) (fun _ _ e => e) (fun h' t tk keep => ?_) hsz
  exact ⟨.str d.shown, H, I.kept (h' := h') (t' := tk) keep, ⟨t, rfl⟩, q⟩
theorem call_repr_data {X : Cx} (hgd : X.A.guards = some []) (hu : X.A.units + 64 < cLine) : CallR X (.builtin "repr") (rShow X.K) := by
  intro pins s σ H xs us Q I r h
  obtain ⟨a, d, rfl, hd, hs, hn, hdep, hsz, q⟩ := h
  obtain ⟨u, rfl, ru⟩ := vals1 r
  obtain ⟨as, rd⟩ := Dp.reads I d _ u hd ru
  cases ru
  refine repr_of_reads' rd hs (PyData.noDict_hsm hn) hgd (by omega) (fun _ _ e => e) (fun h' t tk keep => ?_) hsz
  exact ⟨.str d.shown, H, I.kept (h' := h') (t' := tk) keep, ⟨t, rfl⟩, q⟩
/-! ### small data -/
structure Sm (wt dp : Nat) (d : PyData) : Prop where
  can : d.canLay0 = true
  short : d.intsShort 13 = true
  show_ : d.showable = true
  dict : d.hasDict = false
  dep : d.depth ≤ dp
  wt : d.weight ≤ wt
theorem Sm.len {wt dp : Nat} {d : PyData} (h : Sm wt dp d) : d.shown.length ≤ 15 * wt + 13 := by
  have h1 := PyData.shown_le 13 (by decide) d (PyData.leavesShort_of_canLay0 13 d h.can h.short)
  have h2 : (13 + 2) * d.weight ≤ 15 * wt := Nat.mul_le_mul_left 15 h.wt
  omega
theorem sm_none : Sm 0 0 .none := ⟨rfl, rfl, rfl, rfl, Nat.le_refl _, Nat.le_refl _⟩
theorem sm_int {i : Int} (h1 : -1000000 ≤ i) (h2 : i ≤ 1000000) : Sm 21 0 (.int i) := by
  have hb : i.natAbs < 2 ^ 20 := by omega
  have hl : i.natAbs.log2 < 20 := PySem.Flt.log2_lt_of (by decide) hb
  refine ⟨rfl, ?_, decide_eq_true (by omega), rfl, Nat.le_refl _, ?_⟩
  · refine PyProof.Rows.intsShort_of_noneOrIn (lo := -1000001) (hi := 1000001) (by decide) (by decide) (.int i) ?_
    show (decide (-1000001 < i) && decide (i < 1000001)) = true
    rw [decide_eq_true (by omega : -1000001 < i), decide_eq_true (by omega : i < 1000001)]
    rfl
  · show (if i == 0 then 0 else i.natAbs.log2 + 1) ≤ 21
    split <;> omega
theorem sm_all {wt dp : Nat} : ∀ {ds : List PyData}, (∀ d ∈ ds, Sm wt dp d) → PyData.canLayAll0 ds = true ∧ PyData.intsShortAll 13 ds = true ∧ PyData.showableAll ds = true ∧ PyData.hasDictAll ds = false ∧ PyData.depthAll ds ≤ dp ∧ PyData.weightAll ds ≤ (wt + 1) * ds.length
  | [], _ => ⟨rfl, rfl, rfl, rfl, Nat.zero_le _, Nat.zero_le _⟩
  | d :: ds, h => by
    have hd := h d (List.mem_cons_self ..)
    obtain ⟨a1, a2, a3, a4, a5, a6⟩ := sm_all (ds := ds) fun x hx => h x (List.mem_cons_of_mem _ hx)
    refine ⟨?_, ?_, ?_, ?_, ?_, ?_⟩
    · show (PyData.canLay0 d && PyData.canLayAll0 ds) = true
      rw [hd.can, a1]
      rfl
    · show (PyData.intsShort 13 d && PyData.intsShortAll 13 ds) = true
      rw [hd.short, a2]
      rfl
    · show (PyData.showable d && PyData.showableAll ds) = true
      rw [hd.show_, a3]
      rfl
    · show (PyData.hasDict d || PyData.hasDictAll ds) = false
      rw [hd.dict, a4]
      rfl
    · show max (PyData.depth d) (PyData.depthAll ds) ≤ dp
      exact Nat.max_le.mpr ⟨hd.dep, a5⟩
    · show PyData.weight d + 1 + PyData.weightAll ds ≤ _
      have := hd.wt
      rw [List.length_cons, Nat.mul_succ]
      omega
theorem sm_list {wt dp : Nat} {ds : List PyData} (h : ∀ d ∈ ds, Sm wt dp d) : Sm ((wt + 1) * ds.length) (dp + 1) (.list ds) := by
  obtain ⟨a1, a2, a3, a4, a5, a6⟩ := sm_all h
  exact ⟨a1, a2, a3, a4, Nat.succ_le_succ a5, a6⟩
theorem sm_tup {wt dp : Nat} {ds : List PyData} (h : ∀ d ∈ ds, Sm wt dp d) : Sm ((wt + 1) * ds.length) (dp + 1) (.tuple ds) := by
  obtain ⟨a1, a2, a3, a4, a5, a6⟩ := sm_all h
  exact ⟨a1, a2, a3, a4, Nat.succ_le_succ a5, a6⟩
theorem Sm.mono {wt dp wt' dp' : Nat} {d : PyData} (h : Sm wt dp d) (h1 : wt ≤ wt') (h2 : dp ≤ dp') : Sm wt' dp' d := ⟨h.can, h.short, h.show_, h.dict, Nat.le_trans h.dep h2, Nat.le_trans h.wt h1⟩
/-! ### a job as data -/
def oD : Option Int → PyData
  | none => .none
  | some i => .int i
def zD (z : Addr × Nat × Nat) : PyData := .tuple [.int (z.2.1 : Int), .int (z.2.2 : Int)]
def jobD (fs : List Int) (ds : List (Option Int)) (zs : List (Addr × Nat × Nat)) (rs : List Int) : PyData := .tuple [.list (fs.map .int), .list (ds.map oD), .list (zs.map zD), .list (rs.map .int)]
theorem dpAll_iV {K : PySem.W.Frag} {H : Hp} : ∀ is : List Int, DpAll K H (iV is) (is.map .int)
  | [] => .nil
  | i :: r => .cons (.int i) (dpAll_iV r)
theorem dpAll_oV {K : PySem.W.Frag} {H : Hp} : ∀ is : List (Option Int), DpAll K H (oV is) (is.map oD)
  | [] => .nil
  | none :: r => .cons .non (dpAll_oV r)
  | some i :: r => .cons (.int i) (dpAll_oV r)
theorem dpAll_zs {K : PySem.W.Frag} {H : Hp} : ∀ {zs : List (Addr × Nat × Nat)}, (∀ z ∈ zs, H z.1 = some (.tup [.int (z.2.1 : Int), .int (z.2.2 : Int)])) → DpAll K H (zs.map fun z => V.ref z.1) (zs.map zD)
  | [], _ => .nil
  | z :: r, h => .cons (.tup (SqT.of (h z (List.mem_cons_self ..))) (.cons (.int _) (.cons (.int _) .nil))) (dpAll_zs fun y hy => h y (List.mem_cons_of_mem _ hy))
theorem JobAt.dp {K : PySem.W.Frag} {H : Hp} {J f d n r : Addr} {fs : List Int} {ds : List (Option Int)} {zs : List (Addr × Nat × Nat)} {rs : List Int} (j : JobAt H J f d n r fs ds zs rs) : Dp K H (.ref J) (jobD fs ds zs rs) :=
  .tup (SqT.of j.top) (.cons (.lst (SqL.of j.fr) (dpAll_iV fs)) (.cons (.lst (SqL.of j.du) (dpAll_oV ds)) (.cons (.lst (SqL.of j.ne.1) (dpAll_zs j.ne.2)) (.cons (.lst (SqL.of j.ro) (dpAll_iV rs)) .nil))))
theorem Valid.sm {fs : List Int} {ds : List (Option Int)} {zs : List (Addr × Nat × Nat)} {rs : List Int} (v : Valid fs ds zs rs) : Sm 30000 3 (jobD fs ds zs rs) := by
  have hl := v.fl
  have hf : Sm 3000 1 (.list (fs.map .int)) := (sm_list (wt := 21) (dp := 0) fun x hx => by
    obtain ⟨i, hi, rfl⟩ := List.mem_map.mp hx
    have := v.fv i hi
    exact sm_int (by omega) (by omega)).mono (by rw [List.length_map]; omega) (by omega)
  have hd : Sm 3000 1 (.list (ds.map oD)) := (sm_list (wt := 21) (dp := 0) fun x hx => by
    obtain ⟨o, ho, rfl⟩ := List.mem_map.mp hx
    cases o with
    | none => exact (show Sm 0 0 (oD none) from sm_none).mono (by omega) (by omega)
    | some i =>
      have := v.dv i ho
      show Sm 21 0 (.int i)
      exact sm_int (by omega) (by omega)).mono (by rw [List.length_map, v.dl]; omega) (by omega)
  have hz : Sm 3000 2 (.list (zs.map zD)) := (sm_list (wt := 44) (dp := 1) fun x hx => by
    obtain ⟨z, hz, rfl⟩ := List.mem_map.mp hx
    have h2 : z.2.1 < fs.length ∧ z.2.2 < fs.length := by
      obtain ⟨rk, h⟩ := v.rank
      exact ⟨(h z hz).1, (h z hz).2.1⟩
    refine (sm_tup (wt := 21) (dp := 0) (ds := [.int (z.2.1 : Int), .int (z.2.2 : Int)]) fun y hy => ?_).mono (by show 22 * 2 ≤ 44; decide) (by omega)
    rcases List.mem_cons.mp hy with e | hy
    · subst e
      exact sm_int (by omega) (by omega)
    · have e := List.mem_singleton.mp hy
      subst e
      exact sm_int (by omega) (by omega)).mono (by rw [List.length_map]; have := v.zl; omega) (by omega)
  have hr : Sm 3000 1 (.list (rs.map .int)) := (sm_list (wt := 21) (dp := 0) fun x hx => by
    obtain ⟨i, hi, rfl⟩ := List.mem_map.mp hx
    have := v.ro.val i hi
    exact sm_int (by omega) (by omega)).mono (by rw [List.length_map]; have := v.ro.len; omega) (by omega)
  refine (sm_tup (wt := 3000) (dp := 2) (ds := [.list (fs.map .int), .list (ds.map oD), .list (zs.map zD), .list (rs.map .int)]) fun y hy => ?_).mono (by show 3001 * 4 ≤ 30000; decide) (by omega)
  rcases List.mem_cons.mp hy with e | hy
  · subst e
    exact hf.mono (by omega) (by omega)
  rcases List.mem_cons.mp hy with e | hy
  · subst e
    exact hd.mono (by omega) (by omega)
  rcases List.mem_cons.mp hy with e | hy
  · subst e
    exact hz.mono (by omega) (by omega)
  · have e := List.mem_singleton.mp hy
    subst e
    exact hr.mono (by omega) (by omega)

section
variable {K : PySem.W.Frag}
/-! repr of data -/
def vShow : VRs := fun ts S q => match ts with
  | [x] => match itemsA S x, datOf S x with
    | some _, some d => d.showable = true ∧ d.hasDict = false ∧ d.depth ≤ 40 ∧ d.shown.length ≤ sizeLine ∧ q (.fz (.str d.shown)) S
    | _, _ => False
  | _ => False
instance : LCall K (rShow K) vShow := ⟨fun {F α H S xs ts Q q} hs rr ql h => by
  unfold vShow at h
  split at h
  · split at h
    · rename_i e1 e2
      obtain ⟨x, rfl, rx⟩ := rr.one
      obtain ⟨a, vs, rfl, _, _⟩ := itemsA_ok hs rx e1
      exact ⟨a, _, rfl, datOf_ok hs rx e2, h.1, h.2.1, h.2.2.1, h.2.2.2.1, ql_here hs ql (.fz (.str _)) h.2.2.2.2⟩
    · exact h.elim
  · exact h.elim⟩

end
/-- the same of a def that wants the guards -/
def OkG (P : Program) (w : World) (K : PySem.W.Frag) (mg : Str → Option Value) (base : Heap) (CX : CXT) (D : He.DefD) (x : Str) (k : Nat) (ps : List Str) (sp : Sp) : Prop :=
  ∃ fd : FuncData, FunD K D.name D.qual D.params D.body D.scope (D.dvs K) (D.kws K) (He.fAd K D.at_) fd ∧ mg x = some (.ref (He.ga K x)) ∧ PySem.W.keepIn K (.ref (He.ga K x)) = true ∧ Binds K fd ps [] ∧ FnG P w K mg base CX k (He.ga K x) fd ps sp
/-! ### keywords -/
theorem vals_getD {zs : List V} {ws : List Value} (r : Vals zs ws) (i : Nat) : RelV (zs.getD i .non) (ws.getD i .none) := by
  rw [List.getD_eq_getElem?_getD, List.getD_eq_getElem?_getD]
  cases e : zs[i]? with
  | none =>
    rw [Vals.none_of r e]
    rfl
  | some v =>
    obtain ⟨u, e2, h⟩ := r.get e
    rw [e2]
    exact h
theorem vals_perm {zs : List V} {ws : List Value} (r : Vals zs ws) : ∀ perm : List Nat, Vals (perm.map fun i => zs.getD i .non) (perm.map fun i => ws.getD i .none)
  | [] => .nil
  | i :: p => .cons (vals_getD r i) (vals_perm r p)
/-- the first n values by position, the others by their names ks, in the order perm -/
theorem kbn_of {K : PySem.W.Frag} {x qual : Str} {params : Arguments} {body : List Stmt} {scope : Scope} {kws : List (Str × V)} {f : Addr} {fd : FuncData} (F : FunD K x qual params body scope [] kws f fd) (ps : List Str) (n : Nat) (ks : List Str) (perm : List Nat)
    (h : ∀ (kV doc pm : Value) (an : Option Addr) (cdv ct : Value) (us ws : List Value), us.length = n → ws.length = ks.length →
      bindArgs (PySem.W.fnOf x qual params body scope .none kV doc pm an cdv ct) ⟨us, ks.zip ws⟩ = pure (ps.zip (us ++ perm.map fun i => ws.getD i .none))) :
    KBn K fd ps n ks (fun us ws => us ++ perm.map fun i => ws.getD i .none) (fun vs zs => vs ++ perm.map fun i => zs.getD i .non) := by
  obtain ⟨oc, od, dV, kV, doc, pm, an, cdv, ct, osl, rfl, lk, hcd, hD, hK⟩ := F.ex
  rcases hD with ⟨_, rfl⟩ | ⟨e, _⟩
  · exact ⟨fun s us ws X h1 h2 => .of_eq (h kV doc pm an cdv ct us ws h1 h2), fun r1 r2 => r1.append (vals_perm r2 perm)⟩
  · exact absurd rfl e

/-! rules with the written part named -/
section
variable {X : Cx} {K : PySem.W.Frag}
theorem pi_listK {tg l : Expr} {tl : TE} (hK : X.K = K) (h : PE X l tl) : PI X tg l (iList K tl) := by subst hK; exact pi_list h
theorem pi_tupK {tg l : Expr} {tl : TE} (hK : X.K = K) (h : PE X l tl) : PI X tg l (iTup K tl) := by subst hK; exact pi_tup h
theorem pi_enumK {tg l : Expr} {t : TA} (hK : X.K = K) (h : PI X tg l (iEnum X.K t)) : PI X tg l (iEnum K t) := by subst hK; exact h
theorem pi_zipK {tg l : Expr} {t : TA} (hK : X.K = K) (h : PI X tg l (iZip X.K t)) : PI X tg l (iZip K t) := by subst hK; exact h
theorem pg_tupK {e : Expr} {n : Nat} {t : TGs} (hK : X.K = K) (h : PG X e (gTup X.K n t)) : PG X e (gTup K n t) := by subst hK; exact h
theorem pg_unlK {e : Expr} {n : Nat} {t : TGs} (hK : X.K = K) (h : PG X e (gUnl X.K n t)) : PG X e (gUnl K n t) := by subst hK; exact h
theorem pe_bmK {e : Expr} {n : String} {r : V → List V → Hp → VK → Prop} {to : TE} {t : TA} (hK : X.K = K) (h : PE X e (tBM X.K n r to t)) : PE X e (tBM K n r to t) := by subst hK; exact h
theorem pe_bm0K {e : Expr} {n : String} {r : V → List V → Hp → VK → Prop} {to : TE} (hK : X.K = K) (h : PE X e (tBM0 X.K n r to)) : PE X e (tBM0 K n r to) := by subst hK; exact h
theorem pt_truK {e : Expr} {t : TE} (hK : X.K = K) (h : PT X e (tTru X.K t)) : PT X e (tTru K t) := by subst hK; exact h
theorem pe_lstN {es : List Expr} {t : TA} {pos : Pos} (h : PA X es t) : PE X (.List es pos) (tLstN t) := pe_lst h
theorem pe_toN {e : Expr} {wi : TI} {g : TG} {tt : TT} {te : TE} {vs : List Nat} (h : PE X e (tLc wi g tt te vs)) : PE X e (tLcN wi g tt te vs) := h
theorem ps_toN {st : Stmt} {wi : TI} {g u : TG} {tt : TT} {te : TE} {vs : List Nat} (h : PS X st (tAsg (tLc wi g tt te vs) u)) : PS X st (tAsg (tLcN wi g tt te vs) u) := h
theorem room65 {k : Nat} {A : Around} (r : Room k A) : A.units + 65 < cLine := by
  have := r.un
  omega
end

theorem kb_NoneType_int : kitB "NoneType" "int" = some false := by decide +kernel
theorem kb_NoneType_bool : kitB "NoneType" "bool" = some false := by decide +kernel
theorem kb_NoneType_list : kitB "NoneType" "list" = some false := by decide +kernel
theorem kb_NoneType_tuple : kitB "NoneType" "tuple" = some false := by decide +kernel
theorem kb_NoneType_str : kitB "NoneType" "str" = some false := by decide +kernel
theorem kb_bool_int : kitB "bool" "int" = some true := by decide +kernel
theorem kb_bool_bool : kitB "bool" "bool" = some true := by decide +kernel
theorem kb_bool_list : kitB "bool" "list" = some false := by decide +kernel
theorem kb_bool_tuple : kitB "bool" "tuple" = some false := by decide +kernel
theorem kb_bool_str : kitB "bool" "str" = some false := by decide +kernel
theorem kb_int_int : kitB "int" "int" = some true := by decide +kernel
theorem kb_int_bool : kitB "int" "bool" = some false := by decide +kernel
theorem kb_int_list : kitB "int" "list" = some false := by decide +kernel
theorem kb_int_tuple : kitB "int" "tuple" = some false := by decide +kernel
theorem kb_int_str : kitB "int" "str" = some false := by decide +kernel
theorem kb_str_int : kitB "str" "int" = some false := by decide +kernel
theorem kb_str_bool : kitB "str" "bool" = some false := by decide +kernel
theorem kb_str_list : kitB "str" "list" = some false := by decide +kernel
theorem kb_str_tuple : kitB "str" "tuple" = some false := by decide +kernel
theorem kb_str_str : kitB "str" "str" = some true := by decide +kernel
theorem kb_list_int : kitB "list" "int" = some false := by decide +kernel
theorem kb_list_bool : kitB "list" "bool" = some false := by decide +kernel
theorem kb_list_list : kitB "list" "list" = some true := by decide +kernel
theorem kb_list_tuple : kitB "list" "tuple" = some false := by decide +kernel
theorem kb_list_str : kitB "list" "str" = some false := by decide +kernel
theorem kb_tuple_int : kitB "tuple" "int" = some false := by decide +kernel
theorem kb_tuple_bool : kitB "tuple" "bool" = some false := by decide +kernel
theorem kb_tuple_list : kitB "tuple" "list" = some false := by decide +kernel
theorem kb_tuple_tuple : kitB "tuple" "tuple" = some true := by decide +kernel
theorem kb_tuple_str : kitB "tuple" "str" = some false := by decide +kernel
theorem kb_dict_int : kitB "dict" "int" = some false := by decide +kernel
theorem kb_dict_bool : kitB "dict" "bool" = some false := by decide +kernel
theorem kb_dict_list : kitB "dict" "list" = some false := by decide +kernel
theorem kb_dict_tuple : kitB "dict" "tuple" = some false := by decide +kernel
theorem kb_dict_str : kitB "dict" "str" = some false := by decide +kernel

/-! jobs as data: pairs of tasks -/
abbrev Prs := List (Nat × Nat)
def prsL (zs : Prs) : List PyData := zs.map prD
def optsL (ds : List (Option Int)) : List PyData := ds.map oD
theorem prsL_len (zs : Prs) : (prsL zs).length = zs.length := List.length_map ..
theorem optsL_len (ds : List (Option Int)) : (optsL ds).length = ds.length := List.length_map ..
theorem prsL_snoc (zs : Prs) (z : Nat × Nat) : prsL zs ++ [.tuple [.int (z.1 : Int), .int (z.2 : Int)]] = prsL (zs ++ [z]) := by
  unfold prsL
  rw [List.map_append]
  rfl
theorem prsL_ins (zs : Prs) (n : Nat) (a b : Nat) : (prsL zs).take n ++ [.tuple [.int (a : Int), .int (b : Int)]] ++ (prsL zs).drop n = prsL (zs.take n ++ [(a, b)] ++ zs.drop n) := by
  unfold prsL
  rw [List.map_append, List.map_append, List.map_take, List.map_drop]
  rfl
theorem optsL_get {os : List (Option Int)} {i : Nat} {t : Option Int} (h : os[i]? = some t) : (optsL os)[i]? = some (oD t) := by
  unfold optsL
  rw [List.getElem?_map, h]
  rfl
def jbD (fs : List Int) (ds : List (Option Int)) (zs : Prs) (rs : List Int) : PyData := .tuple [.list (intsL fs), .list (optsL ds), .list (prsL zs), .list (intsL rs)]
structure VJ (fs : List Int) (ds : List (Option Int)) (zs : Prs) (rs : List Int) : Prop where
  fl : fs.length ≤ 100
  dl : ds.length = fs.length
  fv : ∀ x ∈ fs, 1 ≤ x ∧ x ≤ 200
  dv : ∀ x, some x ∈ ds → 0 ≤ x ∧ x ≤ 200
  zl : zs.length ≤ 30
  znd : zs.Nodup
  rank : ∃ rk : Nat → Nat, ∀ z ∈ zs, z.1 < fs.length ∧ z.2 < fs.length ∧ rk z.1 < rk z.2
  ro : Rooms rs
/-- each need goes forward along the order -/
def AlongP (os : List Nat) (zs : Prs) (j k : Nat) : Prop := ∀ z ∈ zs, ∃ j' k' : Nat, k' < j' ∧ os[k']? = some z.1 ∧ os[j']? = some z.2 ∧ (j' < j ∨ (j' = j ∧ k' < k))
theorem AlongP.mono {os : List Nat} {zs : Prs} {j k j2 k2 : Nat} (h : AlongP os zs j k) (l : j < j2 ∨ (j = j2 ∧ k ≤ k2)) : AlongP os zs j2 k2 := fun z hz => by
  obtain ⟨j', k', h1, h2, h3, h4⟩ := h z hz
  exact ⟨j', k', h1, h2, h3, by omega⟩
theorem rank_ofP {os : List Nat} {zs : Prs} {n m j k : Nat} (hp : os.Perm (List.range n)) (h : AlongP os zs j k) (e : n = m) : ∃ rk : Nat → Nat, ∀ z ∈ zs, z.1 < m ∧ z.2 < m ∧ rk z.1 < rk z.2 := by
  subst e
  refine ⟨fun t => os.idxOf t, fun z hz => ?_⟩
  obtain ⟨j', k', h1, h2, h3, _⟩ := h z hz
  have nd := nodup_of_perm hp
  have lt : ∀ {i t : Nat}, os[i]? = some t → t < n := fun h => List.mem_range.mp (hp.mem_iff.mp (List.mem_of_getElem? h))
  have ix : ∀ {i t : Nat}, os[i]? = some t → os.idxOf t = i := fun {i t} h => by
    obtain ⟨hi, e⟩ := List.getElem?_eq_some_iff.mp h
    rw [← e]
    exact nd.idxOf_getElem i hi
  refine ⟨lt h2, lt h3, ?_⟩
  show os.idxOf z.1 < os.idxOf z.2
  rw [ix h2, ix h3]
  exact h1


/-! ### the head -/
def loose0 : List PySem.Str := ["is_whole", "is_whole_from", "is_hour", "is_due", "is_job", "is_room", "is_task", "is_need", "are_needs", "followers_of", "has_ring", "check_job", "number_in", "spelled", "job_text", "rows_in", "read_job", "take_row", "take_task", "take_need"]
def loose1 : List PySem.Str := ["take_rooms", "_law_mixed", "_law_pile", "_law_take", "_law_order", "_law_room", "_law_hours", "_law_needs", "_law_job", "_law_text", "_law_good", "MOST_ROOM", "JobError", "NoJob", "NoText"]
abbrev R : PySem.W.OpenRow := PySem.W.OpenLaw.row PySem.Challenge.rw_duepairs_k60_jobs_written
abbrev hk : PySem.W.Hook := He.hookD 4 fa fn
def ob (s : PySem.W.SharedT) : He.AlD := He.obsDG 4 fa fn (HandSHeadRun.getT s)
theorem ob_eq (s : PySem.W.SharedT) : ob s = hk.obs s.abs := He.obsDG_eq (HandSHeadRun.getT_eq s)
abbrev loose : List PySem.Str := loose0 ++ loose1
theorem run (w : World) : HandSHeadRun.RunEq R (PySem.W.view R.prog [41]) hk ob 40000 loose w := by
  intro os
  kernel_rfl
local macro_rules | `(tactic| walk_at "v0") => `(tactic| simp only [wSeq, wNext, wBreak, wCont, wDrop, wRet, wRetN, wIfS, wAsg, wgName, wgNil, wgCons, wgTup, wgUnl, wPar, wVar, wC, wB, wAnd, wOr, wNot, wAndV, wOrV, wNotV, wIf, wOp, wUn, wCB, wNil, wCons, wIsN, wNotN, isNon, wCall, wCall0, wRng1, wRng2, wIList, wITup, wEnum, wZip, wYes, wLst, wLstN, wTup, wSl, vPart, vNoPart, wIsi, wTru, vTru, wChain, wBM, wBM0, wgSub, wAug, vI0, vI0b, vI, vNeg, vAdd, vEqW, datOf, eqS, id, vIsB, vIx, vSl, vLen, vIsi, tyT, tyD, itemsA, itemsT, seqOf, datsOf, vAll, vAny, vSum, vMax2, vMin2, vMaxL, vMinL, vList, vInt1, vAppend, vSet, isKd, allD, startG, newL, newLN, tupT, itemsV, List.getElem?_cons_zero, List.getElem?_cons_succ, List.set_cons_zero, List.set_cons_succ, List.length_cons, List.length_nil, List.map_cons, List.map_nil, ifV_true, ifV_false, List.nil_append, List.cons_append, reduceCtorEq, Bool.not_true, Bool.not_false, true_and, and_true, decide_true, decide_false, retD, retX, frzT, frzTs, clo, List.take_zero, List.take_succ_cons, List.take_nil, List.not_mem_nil, false_imp_iff, implies_true, callV, callJ, jsOf, rfsTs, rfsT, rfsO, addN, stepN, okJs, renTs, renT, renO, outN, backS, putAll, idxB, inB, renTs_fz, rfsTs_fz, List.append_nil, List.drop_nil, List.drop_zero, List.foldl_nil, List.foldl_cons, List.nodup_nil, kb_NoneType_int, kb_NoneType_bool, kb_NoneType_list, kb_NoneType_tuple, kb_NoneType_str, kb_bool_int, kb_bool_bool, kb_bool_list, kb_bool_tuple, kb_bool_str, kb_int_int, kb_int_bool, kb_int_list, kb_int_tuple, kb_int_str, kb_str_int, kb_str_bool, kb_str_list, kb_str_tuple, kb_str_str, kb_list_int, kb_list_bool, kb_list_list, kb_list_tuple, kb_list_str, kb_tuple_int, kb_tuple_bool, kb_tuple_list, kb_tuple_tuple, kb_tuple_str, kb_dict_int, kb_dict_bool, kb_dict_list, kb_dict_tuple, kb_dict_str, nodB, subL, okO, cloL])

section
variable {P : Program} {w : World} {K : PySem.W.Frag} {mg : Str → Option Value} {base : Heap}
/-! duepairs.whole, told of data -/
def wholeD : PyData → Bool
  | .int _ => true
  | _ => false
/-- one thing in, one truth out -/
def vB1 (f : PyData → Bool) : VSp := fun ts S _ q => match ts, S with
  | [.fz d], [] => q (.fz (.bool (f d))) []
  | _, _ => False
/-- a number and a thing in, a truth out -/
def vB2 (f : Int → PyData → Bool) : VSp := fun ts S _ q => match ts, S with
  | [.fz (.int n), .fz d], [] => q (.fz (.bool (f n d))) []
  | _, _ => False
theorem vB1.inv {f : PyData → Bool} {ts : List T} {S : List O} {vx : VX} {q : VQ} (h : vB1 f ts S vx q) : ∃ d, ts = [.fz d] ∧ S = [] ∧ q (.fz (.bool (f d))) [] := by
  unfold vB1 at h
  split at h
  · exact ⟨_, rfl, rfl, h⟩
  · exact h.elim
theorem vB2.inv {f : Int → PyData → Bool} {ts : List T} {S : List O} {vx : VX} {q : VQ} (h : vB2 f ts S vx q) : ∃ n d, ts = [.fz (.int n), .fz d] ∧ S = [] ∧ q (.fz (.bool (f n d))) [] := by
  unfold vB2 at h
  split at h
  · exact ⟨_, _, rfl, rfl, h⟩
  · exact h.elim
instance {f : PyData → Bool} : VLen (vB1 f) 1 := ⟨fun h => by obtain ⟨d, e, _⟩ := h.inv; rw [e]; rfl⟩
instance {f : Int → PyData → Bool} : VLen (vB2 f) 2 := ⟨fun h => by obtain ⟨n, d, e, _⟩ := h.inv; rw [e]; rfl⟩
theorem RepV.nodict {F : Hp} {α : List Addr} {v : V} {d : PyData} (r : RepV K F α v (.fz d)) : ∀ x, d ≠ .dict x := fun x e => by
  subst e
  cases r with
  | fz h => cases h
theorem RepVs.nodict {F : Hp} {α : List Addr} {vs : List V} {ts : List T} (r : RepVs K F α vs ts) {i : Nat} {d : PyData} (h : ts[i]? = some (.fz d)) : ∀ x, d ≠ .dict x := by
  obtain ⟨v, _, h2⟩ := r.at_ h
  exact h2.nodict
local macro_rules | `(tactic| walk_at "v") => `(tactic| simp only [wSeq, wNext, wBreak, wCont, wDrop, wRet, wRetN, wIfS, wAsg, wgName, wgNil, wgCons, wgTup, wgUnl, wPar, wVar, wC, wB, wAnd, wOr, wNot, wAndV, wOrV, wNotV, wIf, wOp, wUn, wCB, wNil, wCons, wIsN, wNotN, isNon, wCall, wCall0, wRng1, wRng2, wIList, wITup, wEnum, wZip, wYes, wLst, wLstN, wTup, wSl, vPart, vNoPart, wIsi, wTru, vTru, wChain, wBM, wBM0, wgSub, wAug, vI0, vI0b, vI, vNeg, vAdd, vEqW, datOf, eqS, id, vIsB, vIx, vSl, vLen, vIsi, tyT, tyD, itemsA, itemsT, seqOf, datsOf, vAll, vAny, vSum, vMax2, vMin2, vMaxL, vMinL, vList, vInt1, vAppend, vSet, isKd, allD, startG, newL, newLN, tupT, itemsV, List.getElem?_cons_zero, List.getElem?_cons_succ, List.set_cons_zero, List.set_cons_succ, List.length_cons, List.length_nil, List.map_cons, List.map_nil, ifV_true, ifV_false, List.nil_append, List.cons_append, reduceCtorEq, Bool.not_true, Bool.not_false, true_and, and_true, decide_true, decide_false, retD, retX, frzT, frzTs, clo, List.take_zero, List.take_succ_cons, List.take_nil, List.not_mem_nil, false_imp_iff, implies_true, callV, callJ, jsOf, rfsTs, rfsT, rfsO, addN, stepN, okJs, renTs, renT, renO, outN, backS, putAll, idxB, inB, renTs_fz, rfsTs_fz, List.append_nil, List.drop_nil, List.drop_zero, List.foldl_nil, List.foldl_cons, List.nodup_nil, kb_NoneType_int, kb_NoneType_bool, kb_NoneType_list, kb_NoneType_tuple, kb_NoneType_str, kb_bool_int, kb_bool_bool, kb_bool_list, kb_bool_tuple, kb_bool_str, kb_int_int, kb_int_bool, kb_int_list, kb_int_tuple, kb_int_str, kb_str_int, kb_str_bool, kb_str_list, kb_str_tuple, kb_str_str, kb_list_int, kb_list_bool, kb_list_list, kb_list_tuple, kb_list_str, kb_tuple_int, kb_tuple_bool, kb_tuple_list, kb_tuple_tuple, kb_tuple_str, kb_dict_int, kb_dict_bool, kb_dict_list, kb_dict_tuple, kb_dict_str, nodB, subL, okO, cloL, Bool.or_false, Bool.true_or, Bool.or_true, Bool.false_or, eq_self, reduceIte, Int.reduceLE, Int.reduceLT, Int.reduceAdd, Int.reduceSub, Int.reduceNeg, Int.reduceToNat, Nat.reduceAdd, Nat.reduceSub, Nat.reduceLT, Nat.reduceLeDiff, Nat.reduceEqDiff, Int.reduceEq, Int.cast_ofNat_Int, atN_nat, plN_nat, rfsTs_append, renTs_append, Option.map_some, Option.map_none, List.drop_succ_cons, fzs_snoc, fzs_cat, fzs_ins, fzs_set, Int.toNat_natCast, List.length_map, List.length_append, allD_map, allD_append, frzTs_fz, atN_map, List.getD_cons_zero, List.getD_cons_succ, beq_self_eq_true, Nat.reduceBEq, Bool.false_eq_true, vInsert, vInW, datsA, flatD, intsL_flat, intsL_any, natsL_flat, natsL_any, lcR_map, vB1, vB2])
theorem ok_is_whole (T : Env K mg) : Ok P w K mg base CX0 dd_is_whole "is_whole" 1 ["thing"] (liftV K (vB1 wholeD)) := by
  obtain ⟨fd, F⟩ := T.c.def_ 0 (d := dd_is_whole) rfl
  refine ⟨fd, F, T.gl 0 _ rfl, F.kp, F.bindsN fun _ _ _ _ _ _ us hl => match us, hl with | [_], _ => rfl, ?_⟩
  refine F.ok sc_is_whole (fun vs H Q E h => ?_) (fun cdv A outer s H vs Q E hr h => ?_)
  · obtain ⟨F0, α, S, ts, q, vx, hs, rr, xl, ql, h⟩ := h
    rw [rr.len]
    exact VLen.len h
  · obtain ⟨F0, α, S, ts, q, vx, hs, rr, xl, ql, h⟩ := h
    refine ⟨_, PSs.nox (pss_one (ps_ret (pe_and (pe_callB (r := rIsi K) call_isi (by rfl) (T.fr 32 _ rfl) (by decide +kernel) (pa_cons (pv 0) (pa_cons (pe_bltn (v := .ty "int") (by rfl) (T.fr 33 _ rfl) (by decide +kernel) rfl) pa_nil))) (pe_one (pe_not (pe_callB (r := rIsi K) call_isi (by rfl) (T.fr 32 _ rfl) (by decide +kernel) (pa_cons (pv 0) (pa_cons (pe_bltn (v := .ty "bool") (by rfl) (T.fr 34 _ rfl) (by decide +kernel) rfl) pa_nil)))))))), vbody (N := ["thing"]) hs rr xl ql ?_⟩
    obtain ⟨d, rfl, rfl, hq⟩ := h.inv
    have nd := rr.nodict (i := 0) rfl
    cases d with
    | dict x => exact absurd rfl (nd x)
    | _ => walk_at "v"; exact hq
theorem ok_is_whole_from (T : Env K mg) : Ok P w K mg base CX0 dd_is_whole_from "is_whole_from" 2 ["least", "thing"] (liftV K (vB2 wfD)) := by
  obtain ⟨fd_is_whole, D_is_whole, g_is_whole, k_is_whole, b_is_whole, G_is_whole⟩ := ok_is_whole (P := P) (w := w) (base := base) T
  obtain ⟨fd, F⟩ := T.c.def_ 1 (d := dd_is_whole_from) rfl
  refine ⟨fd, F, T.gl 1 _ rfl, F.kp, F.bindsN fun _ _ _ _ _ _ us hl => match us, hl with | [_, _], _ => rfl, ?_⟩
  refine F.ok sc_is_whole_from (fun vs H Q E h => ?_) (fun cdv A outer s H vs Q E hr h => ?_)
  · obtain ⟨F0, α, S, ts, q, vx, hs, rr, xl, ql, h⟩ := h
    rw [rr.len]
    exact VLen.len h
  · obtain ⟨F0, α, S, ts, q, vx, hs, rr, xl, ql, h⟩ := h
    refine ⟨_, PSs.nox (pss_one (ps_ret (pe_and (pe_call G_is_whole (hr.mono (by decide)) (by rfl) g_is_whole k_is_whole b_is_whole .nil pass0 (pa_cons (pv 1) pa_nil)) (pe_one (pe_cmpR op_ge (pv 1) (pv 0) (nomark _)))))), vbody (N := ["least", "thing"]) hs rr xl ql ?_⟩
    obtain ⟨n, d, rfl, rfl, hq⟩ := h.inv
    have nd := rr.nodict (i := 1) rfl
    cases d with
    | dict x => exact absurd rfl (nd x)
    | _ => walk_at "v"; simp only [wholeD]; walk_at "v"; exact hq
theorem ok_is_hour (T : Env K mg) : Ok P w K mg base CX0 dd_is_hour "is_hour" 3 ["thing"] (liftV K (vB1 (wfD 1))) := by
  obtain ⟨fd_is_whole_from, D_is_whole_from, g_is_whole_from, k_is_whole_from, b_is_whole_from, G_is_whole_from⟩ := ok_is_whole_from (P := P) (w := w) (base := base) T
  obtain ⟨fd, F⟩ := T.c.def_ 2 (d := dd_is_hour) rfl
  refine ⟨fd, F, T.gl 2 _ rfl, F.kp, F.bindsN fun _ _ _ _ _ _ us hl => match us, hl with | [_], _ => rfl, ?_⟩
  refine F.ok sc_is_hour (fun vs H Q E h => ?_) (fun cdv A outer s H vs Q E hr h => ?_)
  · obtain ⟨F0, α, S, ts, q, vx, hs, rr, xl, ql, h⟩ := h
    rw [rr.len]
    exact VLen.len h
  · obtain ⟨F0, α, S, ts, q, vx, hs, rr, xl, ql, h⟩ := h
    refine ⟨_, PSs.nox (pss_one (ps_ret (pe_call G_is_whole_from (hr.mono (by decide)) (by rfl) g_is_whole_from k_is_whole_from b_is_whole_from .nil pass0 (pa_cons pe_int (pa_cons (pv 0) pa_nil))))), vbody (N := ["thing"]) hs rr xl ql ?_⟩
    obtain ⟨d, rfl, rfl, hq⟩ := h.inv
    walk_at "v"
    exact hq
theorem ok_is_due (T : Env K mg) : Ok P w K mg base CX0 dd_is_due "is_due" 3 ["thing"] (liftV K (vB1 dueD)) := by
  obtain ⟨fd_is_whole_from, D_is_whole_from, g_is_whole_from, k_is_whole_from, b_is_whole_from, G_is_whole_from⟩ := ok_is_whole_from (P := P) (w := w) (base := base) T
  obtain ⟨fd, F⟩ := T.c.def_ 3 (d := dd_is_due) rfl
  refine ⟨fd, F, T.gl 3 _ rfl, F.kp, F.bindsN fun _ _ _ _ _ _ us hl => match us, hl with | [_], _ => rfl, ?_⟩
  refine F.ok sc_is_due (fun vs H Q E h => ?_) (fun cdv A outer s H vs Q E hr h => ?_)
  · obtain ⟨F0, α, S, ts, q, vx, hs, rr, xl, ql, h⟩ := h
    rw [rr.len]
    exact VLen.len h
  · obtain ⟨F0, α, S, ts, q, vx, hs, rr, xl, ql, h⟩ := h
    refine ⟨_, PSs.nox (pss_one (ps_ret (pe_or (pe_cmp (pc_isN (pv 0)) rfl) (pe_one (pe_call G_is_whole_from (hr.mono (by decide)) (by rfl) g_is_whole_from k_is_whole_from b_is_whole_from .nil pass0 (pa_cons pe_int (pa_cons (pv 0) pa_nil))))))), vbody (N := ["thing"]) hs rr xl ql ?_⟩
    obtain ⟨d, rfl, rfl, hq⟩ := h.inv
    have nd := rr.nodict (i := 0) rfl
    cases d with
    | dict x => exact absurd rfl (nd x)
    | _ => walk_at "v"; exact hq
theorem ok_is_room (T : Env K mg) : Ok P w K mg base CX0 dd_is_room "is_room" 3 ["thing"] (liftV K (vB1 roomD)) := by
  obtain ⟨fd_is_whole_from, D_is_whole_from, g_is_whole_from, k_is_whole_from, b_is_whole_from, G_is_whole_from⟩ := ok_is_whole_from (P := P) (w := w) (base := base) T
  obtain ⟨fd, F⟩ := T.c.def_ 5 (d := dd_is_room) rfl
  refine ⟨fd, F, T.gl 5 _ rfl, F.kp, F.bindsN fun _ _ _ _ _ _ us hl => match us, hl with | [_], _ => rfl, ?_⟩
  refine F.ok sc_is_room (fun vs H Q E h => ?_) (fun cdv A outer s H vs Q E hr h => ?_)
  · obtain ⟨F0, α, S, ts, q, vx, hs, rr, xl, ql, h⟩ := h
    rw [rr.len]
    exact VLen.len h
  · obtain ⟨F0, α, S, ts, q, vx, hs, rr, xl, ql, h⟩ := h
    refine ⟨_, PSs.nox (pss_one (ps_ret (pe_and (pe_call G_is_whole_from (hr.mono (by decide)) (by rfl) g_is_whole_from k_is_whole_from b_is_whole_from .nil pass0 (pa_cons pe_int (pa_cons (pv 0) pa_nil))) (pe_one (pe_cmpR op_le (pv 0) (pe_glob (v := .int 3) (by rfl) (T.it 47 _ _ rfl).choose_spec ⟨_, rfl⟩) (nomark _)))))), vbody (N := ["thing"]) hs rr xl ql ?_⟩
    obtain ⟨d, rfl, rfl, hq⟩ := h.inv
    have nd := rr.nodict (i := 0) rfl
    cases d with
    | dict x => exact absurd rfl (nd x)
    | int i =>
      walk_at "v"
      simp only [wfD]
      simp only [roomD] at hq
      refine ⟨fun e => ?_, fun e => ?_⟩
      · rw [e] at hq
        exact hq
      · rw [e] at hq
        exact hq
    | _ => walk_at "v"; simp only [wfD]; walk_at "v"; exact hq
theorem ok_is_task (T : Env K mg) : Ok P w K mg base CX0 dd_is_task "is_task" 3 ["many", "thing"] (liftV K (vB2 taskD)) := by
  obtain ⟨fd_is_whole_from, D_is_whole_from, g_is_whole_from, k_is_whole_from, b_is_whole_from, G_is_whole_from⟩ := ok_is_whole_from (P := P) (w := w) (base := base) T
  obtain ⟨fd, F⟩ := T.c.def_ 6 (d := dd_is_task) rfl
  refine ⟨fd, F, T.gl 6 _ rfl, F.kp, F.bindsN fun _ _ _ _ _ _ us hl => match us, hl with | [_, _], _ => rfl, ?_⟩
  refine F.ok sc_is_task (fun vs H Q E h => ?_) (fun cdv A outer s H vs Q E hr h => ?_)
  · obtain ⟨F0, α, S, ts, q, vx, hs, rr, xl, ql, h⟩ := h
    rw [rr.len]
    exact VLen.len h
  · obtain ⟨F0, α, S, ts, q, vx, hs, rr, xl, ql, h⟩ := h
    refine ⟨_, PSs.nox (pss_one (ps_ret (pe_and (pe_call G_is_whole_from (hr.mono (by decide)) (by rfl) g_is_whole_from k_is_whole_from b_is_whole_from .nil pass0 (pa_cons pe_int (pa_cons (pv 1) pa_nil))) (pe_one (pe_cmpR op_lt (pv 1) (pv 0) (nomark _)))))), vbody (N := ["many", "thing"]) hs rr xl ql ?_⟩
    obtain ⟨n, d, rfl, rfl, hq⟩ := h.inv
    have nd := rr.nodict (i := 1) rfl
    cases d with
    | dict x => exact absurd rfl (nd x)
    | int i =>
      walk_at "v"
      simp only [wfD]
      simp only [taskD] at hq
      refine ⟨fun e => ?_, fun e => ?_⟩
      · rw [e] at hq
        exact hq
      · rw [e] at hq
        exact hq
    | _ => walk_at "v"; simp only [wfD]; walk_at "v"; exact hq

/-! the law's own helpers: digits of a pile -/
/-- one object that holds one number -/
def pl (x : Int) : O := .lst [.fz (.int x)]
def vMixed : VSp := fun ts S _ q => match ts, S with
  | [.fz (.int _), .fz (.int _)], [] => ∀ r, 0 ≤ r → r < 2147483579 → q (.fz (.int r)) []
  | _, _ => False
instance : VLen vMixed 2 := ⟨fun {ts S vx q} h => by
  unfold vMixed at h
  split at h
  · rfl
  · exact h.elim⟩
theorem ok__law_mixed (T : Env K mg) : Ok P w K mg base CX0 dd__law_mixed "_law_mixed" 1 ["_law_cell", "_law_k"] (liftV K vMixed) := by
  obtain ⟨fd, F⟩ := T.c.def_ 21 (d := dd__law_mixed) rfl
  refine ⟨fd, F, T.gl 21 _ rfl, F.kp, F.bindsN fun _ _ _ _ _ _ us hl => match us, hl with | [_, _], _ => rfl, ?_⟩
  refine F.ok sc__law_mixed (fun vs H Q E h => ?_) (fun cdv A outer s H vs Q E hr h => ?_)
  · obtain ⟨F0, α, S, ts, q, vx, hs, rr, xl, ql, h⟩ := h
    rw [rr.len]
    exact VLen.len h
  · obtain ⟨F0, α, S, ts, q, vx, hs, rr, xl, ql, h⟩ := h
    refine ⟨_, PSs.nox (pss_cons (ps_set (i := 2) sc__law_mixed.nd rfl (Or.inl rfl) (pe_op op_modN (pe_callTy (r := rInt1) call_intX (by rfl) (T.fr 33 _ rfl) (by decide +kernel) (pa_cons (pe_op (r := rAddX K) op_addX (pe_op (r := rAddX K) op_addX (pe_op op_mul (pe_op op_modN (pe_callTy (r := rInt1) call_intX (by rfl) (T.fr 33 _ rfl) (by decide +kernel) (pa_cons (pv 0) pa_nil)) pe_int) pe_int) (pe_op op_mul (pv 1) pe_int)) pe_int) pa_nil)) pe_int))
      (pss_cons (ps_set (i := 2) sc__law_mixed.nd rfl (Or.inl rfl) (pe_op op_modN (pe_callTy (r := rInt1) call_intX (by rfl) (T.fr 33 _ rfl) (by decide +kernel) (pa_cons (pe_op op_mul (pv 2) (pv 2)) pa_nil)) pe_int))
      (pss_one (ps_ret (pe_op op_modN (pe_callTy (r := rInt1) call_intX (by rfl) (T.fr 33 _ rfl) (by decide +kernel) (pa_cons (pe_op op_mul (pv 2) (pe_op (r := rAddX K) op_addX (pv 2) pe_int)) pa_nil)) pe_int))))), vbody (N := ["_law_cell", "_law_k", "_law_number"]) hs rr xl ql ?_⟩
    unfold vMixed at h
    split at h
    · walk_at "v"
      refine ⟨by decide, .inr ⟨by decide, by decide⟩, .inr ⟨by decide, by decide⟩, by decide, ?_⟩
      generalize hz : Int.fmod _ 2147483629 = z
      have z0 : 0 ≤ z := hz ▸ fmod_lo (by decide)
      have z1 : z < 2147483629 := hz ▸ fmod_hi (by decide)
      refine ⟨.inl ⟨by omega, by omega⟩, by decide, ?_⟩
      generalize hy : Int.fmod _ 2147483587 = y
      have y0 : 0 ≤ y := hy ▸ fmod_lo (by decide)
      have y1 : y < 2147483587 := hy ▸ fmod_hi (by decide)
      exact ⟨.inl ⟨by omega, by omega⟩, by decide, h _ (fmod_lo (by decide)) (fmod_hi (by decide))⟩
    · exact h.elim
def vTake : VSp := fun ts S _ q => match ts, S with
  | [.rf 0, .fz (.int n)], [.lst [.fz (.int _)]] => 0 < n ∧ n < 1000 ∧ ∀ d x', 0 ≤ d → d < n → q (.fz (.int d)) [pl x']
  | _, _ => False
instance : VLen vTake 2 := ⟨fun {ts S vx q} h => by
  unfold vTake at h
  split at h
  · rfl
  · exact h.elim⟩
theorem ok__law_take (T : Env K mg) : Ok P w K mg base CX0 dd__law_take "_law_take" 1 ["_law_pile_here", "_law_size"] (liftV K vTake) := by
  obtain ⟨fd, F⟩ := T.c.def_ 23 (d := dd__law_take) rfl
  refine ⟨fd, F, T.gl 23 _ rfl, F.kp, F.bindsN fun _ _ _ _ _ _ us hl => match us, hl with | [_, _], _ => rfl, ?_⟩
  refine F.ok sc__law_take (fun vs H Q E h => ?_) (fun cdv A outer s H vs Q E hr h => ?_)
  · obtain ⟨F0, α, S, ts, q, vx, hs, rr, xl, ql, h⟩ := h
    rw [rr.len]
    exact VLen.len h
  · obtain ⟨F0, α, S, ts, q, vx, hs, rr, xl, ql, h⟩ := h
    refine ⟨_, PSs.nox (pss_cons (ps_set (i := 2) sc__law_take.nd rfl (Or.inl rfl) (pe_op op_modN (pe_callTy (r := rInt1) call_intX (by rfl) (T.fr 33 _ rfl) (by decide +kernel) (pa_cons (pe_ix (r := rIx K) ix_seq (pv 0) pe_int (fun _ _ => rfl)) pa_nil)) (pv 1)))
      (pss_cons (ps_asg (pe_op op_fdivN (pe_ix (r := rIx K) ix_seq (pv 0) pe_int (fun _ _ => rfl)) (pv 1)) (pg_sub (pv 0) pe_int set_list))
      (pss_one (ps_ret (pv 2))))), vbody (N := ["_law_pile_here", "_law_size", "_law_digit"]) hs rr xl ql ?_⟩
    unfold vTake at h
    split at h
    · rename_i n x
      obtain ⟨n0, n1, hq⟩ := h
      walk_at "v"
      simp only [atN, plN]
      walk_at "v"
      refine ⟨by omega, ⟨by omega, by omega⟩, ?_⟩
      exact hq _ _ (fmod_lo n0) (fmod_hi n0)
    · exact h.elim
def vPile : VSp := fun ts S _ q => match ts, S with
  | [.scr ns, .fz (.int k)], [] => ns.length ≤ 63 ∧ 0 ≤ k ∧ ∀ x, q (.rf 0) [pl x]
  | _, _ => False
instance : VLen vPile 2 := ⟨fun {ts S vx q} h => by
  unfold vPile at h
  split at h
  · rfl
  · exact h.elim⟩
local macro_rules | `(tactic| walk_at "v") => `(tactic| simp only [wSeq, wNext, wBreak, wCont, wDrop, wRet, wRetN, wIfS, wAsg, wgName, wgNil, wgCons, wgTup, wgUnl, wPar, wVar, wC, wB, wAnd, wOr, wNot, wAndV, wOrV, wNotV, wIf, wOp, wUn, wCB, wNil, wCons, wIsN, wNotN, isNon, wCall, wCall0, wRng1, wRng2, wIList, wITup, wEnum, wZip, wYes, wLst, wLstN, wTup, wSl, vPart, vNoPart, wIsi, wTru, vTru, wChain, wBM, wBM0, wgSub, wAug, vI0, vI0b, vI, vNeg, vAdd, vEqW, datOf, eqS, id, vIsB, vIx, vSl, vLen, vIsi, tyT, tyD, itemsA, itemsT, seqOf, datsOf, vAll, vAny, vSum, vMax2, vMin2, vMaxL, vMinL, vList, vInt1, vAppend, vSet, isKd, allD, startG, newL, newLN, tupT, itemsV, List.getElem?_cons_zero, List.getElem?_cons_succ, List.set_cons_zero, List.set_cons_succ, List.length_cons, List.length_nil, List.map_cons, List.map_nil, ifV_true, ifV_false, List.nil_append, List.cons_append, reduceCtorEq, Bool.not_true, Bool.not_false, true_and, and_true, decide_true, decide_false, retD, retX, frzT, frzTs, clo, List.take_zero, List.take_succ_cons, List.take_nil, List.not_mem_nil, false_imp_iff, implies_true, callV, callJ, jsOf, rfsTs, rfsT, rfsO, addN, stepN, okJs, renTs, renT, renO, outN, backS, putAll, idxB, inB, renTs_fz, rfsTs_fz, List.append_nil, List.drop_nil, List.drop_zero, List.foldl_nil, List.foldl_cons, List.nodup_nil, kb_NoneType_int, kb_NoneType_bool, kb_NoneType_list, kb_NoneType_tuple, kb_NoneType_str, kb_bool_int, kb_bool_bool, kb_bool_list, kb_bool_tuple, kb_bool_str, kb_int_int, kb_int_bool, kb_int_list, kb_int_tuple, kb_int_str, kb_str_int, kb_str_bool, kb_str_list, kb_str_tuple, kb_str_str, kb_list_int, kb_list_bool, kb_list_list, kb_list_tuple, kb_list_str, kb_tuple_int, kb_tuple_bool, kb_tuple_list, kb_tuple_tuple, kb_tuple_str, kb_dict_int, kb_dict_bool, kb_dict_list, kb_dict_tuple, kb_dict_str, nodB, subL, okO, cloL, Bool.or_false, Bool.true_or, Bool.or_true, Bool.false_or, eq_self, reduceIte, Int.reduceLE, Int.reduceLT, Int.reduceAdd, Int.reduceSub, Int.reduceNeg, Int.reduceToNat, Nat.reduceAdd, Nat.reduceSub, Nat.reduceLT, Nat.reduceLeDiff, Nat.reduceEqDiff, Int.reduceEq, Int.cast_ofNat_Int, atN_nat, plN_nat, rfsTs_append, renTs_append, Option.map_some, Option.map_none, List.drop_succ_cons, fzs_snoc, fzs_cat, fzs_ins, fzs_set, Int.toNat_natCast, List.length_map, List.length_append, allD_map, allD_append, frzTs_fz, atN_map, List.getD_cons_zero, List.getD_cons_succ, beq_self_eq_true, Nat.reduceBEq, Bool.false_eq_true, vInsert, vInW, datsA, flatD, intsL_flat, intsL_any, natsL_flat, natsL_any, lcR_map, vB1, vB2, vMixed, vTake, pl])
theorem ok__law_pile (T : Env K mg) : Ok P w K mg base CX0 dd__law_pile "_law_pile" 2 ["_law_script", "_law_k"] (liftV K vPile) := by
  obtain ⟨fd__law_mixed, D__law_mixed, g__law_mixed, k__law_mixed, b__law_mixed, G__law_mixed⟩ := ok__law_mixed (P := P) (w := w) (base := base) T
  obtain ⟨fd, F⟩ := T.c.def_ 22 (d := dd__law_pile) rfl
  refine ⟨fd, F, T.gl 22 _ rfl, F.kp, F.bindsN fun _ _ _ _ _ _ us hl => match us, hl with | [_, _], _ => rfl, ?_⟩
  refine F.ok sc__law_pile (fun vs H Q E h => ?_) (fun cdv A outer s H vs Q E hr h => ?_)
  · obtain ⟨F0, α, S, ts, q, vx, hs, rr, xl, ql, h⟩ := h
    rw [rr.len]
    exact VLen.len h
  · obtain ⟨F0, α, S, ts, q, vx, hs, rr, xl, ql, h⟩ := h
    refine ⟨_, PSs.nox (pss_cons (ps_set (i := 2) sc__law_pile.nd rfl (Or.inl rfl) pe_int)
      (pss_cons (ps_if (pt_cmpR op_lt (pv 1) (pe_callB (r := rLenX K) call_lenX (by rfl) (T.fr 36 _ rfl) (by decide +kernel) (pa_cons (pv 0) pa_nil)) (nomark _)) (pss_one (ps_set (i := 2) sc__law_pile.nd rfl (Or.inl rfl) (pe_ix (r := rIx K) ix_seq (pv 0) (pv 1) (fun _ _ => rfl)))) pss_nil)
      (pss_cons (ps_if (pt_cmpR op_ge (pv 2) (pe_op op_pow pe_int pe_int) (nomark _)) (pss_one (ps_ret (pe_lstN (pa_cons (pe_op op_modN (pe_callTy (r := rInt1) call_intX (by rfl) (T.fr 33 _ rfl) (by decide +kernel) (pa_cons (pe_op op_sub (pv 2) (pe_op op_pow pe_int pe_int)) pa_nil)) (pe_op op_mulW (pe_op op_mulW (pe_op op_mulW (pe_op op_pow pe_int pe_int) (pe_op op_pow pe_int pe_int)) (pe_op op_pow pe_int pe_int)) (pe_op op_pow pe_int pe_int))) pa_nil)))) pss_nil)
      (pss_cons (ps_set (i := 3) sc__law_pile.nd rfl (Or.inl rfl) pe_int)
      (pss_cons (ps_for PassesOwn.never rfl (pi_range1 (by rfl) (T.fr 40 _ rfl) (pa_cons pe_int pa_nil)) (pg_name (i := 4) sc__law_pile.nd rfl (Or.inl rfl)) (pss_one (ps_set (i := 3) sc__law_pile.nd rfl (Or.inl rfl) (pe_op (r := rAddX K) op_addX (pe_op op_mul (pv 3) pe_int) (pe_call G__law_mixed (hr.mono (by decide)) (by rfl) g__law_mixed k__law_mixed b__law_mixed .nil pass0 (pa_cons (pv 2) (pa_cons (pe_op (r := rAddX K) op_addX (pe_op (r := rAddX K) op_addX (pe_op op_mul pe_int (pv 1)) (pe_op op_mul pe_int (pv 4))) (pe_op op_mul (pv 4) (pv 4))) pa_nil)))))))
      (pss_one (ps_ret (pe_lstN (pa_cons (pv 3) pa_nil))))))))), vbodyK (N := ["_law_script", "_law_k", "_law_cell", "_law_found", "_law_j"]) hs rr xl ql ?_⟩
    unfold vPile at h
    split at h
    · rename_i ns k
      obtain ⟨hn, k0, hq⟩ := h
      refine vstep fun k1 hk => ?_
      walk_at "v"
      refine hk _ _ ?_
      refine vcut (fun Γ S => S = [] ∧ ∃ c : Int, Γ = [some (.scr ns), some (.fz (.int k)), some (.fz (.int c)), none, none]) (fun k1 hk => ?_) (fun Γ S hP => ?_)
      · walk_at "v"
        refine ⟨fun e => ?_, fun e => hk _ _ ⟨rfl, 0, rfl⟩⟩
        have hkl : k < (ns.length : Int) := of_decide_eq_true e
        obtain ⟨c, e1, e2, e3⟩ := atN_in (xs := ns) k0 hkl
        rw [e1]
        exact hk _ _ ⟨rfl, c, rfl⟩
      obtain ⟨rfl, c, rfl⟩ := hP
      walk_at "v"
      refine ⟨⟨by decide, by decide, by decide⟩, fun e => ?_, fun e => ?_⟩
      · exact ⟨⟨by decide, by decide, by decide⟩, ⟨by decide, by decide, by decide⟩, ⟨by decide, by decide, by decide⟩, (by show _ + _ < 1000000; decide +kernel), ⟨by decide, by decide, by decide⟩, (by show _ + _ < 1000000; decide +kernel), ⟨by decide, by decide, by decide⟩, (by show _ + _ < 1000000; decide +kernel), by decide +kernel, hq _⟩
      · unfold wFor
        walk_at "v"
        refine ⟨by decide, by decide, forV_inv (fun i Γ S => S = [] ∧ ∃ (f : Int) (y : Option DP.T), Γ = [some (.scr ns), some (.fz (.int k)), some (.fz (.int c)), some (.fz (.int f)), y]) ⟨rfl, 0, none, rfl⟩ (fun _ _ _ _ _ => trivial) (fun i x Γ S k' hx hI hk' => ?_) (fun Γ S hI => ?_)⟩
        · obtain ⟨rfl, f, y, rfl⟩ := hI
          obtain ⟨hi, rfl⟩ := rng0_get hx
          walk_at "v"
          refine ⟨.inr ⟨by decide, by decide⟩, .inl ⟨by decide, by decide⟩, .inl ⟨by decide, by decide⟩, .inl ⟨by omega, by omega⟩, fun r r0 r1 => ?_⟩
          exact hk' _ _ ⟨rfl, _, _, rfl⟩
        · obtain ⟨rfl, f, y, rfl⟩ := hI
          walk_at "v"
          exact hq _
    · exact h.elim
def vOrder : VSp := fun ts S _ q => match ts, S with
  | [.rf 0, .fz (.int n)], [.lst [.fz (.int _)]] => 0 ≤ n ∧ n ≤ 100 ∧ ∀ (os : List Nat) (x' : Int), os.Perm (List.range n.toNat) → q (.fz (.list (natsL os))) [pl x']
  | _, _ => False
instance : VLen vOrder 2 := ⟨fun {ts S vx q} h => by
  unfold vOrder at h
  split at h
  · rfl
  · exact h.elim⟩
local macro_rules | `(tactic| walk_at "v") => `(tactic| simp only [wSeq, wNext, wBreak, wCont, wDrop, wRet, wRetN, wIfS, wAsg, wgName, wgNil, wgCons, wgTup, wgUnl, wPar, wVar, wC, wB, wAnd, wOr, wNot, wAndV, wOrV, wNotV, wIf, wOp, wUn, wCB, wNil, wCons, wIsN, wNotN, isNon, wCall, wCall0, wRng1, wRng2, wIList, wITup, wEnum, wZip, wYes, wLst, wLstN, wTup, wSl, vPart, vNoPart, wIsi, wTru, vTru, wChain, wBM, wBM0, wgSub, wAug, vI0, vI0b, vI, vNeg, vAdd, vEqW, datOf, eqS, id, vIsB, vIx, vSl, vLen, vIsi, tyT, tyD, itemsA, itemsT, seqOf, datsOf, vAll, vAny, vSum, vMax2, vMin2, vMaxL, vMinL, vList, vInt1, vAppend, vSet, isKd, allD, startG, newL, newLN, tupT, itemsV, List.getElem?_cons_zero, List.getElem?_cons_succ, List.set_cons_zero, List.set_cons_succ, List.length_cons, List.length_nil, List.map_cons, List.map_nil, ifV_true, ifV_false, List.nil_append, List.cons_append, reduceCtorEq, Bool.not_true, Bool.not_false, true_and, and_true, decide_true, decide_false, retD, retX, frzT, frzTs, clo, List.take_zero, List.take_succ_cons, List.take_nil, List.not_mem_nil, false_imp_iff, implies_true, callV, callJ, jsOf, rfsTs, rfsT, rfsO, addN, stepN, okJs, renTs, renT, renO, outN, backS, putAll, idxB, inB, renTs_fz, rfsTs_fz, List.append_nil, List.drop_nil, List.drop_zero, List.foldl_nil, List.foldl_cons, List.nodup_nil, kb_NoneType_int, kb_NoneType_bool, kb_NoneType_list, kb_NoneType_tuple, kb_NoneType_str, kb_bool_int, kb_bool_bool, kb_bool_list, kb_bool_tuple, kb_bool_str, kb_int_int, kb_int_bool, kb_int_list, kb_int_tuple, kb_int_str, kb_str_int, kb_str_bool, kb_str_list, kb_str_tuple, kb_str_str, kb_list_int, kb_list_bool, kb_list_list, kb_list_tuple, kb_list_str, kb_tuple_int, kb_tuple_bool, kb_tuple_list, kb_tuple_tuple, kb_tuple_str, kb_dict_int, kb_dict_bool, kb_dict_list, kb_dict_tuple, kb_dict_str, nodB, subL, okO, cloL, Bool.or_false, Bool.true_or, Bool.or_true, Bool.false_or, eq_self, reduceIte, Int.reduceLE, Int.reduceLT, Int.reduceAdd, Int.reduceSub, Int.reduceNeg, Int.reduceToNat, Nat.reduceAdd, Nat.reduceSub, Nat.reduceLT, Nat.reduceLeDiff, Nat.reduceEqDiff, Int.reduceEq, Int.cast_ofNat_Int, atN_nat, plN_nat, rfsTs_append, renTs_append, Option.map_some, Option.map_none, List.drop_succ_cons, fzs_snoc, fzs_cat, fzs_ins, fzs_set, Int.toNat_natCast, List.length_map, List.length_append, allD_map, allD_append, frzTs_fz, atN_map, List.getD_cons_zero, List.getD_cons_succ, beq_self_eq_true, Nat.reduceBEq, Bool.false_eq_true, vInsert, vInW, datsA, flatD, intsL_flat, intsL_any, natsL_flat, natsL_any, lcR_map, vB1, vB2, vMixed, vTake, pl, vPile])
theorem ok__law_order (T : Env K mg) : Ok P w K mg base CX0 dd__law_order "_law_order" 2 ["_law_pile_here", "_law_many"] (liftV K vOrder) := by
  obtain ⟨fd__law_take, D__law_take, g__law_take, k__law_take, b__law_take, G__law_take⟩ := ok__law_take (P := P) (w := w) (base := base) T
  obtain ⟨fd, F⟩ := T.c.def_ 24 (d := dd__law_order) rfl
  refine ⟨fd, F, T.gl 24 _ rfl, F.kp, F.bindsN fun _ _ _ _ _ _ us hl => match us, hl with | [_, _], _ => rfl, ?_⟩
  refine F.ok sc__law_order (fun vs H Q E h => ?_) (fun cdv A outer s H vs Q E hr h => ?_)
  · obtain ⟨F0, α, S, ts, q, vx, hs, rr, xl, ql, h⟩ := h
    rw [rr.len]
    exact VLen.len h
  · obtain ⟨F0, α, S, ts, q, vx, hs, rr, xl, ql, h⟩ := h
    refine ⟨_, PSs.nox (pss_cons (ps_set (i := 2) sc__law_order.nd rfl (Or.inl rfl) (pe_lstN pa_nil))
      (pss_cons (ps_for PassesOwn.never rfl (pi_range1 (by rfl) (T.fr 40 _ rfl) (pa_cons (pv 1) pa_nil)) (pg_name (i := 3) sc__law_order.nd rfl (Or.inl rfl)) (pss_one (ps_expr (pe_bmK (K := K) rfl (pe_bm PySem.F.plainAttrs_list PySem.F.slot_list_insert PySem.F.type_list_insert (r := rInsertX) mt_insertX (pv 2) (pa_cons (pe_call G__law_take (hr.mono (by decide)) (by rfl) g__law_take k__law_take b__law_take .nil pass0 (pa_cons (pv 0) (pa_cons (pe_op (r := rAddX K) op_addX (pv 3) pe_int) pa_nil))) (pa_cons (pv 3) pa_nil)))))))
      (pss_one (ps_ret (pv 2))))), vbody (N := ["_law_pile_here", "_law_many", "_law_order_here", "_law_k"]) hs rr xl ql ?_⟩
    unfold vOrder at h
    split at h
    · rename_i n x
      obtain ⟨n0, n1, hq⟩ := h
      unfold wFor
      walk_at "v"
      refine ⟨by omega, by omega, forV_inv (fun i Γ S => ∃ (os : List Nat) (x' : Int) (y : Option DP.T), Γ = [some (.rf 0), some (.fz (.int n)), some (.rf 1), y] ∧ S = [pl x', .lst (fzs (natsL os))] ∧ os.Perm (List.range i)) ⟨[], x, none, rfl, rfl, List.Perm.refl _⟩ (fun _ _ _ _ _ => trivial) (fun i y Γ S k' hx hI hk' => ?_) (fun Γ S hI => ?_)⟩
      · obtain ⟨os, x', y, rfl, rfl, hp⟩ := hI
        obtain ⟨hi, rfl⟩ := rng0_get hx
        have hl : os.length = i := by rw [hp.length_eq, List.length_range]
        walk_at "v"
        refine ⟨by omega, by omega, fun d x2 d0 d1 => ⟨by rw [natsL_len]; omega, d0, by omega, hk' _ _ ⟨os.take d.toNat ++ [i] ++ os.drop d.toNat, x2, _, rfl, by rw [natsL_ins]; rfl, ?_⟩⟩⟩
        rw [range_snoc]
        exact (perm_ins os d.toNat i).trans ((List.Perm.cons i hp).trans (List.perm_append_comm (l₁ := [i]) (l₂ := List.range i)))
      · obtain ⟨os, x', y, rfl, rfl, hp⟩ := hI
        rw [rngT_len] at hp
        walk_at "v"
        exact hq _ _ hp
    · exact h.elim
def vRoom1 : VSp := fun ts S _ q => match ts, S with
  | [.fz (.list ds), .fz (.int h)], [] => 1 ≤ h ∧ ∃ rs, ds = intsL rs ∧ q (.fz (.int (roomAt rs h))) []
  | _, _ => False
instance : VLen vRoom1 2 := ⟨fun {ts S vx q} h => by
  unfold vRoom1 at h
  split at h
  · rfl
  · exact h.elim⟩
local macro_rules | `(tactic| walk_at "v") => `(tactic| simp only [wSeq, wNext, wBreak, wCont, wDrop, wRet, wRetN, wIfS, wAsg, wgName, wgNil, wgCons, wgTup, wgUnl, wPar, wVar, wC, wB, wAnd, wOr, wNot, wAndV, wOrV, wNotV, wIf, wOp, wUn, wCB, wNil, wCons, wIsN, wNotN, isNon, wCall, wCall0, wRng1, wRng2, wIList, wITup, wEnum, wZip, wYes, wLst, wLstN, wTup, wSl, vPart, vNoPart, wIsi, wTru, vTru, wChain, wBM, wBM0, wgSub, wAug, vI0, vI0b, vI, vNeg, vAdd, vEqW, datOf, eqS, id, vIsB, vIx, vSl, vLen, vIsi, tyT, tyD, itemsA, itemsT, seqOf, datsOf, vAll, vAny, vSum, vMax2, vMin2, vMaxL, vMinL, vList, vInt1, vAppend, vSet, isKd, allD, startG, newL, newLN, tupT, itemsV, List.getElem?_cons_zero, List.getElem?_cons_succ, List.set_cons_zero, List.set_cons_succ, List.length_cons, List.length_nil, List.map_cons, List.map_nil, ifV_true, ifV_false, List.nil_append, List.cons_append, reduceCtorEq, Bool.not_true, Bool.not_false, true_and, and_true, decide_true, decide_false, retD, retX, frzT, frzTs, clo, List.take_zero, List.take_succ_cons, List.take_nil, List.not_mem_nil, false_imp_iff, implies_true, callV, callJ, jsOf, rfsTs, rfsT, rfsO, addN, stepN, okJs, renTs, renT, renO, outN, backS, putAll, idxB, inB, renTs_fz, rfsTs_fz, List.append_nil, List.drop_nil, List.drop_zero, List.foldl_nil, List.foldl_cons, List.nodup_nil, kb_NoneType_int, kb_NoneType_bool, kb_NoneType_list, kb_NoneType_tuple, kb_NoneType_str, kb_bool_int, kb_bool_bool, kb_bool_list, kb_bool_tuple, kb_bool_str, kb_int_int, kb_int_bool, kb_int_list, kb_int_tuple, kb_int_str, kb_str_int, kb_str_bool, kb_str_list, kb_str_tuple, kb_str_str, kb_list_int, kb_list_bool, kb_list_list, kb_list_tuple, kb_list_str, kb_tuple_int, kb_tuple_bool, kb_tuple_list, kb_tuple_tuple, kb_tuple_str, kb_dict_int, kb_dict_bool, kb_dict_list, kb_dict_tuple, kb_dict_str, nodB, subL, okO, cloL, Bool.or_false, Bool.true_or, Bool.or_true, Bool.false_or, eq_self, reduceIte, Int.reduceLE, Int.reduceLT, Int.reduceAdd, Int.reduceSub, Int.reduceNeg, Int.reduceToNat, Nat.reduceAdd, Nat.reduceSub, Nat.reduceLT, Nat.reduceLeDiff, Nat.reduceEqDiff, Int.reduceEq, Int.cast_ofNat_Int, atN_nat, plN_nat, rfsTs_append, renTs_append, Option.map_some, Option.map_none, List.drop_succ_cons, fzs_snoc, fzs_cat, fzs_ins, fzs_set, Int.toNat_natCast, List.length_map, List.length_append, allD_map, allD_append, frzTs_fz, atN_map, List.getD_cons_zero, List.getD_cons_succ, beq_self_eq_true, Nat.reduceBEq, Bool.false_eq_true, vInsert, vInW, datsA, flatD, intsL_flat, intsL_any, natsL_flat, natsL_any, lcR_map, vB1, vB2, vMixed, vTake, pl, vPile, vOrder])
theorem ok__law_room (T : Env K mg) : Ok P w K mg base CX0 dd__law_room "_law_room" 1 ["_law_rooms", "_law_hour"] (liftV K vRoom1) := by
  obtain ⟨fd, F⟩ := T.c.def_ 25 (d := dd__law_room) rfl
  refine ⟨fd, F, T.gl 25 _ rfl, F.kp, F.bindsN fun _ _ _ _ _ _ us hl => match us, hl with | [_, _], _ => rfl, ?_⟩
  refine F.ok sc__law_room (fun vs H Q E h => ?_) (fun cdv A outer s H vs Q E hr h => ?_)
  · obtain ⟨F0, α, S, ts, q, vx, hs, rr, xl, ql, h⟩ := h
    rw [rr.len]
    exact VLen.len h
  · obtain ⟨F0, α, S, ts, q, vx, hs, rr, xl, ql, h⟩ := h
    refine ⟨_, PSs.nox (pss_cons (ps_if (pt_cmpR op_le (pv 1) (pe_callB (r := rLenX K) call_lenX (by rfl) (T.fr 36 _ rfl) (by decide +kernel) (pa_cons (pv 0) pa_nil)) (nomark _)) (pss_one (ps_ret (pe_ix (r := rIx K) ix_seq (pv 0) (pe_op op_sub (pv 1) pe_int) (fun _ _ => rfl)))) pss_nil)
      (pss_one (ps_ret pe_int))), vbody (N := ["_law_rooms", "_law_hour"]) hs rr xl ql ?_⟩
    unfold vRoom1 at h
    split at h
    · obtain ⟨h1, rs, rfl, hq⟩ := h
      walk_at "v"
      refine ⟨fun e => ?_, fun e => ?_⟩
      · have hk := of_decide_eq_true e
        rw [intsL_len] at hk
        rename_i h2
        have h3 : atN (intsL rs) (h2 - 1) = some (.int (roomAt rs h2)) := by
          unfold atN
          rw [if_pos (by omega)]
          exact intsL_get (roomAt_in h1 hk)
        rw [h3]
        exact hq
      · have hk := of_decide_eq_false e
        rw [intsL_len] at hk
        rw [roomAt_out (by omega)] at hq
        exact hq
    · exact h.elim
/-- the hours drawn so far keep the rooms -/
structure HInv (rs hs : List Int) (os : List Nat) (i : Nat) (hour left : Int) : Prop where
  zero : ∀ t, t < hs.length → t ∉ os.take i → hs[t]? = some 0
  cnt : ∀ k : Int, 1 ≤ k → (hs.count k : Int) ≤ roomAt rs k
  now : (hs.count hour : Int) + left ≤ roomAt rs hour
  lft : 0 ≤ left
  aft : ∀ k, hour < k → hs.count k = 0
theorem HInv.start {rs : List Int} (R : Rooms rs) (os : List Nat) (n : Nat) : HInv rs (List.replicate n 0) os 0 1 (roomAt rs 1) := by
  have hc : ∀ k : Int, 1 ≤ k → (List.replicate n (0 : Int)).count k = 0 := fun k hk => by
    rw [List.count_replicate, if_neg]
    intro e
    have := eq_of_beq e
    omega
  refine ⟨fun t ht _ => ?_, fun k hk => ?_, ?_, (R.at_ 1).1, fun k hk => hc k (by omega)⟩
  · rw [List.length_replicate] at ht
    rw [List.getElem?_replicate, if_pos ht]
  · rw [hc k hk]
    exact (R.at_ k).1
  · rw [hc 1 (by decide)]
    show ((0 : Nat) : Int) + _ ≤ _
    omega
theorem HInv.next {rs hs : List Int} {os : List Nat} {i : Nat} {hour left : Int} (I : HInv rs hs os i hour left) (R : Rooms rs) : HInv rs hs os i (hour + 1) (roomAt rs (hour + 1)) :=
  ⟨I.zero, I.cnt, by rw [I.aft (hour + 1) (by omega)]; show ((0 : Nat) : Int) + _ ≤ _; omega, (R.at_ _).1, fun k hk => I.aft k (by omega)⟩
theorem HInv.put {rs hs : List Int} {os : List Nat} {i t : Nat} {hour left : Int} (I : HInv rs hs os i hour left) (h1 : 1 ≤ hour) (hl : left ≠ 0) (hn : os.Nodup) (ht : os[i]? = some t) (htn : t < hs.length) : HInv rs (hs.set t hour) os (i + 1) hour (left - 1) := by
  have h0 : hs[t]? = some 0 := I.zero t htn fun hm => by
    obtain ⟨j, hj⟩ := List.getElem?_of_mem hm
    rw [List.getElem?_take] at hj
    by_cases e : j < i
    · rw [if_pos e] at hj
      have := nd_ix hn hj ht
      omega
    · rw [if_neg e] at hj
      cases hj
  have hget : hs[t] = 0 := (List.getElem?_eq_some_iff.mp h0).2
  have lft := I.lft
  have hc : ∀ k : Int, 1 ≤ k → (hs.set t hour).count k = hs.count k + if hour = k then 1 else 0 := fun k hk => by
    rw [List.count_set htn, hget, if_neg (by intro e; have := eq_of_beq e; omega), Nat.sub_zero]
    by_cases e : hour = k
    · rw [if_pos (beq_iff_eq.mpr e), if_pos e]
    · rw [if_neg (fun z => e (eq_of_beq z)), if_neg e]
  refine ⟨fun u hu hm => ?_, fun k hk => ?_, ?_, by omega, fun k hk => ?_⟩
  · rw [List.length_set] at hu
    rw [List.take_add_one, ht] at hm
    have hut : u ≠ t := fun e => hm (List.mem_append.mpr (.inr (by rw [e]; exact List.mem_singleton.mpr rfl)))
    rw [List.getElem?_set_ne (fun e => hut e.symm)]
    exact I.zero u hu fun z => hm (List.mem_append.mpr (.inl z))
  · rw [hc k hk]
    by_cases e : hour = k
    · subst e
      rw [if_pos rfl]
      have := I.now
      omega
    · rw [if_neg e]
      exact I.cnt k hk
  · rw [hc hour h1, if_pos rfl]
    have := I.now
    omega
  · rw [hc k (by omega), if_neg (by omega), I.aft k hk]

def vHours : VSp := fun ts S _ q => match ts, S with
  | [.rf 0, .fz (.list od), .fz (.list rd)], [.lst [.fz (.int _)]] => ∃ (n : Nat) (os : List Nat) (rs : List Int), od = natsL os ∧ rd = intsL rs ∧ os.Perm (List.range n) ∧ n ≤ 100 ∧ Rooms rs ∧
    ∀ (hs : List Int) (x' : Int), hs.length = n → (∀ h ∈ hs, 1 ≤ h ∧ h ≤ 20 + n) → (∀ k : Int, 1 ≤ k → (hs.count k : Int) ≤ roomAt rs k) → q (.fz (.list (intsL hs))) [pl x']
  | _, _ => False
instance : VLen vHours 3 := ⟨fun {ts S vx q} h => by
  unfold vHours at h
  split at h
  · rfl
  · exact h.elim⟩
local macro_rules | `(tactic| walk_at "v") => `(tactic| simp only [wSeq, wNext, wBreak, wCont, wDrop, wRet, wRetN, wIfS, wAsg, wgName, wgNil, wgCons, wgTup, wgUnl, wPar, wVar, wC, wB, wAnd, wOr, wNot, wAndV, wOrV, wNotV, wIf, wOp, wUn, wCB, wNil, wCons, wIsN, wNotN, isNon, wCall, wCall0, wRng1, wRng2, wIList, wITup, wEnum, wZip, wYes, wLst, wLstN, wTup, wSl, vPart, vNoPart, wIsi, wTru, vTru, wChain, wBM, wBM0, wgSub, wAug, vI0, vI0b, vI, vNeg, vAdd, vEqW, datOf, eqS, id, vIsB, vIx, vSl, vLen, vIsi, tyT, tyD, itemsA, itemsT, seqOf, datsOf, vAll, vAny, vSum, vMax2, vMin2, vMaxL, vMinL, vList, vInt1, vAppend, vSet, isKd, allD, startG, newL, newLN, tupT, itemsV, List.getElem?_cons_zero, List.getElem?_cons_succ, List.set_cons_zero, List.set_cons_succ, List.length_cons, List.length_nil, List.map_cons, List.map_nil, ifV_true, ifV_false, List.nil_append, List.cons_append, reduceCtorEq, Bool.not_true, Bool.not_false, true_and, and_true, decide_true, decide_false, retD, retX, frzT, frzTs, clo, List.take_zero, List.take_succ_cons, List.take_nil, List.not_mem_nil, false_imp_iff, implies_true, callV, callJ, jsOf, rfsTs, rfsT, rfsO, addN, stepN, okJs, renTs, renT, renO, outN, backS, putAll, idxB, inB, renTs_fz, rfsTs_fz, List.append_nil, List.drop_nil, List.drop_zero, List.foldl_nil, List.foldl_cons, List.nodup_nil, kb_NoneType_int, kb_NoneType_bool, kb_NoneType_list, kb_NoneType_tuple, kb_NoneType_str, kb_bool_int, kb_bool_bool, kb_bool_list, kb_bool_tuple, kb_bool_str, kb_int_int, kb_int_bool, kb_int_list, kb_int_tuple, kb_int_str, kb_str_int, kb_str_bool, kb_str_list, kb_str_tuple, kb_str_str, kb_list_int, kb_list_bool, kb_list_list, kb_list_tuple, kb_list_str, kb_tuple_int, kb_tuple_bool, kb_tuple_list, kb_tuple_tuple, kb_tuple_str, kb_dict_int, kb_dict_bool, kb_dict_list, kb_dict_tuple, kb_dict_str, nodB, subL, okO, cloL, Bool.or_false, Bool.true_or, Bool.or_true, Bool.false_or, eq_self, reduceIte, Int.reduceLE, Int.reduceLT, Int.reduceAdd, Int.reduceSub, Int.reduceNeg, Int.reduceToNat, Nat.reduceAdd, Nat.reduceSub, Nat.reduceLT, Nat.reduceLeDiff, Nat.reduceEqDiff, Int.reduceEq, Int.cast_ofNat_Int, atN_nat, plN_nat, rfsTs_append, renTs_append, Option.map_some, Option.map_none, List.drop_succ_cons, fzs_snoc, fzs_cat, fzs_ins, fzs_set, Int.toNat_natCast, List.length_map, List.length_append, allD_map, allD_append, frzTs_fz, atN_map, List.getD_cons_zero, List.getD_cons_succ, beq_self_eq_true, Nat.reduceBEq, Bool.false_eq_true, vInsert, vInW, datsA, flatD, intsL_flat, intsL_any, natsL_flat, natsL_any, lcR_map, vB1, vB2, vMixed, vTake, pl, vPile, vOrder, vRoom1])
theorem ok__law_hours (T : Env K mg) : Ok P w K mg base CX0 dd__law_hours "_law_hours" 2 ["_law_pile_here", "_law_order_here", "_law_rooms"] (liftV K vHours) := by
  obtain ⟨fd__law_room, D__law_room, g__law_room, k__law_room, b__law_room, G__law_room⟩ := ok__law_room (P := P) (w := w) (base := base) T
  obtain ⟨fd__law_take, D__law_take, g__law_take, k__law_take, b__law_take, G__law_take⟩ := ok__law_take (P := P) (w := w) (base := base) T
  obtain ⟨fd, F⟩ := T.c.def_ 26 (d := dd__law_hours) rfl
  refine ⟨fd, F, T.gl 26 _ rfl, F.kp, F.bindsN fun _ _ _ _ _ _ us hl => match us, hl with | [_, _, _], _ => rfl, ?_⟩
  refine F.ok sc__law_hours (fun vs H Q E h => ?_) (fun cdv A outer s H vs Q E hr h => ?_)
  · obtain ⟨F0, α, S, ts, q, vx, hs, rr, xl, ql, h⟩ := h
    rw [rr.len]
    exact VLen.len h
  · obtain ⟨F0, α, S, ts, q, vx, hs, rr, xl, ql, h⟩ := h
    refine ⟨_, PSs.nox (pss_cons (ps_toN (ps_setLc (i := 3) (own := [("_law_task", 6)]) (g := gName 6) (tt := tYes) (by rfl) sc__law_hours.nd rfl rfl (sw_true rfl rfl rfl (by decide +kernel)) (pi_listK (K := K) rfl (pv 1)) (blkOk_by (own := [("_law_task", 6)]) (N := N__law_hours) (sc := defScope s__law_hours) (by decide +kernel)) (fun _ _ _ _ _ => (pg_name (i := 6) sc__law_hours.nd rfl (by first | exact Or.inl rfl | exact Or.inr rfl))) (fun _ _ _ _ _ => pts_nil) (fun _ _ _ _ _ => pe_int)))
      (pss_cons (ps_set (i := 4) sc__law_hours.nd rfl (Or.inl rfl) pe_int)
      (pss_cons (ps_set (i := 5) sc__law_hours.nd rfl (Or.inl rfl) (pe_call G__law_room (hr.mono (by decide)) (by rfl) g__law_room k__law_room b__law_room .nil pass0 (pa_cons (pv 2) (pa_cons pe_int pa_nil))))
      (pss_cons (ps_for PassesOwn.never rfl (pi_listK (K := K) rfl (pv 1)) (pg_name (i := 6) sc__law_hours.nd rfl (Or.inl rfl)) (pss_cons (ps_while PassesOwn.never (PW.pt (pw_or (pt_cmpR (r := rEqX K) (op_eqX hr.units) (pv 5) pe_int (nomark _)) (pw_or1 (PW.pt (pw_and (pt_cmpR (r := rEqX K) (op_eqX hr.units) (pe_call G__law_take (hr.mono (by decide)) (by rfl) g__law_take k__law_take b__law_take .nil pass0 (pa_cons (pv 0) (pa_cons pe_int pa_nil))) pe_int (nomark _)) (pw_and1 (pt_cmpR op_lt (pv 4) pe_int (nomark _)))))))) (pss_cons (ps_set (i := 4) sc__law_hours.nd rfl (Or.inl rfl) (pe_op (r := rAddX K) op_addX (pv 4) pe_int))
      (pss_one (ps_set (i := 5) sc__law_hours.nd rfl (Or.inl rfl) (pe_call G__law_room (hr.mono (by decide)) (by rfl) g__law_room k__law_room b__law_room .nil pass0 (pa_cons (pv 2) (pa_cons (pv 4) pa_nil)))))))
      (pss_cons (ps_asg (pv 4) (pg_sub (pv 3) (pv 6) set_list))
      (pss_one (ps_set (i := 5) sc__law_hours.nd rfl (Or.inl rfl) (pe_op op_sub (pv 5) pe_int))))))
      (pss_one (ps_ret (pv 3))))))), vbody (N := ["_law_pile_here", "_law_order_here", "_law_rooms", "_law_hours_here", "_law_hour", "_law_left", "_law_task"]) hs rr xl ql ?_⟩
    unfold vHours at h
    split at h
    · rename_i od rd x
      obtain ⟨n, os, rs, rfl, rfl, hperm, hn, R, hq⟩ := h
      have hl : os.length = n := by rw [hperm.length_eq, List.length_range]
      have hol : (natsL os).length = n := by rw [natsL_len]; exact hl
      refine vcut (fun Γ S => S = [pl x, .lst (fzs (intsL (List.replicate n 0)))] ∧ Γ = [some (.rf 0), some (.fz (.list (natsL os))), some (.fz (.list (intsL rs))), some (.rf 1), none, none, none]) (fun k hk => ?_) (fun Γ S hP => ?_)
      · unfold wLcN
        walk_at "v"
        refine ⟨rfl, lcV_map (fun _ => .fz (.int 0)) trivial (by rw [List.length_map, hol]; omega) (fun i x k k0 _ h => ?_) (hk _ _ ⟨?_, rfl⟩)⟩
        · simp only [wipeG]
          walk_at "v"
          exact h
        · rw [show (List.map (fun _ => DP.T.fz (.int 0)) (List.map DP.T.fz (natsL os))) = List.map DP.T.fz (intsL (List.replicate n 0)) from by
            unfold intsL
            rw [List.map_map, List.map_replicate, List.map_replicate, ← hol]
            exact List.map_const' ..]
          rfl
      obtain ⟨rfl, rfl⟩ := hP
      refine vstep fun k1 hk => ?_
      walk_at "v"
      refine hk _ _ (vstep fun k2 hk2 => ?_)
      walk_at "v"
      refine ⟨rs, rfl, hk2 _ _ ?_⟩
      clear hk hk2
      refine vcut (fun Γ S => ∃ (hs : List Int) (hour left x' : Int) (y : Option DP.T), S = [pl x', .lst (fzs (intsL hs))] ∧ Γ = [some (.rf 0), some (.fz (.list (natsL os))), some (.fz (.list (intsL rs))), some (.rf 1), some (.fz (.int hour)), some (.fz (.int left)), y] ∧ hs.length = n ∧ (∀ t, t ∈ os → (∃ h, hs[t]? = some h ∧ 1 ≤ h ∧ h ≤ 20 + n)) ∧ HInv rs hs os n hour left) (fun k hk => ?_) (fun Γ S hP => ?_)
      · unfold wFor
        walk_at "v"
        refine forV_inv (fun i Γ S => ∃ (hs : List Int) (hour left x' : Int) (y : Option DP.T), S = [pl x', .lst (fzs (intsL hs))] ∧ Γ = [some (.rf 0), some (.fz (.list (natsL os))), some (.fz (.list (intsL rs))), some (.rf 1), some (.fz (.int hour)), some (.fz (.int left)), y] ∧ hs.length = n ∧ 1 ≤ hour ∧ hour ≤ 20 + i ∧ (∀ t, t ∈ os.take i → (∃ h, hs[t]? = some h ∧ 1 ≤ h ∧ h ≤ 20 + n)) ∧ HInv rs hs os i hour left)
          ⟨List.replicate n 0, 1, _, x, none, rfl, rfl, List.length_replicate, by decide, by omega, fun t ht => by simp at ht, HInv.start R os n⟩ (fun _ _ _ _ _ => trivial) (fun i v Γ S k' hv hI hk' => ?_) (fun Γ S hI => ?_)
        · obtain ⟨hs, hour, left, x', y, rfl, rfl, hhl, h1, h20, hset, hI⟩ := hI
          rw [List.getElem?_map] at hv
          obtain ⟨t, ht, rfl⟩ : ∃ t, os[i]? = some t ∧ v = .fz (.int (t : Int)) := by
            unfold natsL at hv
            rw [List.getElem?_map] at hv
            cases e : os[i]? with
            | none =>
              rw [e] at hv
              cases hv
            | some t =>
              rw [e] at hv
              cases hv
              exact ⟨t, rfl, rfl⟩
          have hi : i < n := by
            have h2 := (List.getElem?_eq_some_iff.mp ht).1
            omega
          have htn : t < n := List.mem_range.mp (hperm.mem_iff.mp (List.mem_of_getElem? ht))
          simp only [wgName, List.set_cons_succ, List.set_cons_zero]
          refine vcut (fun Γ S => ∃ hour left x', S = [pl x', .lst (fzs (intsL hs))] ∧ Γ = [some (.rf 0), some (.fz (.list (natsL os))), some (.fz (.list (intsL rs))), some (.rf 1), some (.fz (.int hour)), some (.fz (.int left)), some (.fz (.int (t : Int)))] ∧ 1 ≤ hour ∧ hour ≤ 20 + ((i + 1 : Nat) : Int) ∧ left ≠ 0 ∧ HInv rs hs os i hour left) (fun k3 hk3 => ?_) (fun Γ S hP => ?_)
          · refine ⟨fun m Γ S => ∃ hour left x', S = [pl x', .lst (fzs (intsL hs))] ∧ Γ = [some (.rf 0), some (.fz (.list (natsL os))), some (.fz (.list (intsL rs))), some (.rf 1), some (.fz (.int hour)), some (.fz (.int left)), some (.fz (.int (t : Int)))] ∧ 1 ≤ hour ∧ (hour ≤ 20 + i ∨ (hour ≤ 21 + i ∧ left ≠ 0 ∧ 20 ≤ hour)) ∧ HInv rs hs os i hour left ∧ m = muH hour left, ⟨_, hour, left, x', rfl, rfl, h1, .inl h20, hI, rfl⟩, fun m Γ S hW => ?_⟩
            obtain ⟨hour, left, x', rfl, rfl, h1, h20, hI, rfl⟩ := hW
            have hw : ∀ x4, (left = 0 ∨ hour < 20) → ∃ m' < muH hour left, ∃ hour' left' x'', [pl x4, O.lst (fzs (intsL hs))] = [pl x'', .lst (fzs (intsL hs))] ∧ ([some (DP.T.rf 0), some (.fz (.list (natsL os))), some (.fz (.list (intsL rs))), some (.rf 1), some (.fz (.int (hour + 1))), some (.fz (.int (roomAt rs (hour + 1)))), some (.fz (.int (t : Int)))] : Gm) = [some (.rf 0), some (.fz (.list (natsL os))), some (.fz (.list (intsL rs))), some (.rf 1), some (.fz (.int hour')), some (.fz (.int left')), some (.fz (.int (t : Int)))] ∧ 1 ≤ hour' ∧ (hour' ≤ 20 + i ∨ (hour' ≤ 21 + i ∧ left' ≠ 0 ∧ 20 ≤ hour')) ∧ HInv rs hs os i hour' left' ∧ m' = muH hour' left' := fun x4 hc => by
              have h2 : 20 ≤ hour → roomAt rs (hour + 1) = 2 := fun hh => roomAt_out (by have := R.len; omega)
              refine ⟨_, muH_lt hc h2, _, _, x4, rfl, rfl, by omega, ?_, hI.next R, rfl⟩
              by_cases hh : 20 ≤ hour
              · have := h2 hh
                rcases h20 with h20 | ⟨h20, hz, _⟩
                · exact .inr ⟨by omega, by omega, by omega⟩
                · exact absurd (hc.resolve_right (by omega)) hz
              · exact .inl (by omega)
            have fin : hour ≤ 20 + ((i + 1 : Nat) : Int) := by
              rcases h20 with z | ⟨z, _⟩ <;> omega
            walk_at "v"
            refine ⟨fun e => ?_, fun e d x4 d0 d1 => ⟨fun e2 => ⟨fun e3 => ?_, fun e3 => ?_⟩, fun e2 => ?_⟩⟩
            · exact ⟨by omega, rs, rfl, hw x' (.inl (of_decide_eq_true e))⟩
            · exact ⟨by omega, rs, rfl, hw x4 (.inr (of_decide_eq_true e3))⟩
            · exact hk3 _ _ ⟨hour, left, x4, rfl, rfl, h1, fin, of_decide_eq_false e, hI⟩
            · exact hk3 _ _ ⟨hour, left, x4, rfl, rfl, h1, fin, of_decide_eq_false e, hI⟩
          · obtain ⟨hour, left, x', rfl, rfl, h1, h20, hl0, hI⟩ := hP
            walk_at "v"
            rw [intsL_len, if_pos (by omega)]
            dsimp only
            rw [intsL_set]
            refine hk' _ _ ⟨hs.set t hour, hour, left - 1, x', _, rfl, rfl, by rw [List.length_set]; exact hhl, h1, h20, fun t' ht' => ?_, hI.put h1 hl0 (nodup_of_perm hperm) ht (by omega)⟩
            by_cases e : t' = t
            · subst e
              exact ⟨hour, List.getElem?_set_self (by omega), h1, by omega⟩
            · rw [List.getElem?_set_ne (fun z => e z.symm)]
              refine hset t' ?_
              rw [List.take_add_one, ht] at ht'
              rcases List.mem_append.mp ht' with z | z
              · exact z
              · exact absurd (by simpa using z) e
        · obtain ⟨hs, hour, left, x', y, rfl, rfl, hhl, h1, h20, hset, hI⟩ := hI
          have e : (List.map DP.T.fz (natsL os)).length = os.length := by rw [List.length_map, natsL_len]
          rw [e] at hset hI
          rw [List.take_length] at hset
          rw [hl] at hI
          exact hk _ _ ⟨hs, hour, left, x', y, rfl, rfl, hhl, hset, hI⟩
      obtain ⟨hs, hour, left, x', y, rfl, rfl, hhl, hset, hI⟩ := hP
      walk_at "v"
      refine hq hs x' hhl (fun h hh => ?_) hI.cnt
      obtain ⟨t, ht⟩ := List.getElem?_of_mem hh
      have htn : t < n := by
        have := (List.getElem?_eq_some_iff.mp ht).1
        omega
      obtain ⟨h', e1, e2, e3⟩ := hset t (hperm.mem_iff.mpr (List.mem_range.mpr htn))
      rw [ht] at e1
      cases e1
      exact ⟨e2, e3⟩
    · exact h.elim

end
local macro_rules | `(tactic| walk_at "v0") => `(tactic| simp only [wSeq, wNext, wBreak, wCont, wDrop, wRet, wRetN, wIfS, wAsg, wgName, wgNil, wgCons, wgTup, wgUnl, wPar, wVar, wC, wB, wAnd, wOr, wNot, wAndV, wOrV, wNotV, wIf, wOp, wUn, wCB, wNil, wCons, wIsN, wNotN, isNon, wCall, wCall0, wRng1, wRng2, wIList, wITup, wEnum, wZip, wYes, wLst, wLstN, wTup, wSl, vPart, vNoPart, wIsi, wTru, vTru, wChain, wBM, wBM0, wgSub, wAug, vI0, vI0b, vI, vNeg, vAdd, vEqW, datOf, eqS, id, vIsB, vIx, vSl, vLen, vIsi, tyT, tyD, itemsA, itemsT, seqOf, datsOf, vAll, vAny, vSum, vMax2, vMin2, vMaxL, vMinL, vList, vInt1, vAppend, vSet, isKd, allD, startG, newL, newLN, tupT, itemsV, List.getElem?_cons_zero, List.getElem?_cons_succ, List.set_cons_zero, List.set_cons_succ, List.length_cons, List.length_nil, List.map_cons, List.map_nil, ifV_true, ifV_false, List.nil_append, List.cons_append, reduceCtorEq, Bool.not_true, Bool.not_false, true_and, and_true, decide_true, decide_false, retD, retX, frzT, frzTs, clo, List.take_zero, List.take_succ_cons, List.take_nil, List.not_mem_nil, false_imp_iff, implies_true, callV, callJ, jsOf, rfsTs, rfsT, rfsO, addN, stepN, okJs, renTs, renT, renO, outN, backS, putAll, idxB, inB, renTs_fz, rfsTs_fz, List.append_nil, List.drop_nil, List.drop_zero, List.foldl_nil, List.foldl_cons, List.nodup_nil, kb_NoneType_int, kb_NoneType_bool, kb_NoneType_list, kb_NoneType_tuple, kb_NoneType_str, kb_bool_int, kb_bool_bool, kb_bool_list, kb_bool_tuple, kb_bool_str, kb_int_int, kb_int_bool, kb_int_list, kb_int_tuple, kb_int_str, kb_str_int, kb_str_bool, kb_str_list, kb_str_tuple, kb_str_str, kb_list_int, kb_list_bool, kb_list_list, kb_list_tuple, kb_list_str, kb_tuple_int, kb_tuple_bool, kb_tuple_list, kb_tuple_tuple, kb_tuple_str, kb_dict_int, kb_dict_bool, kb_dict_list, kb_dict_tuple, kb_dict_str, nodB, subL, okO, cloL, Bool.or_false, Bool.true_or, Bool.or_true, Bool.false_or, eq_self, reduceIte, Int.reduceLE, Int.reduceLT, Int.reduceAdd, Int.reduceSub, Int.reduceNeg, Int.reduceToNat, Nat.reduceAdd, Nat.reduceSub, Nat.reduceLT, Nat.reduceLeDiff, Nat.reduceEqDiff, Int.reduceEq, Int.cast_ofNat_Int, atN_nat, plN_nat, rfsTs_append, renTs_append, Option.map_some, Option.map_none, List.drop_succ_cons, fzs_snoc, fzs_cat, fzs_ins, fzs_set, Int.toNat_natCast, List.length_map, List.length_append, allD_map, allD_append, frzTs_fz, atN_map, List.getD_cons_zero, List.getD_cons_succ, beq_self_eq_true, Nat.reduceBEq, Bool.false_eq_true, vInsert, vInW, datsA, flatD, intsL_flat, intsL_any, natsL_flat, natsL_any, lcR_map, vB1, vB2, vMixed, vTake, pl, vPile, vOrder, vRoom1, vHours])

section
variable {P : Program} {w : World} {K : PySem.W.Frag} {mg : Str → Option Value} {base : Heap}
def vNeeds : VSp := fun ts S _ q => match ts, S with
  | [.rf 0, .fz (.list od), .fz (.list hd)], [.lst [.fz (.int _)]] => ∃ (n : Nat) (os : List Nat) (hs : List Int), od = natsL os ∧ hd = intsL hs ∧ os.Perm (List.range n) ∧ hs.length = n ∧ n ≤ 100 ∧
    ∀ (zs : Prs) (x' : Int), zs.length ≤ 30 → zs.Nodup → AlongP os zs n 0 → q (.fz (.list (prsL zs))) [pl x']
  | _, _ => False
instance : VLen vNeeds 3 := ⟨fun {ts S vx q} h => by
  unfold vNeeds at h
  split at h
  · rfl
  · exact h.elim⟩
local macro_rules | `(tactic| walk_at "v") => `(tactic| simp only [wSeq, wNext, wBreak, wCont, wDrop, wRet, wRetN, wIfS, wAsg, wgName, wgNil, wgCons, wgTup, wgUnl, wPar, wVar, wC, wB, wAnd, wOr, wNot, wAndV, wOrV, wNotV, wIf, wOp, wUn, wCB, wNil, wCons, wIsN, wNotN, isNon, wCall, wCall0, wRng1, wRng2, wIList, wITup, wEnum, wZip, wYes, wLst, wLstN, wTup, wSl, vPart, vNoPart, wIsi, wTru, vTru, wChain, wBM, wBM0, wgSub, wAug, vI0, vI0b, vI, vNeg, vAdd, vEqW, datOf, eqS, id, vIsB, vIx, vSl, vLen, vIsi, tyT, tyD, itemsA, itemsT, seqOf, datsOf, vAll, vAny, vSum, vMax2, vMin2, vMaxL, vMinL, vList, vInt1, vAppend, vSet, isKd, allD, startG, newL, newLN, tupT, itemsV, List.getElem?_cons_zero, List.getElem?_cons_succ, List.set_cons_zero, List.set_cons_succ, List.length_cons, List.length_nil, List.map_cons, List.map_nil, ifV_true, ifV_false, List.nil_append, List.cons_append, reduceCtorEq, Bool.not_true, Bool.not_false, true_and, and_true, decide_true, decide_false, retD, retX, frzT, frzTs, clo, List.take_zero, List.take_succ_cons, List.take_nil, List.not_mem_nil, false_imp_iff, implies_true, callV, callJ, jsOf, rfsTs, rfsT, rfsO, addN, stepN, okJs, renTs, renT, renO, outN, backS, putAll, idxB, inB, renTs_fz, rfsTs_fz, List.append_nil, List.drop_nil, List.drop_zero, List.foldl_nil, List.foldl_cons, List.nodup_nil, kb_NoneType_int, kb_NoneType_bool, kb_NoneType_list, kb_NoneType_tuple, kb_NoneType_str, kb_bool_int, kb_bool_bool, kb_bool_list, kb_bool_tuple, kb_bool_str, kb_int_int, kb_int_bool, kb_int_list, kb_int_tuple, kb_int_str, kb_str_int, kb_str_bool, kb_str_list, kb_str_tuple, kb_str_str, kb_list_int, kb_list_bool, kb_list_list, kb_list_tuple, kb_list_str, kb_tuple_int, kb_tuple_bool, kb_tuple_list, kb_tuple_tuple, kb_tuple_str, kb_dict_int, kb_dict_bool, kb_dict_list, kb_dict_tuple, kb_dict_str, nodB, subL, okO, cloL, Bool.or_false, Bool.true_or, Bool.or_true, Bool.false_or, eq_self, reduceIte, Int.reduceLE, Int.reduceLT, Int.reduceAdd, Int.reduceSub, Int.reduceNeg, Int.reduceToNat, Nat.reduceAdd, Nat.reduceSub, Nat.reduceLT, Nat.reduceLeDiff, Nat.reduceEqDiff, Int.reduceEq, Int.cast_ofNat_Int, atN_nat, plN_nat, rfsTs_append, renTs_append, Option.map_some, Option.map_none, List.drop_succ_cons, fzs_snoc, fzs_cat, fzs_ins, fzs_set, Int.toNat_natCast, List.length_map, List.length_append, allD_map, allD_append, frzTs_fz, atN_map, List.getD_cons_zero, List.getD_cons_succ, beq_self_eq_true, Nat.reduceBEq, Bool.false_eq_true, vInsert, vInW, datsA, flatD, intsL_flat, intsL_any, natsL_flat, natsL_any, lcR_map, vB1, vB2, vMixed, vTake, pl, vPile, vOrder, vRoom1, vHours])
theorem ok__law_needs (T : Env K mg) : Ok P w K mg base CX0 dd__law_needs "_law_needs" 2 ["_law_pile_here", "_law_order_here", "_law_hours_here"] (liftV K vNeeds) := by
  obtain ⟨fd__law_take, D__law_take, g__law_take, k__law_take, b__law_take, G__law_take⟩ := ok__law_take (P := P) (w := w) (base := base) T
  obtain ⟨fd, F⟩ := T.c.def_ 27 (d := dd__law_needs) rfl
  refine ⟨fd, F, T.gl 27 _ rfl, F.kp, F.bindsN fun _ _ _ _ _ _ us hl => match us, hl with | [_, _, _], _ => rfl, ?_⟩
  refine F.ok sc__law_needs (fun vs H Q E h => ?_) (fun cdv A outer s H vs Q E hr h => ?_)
  · obtain ⟨F0, α, S, ts, q, vx, hs, rr, xl, ql, h⟩ := h
    rw [rr.len]
    exact VLen.len h
  · obtain ⟨F0, α, S, ts, q, vx, hs, rr, xl, ql, h⟩ := h
    refine ⟨_, PSs.nox (pss_cons (ps_set (i := 3) sc__law_needs.nd rfl (Or.inl rfl) (pe_cmpR (r := rEqX K) (op_eqX hr.units) (pe_call G__law_take (hr.mono (by decide)) (by rfl) g__law_take k__law_take b__law_take .nil pass0 (pa_cons (pv 0) (pa_cons pe_int pa_nil))) pe_int (nomark _)))
      (pss_cons (ps_set (i := 4) sc__law_needs.nd rfl (Or.inl rfl) (pe_op (r := rAddX K) op_addX pe_int (pe_call G__law_take (hr.mono (by decide)) (by rfl) g__law_take k__law_take b__law_take .nil pass0 (pa_cons (pv 0) (pa_cons pe_int pa_nil)))))
      (pss_cons (ps_set (i := 5) sc__law_needs.nd rfl (Or.inl rfl) (pe_lstN pa_nil))
      (pss_cons (ps_for PassesOwn.never rfl (pi_range1 (by rfl) (T.fr 40 _ rfl) (pa_cons (pe_callB (r := rLenX K) call_lenX (by rfl) (T.fr 36 _ rfl) (by decide +kernel) (pa_cons (pv 1) pa_nil)) pa_nil)) (pg_name (i := 6) sc__law_needs.nd rfl (Or.inl rfl)) (pss_one (ps_for PassesOwn.never rfl (pi_range1 (by rfl) (T.fr 40 _ rfl) (pa_cons (pv 6) pa_nil)) (pg_name (i := 7) sc__law_needs.nd rfl (Or.inl rfl)) (pss_cons (ps_par (i := 8) (j := 9) (by rfl) sc__law_needs.nd rfl rfl (by decide) rfl rfl (pa_cons (pe_ix (r := rIx K) ix_seq (pv 1) (pv 7) (fun _ _ => rfl)) (pa_cons (pe_ix (r := rIx K) ix_seq (pv 1) (pv 6) (fun _ _ => rfl)) pa_nil)) (by rfl))
      (pss_one (ps_if (PW.pt (pw_and (pt_cmpR op_lt (pe_callB (r := rLenX K) call_lenX (by rfl) (T.fr 36 _ rfl) (by decide +kernel) (pa_cons (pv 5) pa_nil)) pe_int (nomark _)) (pw_and (PW.pt (pw_or (pt_truK (K := K) rfl (pt_tru (pv 3))) (pw_or1 (pt_cmpR op_lt (pe_ix (r := rIx K) ix_seq (pv 2) (pv 8) (fun _ _ => rfl)) (pe_ix (r := rIx K) ix_seq (pv 2) (pv 9) (fun _ _ => rfl)) (nomark _))))) (pw_and1 (pt_cmpR (r := rEqX K) (op_eqX hr.units) (pe_call G__law_take (hr.mono (by decide)) (by rfl) g__law_take k__law_take b__law_take .nil pass0 (pa_cons (pv 0) (pa_cons (pv 4) pa_nil))) pe_int (nomark _)))))) (pss_one (ps_expr (pe_bmK (K := K) rfl (pe_bm PySem.F.plainAttrs_list PySem.F.slot_list_insert PySem.F.type_list_insert (r := rInsertX) mt_insertX (pv 5) (pa_cons (pe_call G__law_take (hr.mono (by decide)) (by rfl) g__law_take k__law_take b__law_take .nil pass0 (pa_cons (pv 0) (pa_cons (pe_op (r := rAddX K) op_addX (pe_callB (r := rLenX K) call_lenX (by rfl) (T.fr 36 _ rfl) (by decide +kernel) (pa_cons (pv 5) pa_nil)) pe_int) pa_nil))) (pa_cons (pe_tup (pa_cons (pv 8) (pa_cons (pv 9) pa_nil))) pa_nil)))))) pss_nil))))))
      (pss_one (ps_ret (pv 5))))))), vbody (N := ["_law_pile_here", "_law_order_here", "_law_hours_here", "_law_loose", "_law_dense", "_law_needs_here", "_law_j", "_law_k", "_law_a", "_law_b"]) hs rr xl ql ?_⟩
    unfold vNeeds at h
    split at h
    · rename_i od hd x
      obtain ⟨n, os, hs', rfl, rfl, hperm, hhl, hn, hq⟩ := h
      have hl : os.length = n := by rw [hperm.length_eq, List.length_range]
      have hol : (natsL os).length = n := by rw [natsL_len]; exact hl
      have hnd := nodup_of_perm hperm
      have hlt : ∀ {i t : Nat}, os[i]? = some t → t < n := fun h => List.mem_range.mp (hperm.mem_iff.mp (List.mem_of_getElem? h))
      refine vstep fun k1 hk1 => ?_
      walk_at "v"
      intro d1 x1 _ _
      refine hk1 _ _ ?_
      clear hk1
      generalize decide (d1 = 0) = loose
      refine vstep fun k2 hk2 => ?_
      walk_at "v"
      intro d2 x2 d20 d21
      refine hk2 _ _ ?_
      clear hk2
      refine vstep fun k3 hk3 => ?_
      walk_at "v"
      refine hk3 _ _ ?_
      clear hk3
      refine vcut (fun Γ S => ∃ (zs : Prs) (x' : Int) (y6 y7 y8 y9 : Option DP.T), S = [pl x', .lst (fzs (prsL zs))] ∧ Γ = [some (.rf 0), some (.fz (.list (natsL os))), some (.fz (.list (intsL hs'))), some (.fz (.bool loose)), some (.fz (.int (2 + d2))), some (.rf 1), y6, y7, y8, y9] ∧ zs.length ≤ 30 ∧ zs.Nodup ∧ AlongP os zs n 0) (fun k hk => ?_) (fun Γ S hP => ?_)
      · unfold wFor
        walk_at "v"
        refine ⟨by omega, by omega, forV_inv (fun j Γ S => ∃ (zs : Prs) (x' : Int) (y6 y7 y8 y9 : Option DP.T), S = [pl x', .lst (fzs (prsL zs))] ∧ Γ = [some (.rf 0), some (.fz (.list (natsL os))), some (.fz (.list (intsL hs'))), some (.fz (.bool loose)), some (.fz (.int (2 + d2))), some (.rf 1), y6, y7, y8, y9] ∧ zs.length ≤ 30 ∧ zs.Nodup ∧ AlongP os zs j 0)
          ⟨[], x2, none, none, none, none, rfl, rfl, by decide, List.nodup_nil, fun z hz => by cases hz⟩ (fun _ _ _ _ _ => trivial) (fun j v Γ S k' hv hI hk' => ?_) (fun Γ S hI => ?_)⟩
        · obtain ⟨zs, x', y6, y7, y8, y9, rfl, rfl, hzl, hznd, hal⟩ := hI
          obtain ⟨hj, rfl⟩ := rng0_get hv
          walk_at "v"
          refine ⟨by omega, by omega, ?_⟩
          refine forV_inv (fun k Γ S => ∃ (zs : Prs) (x' : Int) (y7 y8 y9 : Option DP.T), S = [pl x', .lst (fzs (prsL zs))] ∧ Γ = [some (.rf 0), some (.fz (.list (natsL os))), some (.fz (.list (intsL hs'))), some (.fz (.bool loose)), some (.fz (.int (2 + d2))), some (.rf 1), some (.fz (.int (j : Int))), y7, y8, y9] ∧ zs.length ≤ 30 ∧ zs.Nodup ∧ AlongP os zs j k)
            ⟨zs, x', y7, y8, y9, rfl, rfl, hzl, hznd, hal⟩ (fun _ _ _ _ _ => trivial) (fun k v Γ S k4 hv hI hk4 => ?_) (fun Γ S hI => ?_)
          · obtain ⟨zs, x', y7, y8, y9, rfl, rfl, hzl, hznd, hal⟩ := hI
            obtain ⟨hk2, rfl⟩ := rng0_get hv
            rw [natsL_len] at hj
            have hkj : k < j := hk2
            obtain ⟨a, hak⟩ : ∃ a, os[k]? = some a := ⟨_, List.getElem?_eq_getElem (by omega)⟩
            obtain ⟨b, hbj⟩ : ∃ b, os[j]? = some b := ⟨_, List.getElem?_eq_getElem (by omega)⟩
            obtain ⟨ta, hta⟩ : ∃ z, hs'[a]? = some z := ⟨_, List.getElem?_eq_getElem (by have := hlt hak; omega)⟩
            obtain ⟨tb, htb⟩ : ∃ z, hs'[b]? = some z := ⟨_, List.getElem?_eq_getElem (by have := hlt hbj; omega)⟩
            have skip : ∀ x3, k4 [some (.rf 0), some (.fz (.list (natsL os))), some (.fz (.list (intsL hs'))), some (.fz (.bool loose)), some (.fz (.int (2 + d2))), some (.rf 1), some (.fz (.int (j : Int))), some (.fz (.int (k : Int))), some (.fz (.int (a : Int))), some (.fz (.int (b : Int)))] [pl x3, .lst (fzs (prsL zs))] := fun x3 =>
              hk4 _ _ ⟨zs, x3, _, _, _, rfl, rfl, hzl, hznd, hal.mono (.inr ⟨rfl, Nat.le_succ k⟩)⟩
            have take2 : ∀ x3 d, 0 ≤ d → d < (zs.length : Int) + 1 → zs.length < 30 → k4 [some (.rf 0), some (.fz (.list (natsL os))), some (.fz (.list (intsL hs'))), some (.fz (.bool loose)), some (.fz (.int (2 + d2))), some (.rf 1), some (.fz (.int (j : Int))), some (.fz (.int (k : Int))), some (.fz (.int (a : Int))), some (.fz (.int (b : Int)))] [pl x3, .lst (fzs ((prsL zs).take d.toNat ++ [.tuple [.int (a : Int), .int (b : Int)]] ++ (prsL zs).drop d.toNat))] := fun x3 d d0 d1 hz30 => by
              rw [prsL_ins]
              have pm := perm_ins zs d.toNat (a, b)
              refine hk4 _ _ ⟨_, x3, _, _, _, rfl, rfl, by rw [pm.length_eq, List.length_cons]; omega, pm.nodup_iff.mpr (List.nodup_cons.mpr ⟨fun hm => ?_, hznd⟩), fun z hz1 => ?_⟩
              · obtain ⟨j', k', l1, l2, l3, l4⟩ := hal _ hm
                have e1 := ix_of_nodup hnd l2 hak
                have e2 := ix_of_nodup hnd l3 hbj
                omega
              · rcases List.mem_cons.mp (pm.mem_iff.mp hz1) with e | hz2
                · subst e
                  exact ⟨j, k, hkj, hak, hbj, .inr ⟨rfl, Nat.lt_succ_self k⟩⟩
                · exact hal.mono (k2 := k + 1) (.inr ⟨rfl, Nat.le_succ k⟩) z hz2
            walk_at "v"
            rw [natsL_get hak, natsL_get hbj]
            walk_at "v"
            rw [intsL_get hta, intsL_get htb, prsL_len]
            walk_at "v"
            have draw : zs.length < 30 → _ := fun h30 => (⟨by omega, by omega, fun d x3 _ _ => ⟨fun _ => ⟨by omega, by omega, fun d x4 d0 d1 => ⟨by omega, d0, by omega, take2 x4 d d0 d1 h30⟩⟩, fun _ => skip x3⟩⟩ : 0 < 2 + d2 ∧ 2 + d2 < 1000 ∧ ∀ (d x' : Int), 0 ≤ d → d < 2 + d2 → ifV (decide (d = 0)) (0 < (zs.length : Int) + 1 ∧ (zs.length : Int) + 1 < 1000 ∧ ∀ (d x' : Int), 0 ≤ d → d < (zs.length : Int) + 1 → zs.length < 100000 ∧ 0 ≤ d ∧ d < 2 ^ 63 ∧ k4 [some (.rf 0), some (.fz (.list (natsL os))), some (.fz (.list (intsL hs'))), some (.fz (.bool loose)), some (.fz (.int (2 + d2))), some (.rf 1), some (.fz (.int (j : Int))), some (.fz (.int (k : Int))), some (.fz (.int (a : Int))), some (.fz (.int (b : Int)))] [pl x', .lst (fzs ((prsL zs).take d.toNat ++ [.tuple [.int (a : Int), .int (b : Int)]] ++ (prsL zs).drop d.toNat))]) (k4 [some (.rf 0), some (.fz (.list (natsL os))), some (.fz (.list (intsL hs'))), some (.fz (.bool loose)), some (.fz (.int (2 + d2))), some (.rf 1), some (.fz (.int (j : Int))), some (.fz (.int (k : Int))), some (.fz (.int (a : Int))), some (.fz (.int (b : Int)))] [pl x', .lst (fzs (prsL zs))]))
            refine ⟨fun e => ?_, fun _ => skip x'⟩
            have h30 : zs.length < 30 := by
              have := of_decide_eq_true e
              omega
            exact ⟨fun _ => draw h30, fun _ => ⟨fun _ => draw h30, fun _ => skip x'⟩⟩
          · obtain ⟨zs, x', y7, y8, y9, rfl, rfl, hzl, hznd, hal⟩ := hI
            rw [rngT_len] at hal
            exact hk' _ _ ⟨zs, x', _, _, _, _, rfl, rfl, hzl, hznd, hal.mono (.inl (Nat.lt_succ_self j))⟩
        · rw [rngT_len, natsL_len, hl] at hI
          exact hk _ _ hI
      obtain ⟨zs, x', y6, y7, y8, y9, rfl, rfl, hzl, hznd, hal⟩ := hP
      walk_at "v"
      exact hq zs x' hzl hznd hal
    · exact h.elim
def vJob : VSp := fun ts S _ q => match ts, S with
  | [.rf 0, .fz (.int most), .fz (.int wide)], [.lst [.fz (.int _)]] => 0 ≤ most ∧ most ≤ 50 ∧ 0 ≤ wide ∧ wide ≤ 1 ∧
    ∀ (fs : List Int) (ds : List (Option Int)) (zs : Prs) (rs : List Int) (x' : Int), VJ fs ds zs rs → (fs.length : Int) ≤ most → (3 ∈ rs → fs.length ≤ 9) → (∀ y ∈ rs, y ≤ 2 + wide) → q (.fz (jbD fs ds zs rs)) [pl x']
  | _, _ => False
instance : VLen vJob 3 := ⟨fun {ts S vx q} h => by
  unfold vJob at h
  split at h
  · rfl
  · exact h.elim⟩
local macro_rules | `(tactic| walk_at "v") => `(tactic| simp only [wSeq, wNext, wBreak, wCont, wDrop, wRet, wRetN, wIfS, wAsg, wgName, wgNil, wgCons, wgTup, wgUnl, wPar, wVar, wC, wB, wAnd, wOr, wNot, wAndV, wOrV, wNotV, wIf, wOp, wUn, wCB, wNil, wCons, wIsN, wNotN, isNon, wCall, wCall0, wRng1, wRng2, wIList, wITup, wEnum, wZip, wYes, wLst, wLstN, wTup, wSl, vPart, vNoPart, wIsi, wTru, vTru, wChain, wBM, wBM0, wgSub, wAug, vI0, vI0b, vI, vNeg, vAdd, vEqW, datOf, eqS, id, vIsB, vIx, vSl, vLen, vIsi, tyT, tyD, itemsA, itemsT, seqOf, datsOf, vAll, vAny, vSum, vMax2, vMin2, vMaxL, vMinL, vList, vInt1, vAppend, vSet, isKd, allD, startG, newL, newLN, tupT, itemsV, List.getElem?_cons_zero, List.getElem?_cons_succ, List.set_cons_zero, List.set_cons_succ, List.length_cons, List.length_nil, List.map_cons, List.map_nil, ifV_true, ifV_false, List.nil_append, List.cons_append, reduceCtorEq, Bool.not_true, Bool.not_false, true_and, and_true, decide_true, decide_false, retD, retX, frzT, frzTs, clo, List.take_zero, List.take_succ_cons, List.take_nil, List.not_mem_nil, false_imp_iff, implies_true, callV, callJ, jsOf, rfsTs, rfsT, rfsO, addN, stepN, okJs, renTs, renT, renO, outN, backS, putAll, idxB, inB, renTs_fz, rfsTs_fz, List.append_nil, List.drop_nil, List.drop_zero, List.foldl_nil, List.foldl_cons, List.nodup_nil, kb_NoneType_int, kb_NoneType_bool, kb_NoneType_list, kb_NoneType_tuple, kb_NoneType_str, kb_bool_int, kb_bool_bool, kb_bool_list, kb_bool_tuple, kb_bool_str, kb_int_int, kb_int_bool, kb_int_list, kb_int_tuple, kb_int_str, kb_str_int, kb_str_bool, kb_str_list, kb_str_tuple, kb_str_str, kb_list_int, kb_list_bool, kb_list_list, kb_list_tuple, kb_list_str, kb_tuple_int, kb_tuple_bool, kb_tuple_list, kb_tuple_tuple, kb_tuple_str, kb_dict_int, kb_dict_bool, kb_dict_list, kb_dict_tuple, kb_dict_str, nodB, subL, okO, cloL, Bool.or_false, Bool.true_or, Bool.or_true, Bool.false_or, eq_self, reduceIte, Int.reduceLE, Int.reduceLT, Int.reduceAdd, Int.reduceSub, Int.reduceNeg, Int.reduceToNat, Nat.reduceAdd, Nat.reduceSub, Nat.reduceLT, Nat.reduceLeDiff, Nat.reduceEqDiff, Int.reduceEq, Int.cast_ofNat_Int, atN_nat, plN_nat, rfsTs_append, renTs_append, Option.map_some, Option.map_none, List.drop_succ_cons, fzs_snoc, fzs_cat, fzs_ins, fzs_set, Int.toNat_natCast, List.length_map, List.length_append, allD_map, allD_append, frzTs_fz, atN_map, List.getD_cons_zero, List.getD_cons_succ, beq_self_eq_true, Nat.reduceBEq, Bool.false_eq_true, vInsert, vInW, datsA, flatD, intsL_flat, intsL_any, natsL_flat, natsL_any, lcR_map, vB1, vB2, vMixed, vTake, pl, vPile, vOrder, vRoom1, vHours, vNeeds])
theorem ok__law_job (T : Env K mg) : Ok P w K mg base CX0 dd__law_job "_law_job" 3 ["_law_pile_here", "_law_most", "_law_wide"] (liftV K vJob) := by
  obtain ⟨fd__law_order, D__law_order, g__law_order, k__law_order, b__law_order, G__law_order⟩ := ok__law_order (P := P) (w := w) (base := base) T
  obtain ⟨fd__law_hours, D__law_hours, g__law_hours, k__law_hours, b__law_hours, G__law_hours⟩ := ok__law_hours (P := P) (w := w) (base := base) T
  obtain ⟨fd__law_needs, D__law_needs, g__law_needs, k__law_needs, b__law_needs, G__law_needs⟩ := ok__law_needs (P := P) (w := w) (base := base) T
  obtain ⟨fd__law_take, D__law_take, g__law_take, k__law_take, b__law_take, G__law_take⟩ := ok__law_take (P := P) (w := w) (base := base) T
  obtain ⟨fd, F⟩ := T.c.def_ 28 (d := dd__law_job) rfl
  refine ⟨fd, F, T.gl 28 _ rfl, F.kp, F.bindsN fun _ _ _ _ _ _ us hl => match us, hl with | [_, _, _], _ => rfl, ?_⟩
  refine F.ok sc__law_job (fun vs H Q E h => ?_) (fun cdv A outer s H vs Q E hr h => ?_)
  · obtain ⟨F0, α, S, ts, q, vx, hs, rr, xl, ql, h⟩ := h
    rw [rr.len]
    exact VLen.len h
  · obtain ⟨F0, α, S, ts, q, vx, hs, rr, xl, ql, h⟩ := h
    refine ⟨_, PSs.nox (pss_cons (ps_setLc (i := 3) (own := [("_law_k", 12)]) (g := gName 12) (tt := tYes) (by rfl) sc__law_job.nd rfl rfl (sw_true rfl rfl rfl (by decide +kernel)) (pi_range1 (by rfl) (T.fr 40 _ rfl) (pa_cons (pe_call G__law_take (hr.mono (by decide)) (by rfl) g__law_take k__law_take b__law_take .nil pass0 (pa_cons (pv 0) (pa_cons pe_int pa_nil))) pa_nil)) (blkOk_by (own := [("_law_k", 12)]) (N := N__law_job) (sc := defScope s__law_job) (by decide +kernel)) (fun _ _ _ _ _ => (pg_name (i := 12) sc__law_job.nd rfl (by first | exact Or.inl rfl | exact Or.inr rfl))) (fun _ _ _ _ _ => pts_nil) (fun _ _ _ _ _ => (pe_ix (r := rIx K) ix_seq (pe_lst (pa_cons pe_int (pa_cons pe_int (pa_cons pe_int (pa_cons pe_int (pa_cons pe_int (pa_cons pe_int (pa_cons (pe_op (r := rAddX K) op_addX pe_int (pv 2)) pa_nil)))))))) (pe_call G__law_take (hr.mono (by decide)) (by rfl) g__law_take k__law_take b__law_take .nil pass0 (pa_cons (pv 0) (pa_cons pe_int pa_nil))) (fun _ _ => rfl))))
      (pss_cons (ps_if (pt_cmpR (r := rInX K) (op_inX (room65 hr)) pe_int (pv 3) (by rfl)) (pss_one (ps_set (i := 1) sc__law_job.nd rfl (Or.inl rfl) (pe_callB (r := rMin2) (call_minX rfl) (by rfl) (T.fr 44 _ rfl) (by decide +kernel) (pa_cons (pv 1) (pa_cons pe_int pa_nil))))) pss_nil)
      (pss_cons (ps_set (i := 4) sc__law_job.nd rfl (Or.inl rfl) (pe_call G__law_order (hr.mono (by decide)) (by rfl) g__law_order k__law_order b__law_order .nil pass0 (pa_cons (pv 0) (pa_cons (pe_call G__law_take (hr.mono (by decide)) (by rfl) g__law_take k__law_take b__law_take .nil pass0 (pa_cons (pv 0) (pa_cons (pe_op (r := rAddX K) op_addX (pv 1) pe_int) pa_nil))) pa_nil))))
      (pss_cons (ps_set (i := 5) sc__law_job.nd rfl (Or.inl rfl) (pe_call G__law_hours (hr.mono (by decide)) (by rfl) g__law_hours k__law_hours b__law_hours .nil pass0 (pa_cons (pv 0) (pa_cons (pv 4) (pa_cons (pv 3) pa_nil)))))
      (pss_cons (ps_set (i := 6) sc__law_job.nd rfl (Or.inl rfl) (pe_call G__law_needs (hr.mono (by decide)) (by rfl) g__law_needs k__law_needs b__law_needs .nil pass0 (pa_cons (pv 0) (pa_cons (pv 4) (pa_cons (pv 5) pa_nil)))))
      (pss_cons (ps_setLc (i := 7) (own := [("_law_hour", 10)]) (g := gName 10) (tt := tYes) (by rfl) sc__law_job.nd rfl rfl (sw_true rfl rfl rfl (by decide +kernel)) (pi_listK (K := K) rfl (pv 5)) (blkOk_by (own := [("_law_hour", 10)]) (N := N__law_job) (sc := defScope s__law_job) (by decide +kernel)) (fun _ _ _ _ _ => (pg_name (i := 10) sc__law_job.nd rfl (by first | exact Or.inl rfl | exact Or.inr rfl))) (fun _ _ _ _ _ => pts_nil) (fun _ _ _ _ _ => (pe_callB (r := rMax2) (call_maxX rfl) (by rfl) (T.fr 45 _ rfl) (by decide +kernel) (pa_cons pe_int (pa_cons (pe_op op_sub (pv 10) (pe_ix (r := rIx K) ix_seq (pe_lst (pa_cons pe_int (pa_cons pe_int (pa_cons pe_int (pa_cons pe_int (pa_cons pe_int pa_nil)))))) (pe_call G__law_take (hr.mono (by decide)) (by rfl) g__law_take k__law_take b__law_take .nil pass0 (pa_cons (pv 0) (pa_cons pe_int pa_nil))) (fun _ _ => rfl))) pa_nil)))))
      (pss_cons (ps_set (i := 8) sc__law_job.nd rfl (Or.inl rfl) (pe_ix (r := rIx K) ix_seq (pe_lst (pa_cons (pe_lst (pa_cons pe_int (pa_cons pe_int (pa_cons pe_int (pa_cons pe_int pa_nil))))) (pa_cons (pe_lst (pa_cons pe_int (pa_cons pe_int (pa_cons pe_int (pa_cons pe_int pa_nil))))) (pa_cons (pe_lst (pa_cons pe_int (pa_cons pe_int (pa_cons pe_int (pa_cons pe_int pa_nil))))) (pa_cons (pe_lst (pa_cons (pe_un un_neg pe_int) (pa_cons pe_int (pa_cons pe_int (pa_cons pe_int pa_nil))))) pa_nil))))) (pe_call G__law_take (hr.mono (by decide)) (by rfl) g__law_take k__law_take b__law_take .nil pass0 (pa_cons (pv 0) (pa_cons pe_int pa_nil))) (fun _ _ => rfl)))
      (pss_cons (ps_set (i := 9) sc__law_job.nd rfl (Or.inl rfl) (pe_lstN pa_nil))
      (pss_cons (ps_for PassesOwn.never rfl (pi_listK (K := K) rfl (pv 5)) (pg_name (i := 10) sc__law_job.nd rfl (Or.inl rfl)) (pss_cons (ps_set (i := 11) sc__law_job.nd rfl (Or.inl rfl) (pe_callB (r := rMax2) (call_maxX rfl) (by rfl) (T.fr 45 _ rfl) (by decide +kernel) (pa_cons pe_int (pa_cons (pe_op (r := rAddX K) op_addX (pv 10) (pe_ix (r := rIx K) ix_seq (pv 8) (pe_call G__law_take (hr.mono (by decide)) (by rfl) g__law_take k__law_take b__law_take .nil pass0 (pa_cons (pv 0) (pa_cons pe_int pa_nil))) (fun _ _ => rfl))) pa_nil))))
      (pss_one (ps_expr (pe_bmK (K := K) rfl (pe_bm PySem.F.plainAttrs_list PySem.F.slot_list_append PySem.F.type_list_append (r := rAppend) mt_append (pv 9) (pa_cons (pe_ix (r := rIx K) ix_seq (pe_lst (pa_cons (pv 11) (pa_cons (pv 11) (pa_cons (pv 11) (pa_cons pe_non pa_nil))))) (pe_call G__law_take (hr.mono (by decide)) (by rfl) g__law_take k__law_take b__law_take .nil pass0 (pa_cons (pv 0) (pa_cons pe_int pa_nil))) (fun _ _ => rfl)) pa_nil)))))))
      (pss_one (ps_ret (pe_tup (pa_cons (pv 7) (pa_cons (pv 9) (pa_cons (pv 6) (pa_cons (pv 3) pa_nil)))))))))))))))), vbody (N := ["_law_pile_here", "_law_most", "_law_wide", "_law_rooms", "_law_order_here", "_law_hours_here", "_law_needs_here", "_law_frees", "_law_slack", "_law_dues", "_law_hour", "_law_due", "_law_k"]) hs rr xl ql ?_⟩
    unfold vJob at h
    split at h
    · rename_i most wide x
      obtain ⟨m0, m1, w0, w1, hq⟩ := h
      -- rooms
      refine vcut (fun Γ S => ∃ (rs : List Int) (x' : Int), S = [pl x'] ∧ Γ = [some (.rf 0), some (.fz (.int most)), some (.fz (.int wide)), some (.fz (.list (intsL rs))), none, none, none, none, none, none, none, none, none] ∧ rs.length ≤ 8 ∧ ∀ y ∈ rs, 0 ≤ y ∧ y ≤ 2 + wide) (fun k hk => ?_) (fun Γ S hP => ?_)
      · unfold wLc
        walk_at "v"
        refine ⟨rfl, fun d x1 d0 d1 => ⟨by omega, by omega, ?_⟩⟩
        refine lcV_inv (fun i acc S => ∃ (rs : List Int) (x' : Int), S = [pl x'] ∧ acc = fzs (intsL rs) ∧ rs.length = i ∧ ∀ y ∈ rs, 0 ≤ y ∧ y ≤ 2 + wide) ⟨[], x1, rfl, rfl, rfl, fun y hy => by cases hy⟩ (fun _ _ _ _ _ => trivial) (fun i v acc S k2 hv hI hk2 => ?_) (fun acc S hI => ?_)
        · obtain ⟨rs, x2, rfl, rfl, hl, hb⟩ := hI
          obtain ⟨hi, rfl⟩ := rng0_get hv
          simp only [wipeG]
          walk_at "v"
          intro d' x3 d0' d1'
          obtain ⟨y, e, y0, y1⟩ := atN_ints (l := [0, 1, 2, 2, 1, 2, 2 + wide]) (lo := 0) (hi := 2 + wide) d0' d1' (by
            intro y hy
            simp only [List.mem_cons, List.not_mem_nil, or_false] at hy
            omega)
          have e' : atN [PyData.int 0, .int 1, .int 2, .int 2, .int 1, .int 2, .int (2 + wide)] d' = some (.int y) := e
          rw [e']
          refine ⟨by rw [intsL_len]; omega, hk2 _ _ ⟨rs ++ [y], x3, rfl, by rw [← intsL_snoc], by rw [List.length_append, hl]; rfl, fun z hz => ?_⟩⟩
          rcases List.mem_append.mp hz with h | h
          · exact hb z h
          · rw [List.mem_singleton.mp h]
            exact ⟨y0, y1⟩
        · obtain ⟨rs, x2, rfl, rfl, hl, hb⟩ := hI
          rw [rngT_len] at hl
          walk_at "v"
          exact hk _ _ ⟨rs, x2, rfl, rfl, by omega, hb⟩
      obtain ⟨rs, x', rfl, rfl, hrl, hrv⟩ := hP
      have R : Rooms rs := ⟨Nat.le_trans hrl (by decide), fun y hy => ⟨(hrv y hy).1, by have := (hrv y hy).2; omega⟩⟩
      -- most
      refine vcut (fun Γ S => ∃ m : Int, S = [pl x'] ∧ Γ = [some (.rf 0), some (.fz (.int m)), some (.fz (.int wide)), some (.fz (.list (intsL rs))), none, none, none, none, none, none, none, none, none] ∧ 0 ≤ m ∧ m ≤ most ∧ (3 ∈ rs → m ≤ 9)) (fun k hk => ?_) (fun Γ S hP => ?_)
      · walk_at "v"
        refine ⟨.inl rfl, fun e => ?_, fun e => ?_⟩
        · refine hk _ _ ⟨_, rfl, rfl, ?_, ?_, fun _ => ?_⟩ <;> split <;> omega
        · exact hk _ _ ⟨most, rfl, rfl, m0, Int.le_refl _, fun h => absurd h (of_decide_eq_false e)⟩
      obtain ⟨m, rfl, rfl, hm0, hm1, hm3⟩ := hP
      -- order
      refine vstep fun k hk => ?_
      walk_at "v"
      refine ⟨by omega, by omega, fun nt x2 n0 n1 => ⟨n0, by omega, fun os x3 hperm => hk _ _ ?_⟩⟩
      clear hk
      obtain ⟨n, rfl⟩ : ∃ n : Nat, nt = (n : Int) := ⟨nt.toNat, by omega⟩
      rw [Int.toNat_natCast] at hperm
      -- hours
      refine vstep fun k hk => ?_
      walk_at "v"
      refine ⟨n, os, rs, rfl, rfl, hperm, by omega, R, fun hs' x4 hhl hhv _ => hk _ _ ?_⟩
      clear hk
      -- needs
      refine vstep fun k hk => ?_
      walk_at "v"
      refine ⟨n, os, hs', rfl, rfl, hperm, hhl, by omega, fun zs x5 hzl hznd hal => hk _ _ ?_⟩
      clear hk
      -- frees
      refine vcut (fun Γ S => ∃ (fs : List Int) (x' : Int), S = [pl x'] ∧ Γ = [some (.rf 0), some (.fz (.int m)), some (.fz (.int wide)), some (.fz (.list (intsL rs))), some (.fz (.list (natsL os))), some (.fz (.list (intsL hs'))), some (.fz (.list (prsL zs))), some (.fz (.list (intsL fs))), none, none, none, none, none] ∧ fs.length = n ∧ ∀ y ∈ fs, 1 ≤ y ∧ y ≤ 200) (fun k hk => ?_) (fun Γ S hP => ?_)
      · unfold wLc
        walk_at "v"
        refine ⟨rfl, lcV_inv (fun i acc S => ∃ (fs : List Int) (x' : Int), S = [pl x'] ∧ acc = fzs (intsL fs) ∧ fs.length = i ∧ ∀ y ∈ fs, 1 ≤ y ∧ y ≤ 200) ⟨[], x5, rfl, rfl, rfl, fun y hy => by cases hy⟩ (fun _ _ _ _ _ => trivial) (fun i v acc S k2 hv hI hk2 => ?_) (fun acc S hI => ?_)⟩
        · obtain ⟨fs, x6, rfl, rfl, hl, hb⟩ := hI
          obtain ⟨h, hh, rfl⟩ : ∃ h, hs'[i]? = some h ∧ v = .fz (.int h) := ints_item hv
          have hh2 := hhv h (List.mem_of_getElem? hh)
          have hi := (List.getElem?_eq_some_iff.mp hh).1
          simp only [wipeG]
          walk_at "v"
          intro d' x7 d0' d1'
          obtain ⟨y, e, y0, y1⟩ := atN_ints (l := [0, 1, 2, 9, 9]) (lo := 0) (hi := 9) d0' d1' (by decide)
          have e' : atN [PyData.int 0, .int 1, .int 2, .int 9, .int 9] d' = some (.int y) := e
          rw [e']
          walk_at "v"
          refine ⟨by rw [intsL_len]; omega, hk2 _ _ ⟨fs ++ [if h - y > 1 then h - y else 1], x7, rfl, by rw [← intsL_snoc], by rw [List.length_append, hl]; rfl, fun z hz => ?_⟩⟩
          rcases List.mem_append.mp hz with h' | h'
          · exact hb z h'
          · rw [List.mem_singleton.mp h']
            split <;> omega
        · obtain ⟨fs, x6, rfl, rfl, hl, hb⟩ := hI
          rw [List.length_map, intsL_len, hhl] at hl
          walk_at "v"
          exact hk _ _ ⟨fs, x6, rfl, rfl, hl, hb⟩
      obtain ⟨fs, x6, rfl, rfl, hfl, hfv⟩ := hP
      -- slack
      refine vcut (fun Γ S => ∃ (sl : List Int) (x' : Int), S = [pl x'] ∧ Γ = [some (.rf 0), some (.fz (.int m)), some (.fz (.int wide)), some (.fz (.list (intsL rs))), some (.fz (.list (natsL os))), some (.fz (.list (intsL hs'))), some (.fz (.list (prsL zs))), some (.fz (.list (intsL fs))), some (.fz (.list (intsL sl))), none, none, none, none] ∧ sl.length = 4 ∧ ∀ y ∈ sl, -1 ≤ y ∧ y ≤ 3) (fun k hk => ?_) (fun Γ S hP => ?_)
      · walk_at "v"
        intro d x7 d0 d1
        have hd : d = 0 ∨ d = 1 ∨ d = 2 ∨ d = 3 := by omega
        rcases hd with rfl | rfl | rfl | rfl
        · exact hk _ _ ⟨[0, 0, 1, 2], x7, rfl, rfl, rfl, by decide⟩
        · exact hk _ _ ⟨[0, 1, 2, 3], x7, rfl, rfl, rfl, by decide⟩
        · exact hk _ _ ⟨[0, 0, 0, 1], x7, rfl, rfl, rfl, by decide⟩
        · exact hk _ _ ⟨[-1, 0, 1, 3], x7, rfl, rfl, rfl, by decide⟩
      obtain ⟨sl, x7, rfl, rfl, hsl, hsv⟩ := hP
      refine vstep fun k hk => ?_
      walk_at "v"
      refine hk _ _ ?_
      clear hk
      -- dues
      refine vcut (fun Γ S => ∃ (ds : List (Option Int)) (x' : Int) (y10 y11 y12 : Option DP.T), S = [pl x', .lst (fzs (optsL ds))] ∧ Γ = [some (.rf 0), some (.fz (.int m)), some (.fz (.int wide)), some (.fz (.list (intsL rs))), some (.fz (.list (natsL os))), some (.fz (.list (intsL hs'))), some (.fz (.list (prsL zs))), some (.fz (.list (intsL fs))), some (.fz (.list (intsL sl))), some (.rf 1), y10, y11, y12] ∧ ds.length = n ∧ ∀ y, some y ∈ ds → 0 ≤ y ∧ y ≤ 200) (fun k hk => ?_) (fun Γ S hP => ?_)
      · unfold wFor
        walk_at "v"
        refine forV_inv (fun i Γ S => ∃ (ds : List (Option Int)) (x' : Int) (y10 y11 y12 : Option DP.T), S = [pl x', .lst (fzs (optsL ds))] ∧ Γ = [some (.rf 0), some (.fz (.int m)), some (.fz (.int wide)), some (.fz (.list (intsL rs))), some (.fz (.list (natsL os))), some (.fz (.list (intsL hs'))), some (.fz (.list (prsL zs))), some (.fz (.list (intsL fs))), some (.fz (.list (intsL sl))), some (.rf 1), y10, y11, y12] ∧ ds.length = i ∧ ∀ y, some y ∈ ds → 0 ≤ y ∧ y ≤ 200) ⟨[], x7, none, none, none, rfl, rfl, rfl, fun y hy => by cases hy⟩ (fun _ _ _ _ _ => trivial) (fun i v Γ S k2 hv hI hk2 => ?_) (fun Γ S hI => ?_)
        · obtain ⟨ds, x8, y10, y11, y12, rfl, rfl, hl, hb⟩ := hI
          obtain ⟨h, hh, rfl⟩ : ∃ h, hs'[i]? = some h ∧ v = .fz (.int h) := ints_item hv
          have hh2 := hhv h (List.mem_of_getElem? hh)
          have hi := (List.getElem?_eq_some_iff.mp hh).1
          walk_at "v"
          intro d x9 d0 d1
          obtain ⟨y, e, y0, y1⟩ := atN_ints (l := sl) (lo := -1) (hi := 3) d0 (by omega) hsv
          have e' : atN (intsL sl) d = some (.int y) := e
          rw [e']
          walk_at "v"
          intro d2 x10 d20 d21
          have hd2 : d2 = 0 ∨ d2 = 1 ∨ d2 = 2 ∨ d2 = 3 := by omega
          have fin : ∀ o : Option Int, (∀ z, o = some z → 0 ≤ z ∧ z ≤ 200) → ∀ y11 y12, (optsL ds).length < 100000 ∧ k2 [some (.rf 0), some (.fz (.int m)), some (.fz (.int wide)), some (.fz (.list (intsL rs))), some (.fz (.list (natsL os))), some (.fz (.list (intsL hs'))), some (.fz (.list (prsL zs))), some (.fz (.list (intsL fs))), some (.fz (.list (intsL sl))), some (.rf 1), some (.fz (.int h)), y11, y12] [pl x10, .lst (fzs (optsL ds ++ [oD o]))] := fun o ho y11 y12 => by
            refine ⟨by rw [optsL_len]; omega, hk2 _ _ ⟨ds ++ [o], x10, _, _, _, by unfold optsL; rw [List.map_append]; rfl, rfl, by rw [List.length_append, hl]; rfl, fun z hz => ?_⟩⟩
            rcases List.mem_append.mp hz with h' | h'
            · exact hb z h'
            · exact ho z (List.mem_singleton.mp h').symm
          have hdue : 0 ≤ (if h + y > 0 then h + y else 0) ∧ (if h + y > 0 then h + y else 0) ≤ 200 := by split <;> omega
          rcases hd2 with rfl | rfl | rfl | rfl
          · exact fin (some _) (fun z hz => by cases hz; exact hdue) _ _
          · exact fin (some _) (fun z hz => by cases hz; exact hdue) _ _
          · exact fin (some _) (fun z hz => by cases hz; exact hdue) _ _
          · exact fin none (fun z hz => by cases hz) _ _
        · obtain ⟨ds, x8, y10, y11, y12, rfl, rfl, hl, hb⟩ := hI
          rw [List.length_map, intsL_len, hhl] at hl
          exact hk _ _ ⟨ds, x8, _, _, _, rfl, rfl, hl, hb⟩
      obtain ⟨ds, x8, y10, y11, y12, rfl, rfl, hdl, hdv⟩ := hP
      walk_at "v"
      exact hq fs ds zs rs x8 ⟨by omega, by omega, hfv, hdv, hzl, hznd, rank_ofP hperm hal hfl.symm, R⟩ (by omega) (fun h3 => by have := hm3 h3; omega) fun y hy => (hrv y hy).2
    · exact h.elim

end
local macro_rules | `(tactic| walk_at "v0") => `(tactic| simp only [wSeq, wNext, wBreak, wCont, wDrop, wRet, wRetN, wIfS, wAsg, wgName, wgNil, wgCons, wgTup, wgUnl, wPar, wVar, wC, wB, wAnd, wOr, wNot, wAndV, wOrV, wNotV, wIf, wOp, wUn, wCB, wNil, wCons, wIsN, wNotN, isNon, wCall, wCall0, wRng1, wRng2, wIList, wITup, wEnum, wZip, wYes, wLst, wLstN, wTup, wSl, vPart, vNoPart, wIsi, wTru, vTru, wChain, wBM, wBM0, wgSub, wAug, vI0, vI0b, vI, vNeg, vAdd, vEqW, datOf, eqS, id, vIsB, vIx, vSl, vLen, vIsi, tyT, tyD, itemsA, itemsT, seqOf, datsOf, vAll, vAny, vSum, vMax2, vMin2, vMaxL, vMinL, vList, vInt1, vAppend, vSet, isKd, allD, startG, newL, newLN, tupT, itemsV, List.getElem?_cons_zero, List.getElem?_cons_succ, List.set_cons_zero, List.set_cons_succ, List.length_cons, List.length_nil, List.map_cons, List.map_nil, ifV_true, ifV_false, List.nil_append, List.cons_append, reduceCtorEq, Bool.not_true, Bool.not_false, true_and, and_true, decide_true, decide_false, retD, retX, frzT, frzTs, clo, List.take_zero, List.take_succ_cons, List.take_nil, List.not_mem_nil, false_imp_iff, implies_true, callV, callJ, jsOf, rfsTs, rfsT, rfsO, addN, stepN, okJs, renTs, renT, renO, outN, backS, putAll, idxB, inB, renTs_fz, rfsTs_fz, List.append_nil, List.drop_nil, List.drop_zero, List.foldl_nil, List.foldl_cons, List.nodup_nil, kb_NoneType_int, kb_NoneType_bool, kb_NoneType_list, kb_NoneType_tuple, kb_NoneType_str, kb_bool_int, kb_bool_bool, kb_bool_list, kb_bool_tuple, kb_bool_str, kb_int_int, kb_int_bool, kb_int_list, kb_int_tuple, kb_int_str, kb_str_int, kb_str_bool, kb_str_list, kb_str_tuple, kb_str_str, kb_list_int, kb_list_bool, kb_list_list, kb_list_tuple, kb_list_str, kb_tuple_int, kb_tuple_bool, kb_tuple_list, kb_tuple_tuple, kb_tuple_str, kb_dict_int, kb_dict_bool, kb_dict_list, kb_dict_tuple, kb_dict_str, nodB, subL, okO, cloL, Bool.or_false, Bool.true_or, Bool.or_true, Bool.false_or, eq_self, reduceIte, Int.reduceLE, Int.reduceLT, Int.reduceAdd, Int.reduceSub, Int.reduceNeg, Int.reduceToNat, Nat.reduceAdd, Nat.reduceSub, Nat.reduceLT, Nat.reduceLeDiff, Nat.reduceEqDiff, Int.reduceEq, Int.cast_ofNat_Int, atN_nat, plN_nat, rfsTs_append, renTs_append, Option.map_some, Option.map_none, List.drop_succ_cons, fzs_snoc, fzs_cat, fzs_ins, fzs_set, Int.toNat_natCast, List.length_map, List.length_append, allD_map, allD_append, frzTs_fz, atN_map, List.getD_cons_zero, List.getD_cons_succ, beq_self_eq_true, Nat.reduceBEq, Bool.false_eq_true, vInsert, vInW, datsA, flatD, intsL_flat, intsL_any, natsL_flat, natsL_any, lcR_map, vB1, vB2, vMixed, vTake, pl, vPile, vOrder, vRoom1, vHours, vNeeds, vJob])

namespace M
section
variable {P : Program} {w : World} {K : PySem.W.Frag} {mg : Str → Option Value} {base : Heap}
/-! duepairs.whole -/
def spWhole : Sp := fun vs H Q _ => ∃ (x : V) (t : String), vs = [x] ∧ Kd H x t ∧ Q (.bl (isW x)) H
theorem ok_is_whole (T : Env K mg) : Ok P w K mg base CX0 dd_is_whole "is_whole" 1 ["thing"] spWhole := by
  obtain ⟨fd, F⟩ := T.c.def_ 0 (d := dd_is_whole) rfl
  refine ⟨fd, F, T.gl 0 _ rfl, F.kp, F.bindsN fun _ _ _ _ _ _ us hl => match us, hl with | [_], _ => rfl, ?_⟩
  refine F.ok sc_is_whole (fun vs H Q E h => ?_) (fun cdv A outer s H vs Q E hr h => ?_)
  · obtain ⟨x, t, rfl, kd, q⟩ := h
    rfl
  · obtain ⟨x, t, rfl, kd, q⟩ := h
    refine ⟨_, PSs.nox (pss_one (ps_ret (pe_and (pe_callB call_isi (by rfl) (T.fr 32 _ rfl) (by decide +kernel) (pa_cons (pv 0) (pa_cons (pe_bltn (v := .ty "int") (by rfl) (T.fr 33 _ rfl) (by decide +kernel) rfl) pa_nil))) (pe_one (pe_not (pe_callB call_isi (by rfl) (T.fr 32 _ rfl) (by decide +kernel) (pa_cons (pv 0) (pa_cons (pe_bltn (v := .ty "bool") (by rfl) (T.fr 34 _ rfl) (by decide +kernel) rfl) pa_nil)))))))), ?_⟩
    walk_at "u"
    cases kd with
    | non => exact ⟨_, rfl, rIsi_of .non (by decide +kernel) ⟨_, rfl, iteF q⟩⟩
    | bl b => exact ⟨_, rfl, rIsi_of (.bl b) (by decide +kernel) ⟨_, rfl, iteT ⟨_, rfl, rIsi_of (b := true) (.bl b) (by decide +kernel) ⟨_, rfl, q⟩⟩⟩⟩
    | int i => exact ⟨_, rfl, rIsi_of (.int i) (by decide +kernel) ⟨_, rfl, iteT ⟨_, rfl, rIsi_of (b := false) (.int i) (by decide +kernel) ⟨_, rfl, q⟩⟩⟩⟩
    | str z => exact ⟨_, rfl, rIsi_of (.str z) (by decide +kernel) ⟨_, rfl, iteF q⟩⟩
    | lst e => exact ⟨_, rfl, rIsi_of (.lst e) (by decide +kernel) ⟨_, rfl, iteF q⟩⟩
    | tup e => exact ⟨_, rfl, rIsi_of (.tup e) (by decide +kernel) ⟨_, rfl, iteF q⟩⟩
def spWholeFrom : Sp := fun vs H Q _ => ∃ (m : Int) (x : V) (t : String), vs = [.int m, x] ∧ Kd H x t ∧ Q (.bl (isWF m x)) H
theorem ok_is_whole_from (T : Env K mg) : Ok P w K mg base CX0 dd_is_whole_from "is_whole_from" 2 ["least", "thing"] spWholeFrom := by
  obtain ⟨fd_is_whole, D_is_whole, g_is_whole, k_is_whole, b_is_whole, G_is_whole⟩ := ok_is_whole (P := P) (w := w) (base := base) T
  obtain ⟨fd, F⟩ := T.c.def_ 1 (d := dd_is_whole_from) rfl
  refine ⟨fd, F, T.gl 1 _ rfl, F.kp, F.bindsN fun _ _ _ _ _ _ us hl => match us, hl with | [_, _], _ => rfl, ?_⟩
  refine F.ok sc_is_whole_from (fun vs H Q E h => ?_) (fun cdv A outer s H vs Q E hr h => ?_)
  · obtain ⟨m, x, t, rfl, kd, q⟩ := h
    rfl
  · obtain ⟨m, x, t, rfl, kd, q⟩ := h
    refine ⟨_, PSs.nox (pss_one (ps_ret (pe_and (pe_call G_is_whole (hr.mono (by decide)) (by rfl) g_is_whole k_is_whole b_is_whole .nil pass0 (pa_cons (pv 1) pa_nil)) (pe_one (pe_cmpR op_ge (pv 1) (pv 0) (nomark _)))))), ?_⟩
    refine ⟨_, rfl, x, t, rfl, kd, _, rfl, ifB (fun e => ?_) (fun e => ?_)⟩
    · cases x with
      | int i => exact ⟨_, rfl, _, rfl, _, _, rfl, rfl, q⟩
      | _ => cases e
    · have e2 : isWF m x = false := by
        cases x with
        | int i => cases e
        | _ => rfl
      rw [e2] at q
      exact q
def spHour : Sp := fun vs H Q _ => ∃ (x : V) (t : String), vs = [x] ∧ Kd H x t ∧ Q (.bl (isWF 1 x)) H
theorem ok_is_hour (T : Env K mg) : Ok P w K mg base CX0 dd_is_hour "is_hour" 3 ["thing"] spHour := by
  obtain ⟨fd_is_whole_from, D_is_whole_from, g_is_whole_from, k_is_whole_from, b_is_whole_from, G_is_whole_from⟩ := ok_is_whole_from (P := P) (w := w) (base := base) T
  obtain ⟨fd, F⟩ := T.c.def_ 2 (d := dd_is_hour) rfl
  refine ⟨fd, F, T.gl 2 _ rfl, F.kp, F.bindsN fun _ _ _ _ _ _ us hl => match us, hl with | [_], _ => rfl, ?_⟩
  refine F.ok sc_is_hour (fun vs H Q E h => ?_) (fun cdv A outer s H vs Q E hr h => ?_)
  · obtain ⟨x, t, rfl, kd, q⟩ := h
    rfl
  · obtain ⟨x, t, rfl, kd, q⟩ := h
    refine ⟨_, PSs.nox (pss_one (ps_ret (pe_call G_is_whole_from (hr.mono (by decide)) (by rfl) g_is_whole_from k_is_whole_from b_is_whole_from .nil pass0 (pa_cons pe_int (pa_cons (pv 0) pa_nil))))), ?_⟩
    exact ⟨_, rfl, 1, x, t, rfl, kd, q⟩
def spDue : Sp := fun vs H Q _ => ∃ (x : V) (t : String), vs = [x] ∧ Kd H x t ∧ Q (.bl (isDue x)) H
theorem ok_is_due (T : Env K mg) : Ok P w K mg base CX0 dd_is_due "is_due" 3 ["thing"] spDue := by
  obtain ⟨fd_is_whole_from, D_is_whole_from, g_is_whole_from, k_is_whole_from, b_is_whole_from, G_is_whole_from⟩ := ok_is_whole_from (P := P) (w := w) (base := base) T
  obtain ⟨fd, F⟩ := T.c.def_ 3 (d := dd_is_due) rfl
  refine ⟨fd, F, T.gl 3 _ rfl, F.kp, F.bindsN fun _ _ _ _ _ _ us hl => match us, hl with | [_], _ => rfl, ?_⟩
  refine F.ok sc_is_due (fun vs H Q E h => ?_) (fun cdv A outer s H vs Q E hr h => ?_)
  · obtain ⟨x, t, rfl, kd, q⟩ := h
    rfl
  · obtain ⟨x, t, rfl, kd, q⟩ := h
    refine ⟨_, PSs.nox (pss_one (ps_ret (pe_or (pe_cmp (pc_isN (pv 0)) rfl) (pe_one (pe_call G_is_whole_from (hr.mono (by decide)) (by rfl) g_is_whole_from k_is_whole_from b_is_whole_from .nil pass0 (pa_cons pe_int (pa_cons (pv 0) pa_nil))))))), ?_⟩
    refine ⟨_, rfl, _, rfl, ifB (fun e => ?_) (fun e => ?_)⟩
    · have e2 : x = .non := of_decide_eq_true e
      subst e2
      exact q
    · have e2 : isDue x = isWF 0 x := by
        cases x with
        | non => cases e
        | _ => rfl
      rw [e2] at q
      exact ⟨_, rfl, 0, x, t, rfl, kd, q⟩
def spRoomP : Sp := fun vs H Q _ => ∃ (x : V) (t : String), vs = [x] ∧ Kd H x t ∧ Q (.bl (isRoom x)) H
theorem ok_is_room (T : Env K mg) : Ok P w K mg base CX0 dd_is_room "is_room" 3 ["thing"] spRoomP := by
  obtain ⟨fd_is_whole_from, D_is_whole_from, g_is_whole_from, k_is_whole_from, b_is_whole_from, G_is_whole_from⟩ := ok_is_whole_from (P := P) (w := w) (base := base) T
  obtain ⟨fd, F⟩ := T.c.def_ 5 (d := dd_is_room) rfl
  refine ⟨fd, F, T.gl 5 _ rfl, F.kp, F.bindsN fun _ _ _ _ _ _ us hl => match us, hl with | [_], _ => rfl, ?_⟩
  refine F.ok sc_is_room (fun vs H Q E h => ?_) (fun cdv A outer s H vs Q E hr h => ?_)
  · obtain ⟨x, t, rfl, kd, q⟩ := h
    rfl
  · obtain ⟨x, t, rfl, kd, q⟩ := h
    refine ⟨_, PSs.nox (pss_one (ps_ret (pe_and (pe_call G_is_whole_from (hr.mono (by decide)) (by rfl) g_is_whole_from k_is_whole_from b_is_whole_from .nil pass0 (pa_cons pe_int (pa_cons (pv 0) pa_nil))) (pe_one (pe_cmpR op_le (pv 0) (pe_glob (v := .int 3) (by rfl) (T.it 47 _ _ rfl).choose_spec ⟨_, rfl⟩) (nomark _)))))), ?_⟩
    refine ⟨_, rfl, 0, x, t, rfl, kd, _, rfl, ifB (fun e => ?_) (fun e => ?_)⟩
    · cases x with
      | int i =>
        have e2 : isRoom (.int i) = decide (i ≤ 3) := by
          show (decide (0 ≤ i) && decide (i ≤ 3)) = _
          rw [show decide (0 ≤ i) = true from e]
          rfl
        rw [e2] at q
        exact ⟨_, rfl, _, _, rfl, rfl, q⟩
      | _ => cases e
    · have e2 : isRoom x = false := by
        cases x with
        | int i =>
          show (decide (0 ≤ i) && decide (i ≤ 3)) = false
          rw [show decide (0 ≤ i) = false from e]
          rfl
        | _ => rfl
      rw [e2] at q
      exact q
def spTask : Sp := fun vs H Q _ => ∃ (n : Int) (x : V) (t : String), vs = [.int n, x] ∧ Kd H x t ∧ Q (.bl (isTask n x)) H
theorem ok_is_task (T : Env K mg) : Ok P w K mg base CX0 dd_is_task "is_task" 3 ["many", "thing"] spTask := by
  obtain ⟨fd_is_whole_from, D_is_whole_from, g_is_whole_from, k_is_whole_from, b_is_whole_from, G_is_whole_from⟩ := ok_is_whole_from (P := P) (w := w) (base := base) T
  obtain ⟨fd, F⟩ := T.c.def_ 6 (d := dd_is_task) rfl
  refine ⟨fd, F, T.gl 6 _ rfl, F.kp, F.bindsN fun _ _ _ _ _ _ us hl => match us, hl with | [_, _], _ => rfl, ?_⟩
  refine F.ok sc_is_task (fun vs H Q E h => ?_) (fun cdv A outer s H vs Q E hr h => ?_)
  · obtain ⟨n, x, t, rfl, kd, q⟩ := h
    rfl
  · obtain ⟨n, x, t, rfl, kd, q⟩ := h
    refine ⟨_, PSs.nox (pss_one (ps_ret (pe_and (pe_call G_is_whole_from (hr.mono (by decide)) (by rfl) g_is_whole_from k_is_whole_from b_is_whole_from .nil pass0 (pa_cons pe_int (pa_cons (pv 1) pa_nil))) (pe_one (pe_cmpR op_lt (pv 1) (pv 0) (nomark _)))))), ?_⟩
    refine ⟨_, rfl, 0, x, t, rfl, kd, _, rfl, ifB (fun e => ?_) (fun e => ?_)⟩
    · cases x with
      | int i =>
        have e2 : isTask n (.int i) = decide (i < n) := by
          show (decide (0 ≤ i) && decide (i < n)) = _
          rw [show decide (0 ≤ i) = true from e]
          rfl
        rw [e2] at q
        exact ⟨_, rfl, _, rfl, _, _, rfl, rfl, q⟩
      | _ => cases e
    · have e2 : isTask n x = false := by
        cases x with
        | int i =>
          show (decide (0 ≤ i) && decide (i < n)) = false
          rw [show decide (0 ≤ i) = false from e]
          rfl
        | _ => rfl
      rw [e2] at q
      exact q

end
/-! len(set(..)) of tuples of ints -/
def rLenSetT (K : PySem.W.Frag) (P : Program) (w : World) : List V → Hp → VK → Prop := fun xs H Q => ∃ (a : Addr) (L : List (Addr × List Int)), xs = [.ref a] ∧ H a = some (SetTO P w a L) ∧ (∀ p ∈ L, SqT K H p.1 (p.2.map V.int)) ∧
  ((L.map (·.2)).Nodup → L.length < 64 → Q (.int L.length) H)
theorem call_len_setT {X : Cx} : CallR X (.builtin "len") (rLenSetT X.K X.prog X.w) := by
  intro pins s σ H xs us Q I r h
  obtain ⟨a, L, rfl, ha, hT, q⟩ := h
  rw [Vals.ref1 r]
  have R0 : SetT0 X.prog X.w s.heap a L := (I.hok a _ ha).1
  obtain ⟨es, ep, t, R⟩ := R0.full fun p hp => I.isT (hT p hp)
  obtain ⟨o, ho, hex, hd⟩ := R.ob
  have hsz := R.size
  have hfew := R.few
  exact call_len_set ho hex hd R.fits (by omega) ⟨.int L.length, H, I.tok _, ⟨_, by rw [hsz]⟩, q R.nd R.few⟩
theorem nodup_perm_len {α : Type} [DecidableEq α] {a b : List α} (ha : a.Nodup) (hb : b.Nodup) (h1 : ∀ x ∈ a, x ∈ b) (h2 : ∀ x ∈ b, x ∈ a) : a.length = b.length := by
  have h : a.Perm b := (List.perm_ext_iff_of_nodup ha hb).mpr fun x => ⟨h1 x, h2 x⟩
  exact h.length_eq
/-- the numbers of a need -/
def pr2 (z : Addr × Nat × Nat) : Addr × List Int := (z.1, [(z.2.1 : Int), (z.2.2 : Int)])
/-! tasks behind a task, without a ring -/
def succ (zs : List (Addr × Nat × Nat)) (a : Nat) : List Nat := (zs.filter fun z => z.2.1 == a).map fun z => z.2.2
theorem succ_snoc (zs : List (Addr × Nat × Nat)) (z : Addr × Nat × Nat) (a : Nat) : succ (zs ++ [z]) a = if z.2.1 = a then succ zs a ++ [z.2.2] else succ zs a := by
  unfold succ
  rw [List.filter_append, List.map_append, List.filter_cons, List.filter_nil]
  by_cases h : z.2.1 = a
  · rw [if_pos h, if_pos (beq_iff_eq.mpr h)]
    rfl
  · rw [if_neg h, if_neg (fun e => h (beq_iff_eq.mp e))]
    simp
theorem mem_succ {zs : List (Addr × Nat × Nat)} {a b : Nat} : b ∈ succ zs a ↔ ∃ z ∈ zs, z.2.1 = a ∧ z.2.2 = b := by
  unfold succ
  rw [List.mem_map]
  constructor
  · rintro ⟨z, hz, e⟩
    obtain ⟨h1, h2⟩ := List.mem_filter.mp hz
    exact ⟨z, h1, beq_iff_eq.mp h2, e⟩
  · rintro ⟨z, h1, h2, e⟩
    exact ⟨z, List.mem_filter.mpr ⟨h1, beq_iff_eq.mpr h2⟩, e⟩
theorem succ_len (zs : List (Addr × Nat × Nat)) (a : Nat) : (succ zs a).length ≤ zs.length := by
  unfold succ
  rw [List.length_map]
  exact List.length_filter_le ..
structure Follow (H H' : Hp) (q : Addr) (as : List Addr) (zs : List (Addr × Nat × Nat)) (n : Nat) : Prop where
  top : H' q = some (.lst (as.map V.ref))
  len : as.length = n
  nd : as.Nodup
  at_ : ∀ (i : Nat) (a : Addr), as[i]? = some a → H a = none ∧ a ≠ q ∧ H' a = some (.lst (nV (succ zs i)))
theorem Follow.same {H H1 H2 : Hp} {q : Addr} {as : List Addr} {zs : List (Addr × Nat × Nat)} {n : Nat} (f : Follow H H1 q as zs n) (s : Same H1 H2) : Follow H H2 q as zs n :=
  ⟨s _ _ f.top, f.len, f.nd, fun i a h => by
    obtain ⟨h1, h2, h3⟩ := f.at_ i a h
    exact ⟨h1, h2, s _ _ h3⟩⟩
theorem rV_get {as : List Addr} {j : Nat} {a : Addr} (h : as[j]? = some a) : (as.map V.ref)[j]? = some (.ref a) := by
  rw [List.getElem?_map, h]
  rfl
/-- how many needs of b have not been done -/
def waitN (zs : List (Addr × Nat × Nat)) (done : List Nat) (b : Nat) : Nat := zs.countP fun z => decide (z.2.2 = b) && !decide (z.2.1 ∈ done)
theorem waitN_snoc (zs : List (Addr × Nat × Nat)) (done : List Nat) (a b : Nat) (h : ¬ a ∈ done) : waitN zs done b = waitN zs (done ++ [a]) b + (succ zs a).count b := by
  unfold waitN succ
  induction zs with
  | nil => rfl
  | cons z r ih =>
    rw [List.countP_cons, List.countP_cons, ih, List.filter_cons]
    by_cases hb : z.2.2 = b
    · by_cases ha : z.2.1 = a
      · have h1 : ¬ z.2.1 ∈ done := fun e => h (ha ▸ e)
        have h2 : z.2.1 ∈ done ++ [a] := List.mem_append.mpr (.inr (List.mem_singleton.mpr ha))
        simp only [hb, h1, h2, ha, beq_self_eq_true, if_true, List.map_cons, List.count_cons, decide_true, decide_false, Bool.not_false, Bool.not_true, Bool.and_true, Bool.and_false, Bool.false_eq_true, if_false]
        have h6 : a ∈ done ++ [a] := ha ▸ h2
        rw [decide_eq_false h, decide_eq_true h6]
        simp only [Bool.not_false, Bool.not_true, Bool.and_true, Bool.and_false, if_true, Bool.false_eq_true, if_false]
        omega
      · have h1 : z.2.1 ∈ done ++ [a] ↔ z.2.1 ∈ done := by
          rw [List.mem_append, List.mem_singleton]
          exact ⟨fun e => e.resolve_right ha, .inl⟩
        have h3 : (z.2.1 == a) = false := beq_eq_false_iff_ne.mpr ha
        simp only [hb, h1, h3, Bool.false_eq_true, if_false]
        omega
    · by_cases ha : z.2.1 = a
      · have h4 : (z.2.2 == b) = false := beq_eq_false_iff_ne.mpr hb
        simp only [hb, ha, beq_self_eq_true, if_true, List.map_cons, List.count_cons, h4, decide_false, Bool.false_and, Bool.false_eq_true, if_false]
        omega
      · have h3 : (z.2.1 == a) = false := beq_eq_false_iff_ne.mpr ha
        simp only [hb, h3, decide_false, Bool.false_and, Bool.false_eq_true, if_false]
        omega
theorem waitN_zero {zs : List (Addr × Nat × Nat)} {done : List Nat} {b : Nat} : waitN zs done b = 0 ↔ ∀ z ∈ zs, z.2.2 = b → z.2.1 ∈ done := by
  unfold waitN
  rw [List.countP_eq_zero]
  constructor
  · intro h z hz e
    have := h z hz
    simp only [e, decide_true, Bool.true_and, Bool.not_eq_true, Bool.not_eq_false'] at this
    simpa using this
  · intro h z hz
    by_cases e : z.2.2 = b
    · simp [e, h z hz e]
    · simp [e]
theorem waitN_take (zs : List (Addr × Nat × Nat)) (b : Nat) (k : Nat) (z : Addr × Nat × Nat) (h : zs[k]? = some z) : waitN (zs.take (k + 1)) [] b = waitN (zs.take k) [] b + if z.2.2 = b then 1 else 0 := by
  unfold waitN
  rw [List.take_add_one, h, List.countP_append]
  congr 1
  by_cases e : z.2.2 = b
  · simp [e]
  · simp [e]
/-- a list by a function -/
structure ByF (ws : List Int) (n : Nat) (f : Nat → Int) : Prop where
  len : ws.length = n
  at_ : ∀ b, b < n → ws[b]? = some (f b)
theorem ByF.set {ws : List Int} {n : Nat} {f g : Nat → Int} (h : ByF ws n f) {b : Nat} {v : Int} (hb : b < n) (e1 : g b = v) (e2 : ∀ c, c ≠ b → g c = f c) : ByF (ws.set b v) n g := by
  refine ⟨by rw [List.length_set]; exact h.len, fun c hc => ?_⟩
  by_cases e : c = b
  · subst e
    rw [List.getElem?_set_self (by rw [h.len]; exact hc), e1]
  · rw [List.getElem?_set_ne (fun z => e z.symm), h.at_ c hc, e2 c e]
theorem ByF.congr {ws : List Int} {n : Nat} {f g : Nat → Int} (h : ByF ws n f) (e : ∀ c, c < n → g c = f c) : ByF ws n g := ⟨h.len, fun b hb => by rw [h.at_ b hb, e b hb]⟩
def Acyc (zs : List (Addr × Nat × Nat)) : Prop := ∃ rk : Nat → Nat, ∀ z ∈ zs, rk z.2.1 < rk z.2.2
/-- the state of the clearing -/
structure Clr (zs : List (Addr × Nat × Nat)) (n : Nat) (cl : List Nat) (at_ : Nat) : Prop where
  nd : cl.Nodup
  lt : ∀ t ∈ cl, t < n
  up : at_ ≤ cl.length
  ord : ∀ z ∈ zs, ∀ i : Nat, cl[i]? = some z.2.2 → ∃ j : Nat, j < i ∧ cl[j]? = some z.2.1
/-- at the end -/
theorem clr_end {zs : List (Addr × Nat × Nat)} {n : Nat} {cl : List Nat} (h : Clr zs n cl cl.length) (hz : ∀ z ∈ zs, z.2.1 < n ∧ z.2.2 < n) (hw : ∀ b, b < n → (b ∈ cl ↔ waitN zs cl b = 0)) :
    decide ((cl.length : Int) < (n : Int)) = false ↔ Acyc zs := by
  constructor
  · intro e
    have hl : n ≤ cl.length := by
      have := of_decide_eq_false e
      omega
    have hall : ∀ t, t < n → t ∈ cl := fun t ht => by
      refine Decidable.byContradiction fun hn => ?_
      have h1 := nat_nodup_len (t :: cl) (List.range n) (List.nodup_cons.mpr ⟨hn, h.nd⟩) fun x hx => by
        rcases List.mem_cons.mp hx with e | hx
        · rw [e]
          exact List.mem_range.mpr ht
        · exact List.mem_range.mpr (h.lt x hx)
      rw [List.length_range, List.length_cons] at h1
      omega
    refine ⟨fun t => cl.idxOf t, fun z hzm => ?_⟩
    have hm : z.2.2 ∈ cl := hall _ (hz z hzm).2
    obtain ⟨i, hi⟩ := List.getElem?_of_mem hm
    obtain ⟨j, hj, hj2⟩ := h.ord z hzm i hi
    have ix : ∀ {i t : Nat}, cl[i]? = some t → cl.idxOf t = i := fun {i t} h2 => by
      obtain ⟨hi, e⟩ := List.getElem?_eq_some_iff.mp h2
      rw [← e]
      exact h.nd.idxOf_getElem i hi
    show cl.idxOf z.2.1 < cl.idxOf z.2.2
    rw [ix hi, ix hj2]
    exact hj
  · rintro ⟨rk, hrk⟩
    have all : ∀ (m t : Nat), rk t ≤ m → t < n → t ∈ cl := by
      intro m
      induction m with
      | zero =>
        intro t hr ht
        refine (hw t ht).mpr (waitN_zero.mpr fun z hzm e => ?_)
        have := hrk z hzm
        rw [e] at this
        omega
      | succ m ih =>
        intro t hr ht
        refine (hw t ht).mpr (waitN_zero.mpr fun z hzm e => ?_)
        have h1 := hrk z hzm
        rw [e] at h1
        exact ih z.2.1 (by omega) (hz z hzm).1
    have := nat_nodup_len (List.range n) cl List.nodup_range fun t ht => all _ t (Nat.le_refl _) (List.mem_range.mp ht)
    rw [List.length_range] at this
    exact decide_eq_false (by omega)
theorem rep_flat (n : Nat) : (List.replicate n [V.int 0]).flatten = iV (List.replicate n 0) := by
  induction n with
  | zero => rfl
  | succ n ih =>
    rw [List.replicate_succ, List.flatten_cons, ih, List.replicate_succ]
    rfl
theorem byF_rep (n : Nat) : ByF (List.replicate n 0) n (fun _ => 0) := ⟨List.length_replicate, fun b hb => by rw [List.getElem?_replicate, if_pos hb]⟩
/-- one follower of a less to wait for -/
theorem cnt_take {l : List Nat} {k b : Nat} (h : l[k]? = some b) (c : Nat) : ((l.take (k + 1)).count c : Int) = ((l.take k).count c : Int) + if c = b then 1 else 0 := by
  rw [List.take_add_one, h, List.count_append]
  show ((((l.take k).count c + [b].count c : Nat)) : Int) = _
  rw [List.count_singleton]
  by_cases e : c = b
  · subst e
    simp
  · rw [if_neg e, if_neg (by simpa using fun z : b = c => e z.symm)]
    simp
theorem cnt_le (l : List Nat) (k c : Nat) : (l.take k).count c ≤ l.count c := (List.take_sublist k l).count_le c
theorem filt_snoc (p : Nat → Bool) (i : Nat) : (List.range (i + 1)).filter p = if p i = true then (List.range i).filter p ++ [i] else (List.range i).filter p := by
  rw [List.range_succ, List.filter_append, List.filter_cons, List.filter_nil]
  split <;> simp

section
variable {P : Program} {w : World} {K : PySem.W.Frag} {mg : Str → Option Value} {base : Heap}
def spNeed : Sp := fun vs H Q _ => ∃ (n : Int) (t : Addr) (a b : Int), vs = [.int n, .ref t] ∧ H t = some (.tup [.int a, .int b]) ∧ Q (.bl (isTask n (.int a) && (isTask n (.int b) && !decide (a = b)))) H
theorem ok_is_need (T : Env K mg) : Ok P w K mg base CX0 dd_is_need "is_need" 4 ["many", "thing"] spNeed := by
  obtain ⟨fd_is_task, D_is_task, g_is_task, k_is_task, b_is_task, G_is_task⟩ := ok_is_task (P := P) (w := w) (base := base) T
  obtain ⟨fd, F⟩ := T.c.def_ 7 (d := dd_is_need) rfl
  refine ⟨fd, F, T.gl 7 _ rfl, F.kp, F.bindsN fun _ _ _ _ _ _ us hl => match us, hl with | [_, _], _ => rfl, ?_⟩
  refine F.ok sc_is_need (fun vs H Q E h => ?_) (fun cdv A outer s H vs Q E hr h => ?_)
  · obtain ⟨n, t, a, b, rfl, ht, q⟩ := h
    rfl
  · obtain ⟨n, t, a, b, rfl, ht, q⟩ := h
    refine ⟨_, PSs.nox (pss_cons (ps_if (PW.pt (pw_or (pt_not (pt_val (pe_callB call_isi (by rfl) (T.fr 32 _ rfl) (by decide +kernel) (pa_cons (pv 1) (pa_cons (pe_bltn (v := .ty "tuple") (by rfl) (T.fr 37 _ rfl) (by decide +kernel) rfl) pa_nil))))) (pw_or1 (pt_cmpR op_ne (pe_callB call_len_seq (by rfl) (T.fr 36 _ rfl) (by decide +kernel) (pa_cons (pv 1) pa_nil)) pe_int (nomark _))))) (pss_one (ps_ret pe_bl)) pss_nil)
      (pss_cons (ps_asg (pv 1) (pg_tup rfl (pgs_cons (pg_name (i := 2) sc_is_need.nd rfl (Or.inl rfl)) (pgs_cons (pg_name (i := 3) sc_is_need.nd rfl (Or.inl rfl)) pgs_nil))))
      (pss_one (ps_ret (pe_and (pe_call G_is_task (hr.mono (by decide)) (by rfl) g_is_task k_is_task b_is_task .nil pass0 (pa_cons (pv 0) (pa_cons (pv 2) pa_nil))) (pe_and (pe_call G_is_task (hr.mono (by decide)) (by rfl) g_is_task k_is_task b_is_task .nil pass0 (pa_cons (pv 0) (pa_cons (pv 3) pa_nil))) (pe_one (pe_cmpR op_ne (pv 2) (pv 3) (nomark _))))))))), ?_⟩
    walk_at "u"
    refine ⟨_, rfl, rIsi_of (b := true) (.tup ht) (by decide +kernel) ⟨_, rfl, ?_⟩⟩
    refine iteF ⟨_, rfl, t, _, rfl, .inr (SqT.of ht), rfl, _, rfl, iteF ?_⟩
    refine ⟨_, rfl, t, _, rfl, SqT.of ht, rfl, _, _, rfl, _, _, rfl, rfl, ?_⟩
    refine ⟨_, rfl, _, rfl, n, .int a, _, rfl, .int a, _, rfl, ifB (fun e => ?_) (fun e => ?_)⟩
    · rw [e] at q
      refine ⟨_, rfl, _, rfl, n, .int b, _, rfl, .int b, _, rfl, ifB (fun e2 => ?_) (fun e2 => ?_)⟩
      · rw [e2] at q
        refine ⟨_, rfl, _, rfl, rfl, ?_⟩
        have e3 : (!decide (V.int a = V.int b)) = !decide (a = b) := by
          by_cases h : a = b
          · rw [decide_eq_true h, decide_eq_true (by rw [h])]
          · rw [decide_eq_false h, decide_eq_false (fun z => h (V.int.inj z))]
        rw [e3]
        exact q
      · rw [e2] at q
        exact q
    · rw [e] at q
      exact q

def spFollow : Sp := fun vs H Q _ => ∃ (n : Nat) (N : Addr) (zs : List (Addr × Nat × Nat)), vs = [.int (n : Int), .ref N] ∧ NeedsAt H N zs ∧ (∀ z ∈ zs, z.2.1 < n ∧ z.2.2 < n) ∧ n ≤ 1000 ∧ zs.length ≤ 10000 ∧
  ∀ (q : Addr) (as : List Addr) (H' : Hp), H q = none → Same H H' → Follow H H' q as zs n → Q (.ref q) H'
theorem ok_followers_of (T : Env K mg) : Ok P w K mg base CX0 dd_followers_of "followers_of" 1 ["many", "needs"] spFollow := by
  obtain ⟨fd, F⟩ := T.c.def_ 9 (d := dd_followers_of) rfl
  refine ⟨fd, F, T.gl 9 _ rfl, F.kp, F.bindsN fun _ _ _ _ _ _ us hl => match us, hl with | [_, _], _ => rfl, ?_⟩
  refine F.ok sc_followers_of (fun vs H Q E h => ?_) (fun cdv A outer s H vs Q E hr h => ?_)
  · obtain ⟨n, N, zs, rfl, hN, hz, hn, hzl, q⟩ := h
    rfl
  · obtain ⟨n, N, zs, rfl, hN, hz, hn, hzl, q⟩ := h
    refine ⟨_, PSs.nox (pss_cons (ps_setLc (i := 2) (own := [("_", 5)]) (g := gName 5) (tt := tYes) (by rfl) sc_followers_of.nd rfl rfl (sw_true rfl rfl rfl (by decide +kernel)) (pi_range1 (by rfl) (T.fr 40 _ rfl) (pa_cons (pv 0) pa_nil)) (blkOk_by (own := [("_", 5)]) (N := N_followers_of) (sc := defScope s_followers_of) (by decide +kernel)) (fun _ _ _ _ _ => (pg_name (i := 5) sc_followers_of.nd rfl (by first | exact Or.inl rfl | exact Or.inr rfl))) (fun _ _ _ _ _ => pts_nil) (fun _ _ _ _ _ => (pe_lst pa_nil)))
      (pss_cons (ps_for PassesOwn.never rfl (pi_list (pv 1)) (pg_tup rfl (pgs_cons (pg_name (i := 3) sc_followers_of.nd rfl (Or.inl rfl)) (pgs_cons (pg_name (i := 4) sc_followers_of.nd rfl (Or.inl rfl)) pgs_nil))) (pss_one (ps_expr (pe_bm PySem.F.plainAttrs_list PySem.F.slot_list_append PySem.F.type_list_append mt_append (pe_ix ix_list (pv 2) (pv 3) (fun _ _ => rfl)) (pa_cons (pv 4) pa_nil)))))
      (pss_one (ps_ret (pv 2))))), ?_⟩
    walk_at "u"
    refine ⟨_, rfl, _, rfl, by omega, by omega, fun D nD => lc_range (lo := 0) (n := (n : Int).toNat) (fun i H' => ∃ as : List Addr, Same H H' ∧ H' D = some (.lst (as.map V.ref)) ∧ as.length = i ∧ as.Nodup ∧ ∀ a ∈ as, H a = none ∧ a ≠ D ∧ H' a = some (.lst []))
      ⟨[], same_upd nD, upd_same, rfl, List.nodup_nil, fun a ha => by cases ha⟩ (fun i H' hi hP => ?_) (fun H' hP => ?_)⟩
    · obtain ⟨as, sm, hD, hl, hnd, hv⟩ := hP
      refine ⟨rfl, ?_⟩
      walk_at "u"
      refine iteT ⟨(show 0 ≤ sizeLine by decide), fun q2 n2 => ?_⟩
      have hq2 : q2 ≠ D := fun e => by
        rw [e, hD] at n2
        cases n2
      refine ⟨as.map V.ref, by rw [upd_ne hq2.symm]; exact hD, by rw [List.length_map]; exact small_lt (by omega), as ++ [q2], ?_, ?_, by rw [List.length_append, hl]; rfl, ?_, fun a ha => ?_⟩
      · exact same_mut (sm.trans (same_upd n2)) nD
      · rw [upd_same, List.map_append]
        rfl
      · refine nd_snoc hnd fun h => ?_
        rw [(hv q2 h).2.2] at n2
        cases n2
      · rcases List.mem_append.mp ha with h | h
        · obtain ⟨h1, h2, h3⟩ := hv a h
          refine ⟨h1, h2, ?_⟩
          rw [upd_ne h2, upd_ne (ne_of_none h3 n2)]
          exact h3
        · have e := List.mem_singleton.mp h
          subst e
          refine ⟨sm.free n2, hq2, ?_⟩
          rw [upd_ne hq2, upd_same]
    obtain ⟨as, sm, hD, hl, hnd, hv⟩ := hP
    have hN' : NeedsAt H' N zs := hN.same sm
    refine ⟨_, rfl, N, rfl, ⟨_, SqL.of hN'.1⟩, for_list (K := K) (a := N) (xs := zs.map fun z => V.ref z.1) (fun k σ H2 => ∃ y3 y4, σ = [some (.int (n : Int)), some (.ref N), some (.ref D), y3, y4, none] ∧ Same H H2 ∧ Follow H H2 D as (zs.take k) n)
      ⟨none, none, rfl, sm, hD, by omega, hnd, fun i a h => ?_⟩ (fun k σ H2 _ hP => ?_) (fun k v σ H2 hv2 hP => ?_) (fun σ H2 hP => ?_)⟩
    · exact hv a (List.mem_of_getElem? h)
    · obtain ⟨y3, y4, _, s2, _⟩ := hP
      exact SqL.of (s2 _ _ hN.1)
    · obtain ⟨y3, y4, rfl, s2, F2⟩ := hP
      rw [List.getElem?_map] at hv2
      cases hk : zs[k]? with
      | none =>
        rw [hk] at hv2
        cases hv2
      | some z =>
        rw [hk] at hv2
        cases hv2
        have hzm := List.mem_of_getElem? hk
        have hT := s2 _ _ (hN.2 z hzm)
        have hlt := hz z hzm
        obtain ⟨a, ha⟩ : ∃ a, as[z.2.1]? = some a := ⟨_, List.getElem?_eq_getElem (by rw [F2.len]; omega)⟩
        obtain ⟨hn1, hn2, hn3⟩ := F2.at_ _ _ ha
        refine ⟨z.1, _, rfl, SqT.of hT, rfl, _, _, rfl, _, _, rfl, rfl, ?_⟩
        refine ⟨_, rfl, _, rfl, D, _, _, .ref a, rfl, rfl, SqL.of F2.top, at_of (j := z.2.1) rfl (rV_get ha), .inl ⟨rfl, _, .inl (.inl hn3)⟩, _, rfl, a, _, _, rfl, rfl, hn3, ?_, ?_⟩
        · rw [nV_len]
          exact small_lt (Nat.lt_of_le_of_lt (succ_len _ _) (by rw [List.length_take]; omega))
        · refine ⟨_, _, rfl, same_mut s2 hn1, ?_, F2.len, F2.nd, fun i c hc => ?_⟩
          · rw [upd_ne hn2.symm]
            exact F2.top
          · obtain ⟨g1, g2, g3⟩ := F2.at_ _ _ hc
            refine ⟨g1, g2, ?_⟩
            rw [List.take_add_one, hk]
            show _ = some (HO.lst (nV (succ (zs.take k ++ [z]) i)))
            rw [succ_snoc]
            by_cases e : z.2.1 = i
            · subst e
              rw [ha] at hc
              cases hc
              rw [upd_same, if_pos rfl, nV_app]
            · have hca : c ≠ a := fun z2 => by
                subst z2
                exact e (nd_ix F2.nd ha hc)
              rw [upd_ne hca, if_neg e]
              exact g3
    · obtain ⟨y3, y4, rfl, s2, F2⟩ := hP
      rw [List.length_map, List.take_length] at F2
      exact ⟨_, rfl, q D as H2 nD s2 F2⟩

def spRing : Sp := fun vs H Q _ => ∃ (n : Nat) (N : Addr) (zs : List (Addr × Nat × Nat)), vs = [.int (n : Int), .ref N] ∧ NeedsAt H N zs ∧ (∀ z ∈ zs, z.2.1 < n ∧ z.2.2 < n) ∧ n ≤ 1000 ∧ zs.length ≤ 10000 ∧
  ∀ (b : Bool) (H' : Hp), Same H H' → (b = false ↔ Acyc zs) → Q (.bl b) H'
theorem ok_has_ring (T : Env K mg) : Ok P w K mg base CX0 dd_has_ring "has_ring" 2 ["many", "needs"] spRing := by
  obtain ⟨fd_followers_of, D_followers_of, g_followers_of, k_followers_of, b_followers_of, G_followers_of⟩ := ok_followers_of (P := P) (w := w) (base := base) T
  obtain ⟨fd, F⟩ := T.c.def_ 10 (d := dd_has_ring) rfl
  refine ⟨fd, F, T.gl 10 _ rfl, F.kp, F.bindsN fun _ _ _ _ _ _ us hl => match us, hl with | [_, _], _ => rfl, ?_⟩
  refine F.ok sc_has_ring (fun vs H Q E h => ?_) (fun cdv A outer s H vs Q E hr h => ?_)
  · obtain ⟨n, N, zs, rfl, hN, hz, hn, hzl, q⟩ := h
    rfl
  · obtain ⟨n, N, zs, rfl, hN, hz, hn, hzl, q⟩ := h
    refine ⟨_, PSs.nox (pss_cons (ps_set (i := 2) sc_has_ring.nd rfl (Or.inl rfl) (pe_call G_followers_of (hr.mono (by decide)) (by rfl) g_followers_of k_followers_of b_followers_of .nil pass0 (pa_cons (pv 0) (pa_cons (pv 1) pa_nil))))
      (pss_cons (ps_set (i := 3) sc_has_ring.nd rfl (Or.inr rfl) (pe_op op_rep (pe_lst (pa_cons pe_int pa_nil)) (pv 0)))
      (pss_cons (ps_for PassesOwn.never rfl (pi_list (pv 1)) (pg_tup rfl (pgs_cons (pg_name (i := 4) sc_has_ring.nd rfl (Or.inl rfl)) (pgs_cons (pg_name (i := 5) sc_has_ring.nd rfl (Or.inl rfl)) pgs_nil))) (pss_one (ps_asg (pe_op op_add (pe_ix ix_list (pv 3) (pv 5) (fun _ _ => rfl)) pe_int) (pg_sub (pv 3) (pv 5) set_list))))
      (pss_cons (ps_setLc (i := 6) (own := [("t", 9)]) (g := gName 9) (by rfl) sc_has_ring.nd rfl rfl (sw_true rfl rfl rfl (by decide +kernel)) (pi_range1 (by rfl) (T.fr 40 _ rfl) (pa_cons (pv 0) pa_nil)) (blkOk_by (own := [("t", 9)]) (N := N_has_ring) (sc := defScope s_has_ring) (by decide +kernel)) (fun _ _ _ _ _ => (pg_name (i := 9) sc_has_ring.nd rfl (by first | exact Or.inl rfl | exact Or.inr rfl))) (fun _ _ _ _ _ => (pts_one (pt_cmpR op_eq (pe_ix (r := rIxL K) ix_list (pv 3) (pv 9) (fun _ _ => rfl)) pe_int (nomark _)))) (fun _ _ _ _ _ => (pv 9)))
      (pss_cons (ps_set (i := 7) sc_has_ring.nd rfl (Or.inl rfl) pe_int)
      (pss_cons (ps_while PassesOwn.never (pt_cmpR op_lt (pv 7) (pe_callB call_len_seq (by rfl) (T.fr 36 _ rfl) (by decide +kernel) (pa_cons (pv 6) pa_nil)) (nomark _)) (pss_cons (ps_set (i := 8) sc_has_ring.nd rfl (Or.inl rfl) (pe_ix ix_list (pv 6) (pv 7) (fun _ _ => rfl)))
      (pss_cons (ps_for PassesOwn.never rfl (pi_list (pe_ix ix_list (pv 2) (pv 8) (fun _ _ => rfl))) (pg_name (i := 5) sc_has_ring.nd rfl (Or.inl rfl)) (pss_cons (ps_asg (pe_op op_sub (pe_ix ix_list (pv 3) (pv 5) (fun _ _ => rfl)) pe_int) (pg_sub (pv 3) (pv 5) set_list))
      (pss_one (ps_if (pt_cmpR op_eq (pe_ix ix_list (pv 3) (pv 5) (fun _ _ => rfl)) pe_int (nomark _)) (pss_one (ps_expr (pe_bm PySem.F.plainAttrs_list PySem.F.slot_list_append PySem.F.type_list_append mt_append (pv 6) (pa_cons (pv 5) pa_nil)))) pss_nil))))
      (pss_one (ps_aug (i := 7) sc_has_ring.nd rfl (Or.inl rfl) pe_int ip_add)))))
      (pss_one (ps_ret (pe_cmpR op_lt (pe_callB call_len_seq (by rfl) (T.fr 36 _ rfl) (by decide +kernel) (pa_cons (pv 6) pa_nil)) (pv 0) (nomark _)))))))))), ?_⟩
    walk_at "u"
    refine ⟨_, rfl, _, rfl, n, N, zs, rfl, hN, hz, hn, hzl, fun fo as H1 nfo s1 F1 => ?_⟩
    -- waits = [0] * many
    refine ⟨(show 1 ≤ sizeLine by decide), fun w0 nw0 => ⟨_, rfl, w0, (n : Int), _, rfl, rfl, upd_same, by omega, by omega, by show 1 * _ ≤ _; exact small_sz (by omega), fun W nW => ?_⟩⟩
    have s12 : Same H1 (upd (upd H1 w0 (.lst [.int 0])) W (.lst (List.replicate (n : Int).toNat [V.int 0]).flatten)) := (same_upd nw0).trans (same_upd nW)
    have nW1 : H1 W = none := (same_upd nw0).free nW
    generalize hH2 : upd (upd H1 w0 (.lst [.int 0])) W (.lst (List.replicate (n : Int).toNat [V.int 0]).flatten) = H2 at s12
    have hW2 : H2 W = some (.lst (iV (List.replicate n 0))) := by
      rw [← hH2, upd_same, Int.toNat_natCast, rep_flat]
    have s2 : Same H H2 := s1.trans s12
    have F2 := F1.same s12
    have nW0 : H W = none := s1.free nW1
    have foW : fo ≠ W := ne_of_none F1.top nW1
    have asW : ∀ {i : Nat} {a : Addr}, as[i]? = some a → a ≠ W := fun h => ne_of_none (F1.at_ _ _ h).2.2 nW1
    -- for _, b in needs
    refine ⟨_, rfl, N, rfl, ⟨_, SqL.of (s2 _ _ hN.1)⟩, for_list (K := K) (a := N) (xs := zs.map fun z => V.ref z.1) (fun k σ H' => ∃ ws y4 y5, σ = [some (.int (n : Int)), some (.ref N), some (.ref fo), some (.ref W), y4, y5, none, none, none, none] ∧ Same H H' ∧ Follow H H' fo as zs n ∧ H' W = some (.lst (iV ws)) ∧ ByF ws n (fun b => (waitN (zs.take k) [] b : Int)))
      ⟨_, none, none, rfl, s2, F2, hW2, (byF_rep n).congr fun c hc => rfl⟩ (fun k σ H' _ hP => ?_) (fun k v σ H' hv hP => ?_) (fun σ H' hP => ?_)⟩
    · obtain ⟨ws, y4, y5, _, sm, _⟩ := hP
      exact SqL.of (sm _ _ hN.1)
    · obtain ⟨ws, y4, y5, rfl, sm, F', hW, hB⟩ := hP
      rw [List.getElem?_map] at hv
      cases hk : zs[k]? with
      | none =>
        rw [hk] at hv
        cases hv
      | some z =>
        rw [hk] at hv
        cases hv
        have hzm := List.mem_of_getElem? hk
        have hT := sm _ _ (hN.2 z hzm)
        have hlt := (hz z hzm).2
        refine ⟨z.1, _, rfl, SqT.of hT, rfl, _, _, rfl, _, _, rfl, rfl, ?_⟩
        refine ⟨_, rfl, _, rfl, W, _, _, _, rfl, rfl, SqL.of hW, atI_iV (j := z.2.2) rfl (hB.at_ _ hlt), _, _, rfl, rfl, _, rfl, _, rfl, W, _, _, z.2.2, rfl, rfl, hW, ixN_at rfl (by rw [iV_len, hB.len]; exact hlt), ?_⟩
        refine ⟨ws.set z.2.2 _, _, _, rfl, same_mut sm nW0, ?_, by rw [upd_same, iV_set], hB.set hlt ?_ fun c hc => ?_⟩
        · refine ⟨by rw [upd_ne foW]; exact F'.top, F'.len, F'.nd, fun i a h => ?_⟩
          obtain ⟨g1, g2, g3⟩ := F'.at_ i a h
          exact ⟨g1, g2, by rw [upd_ne (asW h)]; exact g3⟩
        · show ((waitN (zs.take (k + 1)) [] z.2.2 : Nat) : Int) = _
          rw [waitN_take zs z.2.2 k z hk, if_pos rfl]
          rfl
        · show ((waitN (zs.take (k + 1)) [] c : Nat) : Int) = _
          rw [waitN_take zs c k z hk, if_neg fun e => hc e.symm]
          rfl
    obtain ⟨ws, y4, y5, rfl, s3, F3, hW3, hB3⟩ := hP
    rw [List.length_map, List.take_length] at hB3
    -- cleared
    refine ⟨_, rfl, _, rfl, by omega, by omega, fun C nC => lc_range (lo := 0) (n := (n : Int).toNat) (fun i H2 => Same H' H2 ∧ H2 C = some (.lst (nV ((List.range i).filter fun t => waitN zs [] t == 0)))) ⟨same_upd nC, upd_same⟩ (fun i H2 hi hP => ?_) (fun H2 hP => ?_)⟩
    · obtain ⟨sm, hC⟩ := hP
      refine ⟨rfl, ?_⟩
      walk_at "u"
      have hi2 : i < n := by omega
      have e0 : (0 : Int) + (i : Int) = (i : Int) := Int.zero_add _
      refine ⟨_, rfl, _, rfl, W, _, _, _, rfl, rfl, SqL.of (sm _ _ hW3), atI_iV (j := i) e0 (hB3.at_ _ hi2), rfl, _, rfl, ifB (fun e => ?_) (fun e => ?_)⟩
      · have hw : waitN zs [] i = 0 := Int.ofNat.inj (V.int.inj (of_decide_eq_true e))
        refine ⟨_, rfl, _, hC, ?_, same_mut sm nC, ?_⟩
        · rw [nV_len]
          exact small_lt (Nat.lt_of_le_of_lt (List.length_filter_le ..) (by rw [List.length_range]; omega))
        · rw [upd_same, filt_snoc, if_pos (beq_iff_eq.mpr hw), e0, nV_app]
      · have hw : ¬ waitN zs [] i = 0 := fun h => by
          have := of_decide_eq_false e
          exact this (by rw [h]; rfl)
        refine ⟨sm, ?_⟩
        rw [filt_snoc, if_neg fun h => hw (beq_iff_eq.mp h)]
        exact hC
    obtain ⟨s34, hC4⟩ := hP
    rw [Int.toNat_natCast] at hC4
    have s4 : Same H H2 := s3.trans s34
    have F4 := F3.same s34
    have hW4 := s34 _ _ hW3
    have nC0 : H C = none := s3.free nC
    have foC : fo ≠ C := ne_of_none F3.top nC
    have WC : W ≠ C := ne_of_none hW3 nC
    have asC : ∀ {i : Nat} {a : Addr}, as[i]? = some a → a ≠ C := fun h => ne_of_none (F3.at_ _ _ h).2.2 nC
    -- while
    refine ⟨fun m σ H' => ∃ ws cl at_ y4 y5 y8, σ = [some (.int (n : Int)), some (.ref N), some (.ref fo), some (.ref W), y4, y5, some (.ref C), some (.int (at_ : Nat)), y8, none] ∧ Same H H' ∧ Follow H H' fo as zs n ∧ H' W = some (.lst (iV ws)) ∧ ByF ws n (fun b => (waitN zs (cl.take at_) b : Int)) ∧ H' C = some (.lst (nV cl)) ∧ Clr zs n cl at_ ∧ (∀ b, b < n → (b ∈ cl ↔ waitN zs (cl.take at_) b = 0)) ∧ m = n - at_,
      ⟨_, ws, _, 0, _, _, none, rfl, s4, F4, hW4, hB3, hC4, ⟨List.nodup_range.filter _, fun t ht => List.mem_range.mp (List.mem_filter.mp ht).1, Nat.zero_le _, fun z hzm i hi => ?_⟩, fun b hb => ?_, rfl⟩, fun m σ H5 hP => ?_⟩
    · have h1 := (List.mem_filter.mp (List.mem_of_getElem? hi)).2
      have h2 := waitN_zero.mp (beq_iff_eq.mp h1) z hzm rfl
      cases h2
    · rw [List.mem_filter, List.mem_range, beq_iff_eq]
      exact ⟨fun h => h.2, fun h => ⟨hb, h⟩⟩
    obtain ⟨ws, cl, at_, y4, y5, y8, rfl, s5, F5, hW5, hB5, hC5, hcl, hmem, rfl⟩ := hP
    refine ⟨_, rfl, _, rfl, C, _, rfl, .inl (SqL.of hC5), _, _, rfl, rfl, _, rfl, ifB (fun e => ?_) (fun e => ?_)⟩
    · have hat : at_ < cl.length := by
        have h1 := of_decide_eq_true e
        rw [nV_len] at h1
        omega
      have hcln : cl.length ≤ n := by
        have := nat_nodup_len cl (List.range n) hcl.nd fun t ht => List.mem_range.mpr (hcl.lt t ht)
        rw [List.length_range] at this
        exact this
      obtain ⟨a, ha⟩ : ∃ a, cl[at_]? = some a := ⟨_, List.getElem?_eq_getElem hat⟩
      have han : a < n := hcl.lt a (List.mem_of_getElem? ha)
      have hnot : ¬ a ∈ cl.take at_ := fun h => by
        obtain ⟨j, hj⟩ := List.getElem?_of_mem h
        rw [List.getElem?_take] at hj
        split at hj
        · have := ix_of_nodup hcl.nd hj ha
          omega
        · cases hj
      obtain ⟨fa, hfa⟩ : ∃ fa, as[a]? = some fa := ⟨_, List.getElem?_eq_getElem (by rw [F5.len]; exact han)⟩
      have hfa5 := (F5.at_ _ _ hfa).2.2
      refine ⟨fun σ' H' => ∃ m', m' < n - at_ ∧ _, fun _ _ z => z, ?_⟩
      refine ⟨_, rfl, _, rfl, C, _, _, _, rfl, rfl, SqL.of hC5, atI_nV (j := at_) rfl ha, ?_⟩
      refine ⟨_, rfl, _, rfl, fo, _, _, .ref fa, rfl, rfl, SqL.of F5.top, at_of (j := a) rfl (rV_get hfa), fa, rfl, ⟨_, SqL.of hfa5⟩, for_list (K := K) (a := fa) (xs := nV (succ zs a)) (fun k σ H' => ∃ ws cl2 y5, σ = [some (.int (n : Int)), some (.ref N), some (.ref fo), some (.ref W), y4, y5, some (.ref C), some (.int (at_ : Nat)), some (.int (a : Int)), none] ∧ Same H H' ∧ Follow H H' fo as zs n ∧ H' W = some (.lst (iV ws)) ∧ ByF ws n (fun b => (waitN zs (cl.take at_) b : Int) - (((succ zs a).take k).count b : Int)) ∧ H' C = some (.lst (nV (cl ++ cl2))) ∧ Clr zs n (cl ++ cl2) at_ ∧ (∀ b, b < n → (b ∈ cl ++ cl2 ↔ (waitN zs (cl.take at_) b : Int) - (((succ zs a).take k).count b : Int) = 0)))
        ⟨ws, [], y5, rfl, s5, F5, hW5, hB5.congr fun c _ => by simp, by rw [List.append_nil]; exact hC5, by rw [List.append_nil]; exact hcl, fun b hb => by
          rw [List.append_nil, hmem b hb]
          simp⟩ (fun k σ H' _ hP => ?_) (fun k v σ H' hv hP => ?_) (fun σ H' hP => ?_)⟩
      · obtain ⟨ws, cl2, y5, _, _, F', _⟩ := hP
        exact SqL.of (F'.at_ _ _ hfa).2.2
      · obtain ⟨ws, cl2, y5, rfl, s6, F6, hW6, hB6, hC6, hcl6, hmem6⟩ := hP
        obtain ⟨b, hb, rfl⟩ := nV_of hv
        obtain ⟨zb, hzb, e1, e2⟩ := mem_succ.mp (List.mem_of_getElem? hb)
        have hbn : b < n := e2 ▸ (hz zb hzb).2
        have hcnt := waitN_snoc zs (cl.take at_) a b hnot
        have hc1 := cnt_take hb b
        rw [if_pos rfl] at hc1
        have hc2 := cnt_le (succ zs a) (k + 1) b
        have hnin : ¬ b ∈ cl ++ cl2 := fun h => by
          have := (hmem6 b hbn).mp h
          omega
        have F7 : Follow H (upd H' W (.lst ((iV ws).set b (.int ((waitN zs (cl.take at_) b : Int) - (((succ zs a).take k).count b : Int) - 1))))) fo as zs n := ⟨by rw [upd_ne foW]; exact F6.top, F6.len, F6.nd, fun i c h => by
          obtain ⟨g1, g2, g3⟩ := F6.at_ i c h
          exact ⟨g1, g2, by rw [upd_ne (asW h)]; exact g3⟩⟩
        have hW7 : (upd H' W (.lst ((iV ws).set b (.int ((waitN zs (cl.take at_) b : Int) - (((succ zs a).take k).count b : Int) - 1))))) W = some (.lst (iV (ws.set b ((waitN zs (cl.take at_) b : Int) - (((succ zs a).take k).count b : Int) - 1)))) := by
          rw [upd_same, iV_set]
        have hB7 : ByF (ws.set b ((waitN zs (cl.take at_) b : Int) - (((succ zs a).take k).count b : Int) - 1)) n (fun b => (waitN zs (cl.take at_) b : Int) - (((succ zs a).take (k + 1)).count b : Int)) := hB6.set hbn (by
            show (_ : Int) - _ = _
            rw [hc1]
            omega) fun c hc => by
          show (_ : Int) - _ = _ - _
          rw [cnt_take hb c, if_neg hc, Int.add_zero]
        refine ⟨_, rfl, _, rfl, W, _, _, _, rfl, rfl, SqL.of hW6, atI_iV (j := b) rfl (hB6.at_ b hbn), _, _, rfl, rfl, _, rfl, _, rfl, W, _, _, b, rfl, rfl, hW6, ixN_at rfl (by rw [iV_len, hB6.len]; exact hbn), ?_⟩
        refine ⟨_, rfl, _, rfl, W, _, _, _, rfl, rfl, SqL.of hW7, atI_iV (j := b) rfl (hB7.at_ b hbn), rfl, _, rfl, ifB (fun e => ?_) (fun e => ?_)⟩
        · have ez : (waitN zs (cl.take at_) b : Int) - (((succ zs a).take (k + 1)).count b : Int) = 0 := V.int.inj (of_decide_eq_true e)
          have hC7 : (upd H' W (.lst ((iV ws).set b (.int ((waitN zs (cl.take at_) b : Int) - (((succ zs a).take k).count b : Int) - 1))))) C = some (.lst (nV (cl ++ cl2))) := by
            rw [upd_ne WC.symm]
            exact hC6
          have hl6 : (cl ++ cl2).length ≤ n := by
            have := nat_nodup_len (cl ++ cl2) (List.range n) hcl6.nd fun t ht => List.mem_range.mpr (hcl6.lt t ht)
            rw [List.length_range] at this
            exact this
          refine ⟨_, rfl, .inl ⟨rfl, _, .inl (.inl hC7)⟩, _, rfl, C, _, _, rfl, rfl, hC7, by rw [nV_len]; exact small_lt (by omega), ?_⟩
          refine ⟨_, cl2 ++ [b], _, rfl, same_mut (same_mut s6 nW0) nC0, ?_, by rw [upd_ne WC]; exact hW7, hB7, by rw [upd_same, nV_app, List.append_assoc], ?_, fun c hc => ?_⟩
          · exact ⟨by rw [upd_ne foC]; exact F7.top, F7.len, F7.nd, fun i c h => by
              obtain ⟨g1, g2, g3⟩ := F7.at_ i c h
              exact ⟨g1, g2, by rw [upd_ne (asC h)]; exact g3⟩⟩
          · rw [← List.append_assoc]
            refine ⟨nd_snoc hcl6.nd hnin, fun t ht => ?_, by rw [List.length_append]; exact Nat.le_trans hcl6.up (Nat.le_add_right _ _), fun z hzm i hi => ?_⟩
            · rcases List.mem_append.mp ht with h | h
              · exact hcl6.lt t h
              · rw [List.mem_singleton.mp h]
                exact hbn
            · by_cases hil : i < (cl ++ cl2).length
              · rw [List.getElem?_append_left hil] at hi
                obtain ⟨j, hj, hj2⟩ := hcl6.ord z hzm i hi
                exact ⟨j, hj, by rw [List.getElem?_append_left (by omega)]; exact hj2⟩
              · rw [List.getElem?_append_right (by omega)] at hi
                have hb2 : z.2.2 = b := by
                  cases hx : i - (cl ++ cl2).length with
                  | zero =>
                    rw [hx] at hi
                    exact (Option.some.inj hi).symm
                  | succ m =>
                    rw [hx] at hi
                    simp at hi
                have hz0 : waitN zs (cl.take at_ ++ [a]) b = 0 := by omega
                have hz1 := waitN_zero.mp hz0 z hzm hb2
                have ea : cl.take at_ ++ [a] = cl.take (at_ + 1) := by
                  rw [List.take_add_one, ha]
                  rfl
                rw [ea] at hz1
                obtain ⟨j, hj⟩ := List.getElem?_of_mem hz1
                rw [List.getElem?_take] at hj
                split at hj
                · have hj1 : j < cl.length := by omega
                  have hlen : cl.length ≤ (cl ++ cl2).length := by rw [List.length_append]; exact Nat.le_add_right _ _
                  exact ⟨j, by omega, by rw [List.append_assoc, List.getElem?_append_left hj1]; exact hj⟩
                · cases hj
          · rw [← List.append_assoc, List.mem_append, List.mem_singleton]
            by_cases ec : c = b
            · subst ec
              exact ⟨fun _ => ez, fun _ => .inr rfl⟩
            · rw [cnt_take hb c, if_neg ec, Int.add_zero]
              exact ⟨fun h => (hmem6 c hc).mp (h.resolve_right ec), fun h => .inl ((hmem6 c hc).mpr h)⟩
        · have ez : ¬ (waitN zs (cl.take at_) b : Int) - (((succ zs a).take (k + 1)).count b : Int) = 0 := fun h => of_decide_eq_false e (congrArg V.int h)
          refine ⟨_, cl2, _, rfl, same_mut s6 nW0, F7, hW7, hB7, by rw [upd_ne WC.symm]; exact hC6, hcl6, fun c hc => ?_⟩
          by_cases ec : c = b
          · subst ec
            exact ⟨fun h => absurd h hnin, fun h => absurd h ez⟩
          · rw [cnt_take hb c, if_neg ec, Int.add_zero]
            exact hmem6 c hc
      · obtain ⟨ws, cl2, y5, rfl, s6, F6, hW6, hB6, hC6, hcl6, hmem6⟩ := hP
        rw [nV_len, List.take_length] at hB6 hmem6
        have ea : (cl ++ cl2).take (at_ + 1) = cl.take at_ ++ [a] := by
          rw [List.take_append_of_le_length (by omega), List.take_add_one, ha]
          rfl
        have hw : ∀ b, (waitN zs ((cl ++ cl2).take (at_ + 1)) b : Int) = (waitN zs (cl.take at_) b : Int) - ((succ zs a).count b : Int) := fun b => by
          have := waitN_snoc zs (cl.take at_) a b hnot
          rw [ea]
          omega
        refine ⟨_, rfl, _, _, rfl, rfl, n - (at_ + 1), by omega, ws, cl ++ cl2, at_ + 1, _, _, _, rfl, s6, F6, hW6, hB6.congr fun c _ => hw c, hC6, ⟨hcl6.nd, hcl6.lt, by rw [List.length_append]; omega, hcl6.ord⟩, fun b hb => ?_, rfl⟩
        rw [hmem6 b hb, ← hw b]
        omega
    · have hat : at_ = cl.length := by
        have h1 := of_decide_eq_false e
        rw [nV_len] at h1
        have := hcl.up
        omega
      subst hat
      rw [List.take_length] at hmem
      refine ⟨_, rfl, C, _, rfl, .inl (SqL.of hC5), _, rfl, _, _, rfl, rfl, ?_⟩
      rw [nV_len]
      exact q _ H5 s5 (clr_end hcl hz hmem)

theorem isTask_nat {n t : Nat} (h : t < n) : isTask (n : Int) (.int (t : Int)) = true := by
  show (decide ((0 : Int) ≤ (t : Int)) && decide ((t : Int) < (n : Int))) = true
  rw [decide_eq_true (by omega : (0 : Int) ≤ (t : Int)), decide_eq_true (by omega : (t : Int) < (n : Int))]
  rfl
theorem all_rep (n : Nat) : (List.replicate n true).all id = true := by
  rw [List.all_eq_true]
  intro x hx
  exact (List.eq_of_mem_replicate hx)
theorem bl_rep (n : Nat) : (List.replicate n true).map V.bl ++ [V.bl true] = (List.replicate (n + 1) true).map V.bl := by
  rw [List.replicate_succ', List.map_append]
  rfl
theorem pr2_nodup : ∀ {zs : List (Addr × Nat × Nat)}, (zs.map (·.2)).Nodup → (zs.map fun z => (pr2 z).2).Nodup
  | [], _ => List.nodup_nil
  | z :: r, h => by
    rw [List.map_cons] at h
    obtain ⟨h1, h2⟩ := List.nodup_cons.mp h
    rw [List.map_cons]
    refine List.nodup_cons.mpr ⟨fun hm => h1 ?_, pr2_nodup h2⟩
    obtain ⟨y, hy, e⟩ := List.mem_map.mp hm
    refine List.mem_map.mpr ⟨y, hy, ?_⟩
    have e1 : ([(y.2.1 : Int), (y.2.2 : Int)] : List Int) = [(z.2.1 : Int), (z.2.2 : Int)] := e
    injection e1 with a1 a2
    injection a2 with a2 _
    exact Prod.ext (Int.ofNat.inj a1) (Int.ofNat.inj a2)

def spAreNeeds : Sp := fun vs H Q _ => ∃ (n : Nat) (N : Addr) (zs : List (Addr × Nat × Nat)), vs = [.int (n : Int), .ref N] ∧ NeedsAt H N zs ∧ (∀ z ∈ zs, z.2.1 < n ∧ z.2.2 < n) ∧ n ≤ 1000 ∧ zs.length < 64 ∧ (zs.map (·.2)).Nodup ∧ Acyc zs ∧
  ∀ (H' : Hp), Same H H' → Q (.bl true) H'
theorem ok_are_needs (T : Env K mg) : Ok P w K mg base CX0 dd_are_needs "are_needs" 5 ["many", "things"] spAreNeeds := by
  obtain ⟨fd_has_ring, D_has_ring, g_has_ring, k_has_ring, b_has_ring, G_has_ring⟩ := ok_has_ring (P := P) (w := w) (base := base) T
  obtain ⟨fd_is_need, D_is_need, g_is_need, k_is_need, b_is_need, G_is_need⟩ := ok_is_need (P := P) (w := w) (base := base) T
  obtain ⟨fd, F⟩ := T.c.def_ 8 (d := dd_are_needs) rfl
  refine ⟨fd, F, T.gl 8 _ rfl, F.kp, F.bindsN fun _ _ _ _ _ _ us hl => match us, hl with | [_, _], _ => rfl, ?_⟩
  refine F.ok sc_are_needs (fun vs H Q E h => ?_) (fun cdv A outer s H vs Q E hr h => ?_)
  · obtain ⟨n, N, zs, rfl, hN, hz, hn, hzl, hnd, hac, q⟩ := h
    rfl
  · obtain ⟨n, N, zs, rfl, hN, hz, hn, hzl, hnd, hac, q⟩ := h
    refine ⟨_, PSs.nox (pss_cons (ps_if (pt_not (pt_val (pe_callB (cr_all rfl) (by rfl) (T.fr 35 _ rfl) (by decide +kernel) (pa_cons (pe_lc (own := [("thing", 2)]) (g := gName 2) (tt := tYes) (by rfl) sc_are_needs.nd (pi_list (pv 1)) (blkOk_by (own := [("thing", 2)]) (N := N_are_needs) (sc := defScope s_are_needs) (by decide +kernel)) (fun _ _ _ _ _ => (pg_name (i := 2) sc_are_needs.nd rfl (by first | exact Or.inl rfl | exact Or.inr rfl))) (fun _ _ _ _ _ => pts_nil) (fun _ _ _ _ _ => (pe_call G_is_need (hr.mono (by decide)) (by rfl) g_is_need k_is_need b_is_need .nil pass0 (pa_cons (pv 0) (pa_cons (pv 2) pa_nil))))) pa_nil)))) (pss_one (ps_ret pe_bl)) pss_nil)
      (pss_one (ps_ret (pe_and (pe_cmpR op_eq (pe_callB call_len_setT (by rfl) (T.fr 36 _ rfl) (by decide +kernel) (pa_cons (pe_callTy (cr_setOfT rfl hr.units) (by rfl) (T.fr 39 _ rfl) (by decide +kernel) (pa_cons (pv 1) pa_nil)) pa_nil)) (pe_callB call_len_seq (by rfl) (T.fr 36 _ rfl) (by decide +kernel) (pa_cons (pv 1) pa_nil)) (nomark _)) (pe_one (pe_not (pe_call G_has_ring (hr.mono (by decide)) (by rfl) g_has_ring k_has_ring b_has_ring .nil pass0 (pa_cons (pv 0) (pa_cons (pv 1) pa_nil))))))))), ?_⟩
    walk_at "u"
    have hne : ∀ z ∈ zs, z.2.1 ≠ z.2.2 := fun z hzm e => by
      obtain ⟨rk, hrk⟩ := hac
      have := hrk z hzm
      rw [e] at this
      omega
    refine ⟨_, rfl, N, rfl, ⟨_, SqL.of hN.1⟩, fun D nD => lc_list (K := K) (a := N) (xs := zs.map fun z => V.ref z.1) (fun i H' => Same H H' ∧ H' D = some (.lst ((List.replicate i true).map V.bl))) ⟨same_upd nD, upd_same⟩ (fun i H' _ hP => SqL.of (hP.1 _ _ hN.1)) (fun i v H' hv hP => ?_) (fun H' hP => ?_)⟩
    · obtain ⟨sm, hD⟩ := hP
      rw [List.getElem?_map] at hv
      cases hk : zs[i]? with
      | none =>
        rw [hk] at hv
        cases hv
      | some z =>
        rw [hk] at hv
        cases hv
        have hzm := List.mem_of_getElem? hk
        have hlt := hz z hzm
        refine ⟨rfl, ?_⟩
        walk_at "u"
        refine iteT ⟨_, rfl, _, rfl, (n : Int), z.1, (z.2.1 : Int), (z.2.2 : Int), rfl, sm _ _ (hN.2 z hzm), _, hD, ?_, same_mut sm nD, ?_⟩
        · rw [List.length_map, List.length_replicate]
          have := (List.getElem?_eq_some_iff.mp hk).1
          exact small_lt (by omega)
        · have e1 := isTask_nat hlt.1
          have e2 := isTask_nat hlt.2
          have e3 : decide ((z.2.1 : Int) = (z.2.2 : Int)) = false := decide_eq_false fun e => hne z hzm (Int.ofNat.inj e)
          rw [e1, e2, e3, upd_same, ← bl_rep]
          rfl
    obtain ⟨sm, hD⟩ := hP
    refine ⟨D, _, rfl, SqL.of hD, _, rfl, ?_⟩
    rw [all_rep]
    refine iteF ?_
    have hN1 := hN.same sm
    refine ⟨_, rfl, N, zs.map pr2, rfl, SqL.of ?_, fun p hp => ?_, by rw [List.length_map]; exact hzl, fun a L na hL1 hL2 => ?_⟩
    · rw [List.map_map]
      exact hN1.1
    · obtain ⟨z, hzm, rfl⟩ := List.mem_map.mp hp
      exact SqT.of (hN1.2 z hzm)
    have sm2 : Same H (upd H' a (SetTO P w a L)) := sm.trans (same_upd na)
    have hN2 := hN.same sm2
    refine ⟨a, L, rfl, upd_same, fun p hp => ?_, fun hLnd hL64 => ?_⟩
    · obtain ⟨z, hzm, rfl⟩ := List.mem_map.mp (hL1 p hp)
      exact SqT.of (hN2.2 z hzm)
    have hlen : L.length = zs.length := by
      have h1 := nodup_perm_len (a := L.map (·.2)) (b := zs.map fun z => (pr2 z).2) hLnd (pr2_nodup hnd) (fun x hx => by
        obtain ⟨p, hp, rfl⟩ := List.mem_map.mp hx
        obtain ⟨z, hzm, rfl⟩ := List.mem_map.mp (hL1 p hp)
        exact List.mem_map.mpr ⟨z, hzm, rfl⟩) (fun x hx => by
        obtain ⟨z, hzm, rfl⟩ := List.mem_map.mp hx
        exact hL2 (pr2 z) (List.mem_map.mpr ⟨z, hzm, rfl⟩))
      rw [List.length_map, List.length_map] at h1
      exact h1
    refine ⟨_, rfl, N, _, rfl, .inl (SqL.of hN2.1), rfl, ?_⟩
    rw [List.length_map, hlen]
    refine ⟨_, rfl, ?_⟩
    rw [decide_eq_true rfl]
    refine iteT ⟨_, rfl, _, rfl, n, N, zs, rfl, hN2, hz, hn, by omega, fun b H3 s3 hb => ⟨b, rfl, ?_⟩⟩
    rw [hb.mpr hac]
    exact q H3 (sm2.trans s3)

end
/-! sums of rooms -/
def roomSum (rs : List Int) (s : Int) : Nat → Int
  | 0 => 0
  | k + 1 => roomSum rs s k + roomAt rs (s + (k : Int))
theorem roomSum_eq (rs : List Int) (s : Nat) : ∀ k : Nat, roomSum rs ((s : Int) + 1) k = ((rs.drop s).take k).sum + 2 * ((k : Int) - (min k (rs.length - s) : Nat))
  | 0 => by simp [roomSum]
  | k + 1 => by
    rw [roomSum, roomSum_eq rs s k]
    by_cases h : s + k < rs.length
    · have e1 : roomAt rs ((s : Int) + 1 + (k : Int)) = rs[s + k] := by
        have h2 := roomAt_in (rs := rs) (h := (s : Int) + 1 + (k : Int)) (by omega) (by omega)
        have e2 : ((s : Int) + 1 + (k : Int) - 1).toNat = s + k := by omega
        rw [e2, List.getElem?_eq_getElem h] at h2
        exact (Option.some.inj h2).symm
      have e3 : (rs.drop s)[k]? = some rs[s + k] := by
        rw [List.getElem?_drop, List.getElem?_eq_getElem h]
      rw [e1, List.take_add_one, e3, List.sum_append]
      have e4 : min (k + 1) (rs.length - s) = k + 1 := by omega
      have e5 : min k (rs.length - s) = k := by omega
      rw [e4, e5]
      simp
      all_goals omega
    · rw [roomAt_out (by omega)]
      have e3 : (rs.drop s)[k]? = none := List.getElem?_eq_none (by rw [List.length_drop]; omega)
      rw [List.take_add_one, e3]
      have e4 : min (k + 1) (rs.length - s) = rs.length - s := by omega
      have e5 : min k (rs.length - s) = rs.length - s := by omega
      rw [e4, e5]
      simp
      all_goals omega
/-- room(job, s, e) -/
def roomOf (rs : List Int) (s e : Int) : Int := roomSum rs s (e + 1 - s).toNat
theorem cut_sum {rs : List Int} {s e : Int} (h1 : 1 ≤ s) (h2 : s ≤ e) : cutV (iV rs) (some (s - 1)) (some e) = iV ((rs.drop (s - 1).toNat).take (e + 1 - s).toNat) := by
  obtain ⟨a, rfl⟩ : ∃ a : Nat, s = (a : Int) + 1 := ⟨(s - 1).toNat, by omega⟩
  obtain ⟨b, rfl⟩ : ∃ b : Nat, e = (b : Int) := ⟨e.toNat, by omega⟩
  have e1 : (a : Int) + 1 - 1 = (a : Int) := by omega
  have e2 : ((b : Int) + 1 - ((a : Int) + 1)).toNat = b - a := by omega
  rw [e1, e2, Int.toNat_natCast]
  unfold cutV
  rw [HT.sIx_nat, HT.sIx_nat, iV_len]
  unfold iV
  rw [← List.map_drop, ← List.map_take]
  congr 1
  by_cases h : a ≤ rs.length
  · rw [Nat.min_eq_left h]
    by_cases h3 : b ≤ rs.length
    · rw [Nat.min_eq_left h3]
    · rw [Nat.min_eq_right (by omega), List.take_of_length_le (by rw [List.length_drop]; omega), List.take_of_length_le (by rw [List.length_drop]; omega)]
  · rw [Nat.min_eq_right (by omega : rs.length ≤ a), List.drop_eq_nil_of_le (Nat.le_refl _), List.drop_eq_nil_of_le (by omega), List.take_nil, List.take_nil]
theorem room_val {rs : List Int} {s e : Int} (h1 : 1 ≤ s) (h2 : s ≤ e) : ((rs.drop (s - 1).toNat).take (e + 1 - s).toNat).sum + 2 * (if e - (if (rs.length : Int) > s - 1 then (rs.length : Int) else s - 1) > 0 then e - (if (rs.length : Int) > s - 1 then (rs.length : Int) else s - 1) else 0) = roomOf rs s e := by
  obtain ⟨a, rfl⟩ : ∃ a : Nat, s = (a : Int) + 1 := ⟨(s - 1).toNat, by omega⟩
  unfold roomOf
  rw [roomSum_eq]
  have e1 : ((a : Int) + 1 - 1).toNat = a := by omega
  rw [e1]
  congr 1
  congr 1
  split <;> split <;> omega
theorem roomOf_none {rs : List Int} {s e : Int} (h : e < s) : roomOf rs s e = 0 := by
  unfold roomOf
  rw [show (e + 1 - s).toNat = 0 by omega]
  rfl
/-! reaching -/
inductive Reach (zs : List (Addr × Nat × Nat)) (a : Nat) : Nat → Prop where
  | one {z} (h : z ∈ zs) (e : z.2.1 = a) : Reach zs a z.2.2
  | step {c : Nat} {z} (r : Reach zs a c) (h : z ∈ zs) (e : z.2.1 = c) : Reach zs a z.2.2
/-- all that is found, closed, is all that is reached -/
theorem reach_all {zs : List (Addr × Nat × Nat)} {a : Nat} {fk : List Nat} (h1 : ∀ b ∈ succ zs a, b ∈ fk) (h2 : ∀ c ∈ fk, ∀ b ∈ succ zs c, b ∈ fk) : ∀ {b : Nat}, Reach zs a b → b ∈ fk := by
  intro b r
  induction r with
  | one h e => exact h1 _ (mem_succ.mpr ⟨_, h, e, rfl⟩)
  | step r h e ih => exact h2 _ ih _ (mem_succ.mpr ⟨_, h, e, rfl⟩)
/-! a dict of True -/
def tK (fk : List Nat) : List (Key × V) := fk.map fun (b : Nat) => (Sum.inl (b : Int), V.bl true)
theorem valV_tK (fk : List Nat) (b : Nat) : (valV (tK fk) (Sum.inl (b : Int))).isSome = decide (b ∈ fk) := by
  rw [← valV_any, Bool.eq_iff_iff, List.any_eq_true, decide_eq_true_iff]
  constructor
  · rintro ⟨p, hp, e⟩
    obtain ⟨c, hc, rfl⟩ := List.mem_map.mp hp
    have e2 : (Sum.inl (c : Int) : Key) = Sum.inl (b : Int) := of_decide_eq_true e
    have e3 : (c : Int) = (b : Int) := Sum.inl.inj e2
    rw [← Int.ofNat.inj e3]
    exact hc
  · intro h
    exact ⟨_, List.mem_map.mpr ⟨b, h, rfl⟩, decide_eq_true rfl⟩
theorem tK_put {fk : List Nat} {b : Nat} (h : ¬ b ∈ fk) : putK (tK fk) (Sum.inl (b : Int)) (.bl true) = tK (fk ++ [b]) := by
  have h2 : valV (tK fk) (Sum.inl (b : Int)) = none := by
    have := valV_tK fk b
    rw [decide_eq_false h] at this
    exact Option.isSome_eq_false_iff.mp this |> fun z => by simpa using z
  rw [putK_new _ h2]
  unfold tK
  rw [List.map_append]
  rfl
theorem tK_keys (fk : List Nat) : (tK fk).map (·.1) = (fk.map fun (b : Nat) => (b : Int)).map Sum.inl := by
  unfold tK
  rw [List.map_map, List.map_map]
  rfl
theorem tK_len (fk : List Nat) : (tK fk).length = fk.length := List.length_map ..

section
variable {P : Program} {w : World} {K : PySem.W.Frag} {mg : Str → Option Value} {base : Heap}

theorem _root_.DP.Valid.acyc {fs : List Int} {ds : List (Option Int)} {zs : List (Addr × Nat × Nat)} {rs : List Int} (v : Valid fs ds zs rs) : Acyc zs := by
  obtain ⟨rk, h⟩ := v.rank
  exact ⟨rk, fun z hz => (h z hz).2.2⟩
theorem _root_.DP.Valid.zlt {fs : List Int} {ds : List (Option Int)} {zs : List (Addr × Nat × Nat)} {rs : List Int} (v : Valid fs ds zs rs) : ∀ z ∈ zs, z.2.1 < fs.length ∧ z.2.2 < fs.length := by
  obtain ⟨rk, h⟩ := v.rank
  exact fun z hz => ⟨(h z hz).1, (h z hz).2.1⟩
theorem kd_oV {H : Hp} {ds : List (Option Int)} {i : Nat} {v : V} (h : (oV ds)[i]? = some v) : ∃ d, ds[i]? = some d ∧ ((d = none ∧ v = .non) ∨ ∃ x, d = some x ∧ v = .int x) := by
  unfold oV at h
  rw [List.getElem?_map] at h
  cases e : ds[i]? with
  | none =>
    rw [e] at h
    cases h
  | some d =>
    rw [e] at h
    refine ⟨d, rfl, ?_⟩
    cases d with
    | none => exact .inl ⟨rfl, (Option.some.inj h).symm⟩
    | some x => exact .inr ⟨x, rfl, (Option.some.inj h).symm⟩
def spIsJob : Sp := fun vs H Q _ => ∃ (J f d n r : Addr) (fs : List Int) (ds : List (Option Int)) (zs : List (Addr × Nat × Nat)) (rs : List Int), vs = [.ref J] ∧ JobAt H J f d n r fs ds zs rs ∧ Valid fs ds zs rs ∧ ∀ H', Same H H' → Q (.bl true) H'
theorem ok_is_job (T : Env K mg) : Ok P w K mg base CX0 dd_is_job "is_job" 6 ["thing"] spIsJob := by
  obtain ⟨fd_are_needs, D_are_needs, g_are_needs, k_are_needs, b_are_needs, G_are_needs⟩ := ok_are_needs (P := P) (w := w) (base := base) T
  obtain ⟨fd_is_hour, D_is_hour, g_is_hour, k_is_hour, b_is_hour, G_is_hour⟩ := ok_is_hour (P := P) (w := w) (base := base) T
  obtain ⟨fd_is_due, D_is_due, g_is_due, k_is_due, b_is_due, G_is_due⟩ := ok_is_due (P := P) (w := w) (base := base) T
  obtain ⟨fd_is_room, D_is_room, g_is_room, k_is_room, b_is_room, G_is_room⟩ := ok_is_room (P := P) (w := w) (base := base) T
  obtain ⟨fd, F⟩ := T.c.def_ 4 (d := dd_is_job) rfl
  refine ⟨fd, F, T.gl 4 _ rfl, F.kp, F.bindsN fun _ _ _ _ _ _ us hl => match us, hl with | [_], _ => rfl, ?_⟩
  refine F.ok sc_is_job (fun vs H Q E h => ?_) (fun cdv A outer s H vs Q E hr h => ?_)
  · obtain ⟨J, f, d, n, r, fs, ds, zs, rs, rfl, hJ, hv, q⟩ := h
    rfl
  · obtain ⟨J, f, d, n, r, fs, ds, zs, rs, rfl, hJ, hv, q⟩ := h
    refine ⟨_, PSs.nox (pss_cons (ps_if (PW.pt (pw_or (pt_not (pt_val (pe_callB call_isi (by rfl) (T.fr 32 _ rfl) (by decide +kernel) (pa_cons (pv 0) (pa_cons (pe_bltn (v := .ty "tuple") (by rfl) (T.fr 37 _ rfl) (by decide +kernel) rfl) pa_nil))))) (pw_or1 (pt_cmpR op_ne (pe_callB call_len_seq (by rfl) (T.fr 36 _ rfl) (by decide +kernel) (pa_cons (pv 0) pa_nil)) pe_int (nomark _))))) (pss_one (ps_ret pe_bl)) pss_nil)
      (pss_cons (ps_if (pt_not (pt_val (pe_callB (cr_all rfl) (by rfl) (T.fr 35 _ rfl) (by decide +kernel) (pa_cons (pe_lc (own := [("part", 5)]) (g := gName 5) (tt := tYes) (by rfl) sc_is_job.nd (pi_tup (pv 0)) (blkOk_by (own := [("part", 5)]) (N := N_is_job) (sc := defScope s_is_job) (by decide +kernel)) (fun _ _ _ _ _ => (pg_name (i := 5) sc_is_job.nd rfl (by first | exact Or.inl rfl | exact Or.inr rfl))) (fun _ _ _ _ _ => pts_nil) (fun _ _ _ _ _ => (pe_callB (r := rIsi K) call_isi (by rfl) (T.fr 32 _ rfl) (by decide +kernel) (pa_cons (pv 5) (pa_cons (pe_bltn (v := .ty "list") (by rfl) (T.fr 38 _ rfl) (by decide +kernel) rfl) pa_nil))))) pa_nil)))) (pss_one (ps_ret pe_bl)) pss_nil)
      (pss_cons (ps_asg (pv 0) (pg_tup rfl (pgs_cons (pg_name (i := 1) sc_is_job.nd rfl (Or.inl rfl)) (pgs_cons (pg_name (i := 2) sc_is_job.nd rfl (Or.inl rfl)) (pgs_cons (pg_name (i := 3) sc_is_job.nd rfl (Or.inl rfl)) (pgs_cons (pg_name (i := 4) sc_is_job.nd rfl (Or.inl rfl)) pgs_nil))))))
      (pss_cons (ps_if (pt_cmpR op_ne (pe_callB call_len_seq (by rfl) (T.fr 36 _ rfl) (by decide +kernel) (pa_cons (pv 2) pa_nil)) (pe_callB call_len_seq (by rfl) (T.fr 36 _ rfl) (by decide +kernel) (pa_cons (pv 1) pa_nil)) (nomark _)) (pss_one (ps_ret pe_bl)) pss_nil)
      (pss_one (ps_ret (pe_and (pe_callB (cr_all rfl) (by rfl) (T.fr 35 _ rfl) (by decide +kernel) (pa_cons (pe_lc (own := [("free", 6)]) (g := gName 6) (tt := tYes) (by rfl) sc_is_job.nd (pi_list (pv 1)) (blkOk_by (own := [("free", 6)]) (N := N_is_job) (sc := defScope s_is_job) (by decide +kernel)) (fun _ _ _ _ _ => (pg_name (i := 6) sc_is_job.nd rfl (by first | exact Or.inl rfl | exact Or.inr rfl))) (fun _ _ _ _ _ => pts_nil) (fun _ _ _ _ _ => (pe_call G_is_hour (hr.mono (by decide)) (by rfl) g_is_hour k_is_hour b_is_hour .nil pass0 (pa_cons (pv 6) pa_nil)))) pa_nil)) (pe_and (pe_callB (cr_all rfl) (by rfl) (T.fr 35 _ rfl) (by decide +kernel) (pa_cons (pe_lc (own := [("due", 7)]) (g := gName 7) (tt := tYes) (by rfl) sc_is_job.nd (pi_list (pv 2)) (blkOk_by (own := [("due", 7)]) (N := N_is_job) (sc := defScope s_is_job) (by decide +kernel)) (fun _ _ _ _ _ => (pg_name (i := 7) sc_is_job.nd rfl (by first | exact Or.inl rfl | exact Or.inr rfl))) (fun _ _ _ _ _ => pts_nil) (fun _ _ _ _ _ => (pe_call G_is_due (hr.mono (by decide)) (by rfl) g_is_due k_is_due b_is_due .nil pass0 (pa_cons (pv 7) pa_nil)))) pa_nil)) (pe_and (pe_call G_are_needs (hr.mono (by decide)) (by rfl) g_are_needs k_are_needs b_are_needs .nil pass0 (pa_cons (pe_callB call_len_seq (by rfl) (T.fr 36 _ rfl) (by decide +kernel) (pa_cons (pv 1) pa_nil)) (pa_cons (pv 3) pa_nil))) (pe_one (pe_callB (cr_all rfl) (by rfl) (T.fr 35 _ rfl) (by decide +kernel) (pa_cons (pe_lc (own := [("places", 8)]) (g := gName 8) (tt := tYes) (by rfl) sc_is_job.nd (pi_list (pv 4)) (blkOk_by (own := [("places", 8)]) (N := N_is_job) (sc := defScope s_is_job) (by decide +kernel)) (fun _ _ _ _ _ => (pg_name (i := 8) sc_is_job.nd rfl (by first | exact Or.inl rfl | exact Or.inr rfl))) (fun _ _ _ _ _ => pts_nil) (fun _ _ _ _ _ => (pe_call G_is_room (hr.mono (by decide)) (by rfl) g_is_room k_is_room b_is_room .nil pass0 (pa_cons (pv 8) pa_nil)))) pa_nil)))))))))))), ?_⟩
    walk_at "u"
    refine ⟨_, rfl, rIsi_of (b := true) (.tup hJ.top) (by decide +kernel) ⟨_, rfl, ?_⟩⟩
    refine iteF ⟨_, rfl, J, _, rfl, .inr (SqT.of hJ.top), rfl, _, rfl, iteF ?_⟩
    -- all parts are lists
    refine ⟨_, rfl, J, rfl, ⟨_, SqT.of hJ.top⟩, fun D nD => lc_tup (K := K) (a := J) (xs := [.ref f, .ref d, .ref n, .ref r]) (fun i H' => Same H H' ∧ H' D = some (.lst ((List.replicate i true).map V.bl))) ⟨same_upd nD, upd_same⟩ (fun i H' _ hP => SqT.of (hP.1 _ _ hJ.top)) (fun i v H' hv2 hP => ?_) (fun H' hP => ?_)⟩
    · obtain ⟨sm, hD⟩ := hP
      have hk : Kd H' v "list" := by
        have hj := hJ.same sm
        match i, hv2 with
        | 0, e => cases e; exact .lst hj.fr
        | 1, e => cases e; exact .lst hj.du
        | 2, e => cases e; exact .lst hj.ne.1
        | 3, e => cases e; exact .lst hj.ro
        | i + 4, e => simp at e
      have hi : i < 4 := (List.getElem?_eq_some_iff.mp hv2).1
      refine ⟨rfl, ?_⟩
      walk_at "u"
      refine iteT ⟨_, rfl, rIsi_of (b := true) hk (by decide +kernel) ⟨_, hD, ?_, same_mut sm nD, ?_⟩⟩
      · rw [List.length_map, List.length_replicate]
        exact small_lt (by omega)
      · rw [upd_same, ← bl_rep]
    obtain ⟨s1, hD⟩ := hP
    refine ⟨D, _, rfl, SqL.of hD, _, rfl, ?_⟩
    rw [all_rep]
    refine iteF ?_
    have j1 := hJ.same s1
    refine ⟨_, rfl, J, _, rfl, SqT.of j1.top, rfl, _, _, rfl, _, _, rfl, _, _, rfl, _, _, rfl, rfl, ?_⟩
    refine ⟨_, rfl, d, _, rfl, .inl (SqL.of j1.du), _, rfl, f, _, rfl, .inl (SqL.of j1.fr), rfl, _, rfl, ?_⟩
    rw [oV_len, iV_len, hv.dl]
    refine iteNS rfl ?_
    -- frees
    refine ⟨_, rfl, f, rfl, ⟨_, SqL.of j1.fr⟩, fun D1 nD1 => lc_list (K := K) (a := f) (xs := iV fs) (fun i H2 => Same H' H2 ∧ H2 D1 = some (.lst ((List.replicate i true).map V.bl))) ⟨same_upd nD1, upd_same⟩ (fun i H2 _ hP => SqL.of (hP.1 _ _ j1.fr)) (fun i v H2 hv2 hP => ?_) (fun H2 hP => ?_)⟩
    · obtain ⟨sm, hD1⟩ := hP
      obtain ⟨x, hx, rfl⟩ := iV_of hv2
      have hx1 := (hv.fv x (List.mem_of_getElem? hx)).1
      have hi := (List.getElem?_eq_some_iff.mp hx).1
      refine ⟨rfl, ?_⟩
      walk_at "u"
      refine iteT ⟨_, rfl, .int x, _, rfl, .int x, _, hD1, ?_, same_mut sm nD1, ?_⟩
      · rw [List.length_map, List.length_replicate]
        exact small_lt (by have := hv.fl; omega)
      · rw [show isWF 1 (.int x) = true from decide_eq_true hx1, upd_same, ← bl_rep]
    obtain ⟨s2, hD1⟩ := hP
    refine ⟨D1, _, rfl, SqL.of hD1, _, rfl, ?_⟩
    rw [all_rep]
    refine iteT ?_
    have j2 := j1.same s2
    -- dues
    refine ⟨_, rfl, d, rfl, ⟨_, SqL.of j2.du⟩, fun D2 nD2 => lc_list (K := K) (a := d) (xs := oV ds) (fun i H3 => Same H2 H3 ∧ H3 D2 = some (.lst ((List.replicate i true).map V.bl))) ⟨same_upd nD2, upd_same⟩ (fun i H3 _ hP => SqL.of (hP.1 _ _ j2.du)) (fun i v H3 hv2 hP => ?_) (fun H3 hP => ?_)⟩
    · obtain ⟨sm, hD2⟩ := hP
      obtain ⟨o, ho, hc⟩ := kd_oV (H := H) hv2
      have hi := (List.getElem?_eq_some_iff.mp ho).1
      have hkd : (∃ t, Kd H3 v t) ∧ isDue v = true := by
        rcases hc with ⟨_, rfl⟩ | ⟨x, rfl, rfl⟩
        · exact ⟨⟨_, .non⟩, rfl⟩
        · exact ⟨⟨_, .int x⟩, decide_eq_true (hv.dv x (List.mem_of_getElem? ho)).1⟩
      obtain ⟨⟨t, ht⟩, hd⟩ := hkd
      refine ⟨rfl, ?_⟩
      walk_at "u"
      refine iteT ⟨_, rfl, v, t, rfl, ht, _, hD2, ?_, same_mut sm nD2, ?_⟩
      · rw [List.length_map, List.length_replicate]
        exact small_lt (by have := hv.fl; have := hv.dl; omega)
      · rw [hd, upd_same, ← bl_rep]
    obtain ⟨s3, hD2⟩ := hP
    refine ⟨D2, _, rfl, SqL.of hD2, _, rfl, ?_⟩
    rw [all_rep]
    refine iteT ?_
    have j3 := j2.same s3
    refine ⟨_, rfl, f, _, rfl, .inl (SqL.of j3.fr), _, rfl, fs.length, n, zs, by rw [iV_len]; rfl, j3.ne, hv.zlt, by have := hv.fl; omega, by have := hv.zl; omega, hv.znd, hv.acyc, fun H4 s4 => ⟨true, rfl, iteT ?_⟩⟩
    have j4 := j3.same s4
    refine ⟨_, rfl, r, rfl, ⟨_, SqL.of j4.ro⟩, fun D3 nD3 => lc_list (K := K) (a := r) (xs := iV rs) (fun i H5 => Same H4 H5 ∧ H5 D3 = some (.lst ((List.replicate i true).map V.bl))) ⟨same_upd nD3, upd_same⟩ (fun i H5 _ hP => SqL.of (hP.1 _ _ j4.ro)) (fun i v H5 hv2 hP => ?_) (fun H5 hP => ?_)⟩
    · obtain ⟨sm, hD3⟩ := hP
      obtain ⟨x, hx, rfl⟩ := iV_of hv2
      have hx1 := hv.ro.val x (List.mem_of_getElem? hx)
      have hi := (List.getElem?_eq_some_iff.mp hx).1
      have hl := hv.ro.len
      refine ⟨rfl, ?_⟩
      walk_at "u"
      refine iteT ⟨_, rfl, .int x, _, rfl, .int x, _, hD3, ?_, same_mut sm nD3, ?_⟩
      · rw [List.length_map, List.length_replicate]
        exact small_lt (by omega)
      · have e1 : isRoom (.int x) = true := by
          show (decide (0 ≤ x) && decide (x ≤ 3)) = true
          rw [decide_eq_true hx1.1, decide_eq_true hx1.2]
          rfl
        rw [e1, upd_same, ← bl_rep]
    obtain ⟨s5, hD3⟩ := hP
    refine ⟨D3, _, rfl, SqL.of hD3, ?_⟩
    rw [all_rep]
    exact q H5 ((((s1.trans s2).trans s3).trans s4).trans s5)
def spCheckJob : Sp := fun vs H Q _ => ∃ (J f d n r : Addr) (fs : List Int) (ds : List (Option Int)) (zs : List (Addr × Nat × Nat)) (rs : List Int), vs = [.ref J] ∧ JobAt H J f d n r fs ds zs rs ∧ Valid fs ds zs rs ∧ ∀ H', Same H H' → Q .non H'
theorem ok_check_job (T : Env K mg) : Ok P w K mg base CX0 dd_check_job "check_job" 7 ["job"] spCheckJob := by
  obtain ⟨fd_is_job, D_is_job, g_is_job, k_is_job, b_is_job, G_is_job⟩ := ok_is_job (P := P) (w := w) (base := base) T
  obtain ⟨fd, F⟩ := T.c.def_ 11 (d := dd_check_job) rfl
  refine ⟨fd, F, T.gl 11 _ rfl, F.kp, F.bindsN fun _ _ _ _ _ _ us hl => match us, hl with | [_], _ => rfl, ?_⟩
  refine F.ok sc_check_job (fun vs H Q E h => ?_) (fun cdv A outer s H vs Q E hr h => ?_)
  · obtain ⟨J, f, d, n, r, fs, ds, zs, rs, rfl, hJ, hv, q⟩ := h
    rfl
  · obtain ⟨J, f, d, n, r, fs, ds, zs, rs, rfl, hJ, hv, q⟩ := h
    refine ⟨_, PSs.nox (pss_one (ps_if (pt_not (pt_val (pe_call G_is_job (hr.mono (by decide)) (by rfl) g_is_job k_is_job b_is_job .nil pass0 (pa_cons (pv 0) pa_nil)))) (pss_one ps_never) pss_nil)), ?_⟩
    walk_at "u"
    exact ⟨_, rfl, J, f, d, n, r, fs, ds, zs, rs, rfl, hJ, hv, fun H' s => ⟨_, rfl, iteF (q H' s)⟩⟩
def spCheckTask : Sp := fun vs H Q _ => ∃ (J f d n r : Addr) (fs : List Int) (t : Nat), vs = [.ref J, .int (t : Int)] ∧ H J = some (.tup [.ref f, .ref d, .ref n, .ref r]) ∧ H f = some (.lst (iV fs)) ∧ t < fs.length ∧ Q .non H
def spTasksBehind : Sp := fun vs H Q _ => ∃ (J f d n r : Addr) (fs : List Int) (zs : List (Addr × Nat × Nat)) (a : Nat), vs = [.ref J, .int (a : Int)] ∧ H J = some (.tup [.ref f, .ref d, .ref n, .ref r]) ∧ H f = some (.lst (iV fs)) ∧ NeedsAt H n zs ∧
  (∀ z ∈ zs, z.2.1 < fs.length ∧ z.2.2 < fs.length) ∧ fs.length < 64 ∧ zs.length ≤ 10000 ∧ a < fs.length ∧ ∀ (q : Addr) (ys : List Int) (H' : Hp), H q = none → Same H H' → H' q = some (.lst (iV ys)) → (∀ b : Nat, (b : Int) ∈ ys ↔ Reach zs a b) → Q (.ref q) H'
def spIsBehind : Sp := fun vs H Q _ => ∃ (J f d n r : Addr) (fs : List Int) (ds : List (Option Int)) (zs : List (Addr × Nat × Nat)) (rs : List Int) (a b : Nat), vs = [.ref J, .int (a : Int), .int (b : Int)] ∧ JobAt H J f d n r fs ds zs rs ∧ Valid fs ds zs rs ∧ fs.length < 64 ∧ a < fs.length ∧ b < fs.length ∧
  ∀ (c : Bool) (H' : Hp), Same H H' → (c = true ↔ Reach zs a b) → Q (.bl c) H'
def spRoomWithin (K : PySem.W.Frag) : Sp := fun vs H Q _ => ∃ (r : Addr) (rs : List Int) (s e : Int), vs = [.ref r, .int s, .int e] ∧ SqL K H r (iV rs) ∧ 1 ≤ s ∧ rs.length ≤ 10000 ∧ ∀ H', Same H H' → Q (.int (roomOf rs s e)) H'
def spRoom (K : PySem.W.Frag) : Sp := fun vs H Q _ => ∃ (J f d n r : Addr) (fs : List Int) (ds : List (Option Int)) (zs : List (Addr × Nat × Nat)) (rs : List Int) (s e : Int), vs = [.ref J, .int s, .int e] ∧ JobAt H J f d n r fs ds zs rs ∧ Valid fs ds zs rs ∧ 1 ≤ s ∧ ∀ H', Same H H' → Q (.int (roomOf rs s e)) H'

end
/-! ### an exception that is kept in a variable -/
/-- the exception of the class cls that stands at a -/
def ExT (cls : Value) (d : Option Addr) (a : Addr) : HO := .ext fun h => ∃ (oe : Obj) (vs : Array Value), h.get? a = some oe ∧ Zc cls d oe ∧ oe.data = .fields vs
theorem exT_ok {P : Program} {w : World} {H : Hp} {h : Heap} {a : Addr} {cls : Value} {d : Option Addr} {oe : Obj} {vs : Array Value} (e : h.get? a = some oe) (z : Zc cls d oe) (f : oe.data = .fields vs) : ObjOk P w H h a (ExT cls d a) :=
  ⟨⟨oe, vs, e, z, f⟩, ⟨oe, e⟩, fun _ _ ⟨o, v, q, r⟩ k => ⟨o, v, k o q, r⟩⟩
/-- an object that is there, untracked, and was not there at the entry, is tracked from now on -/
theorem inv_track {X : Cx} {pins : List (Addr × Obj)} {σ : L2.St} {H : Hp} {s : Shared} {a : Addr} {o : HO} {oe : Obj} {vs : Array Value} (I : L2.Inv X pins σ H s) (there : s.heap.get? a = some oe) (f : oe.data = .fields vs)
    (none_ : H a = none) (fresh : X.s_0.heap.get? a = none) (notL : a ≠ X.env.locals) (notP : ∀ p ∈ X.pn ++ pins, p.1 ≠ a) (ok : ObjOk X.prog X.w (upd H a o) s.heap a o) : L2.Inv X pins σ (upd H a o) s := by
  have old : ∀ {b : Addr} {u : Obj}, X.s_0.heap.get? b = some u → b ≠ a := fun {b u} e z => by
    rw [z, fresh] at e
    cases e
  have cells : ∀ {x : Str} {c : Addr}, X.env.cells.lookup x = some c → c ≠ a := fun {x c} e z => by
    obtain ⟨v, oc, h1, h2⟩ := I.cell x c e
    rw [z, there] at h1
    cases h1
    rw [f] at h2
    cases h2
  refine ⟨I.ok, I.os, I.bare, ⟨I.base.keep, I.base.slot, fun b u e n hx => ?_, I.base.there, fun b xs q => ?_, fun b u v q => ?_, fun b ps q => ?_⟩, I.loc, I.cell, ?_, fun x c e => ?_, fun p hp => ?_, fun b u e => ?_, I.len⟩
  · rw [upd_ne (old e)]
    exact I.base.free b u e n hx
  · have q2 := I.base.tups b xs q
    rw [upd_ne (ne_of_none q2 none_)]
    exact q2
  · have q2 := I.base.frzs b u v q
    rw [upd_ne (ne_of_none q2 none_)]
    exact q2
  · obtain ⟨more, q2⟩ := I.base.tbls b ps q
    exact ⟨more, by rw [upd_ne (ne_of_none q2 none_)]; exact q2⟩
  · rw [upd_ne notL.symm]
    exact I.free
  · rw [upd_ne (cells e)]
    exact I.freeC x c e
  · obtain ⟨p1, p2, p3⟩ := I.pin p hp
    exact ⟨p1, by rw [upd_ne (notP p hp)]; exact p2, p3⟩
  · by_cases same : b = a
    · subst same
      rw [upd_same] at e
      cases e
      exact ok
    · rw [upd_ne same] at e
      exact (I.hok b u e).stay (fun _ _ _ q => q) (fun c q => by rw [upd_ne (ne_of_none q none_)]; exact q) fun c xs q => by rw [upd_ne (ne_of_none q none_)]; exact q
/-- what is wished at a try whose except clause keeps the exception: behind the suite it is tracked -/
def wKeep (K : PySem.W.Frag) (c : Value) (i : Nat) (ts : Addr → Value → Option Addr → TS) (Wout : WX) (D : Ends) : WX := fun cls d σ H =>
  ∃ b, PySem.W.exmOne K cls c = some b ∧ (b = true → ∀ a, H a = none → ts a cls d
    { nx := fun σ' H' => H' a = none → D.nx (σ'.set i none) (upd H' a (ExT cls d a)), rt := fun v H' => H' a = none → D.rt v (upd H' a (ExT cls d a)),
      bk := fun σ' H' => H' a = none → D.bk (σ'.set i none) (upd H' a (ExT cls d a)), ct := fun σ' H' => H' a = none → D.ct (σ'.set i none) (upd H' a (ExT cls d a)) } (σ.set i (some (.ref a))) H) ∧ (b = false → Wout cls d σ H)
theorem ps_try_keep {X : Cx} {x n : Str} {c : Value} {i : Nat} {body suite : List Stmt} {b₀ : Stmt} {np pos pos' : Pos} {tb : WX → TS} {ts : Addr → Value → Option Addr → TS} {Wout : WX}
    (hs : X.stack = X.env :: X.outer) (hf : X.env.frame = some X.env.locals) (hex : X.ex = []) (hN : X.N.Nodup) (hi : X.N[i]? = some n) (hln : X.env.kindOf n = some .local) (hc : Names X x c) (tk : Takes X Wout)
    (hb : ∀ (W : WX) (pn : List (Addr × Obj)) (xe : Value → Shared → Prop), Takes (X.tr pn xe) W → PassesOwn (model X.prog X.w) X.A X.env xe → PSs (X.tr pn xe) body (tb W))
    (hsu : ∀ (a : Addr) (oe : Obj) (cls : Value) (d : Option Addr) (pn : List (Addr × Obj)), Zc cls d oe → (∃ vs, oe.data = .fields vs) → PSs (X.suite a ((a, oe) :: pn)) (b₀ :: suite) (ts a cls d)) :
    PS X (.Try body [.ExceptHandler (some (.Name x np)) (some n) (b₀ :: suite) pos'] [] [] pos) (fun D σ H => tb (wKeep X.K c i ts Wout D) D σ H) := by
  refine ⟨fun pins s σ H D I h => ?_⟩
  have ok := I.ok
  have frames : X.A.frames = some (X.env :: X.outer) := by rw [ok.frames, hs]
  refine wpAny_Try_except ?_
  let xe1 : Value → Shared → Prop := fun e s₁ => wpAny (model X.prog X.w) X.A (noteFrame e X.env)
    (fun _ s₂ => wpAny (model X.prog X.w) X.A (setFlight e none) (fun _ s₃ => wpAny (model X.prog X.w) X.A
      (handleBy e X.env [.ExceptHandler (some (.Name x np)) (some n) (b₀ :: suite) pos']) (SP X pins D) X.xe s₃) X.xe s₂) X.xe s₁
  refine wpAny_mono ((hb (wKeep X.K c i ts Wout D) (X.pn ++ pins) xe1 (fun u s' air => ?_) PassesOwn.looking).run [] s σ H D (I.toTry _) h) (fun f s1 done => ?_) (fun e s1 he => he)
  · obtain ⟨a, B, sI, pins', σ', H', cls, d, rfl, JT, nb, up, sky, na, os, ag, b, asked, yes, no⟩ := air
    have J : L2.Inv X pins σ' H' sI := JT.ofTry ok
    have sky' : Sky B (X.env :: X.outer) a (Zc cls d) X.env.locals s'.heap := by
      rw [← hs]
      exact sky
    show wpAny (model X.prog X.w) X.A (noteFrame (.ref a) X.env) _ _ _
    refine Sky.land Zc.steady frames hf sky' fun h3 fl3 up3 => ?_
    have J3 : L2.Inv X pins σ' H' { s' with heap := h3 } := J.landed nb fl3.1 (up.trans up3) os ag
    obtain ⟨oe3, vs3, he3, hz3, hd3⟩ := fl3.there
    have notFrame : a ∉ frs (X.env :: X.outer) := fun hm => by
      obtain ⟨_, o', e', other⟩ := fl3.2.2.1.mem hm
      rw [he3] at e'
      cases e'
      exact other _ hd3
    have notL : a ≠ X.env.locals := fun z => notFrame (List.mem_filterMap.mpr ⟨X.env, List.mem_cons_self, by rw [hf, z]⟩)
    have notF : a ∉ X.fs := fun hm => by
      obtain ⟨e, he, q⟩ := List.mem_filterMap.mp hm
      exact notFrame (List.mem_filterMap.mpr ⟨e, List.mem_cons_of_mem _ he, q⟩)
    have freshI : sI.heap.get? a = none := by
      cases q : sI.heap.get? a with
      | none => rfl
      | some o =>
        have z := nb a o q (by rw [hs]; exact notFrame)
        rw [fl3.2.1] at z
        cases z
    have fresh : X.s_0.heap.get? a = none := by
      cases q : X.s_0.heap.get? a with
      | none => rfl
      | some o =>
        obtain ⟨o', z⟩ := J.base.there a o q (by rw [hex]; exact fun z => nomatch z)
        rw [freshI] at z
        cases z
    have notP : ∀ p ∈ X.pn ++ pins, p.1 ≠ a := fun p hp z => by
      have q := (J.pin p hp).1
      rw [z, freshI] at q
      cases q
    have S3 := J3.suite he3 hd3 na notL notF
    refine wpAny_handleBy_cons (codeAny_handlers_test ?_) (by intro q; cases q)
    have kind : PySem.W.Looks (model X.prog X.w) h3 (typeOf (.ref a)) cls := fun A Q E s k q => wpAny_typeOf_ref (k _ _ he3) (by rw [hz3.1]; exact q)
    have answer := PySem.W.exm_one (M := model X.prog X.w) (J3.kIn) kind asked
    have named : ∀ {Q : Value → Shared → Prop} {E : Value → Shared → Prop}, Q c { s' with heap := h3 } → wpAny (model X.prog X.w) (X.A.mark (some (.ref a))) (eval (.Name x np) X.env) Q E { s' with heap := h3 } := fun q => by
      obtain ⟨hg, hdbg, hm | ⟨hm, hv, hnn⟩⟩ := hc
      · exact ld_glob (X := X.suite a ((a, oe3) :: (X.pn ++ pins))) S3 hg hm q hdbg
      · exact ld_blt (X := X.suite a ((a, oe3) :: (X.pn ++ pins))) S3 hg hm hv q hnn hdbg
    refine named (answer.here ?_)
    cases b with
    | true =>
      refine codeAny_handlers_suite_as ?_
      refine HandSPX.lands_againZ fl3 fun h4 fl4 up4 => ?_
      have J4 : L2.Inv X pins σ' H' { s' with heap := h4 } := J.landed nb fl4.1 ((up.trans up3).trans up4) os ag
      obtain ⟨oe4, vs4, he4, hz4, hd4⟩ := fl4.there
      have S4 := J4.suite he4 hd4 na notL notF
      refine store_ok (X := X.suite a ((a, oe4) :: (X.pn ++ pins))) (v := .ref a) S4 hN hi (.inl hln) rfl (fun s5 S5 => ?_) (.inr hln)
      refine wpAny_mono ((hsu a oe4 cls d (X.pn ++ pins) hz4 ⟨_, hd4⟩).run [] s5 _ H' _ S5 (yes rfl a na)) (fun f s6 done => ?_) (fun _ _ z => False.elim z)
      have ends : ∀ {σ6 : L2.St} {H6 : Hp} {Q : Shared → Prop}, L2.Inv (X.suite a ((a, oe4) :: (X.pn ++ pins))) [] σ6 H6 s6 → (∀ s7, H6 a = none → L2.Inv X pins (σ6.set i none) (upd H6 a (ExT cls d a)) s7 → Q s7) →
          wpAny (model X.prog X.w) X.A (do bindName X.env n .none; unbindBehindTheSuite X.env n pos') (fun _ s7 => Q s7) X.xe s6 := fun {σ6 H6 Q} S6 hq => by
        refine gone_ok (X := X.suite a ((a, oe4) :: (X.pn ++ pins))) S6 hN hi hln fun s7 S7 => ?_
        obtain ⟨there, untracked, _⟩ := S7.pin (a, oe4) (List.mem_append_left _ List.mem_cons_self)
        exact hq s7 untracked (inv_track (S7.unsuite ok) there hd4 untracked fresh notL notP (exT_ok there hz4 hd4))
      match f, done with
      | .next, ⟨σ6, H6, S6, q6⟩ => exact ends S6 fun s7 u J7 => ⟨_, _, J7, q6 u⟩
      | .brk, ⟨σ6, H6, S6, q6⟩ => exact ends S6 fun s7 u J7 => ⟨_, _, J7, q6 u⟩
      | .cont, ⟨σ6, H6, S6, q6⟩ => exact ends S6 fun s7 u J7 => ⟨_, _, J7, q6 u⟩
      | .ret u, ⟨v6, σ6, H6, S6, r6, q6⟩ => exact ends S6 fun s7 z J7 => ⟨_, _, _, J7, r6, q6 z⟩
    | false =>
      show wpAny _ X.A (handleBy (.ref a) X.env []) _ _ _
      refine wpAny_handleBy_nil ?_
      obtain ⟨k1, k2, k3, oe, vs, T, oT, ts', he, hz, hd, h1, hr⟩ := id fl3
      unfold PySem.passOn
      refine wpAny_bind (wpAny_field he hd h1 ?_)
      rw [if_neg (show ¬ ((Value.ref T == Value.none) = true) from by simp)]
      have out : wpAny (model X.prog X.w) X.A (setFlight (.ref a) X.env.frame) (fun _ s4 => wpAny (model X.prog X.w) X.A (throw (.ref a) : Sem Flow) (SP X pins D) X.xe s4) X.xe { s' with heap := h3 } := by
        rw [hf]
        refine HandSPX.setFlight_upZ fl3 fun h4 hh4 up4 => wpAny_throw (tk _ _ ?_)
        exact ⟨a, B, sI, pins, σ', H', cls, d, rfl, J, nb, (up.trans up3).trans up4, .inr (.inr (by rw [hs]; exact hh4)), na, os, ag, no rfl⟩
      first
        | exact wpAny_bind (wpAny_pure (wpAny_bind out))
        | exact wpAny_bind out
  · match f, done with
    | .next, ⟨σ', H', J', q⟩ => exact wpAny_execs_nil ⟨σ', H', J'.ofTry ok, q⟩
    | .brk, ⟨σ', H', J', q⟩ => exact ⟨σ', H', J'.ofTry ok, q⟩
    | .cont, ⟨σ', H', J', q⟩ => exact ⟨σ', H', J'.ofTry ok, q⟩
    | .ret u, ⟨v, σ', H', J', r, q⟩ => exact ⟨v, σ', H', J'.ofTry ok, r, q⟩
/-- isinstance of a kept exception -/
def rIsX (K : PySem.W.Frag) : List V → Hp → VK → Prop := fun xs H Q => ∃ (a D : Addr) (c : V) (cv : Value) (b : Bool), xs = [.ref a, c] ∧ H a = some (ExT (.ref D) none a) ∧ ExcC K D ∧ ClsV c cv ∧ PySem.W.kitOne K (.ref D) cv = some b ∧ Q (.bl b) H
theorem call_isX {X : Cx} : CallR X (.builtin "isinstance") (rIsX X.K) := by
  intro pins s σ H xs us Q I r h
  obtain ⟨a, D, c, cv, b, rfl, ha, C, k, e, q⟩ := h
  obtain ⟨u1, u2, rfl, r1, r2⟩ := vals2 r
  have e2 := k.eq r2
  subst e2
  cases (show u1 = Value.ref a from r1)
  obtain ⟨oe, vs, there, hz, hv⟩ := (I.hok a _ ha).1
  have J : PySem.W.InstAt s.heap a oe D none := by
    obtain ⟨oc, od, oda, osl⟩ := oe
    obtain ⟨h1, h2⟩ := hz
    dsimp only at h1 h2 hv
    subst h1 h2 hv
    exact ⟨there, rfl, rfl, trivial⟩
  exact PySem.W.kia_one (PySem.W.handS_kitx_exc C.hg C.hk C.hs C.hd C.ha C.hn C.ht C.hm) I.kIn J e (fun z => nomatch z) fun tk => ⟨.bl b, H, I.kept (t' := tk) fun _ _ z => z, rfl, q⟩
/-- a value of a kind, or a kept exception -/
def rIsA (K : PySem.W.Frag) : List V → Hp → VK → Prop := fun xs H Q => rIsi K xs H Q ∨ rIsX K xs H Q
theorem call_isA {X : Cx} : CallR X (.builtin "isinstance") (rIsA X.K) := CallR.or call_isi call_isX
/-- a call that promises to let nothing out -/
theorem passF {X : Cx} : Passes (L2.CX X.prog X.w) X (fun _ _ _ => False) := fun _ _ _ _ _ _ _ ⟨_, _, _, _, _, _, _, _, _, _, _, _, h⟩ => h.elim

/-! ### sorted(d.items()), keys and values ints -/
open L2.DX (itemsO itemsO_ok takeT zip_self)
def entI (e : Int × Int) : Key × V := (Sum.inl e.1, V.int e.2)
def rItemsI : V → List V → Hp → VK → Prop := fun x xs H Q => ∃ (a : Addr) (kvs : List (Key × V)), x = .ref a ∧ xs = [] ∧ H a = some (.dK kvs) ∧ ∀ p, H p = none → Q (.ref p) (upd H p (itemsO p a))
theorem mt_itemsI {X : Cx} : MtR X "dict.items" rItemsI := by
  intro pins s σ H x xs v us Q I rx rxs h
  obtain ⟨a, kvs, rfl, rfl, ha, q⟩ := h
  cases rx
  cases rxs
  obtain ⟨hz, hd, vs, kv, hdo⟩ := I.hok a _ ha
  obtain ⟨o, es, ep, ho, hx, hdat, hk1, hpr, hnd⟩ := hdo
  refine DT.callItems (es := es) (ep := ep) hd ⟨o, ho, hx, hdat⟩ ?_
  have hf : H s.heap.objs.size = none := I.hok.fresh (Nat.le_refl _)
  exact ⟨.ref s.heap.objs.size, upd H s.heap.objs.size (itemsO s.heap.objs.size a), I.laid (t' := s.toks) (fun b u e => Heap.get?_push_of_some _ e) (Nat.le_refl _) (itemsO_ok (Heap.get?_push_size _ rfl)), rfl, q _ hf⟩
/-- the two ints of a tuple -/
def prIn (h : Heap) : Value → Int × Int
  | .ref b => (match h.get? b with
    | some ⟨_, _, .seq its _, _⟩ => (SrtO.iv (its.getD 0 .none), SrtO.iv (its.getD 1 .none))
    | _ => (0, 0))
  | _ => (0, 0)
theorem prIn_of {h : Heap} {v : Value} {x y : Int} (p : Srt.IsPair h v x y) : prIn h v = (x, y) := by
  obtain ⟨a, ⟨oc, od, dt, sl⟩, t, u, n, rfl, ho, hc, hd⟩ := p
  dsimp only at hc hd
  subst hc hd
  show (match h.get? a with
    | some ⟨_, _, .seq its _, _⟩ => (SrtO.iv (its.getD 0 .none), SrtO.iv (its.getD 1 .none))
    | _ => (0, 0)) = (x, y)
  rw [ho]
  rfl
def lexLe (p q : Int × Int) : Prop := p.1 ≤ q.1
def rSortItI : List V → Hp → VK → Prop := fun vs H Q => ∃ (p a : Addr) (ks : List (Int × Int)), vs = [.ref p] ∧ H p = some (itemsO p a) ∧ H a = some (.dK (ks.map entI)) ∧ ks.length ≤ 1000 ∧
  ∀ (H' : Hp) (l : Addr) (ps : List (Addr × Int × Int)), Same H H' → (ps.map (·.2)).Perm ks → (ps.map (·.2)).Pairwise lexLe → H' l = some (.lst (ps.map fun z => V.ref z.1)) → H l = none →
    (∀ z ∈ ps, H' z.1 = some (.tup [.int z.2.1, .int z.2.2])) → Q (.ref l) H'
theorem cr_sortedItemsI {X : Cx} (hc : X.calm = true) : CallR X (.builtin "sorted") rSortItI := by
  intro pins s σ H xs us Q I r h
  obtain ⟨p, a, ks, rfl, hp, ha, h64, q⟩ := h
  obtain rfl := Vals.ref1 r
  have view : s.heap.IsItemsView p a := (show ObjOk X.prog X.w H s.heap p (itemsO p a) from I.hok p _ hp).1
  obtain ⟨hz, hd, vs, kv, hdo⟩ := I.hok a _ ha
  obtain ⟨o, es, ep, ho, hx, hdat, hk1, hpr, hnd⟩ := hdo
  have l1 : (ks.map entI).length = vs.length := Paired.length kv
  rw [List.length_map] at l1
  have l2 : es.size = vs.length := by
    rw [← hpr.length]
    simp
  refine DT.sortedI (es := es) (ep := ep) (I.ok.hd hc) view ⟨o, ho, hx, hdat⟩ (by rw [l2, ← l1]; exact small_sz (by omega)) fun h' tk as hk hlt hl hG => ?_
  have lak : as.length = ks.length := by omega
  have nd : as.Nodup := List.Pairwise.imp (fun h => Nat.ne_of_lt h) hG.rise
  have pr : ∀ (j : Nat) (b : Addr), as[j]? = some b → ∃ (e : Int × Int) (t u : Tok), ks[j]? = some e ∧ h'.get? b = some { cls := .type "tuple", data := .seq #[Value.int e.1 t, Value.int e.2 u] } := by
    intro j b hj
    obtain ⟨en, he, hg⟩ := hG.pairs j b hj
    have hjl : j < ks.length := by
      have := (List.getElem?_eq_some_iff.mp hj).1
      omega
    obtain ⟨e, hkj⟩ : ∃ e, ks[j]? = some e := ⟨_, List.getElem?_eq_getElem hjl⟩
    have hkm : (ks.map entI)[j]? = some (entI e) := by
      rw [List.getElem?_map, hkj]
      rfl
    obtain ⟨y, hy, r1, r2⟩ := LiI.paired_get kv hkm
    have hel : es.toList[j]? = some en := by
      rw [Array.getElem?_toList]
      exact he
    obtain ⟨k1, k2⟩ := hpr.get? hel (show vs[j]? = some (y.1, y.2) from hy)
    rw [← r1] at k1
    obtain ⟨t, e1⟩ := (show RelV (V.int e.1) en.key from relV_key (show keyIs (Sum.inl e.1) en.key = true from k1))
    obtain ⟨u, e2⟩ := (show RelV (V.int e.2) y.2 from r2)
    refine ⟨e, t, u, hkj, ?_⟩
    rw [hg, e1, k2, e2]
  have hob : (h'.push { cls := .type "list", data := .seq (as.map Value.ref).toArray }).get? h'.objs.size = some (seqObj "list" (as.map Value.ref).toArray 0) := Heap.get?_push_size _ rfl
  have kb : ∀ b o, s.heap.get? b = some o → (h'.push { cls := .type "list", data := .seq (as.map Value.ref).toArray }).get? b = some o := fun b o e => Heap.get?_push_of_some _ (hk b o e)
  have ne0 : ∀ b o, h'.get? b = some o → b ≠ h'.objs.size := fun b o e => Nat.ne_of_lt (Heap.lt_size e)
  generalize hh2 : h'.push { cls := .type "list", data := .seq (as.map Value.ref).toArray } = h2 at hob kb ⊢
  have ka : ∀ b o, h'.get? b = some o → h2.get? b = some o := fun b o e => by
    rw [← hh2]
    exact Heap.get?_push_of_some _ e
  have pin : ∀ (j : Nat) (b : Addr) (e : Int × Int), as[j]? = some b → ks[j]? = some e → Srt.IsPair h2 (.ref b) e.1 e.2 := by
    intro j b e hj he
    obtain ⟨e', t, u, he', hg⟩ := pr j b hj
    have ee : e' = e := Option.some.inj (he'.symm.trans he)
    subst ee
    exact ⟨b, _, t, u, 0, rfl, ka _ _ hg, rfl, rfl⟩
  have at_ : ∀ v ∈ as.map Value.ref, Srt.IsPair h2 v (prIn h2 v).1 (prIn h2 v).2 := by
    intro v hv'
    obtain ⟨b, hb, rfl⟩ := List.mem_map.mp hv'
    obtain ⟨j, hj⟩ := List.mem_iff_getElem?.mp hb
    obtain ⟨e, _, _, he, _⟩ := pr j b hj
    have hp := pin j b e hj he
    rw [prIn_of hp]
    exact hp
  refine wpAny_call_entry PyProof.Rows.slot_list_sort ⟨_, hob, rfl⟩ PyProof.Rows.entry_list_sort
    (SrtO.list_sort_ord (s := { s with heap := h2, toks := tk }) (SrtO.swo_lex (prIn h2)) hob (by rw [List.length_map, lak]; exact small_sz (by omega)) (fun h2' => SrtO.pairs_sortableO (by omega) at_ fun o e => ?_) fun out o1 o2 => ⟨.none, rfl, ?_⟩) (PyProof.Rows.args_list_sort _)
  · have e' : some o = some (seqObj "list" (as.map Value.ref).toArray 0) := e.symm.trans hob
    cases e'
    intro c
    exact absurd (Value.type.inj c) (by decide)
  · show EP X pins σ Q (.ref h'.objs.size) { s with heap := sortedHeap h2 h'.objs.size (as.map Value.ref) out.toArray, toks := tk }
    obtain ⟨zs, pz, ez⟩ := perm_lift (fun z : Addr × Int × Int => Value.ref z.1) o2.perm (as.zip ks) (by
      have e := zip_self Value.ref as ks lak
      have e2 := congrArg (List.map Prod.fst) e
      rw [List.map_map, List.map_fst_zip (by simp)] at e2
      exact e2)
    have idx : ∀ z ∈ zs, ∃ j : Nat, as[j]? = some z.1 ∧ ks[j]? = some z.2 := by
      intro z' hz'
      obtain ⟨j, hj⟩ := List.mem_iff_getElem?.mp (pz.mem_iff.mp hz')
      exact ⟨j, List.getElem?_zip_eq_some.mp hj⟩
    have hout : out = zs.map fun z => Value.ref z.1 := ez.symm
    have hperm : (zs.map (·.2)).Perm ks := by
      have e := pz.map (·.2)
      have m2 : (as.zip ks).map (·.2) = ks := List.map_snd_zip (by rw [lak]; exact Nat.le_refl _)
      rw [m2] at e
      exact e
    have hsort : (zs.map (·.2)).Pairwise lexLe := by
      have o3 : List.Pairwise (fun x y => SrtO.lexB (prIn h2 y) (prIn h2 x) = false) out := o1
      rw [hout, List.pairwise_map] at o3
      rw [List.pairwise_map]
      refine List.Pairwise.imp_of_mem (fun {x y} hx hy h => ?_) o3
      obtain ⟨j, j1, j2⟩ := idx x hx
      obtain ⟨i, i1, i2⟩ := idx y hy
      rw [prIn_of (pin j _ _ j1 j2), prIn_of (pin i _ _ i1 i2)] at h
      have := SrtO.lexB_no.mp h
      show x.2.1 ≤ y.2.1
      simp only at this
      omega
    have kF : ∀ b o, b ≠ h'.objs.size → h2.get? b = some o → (sortedHeap h2 h'.objs.size (as.map Value.ref) out.toArray).get? b = some o := fun b o hb e => (PyProof.Rows.sortedHeap_old hb (Heap.lt_size e)).trans e
    have kS : ∀ b o, s.heap.get? b = some o → (sortedHeap h2 h'.objs.size (as.map Value.ref) out.toArray).get? b = some o := fun b o e => kF b o (ne0 _ _ (hk b o e)) (kb b o e)
    obtain ⟨eF, heF⟩ := PyProof.Rows.sortedHeap_at (vs := as.map Value.ref) (out := out.toArray) hob
    have I1 : L2.Inv X pins σ H { s with heap := sortedHeap h2 h'.objs.size (as.map Value.ref) out.toArray, toks := tk } := I.kept (t' := tk) kS
    have hn0 : H h'.objs.size = none := I.hok.fresh (Nat.le_of_lt hlt)
    have hlen : (zs.map fun z => V.ref z.1).length ≤ sizeLine := by
      have e := hperm.length_eq
      rw [List.length_map] at e
      rw [List.length_map, e]
      exact small_sz (by omega)
    have rv : Vals (zs.map fun z => V.ref z.1) out := by
      rw [hout]
      exact vals_maps (fun z : Addr × Int × Int => V.ref z.1) (fun z => Value.ref z.1) zs fun _ _ => rfl
    have I2 : L2.Inv X pins σ (upd H h'.objs.size (.lst (zs.map fun z => V.ref z.1))) { s with heap := sortedHeap h2 h'.objs.size (as.map Value.ref) out.toArray, toks := tk } :=
      I1.take (h' := sortedHeap h2 h'.objs.size (as.map Value.ref) out.toArray) (t' := tk) (fun b ob _ e => e) (I.fpOk (Nat.le_of_lt hlt) hn0) ⟨hlen, out, eF, rv, heF⟩
    obtain ⟨H2, I3, g, qt⟩ := takeT (P := fun b vs => ∃ (j : Nat) (e : Int × Int), as[j]? = some b ∧ ks[j]? = some e ∧ vs = [.int e.1, .int e.2]) I as _ I2 nd fun b hb => by
      obtain ⟨j, hj⟩ := List.mem_iff_getElem?.mp hb
      obtain ⟨e, t, u, he, hg⟩ := pr j b hj
      have hbl : s.heap.objs.size ≤ b := Nat.le_of_lt (hG.above b hb)
      refine ⟨hbl, ?_, [.int e.1, .int e.2], ⟨j, e, hj, he, rfl⟩, fun H3 => ⟨(by rw [sizeLine_eq]; show 2 ≤ 16777216; omega), [Value.int e.1 t, Value.int e.2 u], .cons ⟨t, rfl⟩ (.cons ⟨u, rfl⟩ .nil), ⟨_, kF _ _ (ne0 _ _ hg) (ka _ _ hg), rfl, 0, rfl⟩⟩⟩
      rw [upd_ne (ne0 _ _ hg)]
      exact I.hok.fresh hbl
    have gr : Same H H2 := fun b o e => g b o (by rw [upd_ne (ne_of_none e hn0)]; exact e)
    refine ⟨.ref h'.objs.size, H2, I3, rfl, q H2 h'.objs.size zs gr hperm hsort (g _ _ upd_same) hn0 fun z' hz' => ?_⟩
    obtain ⟨i, i1, i2⟩ := idx z' hz'
    obtain ⟨vs, ⟨j, e, j1, j2, ev⟩, hH⟩ := qt z'.1 (List.mem_of_getElem? i1)
    have eij : i = j := (List.getElem?_inj (List.getElem?_eq_some_iff.mp i1).1 nd).mp (i1.trans j1.symm)
    subst eij
    have ee : e = z'.2 := Option.some.inj (j2.symm.trans i2)
    rw [ev, ee] at hH
    exact hH

theorem nD_all {K : PySem.W.Frag} {H : Hp} : ∀ is : List Nat, DpAll K H (nV is) (is.map fun (t : Nat) => PyData.int (t : Int))
  | [] => .nil
  | i :: r => .cons (.int _) (nD_all r)
theorem bD_all {K : PySem.W.Frag} {H : Hp} : ∀ is : List Bool, DpAll K H (is.map V.bl) (is.map PyData.bool)
  | [] => .nil
  | i :: r => .cons (.bl _) (bD_all r)
theorem can_all {α : Type} (f : α → PyData) (h : ∀ x, (f x).canLay0 = true ∧ (f x).depth = 0) : ∀ is : List α, SeqAt.shaped (.list (is.map f)) = true := by
  intro is
  have h1 : PyData.canLayAll0 (is.map f) = true ∧ PyData.depthAll (is.map f) = 0 := by
    induction is with
    | nil => exact ⟨rfl, rfl⟩
    | cons x r ih =>
      refine ⟨?_, ?_⟩
      · show (PyData.canLay0 (f x) && PyData.canLayAll0 (r.map f)) = true
        rw [(h x).1, ih.1]
        rfl
      · show max (PyData.depth (f x)) (PyData.depthAll (r.map f)) = 0
        rw [(h x).2, ih.2]
        rfl
  show (PyData.canLayAll0 (is.map f) && decide (PyData.depthAll (is.map f) + 1 ≤ 64)) = true
  rw [h1.1, h1.2]
  rfl
theorem eqv_nil (f : Nat → PyData) (is : List Nat) : PyData.eqv (.list (is.map f)) (.list []) = is.isEmpty := by
  cases is <;> rfl
theorem bl_app (bs : List Bool) (b : Bool) : bs.map V.bl ++ [V.bl b] = (bs ++ [b]).map V.bl := by
  rw [List.map_append]
  rfl
theorem range_map_snoc {α : Type} (f : Nat → α) (i : Nat) : (List.range (i + 1)).map f = (List.range i).map f ++ [f i] := by
  rw [List.range_succ, List.map_append]
  rfl

theorem list_bool_nil {α : Type} {p : α → Bool} {l : List α} : l.filter p = [] ↔ ∀ x ∈ l, p x = false := by
  rw [List.filter_eq_nil_iff]
  constructor
  · intro h x hx
    cases e : p x with
    | false => rfl
    | true => exact absurd e (h x hx)
  · intro h x hx e
    rw [h x hx] at e
    cases e
theorem getD_of {α : Type} {l : List α} {i : Nat} {x d : α} (h : l[i]? = some x) : l.getD i d = x := by
  rw [List.getD_eq_getElem?_getD, h]
  rfl
theorem le_snoc {p : Nat → Bool} {i : Nat} (h : ∀ s < i, p s = false) (hi : p i = false) : ∀ s < i + 1, p s = false := fun s hs => by
  by_cases e : s = i
  · rw [e]
    exact hi
  · exact h s (by omega)
theorem take_snoc_all {α : Type} {p : α → Bool} {l : List α} {i : Nat} {x : α} (hx : l[i]? = some x) (h : ∀ y ∈ l.take i, p y = false) (hi : p x = false) : ∀ y ∈ l.take (i + 1), p y = false := fun y hy => by
  rw [List.take_add_one, hx] at hy
  rcases List.mem_append.mp hy with hy | hy
  · exact h y hy
  · rw [show y = x by simpa using hy]
    exact hi
theorem iV_inj {a b : List Int} (h : iV a = iV b) : a = b := by
  induction a generalizing b with
  | nil =>
    cases b with
    | nil => rfl
    | cons y r => cases h
  | cons x r ih =>
    cases b with
    | nil => cases h
    | cons y t =>
      have h1 := List.cons.inj h
      rw [V.int.inj h1.1, ih h1.2]
theorem filter_snoc {α : Type} (p : α → Bool) {l : List α} {i : Nat} {x : α} (hx : l[i]? = some x) : (l.take (i + 1)).filter p = if p x = true then (l.take i).filter p ++ [x] else (l.take i).filter p := by
  rw [List.take_add_one, hx, List.filter_append]
  cases e : p x with
  | true =>
    rw [if_pos rfl]
    show _ ++ List.filter p [x] = _
    rw [List.filter_cons_of_pos e]
    rfl
  | false =>
    rw [if_neg Bool.false_ne_true]
    show _ ++ List.filter p [x] = _
    rw [List.filter_cons_of_neg (by rw [e]; exact Bool.false_ne_true)]
    show _ ++ [] = _
    rw [List.append_nil]
theorem eqv_list_nil (xs : List PyData) : PyData.eqv (.list xs) (.list []) = xs.isEmpty := by
  cases xs <;> rfl
theorem shaped_map {α : Type} (f : α → PyData) (h : ∀ x, (f x).canLay0 = true ∧ (f x).depth ≤ 10) (is : List α) : SeqAt.shaped (.list (is.map f)) = true := by
  have h1 : PyData.canLayAll0 (is.map f) = true ∧ PyData.depthAll (is.map f) ≤ 10 := by
    induction is with
    | nil => exact ⟨rfl, Nat.zero_le _⟩
    | cons x r ih =>
      refine ⟨?_, ?_⟩
      · show (PyData.canLay0 (f x) && PyData.canLayAll0 (r.map f)) = true
        rw [(h x).1, ih.1]
        rfl
      · show max (PyData.depth (f x)) (PyData.depthAll (r.map f)) ≤ 10
        exact Nat.max_le.mpr ⟨(h x).2, ih.2⟩
  show (PyData.canLayAll0 (is.map f) && decide (PyData.depthAll (is.map f) + 1 ≤ 64)) = true
  rw [h1.1, decide_eq_true (by omega)]
  rfl
theorem isEmpty_filter {α β : Type} (f : α → β) (p : α → Bool) (l : List α) : ((l.filter p).map f).isEmpty = true ↔ ∀ x ∈ l, p x = false := by
  rw [List.isEmpty_iff, List.map_eq_nil_iff]
  exact list_bool_nil
/-- all([f x ..]) by a bound list -/
theorem all_snoc {α : Type} (f : α → Bool) (xs : List α) (i : Nat) (x : α) (h : xs[i]? = some x) : (xs.take (i + 1)).map f = (xs.take i).map f ++ [f x] := by
  rw [List.take_add_one, h, List.map_append]
  rfl

/-! ### faults of hours -/
inductive Flt where
  | free (t : Nat)
  | due (t : Nat)
  | need (a b : Nat)
  | room (h : Int)
def pFree (fs hs : List Int) (t : Nat) : Bool := decide (hs.getD t 0 < fs.getD t 0)
def pDue (ds : List (Option Int)) (hs : List Int) (t : Nat) : Bool := match ds.getD t none with
  | none => false
  | some d => decide (d < hs.getD t 0)
def pNeed (hs : List Int) (z : Addr × Nat × Nat) : Bool := decide (hs.getD z.2.2 0 ≤ hs.getD z.2.1 0)
def pRoom (rs hs : List Int) (h : Int) : Bool := decide (roomAt rs h < (hs.count h : Nat))
def fltL (fs : List Int) (ds : List (Option Int)) (zs : List (Addr × Nat × Nat)) (hs : List Int) : List Flt :=
  ((List.range fs.length).filter (pFree fs hs)).map Flt.free ++ ((List.range fs.length).filter (pDue ds hs)).map Flt.due ++ (zs.filter (pNeed hs)).map (fun z => Flt.need z.2.1 z.2.2)
def Least (L : List Int) : Option Int → Prop
  | none => L = []
  | some a => a ∈ L ∧ ∀ b ∈ L, a ≤ b
theorem least_ex : ∀ L : List Int, ∃ o, Least L o
  | [] => ⟨none, rfl⟩
  | x :: L => by
    obtain ⟨o, h⟩ := least_ex L
    cases o with
    | none =>
      have e : L = [] := h
      subst e
      exact ⟨some x, List.mem_cons_self, fun b hb => by rw [List.mem_singleton.mp hb]; exact Int.le_refl _⟩
    | some a =>
      obtain ⟨h1, h2⟩ := h
      by_cases c : x ≤ a
      · refine ⟨some x, List.mem_cons_self, fun b hb => ?_⟩
        rcases List.mem_cons.mp hb with e | hb
        · rw [e]
          exact Int.le_refl _
        · exact Int.le_trans c (h2 b hb)
      · refine ⟨some a, List.mem_cons_of_mem _ h1, fun b hb => ?_⟩
        rcases List.mem_cons.mp hb with e | hb
        · rw [e]
          omega
        · exact h2 b hb
theorem least_uq {L : List Int} {o o' : Option Int} (h : Least L o) (h' : Least L o') : o = o' := by
  cases o with
  | none =>
    have e : L = [] := h
    subst e
    cases o' with
    | none => rfl
    | some b => exact absurd h'.1 (by simp)
  | some a =>
    cases o' with
    | none =>
      have e : L = [] := h'
      subst e
      exact absurd h.1 (by simp)
    | some b =>
      have h1 := h.2 b h'.1
      have h2 := h'.2 a h.1
      rw [Int.le_antisymm h1 h2]
def FltIs (fs : List Int) (ds : List (Option Int)) (zs : List (Addr × Nat × Nat)) (rs hs : List Int) (o : Option Flt) : Prop :=
  ∃ r, Least (hs.filter (pRoom rs hs)) r ∧ o = (fltL fs ds zs hs).head?.or (r.map Flt.room)
section
variable {fs : List Int} {ds : List (Option Int)} {zs : List (Addr × Nat × Nat)} {rs hs : List Int}
theorem FltIs.uq {o o' : Option Flt} (h : FltIs fs ds zs rs hs o) (h' : FltIs fs ds zs rs hs o') : o = o' := by
  obtain ⟨r, h1, rfl⟩ := h
  obtain ⟨r', h1', rfl⟩ := h'
  rw [least_uq h1 h1']
theorem flt_ex : ∃ o, FltIs fs ds zs rs hs o := by
  obtain ⟨r, hr⟩ := least_ex (hs.filter (pRoom rs hs))
  exact ⟨_, r, hr, rfl⟩
theorem head_range {p : Nat → Bool} {n t : Nat} (ht : t < n) (hp : p t = true) (hn : ∀ s < t, p s = false) : ((List.range n).filter p).head? = some t := by
  rw [List.head?_filter, List.find?_range_eq_some]
  exact ⟨hp, List.mem_range.mpr ht, fun s hs => by rw [hn s hs]; rfl⟩
theorem none_range {p : Nat → Bool} {n : Nat} (hn : ∀ s < n, p s = false) : (List.range n).filter p = [] := list_bool_nil.mpr fun x hx => hn x (List.mem_range.mp hx)
theorem flt_free {t : Nat} (ht : t < fs.length) (hp : pFree fs hs t = true) (hn : ∀ s < t, pFree fs hs s = false) : FltIs fs ds zs rs hs (some (.free t)) := by
  obtain ⟨r, hr⟩ := least_ex (hs.filter (pRoom rs hs))
  refine ⟨r, hr, ?_⟩
  unfold fltL
  rw [List.append_assoc, List.head?_append, List.head?_map, head_range ht hp hn]
  rfl
theorem flt_due {t : Nat} (h1 : ∀ s < fs.length, pFree fs hs s = false) (ht : t < fs.length) (hp : pDue ds hs t = true) (hn : ∀ s < t, pDue ds hs s = false) : FltIs fs ds zs rs hs (some (.due t)) := by
  obtain ⟨r, hr⟩ := least_ex (hs.filter (pRoom rs hs))
  refine ⟨r, hr, ?_⟩
  unfold fltL
  rw [none_range h1, List.map_nil, List.nil_append, List.head?_append, List.head?_map, head_range ht hp hn]
  rfl
theorem flt_need {k : Nat} {z : Addr × Nat × Nat} (h1 : ∀ s < fs.length, pFree fs hs s = false) (h2 : ∀ s < fs.length, pDue ds hs s = false) (hk : zs[k]? = some z) (hp : pNeed hs z = true) (hn : ∀ y ∈ zs.take k, pNeed hs y = false) : FltIs fs ds zs rs hs (some (.need z.2.1 z.2.2)) := by
  obtain ⟨r, hr⟩ := least_ex (hs.filter (pRoom rs hs))
  refine ⟨r, hr, ?_⟩
  unfold fltL
  obtain ⟨hlt, e⟩ := List.getElem?_eq_some_iff.mp hk
  have e2 : zs = zs.take k ++ (z :: zs.drop (k + 1)) := by
    rw [← e, List.getElem_cons_drop, List.take_append_drop]
  have e3 : (zs.filter (pNeed hs)).head? = some z := by
    rw [e2, List.filter_append, list_bool_nil.mpr hn, List.nil_append, List.filter_cons_of_pos hp]
    rfl
  rw [none_range h1, none_range h2, List.map_nil, List.map_nil, List.nil_append, List.nil_append, List.head?_map, e3]
  rfl
theorem flt_rest {r : Option Int} (h1 : ∀ s < fs.length, pFree fs hs s = false) (h2 : ∀ s < fs.length, pDue ds hs s = false) (h3 : ∀ y ∈ zs, pNeed hs y = false) (hr : Least (hs.filter (pRoom rs hs)) r) : FltIs fs ds zs rs hs (r.map Flt.room) := by
  refine ⟨r, hr, ?_⟩
  unfold fltL
  rw [none_range h1, none_range h2, list_bool_nil.mpr h3]
  rfl
/-- the hours keep all -/
def Keeps (fs : List Int) (ds : List (Option Int)) (zs : List (Addr × Nat × Nat)) (rs hs : List Int) : Prop :=
  (∀ s < fs.length, pFree fs hs s = false) ∧ (∀ s < fs.length, pDue ds hs s = false) ∧ (∀ y ∈ zs, pNeed hs y = false) ∧ ∀ h ∈ hs, pRoom rs hs h = false
theorem FltIs.none_iff {o : Option Flt} (h : FltIs fs ds zs rs hs o) : o = none ↔ Keeps fs ds zs rs hs := by
  constructor
  · intro e
    subst e
    obtain ⟨r, hr, e⟩ := h
    have e1 := e.symm
    rw [Option.or_eq_none_iff, List.head?_eq_none_iff, Option.map_eq_none_iff] at e1
    obtain ⟨e1, e2⟩ := e1
    subst e2
    unfold fltL at e1
    simp only [List.append_eq_nil_iff, List.map_eq_nil_iff] at e1
    obtain ⟨⟨a1, a2⟩, a3⟩ := e1
    exact ⟨fun s hs' => list_bool_nil.mp a1 s (List.mem_range.mpr hs'), fun s hs' => list_bool_nil.mp a2 s (List.mem_range.mpr hs'), list_bool_nil.mp a3, list_bool_nil.mp (show _ = [] from hr)⟩
  · rintro ⟨h1, h2, h3, h4⟩
    have := flt_rest h1 h2 h3 (r := none) (list_bool_nil.mpr h4)
    exact h.uq this
end
def fltV : Flt → List V
  | .free t => [.str "free", .int (t : Int)]
  | .due t => [.str "due", .int (t : Int)]
  | .need a b => [.str "need", .int (a : Int), .int (b : Int)]
  | .room h => [.str "room", .int h]
/-- the value of a fault -/
def FltAt (H : Hp) (v : V) : Option Flt → Prop
  | none => v = .non
  | some f => ∃ p, v = .ref p ∧ H p = some (.tup (fltV f))
theorem FltAt.same {H H' : Hp} {v : V} {o : Option Flt} (h : FltAt H v o) (s : Same H H') : FltAt H' v o := by
  cases o with
  | none => exact h
  | some f =>
    obtain ⟨p, e, hp⟩ := h
    exact ⟨p, e, s _ _ hp⟩
theorem roomOf_one {rs : List Int} (h : Int) : roomOf rs h h = roomAt rs h := by
  unfold roomOf
  rw [show (h + 1 - h).toNat = 1 by omega]
  show 0 + roomAt rs (h + ((0 : Nat) : Int)) = _
  rw [Int.zero_add]
  congr 1
  omega
/-! ### how many of each -/
def putI (m : List (Int × Int)) (h c : Int) : List (Int × Int) := if m.any (fun p => decide (p.1 = h)) = true then m.map (fun p => if p.1 = h then (p.1, c) else p) else m ++ [(h, c)]
theorem any_entI (m : List (Int × Int)) (h : Int) : (m.map entI).any (fun kv => decide (kv.1 = Sum.inl h)) = m.any fun p => decide (p.1 = h) := by
  rw [List.any_map]
  congr 1
  funext p
  show decide ((Sum.inl p.1 : Key) = Sum.inl h) = decide (p.1 = h)
  congr 1
  exact propext ⟨fun e => Sum.inl.inj e, fun e => by rw [e]⟩
theorem putK_entI (m : List (Int × Int)) (h c : Int) : putK (m.map entI) (Sum.inl h) (.int c) = (putI m h c).map entI := by
  unfold putK putI
  rw [any_entI]
  split
  · rw [List.map_map, List.map_map]
    refine List.map_congr_left fun p _ => ?_
    show (if (Sum.inl p.1 : Key) = Sum.inl h then (Sum.inl p.1, V.int c) else (Sum.inl p.1, V.int p.2)) = entI (if p.1 = h then (p.1, c) else p)
    by_cases e : p.1 = h
    · rw [if_pos e, if_pos (by rw [e])]
      rfl
    · rw [if_neg e, if_neg (fun z => e (Sum.inl.inj z))]
      rfl
  · rw [List.map_append]
    rfl
theorem putI_len (m : List (Int × Int)) (h c : Int) : (putI m h c).length ≤ m.length + 1 := by
  unfold putI
  split
  · rw [List.length_map]
    omega
  · rw [List.length_append, List.length_singleton]
    exact Nat.le_refl _
theorem any_key {m : List (Int × Int)} {h : Int} : m.any (fun p => decide (p.1 = h)) = true ↔ h ∈ m.map (·.1) := by
  rw [List.any_eq_true, List.mem_map]
  exact ⟨fun ⟨p, hp, e⟩ => ⟨p, hp, of_decide_eq_true e⟩, fun ⟨p, hp, e⟩ => ⟨p, hp, decide_eq_true e⟩⟩
structure Tally (m : List (Int × Int)) (l : List Int) : Prop where
  nd : (m.map (·.1)).Nodup
  keys : ∀ h, h ∈ m.map (·.1) ↔ h ∈ l
  cnt : ∀ p ∈ m, p.2 = (l.count p.1 : Nat)
theorem Tally.nil : Tally [] [] := ⟨List.nodup_nil, fun h => Iff.rfl, fun p hp => nomatch hp⟩
theorem valV_entI {m : List (Int × Int)} {p : Int × Int} (nd : (m.map (·.1)).Nodup) (hp : p ∈ m) : valV (m.map entI) (Sum.inl p.1) = some (.int p.2) := by
  induction m with
  | nil => cases hp
  | cons q r ih =>
    rw [List.map_cons, List.nodup_cons] at nd
    rcases List.mem_cons.mp hp with e | hp
    · rw [e]
      exact valV_pos (p := entI q) rfl
    · have ne : ¬ (entI q).1 = Sum.inl p.1 := fun z => nd.1 (by
        have z2 : q.1 = p.1 := Sum.inl.inj z
        rw [z2]
        exact List.mem_map.mpr ⟨p, hp, rfl⟩)
      rw [List.map_cons, valV_neg ne]
      exact ih nd.2 hp
theorem valV_entI0 {m : List (Int × Int)} {h : Int} (hn : h ∉ m.map (·.1)) : valV (m.map entI) (Sum.inl h) = none := by
  induction m with
  | nil => rfl
  | cons q r ih =>
    rw [List.map_cons, List.mem_cons] at hn
    have ne : ¬ (entI q).1 = Sum.inl h := fun z => hn (.inl (Sum.inl.inj z).symm)
    rw [List.map_cons, valV_neg ne]
    exact ih fun z => hn (.inr z)
theorem Tally.val {m : List (Int × Int)} {l : List Int} (T : Tally m l) (h : Int) : (valV (m.map entI) (Sum.inl h)).getD (.int 0) = .int (l.count h : Nat) := by
  by_cases c : h ∈ m.map (·.1)
  · obtain ⟨p, hp, rfl⟩ := List.mem_map.mp c
    rw [valV_entI T.nd hp, T.cnt p hp]
    rfl
  · rw [valV_entI0 c]
    have : h ∉ l := fun z => c ((T.keys h).mpr z)
    rw [List.count_eq_zero_of_not_mem this]
    rfl
theorem Tally.put {m : List (Int × Int)} {l : List Int} (T : Tally m l) (h : Int) : Tally (putI m h ((l.count h : Nat) + 1)) (l ++ [h]) := by
  have cn : ∀ x : Int, (l ++ [h]).count x = l.count x + (if h = x then 1 else 0) := fun x => by
    rw [List.count_append, List.count_singleton]
    by_cases e : h = x
    · subst e
      simp
    · simp [e]
  unfold putI
  by_cases c : h ∈ m.map (·.1)
  · rw [if_pos (any_key.mpr c)]
    have ek : (m.map fun p => if p.1 = h then (p.1, ((l.count h : Nat) : Int) + 1) else p).map (·.1) = m.map (·.1) := by
      rw [List.map_map]
      refine List.map_congr_left fun p _ => ?_
      show (if p.1 = h then (p.1, ((l.count h : Nat) : Int) + 1) else p).1 = p.1
      split <;> rfl
    refine ⟨by rw [ek]; exact T.nd, fun x => ?_, fun p hp => ?_⟩
    · rw [ek, T.keys x, List.mem_append, List.mem_singleton]
      refine ⟨.inl, fun z => z.elim id fun z => ?_⟩
      rw [z]
      exact (T.keys h).mp c
    · obtain ⟨q, hq, rfl⟩ := List.mem_map.mp hp
      have := T.cnt q hq
      rw [cn]
      by_cases e : q.1 = h
      · rw [if_pos e]
        show ((l.count h : Nat) : Int) + 1 = ((l.count q.1 + (if h = q.1 then 1 else 0) : Nat) : Int)
        rw [if_pos e.symm, e]
        omega
      · rw [if_neg e, if_neg (fun z => e z.symm), this]
        rfl
  · rw [if_neg (fun z => c (any_key.mp z))]
    have hl : h ∉ l := fun z => c ((T.keys h).mpr z)
    refine ⟨?_, fun x => ?_, fun p hp => ?_⟩
    · rw [List.map_append]
      exact nd_snoc T.nd c
    · rw [List.map_append, List.mem_append, List.mem_append, T.keys x]
      rfl
    · rw [cn]
      rcases List.mem_append.mp hp with hp | hp
      · have := T.cnt p hp
        have ne : ¬ h = p.1 := fun z => c (List.mem_map.mpr ⟨p, hp, z.symm⟩)
        rw [if_neg ne, this]
        rfl
      · rw [List.mem_singleton.mp hp]
        show ((l.count h : Nat) : Int) + 1 = ((l.count h + (if h = h then 1 else 0) : Nat) : Int)
        rw [if_pos rfl]
        omega
theorem least_found {ps : List (Addr × Int × Int)} {rs hs : List Int} {k : Nat} {z : Addr × Int × Int} (hsort : (ps.map (·.2)).Pairwise lexLe) (T : Tally (ps.map (·.2)) hs) (hk : ps[k]? = some z) (hp : pRoom rs hs z.2.1 = true) (hn : ∀ y ∈ ps.take k, pRoom rs hs y.2.1 = false) :
    Least (hs.filter (pRoom rs hs)) (some z.2.1) := by
  have key : ∀ b, b ∈ hs ↔ ∃ y ∈ ps, y.2.1 = b := fun b => by
    rw [← T.keys b, List.mem_map]
    constructor
    · rintro ⟨p, hp, e⟩
      obtain ⟨y, hy, rfl⟩ := List.mem_map.mp hp
      exact ⟨y, hy, e⟩
    · rintro ⟨y, hy, e⟩
      exact ⟨y.2, List.mem_map.mpr ⟨y, hy, rfl⟩, e⟩
  obtain ⟨hlt, e⟩ := List.getElem?_eq_some_iff.mp hk
  have e2 : ps = ps.take k ++ (z :: ps.drop (k + 1)) := by
    rw [← e, List.getElem_cons_drop, List.take_append_drop]
  refine ⟨List.mem_filter.mpr ⟨(key _).mpr ⟨z, List.mem_of_getElem? hk, rfl⟩, hp⟩, fun b hb => ?_⟩
  obtain ⟨hb1, hb2⟩ := List.mem_filter.mp hb
  obtain ⟨y, hy, rfl⟩ := (key b).mp hb1
  rw [e2] at hy hsort
  rcases List.mem_append.mp hy with hy | hy
  · rw [hn y hy] at hb2
    cases hb2
  rw [List.map_append, List.map_cons, List.pairwise_append, List.pairwise_cons] at hsort
  rcases List.mem_cons.mp hy with e3 | hy
  · rw [e3]
    exact Int.le_refl _
  · exact hsort.2.1.1 _ (List.mem_map.mpr ⟨y, hy, rfl⟩)
theorem least_none {ps : List (Addr × Int × Int)} {rs hs : List Int} (T : Tally (ps.map (·.2)) hs) (hn : ∀ y ∈ ps, pRoom rs hs y.2.1 = false) : Least (hs.filter (pRoom rs hs)) none := by
  refine list_bool_nil.mpr fun b hb => ?_
  have h2 := (T.keys b).mpr hb
  obtain ⟨p, hp, e⟩ := List.mem_map.mp h2
  obtain ⟨y, hy, rfl⟩ := List.mem_map.mp hp
  rw [← e]
  exact hn y hy
theorem least_sorted {L ns : List Int} (hp : ns.Perm L) (hs : ns.Pairwise (· ≤ ·)) : Least L ns.head? := by
  cases ns with
  | nil => exact hp.symm.eq_nil
  | cons x r =>
    refine ⟨hp.mem_iff.mp List.mem_cons_self, fun b hb => ?_⟩
    rcases List.mem_cons.mp (hp.mem_iff.mpr hb) with e | h
    · rw [e]
      exact Int.le_refl _
    · exact (List.pairwise_cons.mp hs).1 b h
theorem rgV_nat (n : Nat) : rgV 0 (n : Int) = nV (List.range n) := by
  unfold rgV nV
  have e : ((n : Int) - 0).toNat = n := by omega
  rw [e]
  exact List.map_congr_left fun i _ => by
    show V.int (0 + (i : Int)) = V.int (i : Int)
    rw [Int.zero_add]
theorem range_at {n i : Nat} (h : i < n) : (List.range n)[i]? = some i := by
  rw [List.getElem?_range h]

section
variable {P : Program} {w : World} {K : PySem.W.Frag} {mg : Str → Option Value} {base : Heap}
/-- v as hours of n tasks: b tells whether it is such -/
def HrsAt (H : Hp) (v : V) (n : Nat) (b : Bool) : Prop := (b = false ∧ ∃ t, Kd H v t ∧ kitB t "list" = some false) ∨ ∃ a xs, v = .ref a ∧ H a = some (.lst xs) ∧ xs.length ≤ 1000 ∧ (∀ x ∈ xs, ∃ t, Kd H x t) ∧ b = (decide (xs.length = n) && xs.all (isWF 1))
theorem _root_.DP.Kd.same {H H' : Hp} {v : V} {t : String} (k : Kd H v t) (s : Same H H') : Kd H' v t := by
  cases k with
  | non => exact .non
  | bl b => exact .bl b
  | int i => exact .int i
  | str x => exact .str x
  | lst e => exact .lst (s _ _ e)
  | tup e => exact .tup (s _ _ e)
theorem HrsAt.same {H H' : Hp} {v : V} {n : Nat} {b : Bool} (h : HrsAt H v n b) (s : Same H H') : HrsAt H' v n b := by
  rcases h with ⟨e, t, k, e2⟩ | ⟨a, xs, e, ha, hl, hk, eb⟩
  · exact .inl ⟨e, t, k.same s, e2⟩
  · exact .inr ⟨a, xs, e, s _ _ ha, hl, fun x hx => (hk x hx).imp fun t k => k.same s, eb⟩
theorem ints_isWF : ∀ xs : List V, xs.all (isWF 1) = true → ∃ hs : List Int, xs = iV hs ∧ ∀ h ∈ hs, 1 ≤ h
  | [], _ => ⟨[], rfl, fun h hh => nomatch hh⟩
  | x :: xs, h => by
    rw [List.all_cons, Bool.and_eq_true] at h
    obtain ⟨hs, e, h1⟩ := ints_isWF xs h.2
    cases x with
    | int i =>
      have hi : 1 ≤ i := of_decide_eq_true h.1
      refine ⟨i :: hs, by rw [e]; rfl, fun y hy => ?_⟩
      rcases List.mem_cons.mp hy with z | hy
      · rw [z]
        exact hi
      · exact h1 y hy
    | _ => cases h.1
theorem HrsAt.ints {H : Hp} {v : V} {n : Nat} (h : HrsAt H v n true) : ∃ a hs, v = .ref a ∧ H a = some (.lst (iV hs)) ∧ hs.length = n ∧ hs.length ≤ 1000 ∧ ∀ x ∈ hs, 1 ≤ x := by
  rcases h with ⟨e, _⟩ | ⟨a, xs, e, ha, hl, hk, eb⟩
  · cases e
  · have eb2 := Bool.and_eq_true_iff.mp eb.symm
    obtain ⟨hs, e2, h1⟩ := ints_isWF xs eb2.2
    subst e2
    have := of_decide_eq_true eb2.1
    rw [iV_len] at this hl
    exact ⟨a, hs, e, ha, this, hl, h1⟩
theorem HrsAt.of {H : Hp} {a : Addr} {hs : List Int} (ha : H a = some (.lst (iV hs))) (hl : hs.length ≤ 1000) (h1 : ∀ x ∈ hs, 1 ≤ x) : HrsAt H (.ref a) hs.length true := by
  refine .inr ⟨a, _, rfl, ha, by rw [iV_len]; exact hl, fun x hx => ?_, ?_⟩
  · obtain ⟨i, _, rfl⟩ := List.mem_map.mp hx
    exact ⟨_, .int i⟩
  · rw [iV_len, decide_eq_true rfl]
    symm
    rw [Bool.true_and, List.all_eq_true]
    intro x hx
    obtain ⟨i, hi, rfl⟩ := List.mem_map.mp hx
    exact decide_eq_true (h1 i hi)
def spAreHours : Sp := fun vs H Q _ => ∃ (J f d n r : Addr) (fs : List Int) (v : V) (b : Bool), vs = [.ref J, v] ∧ H J = some (.tup [.ref f, .ref d, .ref n, .ref r]) ∧ H f = some (.lst (iV fs)) ∧ HrsAt H v fs.length b ∧ ∀ H', Same H H' → Q (.bl b) H'
def spCrowds : Sp := fun vs H Q _ => ∃ (a : Addr) (hs : List Int), vs = [.ref a] ∧ H a = some (.lst (iV hs)) ∧ hs.length ≤ 1000 ∧
  ∀ (l : Addr) (ps : List (Addr × Int × Int)) (H' : Hp), Same H H' → H l = none → H' l = some (.lst (ps.map fun z => V.ref z.1)) → (∀ z ∈ ps, H' z.1 = some (.tup [.int z.2.1, .int z.2.2])) → (ps.map (·.2)).Pairwise lexLe → Tally (ps.map (·.2)) hs → ps.length ≤ 1000 → Q (.ref l) H'
/-- a fault found early -/
def spFirst : Sp := fun vs H Q _ => ∃ (J f d n r a : Addr) (fs : List Int) (ds : List (Option Int)) (zs : List (Addr × Nat × Nat)) (rs hs : List Int), vs = [.ref J, .ref a] ∧ JobAt H J f d n r fs ds zs rs ∧ Valid fs ds zs rs ∧ H a = some (.lst (iV hs)) ∧ hs.length = fs.length ∧ (∀ x ∈ hs, 1 ≤ x) ∧
  ∀ o v H', Same H H' → FltIs fs ds zs rs hs o → FltAt H' v o → Q v H'
def spIsPlan : Sp := fun vs H Q _ => ∃ (J f d n r : Addr) (fs : List Int) (ds : List (Option Int)) (zs : List (Addr × Nat × Nat)) (rs : List Int) (v : V) (b : Bool), vs = [.ref J, v] ∧ JobAt H J f d n r fs ds zs rs ∧ Valid fs ds zs rs ∧ HrsAt H v fs.length b ∧
  ∀ (c : Bool) H', Same H H' → (b = false → c = false) → (∀ a hs, v = .ref a → H a = some (.lst (iV hs)) → b = true → (c = true ↔ Keeps fs ds zs rs hs)) → Q (.bl c) H'
def spFault (K : PySem.W.Frag) : Sp := fun vs H Q E => ∃ (J f d n r : Addr) (fs : List Int) (ds : List (Option Int)) (zs : List (Addr × Nat × Nat)) (rs : List Int) (v : V) (b : Bool), vs = [.ref J, v] ∧ JobAt H J f d n r fs ds zs rs ∧ Valid fs ds zs rs ∧ HrsAt H v fs.length b ∧
  (b = false → ∀ H', Same H H' → E (.ref (He.ga K "NoHours")) none H') ∧ (b = true → ∀ a hs, v = .ref a → H a = some (.lst (iV hs)) → ∀ o v' H', Same H H' → FltIs fs ds zs rs hs o → FltAt H' v' o → Q v' H')

end
end M

local macro_rules | `(tactic| walk_at "v0") => `(tactic| simp only [wSeq, wNext, wBreak, wCont, wDrop, wRet, wRetN, wIfS, wAsg, wgName, wgNil, wgCons, wgTup, wgUnl, wPar, wVar, wC, wB, wAnd, wOr, wNot, wAndV, wOrV, wNotV, wIf, wOp, wUn, wCB, wNil, wCons, wIsN, wNotN, isNon, wCall, wCall0, wRng1, wRng2, wIList, wITup, wEnum, wZip, wYes, wLst, wLstN, wTup, wSl, vPart, vNoPart, wIsi, wTru, vTru, wChain, wBM, wBM0, wgSub, wAug, vI0, vI0b, vI, vNeg, vAdd, vEqW, datOf, eqS, id, vIsB, vIx, vSl, vLen, vIsi, tyT, tyD, itemsA, itemsT, seqOf, datsOf, vAll, vAny, vSum, vMax2, vMin2, vMaxL, vMinL, vList, vInt1, vAppend, vSet, isKd, allD, startG, newL, newLN, tupT, itemsV, List.getElem?_cons_zero, List.getElem?_cons_succ, List.set_cons_zero, List.set_cons_succ, List.length_cons, List.length_nil, List.map_cons, List.map_nil, ifV_true, ifV_false, List.nil_append, List.cons_append, reduceCtorEq, Bool.not_true, Bool.not_false, true_and, and_true, decide_true, decide_false, retD, retX, frzT, frzTs, clo, List.take_zero, List.take_succ_cons, List.take_nil, List.not_mem_nil, false_imp_iff, implies_true, callV, callJ, jsOf, rfsTs, rfsT, rfsO, addN, stepN, okJs, renTs, renT, renO, outN, backS, putAll, idxB, inB, renTs_fz, rfsTs_fz, List.append_nil, List.drop_nil, List.drop_zero, List.foldl_nil, List.foldl_cons, List.nodup_nil, kb_NoneType_int, kb_NoneType_bool, kb_NoneType_list, kb_NoneType_tuple, kb_NoneType_str, kb_bool_int, kb_bool_bool, kb_bool_list, kb_bool_tuple, kb_bool_str, kb_int_int, kb_int_bool, kb_int_list, kb_int_tuple, kb_int_str, kb_str_int, kb_str_bool, kb_str_list, kb_str_tuple, kb_str_str, kb_list_int, kb_list_bool, kb_list_list, kb_list_tuple, kb_list_str, kb_tuple_int, kb_tuple_bool, kb_tuple_list, kb_tuple_tuple, kb_tuple_str, kb_dict_int, kb_dict_bool, kb_dict_list, kb_dict_tuple, kb_dict_str, nodB, subL, okO, cloL, Bool.or_false, Bool.true_or, Bool.or_true, Bool.false_or, eq_self, reduceIte, Int.reduceLE, Int.reduceLT, Int.reduceAdd, Int.reduceSub, Int.reduceNeg, Int.reduceToNat, Nat.reduceAdd, Nat.reduceSub, Nat.reduceLT, Nat.reduceLeDiff, Nat.reduceEqDiff, Int.reduceEq, Int.cast_ofNat_Int, atN_nat, plN_nat, rfsTs_append, renTs_append, Option.map_some, Option.map_none, List.drop_succ_cons, fzs_snoc, fzs_cat, fzs_ins, fzs_set, Int.toNat_natCast, List.length_map, List.length_append, allD_map, allD_append, frzTs_fz, atN_map, List.getD_cons_zero, List.getD_cons_succ, beq_self_eq_true, Nat.reduceBEq, Bool.false_eq_true, vInsert, vInW, datsA, flatD, intsL_flat, intsL_any, natsL_flat, natsL_any, lcR_map, vB1, vB2, vMixed, vTake, pl, vPile, vOrder, vRoom1, vHours, vNeeds, vJob])

/-! what was told of the heap, told of values -/
theorem Hs.same {K : PySem.W.Frag} {F H H' : Hp} {α : List Addr} {S : List O} (hs : Hs K F α S H) (s : Same H H') : Hs K F α S H' ∧ Step F α H F α H' := by
  refine ⟨⟨hs.sub.trans s, hs.len, hs.nd, hs.out, fun j a o h1 h2 => ?_⟩, ⟨Same.rfl', ⟨[], (List.append_nil _).symm, fun b h => (by cases h)⟩, fun b o h _ => s b o h, fun b h => .inl h, fun b h => ?_⟩⟩
  · have r := hs.at_ j a o h1 h2
    have e : H' a = H a := by
      cases e : H a with
      | none => exact absurd e r.there
      | some u => exact s a u e
    have := r.mono (β := []) (F' := F) Same.rfl' e
    rw [List.append_nil] at this
    exact this
  · cases e : H b with
    | none => exact absurd e h
    | some u =>
      rw [s b u e]
      exact fun z => by cases z
def nd (zs : Prs) : List (Addr × Nat × Nat) := zs.map fun z => (0, z)
theorem nd_snd (zs : Prs) : (nd zs).map (·.2) = zs := by
  unfold nd
  rw [List.map_map]
  exact List.map_id _
theorem mem_nd {zs : Prs} {z : Nat × Nat} : (∃ y ∈ nd zs, y.2 = z) ↔ z ∈ zs := by
  have h : z ∈ (nd zs).map (·.2) ↔ ∃ y ∈ nd zs, y.2 = z := List.mem_map
  rw [nd_snd] at h
  exact h.symm
theorem mem_nd' {zs : Prs} {y : Addr × Nat × Nat} (h : y ∈ nd zs) : y.2 ∈ zs := mem_nd.mp ⟨y, h, rfl⟩
theorem VJ.valid {fs : List Int} {ds : List (Option Int)} {zs : Prs} {rs : List Int} (v : VJ fs ds zs rs) {zs3 : List (Addr × Nat × Nat)} (e : zs3.map (·.2) = zs) : Valid fs ds zs3 rs := by
  refine ⟨v.fl, v.dl, v.fv, v.dv, ?_, by rw [e]; exact v.znd, ?_, v.ro⟩
  · rw [← List.length_map (f := (·.2)), e]
    exact v.zl
  · obtain ⟨rk, h⟩ := v.rank
    exact ⟨rk, fun z hz => h z.2 (by rw [← e]; exact List.mem_map.mpr ⟨z, hz, rfl⟩)⟩
theorem VJ.nd {fs : List Int} {ds : List (Option Int)} {zs : Prs} {rs : List Int} (v : VJ fs ds zs rs) : Valid fs ds (DP.nd zs) rs := v.valid (nd_snd zs)
/-- the same pairs -/
def SameP (a b : List (Addr × Nat × Nat)) : Prop := a.map (·.2) = b.map (·.2)
theorem SameP.mem {a b : List (Addr × Nat × Nat)} (h : SameP a b) {z : Addr × Nat × Nat} (hz : z ∈ a) : ∃ y ∈ b, y.2 = z.2 := by
  have : z.2 ∈ a.map (·.2) := List.mem_map.mpr ⟨z, hz, rfl⟩
  rw [h] at this
  obtain ⟨y, hy, e⟩ := List.mem_map.mp this
  exact ⟨y, hy, e⟩
theorem reach_same {a b : List (Addr × Nat × Nat)} (h : SameP a b) {t u : Nat} (r : M.Reach a t u) : M.Reach b t u := by
  induction r with
  | one hz e =>
    obtain ⟨y, hy, e2⟩ := h.mem hz
    rw [← e2]
    exact .one hy (by rw [e2]; exact e)
  | step _ hz e ih =>
    obtain ⟨y, hy, e2⟩ := h.mem hz
    rw [← e2]
    exact .step ih hy (by rw [e2]; exact e)
theorem keeps_same {fs : List Int} {ds : List (Option Int)} {a b : List (Addr × Nat × Nat)} {rs hs : List Int} (h : SameP a b) (k : M.Keeps fs ds a rs hs) : M.Keeps fs ds b rs hs := by
  refine ⟨k.1, k.2.1, fun y hy => ?_, k.2.2.2⟩
  obtain ⟨z, hz, e⟩ := SameP.mem (a := b) (b := a) h.symm hy
  have := k.2.2.1 z hz
  unfold M.pNeed at this ⊢
  rw [← e]
  exact this
section
variable {K : PySem.W.Frag} {F H : Hp} {α : List Addr} {S : List O}
theorem dk_opts : ∀ {bs : List (Option Int)} {vs : List V}, DkAll K F vs (optsL bs) → vs = oV bs
  | [], _, .nil => rfl
  | none :: bs, _, .cons h r => by
    cases h
    exact congrArg _ (dk_opts r)
  | some b :: bs, _, .cons h r => by
    cases h
    exact congrArg _ (dk_opts r)
theorem dk_prs : ∀ {bs : Prs} {vs : List V}, DkAll K F vs (prsL bs) → ∃ zs : List (Addr × Nat × Nat), zs.map (·.2) = bs ∧ vs = zs.map (fun z => V.ref z.1) ∧ ∀ z ∈ zs, F z.1 = some (.tup [.int (z.2.1 : Int), .int (z.2.2 : Int)])
  | [], _, .nil => ⟨[], rfl, rfl, fun z h => (by cases h)⟩
  | b :: bs, _, .cons h r => by
    obtain ⟨zs, e1, e2, e3⟩ := dk_prs r
    have h2 : Dk K F _ (.tuple [.int (b.1 : Int), .int (b.2 : Int)]) := h
    cases h2 with
    | tup ha hd =>
      rename_i a xs
      cases hd with
      | cons x1 r1 =>
        cases r1 with
        | cons x2 r2 =>
          cases r2
          cases x1
          cases x2
          refine ⟨(a, b) :: zs, by rw [List.map_cons, e1], by rw [List.map_cons, e2], fun z hz => ?_⟩
          rcases List.mem_cons.mp hz with e | hz
          · rw [e]
            exact ha
          · exact e3 z hz
    | ktup c _ _ => cases c
/-- a job's data, where it lies -/
theorem jobAt_of {v : V} {fs : List Int} {ds : List (Option Int)} {zs : Prs} {rs : List Int} (r : RepV K F α v (.fz (jbD fs ds zs rs))) : ∃ J f d n r zs3, v = .ref J ∧ zs3.map (·.2) = zs ∧ JobAt F J f d n r fs ds zs3 rs := by
  cases r with
  | fz h =>
    have h2 : Dk K F v (.tuple [.list (intsL fs), .list (optsL ds), .list (prsL zs), .list (intsL rs)]) := h
    cases h2 with
    | tup ha hd =>
      cases hd with
      | cons x1 r1 =>
        cases r1 with
        | cons x2 r2 =>
          cases r2 with
          | cons x3 r3 =>
            cases r3 with
            | cons x4 r4 =>
              cases r4
              cases x1 with
              | lst f1 g1 =>
                cases x2 with
                | lst f2 g2 =>
                  cases x3 with
                  | lst f3 g3 =>
                    cases x4 with
                    | lst f4 g4 =>
                      obtain ⟨zs3, e1, e2, e3⟩ := dk_prs g3
                      rw [dk_ints g1] at f1
                      rw [dk_opts g2] at f2
                      rw [e2] at f3
                      rw [dk_ints g4] at f4
                      exact ⟨_, _, _, _, _, zs3, rfl, e1, ha, f1, f2, ⟨f3, e3⟩, f4⟩
    | ktup c _ _ => cases c
theorem intsAt_of {v : V} {is : List Int} (r : RepV K F α v (.fz (.list (intsL is)))) : ∃ a, v = .ref a ∧ F a = some (.lst (iV is)) := by
  obtain ⟨a, xs, rfl, h1, h2⟩ := lstV r
  rw [dk_ints h2] at h1
  exact ⟨a, rfl, h1⟩
end
def vIsJobT : VSp := fun ts S _ q => match ts, S with
  | [.fz d], [] => ∃ fs ds zs rs, d = jbD fs ds zs rs ∧ VJ fs ds zs rs ∧ q (.fz (.bool true)) []
  | _, _ => False
def vCheckJobT : VSp := fun ts S _ q => match ts, S with
  | [.fz d], [] => ∃ fs ds zs rs, d = jbD fs ds zs rs ∧ VJ fs ds zs rs ∧ q (.fz .none) []
  | _, _ => False
def vBehindL : VSp := fun ts S _ q => match ts, S with
  | [.fz d, .fz (.int a)], [] => ∃ fs ds zs rs, d = jbD fs ds zs rs ∧ VJ fs ds zs rs ∧ fs.length < 64 ∧ 0 ≤ a ∧ a < fs.length ∧ ∀ ys : List Int, (∀ b : Nat, (b : Int) ∈ ys ↔ M.Reach (nd zs) a.toNat b) → q (.fz (.list (intsL ys))) []
  | _, _ => False
def vRoomW : VSp := fun ts S _ q => match ts, S with
  | [.fz (.list d), .fz (.int s), .fz (.int e)], [] => ∃ rs, d = intsL rs ∧ 1 ≤ s ∧ rs.length ≤ 10000 ∧ q (.fz (.int (M.roomOf rs s e))) []
  | _, _ => False
def vIsPlanL : VSp := fun ts S _ q => match ts, S with
  | [.fz d, .fz (.list hd)], [] => ∃ fs ds zs rs hs, d = jbD fs ds zs rs ∧ hd = intsL hs ∧ VJ fs ds zs rs ∧ hs.length = fs.length ∧ (∀ h ∈ hs, 1 ≤ h) ∧ ∀ c : Bool, (c = true ↔ M.Keeps fs ds (nd zs) rs hs) → q (.fz (.bool c)) []
  | _, _ => False
section
variable {P : Program} {w : World} {K : PySem.W.Frag} {mg : Str → Option Value} {base : Heap}
/-- a weaker promise -/
theorem ok_imp {CX : CXT} {D : He.DefD} {x : Str} {k : Nat} {ps : List Str} {sp sp' : Sp} (h : Ok P w K mg base CX D x k ps sp) (g : ∀ vs H Q E, sp' vs H Q E → sp vs H Q E) : Ok P w K mg base CX D x k ps sp' := by
  obtain ⟨fd, D1, h1, h2, h3, h4⟩ := h
  exact ⟨fd, D1, h1, h2, h3, h4.imp g⟩
theorem ok_is_job (T : Env K mg) : Ok P w K mg base CX0 dd_is_job "is_job" 6 ["thing"] (liftV K vIsJobT) := ok_imp (M.ok_is_job T) fun vs H Q E h => by
  obtain ⟨F0, α, S, ts, q, vx, hs, rr, xl, ql, h⟩ := h
  unfold vIsJobT at h
  split at h
  · obtain ⟨fs, ds, zs, rs, rfl, hv, hq⟩ := h
    obtain ⟨v, rfl, rv⟩ := rr.one
    obtain ⟨J, f, d, n, r, zs3, rfl, e, hJ⟩ := jobAt_of rv
    refine ⟨J, f, d, n, r, fs, ds, zs3, rs, rfl, hJ.same hs.sub, hv.valid e, fun H' s => ?_⟩
    obtain ⟨h1, h2⟩ := hs.same s
    exact ql _ _ _ _ _ _ h2 h1 (.fz (.bl _)) hq
  · exact h.elim
theorem ok_check_job (T : Env K mg) : Ok P w K mg base CX0 dd_check_job "check_job" 7 ["job"] (liftV K vCheckJobT) := ok_imp (M.ok_check_job T) fun vs H Q E h => by
  obtain ⟨F0, α, S, ts, q, vx, hs, rr, xl, ql, h⟩ := h
  unfold vCheckJobT at h
  split at h
  · obtain ⟨fs, ds, zs, rs, rfl, hv, hq⟩ := h
    obtain ⟨v, rfl, rv⟩ := rr.one
    obtain ⟨J, f, d, n, r, zs3, rfl, e, hJ⟩ := jobAt_of rv
    refine ⟨J, f, d, n, r, fs, ds, zs3, rs, rfl, hJ.same hs.sub, hv.valid e, fun H' s => ?_⟩
    obtain ⟨h1, h2⟩ := hs.same s
    exact ql _ _ _ _ _ _ h2 h1 (.fz .non) hq
  · exact h.elim
end

local macro_rules | `(tactic| walk_at "v0") => `(tactic| simp only [wSeq, wNext, wBreak, wCont, wDrop, wRet, wRetN, wIfS, wAsg, wgName, wgNil, wgCons, wgTup, wgUnl, wPar, wVar, wC, wB, wAnd, wOr, wNot, wAndV, wOrV, wNotV, wIf, wOp, wUn, wCB, wNil, wCons, wIsN, wNotN, isNon, wCall, wCall0, wRng1, wRng2, wIList, wITup, wEnum, wZip, wYes, wLst, wLstN, wTup, wSl, vPart, vNoPart, wIsi, wTru, vTru, wChain, wBM, wBM0, wgSub, wAug, vI0, vI0b, vI, vNeg, vAdd, vEqW, datOf, eqS, id, vIsB, vIx, vSl, vLen, vIsi, tyT, tyD, itemsA, itemsT, seqOf, datsOf, vAll, vAny, vSum, vMax2, vMin2, vMaxL, vMinL, vList, vInt1, vAppend, vSet, isKd, allD, startG, newL, newLN, tupT, itemsV, List.getElem?_cons_zero, List.getElem?_cons_succ, List.set_cons_zero, List.set_cons_succ, List.length_cons, List.length_nil, List.map_cons, List.map_nil, ifV_true, ifV_false, List.nil_append, List.cons_append, reduceCtorEq, Bool.not_true, Bool.not_false, true_and, and_true, decide_true, decide_false, retD, retX, frzT, frzTs, clo, List.take_zero, List.take_succ_cons, List.take_nil, List.not_mem_nil, false_imp_iff, implies_true, callV, callJ, jsOf, rfsTs, rfsT, rfsO, addN, stepN, okJs, renTs, renT, renO, outN, backS, putAll, idxB, inB, renTs_fz, rfsTs_fz, List.append_nil, List.drop_nil, List.drop_zero, List.foldl_nil, List.foldl_cons, List.nodup_nil, kb_NoneType_int, kb_NoneType_bool, kb_NoneType_list, kb_NoneType_tuple, kb_NoneType_str, kb_bool_int, kb_bool_bool, kb_bool_list, kb_bool_tuple, kb_bool_str, kb_int_int, kb_int_bool, kb_int_list, kb_int_tuple, kb_int_str, kb_str_int, kb_str_bool, kb_str_list, kb_str_tuple, kb_str_str, kb_list_int, kb_list_bool, kb_list_list, kb_list_tuple, kb_list_str, kb_tuple_int, kb_tuple_bool, kb_tuple_list, kb_tuple_tuple, kb_tuple_str, kb_dict_int, kb_dict_bool, kb_dict_list, kb_dict_tuple, kb_dict_str, nodB, subL, okO, cloL, Bool.or_false, Bool.true_or, Bool.or_true, Bool.false_or, eq_self, reduceIte, Int.reduceLE, Int.reduceLT, Int.reduceAdd, Int.reduceSub, Int.reduceNeg, Int.reduceToNat, Nat.reduceAdd, Nat.reduceSub, Nat.reduceLT, Nat.reduceLeDiff, Nat.reduceEqDiff, Int.reduceEq, Int.cast_ofNat_Int, atN_nat, plN_nat, rfsTs_append, renTs_append, Option.map_some, Option.map_none, List.drop_succ_cons, fzs_snoc, fzs_cat, fzs_ins, fzs_set, Int.toNat_natCast, List.length_map, List.length_append, allD_map, allD_append, frzTs_fz, atN_map, List.getD_cons_zero, List.getD_cons_succ, beq_self_eq_true, Nat.reduceBEq, Bool.false_eq_true, vInsert, vInW, datsA, flatD, intsL_flat, intsL_any, natsL_flat, natsL_any, lcR_map, vB1, vB2, vMixed, vTake, pl, vPile, vOrder, vRoom1, vHours, vNeeds, vJob])

/-! a call that reads lists which may be changed later: they are data while it runs -/
def frzA (S : List O) : T → Option T
  | .fz d => some (.fz d)
  | .rf j => match S[j]? with
    | some (.lst us) => (allD us).map fun ds => .fz (.list ds)
    | _ => none
  | _ => none
def frzAs (S : List O) : List T → Option (List T)
  | [] => some []
  | t :: ts => match frzA S t, frzAs S ts with
    | some a, some b => some (a :: b)
    | _, _ => none
def callF (W : VSp) (ts : List T) (S : List O) (q : VQ) : Prop := match frzAs S ts with
  | some us => W us [] (fun _ _ => False) fun r _ => match r with
    | .fz d => flatD d = true ∧ q (.fz d) S
    | _ => False
  | none => False
def wCallF (W : VSp) (a : VTA) : VTE := fun vx Γ S q => a vx Γ S fun ts S1 => callF W ts S1 q
def tCallF (sp : Sp) (ex : List V) (E : XK) (t : TA) : TE := tCall sp ex E t
theorem pe_frz {X : Cx} {e : Expr} {sp : Sp} {ex : List V} {E : XK} {t : TA} (h : PE X e (tCall sp ex E t)) : PE X e (tCallF sp ex E t) := h
section
variable {K : PySem.W.Frag}
theorem frzA_ok {F H : Hp} {α : List Addr} {S : List O} {v : V} {t u : T} (hs : Hs K F α S H) (r : RepV K F α v t) (e : frzA S t = some u) : RepV K H [] v u := by
  cases t with
  | fz d =>
    cases e
    cases r with
    | fz h => exact .fz (h.same hs.sub)
  | rf j =>
    cases r with
    | rf ha =>
      unfold frzA at e
      dsimp only at e
      split at e
      · rename_i us e2
        obtain ⟨vs, h1, h2⟩ := hs.lst ha e2
        obtain ⟨ds, e3, rfl⟩ := Option.map_eq_some_iff.mp e
        rw [allD_eq e3] at h2
        exact .fz (.lst h1 (h2.dkAll.same hs.sub))
      · cases e
  | tp us => cases e
  | scr ns => cases e
theorem frzAs_ok {F H : Hp} {α : List Addr} {S : List O} (hs : Hs K F α S H) : ∀ {ts us : List T} {vs : List V}, RepVs K F α vs ts → frzAs S ts = some us → RepVs K H [] vs us
  | [], _, _, .nil, e => by cases e; exact .nil
  | t :: ts, us, _, .cons r rs, e => by
    unfold frzAs at e
    split at e
    · rename_i a b e1 e2
      cases e
      exact .cons (frzA_ok hs r e1) (frzAs_ok hs rs e2)
    · cases e
theorem flat_rep {F G : Hp} {α β : List Addr} {v : V} {d : PyData} (r : RepV K F α v (.fz d)) (h : flatD d = true) : RepV K G β v (.fz d) := by
  cases r with
  | fz x =>
    cases x <;> first
      | exact .fz .non
      | exact .fz (.bl _)
      | exact .fz (.int _)
      | exact .fz (.str _)
      | cases h
theorem liftV_frz {W : VSp} {F : Hp} {α : List Addr} {H : Hp} {S : List O} {vs : List V} {ts : List T} {E : XK} {Q : VK} {q : VQ} (hs : Hs K F α S H) (rr : RepVs K F α vs ts) (ql : QL K F α H Q q) (h : callF W ts S q) : liftV K W vs H Q E := by
  unfold callF at h
  split at h
  · rename_i us e
    refine ⟨H, [], [], us, _, fun _ _ => False, ⟨Same.rfl', rfl, List.nodup_nil, fun a h => (by cases h), fun j a o h => (by cases h)⟩, frzAs_ok hs rr e, fun _ _ _ _ _ _ _ _ _ _ z => z.elim, fun F' α' H' v r S' st hs' rv k => ?_, h⟩
    split at k
    · have sm : Same H H' := fun b o z => hs'.sub b o (st.f b o z)
      obtain ⟨g1, g2⟩ := hs.same sm
      exact ql _ _ _ _ _ _ g2 g1 (flat_rep rv k.1) k.2
    · exact k.elim
  · exact h.elim
instance {E : XK} {t : TA} {wt : VTA} {W : VSp} [ht : SimA K E t wt] : SimE K E (tCallF (liftV K W) [] E0 t) (wCallF W wt) :=
  ⟨fun {F α H σ Γ S Q q vx} hs sr xl ql h => ht.sim hs sr xl (fun _ _ _ v r _ s hs1 r1 k => by
    rw [List.append_nil]
    exact liftV_frz hs1 r1 (ql.step s) k) h⟩
instance {E : XK} {t : TA} {wt : VTA} {W : VSp} [ht : SimA K E t wt] : SimE K E (tCallF (liftV K W) [] (fun _ _ _ => False) t) (wCallF W wt) :=
  ⟨fun {F α H σ Γ S Q q vx} hs sr xl ql h => ht.sim hs sr xl (fun _ _ _ v r _ s hs1 r1 k => by
    rw [List.append_nil]
    exact liftV_frz hs1 r1 (ql.step s) k) h⟩
end
section
variable {K : PySem.W.Frag}
theorem mt_popAtX {X : Cx} : MtR X "list.pop" rPopAt := mt_popAt
theorem RepVs.erase {F : Hp} {α : List Addr} {vs : List V} {ts : List T} (r : RepVs K F α vs ts) (k : Nat) : RepVs K F α (vs.eraseIdx k) (ts.eraseIdx k) := by
  rw [List.eraseIdx_eq_take_drop_succ, List.eraseIdx_eq_take_drop_succ]
  exact (r.take _).append (r.drop _)
def vPopAt : T → List T → List O → VQ → Prop := fun x ts S q => match x, ts with
  | .rf j, [.fz (.int i)] => match S[j]? with
    | some (.lst us) => 0 ≤ i ∧ i < us.length ∧ us.length ≤ 100000 ∧ match us[i.toNat]? with
      | some t => q t (S.set j (.lst (us.eraseIdx i.toNat)))
      | none => False
    | _ => False
  | _, _ => False
instance : LMt K rPopAt vPopAt := ⟨fun {F α H S x tx xs ts Q q} hs rx rr ql h => by
  unfold vPopAt at h
  split at h
  · rename_i i
    split at h
    · rename_i us e
      obtain ⟨i0, i1, i2, h⟩ := h
      split at h
      · rename_i t e2
        cases rx with
        | rf ha =>
          obtain ⟨z, rfl, rz⟩ := rr.one
          obtain ⟨vs, h1, h2⟩ := hs.lst ha e
          obtain ⟨y, h3, h4⟩ := h2.at_ e2
          obtain ⟨g1, g2⟩ := hs.put ha (.lst (vs.eraseIdx i.toNat)) (.lst (us.eraseIdx i.toNat)) fun H' e => ⟨_, e, h2.erase _⟩
          refine ⟨_, vs, i, i.toNat, y, rfl, by rw [intV rz], h1, by omega, by omega, ?_, h3, ql _ _ _ _ _ _ g2 g1 (h4.step g2) h⟩
          have hl := h2.len
          show (if (0 ≤ (if i < 0 then i + (vs.length : Int) else i) && (if i < 0 then i + (vs.length : Int) else i) < (vs.length : Int)) = true then some (if i < 0 then i + (vs.length : Int) else i).toNat else none) = some i.toNat
          rw [if_neg (show ¬ i < 0 by omega), decide_eq_true i0, decide_eq_true (show i < (vs.length : Int) by omega)]
          rfl
      · exact h.elim
    · exact h.elim
  · exact h.elim⟩
def rTupX (K : PySem.W.Frag) : List V → Hp → VK → Prop := fun xs H Q => ∃ p ys, xs = [.ref p] ∧ ((SqL K H p ys ∧ ∀ l, H l = none → Q (.ref l) (upd H l (.tup ys))) ∨ (SqT K H p ys ∧ Q (.ref p) H))
theorem call_tupleX {X : Cx} : CallR X (.type "tuple") (rTupX X.K) := call_tuple_of
def vTupleL : VRs := fun ts S q => match ts with
  | [x] => match seqOf S x with
    | some us => q (tupT us) S
    | none => False
  | _ => False
instance : LCall K (rTupX K) vTupleL := ⟨fun {F α H S xs ts Q q} hs rr ql h => by
  unfold vTupleL at h
  split at h
  · split at h
    · rename_i e
      obtain ⟨x, rfl, rx⟩ := rr.one
      obtain ⟨a, vs, rfl, h1, h2⟩ := seqOf_ok hs rx e
      exact ⟨a, vs, rfl, .inl ⟨SqL.of h1, fun p hp => newT_ok hs ql h2 h p hp⟩⟩
    · exact h.elim
  · exact h.elim⟩
end

section
variable {K : PySem.W.Frag}
instance : LOp K (fun x y H Q => y = .non ∧ Q (.bl !decide (x = .non)) H) (fun x y S q => y = .fz .none ∧ q (.fz (.bool (!isNon x))) S) := ⟨fun {F α H S x y tx ty Q q} hs rx ry ql h => by
  obtain ⟨h1, h2⟩ := h
  subst h1
  exact ⟨nonV ry, by rw [isNon_ok rx]; exact ql_here hs ql (.fz (.bl _)) h2⟩⟩
def vNotB : VR2 := fun x y S q => match x, y with
  | .fz (.bool a), .fz (.bool b) => q (.fz (.bool (!decide (a = b)))) S
  | _, _ => False
instance : LOp K rNotB vNotB := ⟨fun {F α H S x y tx ty Q q} hs rx ry ql h => by
  unfold vNotB at h
  split at h
  · exact ⟨_, _, boolV rx, boolV ry, ql_here hs ql (.fz (.bl _)) h⟩
  · exact h.elim⟩
end

/-! what the library tells of frames, told of this layer's heaps -/
/-- all objects that the base and the frame's names are not -/
def restOf (B : Heap) (L : Addr) (h : Heap) : List (Addr × Obj) := (List.range h.objs.size).filterMap fun b => if b = L ∨ (B.get? b).isSome = true then none else (h.get? b).map fun o => (b, o)
theorem restOf_news (B : Heap) (L : Addr) (h : Heap) : News B L h (restOf B L h) := fun p hp => by
  obtain ⟨b, _, e⟩ := List.mem_filterMap.mp hp
  by_cases c : b = L ∨ (B.get? b).isSome = true
  · rw [if_pos c] at e
    cases e
  · rw [if_neg c] at e
    cases g : h.get? b with
    | none => rw [g] at e; cases e
    | some o =>
      rw [g] at e
      cases e
      refine ⟨g, fun z => c (.inl z), ?_⟩
      cases g2 : B.get? b with
      | none => rfl
      | some o2 => exact absurd (.inr (by rw [g2]; rfl)) c
theorem restOf_mem {B : Heap} {L : Addr} {h : Heap} {b : Addr} {o : Obj} (e : h.get? b = some o) (n : b ≠ L) (nb : B.get? b = none) : (b, o) ∈ restOf B L h := by
  refine List.mem_filterMap.mpr ⟨b, List.mem_range.mpr (Heap.lt_size e), ?_⟩
  rw [if_neg (fun z => z.elim n fun z => by rw [nb] at z; cases z), e]
  rfl
section
variable {X : Cx} {pins : List (Addr × Obj)} {σ : L2.St} {H H' : Hp} {s : Shared} {h' : Heap}
theorem inv_grown {tk : Nat} (I : Inv X pins σ H s) (ns : ∀ m, s.heap.Ns X.env.locals m → h'.Ns X.env.locals m) (keep : ∀ b o, b ≠ X.env.locals → s.heap.get? b = some o → h'.get? b = some o) (hH : ∀ b o, H b = some o → H' b = some o) (hn : ∀ b o, s.heap.get? b = some o → H b = none → H' b = none)
    (hok : HOk X.prog X.w H' h') : Inv X pins σ H' { s with heap := h', toks := tk } :=
  I.step (g' := s.gens) (d' := s.drawn) (ch := []) (fun b z => nomatch z) (fun b o nL _ _ e _ => keep b o nL e) (fun b o nL _ _ e _ => ⟨o.slots, keep b o nL e⟩) (fun b o _ e n => hn b o e n)
    (fun b o _ e => by
      by_cases nL : b = X.env.locals
      · subst nL
        obtain ⟨m, q, _⟩ := I.loc
        obtain ⟨o', es, ep, e', _⟩ := ns m q
        exact ⟨o', e'⟩
      · exact ⟨o, keep b o nL e⟩) (fun b xs e => hH b _ e) (fun b o u e => hH b _ e) (fun b ps e => ⟨#[], by rw [hH b _ e, Array.append_empty]⟩) ns hok I.bare
theorem hok_grown (I : Inv X pins σ H s) (keep : ∀ b o, b ≠ X.env.locals → s.heap.get? b = some o → h'.get? b = some o) (hH : ∀ b o, H b = some o → H' b = some o) {b : Addr} {o : HO} (e : H b = some o) : ObjOk X.prog X.w H' h' b o := by
  have nl : ∀ c u, H c = some u → c ≠ X.env.locals := fun c u e z => by
    rw [z, I.free] at e
    cases e
  refine (I.hok b o e).stay (fun c v hc q => keep c v ?_ q) (fun c q => hH c _ q) fun c xs q => hH c _ q
  rcases hc with rfl | hc
  · exact nl c o e
  · exact nl c _ hc
/-- from what the library keeps of a frame -/
theorem keep_news {m : Str → Option Value} {nw : List (Addr × Obj)} (I : Inv X pins σ H s) (F : Fr X.base X.env.locals h' m) (N : News X.base X.env.locals h' nw) (hN : ∀ p ∈ restOf X.base X.env.locals s.heap, p ∈ nw) : ∀ b o, b ≠ X.env.locals → s.heap.get? b = some o → h'.get? b = some o := fun b o nL e => by
  cases g : X.base.get? b with
  | none => exact (N _ (hN _ (restOf_mem e nL g))).1
  | some o2 =>
    have e2 := I.bk b o2 g
    rw [e] at e2
    cases e2
    exact F.keep b o g
theorem new_of {m : Str → Option Value} {D : Addr} {ob : Obj} {nw : List (Addr × Obj)} (I : Inv X pins σ H s) (N : News X.base X.env.locals h' ((D, ob) :: nw)) (hN : ∀ p ∈ restOf X.base X.env.locals s.heap, p ∈ nw) (lt : ∀ p ∈ nw, p.1 < D) : s.heap.get? D = none := by
  cases g : s.heap.get? D with
  | none => rfl
  | some o =>
    obtain ⟨_, n1, n2⟩ := N (D, ob) (List.mem_cons_self ..)
    exact absurd (lt _ (hN _ (restOf_mem g n1 n2))) (Nat.lt_irrefl _)
theorem okThere {P : Program} {w : World} {h : Heap} {a : Addr} {o : HO} (x : ObjOk P w H h a o) : h.get? a ≠ none := by
  intro z
  cases o with
  | lst xs => obtain ⟨_, _, _, _, e⟩ := x; rw [z] at e; cases e
  | tup xs => obtain ⟨_, _, _, _, e, _⟩ := x; rw [z] at e; cases e
  | dK kvs => obtain ⟨_, _, _, _, o, _, _, e, _⟩ := x; rw [z] at e; cases e
  | dT kvs => obtain ⟨_, _, _, _, o, _, _, e, _⟩ := x; rw [z] at e; cases e
  | set S n => obtain ⟨o, _, _, _, e, _⟩ := x; rw [z] at e; cases e
  | ins C dx fs => obtain ⟨_, _, _, e, _⟩ := x; rw [z] at e; cases e
  | own y => obtain ⟨_, e⟩ := x; rw [z] at e; cases e
  | xd fs => obtain ⟨_, ⟨_, _, _, e, _⟩, _⟩ := x; rw [z] at e; cases e
  | rng lo hi => obtain ⟨_, _, _, e⟩ := x; rw [z] at e; cases e
  | frz ob u => obtain ⟨e, _⟩ := x; rw [z] at e; cases e
  | tbl ps => rw [show h.get? a = some _ from x] at z; cases z
  | met f y => rw [show h.get? a = some _ from x] at z; cases z
  | ext φ => obtain ⟨_, ⟨_, e⟩, _⟩ := x; rw [z] at e; cases e
theorem none_of_new (I : Inv X pins σ H s) {D : Addr} (h : s.heap.get? D = none) : H D = none := by
  cases g : H D with
  | none => rfl
  | some o => exact absurd h (okThere (I.hok D o g))
/-- the names of the frame are the same -/
theorem ns_same {m : Str → Option Value} (F : Fr X.base X.env.locals s.heap m) (F' : Fr X.base X.env.locals h' m) : ∀ m', s.heap.Ns X.env.locals m' → h'.Ns X.env.locals m' := fun m' q => by
  rw [show m' = m from funext fun x => q.agree F.ns x]
  exact F'.ns
end

/-! a, *rest = a list -/
section
variable {X : Cx}
theorem pgs_starred {e : Expr} {p : Pos} {es : List Expr} {t : TG} {u : TGs} (h1 : PG X e t) (h2 : PGs X es u) (hs : (assignEach (.Starred e p :: es) X.env).map (·.2) = assign e X.env :: (assignEach es X.env).map (·.2) := by rfl) : PGs X (.Starred e p :: es) (gCons t u) := by
  refine ⟨fun pn s sl Hp0 vs us G I rel want => ?_⟩
  obtain ⟨v, vr, rfl, want⟩ := want
  cases rel with
  | cons ra rb =>
    rw [hs]
    exact assignInOrder_cons (thn (h1.run pn s sl Hp0 _ _ _ I ra want) fun _ s1 ⟨sl1, Hp1, I1, w1⟩ => h2.run pn s1 sl1 Hp1 _ _ G I1 rb w1)
def gStar (K : PySem.W.Frag) (t : TGs) : TG := fun v σ H Q => ∃ a x xs, v = .ref a ∧ SqL K H a (x :: xs) ∧ xs.length < 16384 ∧ ∀ D, H D = none → t [x, .ref D] σ (upd H D (.lst xs)) Q
theorem pg_star {es : List Expr} {kk : Nat} {pos : Pos} {t : TGs} (hc : X.calm = true) (h : PGs X es t) (hn : (assignEach es X.env).length = 2 := by rfl) (hst : (assignEach es X.env).findIdx? (·.1) = some 1 := by rfl) : PG X (.Tuple es kk pos) (gStar X.K t) := by
  refine ⟨fun pn s sl Hp0 v u G I rel want => ?_⟩
  obtain ⟨a, x, xs, rfl, hq, hl, want⟩ := want
  cases rel
  obtain ⟨its, rv, pl, hz⟩ := I.list hq
  obtain ⟨y, ys, rfl⟩ : ∃ y ys, its = y :: ys := by
    cases rv
    exact ⟨_, _, rfl⟩
  have rv1 : RelV x y := by cases rv; assumption
  have rv2 : Vals xs ys := by cases rv; assumption
  have isl : s.heap.IsList a (y :: ys).toArray := by
    obtain ⟨o, m, e, c, d, q⟩ := pl
    exact ⟨o, e, c, m, q⟩
  obtain ⟨m, F⟩ := I.fr
  have ll := rv2.length
  rw [PyProof.Rows.assign_Tuple]
  refine wpAny_bind (wpAny_standAt ?_)
  unfold unpack
  rw [hn, hst]
  refine wpAny_bind (wpAny_holding (PySem.W.kun_starL (n := 2) (i := 1) (first := [y]) (mids := ys) (lasts := []) F (restOf_news X.base X.env.locals s.heap) isl (I.ok.hd hc) (by decide) (by rw [List.size_toArray, List.length_cons]; omega) (by rw [List.size_toArray, List.length_cons]; omega) rfl ?_ ?_ fun D h' tk F' N' lt => ?_))
  · rw [List.size_toArray]
    show (ys.take (ys.length + 1 + 1 - 2)) = ys
    exact List.take_of_length_le (by omega)
  · rw [List.size_toArray]
    show (ys.drop (ys.length + 1 + 1 - 2)) = []
    exact List.drop_eq_nil_of_le (by omega)
  have kp := keep_news I F' (fun p hp => N' p (List.mem_cons_of_mem _ hp)) (fun p hp => hp)
  have nD := new_of (m := m) I N' (fun p hp => hp) lt
  have nH := none_of_new I nD
  have sm : ∀ b o, Hp0 b = some o → upd Hp0 D (.lst xs) b = some o := fun b o e => by
    rw [upd_ne (fun z => by rw [z, nH] at e; cases e)]
    exact e
  have I1 : Inv X pn sl (upd Hp0 D (.lst xs)) { s with heap := h', toks := tk } := inv_grown I (ns_same F F') kp sm (fun b o e n => by
      rw [upd_ne (fun z => by rw [z, nD] at e; cases e)]
      exact n) (fun b o e => by
      by_cases hb : b = D
      · subst hb
        rw [upd_same] at e
        cases e
        exact ⟨Nat.le_trans (Nat.le_succ _) hz, ys, 0, rv2, (N' _ (List.mem_cons_self ..)).1⟩
      · rw [upd_ne hb] at e
        exact hok_grown I kp sm e)
  exact h.run pn _ sl _ [x, .ref D] _ G I1 (.cons rv1 (.cons rfl .nil)) (want D nH)
end

/-! enumerate(list, start=k) -/
/-- from the count k on -/
def IteC (K : PySem.W.Frag) (k : Int) (a : Addr) : It where
  go := fun i H => ∃ (xs : List V) (x : V), SqL K H a xs ∧ xs[i]? = some x
  yld := fun i H v H' => ∃ T x, v = .ref T ∧ H T = none ∧ H' = upd H T (.tup [.int (k + (i : Nat)), x]) ∧ ∀ xs, SqL K H a xs → xs[i]? = some x
  stop := fun i H => ∃ xs : List V, SqL K H a xs ∧ xs.length ≤ i
theorem turn_enumC {P : Program} {w : World} {K : PySem.W.Frag} {elts : List Expr} {kk : Nat} {tpos : Pos} (a e it : Addr) (k : Int) :
    Turn P w K (.Tuple elts kk tpos) (IteC K k a) [e, it] e (fun i h => (∃ old, IsEnum h e it (k + (i : Nat)) old) ∧ h.IsListIter it a i ∧ e ≠ it) := by
  have two : ∀ b, b ∈ [e, it] → b = e ∨ b = it := fun b hb => by simpa using hb
  refine ⟨by simp, fun i h st b hb => ?_, fun i h h' st kp => ?_, ?_, ?_, ?_⟩
  · obtain ⟨⟨old, he⟩, ⟨o, ho, hc, hd⟩, _⟩ := st
    rcases two b hb with rfl | rfl
    · exact ⟨_, he, fun v q => nomatch q⟩
    · exact ⟨o, ho, fun v q => by rw [hd] at q; cases q⟩
  · obtain ⟨⟨old, he⟩, hi, hne⟩ := st
    exact ⟨⟨old, kp e (by simp) _ he⟩, hi.at fun o q => kp it (by simp) o q, hne⟩
  · intro X eP ew eK calm i pns s sl Hp0 E I hf st going
    subst eP ew eK
    obtain ⟨⟨old, he⟩, hit, hne⟩ := st
    obtain ⟨xs, x, hq, hx⟩ := going
    obtain ⟨its, rv, pl, hz⟩ := I.list hq
    obtain ⟨u, hu, ru⟩ := rv.get hx
    have isl := pl.isList
    have lte : e < s.heap.objs.size := Heap.lt_size he
    have lti : it < s.heap.objs.size := by
      obtain ⟨_, q, _⟩ := hit
      exact Heap.lt_size q
    have nea : e ≠ a := fun z => by
      obtain ⟨o, q, c, _⟩ := isl
      rw [← z, he] at q
      cases q
      exact absurd (Value.type.inj c) (by decide)
    have nai : a ≠ it := fun z => by
      obtain ⟨o, q, c, _⟩ := isl
      obtain ⟨o2, q2, c2, _⟩ := hit
      rw [z, q2] at q
      cases q
      rw [c2] at c
      exact absurd (Value.type.inj c) (by decide)
    have hlt : i < its.toArray.size := by
      have := (List.getElem?_eq_some_iff.mp hu).1
      simpa using this
    refine wpAny_pyNext_enum_itemC (Draws.list (A := X.A.in1) (I.ok.hd calm) it a nai its.toArray) he ⟨hit, isl⟩ hlt hne (fun z => by simp at z; exact z.elim hne nea) fun v h1 tk pv ho st1 hT hsz keep => ?_
    have hv : v = u := by
      have e1 : its[i]? = some v := by simpa using pv
      rw [hu] at e1
      exact (Option.some.inj e1).symm
    subst hv
    refine ⟨_, rfl, wpAny_letOwnedTupleGo_enum (s := { s with heap := h1, toks := tk + 1 }) ho fun h2 he2 sb => ?_⟩
    have hT2 : h2.get? s.heap.objs.size = some { cls := .type "tuple", data := .seq #[.int (k + (i : Nat)) tk, v] } := (sb.2 _ (Nat.ne_of_gt lte)).trans hT
    have fresh : ObjOk X.prog X.w (upd Hp0 s.heap.objs.size (.tup [.int (k + (i : Nat)), x])) h2 s.heap.objs.size (.tup [.int (k + (i : Nat)), x]) :=
      ⟨(by show 2 ≤ sizeLine; decide), [.int (k + (i : Nat)) tk, v], .cons ⟨_, rfl⟩ (.cons ru .nil), ⟨_, hT2, rfl, _, rfl⟩⟩
    have I1 : Inv X pns sl (upd Hp0 s.heap.objs.size (.tup [.int (k + (i : Nat)), x])) { s with heap := h2, toks := tk + 1 } := by
      refine I.turnedNew (ch := [e, it]) (fun b ob hb q => ?_) hf (Nat.le_refl _) fresh
      have n1 : b ≠ e := fun z => hb (by simp [z])
      exact (sb.2 b n1).trans (keep b ob n1 (fun z => hb (by simp [z])) q)
    refine ⟨.ref s.heap.objs.size, _, I1, rfl, ⟨_, x, rfl, I.hok.fresh (Nat.le_refl _), rfl, fun ys hy => by rw [I.list_inj hy hq]; exact hx⟩, ⟨⟨v, ?_⟩, st1.1.at fun o q => (sb.2 it (Ne.symm hne)).trans q, hne⟩, fun b hb => ?_⟩
    · rw [show k + ((i + 1 : Nat) : Int) = k + (i : Nat) + 1 by omega]
      exact he2
    · have lt : b < s.heap.objs.size := by
        rcases two b hb with rfl | rfl
        · exact lte
        · exact lti
      rw [upd_ne (Nat.ne_of_lt lt)]
      exact (hf b hb).1
  · intro X eP ew eK calm i pns s sl Hp0 E I hf st ended
    subst eP ew eK
    obtain ⟨⟨old, he⟩, hit, hne⟩ := st
    obtain ⟨xs, hq, hx⟩ := ended
    obtain ⟨its, rv, pl, hz⟩ := I.list hq
    have isl := pl.isList
    obtain ⟨f0, f1, f2, f3, f4, f5⟩ := hf it (by simp)
    have hl := rv.length
    have none_ : its.toArray[i]? = none := by
      simp only [List.getElem?_toArray, List.getElem?_eq_none_iff]
      omega
    have D : Draws X.prog X.w X.A.in1 it [it, a] i (fun _ _ => True) (fun j h => j = i ∧ h.IsListIter it a i ∧ h.IsList a its.toArray) :=
      ⟨fun j h st => by
        obtain ⟨_, ⟨o, q, _⟩, _⟩ := st
        exact ⟨o, q⟩, fun j h h' st kp => ⟨st.1, st.2.1.at fun o q => kp it (by simp) o q, st.2.2.at fun o q => kp a (by simp) o q⟩,
        fun j s Q E lt st _ => absurd st.1 (Nat.ne_of_lt lt), fun s Q E st want => wpAny_nextOf_list_end (I.ok.hd calm) st.2.1 st.2.2 none_ want⟩
    exact wpAny_pyNext_enum_endD D he ⟨rfl, hit, isl⟩ fun h1 eb => ⟨rfl, I.turned (t' := s.toks) (fun b o hb q => eb b o hb q) f0 f1 f3 f4 f5⟩
  · intro A i s Q E st want
    obtain ⟨⟨old, he⟩, _, _⟩ := st
    exact wpAny_pyIter_enum he want
theorem callWith_tk {M : Model} {A : Around} {E : Value → Shared → Prop} {s : Shared} {pos : Pos} {T : String} {first : List Value} {args : List (Bool × Sem Value)} {kws : List (Option Str × Sem Value)} {Q : Value → Shared → Prop} (p1 : args.any (·.1) = false) (p2 : kws.any (·.1.isNone) = false)
    (want : wpAny M A (evalArgs (.type T) true args kws) (fun ar s1 => wpAny M A (call (.type T) (first ++ ar.pos) ar.kw) Q E s1) E s) : wpAny M A (callWith pos (.type T) first args kws) Q E s := by
  unfold callWith
  refine wpAny_bind (wpAny_holding (wpAny_mono want (fun ar s1 w1 => wpAny_bind (wpAny_standAt ?_)) fun _ _ z => z))
  simp only [p1, p2, Bool.or_false]
  exact wpAny_bind (wpAny_pure (wpAny_bind (wpAny_mono w1 (fun r s2 w2 => wpAny_bind (wpAny_holding (wpAny_point (wpAny_pure w2)))) fun _ _ z => z)))
def iEnumC (K : PySem.W.Frag) (k : Int) (ta : TA) : TI := fun σ H R => ta σ H fun vs H1 => ∃ a xs, vs = [.ref a] ∧ SqL K H1 a xs ∧ R (IteC K k a) H1
theorem pi_enumC {X : Cx} {e : Expr} {ta : TA} {p pos tpos : Pos} {elts : List Expr} {kws : List Keyword} {kk : Nat} {k : Int} (hg : Gl X "enumerate") (hm : X.mg "enumerate" = none) (ha : PA X [e] ta) (k0 : -(2 ^ 63) ≤ k) (k1 : k < 2 ^ 63)
    (hk : PK X kws (tCons (tC (.int k)) tNil)) (he : starEach [e] X.env = [(false, eval e X.env)] := by rfl) (hall : (backToKw pos (keywordEach kws X.env)).all (·.1.isSome) = true := by rfl)
    (hpl : ((backTo pos (starEach [e] X.env)).any (·.1) || (backToKw pos (keywordEach kws X.env)).any (·.1.isNone)) = false := by rfl) (hks : (backToKw pos (keywordEach kws X.env)).filterMap (·.1) = [("start" : Str)] := by rfl) :
    PI X (.Tuple elts kk tpos) (.Call (.Name "enumerate" p) [e] kws pos) (iEnumC X.K k ta) := by
  refine ⟨fun pns s sl Hp0 R I want => ?_⟩
  refine wpAny_Call_Name_kw (ld_blt I hg hm boot_enumerate ?_)
  refine callWith_tk (by
    have h2 := hpl
    rw [Bool.or_eq_false_iff] at h2
    exact h2.1) (by
    have h2 := hpl
    rw [Bool.or_eq_false_iff] at h2
    exact h2.2) (evalArgs_kw2 hall (thn (ha.run pos pns s sl Hp0 _ I want) fun us s1 ⟨vs, H1, I1, r1, q1⟩ => thn (hk.run pos pns s1 sl H1 (fun zs H2 => zs = [.int k] ∧ H2 = H1) I1 ⟨rfl, rfl⟩) fun ws s2 ⟨zs, H2, I2, r2, q2⟩ => ?_) he)
  obtain ⟨rfl, rfl⟩ := q2
  obtain ⟨a, xs, rfl, hq, q⟩ := q1
  rw [hks]
  obtain ⟨t, rfl⟩ : ∃ t, ws = [.int k t] := by
    cases r2 with
    | cons rr rs =>
      cases rs
      obtain ⟨t, e⟩ := rr
      exact ⟨t, by rw [e]⟩
  obtain rfl : us = [.ref a] := by
    cases r1 with
    | cons rr rs =>
      cases rs
      cases rr
      rfl
  obtain ⟨its, rv, pl, hz⟩ := I2.list hq
  refine enum_begins_start (begins_list a its.toArray) pl.isList k0 k1 fun h1 he1 hit hsz keep => wpAny_pyIter_enum he1 ?_
  have I3 : Inv X pns sl H2 { s2 with heap := h1 } := I2.kept (t' := s2.toks) keep
  refine ⟨s2.heap.objs.size + 1, [s2.heap.objs.size + 1, s2.heap.objs.size], _, _, H2, rfl, I3, turn_enumC a (s2.heap.objs.size + 1) s2.heap.objs.size k, ⟨⟨.none, by rw [show k + ((0 : Nat) : Int) = k by omega]; exact he1⟩, ⟨_, hit, rfl, rfl⟩, Nat.succ_ne_self _⟩, fun b hb => ?_, q⟩
  have le : s2.heap.objs.size ≤ b := by
    have e2 : b = s2.heap.objs.size + 1 ∨ b = s2.heap.objs.size := by simpa using hb
    rcases e2 with e2 | e2
    · rw [e2]
      exact Nat.le_succ _
    · rw [e2]
      exact Nat.le_refl _
  exact I2.fpOk le (I2.hok.fresh le)

/-! told of values: enumerate from a count, a starred target -/
section
variable {K : PySem.W.Frag}
theorem walks_enumC {F H : Hp} {α : List Addr} {a : Addr} {items : List T} {okS : List O → Prop} {k : Nat} (hL : ∀ {F' α' H' S'}, Step F α H F' α' H' → Hs K F' α' S' H' → okS S' → ∃ vs, H' a = some (.lst vs) ∧ RepVs K F' α' vs items) : Walks K (IteC K (k : Int) a) (enumT k items) okS F α H := by
  refine ⟨fun {F' α' H' S' i x} st hs ok hx => ?_, fun {F' α' H' S' i} st hs ok le => ?_⟩
  · obtain ⟨t, h1, rfl⟩ := enumT_get hx
    obtain ⟨vs, h2, h3⟩ := hL st hs ok
    obtain ⟨v, hv, rv⟩ := h3.at_ h1
    refine ⟨⟨vs, v, SqL.of h2, hv⟩, fun v2 H2 ⟨p, x, e1, e2, e3, e4⟩ => ?_⟩
    subst e1 e3
    have e5 := e4 vs (SqL.of h2)
    rw [hv] at e5
    cases e5
    have ei : ((k + i : Nat) : Int) = (k : Int) + (i : Nat) := by omega
    obtain ⟨g1, g2, g3⟩ := hs.tup (ts := [.fz (.int ((k + i : Nat) : Int)), t]) e2 (.cons (.fz (by rw [ei]; exact .int _)) (.cons rv .nil))
    exact ⟨_, g1, g2, g3⟩
  · obtain ⟨vs, h2, h3⟩ := hL st hs ok
    rw [enumT_len] at le
    exact ⟨vs, SqL.of h2, by rw [h3.len]; exact le⟩
def wEnumC (k : Nat) (a : VTA) : VIt := fun vx Γ S q => a vx Γ S fun ts S1 => match ts with
  | [x] => match itemsV S1 x with
    | some (ts, okS) => q (enumT k ts) okS S1
    | none => False
  | _ => False
instance {E : XK} {ta : TA} {wa : VTA} {k : Nat} [ha : SimA K E ta wa] : SimI K E (iEnumC K (k : Int) ta) (wEnumC k wa) := ⟨fun {F α H σ Γ S R q vx} hs sr xl nx h => ha.sim hs sr xl (fun F1 α1 H1 v r S1 s hs' rv z => by
  split at z
  · obtain ⟨y, rfl, ry⟩ := rv.one
    split at z
    · rename_i ts okS e
      obtain ⟨a, rfl, h1, h2, h3⟩ := items_ok (K := K) hs' ry e
      obtain ⟨vs, h4, _⟩ := h3 .refl hs' h1
      exact ⟨a, vs, rfl, SqL.of h4, nx _ _ _ _ _ _ _ s hs' (walks_enumC h3) z⟩
    · exact z.elim
  · exact z.elim) h⟩
def wgStar (u : VTGs) : VTG := fun vx r Γ S q => match seqOf S r with
  | some (x :: xs) => xs.length < 16384 ∧ match allD xs with
    | some ds => u vx [x, .fz (.list ds)] Γ S q
    | none => u vx [x, .rf S.length] Γ (S ++ [.lst xs]) q
  | _ => False
instance {E : XK} {gs : TGs} {wgs : VTGs} [hgs : SimGs K E gs wgs] : SimG K E (gStar K gs) (wgStar wgs) := ⟨fun {F α H σ Γ S v r Q q vx} hs sr rr xl gl h => by
  unfold wgStar at h
  split at h
  · rename_i x xs e
    obtain ⟨a, vs, rfl, h1, h2⟩ := seqOf_ok hs rr e
    cases h2 with
    | cons rx rxs =>
      rename_i y ys
      refine ⟨a, y, ys, rfl, SqL.of h1, by rw [rxs.len]; exact h.1, fun D hD => ?_⟩
      have h := h.2
      split at h
      · rename_i ds e2
        rw [allD_eq e2] at rxs
        obtain ⟨g1, g2, g3⟩ := hs.lstN hD rxs
        exact hgs.sim g1 (sr.step g2) (.cons (rx.step g2) (.cons g3 .nil)) (xl.step g2) (gl.step g2) h
      · obtain ⟨g1, g2⟩ := hs.alloc hD (.lst ys) (.lst xs) fun H' e => ⟨ys, e, rxs.mono Same.rfl'⟩
        exact hgs.sim g1 (sr.step g2) (.cons (rx.step g2) (.cons (newRef g1) .nil)) (xl.step g2) (gl.step g2) h
  · exact h.elim⟩
end

/-! told of values: what is never reached, str and int of words, a call that reads a tuple of lists as data -/
section
variable {K : PySem.W.Frag}
def wNever : VTS := fun _ _ _ _ => False
instance {E : XK} : SimS K E tNever wNever := ⟨fun _ _ _ _ h => h.elim⟩
def rStrW : List V → Hp → VK → Prop := fun xs H Q => (∃ i, xs = [V.int i] ∧ i.natAbs.log2 < 1920 ∧ Q (V.str (PySem.Str.ofString (toString i))) H) ∨ ∃ a, xs = [V.str a] ∧ Q (.str a) H
theorem call_str_self {X : Cx} : CallR X (.type "str") fun xs H Q => ∃ a, xs = [V.str a] ∧ Q (.str a) H := by
  intro pins s σ H xs us Q I r h
  obtain ⟨a, rfl, q⟩ := h
  obtain ⟨u, rfl, t, rfl⟩ := vals1 r
  exact PySem.P.str_of_str ⟨.str a, H, I, ⟨t, rfl⟩, q⟩
theorem call_strW {X : Cx} : CallR X (.type "str") rStrW := CallR.or call_str_int call_str_self
/-- a word's text -/
def wordS : PyData → Str
  | .int i => PySem.Str.ofString (toString i)
  | .str a => a
  | _ => ⟨#[]⟩
def isWord : PyData → Bool
  | .int i => decide (i.natAbs.log2 < 1920)
  | .str _ => true
  | _ => false
def vStrW : VRs := fun ts S q => match ts with
  | [.fz d] => isWord d = true ∧ q (.fz (.str (wordS d))) S
  | _ => False
instance : LCall K rStrW vStrW := ⟨fun {F α H S xs ts Q q} hs rr ql h => by
  unfold vStrW at h
  split at h
  · rename_i d
    obtain ⟨y, rfl, ry⟩ := rr.one
    cases d with
    | int i => exact .inl ⟨i, by rw [intV ry], of_decide_eq_true h.1, ql_here hs ql (.fz (.str _)) h.2⟩
    | str a => exact .inr ⟨a, by rw [strV ry], ql_here hs ql (.fz (.str _)) h.2⟩
    | _ => exact absurd h.1 (by intro z; cases z)
  · exact h.elim⟩
def rIntW : List V → Hp → VK → Prop := fun xs H Q => ∃ a n, xs = [V.str a] ∧ PySem.intText? a = some n ∧ a.length ≤ 640 ∧ Q (V.int n) H
theorem call_intW {X : Cx} : CallR X (.type "int") rIntW := call_int_str
def vIntW : VRs := fun ts S q => match ts with
  | [.fz (.str a)] => a.length ≤ 640 ∧ match PySem.intText? a with
    | some n => q (.fz (.int n)) S
    | none => False
  | _ => False
instance : LCall K rIntW vIntW := ⟨fun {F α H S xs ts Q q} hs rr ql h => by
  unfold vIntW at h
  split at h
  · obtain ⟨y, rfl, ry⟩ := rr.one
    obtain ⟨h1, h⟩ := h
    split at h
    · rename_i n e
      exact ⟨_, n, by rw [strV ry], e, h1, ql_here hs ql (.fz (.int _)) h⟩
    · exact h.elim
  · exact h.elim⟩
theorem pg_starK {X : Cx} {es : List Expr} {kk : Nat} {pos : Pos} {t : TGs} (hK : X.K = K) (hc : X.calm = true) (h : PGs X es t) (hn : (assignEach es X.env).length = 2 := by rfl) (hst : (assignEach es X.env).findIdx? (·.1) = some 1 := by rfl) : PG X (.Tuple es kk pos) (gStar K t) := by
  subst hK
  exact pg_star hc h hn hst
theorem pi_enumCK {X : Cx} {tg l : Expr} {k : Int} {t : TA} (hK : X.K = K) (h : PI X tg l (iEnumC X.K k t)) : PI X tg l (iEnumC K k t) := by subst hK; exact h
/-! a tuple whose lists may be changed later, read as data -/
def frzD (S : List O) : T → Option PyData
  | .tp ts => ((frzAs S ts).bind allD).map .tuple
  | t => (frzA S t).bind fun u => match u with
    | .fz d => some d
    | _ => none
theorem frzD_ok {F H : Hp} {α : List Addr} {S : List O} {v : V} {t : T} {d : PyData} (hs : Hs K F α S H) (r : RepV K F α v t) (e : frzD S t = some d) : Dk K H v d := by
  have plain : ∀ {t : T}, RepV K F α v t → ((frzA S t).bind fun u => match u with
    | .fz d => some d
    | _ => none) = some d → Dk K H v d := fun {t} r e => by
    rw [Option.bind_eq_some_iff] at e
    obtain ⟨u, e1, e2⟩ := e
    have r2 := frzA_ok hs r e1
    cases u with
    | fz d' =>
      cases e2
      cases r2 with
      | fz h => exact h
    | _ => cases e2
  cases t with
  | tp ts =>
    cases r with
    | tp ha rs =>
      obtain ⟨ds, e1, rfl⟩ := Option.map_eq_some_iff.mp e
      rw [Option.bind_eq_some_iff] at e1
      obtain ⟨us, e2, e3⟩ := e1
      have r2 := frzAs_ok hs rs e2
      rw [allD_eq e3] at r2
      exact .tup (hs.sub _ _ ha) r2.dkAll
  | fz d => exact plain r e
  | rf j => exact plain r e
  | scr ns => exact plain r e
def frzDs (S : List O) : List T → Option (List T)
  | [] => some []
  | t :: ts => match frzD S t, frzDs S ts with
    | some a, some b => some (.fz a :: b)
    | _, _ => none
theorem frzDs_ok {F H : Hp} {α : List Addr} {S : List O} (hs : Hs K F α S H) : ∀ {ts us : List T} {vs : List V}, RepVs K F α vs ts → frzDs S ts = some us → RepVs K H [] vs us
  | [], _, _, .nil, e => by cases e; exact .nil
  | t :: ts, us, _, .cons r rs, e => by
    unfold frzDs at e
    split at e
    · rename_i a b e1 e2
      cases e
      exact .cons (.fz (frzD_ok hs r e1)) (frzDs_ok hs rs e2)
    · cases e
def callD (W : VSp) (ts : List T) (S : List O) (q : VQ) : Prop := match frzDs S ts with
  | some us => W us [] (fun _ _ => False) fun r _ => match r with
    | .fz d => flatD d = true ∧ q (.fz d) S
    | _ => False
  | none => False
def wCallD (W : VSp) (a : VTA) : VTE := fun vx Γ S q => a vx Γ S fun ts S1 => callD W ts S1 q
def tCallD (sp : Sp) (ex : List V) (E : XK) (t : TA) : TE := tCall sp ex E t
theorem pe_frd {X : Cx} {e : Expr} {sp : Sp} {ex : List V} {E : XK} {t : TA} (h : PE X e (tCall sp ex E t)) : PE X e (tCallD sp ex E t) := h
theorem liftV_frd {W : VSp} {F : Hp} {α : List Addr} {H : Hp} {S : List O} {vs : List V} {ts : List T} {E : XK} {Q : VK} {q : VQ} (hs : Hs K F α S H) (rr : RepVs K F α vs ts) (ql : QL K F α H Q q) (h : callD W ts S q) : liftV K W vs H Q E := by
  unfold callD at h
  split at h
  · rename_i us e
    refine ⟨H, [], [], us, _, fun _ _ => False, ⟨Same.rfl', rfl, List.nodup_nil, fun a h => (by cases h), fun j a o h => (by cases h)⟩, frzDs_ok hs rr e, fun _ _ _ _ _ _ _ _ _ _ z => z.elim, fun F' α' H' v r S' st hs' rv k => ?_, h⟩
    split at k
    · have sm : Same H H' := fun b o z => hs'.sub b o (st.f b o z)
      obtain ⟨g1, g2⟩ := hs.same sm
      exact ql _ _ _ _ _ _ g2 g1 (flat_rep rv k.1) k.2
    · exact k.elim
  · exact h.elim
instance {E : XK} {t : TA} {wt : VTA} {W : VSp} [ht : SimA K E t wt] : SimE K E (tCallD (liftV K W) [] E0 t) (wCallD W wt) :=
  ⟨fun {F α H σ Γ S Q q vx} hs sr xl ql h => ht.sim hs sr xl (fun _ _ _ v r _ s hs1 r1 k => by
    rw [List.append_nil]
    exact liftV_frd hs1 r1 (ql.step s) k) h⟩
instance {E : XK} {t : TA} {wt : VTA} {W : VSp} [ht : SimA K E t wt] : SimE K E (tCallD (liftV K W) [] (fun _ _ _ => False) t) (wCallD W wt) :=
  ⟨fun {F α H σ Γ S Q q vx} hs sr xl ql h => ht.sim hs sr xl (fun _ _ _ v r _ s hs1 r1 k => by
    rw [List.append_nil]
    exact liftV_frd hs1 r1 (ql.step s) k) h⟩
/-- repr of a tuple of lists -/
def rShowD (K : PySem.W.Frag) : List V → Hp → VK → Prop := rShow K
theorem call_reprD {X : Cx} {T : Value} (h : CallR X T (rShow K)) : CallR X T (rShowD K) := h
def vShowD : VRs := fun ts S q => match ts with
  | [.tp us] => match frzD S (.tp us) with
    | some d => d.showable = true ∧ d.hasDict = false ∧ d.depth ≤ 40 ∧ d.shown.length ≤ sizeLine ∧ q (.fz (.str d.shown)) S
    | _ => False
  | _ => False
instance : LCall K (rShowD K) vShowD := ⟨fun {F α H S xs ts Q q} hs rr ql h => by
  unfold vShowD at h
  split at h
  · split at h
    · rename_i d e
      obtain ⟨x, rfl, rx⟩ := rr.one
      have hd := frzD_ok hs rx e
      cases rx with
      | tp ha rs => exact ⟨_, d, rfl, hd.dp, h.1, h.2.1, h.2.2.1, h.2.2.2.1, ql_here hs ql (.fz (.str _)) h.2.2.2.2⟩
    · exact h.elim
  · exact h.elim⟩
/-- a comprehension over data that makes data -/
theorem lcV_dat {g : T → List O → (Gm → List O → Prop) → Prop} {c : Gm → List O → (Bool → List O → Prop) → Prop} {e : Gm → List O → VQ → Prop} {okS : List O → Prop} {q : VQ} {ds : List PyData} {S : List O} (f : PyData → PyData) (hs : okS S) (hl : ds.length ≤ 100000)
    (step : ∀ (i : Nat) (d : PyData) (k : T → List O → Prop) (k0 : List O → Prop), ds[i]? = some d → k (.fz (f d)) S → g (.fz d) S fun Γ1 S1 => c Γ1 S1 fun b S2 => ifV b (e Γ1 S2 fun y S3 => k y S3) (k0 S2))
    (hd : q (.fz (.list (ds.map f))) S) : lcV g c e okS (lcR q) [] (ds.map T.fz) S := by
  refine lcV_map (fun t => match t with | .fz d => .fz (f d) | t => t) hs (by rw [List.length_map]; exact hl) (fun i x k k0 hx hk => ?_) ?_
  · rw [List.getElem?_map] at hx
    obtain ⟨d, h1, rfl⟩ := Option.map_eq_some_iff.mp hx
    exact step i d k k0 h1 hk
  · rw [List.map_map]
    show lcR q (ds.map (T.fz ∘ f)) S
    rw [← List.map_map, lcR_map]
    exact hd
theorem lcV_of {β : Type} {bs : List β} {g : T → List O → (Gm → List O → Prop) → Prop} {c : Gm → List O → (Bool → List O → Prop) → Prop} {e : Gm → List O → VQ → Prop} {okS : List O → Prop} {q : VQ} {S : List O} (gd f : β → PyData) (hs : okS S) (hl : bs.length ≤ 100000)
    (step : ∀ (i : Nat) (b : β) (k : T → List O → Prop) (k0 : List O → Prop), bs[i]? = some b → k (.fz (f b)) S → g (.fz (gd b)) S fun Γ1 S1 => c Γ1 S1 fun b S2 => ifV b (e Γ1 S2 fun y S3 => k y S3) (k0 S2))
    (hd : q (.fz (.list (bs.map f))) S) : lcV g c e okS (lcR q) [] ((bs.map gd).map T.fz) S := by
  refine lcV_inv (fun i acc S' => S' = S ∧ acc = ((bs.take i).map f).map T.fz) ⟨rfl, rfl⟩ (fun i acc S' _ h => by rw [h.1]; exact hs) (fun i x acc S' k hx h hk => ?_) (fun acc S' h => ?_)
  · obtain ⟨rfl, rfl⟩ := h
    rw [List.getElem?_map, List.getElem?_map] at hx
    cases hb : bs[i]? with
    | none =>
      rw [hb] at hx
      cases hx
    | some b =>
      rw [hb] at hx
      cases hx
      have hil := (List.getElem?_eq_some_iff.mp hb).1
      refine step i b (fun y S3 => (((bs.take i).map f).map T.fz).length < 100000 ∧ k (((bs.take i).map f).map T.fz ++ [y]) S3) _ hb ⟨?_, hk _ _ ⟨rfl, ?_⟩⟩
      · rw [List.length_map, List.length_map, List.length_take]
        omega
      · rw [List.take_add_one, hb, List.map_append, List.map_append]
        rfl
  · obtain ⟨rfl, rfl⟩ := h
    rw [List.length_map, List.length_map, List.take_length, lcR_map]
    exact hd
theorem atX_0 {α : Type} (a : α) (l : List α) : atN (a :: l) 0 = some a := rfl
theorem atX_1 {α : Type} (a b : α) (l : List α) : atN (a :: b :: l) 1 = some b := rfl
theorem atX_2 {α : Type} (a b c : α) (l : List α) : atN (a :: b :: c :: l) 2 = some c := rfl
theorem atX_3 {α : Type} (a b c d : α) (l : List α) : atN (a :: b :: c :: d :: l) 3 = some d := rfl
instance {E : XK} {ta : TA} {wa : VTA} [ha : SimA K E ta wa] : SimI K E (iEnumC K 1 ta) (wEnumC 1 wa) := inferInstanceAs (SimI K E (iEnumC K ((1 : Nat) : Int) ta) (wEnumC 1 wa))
/-! a list, so many times -/
theorem RepVs.reps {F : Hp} {α : List Addr} {vs : List V} {ts : List T} (r : RepVs K F α vs ts) : ∀ n : Nat, RepVs K F α (List.replicate n vs).flatten (List.replicate n ts).flatten
  | 0 => .nil
  | n + 1 => by
    rw [List.replicate_succ, List.replicate_succ, List.flatten_cons, List.flatten_cons]
    exact r.append (RepVs.reps r n)
def repL (k : VQ → List T → List O → Prop) (x y : T) (S : List O) (q : VQ) : Prop := match seqOf S x, y with
  | some ts, .fz (.int i) => 0 ≤ i ∧ i ≤ 100000 ∧ ts.length * i.toNat ≤ 100000 ∧ k q (List.replicate i.toNat ts).flatten S
  | _, _ => False
theorem repL_ok {F H : Hp} {α : List Addr} {S : List O} {x y : V} {tx ty : T} {Q : VK} {q : VQ} (k : VQ → List T → List O → Prop)
    (hk : ∀ {ts : List T} {vs : List V}, RepVs K F α vs ts → k q ts S → ∀ p, H p = none → Q (.ref p) (upd H p (.lst vs))) (hs : Hs K F α S H) (rx : RepV K F α x tx) (ry : RepV K F α y ty) (h : repL k tx ty S q) : rRep x y H Q := by
  unfold repL at h
  split at h
  · rename_i ts i e
    obtain ⟨a, vs, rfl, h1, h2⟩ := seqOf_ok hs rx e
    obtain ⟨i0, i1, i2, h⟩ := h
    exact ⟨a, i, vs, rfl, intV ry, h1, by omega, by omega, by rw [h2.len]; exact small_sz i2, hk (h2.reps _) h⟩
  · exact h.elim
def rRepX : R2 := rRep
def rRepXN : R2 := rRep
theorem op_repX {X : Cx} : OpR X (binaryOp .Mult) rRepX := op_rep
theorem op_repXN {X : Cx} : OpR X (binaryOp .Mult) rRepXN := op_rep
instance : LOp K rRepX (fun x y S q => repL newL x y S q) := ⟨fun hs rx ry ql h => repL_ok newL (fun r h => newL_ok hs ql r h) hs rx ry h⟩
instance : LOp K rRepXN (fun x y S q => repL newLN x y S q) := ⟨fun hs rx ry ql h => repL_ok newLN (fun r h => newLN_ok hs ql r h) hs rx ry h⟩
end

theorem vifS {c : VTT} {t u : VTS} {vx : VX} {d : VEn} {Γ : Gm} {S : List O} (h : ∀ k : Bool → List O → Prop, (∀ b S', ifV b (t vx d Γ S') (u vx d Γ S') → k b S') → c vx Γ S k) : wIfS c t u vx d Γ S := h _ fun _ _ h => h

theorem shX_pair (i j : Int) : SeqAt.shaped (.tuple [.int i, .int j]) = true := rfl
theorem shX_prs (zs : Prs) : SeqAt.shaped (.list (prsL zs)) = true := M.shaped_map prD (fun _ => ⟨rfl, (show 1 ≤ 10 by decide)⟩) zs
theorem anyX_prs (zs : Prs) (u t : Nat) : ((prsL zs).any fun z => PyData.eqv z (.tuple [.int (u : Int), .int (t : Int)])) = decide ((u, t) ∈ zs) := by
  have eqv_i : ∀ i j : Int, PyData.eqv (.int i) (.int j) = decide (i = j) := fun i j => rfl
  rw [Bool.eq_iff_iff, List.any_eq_true, decide_eq_true_iff]
  unfold prsL
  constructor
  · rintro ⟨d, hd, e⟩
    obtain ⟨z, hz, rfl⟩ := List.mem_map.mp hd
    have e2 : (PyData.eqv (.int (z.1 : Int)) (.int (u : Int)) && (PyData.eqv (.int (z.2 : Int)) (.int (t : Int)) && true)) = true := e
    rw [Bool.and_true, Bool.and_eq_true, eqv_i, eqv_i, decide_eq_true_iff, decide_eq_true_iff] at e2
    have e3 : z = (u, t) := Prod.ext (Int.ofNat.inj e2.1) (Int.ofNat.inj e2.2)
    rw [← e3]
    exact hz
  · intro h
    refine ⟨prD (u, t), List.mem_map.mpr ⟨_, h, rfl⟩, ?_⟩
    show (PyData.eqv (.int (u : Int)) (.int (u : Int)) && (PyData.eqv (.int (t : Int)) (.int (t : Int)) && true)) = true
    rw [eqv_i, eqv_i, decide_eq_true rfl, decide_eq_true rfl]
    rfl
theorem ifX_hq {p : Prop} {b : Bool} {A B : Prop} (e : b = true ↔ p) (h1 : p → A) (h0 : ¬p → B) : ifV b A B :=
  ⟨fun h => h1 (e.mp h), fun h => h0 fun z => by rw [e.mpr z] at h; cases h⟩

/-! jobs written: words, rows, texts -/
def numS (n : Int) : Str := PySem.Str.ofString (toString n)
def numOk (n : Nat) : Bool := Txt.isascii (numS n) && (Txt.isdecimal (numS n) && ((!(Txt.startswith (numS n) "0") || decide (numS n = "0")) && (decide (PySem.intText? (numS n) = some (n : Int)) && (decide ((numS n).length ≤ 3) && (decide (1 ≤ (numS n).length) && (!(TL.tl (numS n)).contains 32 && !(TL.tl (numS n)).contains 10))))))
theorem numOk_all : (List.range 201).all numOk = true := by decide +kernel
structure NumF (n : Int) : Prop where
  asc : Txt.isascii (numS n) = true
  dec : Txt.isdecimal (numS n) = true
  st : Txt.startswith (numS n) "0" = false ∨ numS n = "0"
  rd : PySem.intText? (numS n) = some n
  l3 : (numS n).length ≤ 3
  l1 : 1 ≤ (numS n).length
  f32 : ¬ 32 ∈ TL.tl (numS n)
  f10 : ¬ 10 ∈ TL.tl (numS n)
  lg : n.natAbs.log2 < 1920
theorem num_facts {n : Int} (h : 0 ≤ n ∧ n ≤ 200) : NumF n := by
  obtain ⟨m, rfl⟩ := Int.eq_ofNat_of_zero_le h.1
  have hm : m < 201 := by omega
  have k := List.all_eq_true.mp numOk_all m (List.mem_range.mpr hm)
  unfold numOk at k
  simp only [Bool.and_eq_true] at k
  obtain ⟨k1, k2, k3, k4, k5, k6, k7, k8⟩ := k
  refine ⟨k1, k2, ?_, of_decide_eq_true k4, of_decide_eq_true k5, of_decide_eq_true k6, ?_, ?_, ?_⟩
  · cases e : Txt.startswith (numS (m : Int)) "0" with
    | false => exact .inl rfl
    | true =>
      rw [e] at k3
      exact .inr (of_decide_eq_true (by simpa using k3))
  · simpa using k7
  · simpa using k8
  · show Nat.log2 m < 1920
    by_cases h0 : m = 0
    · rw [h0]
      decide
    · exact (Nat.log2_lt h0).mpr (Nat.lt_trans hm (Nat.lt_of_lt_of_le (show 201 < 2 ^ 8 by decide) (Nat.pow_le_pow_right (by decide) (by decide))))
theorem joinL_mem {y : List Nat} {c : Nat} : ∀ {ps : List (List Nat)}, c ∈ TL.joinL y ps → c ∈ y ∨ ∃ p ∈ ps, c ∈ p
  | [], h => by cases h
  | [p], h => .inr ⟨p, List.mem_singleton.mpr rfl, h⟩
  | p :: q :: r, h => by
    have h2 : c ∈ p ++ (y ++ TL.joinL y (q :: r)) := h
    rcases List.mem_append.mp h2 with h3 | h3
    · exact .inr ⟨p, List.mem_cons_self .., h3⟩
    · rcases List.mem_append.mp h3 with h3 | h3
      · exact .inl h3
      · rcases joinL_mem h3 with h4 | ⟨z, hz, h4⟩
        · exact .inl h4
        · exact .inr ⟨z, List.mem_cons_of_mem _ hz, h4⟩
theorem tl_joinT (y : Str) (ps : List Str) : TL.tl (Txt.join y ps) = TL.joinL (TL.tl y) (ps.map TL.tl) := by
  show TL.tl (PySem.Builtin.Str.glued y ps) = _
  rw [PySem.StrLaws.glued_eq_join, TL.tl_join]
theorem join_free {y : Str} {c : Nat} {ps : List Str} (hy : ¬ c ∈ TL.tl y) (h : ∀ p ∈ ps, ¬ c ∈ TL.tl p) : ¬ c ∈ TL.tl (Txt.join y ps) := fun hm => by
  rw [tl_joinT] at hm
  rcases joinL_mem hm with h1 | ⟨p, hp, h1⟩
  · exact hy h1
  · obtain ⟨x, hx, rfl⟩ := List.mem_map.mp hp
    exact h x hx h1
theorem str_ext {a b : Str} (h : TL.tl a = TL.tl b) : a = b := by
  cases a
  cases b
  exact congrArg PySem.Str.mk (Array.toList_inj.mp h)
theorem tl_app (a b : Str) : TL.tl (a ++ b) = TL.tl a ++ TL.tl b := by
  show (a.cps ++ b.cps).toList = _
  rw [Array.toList_append]
abbrev Row := Str × List Int
def rowS (r : Row) : Str := Txt.join " " (r.1 :: r.2.map numS)
def rowD (r : Row) : PyData := .list (.str r.1 :: intsL r.2)
structure RowOk (r : Row) : Prop where
  wd : r.1 = "task" ∨ r.1 = "need" ∨ r.1 = "rooms"
  len : r.2.length ≤ 20
  val : ∀ n ∈ r.2, 0 ≤ n ∧ n ≤ 200
theorem RowOk.w5 {r : Row} (h : RowOk r) : r.1.length ≤ 5 := by
  rcases h.wd with e | e | e <;> rw [e] <;> decide
theorem RowOk.wf {r : Row} (h : RowOk r) : ¬ 32 ∈ TL.tl r.1 ∧ ¬ 10 ∈ TL.tl r.1 ∧ TL.tl r.1 ≠ [] := by
  rcases h.wd with e | e | e <;> rw [e] <;> decide
theorem RowOk.split {r : Row} (h : RowOk r) : Txt.split (rowS r) " " = r.1 :: r.2.map numS := by
  refine TL.split_join (s := 32) (S := []) (by decide +kernel) (by decide +kernel) (fun z => by cases z) fun p hp => ?_
  rcases List.mem_cons.mp hp with e | hp
  · rw [e]
    exact h.wf.1
  · obtain ⟨n, hn, rfl⟩ := List.mem_map.mp hp
    exact (num_facts (h.val n hn)).f32
theorem RowOk.free {r : Row} (h : RowOk r) : ¬ 10 ∈ TL.tl (rowS r) := join_free (by decide) fun p hp => by
  rcases List.mem_cons.mp hp with e | hp
  · rw [e]
    exact h.wf.2.1
  · obtain ⟨n, hn, rfl⟩ := List.mem_map.mp hp
    exact (num_facts (h.val n hn)).f10
theorem num_sum : ∀ {ns : List Int}, (∀ n ∈ ns, 0 ≤ n ∧ n ≤ 200) → ((ns.map numS).map fun x => x.length).sum ≤ 3 * ns.length
  | [], _ => Nat.le_refl _
  | n :: ns, hv => by
    have a := (num_facts (hv n (List.mem_cons_self ..))).l3
    have b := num_sum fun x hx => hv x (List.mem_cons_of_mem _ hx)
    rw [List.map_cons, List.map_cons, List.sum_cons, List.length_cons]
    omega
theorem RowOk.sum {r : Row} (h : RowOk r) : ((r.1 :: r.2.map numS).map fun x => x.length).sum ≤ 70 := by
  have h3 := num_sum h.val
  have h4 := h.w5
  have h5 := h.len
  rw [List.map_cons, List.sum_cons]
  omega
theorem RowOk.ls {r : Row} (h : RowOk r) : (rowS r).length ≤ 100 := by
  have h1 := PySem.StrLaws.join_length_le (" " : Str) (r.1 :: r.2.map numS)
  rw [← PySem.StrLaws.glued_eq_join] at h1
  have h1 : (rowS r).length ≤ _ := h1
  have h3 := num_sum h.val
  have h4 := h.w5
  have h5 := h.len
  rw [List.map_cons, List.sum_cons, List.length_cons, List.length_map, show (" " : Str).length = 1 from rfl] at h1
  omega
theorem RowOk.ne {r : Row} (h : RowOk r) : TL.tl (rowS r) ≠ [] := fun e => by
  unfold rowS at e
  rw [tl_joinT] at e
  cases hn : r.2.map numS with
  | nil =>
    rw [hn] at e
    exact h.wf.2.2 e
  | cons a b =>
    rw [hn] at e
    have e2 : TL.tl r.1 ++ (TL.tl (" " : Str) ++ TL.joinL (TL.tl (" " : Str)) (TL.tl a :: b.map TL.tl)) = [] := e
    exact h.wf.2.2 (List.append_eq_nil_iff.mp e2).1
def textS (R : List Row) : Str := Txt.join "\n" (R.map rowS)
theorem text_split {R : List Row} (h : ∀ r ∈ R, RowOk r) (hR : R ≠ []) : Txt.split (textS R) "\n" = R.map rowS := by
  refine TL.split_join (s := 10) (S := []) (by decide +kernel) (by decide +kernel) (fun z => hR (List.map_eq_nil_iff.mp z)) fun p hp => ?_
  obtain ⟨r, hr, rfl⟩ := List.mem_map.mp hp
  exact (h r hr).free
theorem rows_sum : ∀ {R : List Row}, (∀ r ∈ R, RowOk r) → ((R.map rowS).map fun x => x.length).sum ≤ 100 * R.length
  | [], _ => Nat.le_refl _
  | n :: ns, hv => by
    have a := (hv n (List.mem_cons_self ..)).ls
    have b := rows_sum fun x hx => hv x (List.mem_cons_of_mem _ hx)
    rw [List.map_cons, List.map_cons, List.sum_cons, List.length_cons]
    omega
theorem text_len {R : List Row} (h : ∀ r ∈ R, RowOk r) : (textS R).length ≤ 101 * R.length := by
  have h1 := PySem.StrLaws.join_length_le ("\n" : Str) (R.map rowS)
  rw [← PySem.StrLaws.glued_eq_join] at h1
  have h1 : (textS R).length ≤ _ := h1
  have h3 := rows_sum h
  rw [List.length_map, show ("\n" : Str).length = 1 from rfl] at h1
  omega
theorem text_ne {R : List Row} (h : ∀ r ∈ R, RowOk r) (hR : R ≠ []) : (textS R).length ≠ 0 := fun e => by
  have e2 : TL.tl (textS R) = [] := List.eq_nil_of_length_eq_zero e
  unfold textS at e2
  rw [tl_joinT] at e2
  cases R with
  | nil => exact hR rfl
  | cons r R =>
    have hr := (h r (List.mem_cons_self ..)).ne
    cases R with
    | nil => exact hr e2
    | cons a b =>
      have e3 : TL.tl (rowS r) ++ (TL.tl ("\n" : Str) ++ TL.joinL (TL.tl ("\n" : Str)) (((a :: b).map rowS).map TL.tl)) = [] := e2
      exact hr (List.append_eq_nil_iff.mp e3).1
/-! the rows of a job -/
def taskR (f : Int) (d : Option Int) : Row := ("task", f :: d.toList)
def needR (z : Nat × Nat) : Row := ("need", [(z.1 : Int), (z.2 : Int)])
def taskRs (fs : List Int) (ds : List (Option Int)) : List Row := (fs.zip ds).map fun p => taskR p.1 p.2
def roomRs (rs : List Int) : List Row := if rs = [] then [] else [("rooms", rs)]
def jobRs (fs : List Int) (ds : List (Option Int)) (zs : Prs) (rs : List Int) : List Row := taskRs fs ds ++ zs.map needR ++ roomRs rs
theorem jobRs_ok {fs : List Int} {ds : List (Option Int)} {zs : Prs} {rs : List Int} (h : VJ fs ds zs rs) : ∀ r ∈ jobRs fs ds zs rs, RowOk r := fun r hr => by
  rcases List.mem_append.mp hr with hr | hr
  · rcases List.mem_append.mp hr with hr | hr
    · obtain ⟨⟨f, o⟩, hp, rfl⟩ := List.mem_map.mp hr
      have g1 := h.fv _ (List.of_mem_zip hp).1
      cases o with
      | none =>
        refine ⟨.inl rfl, (by show _ ≤ _; simp [taskR]), fun n hn => ?_⟩
        rw [show n = f from List.mem_singleton.mp hn]
        omega
      | some d =>
        have g2 := h.dv d (List.of_mem_zip hp).2
        refine ⟨.inl rfl, (by show _ ≤ _; simp [taskR]), fun n hn => ?_⟩
        rcases List.mem_cons.mp hn with e2 | hn
        · rw [e2]
          show 0 ≤ f ∧ f ≤ 200
          omega
        · rw [show n = d from List.mem_singleton.mp hn]
          exact g2
    · obtain ⟨z, hz, rfl⟩ := List.mem_map.mp hr
      obtain ⟨rk, hrk⟩ := h.rank
      have g1 := hrk z hz
      have g2 := h.fl
      refine ⟨.inr (.inl rfl), (by show _ ≤ _; simp [needR]), fun n hn => ?_⟩
      have hn2 : n = (z.1 : Int) ∨ n = (z.2 : Int) := by simpa [needR] using hn
      omega
  · unfold roomRs at hr
    split at hr
    · cases hr
    · rw [List.mem_singleton.mp hr]
      exact ⟨.inr (.inr rfl), h.ro.len, fun n hn => by have := h.ro.val n hn; omega⟩
theorem taskRs_len {fs : List Int} {ds : List (Option Int)} (h : ds.length = fs.length) : (taskRs fs ds).length = fs.length := by
  unfold taskRs
  rw [List.length_map, List.length_zip]
  omega
theorem roomRs_len (rs : List Int) : (roomRs rs).length ≤ 1 := by
  unfold roomRs
  split <;> simp
theorem jobRs_len {fs : List Int} {ds : List (Option Int)} {zs : Prs} {rs : List Int} (h : VJ fs ds zs rs) : (jobRs fs ds zs rs).length ≤ 131 := by
  unfold jobRs
  rw [List.length_append, List.length_append, taskRs_len h.dl, List.length_map]
  have := roomRs_len rs
  have := h.fl
  have := h.zl
  omega
def jobS (fs : List Int) (ds : List (Option Int)) (zs : Prs) (rs : List Int) : Str := textS (jobRs fs ds zs rs)
/-! the same texts, glued by hand -/
theorem row_one (w : String) (f : Int) {s : Str} (e : TL.tl s = TL.tl (PySem.Str.ofString w) ++ [32]) : s ++ numS f = rowS (PySem.Str.ofString w, [f]) := by
  refine str_ext ?_
  unfold rowS
  rw [tl_app, tl_joinT, e, List.append_assoc]
  rfl
theorem row_two (w : String) (f d : Int) {s : Str} (e : TL.tl s = TL.tl (PySem.Str.ofString w) ++ [32]) : s ++ numS f ++ " " ++ numS d = rowS (PySem.Str.ofString w, [f, d]) := by
  refine str_ext ?_
  unfold rowS
  rw [tl_app, tl_app, tl_app, tl_joinT, e]
  show _ = TL.tl (PySem.Str.ofString w) ++ (TL.tl (" " : Str) ++ (TL.tl (numS f) ++ (TL.tl (" " : Str) ++ TL.tl (numS d))))
  rw [show TL.tl (" " : Str) = [32] from by decide]
  simp only [List.append_assoc]
theorem row_rooms (rs : List Int) : ("rooms" : Str) ++ Txt.join "" (rs.map fun r => (" " : Str) ++ numS r) = rowS ("rooms", rs) := by
  refine str_ext ?_
  unfold rowS
  rw [tl_app, tl_joinT, tl_joinT]
  have h : ∀ (x : List Nat) (rs : List Int), x ++ TL.joinL (TL.tl ("" : Str)) ((rs.map fun r => (" " : Str) ++ numS r).map TL.tl) = TL.joinL (TL.tl (" " : Str)) (x :: (rs.map numS).map TL.tl) := fun x rs => by
    induction rs generalizing x with
    | nil => exact List.append_nil x
    | cons r rs ih =>
      rw [List.map_cons, List.map_cons, List.map_cons, List.map_cons]
      have e1 : ∀ (p : List Nat) (ps : List (List Nat)), TL.joinL (TL.tl ("" : Str)) (p :: ps) = p ++ TL.joinL (TL.tl ("" : Str)) ps := fun p ps => by
        cases ps with
        | nil => exact (List.append_nil p).symm
        | cons a b =>
          show p ++ (TL.tl ("" : Str) ++ _) = _
          rw [show TL.tl ("" : Str) = [] from by decide, List.nil_append]
      rw [e1, tl_app, ← List.append_assoc, ← List.append_assoc]
      have e2 := ih (TL.tl (numS r))
      rw [List.append_assoc (x ++ _), e2, List.append_assoc]
      rfl
  exact h _ rs

local macro_rules | `(tactic| walk_at "v0") => `(tactic| simp only [wSeq, wNext, wBreak, wCont, wDrop, wRet, wRetN, wIfS, wAsg, wgName, wgNil, wgCons, wgTup, wgUnl, wPar, wVar, wC, wB, wAnd, wOr, wNot, wAndV, wOrV, wNotV, wIf, wOp, wUn, wCB, wNil, wCons, wIsN, wNotN, isNon, wCall, wCall0, wRng1, wRng2, wIList, wITup, wEnum, wZip, wYes, wLst, wLstN, wTup, wSl, vPart, vNoPart, wIsi, wTru, vTru, wChain, wBM, wBM0, wgSub, wAug, vI0, vI0b, vI, vNeg, vAdd, vEqW, datOf, eqS, id, vIsB, vIx, vSl, vLen, vIsi, tyT, tyD, itemsA, itemsT, seqOf, datsOf, vAll, vAny, vSum, vMax2, vMin2, vMaxL, vMinL, vList, vInt1, vAppend, vSet, isKd, allD, startG, newL, newLN, tupT, itemsV, List.getElem?_cons_zero, List.getElem?_cons_succ, List.set_cons_zero, List.set_cons_succ, List.length_cons, List.length_nil, List.map_cons, List.map_nil, ifV_true, ifV_false, List.nil_append, List.cons_append, reduceCtorEq, Bool.not_true, Bool.not_false, true_and, and_true, decide_true, decide_false, retD, retX, frzT, frzTs, clo, List.take_zero, List.take_succ_cons, List.take_nil, List.not_mem_nil, false_imp_iff, implies_true, callV, callJ, jsOf, rfsTs, rfsT, rfsO, addN, stepN, okJs, renTs, renT, renO, outN, backS, putAll, idxB, inB, renTs_fz, rfsTs_fz, List.append_nil, List.drop_nil, List.drop_zero, List.foldl_nil, List.foldl_cons, List.nodup_nil, kb_NoneType_int, kb_NoneType_bool, kb_NoneType_list, kb_NoneType_tuple, kb_NoneType_str, kb_bool_int, kb_bool_bool, kb_bool_list, kb_bool_tuple, kb_bool_str, kb_int_int, kb_int_bool, kb_int_list, kb_int_tuple, kb_int_str, kb_str_int, kb_str_bool, kb_str_list, kb_str_tuple, kb_str_str, kb_list_int, kb_list_bool, kb_list_list, kb_list_tuple, kb_list_str, kb_tuple_int, kb_tuple_bool, kb_tuple_list, kb_tuple_tuple, kb_tuple_str, kb_dict_int, kb_dict_bool, kb_dict_list, kb_dict_tuple, kb_dict_str, nodB, subL, okO, cloL, Bool.or_false, Bool.true_or, Bool.or_true, Bool.false_or, eq_self, reduceIte, Int.reduceLE, Int.reduceLT, Int.reduceAdd, Int.reduceSub, Int.reduceNeg, Int.reduceToNat, Nat.reduceAdd, Nat.reduceSub, Nat.reduceLT, Nat.reduceLeDiff, Nat.reduceEqDiff, Int.reduceEq, Int.cast_ofNat_Int, atN_nat, plN_nat, rfsTs_append, renTs_append, Option.map_some, Option.map_none, List.drop_succ_cons, fzs_snoc, fzs_cat, fzs_ins, fzs_set, Int.toNat_natCast, List.length_map, List.length_append, allD_map, allD_append, frzTs_fz, atN_map, List.getD_cons_zero, List.getD_cons_succ, beq_self_eq_true, Nat.reduceBEq, Bool.false_eq_true, vInsert, vInW, datsA, flatD, intsL_flat, intsL_any, natsL_flat, natsL_any, lcR_map, vB1, vB2, vMixed, vTake, pl, vPile, vOrder, vRoom1, vHours, vNeeds, vJob])

section
variable {P : Program} {w : World} {K : PySem.W.Frag} {mg : Str → Option Value} {base : Heap}
def vNumIn : VSp := fun ts S _ q => match ts, S with
  | [.fz (.str s)], [] => ∃ n : Int, s = numS n ∧ (0 ≤ n ∧ n ≤ 200) ∧ q (.fz (.int n)) []
  | _, _ => False
instance : VLen vNumIn 1 := ⟨fun {ts S vx q} h => by
  unfold vNumIn at h
  split at h
  · rfl
  · exact h.elim⟩
local macro_rules | `(tactic| walk_at "v") => `(tactic| simp only [wSeq, wNext, wBreak, wCont, wDrop, wRet, wRetN, wIfS, wAsg, wgName, wgNil, wgCons, wgTup, wgUnl, wPar, wVar, wC, wB, wAnd, wOr, wNot, wAndV, wOrV, wNotV, wIf, wOp, wUn, wCB, wNil, wCons, wIsN, wNotN, isNon, wCall, wCall0, wRng1, wRng2, wIList, wITup, wEnum, wZip, wYes, wLst, wLstN, wTup, wSl, vPart, vNoPart, wIsi, wTru, vTru, wChain, wBM, wBM0, wgSub, wAug, vI0, vI0b, vI, vNeg, vAdd, vEqW, datOf, eqS, id, vIsB, vIx, vSl, vLen, vIsi, tyT, tyD, itemsA, itemsT, seqOf, datsOf, vAll, vAny, vSum, vMax2, vMin2, vMaxL, vMinL, vList, vInt1, vAppend, vSet, isKd, allD, startG, newL, newLN, tupT, itemsV, List.getElem?_cons_zero, List.getElem?_cons_succ, List.set_cons_zero, List.set_cons_succ, List.length_cons, List.length_nil, List.map_cons, List.map_nil, ifV_true, ifV_false, List.nil_append, List.cons_append, reduceCtorEq, Bool.not_true, Bool.not_false, true_and, and_true, decide_true, decide_false, retD, retX, frzT, frzTs, clo, List.take_zero, List.take_succ_cons, List.take_nil, List.not_mem_nil, false_imp_iff, implies_true, callV, callJ, jsOf, rfsTs, rfsT, rfsO, addN, stepN, okJs, renTs, renT, renO, outN, backS, putAll, idxB, inB, renTs_fz, rfsTs_fz, List.append_nil, List.drop_nil, List.drop_zero, List.foldl_nil, List.foldl_cons, List.nodup_nil, kb_NoneType_int, kb_NoneType_bool, kb_NoneType_list, kb_NoneType_tuple, kb_NoneType_str, kb_bool_int, kb_bool_bool, kb_bool_list, kb_bool_tuple, kb_bool_str, kb_int_int, kb_int_bool, kb_int_list, kb_int_tuple, kb_int_str, kb_str_int, kb_str_bool, kb_str_list, kb_str_tuple, kb_str_str, kb_list_int, kb_list_bool, kb_list_list, kb_list_tuple, kb_list_str, kb_tuple_int, kb_tuple_bool, kb_tuple_list, kb_tuple_tuple, kb_tuple_str, kb_dict_int, kb_dict_bool, kb_dict_list, kb_dict_tuple, kb_dict_str, nodB, subL, okO, cloL, Bool.or_false, Bool.true_or, Bool.or_true, Bool.false_or, eq_self, reduceIte, Int.reduceLE, Int.reduceLT, Int.reduceAdd, Int.reduceSub, Int.reduceNeg, Int.reduceToNat, Nat.reduceAdd, Nat.reduceSub, Nat.reduceLT, Nat.reduceLeDiff, Nat.reduceEqDiff, Int.reduceEq, Int.cast_ofNat_Int, atN_nat, plN_nat, rfsTs_append, renTs_append, Option.map_some, Option.map_none, List.drop_succ_cons, fzs_snoc, fzs_cat, fzs_ins, fzs_set, Int.toNat_natCast, List.length_map, List.length_append, allD_map, allD_append, frzTs_fz, atN_map, List.getD_cons_zero, List.getD_cons_succ, beq_self_eq_true, Nat.reduceBEq, Bool.false_eq_true, vInsert, vInW, datsA, flatD, intsL_flat, intsL_any, natsL_flat, natsL_any, lcR_map, vB1, vB2, vMixed, vTake, pl, vPile, vOrder, vRoom1, vHours, vNeeds, vJob, repL, atX_0, atX_1, atX_2, atX_3, vExtend, jbD, wEnumC, wgStar, wNever, vStrW, wordS, isWord, vIntW, frzAs, frzA, frzD, frzDs, callD, wCallD, vShowD])
theorem ok_number_in (T : Env K mg) : Ok P w K mg base CX0 dd_number_in "number_in" 1 ["word"] (liftV K vNumIn) := by
  obtain ⟨fd, F⟩ := T.c.def_ 12 (d := dd_number_in) rfl
  refine ⟨fd, F, T.gl 12 _ rfl, F.kp, F.bindsN fun _ _ _ _ _ _ us hl => match us, hl with | [_], _ => rfl, ?_⟩
  refine F.ok sc_number_in (fun vs H Q E h => ?_) (fun cdv A outer s H vs Q E hr h => ?_)
  · obtain ⟨F0, α, S, ts, q, vx, hs, rr, xl, ql, h⟩ := h
    rw [rr.len]
    exact VLen.len h
  · obtain ⟨F0, α, S, ts, q, vx, hs, rr, xl, ql, h⟩ := h
    refine ⟨_, PSs.nox (pss_cons (ps_if (PW.pt (pw_or (pt_not (pt_truK (K := K) rfl (pt_tru (pe_bm0K (K := K) rfl (pe_bm0 PySem.F.plainAttrs_str PySem.F.slot_str_isascii PySem.F.type_str_isascii (r := rStr0 fun a => .bl (Txt.isascii a)) mt_asciiX (pv 0)))))) (pw_or1 (pt_not (pt_truK (K := K) rfl (pt_tru (pe_bm0K (K := K) rfl (pe_bm0 PySem.F.plainAttrs_str PySem.F.slot_str_isdecimal PySem.F.type_str_isdecimal (r := rStr0 fun a => .bl (Txt.isdecimal a)) mt_decX (pv 0))))))))) (pss_one (ps_ret pe_non)) pss_nil)
      (pss_one (ps_ret (pe_ifExp (PW.pt (pw_and (pt_truK (K := K) rfl (pt_tru (pe_bmK (K := K) rfl (pe_bm PySem.F.plainAttrs_str PySem.F.slot_str_startswith PySem.F.type_str_startswith (r := rStr1 fun a b => .bl (Txt.startswith a b)) mt_startsX (pv 0) (pa_cons pe_str pa_nil))))) (pw_and1 (pt_cmpR (r := rNeX K) (op_neX hr.units) (pv 0) pe_str (nomark _))))) pe_non (pe_callTy (r := rIntW) call_intW (by rfl) (T.fr 33 _ rfl) (by decide +kernel) (pa_cons (pv 0) pa_nil)))))), vbody (N := ["word"]) hs rr xl ql ?_⟩
    unfold vNumIn at h
    split at h
    · obtain ⟨n, rfl, hn, hq⟩ := h
      have F := num_facts hn
      refine vifS fun k hk => ?_
      walk_at "v"
      rw [F.asc, F.dec]
      walk_at "v"
      refine hk false _ (ifV.F ?_)
      clear hk
      walk_at "v"
      rw [F.rd]
      have l6 : (numS n).length ≤ 640 := Nat.le_trans F.l3 (by decide)
      rcases F.st with e | e
      · rw [e]
        exact ifV.F ⟨l6, hq⟩
      · rw [show (!decide (numS n = Str.ofString "0")) = false from by rw [decide_eq_true e]; rfl]
        exact ⟨fun _ => ifV.F ⟨l6, hq⟩, fun _ => ⟨l6, hq⟩⟩
    · exact h.elim
def vSpelled : VSp := fun ts S _ q => match ts, S with
  | [.fz (.list ds)], [] => ∃ r : Row, ds = .str r.1 :: intsL r.2 ∧ RowOk r ∧ q (.fz (.str (rowS r))) []
  | _, _ => False
instance : VLen vSpelled 1 := ⟨fun {ts S vx q} h => by
  unfold vSpelled at h
  split at h
  · rfl
  · exact h.elim⟩
local macro_rules | `(tactic| walk_at "v") => `(tactic| simp only [wSeq, wNext, wBreak, wCont, wDrop, wRet, wRetN, wIfS, wAsg, wgName, wgNil, wgCons, wgTup, wgUnl, wPar, wVar, wC, wB, wAnd, wOr, wNot, wAndV, wOrV, wNotV, wIf, wOp, wUn, wCB, wNil, wCons, wIsN, wNotN, isNon, wCall, wCall0, wRng1, wRng2, wIList, wITup, wEnum, wZip, wYes, wLst, wLstN, wTup, wSl, vPart, vNoPart, wIsi, wTru, vTru, wChain, wBM, wBM0, wgSub, wAug, vI0, vI0b, vI, vNeg, vAdd, vEqW, datOf, eqS, id, vIsB, vIx, vSl, vLen, vIsi, tyT, tyD, itemsA, itemsT, seqOf, datsOf, vAll, vAny, vSum, vMax2, vMin2, vMaxL, vMinL, vList, vInt1, vAppend, vSet, isKd, allD, startG, newL, newLN, tupT, itemsV, List.getElem?_cons_zero, List.getElem?_cons_succ, List.set_cons_zero, List.set_cons_succ, List.length_cons, List.length_nil, List.map_cons, List.map_nil, ifV_true, ifV_false, List.nil_append, List.cons_append, reduceCtorEq, Bool.not_true, Bool.not_false, true_and, and_true, decide_true, decide_false, retD, retX, frzT, frzTs, clo, List.take_zero, List.take_succ_cons, List.take_nil, List.not_mem_nil, false_imp_iff, implies_true, callV, callJ, jsOf, rfsTs, rfsT, rfsO, addN, stepN, okJs, renTs, renT, renO, outN, backS, putAll, idxB, inB, renTs_fz, rfsTs_fz, List.append_nil, List.drop_nil, List.drop_zero, List.foldl_nil, List.foldl_cons, List.nodup_nil, kb_NoneType_int, kb_NoneType_bool, kb_NoneType_list, kb_NoneType_tuple, kb_NoneType_str, kb_bool_int, kb_bool_bool, kb_bool_list, kb_bool_tuple, kb_bool_str, kb_int_int, kb_int_bool, kb_int_list, kb_int_tuple, kb_int_str, kb_str_int, kb_str_bool, kb_str_list, kb_str_tuple, kb_str_str, kb_list_int, kb_list_bool, kb_list_list, kb_list_tuple, kb_list_str, kb_tuple_int, kb_tuple_bool, kb_tuple_list, kb_tuple_tuple, kb_tuple_str, kb_dict_int, kb_dict_bool, kb_dict_list, kb_dict_tuple, kb_dict_str, nodB, subL, okO, cloL, Bool.or_false, Bool.true_or, Bool.or_true, Bool.false_or, eq_self, reduceIte, Int.reduceLE, Int.reduceLT, Int.reduceAdd, Int.reduceSub, Int.reduceNeg, Int.reduceToNat, Nat.reduceAdd, Nat.reduceSub, Nat.reduceLT, Nat.reduceLeDiff, Nat.reduceEqDiff, Int.reduceEq, Int.cast_ofNat_Int, atN_nat, plN_nat, rfsTs_append, renTs_append, Option.map_some, Option.map_none, List.drop_succ_cons, fzs_snoc, fzs_cat, fzs_ins, fzs_set, Int.toNat_natCast, List.length_map, List.length_append, allD_map, allD_append, frzTs_fz, atN_map, List.getD_cons_zero, List.getD_cons_succ, beq_self_eq_true, Nat.reduceBEq, Bool.false_eq_true, vInsert, vInW, datsA, flatD, intsL_flat, intsL_any, natsL_flat, natsL_any, lcR_map, vB1, vB2, vMixed, vTake, pl, vPile, vOrder, vRoom1, vHours, vNeeds, vJob, repL, atX_0, atX_1, atX_2, atX_3, vExtend, jbD, wEnumC, wgStar, wNever, vStrW, wordS, isWord, vIntW, frzAs, frzA, frzD, frzDs, callD, wCallD, vShowD, vNumIn])
theorem ok_spelled (T : Env K mg) : Ok P w K mg base CX0 dd_spelled "spelled" 1 ["words"] (liftV K vSpelled) := by
  obtain ⟨fd, F⟩ := T.c.def_ 13 (d := dd_spelled) rfl
  refine ⟨fd, F, T.gl 13 _ rfl, F.kp, F.bindsN fun _ _ _ _ _ _ us hl => match us, hl with | [_], _ => rfl, ?_⟩
  refine F.ok sc_spelled (fun vs H Q E h => ?_) (fun cdv A outer s H vs Q E hr h => ?_)
  · obtain ⟨F0, α, S, ts, q, vx, hs, rr, xl, ql, h⟩ := h
    rw [rr.len]
    exact VLen.len h
  · obtain ⟨F0, α, S, ts, q, vx, hs, rr, xl, ql, h⟩ := h
    refine ⟨_, PSs.nox (pss_one (ps_ret (pe_bmK (K := K) rfl (pe_bm PySem.F.plainAttrs_str PySem.F.slot_str_join PySem.F.type_str_join (r := rJoinX K) mt_joinX pe_str (pa_cons (pe_lc (own := [("word", 1)]) (g := gName 1) (tt := tYes) (by rfl) sc_spelled.nd (pi_listK (K := K) rfl (pv 0)) (blkOk_by (own := [("word", 1)]) (N := N_spelled) (sc := defScope s_spelled) (by decide +kernel)) (fun _ _ _ _ _ => (pg_name (i := 1) sc_spelled.nd rfl (by first | exact Or.inl rfl | exact Or.inr rfl))) (fun _ _ _ _ _ => pts_nil) (fun _ _ _ _ _ => (pe_callTy (r := rStrW) call_strW (by rfl) (T.fr 41 _ rfl) (by decide +kernel) (pa_cons (pv 1) pa_nil)))) pa_nil))))), vbody (N := ["words", "word"]) hs rr xl ql ?_⟩
    unfold vSpelled at h
    split at h
    · obtain ⟨r, rfl, hr, hq⟩ := h
      unfold wLc
      walk_at "v"
      have hlen : (PyData.str r.1 :: intsL r.2).length ≤ 100000 := by
        rw [List.length_cons, intsL_len]
        have := hr.len
        omega
      refine ⟨rfl, lcV_dat (ds := PyData.str r.1 :: intsL r.2) (fun d => .str (wordS d)) trivial hlen (fun i d k k0 hd hk => ?_) ?_⟩
      · simp only [wipeG]
        walk_at "v"
        refine ⟨?_, hk⟩
        rcases List.mem_cons.mp (List.mem_of_getElem? hd) with e | hm
        · rw [e]
        · obtain ⟨n, hn, rfl⟩ := List.mem_map.mp hm
          exact decide_eq_true (num_facts (hr.val n hn)).lg
      · have e : (PyData.str r.1 :: intsL r.2).map (fun d => PyData.str (wordS d)) = (r.1 :: r.2.map numS).map PyData.str := by
          show _ :: _ = _ :: _
          unfold intsL
          rw [List.map_map, List.map_map]
          rfl
        rw [e]
        simp only [strsD_map, Option.bind_some]
        have hb : ∀ n : Nat, ((r.1 :: r.2.map numS).map fun x => x.length).sum ≤ n → n + 21 ≤ 16777216 → ((r.1 :: r.2.map numS).map fun x => x.length).sum + (r.1 :: r.2.map numS).length * (Str.ofString " ").length ≤ 16777216 := fun n h1 h2 => by
          rw [show (Str.ofString " ").length = 1 from rfl, List.length_cons, List.length_map]
          have := hr.len
          omega
        exact ⟨hb _ hr.sum (by decide), hq⟩
    · exact h.elim
theorem zipT_fz : ∀ {fs : List Int} {ds : List (Option Int)}, zipT ((intsL fs).map T.fz) ((optsL ds).map T.fz) = ((fs.zip ds).map fun p => PyData.tuple [.int p.1, oD p.2]).map T.fz
  | [], _ => by cases ‹List (Option Int)› <;> rfl
  | _ :: _, [] => rfl
  | f :: fs, d :: ds => by
    show T.fz (.tuple [.int f, oD d]) :: zipT ((intsL fs).map T.fz) ((optsL ds).map T.fz) = _
    rw [zipT_fz]
    rfl
def vJobText : VSp := fun ts S _ q => match ts, S with
  | [.fz d], [] => ∃ fs ds zs rs, d = jbD fs ds zs rs ∧ VJ fs ds zs rs ∧ q (.fz (.str (jobS fs ds zs rs))) []
  | _, _ => False
instance : VLen vJobText 1 := ⟨fun {ts S vx q} h => by
  unfold vJobText at h
  split at h
  · rfl
  · exact h.elim⟩
local macro_rules | `(tactic| walk_at "v") => `(tactic| simp only [wSeq, wNext, wBreak, wCont, wDrop, wRet, wRetN, wIfS, wAsg, wgName, wgNil, wgCons, wgTup, wgUnl, wPar, wVar, wC, wB, wAnd, wOr, wNot, wAndV, wOrV, wNotV, wIf, wOp, wUn, wCB, wNil, wCons, wIsN, wNotN, isNon, wCall, wCall0, wRng1, wRng2, wIList, wITup, wEnum, wZip, wYes, wLst, wLstN, wTup, wSl, vPart, vNoPart, wIsi, wTru, vTru, wChain, wBM, wBM0, wgSub, wAug, vI0, vI0b, vI, vNeg, vAdd, vEqW, datOf, eqS, id, vIsB, vIx, vSl, vLen, vIsi, tyT, tyD, itemsA, itemsT, seqOf, datsOf, vAll, vAny, vSum, vMax2, vMin2, vMaxL, vMinL, vList, vInt1, vAppend, vSet, isKd, allD, startG, newL, newLN, tupT, itemsV, List.getElem?_cons_zero, List.getElem?_cons_succ, List.set_cons_zero, List.set_cons_succ, List.length_cons, List.length_nil, List.map_cons, List.map_nil, ifV_true, ifV_false, List.nil_append, List.cons_append, reduceCtorEq, Bool.not_true, Bool.not_false, true_and, and_true, decide_true, decide_false, retD, retX, frzT, frzTs, clo, List.take_zero, List.take_succ_cons, List.take_nil, List.not_mem_nil, false_imp_iff, implies_true, callV, callJ, jsOf, rfsTs, rfsT, rfsO, addN, stepN, okJs, renTs, renT, renO, outN, backS, putAll, idxB, inB, renTs_fz, rfsTs_fz, List.append_nil, List.drop_nil, List.drop_zero, List.foldl_nil, List.foldl_cons, List.nodup_nil, kb_NoneType_int, kb_NoneType_bool, kb_NoneType_list, kb_NoneType_tuple, kb_NoneType_str, kb_bool_int, kb_bool_bool, kb_bool_list, kb_bool_tuple, kb_bool_str, kb_int_int, kb_int_bool, kb_int_list, kb_int_tuple, kb_int_str, kb_str_int, kb_str_bool, kb_str_list, kb_str_tuple, kb_str_str, kb_list_int, kb_list_bool, kb_list_list, kb_list_tuple, kb_list_str, kb_tuple_int, kb_tuple_bool, kb_tuple_list, kb_tuple_tuple, kb_tuple_str, kb_dict_int, kb_dict_bool, kb_dict_list, kb_dict_tuple, kb_dict_str, nodB, subL, okO, cloL, Bool.or_false, Bool.true_or, Bool.or_true, Bool.false_or, eq_self, reduceIte, Int.reduceLE, Int.reduceLT, Int.reduceAdd, Int.reduceSub, Int.reduceNeg, Int.reduceToNat, Nat.reduceAdd, Nat.reduceSub, Nat.reduceLT, Nat.reduceLeDiff, Nat.reduceEqDiff, Int.reduceEq, Int.cast_ofNat_Int, atN_nat, plN_nat, rfsTs_append, renTs_append, Option.map_some, Option.map_none, List.drop_succ_cons, fzs_snoc, fzs_cat, fzs_ins, fzs_set, Int.toNat_natCast, List.length_map, List.length_append, allD_map, allD_append, frzTs_fz, atN_map, List.getD_cons_zero, List.getD_cons_succ, beq_self_eq_true, Nat.reduceBEq, Bool.false_eq_true, vInsert, vInW, datsA, flatD, intsL_flat, intsL_any, natsL_flat, natsL_any, lcR_map, vB1, vB2, vMixed, vTake, pl, vPile, vOrder, vRoom1, vHours, vNeeds, vJob, repL, atX_0, atX_1, atX_2, atX_3, vExtend, jbD, wEnumC, wgStar, wNever, vStrW, wordS, isWord, vIntW, frzAs, frzA, frzD, frzDs, callD, wCallD, vShowD, vNumIn, vSpelled])
theorem ok_job_text (T : Env K mg) : Ok P w K mg base CX0 dd_job_text "job_text" 8 ["job"] (liftV K vJobText) := by
  obtain ⟨fd_check_job, D_check_job, g_check_job, k_check_job, b_check_job, G_check_job⟩ := ok_check_job (P := P) (w := w) (base := base) T
  obtain ⟨fd_spelled, D_spelled, g_spelled, k_spelled, b_spelled, G_spelled⟩ := ok_spelled (P := P) (w := w) (base := base) T
  obtain ⟨fd, F⟩ := T.c.def_ 14 (d := dd_job_text) rfl
  refine ⟨fd, F, T.gl 14 _ rfl, F.kp, F.bindsN fun _ _ _ _ _ _ us hl => match us, hl with | [_], _ => rfl, ?_⟩
  refine F.ok sc_job_text (fun vs H Q E h => ?_) (fun cdv A outer s H vs Q E hr h => ?_)
  · obtain ⟨F0, α, S, ts, q, vx, hs, rr, xl, ql, h⟩ := h
    rw [rr.len]
    exact VLen.len h
  · obtain ⟨F0, α, S, ts, q, vx, hs, rr, xl, ql, h⟩ := h
    refine ⟨_, PSs.nox (pss_cons (ps_expr (pe_call G_check_job (hr.mono (by decide)) (by rfl) g_check_job k_check_job b_check_job .nil pass0 (pa_cons (pv 0) pa_nil)))
      (pss_cons (ps_asg (pv 0) (pg_tupK (K := K) (n := 4) rfl (pg_tup rfl (pgs_cons (pg_name (i := 1) sc_job_text.nd rfl (Or.inl rfl)) (pgs_cons (pg_name (i := 2) sc_job_text.nd rfl (Or.inl rfl)) (pgs_cons (pg_name (i := 3) sc_job_text.nd rfl (Or.inl rfl)) (pgs_cons (pg_name (i := 4) sc_job_text.nd rfl (Or.inl rfl)) pgs_nil)))))))
      (pss_cons (ps_setLc (i := 5) (own := [("free", 7), ("due", 8)]) (g := gTup K 2 (gCons (gName 7) (gCons (gName 8) (gNil)))) (tt := tYes) (by rfl) sc_job_text.nd rfl rfl (sw_true rfl rfl rfl (by decide +kernel)) (pi_zipK (K := K) rfl (pi_zip (by rfl) (T.fr 42 _ rfl) (pa_cons (pv 1) (pa_cons (pv 2) pa_nil)))) (blkOk_by (own := [("free", 7), ("due", 8)]) (N := N_job_text) (sc := defScope s_job_text) (by decide +kernel)) (fun _ _ _ _ _ => (pg_tupK (K := K) (n := 2) rfl (pg_tup rfl (pgs_cons (pg_name (i := 7) sc_job_text.nd rfl (by first | exact Or.inl rfl | exact Or.inr rfl)) (pgs_cons (pg_name (i := 8) sc_job_text.nd rfl (by first | exact Or.inl rfl | exact Or.inr rfl)) pgs_nil))))) (fun _ _ _ _ _ => pts_nil) (fun _ _ _ _ _ => (pe_ifExp (pt_cmpR op_isN (pv 8) pe_non (nomark _)) (pe_lst (pa_cons pe_str (pa_cons (pv 7) pa_nil))) (pe_lst (pa_cons pe_str (pa_cons (pv 7) (pa_cons (pv 8) pa_nil)))))))
      (pss_cons (ps_set (i := 6) sc_job_text.nd rfl (Or.inl rfl) (pe_op (r := rAddX K) op_addX (pe_lc (own := [("a", 9), ("b", 10)]) (g := gTup K 2 (gCons (gName 9) (gCons (gName 10) (gNil)))) (tt := tYes) (by rfl) sc_job_text.nd (pi_listK (K := K) rfl (pv 3)) (blkOk_by (own := [("a", 9), ("b", 10)]) (N := N_job_text) (sc := defScope s_job_text) (by decide +kernel)) (fun _ _ _ _ _ => (pg_tupK (K := K) (n := 2) rfl (pg_tup rfl (pgs_cons (pg_name (i := 9) sc_job_text.nd rfl (by first | exact Or.inl rfl | exact Or.inr rfl)) (pgs_cons (pg_name (i := 10) sc_job_text.nd rfl (by first | exact Or.inl rfl | exact Or.inr rfl)) pgs_nil))))) (fun _ _ _ _ _ => pts_nil) (fun _ _ _ _ _ => (pe_lst (pa_cons pe_str (pa_cons (pv 9) (pa_cons (pv 10) pa_nil)))))) (pe_ifExp (pt_truK (K := K) rfl (pt_tru (pv 4))) (pe_lst (pa_cons (pe_op (r := rAddX K) op_addX (pe_lst (pa_cons pe_str pa_nil)) (pv 4)) pa_nil)) (pe_lst pa_nil))))
      (pss_one (ps_ret (pe_bmK (K := K) rfl (pe_bm PySem.F.plainAttrs_str PySem.F.slot_str_join PySem.F.type_str_join (r := rJoinX K) mt_joinX pe_str (pa_cons (pe_lc (own := [("words", 11)]) (g := gName 11) (tt := tYes) (by rfl) sc_job_text.nd (pi_listK (K := K) rfl (pe_op (r := rAddX K) op_addX (pv 5) (pv 6))) (blkOk_by (own := [("words", 11)]) (N := N_job_text) (sc := defScope s_job_text) (by decide +kernel)) (fun _ _ _ _ _ => (pg_name (i := 11) sc_job_text.nd rfl (by first | exact Or.inl rfl | exact Or.inr rfl))) (fun _ _ _ _ _ => pts_nil) (fun _ _ _ _ _ => (pe_call G_spelled (hr.mono (by decide)) (by rfl) g_spelled k_spelled b_spelled .nil pass0 (pa_cons (pv 11) pa_nil)))) pa_nil))))))))), vbody (N := ["job", "frees", "dues", "needs", "rooms", "tasks", "ends", "free", "due", "a", "b", "words"]) hs rr xl ql ?_⟩
    unfold vJobText at h
    split at h
    · obtain ⟨fs, ds, zs, rs, rfl, hv, hq⟩ := h
      refine vstep fun k hk => ?_
      walk_at "v"
      refine ⟨fs, ds, zs, rs, rfl, hv, hk _ _ ?_⟩
      clear hk
      refine vstep fun k hk => ?_
      walk_at "v"
      refine hk _ _ ?_
      clear hk
      refine vstep fun k hk => ?_
      unfold wLc
      walk_at "v"
      rw [zipT_fz]
      have hz : (fs.zip ds).length ≤ 100000 := by
        rw [List.length_zip]
        have := hv.fl
        omega
      refine ⟨rfl, lcV_of (fun p : Int × Option Int => .tuple [.int p.1, oD p.2]) (fun p => rowD (taskR p.1 p.2)) trivial hz (fun i p k2 k0 hp hk2 => ?_) ?_⟩
      · obtain ⟨f, o⟩ := p
        simp only [wipeG]
        walk_at "v"
        cases o with
        | none =>
          simp only [oD]
          walk_at "v"
          exact hk2
        | some d =>
          simp only [oD]
          walk_at "v"
          exact hk2
      have e1 : (fs.zip ds).map (fun p => rowD (taskR p.1 p.2)) = (taskRs fs ds).map rowD := by
        unfold taskRs
        rw [List.map_map]
        rfl
      rw [e1]
      refine hk _ _ ?_
      clear hk
      refine vstep fun k hk => ?_
      unfold wLc
      walk_at "v"
      have hzl : zs.length ≤ 100000 := Nat.le_trans hv.zl (by decide)
      refine ⟨rfl, lcV_of (bs := zs) prD (fun z => rowD (needR z)) trivial hzl (fun i p k2 k0 hp hk2 => ?_) ?_⟩
      · simp only [wipeG, prD]
        walk_at "v"
        exact hk2
      walk_at "v"
      have hrl := hv.ro.len
      have rest : ∀ E, E = (zs.map needR ++ roomRs rs).map rowD → k [some (.fz (jbD fs ds zs rs)), some (.fz (.list (intsL fs))), some (.fz (.list (optsL ds))), some (.fz (.list (prsL zs))), some (.fz (.list (intsL rs))), some (.fz (.list ((taskRs fs ds).map rowD))), some (.fz (.list E)), none, none, none, none, none] [] := fun E e => by
        refine hk _ _ ?_
        clear hk
        have hle := jobRs_len hv
        have e2 : (taskRs fs ds).map rowD ++ E = (jobRs fs ds zs rs).map rowD := by
          rw [e]
          unfold jobRs
          rw [← List.map_append, List.append_assoc]
        have hlen : ((taskRs fs ds).map rowD).length + E.length ≤ 100000 := by
          rw [← List.length_append, e2, List.length_map]
          omega
        unfold wLc
        walk_at "v"
        rw [e2]
        rw [List.length_map] at hlen
        refine ⟨rfl, hlen, lcV_of rowD (fun r => .str (rowS r)) trivial (by omega) (fun i r k2 k0 hp hk2 => ?_) ?_⟩
        · simp only [wipeG, rowD]
          walk_at "v"
          exact ⟨r, rfl, jobRs_ok hv r (List.mem_of_getElem? hp), hk2⟩
        · have e3 : (jobRs fs ds zs rs).map (fun r => PyData.str (rowS r)) = ((jobRs fs ds zs rs).map rowS).map PyData.str := by
            rw [List.map_map]
            rfl
          rw [e3]
          simp only [strsD_map, Option.bind_some]
          have hs := rows_sum (jobRs_ok hv)
          refine ⟨?_, hq⟩
          rw [List.length_map, show (Str.ofString "\n").length = 1 from rfl]
          omega
      by_cases hr : rs = []
      · subst hr
        exact ifV.F ⟨by omega, rest _ (by rw [show roomRs [] = [] from rfl, List.append_nil, List.map_map]; rfl)⟩
      · have e0 : (!(intsL rs).isEmpty) = true := by
          cases rs with
          | nil => exact absurd rfl hr
          | cons a b => rfl
        rw [e0]
        have := hv.zl
        refine ifV.T ⟨by rw [intsL_len]; omega, by omega, rest _ ?_⟩
        rw [show roomRs rs = [((("rooms" : Str), rs) : Row)] from if_neg hr, List.map_append, List.map_map]
        rfl
    · exact h.elim
def vRowsIn : VSp := fun ts S _ q => match ts, S with
  | [.fz (.str s)], [] => ∃ R : List Row, s = textS R ∧ (∀ r ∈ R, RowOk r) ∧ R.length ≤ 1000 ∧ q (.fz (.list ((R.map rowS).map .str))) []
  | _, _ => False
instance : VLen vRowsIn 1 := ⟨fun {ts S vx q} h => by
  unfold vRowsIn at h
  split at h
  · rfl
  · exact h.elim⟩
local macro_rules | `(tactic| walk_at "v") => `(tactic| simp only [wSeq, wNext, wBreak, wCont, wDrop, wRet, wRetN, wIfS, wAsg, wgName, wgNil, wgCons, wgTup, wgUnl, wPar, wVar, wC, wB, wAnd, wOr, wNot, wAndV, wOrV, wNotV, wIf, wOp, wUn, wCB, wNil, wCons, wIsN, wNotN, isNon, wCall, wCall0, wRng1, wRng2, wIList, wITup, wEnum, wZip, wYes, wLst, wLstN, wTup, wSl, vPart, vNoPart, wIsi, wTru, vTru, wChain, wBM, wBM0, wgSub, wAug, vI0, vI0b, vI, vNeg, vAdd, vEqW, datOf, eqS, id, vIsB, vIx, vSl, vLen, vIsi, tyT, tyD, itemsA, itemsT, seqOf, datsOf, vAll, vAny, vSum, vMax2, vMin2, vMaxL, vMinL, vList, vInt1, vAppend, vSet, isKd, allD, startG, newL, newLN, tupT, itemsV, List.getElem?_cons_zero, List.getElem?_cons_succ, List.set_cons_zero, List.set_cons_succ, List.length_cons, List.length_nil, List.map_cons, List.map_nil, ifV_true, ifV_false, List.nil_append, List.cons_append, reduceCtorEq, Bool.not_true, Bool.not_false, true_and, and_true, decide_true, decide_false, retD, retX, frzT, frzTs, clo, List.take_zero, List.take_succ_cons, List.take_nil, List.not_mem_nil, false_imp_iff, implies_true, callV, callJ, jsOf, rfsTs, rfsT, rfsO, addN, stepN, okJs, renTs, renT, renO, outN, backS, putAll, idxB, inB, renTs_fz, rfsTs_fz, List.append_nil, List.drop_nil, List.drop_zero, List.foldl_nil, List.foldl_cons, List.nodup_nil, kb_NoneType_int, kb_NoneType_bool, kb_NoneType_list, kb_NoneType_tuple, kb_NoneType_str, kb_bool_int, kb_bool_bool, kb_bool_list, kb_bool_tuple, kb_bool_str, kb_int_int, kb_int_bool, kb_int_list, kb_int_tuple, kb_int_str, kb_str_int, kb_str_bool, kb_str_list, kb_str_tuple, kb_str_str, kb_list_int, kb_list_bool, kb_list_list, kb_list_tuple, kb_list_str, kb_tuple_int, kb_tuple_bool, kb_tuple_list, kb_tuple_tuple, kb_tuple_str, kb_dict_int, kb_dict_bool, kb_dict_list, kb_dict_tuple, kb_dict_str, nodB, subL, okO, cloL, Bool.or_false, Bool.true_or, Bool.or_true, Bool.false_or, eq_self, reduceIte, Int.reduceLE, Int.reduceLT, Int.reduceAdd, Int.reduceSub, Int.reduceNeg, Int.reduceToNat, Nat.reduceAdd, Nat.reduceSub, Nat.reduceLT, Nat.reduceLeDiff, Nat.reduceEqDiff, Int.reduceEq, Int.cast_ofNat_Int, atN_nat, plN_nat, rfsTs_append, renTs_append, Option.map_some, Option.map_none, List.drop_succ_cons, fzs_snoc, fzs_cat, fzs_ins, fzs_set, Int.toNat_natCast, List.length_map, List.length_append, allD_map, allD_append, frzTs_fz, atN_map, List.getD_cons_zero, List.getD_cons_succ, beq_self_eq_true, Nat.reduceBEq, Bool.false_eq_true, vInsert, vInW, datsA, flatD, intsL_flat, intsL_any, natsL_flat, natsL_any, lcR_map, vB1, vB2, vMixed, vTake, pl, vPile, vOrder, vRoom1, vHours, vNeeds, vJob, repL, atX_0, atX_1, atX_2, atX_3, vExtend, jbD, wEnumC, wgStar, wNever, vStrW, wordS, isWord, vIntW, frzAs, frzA, frzD, frzDs, callD, wCallD, vShowD, vNumIn, vSpelled, vJobText])
theorem ok_rows_in (T : Env K mg) : Ok P w K mg base CX0 dd_rows_in "rows_in" 1 ["text"] (liftV K vRowsIn) := by
  obtain ⟨fd, F⟩ := T.c.def_ 15 (d := dd_rows_in) rfl
  refine ⟨fd, F, T.gl 15 _ rfl, F.kp, F.bindsN fun _ _ _ _ _ _ us hl => match us, hl with | [_], _ => rfl, ?_⟩
  refine F.ok sc_rows_in (fun vs H Q E h => ?_) (fun cdv A outer s H vs Q E hr h => ?_)
  · obtain ⟨F0, α, S, ts, q, vx, hs, rr, xl, ql, h⟩ := h
    rw [rr.len]
    exact VLen.len h
  · obtain ⟨F0, α, S, ts, q, vx, hs, rr, xl, ql, h⟩ := h
    refine ⟨_, PSs.nox (pss_one (ps_ret (pe_ifExp (pt_truK (K := K) rfl (pt_tru (pv 0))) (pe_bmK (K := K) rfl (pe_bm PySem.F.plainAttrs_str PySem.F.slot_str_split PySem.F.type_str_split (r := rSplitX) mt_splitX (pv 0) (pa_cons pe_str pa_nil))) (pe_lst pa_nil)))), vbody (N := ["text"]) hs rr xl ql ?_⟩
    unfold vRowsIn at h
    split at h
    · obtain ⟨R, rfl, hR, hl, hq⟩ := h
      have hs := text_len hR
      have hsz : (textS R).length + 2 ≤ sizeLine := Nat.le_trans (show _ ≤ 200000 by omega) (by decide)
      walk_at "v"
      refine ⟨by omega, ?_⟩
      by_cases e : R = []
      · subst e
        exact ifV.F hq
      · have e1 : (((textS R).length : Int) != 0) = true := by
          have := text_ne hR e
          exact bne_iff_ne.mpr (by omega)
        rw [e1, text_split hR e]
        exact ifV.T ⟨rfl, hsz, hq⟩
    · exact h.elim

end
local macro_rules | `(tactic| walk_at "v0") => `(tactic| simp only [wSeq, wNext, wBreak, wCont, wDrop, wRet, wRetN, wIfS, wAsg, wgName, wgNil, wgCons, wgTup, wgUnl, wPar, wVar, wC, wB, wAnd, wOr, wNot, wAndV, wOrV, wNotV, wIf, wOp, wUn, wCB, wNil, wCons, wIsN, wNotN, isNon, wCall, wCall0, wRng1, wRng2, wIList, wITup, wEnum, wZip, wYes, wLst, wLstN, wTup, wSl, vPart, vNoPart, wIsi, wTru, vTru, wChain, wBM, wBM0, wgSub, wAug, vI0, vI0b, vI, vNeg, vAdd, vEqW, datOf, eqS, id, vIsB, vIx, vSl, vLen, vIsi, tyT, tyD, itemsA, itemsT, seqOf, datsOf, vAll, vAny, vSum, vMax2, vMin2, vMaxL, vMinL, vList, vInt1, vAppend, vSet, isKd, allD, startG, newL, newLN, tupT, itemsV, List.getElem?_cons_zero, List.getElem?_cons_succ, List.set_cons_zero, List.set_cons_succ, List.length_cons, List.length_nil, List.map_cons, List.map_nil, ifV_true, ifV_false, List.nil_append, List.cons_append, reduceCtorEq, Bool.not_true, Bool.not_false, true_and, and_true, decide_true, decide_false, retD, retX, frzT, frzTs, clo, List.take_zero, List.take_succ_cons, List.take_nil, List.not_mem_nil, false_imp_iff, implies_true, callV, callJ, jsOf, rfsTs, rfsT, rfsO, addN, stepN, okJs, renTs, renT, renO, outN, backS, putAll, idxB, inB, renTs_fz, rfsTs_fz, List.append_nil, List.drop_nil, List.drop_zero, List.foldl_nil, List.foldl_cons, List.nodup_nil, kb_NoneType_int, kb_NoneType_bool, kb_NoneType_list, kb_NoneType_tuple, kb_NoneType_str, kb_bool_int, kb_bool_bool, kb_bool_list, kb_bool_tuple, kb_bool_str, kb_int_int, kb_int_bool, kb_int_list, kb_int_tuple, kb_int_str, kb_str_int, kb_str_bool, kb_str_list, kb_str_tuple, kb_str_str, kb_list_int, kb_list_bool, kb_list_list, kb_list_tuple, kb_list_str, kb_tuple_int, kb_tuple_bool, kb_tuple_list, kb_tuple_tuple, kb_tuple_str, kb_dict_int, kb_dict_bool, kb_dict_list, kb_dict_tuple, kb_dict_str, nodB, subL, okO, cloL, Bool.or_false, Bool.true_or, Bool.or_true, Bool.false_or, eq_self, reduceIte, Int.reduceLE, Int.reduceLT, Int.reduceAdd, Int.reduceSub, Int.reduceNeg, Int.reduceToNat, Nat.reduceAdd, Nat.reduceSub, Nat.reduceLT, Nat.reduceLeDiff, Nat.reduceEqDiff, Int.reduceEq, Int.cast_ofNat_Int, atN_nat, plN_nat, rfsTs_append, renTs_append, Option.map_some, Option.map_none, List.drop_succ_cons, fzs_snoc, fzs_cat, fzs_ins, fzs_set, Int.toNat_natCast, List.length_map, List.length_append, allD_map, allD_append, frzTs_fz, atN_map, List.getD_cons_zero, List.getD_cons_succ, beq_self_eq_true, Nat.reduceBEq, Bool.false_eq_true, vInsert, vInW, datsA, flatD, intsL_flat, intsL_any, natsL_flat, natsL_any, lcR_map, vB1, vB2, vMixed, vTake, pl, vPile, vOrder, vRoom1, vHours, vNeeds, vJob, repL, atX_0, atX_1, atX_2, atX_3, vExtend, jbD, wEnumC, wgStar, wNever, vStrW, wordS, isWord, vIntW, frzAs, frzA, frzD, frzDs, callD, wCallD, vShowD, vNumIn, vSpelled, vJobText, vRowsIn])

section
variable {P : Program} {w : World} {K : PySem.W.Frag} {mg : Str → Option Value} {base : Heap}
def vRingF : VSp := fun ts S _ q => match ts, S with
  | [.fz (.int n), .fz (.list d)], [] => ∃ (m : Nat) (zs : Prs), n = (m : Int) ∧ d = prsL zs ∧ (∀ z ∈ zs, z.1 < m ∧ z.2 < m) ∧ m ≤ 1000 ∧ zs.length ≤ 1000 ∧ ∀ b : Bool, (b = false ↔ ∃ rk : Nat → Nat, ∀ z ∈ zs, rk z.1 < rk z.2) → q (.fz (.bool b)) []
  | _, _ => False
instance : VLen vRingF 2 := ⟨fun {ts S vx q} h => by
  unfold vRingF at h
  split at h
  · rfl
  · exact h.elim⟩
theorem prsAt_of {F : Hp} {α : List Addr} {v : V} {zs : Prs} (r : RepV K F α v (.fz (.list (prsL zs)))) : ∃ a zs3, v = .ref a ∧ zs3.map (·.2) = zs ∧ NeedsAt F a zs3 := by
  obtain ⟨a, xs, rfl, h1, h2⟩ := lstV r
  obtain ⟨zs3, e1, e2, e3⟩ := dk_prs h2
  rw [e2] at h1
  exact ⟨a, zs3, rfl, e1, h1, e3⟩
theorem ok_has_ring (T : Env K mg) : Ok P w K mg base CX0 dd_has_ring "has_ring" 2 ["many", "needs"] (liftV K vRingF) := ok_imp (M.ok_has_ring T) fun vs H Q E h => by
  obtain ⟨F0, α, S, ts, q, vx, hs, rr, xl, ql, h⟩ := h
  unfold vRingF at h
  split at h
  · obtain ⟨m, zs, rfl, rfl, hz, hm, hl, hq⟩ := h
    obtain ⟨v, y, rfl, rv, ry⟩ := rr.two
    obtain ⟨a, zs3, rfl, e, hN⟩ := prsAt_of ry
    rw [intV rv]
    refine ⟨m, a, zs3, rfl, hN.same hs.sub, fun z hz3 => hz z.2 (by rw [← e]; exact List.mem_map.mpr ⟨z, hz3, rfl⟩), hm, by rw [← List.length_map (f := (·.2)), e]; omega, fun b H' s hb => ?_⟩
    obtain ⟨g1, g2⟩ := hs.same s
    refine ql _ _ _ _ _ _ g2 g1 (.fz (.bl _)) (hq b (hb.trans ⟨fun ⟨rk, h⟩ => ⟨rk, fun z hz => ?_⟩, fun ⟨rk, h⟩ => ⟨rk, fun z hz => h z.2 (by rw [← e]; exact List.mem_map.mpr ⟨z, hz, rfl⟩)⟩⟩))
    rw [← e] at hz
    obtain ⟨y, hy, rfl⟩ := List.mem_map.mp hz
    exact h y hy
  · exact h.elim
def vNeedP : VSp := fun ts S _ q => match ts, S with
  | [.fz (.int n), .fz (.tuple [.int a, .int b])], [] => q (.fz (.bool (taskD n (.int a) && (taskD n (.int b) && !decide (a = b))))) []
  | _, _ => False
instance : VLen vNeedP 2 := ⟨fun {ts S vx q} h => by
  unfold vNeedP at h
  split at h
  · rfl
  · exact h.elim⟩
local macro_rules | `(tactic| walk_at "v") => `(tactic| simp only [wSeq, wNext, wBreak, wCont, wDrop, wRet, wRetN, wIfS, wAsg, wgName, wgNil, wgCons, wgTup, wgUnl, wPar, wVar, wC, wB, wAnd, wOr, wNot, wAndV, wOrV, wNotV, wIf, wOp, wUn, wCB, wNil, wCons, wIsN, wNotN, isNon, wCall, wCall0, wRng1, wRng2, wIList, wITup, wEnum, wZip, wYes, wLst, wLstN, wTup, wSl, vPart, vNoPart, wIsi, wTru, vTru, wChain, wBM, wBM0, wgSub, wAug, vI0, vI0b, vI, vNeg, vAdd, vEqW, datOf, eqS, id, vIsB, vIx, vSl, vLen, vIsi, tyT, tyD, itemsA, itemsT, seqOf, datsOf, vAll, vAny, vSum, vMax2, vMin2, vMaxL, vMinL, vList, vInt1, vAppend, vSet, isKd, allD, startG, newL, newLN, tupT, itemsV, List.getElem?_cons_zero, List.getElem?_cons_succ, List.set_cons_zero, List.set_cons_succ, List.length_cons, List.length_nil, List.map_cons, List.map_nil, ifV_true, ifV_false, List.nil_append, List.cons_append, reduceCtorEq, Bool.not_true, Bool.not_false, true_and, and_true, decide_true, decide_false, retD, retX, frzT, frzTs, clo, List.take_zero, List.take_succ_cons, List.take_nil, List.not_mem_nil, false_imp_iff, implies_true, callV, callJ, jsOf, rfsTs, rfsT, rfsO, addN, stepN, okJs, renTs, renT, renO, outN, backS, putAll, idxB, inB, renTs_fz, rfsTs_fz, List.append_nil, List.drop_nil, List.drop_zero, List.foldl_nil, List.foldl_cons, List.nodup_nil, kb_NoneType_int, kb_NoneType_bool, kb_NoneType_list, kb_NoneType_tuple, kb_NoneType_str, kb_bool_int, kb_bool_bool, kb_bool_list, kb_bool_tuple, kb_bool_str, kb_int_int, kb_int_bool, kb_int_list, kb_int_tuple, kb_int_str, kb_str_int, kb_str_bool, kb_str_list, kb_str_tuple, kb_str_str, kb_list_int, kb_list_bool, kb_list_list, kb_list_tuple, kb_list_str, kb_tuple_int, kb_tuple_bool, kb_tuple_list, kb_tuple_tuple, kb_tuple_str, kb_dict_int, kb_dict_bool, kb_dict_list, kb_dict_tuple, kb_dict_str, nodB, subL, okO, cloL, Bool.or_false, Bool.true_or, Bool.or_true, Bool.false_or, eq_self, reduceIte, Int.reduceLE, Int.reduceLT, Int.reduceAdd, Int.reduceSub, Int.reduceNeg, Int.reduceToNat, Nat.reduceAdd, Nat.reduceSub, Nat.reduceLT, Nat.reduceLeDiff, Nat.reduceEqDiff, Int.reduceEq, Int.cast_ofNat_Int, atN_nat, plN_nat, rfsTs_append, renTs_append, Option.map_some, Option.map_none, List.drop_succ_cons, fzs_snoc, fzs_cat, fzs_ins, fzs_set, Int.toNat_natCast, List.length_map, List.length_append, allD_map, allD_append, frzTs_fz, atN_map, List.getD_cons_zero, List.getD_cons_succ, beq_self_eq_true, Nat.reduceBEq, Bool.false_eq_true, vInsert, vInW, datsA, flatD, intsL_flat, intsL_any, natsL_flat, natsL_any, lcR_map, vB1, vB2, vMixed, vTake, pl, vPile, vOrder, vRoom1, vHours, vNeeds, vJob, repL, atX_0, atX_1, atX_2, atX_3, vExtend, jbD, wEnumC, wgStar, wNever, vStrW, wordS, isWord, vIntW, frzAs, frzA, frzD, frzDs, callD, wCallD, vShowD, vNumIn, vSpelled, vJobText, vRowsIn, tupT_map, catL, newL_map, prsL_snoc, shX_pair, shX_prs, anyX_prs, vRingF])
theorem ok_is_need (T : Env K mg) : Ok P w K mg base CX0 dd_is_need "is_need" 4 ["many", "thing"] (liftV K vNeedP) := by
  obtain ⟨fd_is_task, D_is_task, g_is_task, k_is_task, b_is_task, G_is_task⟩ := ok_is_task (P := P) (w := w) (base := base) T
  obtain ⟨fd, F⟩ := T.c.def_ 7 (d := dd_is_need) rfl
  refine ⟨fd, F, T.gl 7 _ rfl, F.kp, F.bindsN fun _ _ _ _ _ _ us hl => match us, hl with | [_, _], _ => rfl, ?_⟩
  refine F.ok sc_is_need (fun vs H Q E h => ?_) (fun cdv A outer s H vs Q E hr h => ?_)
  · obtain ⟨F0, α, S, ts, q, vx, hs, rr, xl, ql, h⟩ := h
    rw [rr.len]
    exact VLen.len h
  · obtain ⟨F0, α, S, ts, q, vx, hs, rr, xl, ql, h⟩ := h
    refine ⟨_, PSs.nox (pss_cons (ps_if (PW.pt (pw_or (pt_not (pt_val (pe_callB (r := rIsi K) call_isi (by rfl) (T.fr 32 _ rfl) (by decide +kernel) (pa_cons (pv 1) (pa_cons (pe_bltn (v := .ty "tuple") (by rfl) (T.fr 37 _ rfl) (by decide +kernel) rfl) pa_nil))))) (pw_or1 (pt_cmpR (r := rNeX K) (op_neX hr.units) (pe_callB (r := rLenX K) call_lenX (by rfl) (T.fr 36 _ rfl) (by decide +kernel) (pa_cons (pv 1) pa_nil)) pe_int (nomark _))))) (pss_one (ps_ret pe_bl)) pss_nil)
      (pss_cons (ps_asg (pv 1) (pg_tupK (K := K) (n := 2) rfl (pg_tup rfl (pgs_cons (pg_name (i := 2) sc_is_need.nd rfl (Or.inl rfl)) (pgs_cons (pg_name (i := 3) sc_is_need.nd rfl (Or.inl rfl)) pgs_nil)))))
      (pss_one (ps_ret (pe_and (pe_call G_is_task (hr.mono (by decide)) (by rfl) g_is_task k_is_task b_is_task .nil pass0 (pa_cons (pv 0) (pa_cons (pv 2) pa_nil))) (pe_and (pe_call G_is_task (hr.mono (by decide)) (by rfl) g_is_task k_is_task b_is_task .nil pass0 (pa_cons (pv 0) (pa_cons (pv 3) pa_nil))) (pe_one (pe_cmpR (r := rNeX K) (op_neX hr.units) (pv 2) (pv 3) (nomark _))))))))), vbody (N := ["many", "thing", "a", "b"]) hs rr xl ql ?_⟩
    unfold vNeedP at h
    split at h
    · rename_i n a b
      walk_at "v"
      cases e1 : taskD n (.int a) with
      | false =>
        rw [e1] at h
        exact ifV.F h
      | true =>
        rw [e1] at h
        refine ifV.T ?_
        cases e2 : taskD n (.int b) with
        | false =>
          rw [e2] at h
          exact ifV.F h
        | true =>
          rw [e2] at h
          exact ifV.T h
    · exact h.elim

def vTakeTask : VSp := fun ts S _ q => match ts, S with
  | [.tp [.rf 0, .rf 1, .rf 2, .rf 3], .fz (.list nd)], [.lst A, .lst B, .lst C, .lst D] => ∃ (a b d : List PyData) (f : Int) (o : Option Int), A = fzs a ∧ B = fzs b ∧ C = [] ∧ D = fzs d ∧ nd = intsL (f :: o.toList) ∧ 1 ≤ f ∧ a.length ≤ 1000 ∧ b.length ≤ 1000 ∧ q (.fz (.bool true)) [.lst (fzs (a ++ [.int f])), .lst (fzs (b ++ [oD o])), .lst [], .lst (fzs d)]
  | _, _ => False
instance : VLen vTakeTask 2 := ⟨fun {ts S vx q} h => by
  unfold vTakeTask at h
  split at h
  · rfl
  · exact h.elim⟩
local macro_rules | `(tactic| walk_at "v") => `(tactic| simp only [wSeq, wNext, wBreak, wCont, wDrop, wRet, wRetN, wIfS, wAsg, wgName, wgNil, wgCons, wgTup, wgUnl, wPar, wVar, wC, wB, wAnd, wOr, wNot, wAndV, wOrV, wNotV, wIf, wOp, wUn, wCB, wNil, wCons, wIsN, wNotN, isNon, wCall, wCall0, wRng1, wRng2, wIList, wITup, wEnum, wZip, wYes, wLst, wLstN, wTup, wSl, vPart, vNoPart, wIsi, wTru, vTru, wChain, wBM, wBM0, wgSub, wAug, vI0, vI0b, vI, vNeg, vAdd, vEqW, datOf, eqS, id, vIsB, vIx, vSl, vLen, vIsi, tyT, tyD, itemsA, itemsT, seqOf, datsOf, vAll, vAny, vSum, vMax2, vMin2, vMaxL, vMinL, vList, vInt1, vAppend, vSet, isKd, allD, startG, newL, newLN, tupT, itemsV, List.getElem?_cons_zero, List.getElem?_cons_succ, List.set_cons_zero, List.set_cons_succ, List.length_cons, List.length_nil, List.map_cons, List.map_nil, ifV_true, ifV_false, List.nil_append, List.cons_append, reduceCtorEq, Bool.not_true, Bool.not_false, true_and, and_true, decide_true, decide_false, retD, retX, frzT, frzTs, clo, List.take_zero, List.take_succ_cons, List.take_nil, List.not_mem_nil, false_imp_iff, implies_true, callV, callJ, jsOf, rfsTs, rfsT, rfsO, addN, stepN, okJs, renTs, renT, renO, outN, backS, putAll, idxB, inB, renTs_fz, rfsTs_fz, List.append_nil, List.drop_nil, List.drop_zero, List.foldl_nil, List.foldl_cons, List.nodup_nil, kb_NoneType_int, kb_NoneType_bool, kb_NoneType_list, kb_NoneType_tuple, kb_NoneType_str, kb_bool_int, kb_bool_bool, kb_bool_list, kb_bool_tuple, kb_bool_str, kb_int_int, kb_int_bool, kb_int_list, kb_int_tuple, kb_int_str, kb_str_int, kb_str_bool, kb_str_list, kb_str_tuple, kb_str_str, kb_list_int, kb_list_bool, kb_list_list, kb_list_tuple, kb_list_str, kb_tuple_int, kb_tuple_bool, kb_tuple_list, kb_tuple_tuple, kb_tuple_str, kb_dict_int, kb_dict_bool, kb_dict_list, kb_dict_tuple, kb_dict_str, nodB, subL, okO, cloL, Bool.or_false, Bool.true_or, Bool.or_true, Bool.false_or, eq_self, reduceIte, Int.reduceLE, Int.reduceLT, Int.reduceAdd, Int.reduceSub, Int.reduceNeg, Int.reduceToNat, Nat.reduceAdd, Nat.reduceSub, Nat.reduceLT, Nat.reduceLeDiff, Nat.reduceEqDiff, Int.reduceEq, Int.cast_ofNat_Int, atN_nat, plN_nat, rfsTs_append, renTs_append, Option.map_some, Option.map_none, List.drop_succ_cons, fzs_snoc, fzs_cat, fzs_ins, fzs_set, Int.toNat_natCast, List.length_map, List.length_append, allD_map, allD_append, frzTs_fz, atN_map, List.getD_cons_zero, List.getD_cons_succ, beq_self_eq_true, Nat.reduceBEq, Bool.false_eq_true, vInsert, vInW, datsA, flatD, intsL_flat, intsL_any, natsL_flat, natsL_any, lcR_map, vB1, vB2, vMixed, vTake, pl, vPile, vOrder, vRoom1, vHours, vNeeds, vJob, repL, atX_0, atX_1, atX_2, atX_3, vExtend, jbD, wEnumC, wgStar, wNever, vStrW, wordS, isWord, vIntW, frzAs, frzA, frzD, frzDs, callD, wCallD, vShowD, vNumIn, vSpelled, vJobText, vRowsIn, tupT_map, catL, newL_map, prsL_snoc, shX_pair, shX_prs, anyX_prs, vRingF, vNeedP, taskD])
theorem ok_take_task (T : Env K mg) : Ok P w K mg base CX0 dd_take_task "take_task" 1 ["job", "numbers"] (liftV K vTakeTask) := by
  obtain ⟨fd, F⟩ := T.c.def_ 18 (d := dd_take_task) rfl
  refine ⟨fd, F, T.gl 18 _ rfl, F.kp, F.bindsN fun _ _ _ _ _ _ us hl => match us, hl with | [_, _], _ => rfl, ?_⟩
  refine F.ok sc_take_task (fun vs H Q E h => ?_) (fun cdv A outer s H vs Q E hr h => ?_)
  · obtain ⟨F0, α, S, ts, q, vx, hs, rr, xl, ql, h⟩ := h
    rw [rr.len]
    exact VLen.len h
  · obtain ⟨F0, α, S, ts, q, vx, hs, rr, xl, ql, h⟩ := h
    refine ⟨_, PSs.nox (pss_cons (ps_asg (pv 0) (pg_tupK (K := K) (n := 4) rfl (pg_tup rfl (pgs_cons (pg_name (i := 2) sc_take_task.nd rfl (Or.inl rfl)) (pgs_cons (pg_name (i := 3) sc_take_task.nd rfl (Or.inl rfl)) (pgs_cons (pg_name (i := 4) sc_take_task.nd rfl (Or.inl rfl)) (pgs_cons (pg_name (i := 5) sc_take_task.nd rfl (Or.inl rfl)) pgs_nil)))))))
      (pss_cons (ps_if (PW.pt (pw_or (pt_truK (K := K) rfl (pt_tru (pv 4))) (pw_or (pt_cmpR (r := rNotInX K) (op_notInX (room65 hr)) (pe_callB (r := rLenX K) call_lenX (by rfl) (T.fr 36 _ rfl) (by decide +kernel) (pa_cons (pv 1) pa_nil)) (pe_tup (pa_cons pe_int (pa_cons pe_int pa_nil))) (by rfl)) (pw_or1 (pt_cmpR (r := rEqX K) (op_eqX hr.units) (pe_ix (r := rIx K) ix_seq (pv 1) pe_int (fun _ _ => rfl)) pe_int (nomark _)))))) (pss_one (ps_ret pe_bl)) pss_nil)
      (pss_cons (ps_expr (pe_bmK (K := K) rfl (pe_bm PySem.F.plainAttrs_list PySem.F.slot_list_append PySem.F.type_list_append (r := rAppend) mt_append (pv 2) (pa_cons (pe_ix (r := rIx K) ix_seq (pv 1) pe_int (fun _ _ => rfl)) pa_nil))))
      (pss_cons (ps_expr (pe_bmK (K := K) rfl (pe_bm PySem.F.plainAttrs_list PySem.F.slot_list_append PySem.F.type_list_append (r := rAppend) mt_append (pv 3) (pa_cons (pe_ifExp (pt_cmpR (r := rEqX K) (op_eqX hr.units) (pe_callB (r := rLenX K) call_lenX (by rfl) (T.fr 36 _ rfl) (by decide +kernel) (pa_cons (pv 1) pa_nil)) pe_int (nomark _)) (pe_ix (r := rIx K) ix_seq (pv 1) pe_int (fun _ _ => rfl)) pe_non) pa_nil))))
      (pss_one (ps_ret pe_bl)))))), vbody (N := ["job", "numbers", "frees", "dues", "needs", "_"]) hs rr xl ql ?_⟩
    unfold vTakeTask at h
    split at h
    · obtain ⟨a, b, d, f, o, rfl, rfl, rfl, rfl, rfl, hf, hA, hB, hq⟩ := h
      refine vstep fun k hk => ?_
      walk_at "v"
      refine hk _ _ ?_
      clear hk
      have e0 : decide (f = 0) = false := decide_eq_false (by omega)
      cases o with
      | none =>
        simp only [Option.toList, intsL, List.map_cons, List.map_nil]
        walk_at "v"
        rw [e0]
        refine ifV.F ⟨.inl rfl, ifV.F (ifV.F ⟨by omega, by omega, ?_⟩)⟩
        have e1 := hq
        simp only [List.map_append, oD] at e1 ⊢
        exact e1
      | some x =>
        simp only [Option.toList, intsL, List.map_cons, List.map_nil]
        walk_at "v"
        rw [e0]
        refine ifV.F ⟨.inl rfl, ifV.F (ifV.F ⟨by omega, by omega, ?_⟩)⟩
        have e1 := hq
        simp only [List.map_append, oD] at e1 ⊢
        exact e1
    · exact h.elim
def vTakeNeed : VSp := fun ts S _ q => match ts, S with
  | [.tp [.rf 0, .rf 1, .rf 2, .rf 3], .fz (.list nd)], [.lst A, .lst B, .lst C, .lst D] => ∃ (a b d : List PyData) (zs : Prs) (z : Nat × Nat), A = fzs a ∧ B = fzs b ∧ C = fzs (prsL zs) ∧ D = fzs d ∧ nd = [.int (z.1 : Int), .int (z.2 : Int)] ∧ a.length ≤ 1000 ∧ zs.length ≤ 900 ∧ ¬ z ∈ zs ∧ (∀ y ∈ zs ++ [z], y.1 < a.length ∧ y.2 < a.length) ∧ (∃ rk : Nat → Nat, ∀ y ∈ zs ++ [z], rk y.1 < rk y.2) ∧ q (.fz (.bool true)) [.lst (fzs a), .lst (fzs b), .lst (fzs (prsL (zs ++ [z]))), .lst (fzs d)]
  | _, _ => False
instance : VLen vTakeNeed 2 := ⟨fun {ts S vx q} h => by
  unfold vTakeNeed at h
  split at h
  · rfl
  · exact h.elim⟩
local macro_rules | `(tactic| walk_at "v") => `(tactic| simp only [wSeq, wNext, wBreak, wCont, wDrop, wRet, wRetN, wIfS, wAsg, wgName, wgNil, wgCons, wgTup, wgUnl, wPar, wVar, wC, wB, wAnd, wOr, wNot, wAndV, wOrV, wNotV, wIf, wOp, wUn, wCB, wNil, wCons, wIsN, wNotN, isNon, wCall, wCall0, wRng1, wRng2, wIList, wITup, wEnum, wZip, wYes, wLst, wLstN, wTup, wSl, vPart, vNoPart, wIsi, wTru, vTru, wChain, wBM, wBM0, wgSub, wAug, vI0, vI0b, vI, vNeg, vAdd, vEqW, datOf, eqS, id, vIsB, vIx, vSl, vLen, vIsi, tyT, tyD, itemsA, itemsT, seqOf, datsOf, vAll, vAny, vSum, vMax2, vMin2, vMaxL, vMinL, vList, vInt1, vAppend, vSet, isKd, allD, startG, newL, newLN, tupT, itemsV, List.getElem?_cons_zero, List.getElem?_cons_succ, List.set_cons_zero, List.set_cons_succ, List.length_cons, List.length_nil, List.map_cons, List.map_nil, ifV_true, ifV_false, List.nil_append, List.cons_append, reduceCtorEq, Bool.not_true, Bool.not_false, true_and, and_true, decide_true, decide_false, retD, retX, frzT, frzTs, clo, List.take_zero, List.take_succ_cons, List.take_nil, List.not_mem_nil, false_imp_iff, implies_true, callV, callJ, jsOf, rfsTs, rfsT, rfsO, addN, stepN, okJs, renTs, renT, renO, outN, backS, putAll, idxB, inB, renTs_fz, rfsTs_fz, List.append_nil, List.drop_nil, List.drop_zero, List.foldl_nil, List.foldl_cons, List.nodup_nil, kb_NoneType_int, kb_NoneType_bool, kb_NoneType_list, kb_NoneType_tuple, kb_NoneType_str, kb_bool_int, kb_bool_bool, kb_bool_list, kb_bool_tuple, kb_bool_str, kb_int_int, kb_int_bool, kb_int_list, kb_int_tuple, kb_int_str, kb_str_int, kb_str_bool, kb_str_list, kb_str_tuple, kb_str_str, kb_list_int, kb_list_bool, kb_list_list, kb_list_tuple, kb_list_str, kb_tuple_int, kb_tuple_bool, kb_tuple_list, kb_tuple_tuple, kb_tuple_str, kb_dict_int, kb_dict_bool, kb_dict_list, kb_dict_tuple, kb_dict_str, nodB, subL, okO, cloL, Bool.or_false, Bool.true_or, Bool.or_true, Bool.false_or, eq_self, reduceIte, Int.reduceLE, Int.reduceLT, Int.reduceAdd, Int.reduceSub, Int.reduceNeg, Int.reduceToNat, Nat.reduceAdd, Nat.reduceSub, Nat.reduceLT, Nat.reduceLeDiff, Nat.reduceEqDiff, Int.reduceEq, Int.cast_ofNat_Int, atN_nat, plN_nat, rfsTs_append, renTs_append, Option.map_some, Option.map_none, List.drop_succ_cons, fzs_snoc, fzs_cat, fzs_ins, fzs_set, Int.toNat_natCast, List.length_map, List.length_append, allD_map, allD_append, frzTs_fz, atN_map, List.getD_cons_zero, List.getD_cons_succ, beq_self_eq_true, Nat.reduceBEq, Bool.false_eq_true, vInsert, vInW, datsA, flatD, intsL_flat, intsL_any, natsL_flat, natsL_any, lcR_map, vB1, vB2, vMixed, vTake, pl, vPile, vOrder, vRoom1, vHours, vNeeds, vJob, repL, atX_0, atX_1, atX_2, atX_3, vExtend, jbD, wEnumC, wgStar, wNever, vStrW, wordS, isWord, vIntW, frzAs, frzA, frzD, frzDs, callD, wCallD, vShowD, vNumIn, vSpelled, vJobText, vRowsIn, tupT_map, catL, newL_map, prsL_snoc, shX_pair, shX_prs, anyX_prs, vRingF, vNeedP, taskD, vTakeTask])
theorem ok_take_need (T : Env K mg) : Ok P w K mg base CX0 dd_take_need "take_need" 5 ["job", "numbers"] (liftV K vTakeNeed) := by
  obtain ⟨fd_has_ring, D_has_ring, g_has_ring, k_has_ring, b_has_ring, G_has_ring⟩ := ok_has_ring (P := P) (w := w) (base := base) T
  obtain ⟨fd_is_need, D_is_need, g_is_need, k_is_need, b_is_need, G_is_need⟩ := ok_is_need (P := P) (w := w) (base := base) T
  obtain ⟨fd, F⟩ := T.c.def_ 19 (d := dd_take_need) rfl
  refine ⟨fd, F, T.gl 19 _ rfl, F.kp, F.bindsN fun _ _ _ _ _ _ us hl => match us, hl with | [_, _], _ => rfl, ?_⟩
  refine F.ok sc_take_need (fun vs H Q E h => ?_) (fun cdv A outer s H vs Q E hr h => ?_)
  · obtain ⟨F0, α, S, ts, q, vx, hs, rr, xl, ql, h⟩ := h
    rw [rr.len]
    exact VLen.len h
  · obtain ⟨F0, α, S, ts, q, vx, hs, rr, xl, ql, h⟩ := h
    refine ⟨_, PSs.nox (pss_cons (ps_asg (pv 0) (pg_tupK (K := K) (n := 4) rfl (pg_tup rfl (pgs_cons (pg_name (i := 2) sc_take_need.nd rfl (Or.inl rfl)) (pgs_cons (pg_name (i := 3) sc_take_need.nd rfl (Or.inl rfl)) (pgs_cons (pg_name (i := 4) sc_take_need.nd rfl (Or.inl rfl)) (pgs_cons (pg_name (i := 3) sc_take_need.nd rfl (Or.inl rfl)) pgs_nil)))))))
      (pss_cons (ps_set (i := 5) sc_take_need.nd rfl (Or.inl rfl) (pe_callTy (r := rTupX K) call_tupleX (by rfl) (T.fr 37 _ rfl) (by decide +kernel) (pa_cons (pv 1) pa_nil)))
      (pss_cons (ps_if (PW.pt (pw_or (pt_not (pt_truK (K := K) rfl (pt_tru (pe_call G_is_need (hr.mono (by decide)) (by rfl) g_is_need k_is_need b_is_need .nil pass0 (pa_cons (pe_callB (r := rLenX K) call_lenX (by rfl) (T.fr 36 _ rfl) (by decide +kernel) (pa_cons (pv 2) pa_nil)) (pa_cons (pv 5) pa_nil)))))) (pw_or (pt_cmpR (r := rInX K) (op_inX (room65 hr)) (pv 5) (pv 4) (by rfl)) (pw_or1 (pt_truK (K := K) rfl (pt_tru (pe_call G_has_ring (hr.mono (by decide)) (by rfl) g_has_ring k_has_ring b_has_ring .nil pass0 (pa_cons (pe_callB (r := rLenX K) call_lenX (by rfl) (T.fr 36 _ rfl) (by decide +kernel) (pa_cons (pv 2) pa_nil)) (pa_cons (pe_op (r := rAddX K) op_addX (pv 4) (pe_lst (pa_cons (pv 5) pa_nil))) pa_nil))))))))) (pss_one (ps_ret pe_bl)) pss_nil)
      (pss_cons (ps_expr (pe_bmK (K := K) rfl (pe_bm PySem.F.plainAttrs_list PySem.F.slot_list_append PySem.F.type_list_append (r := rAppend) mt_append (pv 4) (pa_cons (pv 5) pa_nil))))
      (pss_one (ps_ret pe_bl)))))), vbody (N := ["job", "numbers", "frees", "_", "needs", "need"]) hs rr xl ql ?_⟩
    unfold vTakeNeed at h
    split at h
    · obtain ⟨a, b, d, zs, z, rfl, rfl, rfl, rfl, rfl, ha, hz, hn, hlt, hrk, hq⟩ := h
      refine vstep fun k hk => ?_
      walk_at "v"
      refine hk _ _ ?_
      clear hk
      refine vstep fun k hk => ?_
      walk_at "v"
      refine hk _ _ ?_
      clear hk
      have hz1 : (z.1 < a.length ∧ z.2 < a.length) := hlt z (List.mem_append_right _ (List.mem_singleton.mpr rfl))
      have hne : z.1 ≠ z.2 := fun e => by
        obtain ⟨rk, h⟩ := hrk
        have := h z (List.mem_append_right _ (List.mem_singleton.mpr rfl))
        rw [e] at this
        exact Nat.lt_irrefl _ this
      refine vifS fun k hk => ?_
      walk_at "v"
      refine ifX_hq (p := False) ⟨fun h => ?_, False.elim⟩ False.elim fun _ => ⟨.inr trivial, ifX_hq (decide_eq_true_iff) (fun h => absurd h hn) fun _ => ⟨by rw [prsL_len]; omega, a.length, zs ++ [z], rfl, rfl, hlt, ha, by rw [List.length_append, List.length_singleton]; omega, fun b1 hb => ?_⟩⟩
      · rw [Bool.not_eq_true', ← Bool.not_eq_true] at h
        refine h ?_
        simp only [Bool.and_eq_true, decide_eq_true_iff, Bool.not_eq_true', decide_eq_false_iff_not]
        exact ⟨⟨by omega, by omega⟩, ⟨by omega, by omega⟩, by omega⟩
      have e1 := hb.mpr hrk
      subst e1
      refine hk false _ (ifV.F ?_)
      clear hk
      walk_at "v"
      exact ⟨by rw [prsL_len]; omega, hq⟩
    · exact h.elim
def vTakeRooms : VSp := fun ts S _ q => match ts, S with
  | [.tp [.rf 0, .rf 1, .rf 2, .rf 3], .fz (.list nd)], [.lst A, .lst B, .lst C, .lst D] => ∃ (a b c : List PyData) (rs : List Int), A = fzs a ∧ B = fzs b ∧ C = fzs c ∧ D = [] ∧ nd = intsL rs ∧ rs ≠ [] ∧ rs.length ≤ 1000 ∧ (∀ r ∈ rs, 0 ≤ r ∧ r ≤ 3) ∧ q (.fz (.bool true)) [.lst (fzs a), .lst (fzs b), .lst (fzs c), .lst (fzs (intsL rs))]
  | _, _ => False
instance : VLen vTakeRooms 2 := ⟨fun {ts S vx q} h => by
  unfold vTakeRooms at h
  split at h
  · rfl
  · exact h.elim⟩
local macro_rules | `(tactic| walk_at "v") => `(tactic| simp only [wSeq, wNext, wBreak, wCont, wDrop, wRet, wRetN, wIfS, wAsg, wgName, wgNil, wgCons, wgTup, wgUnl, wPar, wVar, wC, wB, wAnd, wOr, wNot, wAndV, wOrV, wNotV, wIf, wOp, wUn, wCB, wNil, wCons, wIsN, wNotN, isNon, wCall, wCall0, wRng1, wRng2, wIList, wITup, wEnum, wZip, wYes, wLst, wLstN, wTup, wSl, vPart, vNoPart, wIsi, wTru, vTru, wChain, wBM, wBM0, wgSub, wAug, vI0, vI0b, vI, vNeg, vAdd, vEqW, datOf, eqS, id, vIsB, vIx, vSl, vLen, vIsi, tyT, tyD, itemsA, itemsT, seqOf, datsOf, vAll, vAny, vSum, vMax2, vMin2, vMaxL, vMinL, vList, vInt1, vAppend, vSet, isKd, allD, startG, newL, newLN, tupT, itemsV, List.getElem?_cons_zero, List.getElem?_cons_succ, List.set_cons_zero, List.set_cons_succ, List.length_cons, List.length_nil, List.map_cons, List.map_nil, ifV_true, ifV_false, List.nil_append, List.cons_append, reduceCtorEq, Bool.not_true, Bool.not_false, true_and, and_true, decide_true, decide_false, retD, retX, frzT, frzTs, clo, List.take_zero, List.take_succ_cons, List.take_nil, List.not_mem_nil, false_imp_iff, implies_true, callV, callJ, jsOf, rfsTs, rfsT, rfsO, addN, stepN, okJs, renTs, renT, renO, outN, backS, putAll, idxB, inB, renTs_fz, rfsTs_fz, List.append_nil, List.drop_nil, List.drop_zero, List.foldl_nil, List.foldl_cons, List.nodup_nil, kb_NoneType_int, kb_NoneType_bool, kb_NoneType_list, kb_NoneType_tuple, kb_NoneType_str, kb_bool_int, kb_bool_bool, kb_bool_list, kb_bool_tuple, kb_bool_str, kb_int_int, kb_int_bool, kb_int_list, kb_int_tuple, kb_int_str, kb_str_int, kb_str_bool, kb_str_list, kb_str_tuple, kb_str_str, kb_list_int, kb_list_bool, kb_list_list, kb_list_tuple, kb_list_str, kb_tuple_int, kb_tuple_bool, kb_tuple_list, kb_tuple_tuple, kb_tuple_str, kb_dict_int, kb_dict_bool, kb_dict_list, kb_dict_tuple, kb_dict_str, nodB, subL, okO, cloL, Bool.or_false, Bool.true_or, Bool.or_true, Bool.false_or, eq_self, reduceIte, Int.reduceLE, Int.reduceLT, Int.reduceAdd, Int.reduceSub, Int.reduceNeg, Int.reduceToNat, Nat.reduceAdd, Nat.reduceSub, Nat.reduceLT, Nat.reduceLeDiff, Nat.reduceEqDiff, Int.reduceEq, Int.cast_ofNat_Int, atN_nat, plN_nat, rfsTs_append, renTs_append, Option.map_some, Option.map_none, List.drop_succ_cons, fzs_snoc, fzs_cat, fzs_ins, fzs_set, Int.toNat_natCast, List.length_map, List.length_append, allD_map, allD_append, frzTs_fz, atN_map, List.getD_cons_zero, List.getD_cons_succ, beq_self_eq_true, Nat.reduceBEq, Bool.false_eq_true, vInsert, vInW, datsA, flatD, intsL_flat, intsL_any, natsL_flat, natsL_any, lcR_map, vB1, vB2, vMixed, vTake, pl, vPile, vOrder, vRoom1, vHours, vNeeds, vJob, repL, atX_0, atX_1, atX_2, atX_3, vExtend, jbD, wEnumC, wgStar, wNever, vStrW, wordS, isWord, vIntW, frzAs, frzA, frzD, frzDs, callD, wCallD, vShowD, vNumIn, vSpelled, vJobText, vRowsIn, tupT_map, catL, newL_map, prsL_snoc, shX_pair, shX_prs, anyX_prs, vRingF, vNeedP, taskD, vTakeTask, vTakeNeed])
theorem ok_take_rooms (T : Env K mg) : Ok P w K mg base CX0 dd_take_rooms "take_rooms" 4 ["job", "numbers"] (liftV K vTakeRooms) := by
  obtain ⟨fd_is_room, D_is_room, g_is_room, k_is_room, b_is_room, G_is_room⟩ := ok_is_room (P := P) (w := w) (base := base) T
  obtain ⟨fd, F⟩ := T.c.def_ 20 (d := dd_take_rooms) rfl
  refine ⟨fd, F, T.gl 20 _ rfl, F.kp, F.bindsN fun _ _ _ _ _ _ us hl => match us, hl with | [_, _], _ => rfl, ?_⟩
  refine F.ok sc_take_rooms (fun vs H Q E h => ?_) (fun cdv A outer s H vs Q E hr h => ?_)
  · obtain ⟨F0, α, S, ts, q, vx, hs, rr, xl, ql, h⟩ := h
    rw [rr.len]
    exact VLen.len h
  · obtain ⟨F0, α, S, ts, q, vx, hs, rr, xl, ql, h⟩ := h
    refine ⟨_, PSs.nox (pss_cons (ps_if (PW.pt (pw_or (pt_not (pt_truK (K := K) rfl (pt_tru (pv 1)))) (pw_or1 (pt_not (pt_val (pe_callB (r := rAll K) (cr_all rfl) (by rfl) (T.fr 35 _ rfl) (by decide +kernel) (pa_cons (pe_lc (own := [("number", 2)]) (g := gName 2) (tt := tYes) (by rfl) sc_take_rooms.nd (pi_listK (K := K) rfl (pv 1)) (blkOk_by (own := [("number", 2)]) (N := N_take_rooms) (sc := defScope s_take_rooms) (by decide +kernel)) (fun _ _ _ _ _ => (pg_name (i := 2) sc_take_rooms.nd rfl (by first | exact Or.inl rfl | exact Or.inr rfl))) (fun _ _ _ _ _ => pts_nil) (fun _ _ _ _ _ => (pe_call G_is_room (hr.mono (by decide)) (by rfl) g_is_room k_is_room b_is_room .nil pass0 (pa_cons (pv 2) pa_nil)))) pa_nil))))))) (pss_one (ps_ret pe_bl)) pss_nil)
      (pss_cons (ps_expr (pe_bmK (K := K) rfl (pe_bm PySem.F.plainAttrs_list PySem.F.slot_list_extend PySem.F.type_list_extend (r := rExtend) mt_extend (pe_ix (r := rIx K) ix_seq (pv 0) pe_int (fun _ _ => rfl)) (pa_cons (pv 1) pa_nil))))
      (pss_one (ps_ret pe_bl)))), vbody (N := ["job", "numbers", "number"]) hs rr xl ql ?_⟩
    unfold vTakeRooms at h
    split at h
    · obtain ⟨a, b, c, rs, rfl, rfl, rfl, rfl, rfl, hne, hl, hv, hq⟩ := h
      refine vifS fun k hk => ?_
      have e0 : (!!(intsL rs).isEmpty) = false := by
        cases rs with
        | nil => exact absurd rfl hne
        | cons a b => rfl
      unfold wLc
      walk_at "v"
      rw [e0]
      have e1 : (rs.map fun _ => PyData.bool true) = (rs.map fun _ => true).map PyData.bool := by
        rw [List.map_map]
        rfl
      refine ifV.F ⟨rfl, lcV_of PyData.int (fun _ => .bool true) trivial (by omega) (fun i r k2 k0 hp hk2 => ?_) ?_⟩
      · simp only [wipeG]
        walk_at "v"
        have hr := hv r (List.mem_of_getElem? hp)
        rw [show roomD (.int r) = true from by show (decide (0 ≤ r) && decide (r ≤ 3)) = true; rw [decide_eq_true hr.1, decide_eq_true hr.2]; rfl]
        exact hk2
      rw [e1]
      simp only [boolsD_map, Option.bind_some]
      rw [show (!((rs.map fun _ => true).all id)) = false from by simp]
      refine hk _ _ (ifV.F ?_)
      clear hk
      walk_at "v"
      exact ⟨by rw [intsL_len]; omega, hq⟩
    · exact h.elim
def vTakeRow : VSp := fun ts S vx q => match ts, S with
  | [.tp [.rf 0, .rf 1, .rf 2, .rf 3], .fz (.str s)], [.lst A, .lst B, .lst C, .lst D] => ∃ r : Row, s = rowS r ∧ RowOk r ∧
      ((r.1 = "task" ∧ vTakeTask [.tp [.rf 0, .rf 1, .rf 2, .rf 3], .fz (.list (intsL r.2))] [.lst A, .lst B, .lst C, .lst D] vx q) ∨
       (r.1 = "need" ∧ vTakeNeed [.tp [.rf 0, .rf 1, .rf 2, .rf 3], .fz (.list (intsL r.2))] [.lst A, .lst B, .lst C, .lst D] vx q) ∨
       (r.1 = "rooms" ∧ vTakeRooms [.tp [.rf 0, .rf 1, .rf 2, .rf 3], .fz (.list (intsL r.2))] [.lst A, .lst B, .lst C, .lst D] vx q))
  | _, _ => False
instance : VLen vTakeRow 2 := ⟨fun {ts S vx q} h => by
  unfold vTakeRow at h
  split at h
  · rfl
  · exact h.elim⟩
theorem neW_nt : decide (("need" : Str) = "task") = false := by decide +kernel
theorem neW_rt : decide (("rooms" : Str) = "task") = false := by decide +kernel
theorem neW_rn : decide (("rooms" : Str) = "need") = false := by decide +kernel
theorem none_ints (ns : List Int) : ((intsL ns).any fun z => PyData.eqv z .none) = false := by
  rw [List.any_eq_false]
  intro d hd
  obtain ⟨n, _, rfl⟩ := List.mem_map.mp hd
  exact fun z => Bool.noConfusion (show false = true from z)
local macro_rules | `(tactic| walk_at "v") => `(tactic| simp only [wSeq, wNext, wBreak, wCont, wDrop, wRet, wRetN, wIfS, wAsg, wgName, wgNil, wgCons, wgTup, wgUnl, wPar, wVar, wC, wB, wAnd, wOr, wNot, wAndV, wOrV, wNotV, wIf, wOp, wUn, wCB, wNil, wCons, wIsN, wNotN, isNon, wCall, wCall0, wRng1, wRng2, wIList, wITup, wEnum, wZip, wYes, wLst, wLstN, wTup, wSl, vPart, vNoPart, wIsi, wTru, vTru, wChain, wBM, wBM0, wgSub, wAug, vI0, vI0b, vI, vNeg, vAdd, vEqW, datOf, eqS, id, vIsB, vIx, vSl, vLen, vIsi, tyT, tyD, itemsA, itemsT, seqOf, datsOf, vAll, vAny, vSum, vMax2, vMin2, vMaxL, vMinL, vList, vInt1, vAppend, vSet, isKd, allD, startG, newL, newLN, tupT, itemsV, List.getElem?_cons_zero, List.getElem?_cons_succ, List.set_cons_zero, List.set_cons_succ, List.length_cons, List.length_nil, List.map_cons, List.map_nil, ifV_true, ifV_false, List.nil_append, List.cons_append, reduceCtorEq, Bool.not_true, Bool.not_false, true_and, and_true, decide_true, decide_false, retD, retX, frzT, frzTs, clo, List.take_zero, List.take_succ_cons, List.take_nil, List.not_mem_nil, false_imp_iff, implies_true, callV, callJ, jsOf, rfsTs, rfsT, rfsO, addN, stepN, okJs, renTs, renT, renO, outN, backS, putAll, idxB, inB, renTs_fz, rfsTs_fz, List.append_nil, List.drop_nil, List.drop_zero, List.foldl_nil, List.foldl_cons, List.nodup_nil, kb_NoneType_int, kb_NoneType_bool, kb_NoneType_list, kb_NoneType_tuple, kb_NoneType_str, kb_bool_int, kb_bool_bool, kb_bool_list, kb_bool_tuple, kb_bool_str, kb_int_int, kb_int_bool, kb_int_list, kb_int_tuple, kb_int_str, kb_str_int, kb_str_bool, kb_str_list, kb_str_tuple, kb_str_str, kb_list_int, kb_list_bool, kb_list_list, kb_list_tuple, kb_list_str, kb_tuple_int, kb_tuple_bool, kb_tuple_list, kb_tuple_tuple, kb_tuple_str, kb_dict_int, kb_dict_bool, kb_dict_list, kb_dict_tuple, kb_dict_str, nodB, subL, okO, cloL, Bool.or_false, Bool.true_or, Bool.or_true, Bool.false_or, eq_self, reduceIte, Int.reduceLE, Int.reduceLT, Int.reduceAdd, Int.reduceSub, Int.reduceNeg, Int.reduceToNat, Nat.reduceAdd, Nat.reduceSub, Nat.reduceLT, Nat.reduceLeDiff, Nat.reduceEqDiff, Int.reduceEq, Int.cast_ofNat_Int, atN_nat, plN_nat, rfsTs_append, renTs_append, Option.map_some, Option.map_none, List.drop_succ_cons, fzs_snoc, fzs_cat, fzs_ins, fzs_set, Int.toNat_natCast, List.length_map, List.length_append, allD_map, allD_append, frzTs_fz, atN_map, List.getD_cons_zero, List.getD_cons_succ, beq_self_eq_true, Nat.reduceBEq, Bool.false_eq_true, vInsert, vInW, datsA, flatD, intsL_flat, intsL_any, natsL_flat, natsL_any, lcR_map, vB1, vB2, vMixed, vTake, pl, vPile, vOrder, vRoom1, vHours, vNeeds, vJob, repL, atX_0, atX_1, atX_2, atX_3, vExtend, jbD, wEnumC, wgStar, wNever, vStrW, wordS, isWord, vIntW, frzAs, frzA, frzD, frzDs, callD, wCallD, vShowD, vNumIn, vSpelled, vJobText, vRowsIn, tupT_map, catL, newL_map, prsL_snoc, shX_pair, shX_prs, anyX_prs, vRingF, vNeedP, taskD, vTakeTask, vTakeNeed, vTakeRooms, neW_nt, neW_rt, neW_rn, none_ints])
theorem ok_take_row (T : Env K mg) : Ok P w K mg base CX0 dd_take_row "take_row" 6 ["job", "row"] (liftV K vTakeRow) := by
  obtain ⟨fd_number_in, D_number_in, g_number_in, k_number_in, b_number_in, G_number_in⟩ := ok_number_in (P := P) (w := w) (base := base) T
  obtain ⟨fd_take_task, D_take_task, g_take_task, k_take_task, b_take_task, G_take_task⟩ := ok_take_task (P := P) (w := w) (base := base) T
  obtain ⟨fd_take_need, D_take_need, g_take_need, k_take_need, b_take_need, G_take_need⟩ := ok_take_need (P := P) (w := w) (base := base) T
  obtain ⟨fd_take_rooms, D_take_rooms, g_take_rooms, k_take_rooms, b_take_rooms, G_take_rooms⟩ := ok_take_rooms (P := P) (w := w) (base := base) T
  obtain ⟨fd, F⟩ := T.c.def_ 17 (d := dd_take_row) rfl
  refine ⟨fd, F, T.gl 17 _ rfl, F.kp, F.bindsN fun _ _ _ _ _ _ us hl => match us, hl with | [_, _], _ => rfl, ?_⟩
  refine F.ok sc_take_row (fun vs H Q E h => ?_) (fun cdv A outer s H vs Q E hr h => ?_)
  · obtain ⟨F0, α, S, ts, q, vx, hs, rr, xl, ql, h⟩ := h
    rw [rr.len]
    exact VLen.len h
  · obtain ⟨F0, α, S, ts, q, vx, hs, rr, xl, ql, h⟩ := h
    refine ⟨_, PSs.nox (pss_cons (ps_asg (pe_bmK (K := K) rfl (pe_bm PySem.F.plainAttrs_str PySem.F.slot_str_split PySem.F.type_str_split (r := rSplitX) mt_splitX (pv 1) (pa_cons pe_str pa_nil))) (pg_starK (K := K) rfl rfl (pgs_cons (pg_name (i := 2) sc_take_row.nd rfl (Or.inl rfl)) (pgs_starred (pg_name (i := 3) sc_take_row.nd rfl (Or.inl rfl)) pgs_nil))))
      (pss_cons (ps_setLc (i := 4) (own := [("other", 5)]) (g := gName 5) (tt := tYes) (by rfl) sc_take_row.nd rfl rfl (sw_true rfl rfl rfl (by decide +kernel)) (pi_listK (K := K) rfl (pv 3)) (blkOk_by (own := [("other", 5)]) (N := N_take_row) (sc := defScope s_take_row) (by decide +kernel)) (fun _ _ _ _ _ => (pg_name (i := 5) sc_take_row.nd rfl (by first | exact Or.inl rfl | exact Or.inr rfl))) (fun _ _ _ _ _ => pts_nil) (fun _ _ _ _ _ => (pe_call G_number_in (hr.mono (by decide)) (by rfl) g_number_in k_number_in b_number_in .nil pass0 (pa_cons (pv 5) pa_nil))))
      (pss_cons (ps_if (pt_cmpR (r := rInX K) (op_inX (room65 hr)) pe_non (pv 4) (by rfl)) (pss_one (ps_ret pe_bl)) pss_nil)
      (pss_cons (ps_if (pt_cmpR (r := rEqX K) (op_eqX hr.units) (pv 2) pe_str (nomark _)) (pss_one (ps_ret (pe_call G_take_task (hr.mono (by decide)) (by rfl) g_take_task k_take_task b_take_task .nil pass0 (pa_cons (pv 0) (pa_cons (pv 4) pa_nil))))) pss_nil)
      (pss_cons (ps_if (pt_cmpR (r := rEqX K) (op_eqX hr.units) (pv 2) pe_str (nomark _)) (pss_one (ps_ret (pe_call G_take_need (hr.mono (by decide)) (by rfl) g_take_need k_take_need b_take_need .nil pass0 (pa_cons (pv 0) (pa_cons (pv 4) pa_nil))))) pss_nil)
      (pss_one (ps_ret (pe_and (pe_cmpR (r := rEqX K) (op_eqX hr.units) (pv 2) pe_str (nomark _)) (pe_one (pe_call G_take_rooms (hr.mono (by decide)) (by rfl) g_take_rooms k_take_rooms b_take_rooms .nil pass0 (pa_cons (pv 0) (pa_cons (pv 4) pa_nil)))))))))))), vbody (N := ["job", "row", "word", "others", "numbers", "other"]) hs rr xl ql ?_⟩
    unfold vTakeRow at h
    split at h
    · rename_i A B C D
      obtain ⟨⟨w, ns⟩, rfl, hr, h⟩ := h
      have hls := hr.ls
      have hln : ns.length ≤ 20 := hr.len
      have hsp : Txt.split (rowS (w, ns)) (Str.ofString " ") = w :: ns.map numS := hr.split
      have e1 : (ns.map numS).map PyData.str = ns.map fun n => PyData.str (numS n) := by
        rw [List.map_map]
        rfl
      refine vstep fun k hk => ?_
      walk_at "v"
      rw [hsp]
      refine ⟨rfl, Nat.le_trans (show _ ≤ 102 by omega) (by decide), ?_⟩
      simp only [List.map_cons, allD_map, List.length_map, e1]
      refine ⟨by omega, hk _ _ ?_⟩
      clear hk
      refine vstep fun k hk => ?_
      unfold wLc
      walk_at "v"
      refine ⟨rfl, lcV_of (bs := ns) (fun n => .str (numS n)) PyData.int trivial (by omega) (fun i n k2 k0 hn hk2 => ?_) (hk _ _ ?_)⟩
      · simp only [wipeG]
        walk_at "v"
        exact ⟨n, rfl, hr.val n (List.mem_of_getElem? hn), hk2⟩
      clear hk
      rw [show ns.map PyData.int = intsL ns from rfl]
      dsimp only at h
      rcases h with ⟨rfl, h⟩ | ⟨rfl, h⟩ | ⟨rfl, h⟩
      · simp only [vTakeTask] at h
        obtain ⟨a, b, d, f, o, rfl, rfl, rfl, rfl, e, hf, ha, hb, hq⟩ := h
        walk_at "v"
        exact ⟨.inl rfl, a, b, d, f, o, rfl, rfl, rfl, e, hf, ha, hb, hq⟩
      · simp only [vTakeNeed] at h
        obtain ⟨a, b, d, zs, z, rfl, rfl, rfl, rfl, e, ha, hz, hn, hlt, hrk, hq⟩ := h
        walk_at "v"
        exact ⟨.inl rfl, a, b, d, zs, z, rfl, rfl, rfl, rfl, e, ha, hz, hn, hlt, hrk, hq⟩
      · simp only [vTakeRooms] at h
        obtain ⟨a, b, c, rs, rfl, rfl, rfl, rfl, e, hne, hl, hv, hq⟩ := h
        walk_at "v"
        exact ⟨.inl rfl, a, b, c, rs, rfl, rfl, rfl, e, hne, hl, hv, hq⟩
    · exact h.elim

end
local macro_rules | `(tactic| walk_at "v0") => `(tactic| simp only [wSeq, wNext, wBreak, wCont, wDrop, wRet, wRetN, wIfS, wAsg, wgName, wgNil, wgCons, wgTup, wgUnl, wPar, wVar, wC, wB, wAnd, wOr, wNot, wAndV, wOrV, wNotV, wIf, wOp, wUn, wCB, wNil, wCons, wIsN, wNotN, isNon, wCall, wCall0, wRng1, wRng2, wIList, wITup, wEnum, wZip, wYes, wLst, wLstN, wTup, wSl, vPart, vNoPart, wIsi, wTru, vTru, wChain, wBM, wBM0, wgSub, wAug, vI0, vI0b, vI, vNeg, vAdd, vEqW, datOf, eqS, id, vIsB, vIx, vSl, vLen, vIsi, tyT, tyD, itemsA, itemsT, seqOf, datsOf, vAll, vAny, vSum, vMax2, vMin2, vMaxL, vMinL, vList, vInt1, vAppend, vSet, isKd, allD, startG, newL, newLN, tupT, itemsV, List.getElem?_cons_zero, List.getElem?_cons_succ, List.set_cons_zero, List.set_cons_succ, List.length_cons, List.length_nil, List.map_cons, List.map_nil, ifV_true, ifV_false, List.nil_append, List.cons_append, reduceCtorEq, Bool.not_true, Bool.not_false, true_and, and_true, decide_true, decide_false, retD, retX, frzT, frzTs, clo, List.take_zero, List.take_succ_cons, List.take_nil, List.not_mem_nil, false_imp_iff, implies_true, callV, callJ, jsOf, rfsTs, rfsT, rfsO, addN, stepN, okJs, renTs, renT, renO, outN, backS, putAll, idxB, inB, renTs_fz, rfsTs_fz, List.append_nil, List.drop_nil, List.drop_zero, List.foldl_nil, List.foldl_cons, List.nodup_nil, kb_NoneType_int, kb_NoneType_bool, kb_NoneType_list, kb_NoneType_tuple, kb_NoneType_str, kb_bool_int, kb_bool_bool, kb_bool_list, kb_bool_tuple, kb_bool_str, kb_int_int, kb_int_bool, kb_int_list, kb_int_tuple, kb_int_str, kb_str_int, kb_str_bool, kb_str_list, kb_str_tuple, kb_str_str, kb_list_int, kb_list_bool, kb_list_list, kb_list_tuple, kb_list_str, kb_tuple_int, kb_tuple_bool, kb_tuple_list, kb_tuple_tuple, kb_tuple_str, kb_dict_int, kb_dict_bool, kb_dict_list, kb_dict_tuple, kb_dict_str, nodB, subL, okO, cloL, Bool.or_false, Bool.true_or, Bool.or_true, Bool.false_or, eq_self, reduceIte, Int.reduceLE, Int.reduceLT, Int.reduceAdd, Int.reduceSub, Int.reduceNeg, Int.reduceToNat, Nat.reduceAdd, Nat.reduceSub, Nat.reduceLT, Nat.reduceLeDiff, Nat.reduceEqDiff, Int.reduceEq, Int.cast_ofNat_Int, atN_nat, plN_nat, rfsTs_append, renTs_append, Option.map_some, Option.map_none, List.drop_succ_cons, fzs_snoc, fzs_cat, fzs_ins, fzs_set, Int.toNat_natCast, List.length_map, List.length_append, allD_map, allD_append, frzTs_fz, atN_map, List.getD_cons_zero, List.getD_cons_succ, beq_self_eq_true, Nat.reduceBEq, Bool.false_eq_true, vInsert, vInW, datsA, flatD, intsL_flat, intsL_any, natsL_flat, natsL_any, lcR_map, vB1, vB2, vMixed, vTake, pl, vPile, vOrder, vRoom1, vHours, vNeeds, vJob, repL, atX_0, atX_1, atX_2, atX_3, vExtend, jbD, wEnumC, wgStar, wNever, vStrW, wordS, isWord, vIntW, frzAs, frzA, frzD, frzDs, callD, wCallD, vShowD, vNumIn, vSpelled, vJobText, vRowsIn, tupT_map, catL, newL_map, prsL_snoc, shX_pair, shX_prs, anyX_prs, vRingF, vNeedP, taskD, vTakeTask, vTakeNeed, vTakeRooms, neW_nt, neW_rt, neW_rn, none_ints, vTakeRow])

section
variable {P : Program} {w : World} {K : PySem.W.Frag} {mg : Str → Option Value} {base : Heap}
theorem jobRs_at {fs : List Int} {ds : List (Option Int)} {zs : Prs} {rs : List Int} (hv : VJ fs ds zs rs) {i : Nat} {r : Row} (h : (jobRs fs ds zs rs)[i]? = some r) :
    (i < fs.length ∧ ∃ f d, fs[i]? = some f ∧ ds[i]? = some d ∧ r = taskR f d) ∨ (∃ k z, i = fs.length + k ∧ zs[k]? = some z ∧ r = needR z) ∨ (i = fs.length + zs.length ∧ rs ≠ [] ∧ r = (("rooms" : Str), rs)) := by
  have hl := taskRs_len hv.dl
  unfold jobRs at h
  by_cases h1 : i < fs.length
  · refine .inl ⟨h1, ?_⟩
    rw [List.append_assoc, List.getElem?_append_left (by omega)] at h
    unfold taskRs at h
    rw [List.getElem?_map] at h
    obtain ⟨p, hp, rfl⟩ := Option.map_eq_some_iff.mp h
    obtain ⟨h2, h3⟩ := List.getElem?_zip_eq_some.mp hp
    exact ⟨_, _, h2, h3, rfl⟩
  · rw [List.append_assoc, List.getElem?_append_right (by omega), hl] at h
    by_cases h2 : i - fs.length < zs.length
    · refine .inr (.inl ⟨i - fs.length, ?_⟩)
      rw [List.getElem?_append_left (by rw [List.length_map]; exact h2), List.getElem?_map] at h
      obtain ⟨p, hp, rfl⟩ := Option.map_eq_some_iff.mp h
      exact ⟨p, by omega, hp, rfl⟩
    · rw [List.getElem?_append_right (by rw [List.length_map]; omega), List.length_map] at h
      unfold roomRs at h
      split at h
      · simp at h
      · rename_i hr
        have h4 := (List.getElem?_eq_some_iff.mp h).1
        rw [List.length_singleton] at h4
        rw [show i - fs.length - zs.length = 0 by omega] at h
        cases h
        exact .inr (.inr ⟨by omega, hr, rfl⟩)
def stAt (fs : List Int) (ds : List (Option Int)) (zs : Prs) (rs : List Int) (i : Nat) : List O :=
  [.lst (fzs (intsL (fs.take i))), .lst (fzs (optsL (ds.take i))), .lst (fzs (prsL (zs.take (i - fs.length)))), .lst (fzs (intsL (if i ≤ fs.length + zs.length then [] else rs)))]
theorem stAt_end {fs : List Int} {ds : List (Option Int)} {zs : Prs} {rs : List Int} (hv : VJ fs ds zs rs) : stAt fs ds zs rs (jobRs fs ds zs rs).length = [.lst (fzs (intsL fs)), .lst (fzs (optsL ds)), .lst (fzs (prsL zs)), .lst (fzs (intsL rs))] := by
  have hl : (jobRs fs ds zs rs).length = fs.length + zs.length + (roomRs rs).length := by
    unfold jobRs
    rw [List.length_append, List.length_append, taskRs_len hv.dl, List.length_map]
  have hd := hv.dl
  unfold stAt
  rw [List.take_of_length_le (by omega), List.take_of_length_le (by omega), List.take_of_length_le (by omega)]
  unfold roomRs at hl
  split at hl
  · rename_i e
    rw [e, ite_self]
  · rw [if_neg (by rw [hl, List.length_singleton]; omega)]
def vReadJob : VSp := fun ts S _ q => match ts, S with
  | [.fz (.str s)], [] => ∃ fs ds zs rs, s = jobS fs ds zs rs ∧ VJ fs ds zs rs ∧ q (.tp [.rf 0, .rf 1, .rf 2, .rf 3]) [.lst (fzs (intsL fs)), .lst (fzs (optsL ds)), .lst (fzs (prsL zs)), .lst (fzs (intsL rs))]
  | _, _ => False
instance : VLen vReadJob 1 := ⟨fun {ts S vx q} h => by
  unfold vReadJob at h
  split at h
  · rfl
  · exact h.elim⟩
local macro_rules | `(tactic| walk_at "v") => `(tactic| simp only [wSeq, wNext, wBreak, wCont, wDrop, wRet, wRetN, wIfS, wAsg, wgName, wgNil, wgCons, wgTup, wgUnl, wPar, wVar, wC, wB, wAnd, wOr, wNot, wAndV, wOrV, wNotV, wIf, wOp, wUn, wCB, wNil, wCons, wIsN, wNotN, isNon, wCall, wCall0, wRng1, wRng2, wIList, wITup, wEnum, wZip, wYes, wLst, wLstN, wTup, wSl, vPart, vNoPart, wIsi, wTru, vTru, wChain, wBM, wBM0, wgSub, wAug, vI0, vI0b, vI, vNeg, vAdd, vEqW, datOf, eqS, id, vIsB, vIx, vSl, vLen, vIsi, tyT, tyD, itemsA, itemsT, seqOf, datsOf, vAll, vAny, vSum, vMax2, vMin2, vMaxL, vMinL, vList, vInt1, vAppend, vSet, isKd, allD, startG, newL, newLN, tupT, itemsV, List.getElem?_cons_zero, List.getElem?_cons_succ, List.set_cons_zero, List.set_cons_succ, List.length_cons, List.length_nil, List.map_cons, List.map_nil, ifV_true, ifV_false, List.nil_append, List.cons_append, reduceCtorEq, Bool.not_true, Bool.not_false, true_and, and_true, decide_true, decide_false, retD, retX, frzT, frzTs, clo, List.take_zero, List.take_succ_cons, List.take_nil, List.not_mem_nil, false_imp_iff, implies_true, callV, callJ, jsOf, rfsTs, rfsT, rfsO, addN, stepN, okJs, renTs, renT, renO, outN, backS, putAll, idxB, inB, renTs_fz, rfsTs_fz, List.append_nil, List.drop_nil, List.drop_zero, List.foldl_nil, List.foldl_cons, List.nodup_nil, kb_NoneType_int, kb_NoneType_bool, kb_NoneType_list, kb_NoneType_tuple, kb_NoneType_str, kb_bool_int, kb_bool_bool, kb_bool_list, kb_bool_tuple, kb_bool_str, kb_int_int, kb_int_bool, kb_int_list, kb_int_tuple, kb_int_str, kb_str_int, kb_str_bool, kb_str_list, kb_str_tuple, kb_str_str, kb_list_int, kb_list_bool, kb_list_list, kb_list_tuple, kb_list_str, kb_tuple_int, kb_tuple_bool, kb_tuple_list, kb_tuple_tuple, kb_tuple_str, kb_dict_int, kb_dict_bool, kb_dict_list, kb_dict_tuple, kb_dict_str, nodB, subL, okO, cloL, Bool.or_false, Bool.true_or, Bool.or_true, Bool.false_or, eq_self, reduceIte, Int.reduceLE, Int.reduceLT, Int.reduceAdd, Int.reduceSub, Int.reduceNeg, Int.reduceToNat, Nat.reduceAdd, Nat.reduceSub, Nat.reduceLT, Nat.reduceLeDiff, Nat.reduceEqDiff, Int.reduceEq, Int.cast_ofNat_Int, atN_nat, plN_nat, rfsTs_append, renTs_append, Option.map_some, Option.map_none, List.drop_succ_cons, fzs_snoc, fzs_cat, fzs_ins, fzs_set, Int.toNat_natCast, List.length_map, List.length_append, allD_map, allD_append, frzTs_fz, atN_map, List.getD_cons_zero, List.getD_cons_succ, beq_self_eq_true, Nat.reduceBEq, Bool.false_eq_true, vInsert, vInW, datsA, flatD, intsL_flat, intsL_any, natsL_flat, natsL_any, lcR_map, vB1, vB2, vMixed, vTake, pl, vPile, vOrder, vRoom1, vHours, vNeeds, vJob, repL, atX_0, atX_1, atX_2, atX_3, vExtend, jbD, wEnumC, wgStar, wNever, vStrW, wordS, isWord, vIntW, frzAs, frzA, frzD, frzDs, callD, wCallD, vShowD, vNumIn, vSpelled, vJobText, vRowsIn, tupT_map, catL, newL_map, prsL_snoc, shX_pair, shX_prs, anyX_prs, vRingF, vNeedP, taskD, vTakeTask, vTakeNeed, vTakeRooms, neW_nt, neW_rt, neW_rn, none_ints, vTakeRow, vCheckJobT])
theorem ok_read_job (T : Env K mg) : Ok P w K mg base CX0 dd_read_job "read_job" 7 ["text"] (liftV K vReadJob) := by
  obtain ⟨fd_rows_in, D_rows_in, g_rows_in, k_rows_in, b_rows_in, G_rows_in⟩ := ok_rows_in (P := P) (w := w) (base := base) T
  obtain ⟨fd_take_row, D_take_row, g_take_row, k_take_row, b_take_row, G_take_row⟩ := ok_take_row (P := P) (w := w) (base := base) T
  obtain ⟨fd, F⟩ := T.c.def_ 16 (d := dd_read_job) rfl
  refine ⟨fd, F, T.gl 16 _ rfl, F.kp, F.bindsN fun _ _ _ _ _ _ us hl => match us, hl with | [_], _ => rfl, ?_⟩
  refine F.ok sc_read_job (fun vs H Q E h => ?_) (fun cdv A outer s H vs Q E hr h => ?_)
  · obtain ⟨F0, α, S, ts, q, vx, hs, rr, xl, ql, h⟩ := h
    rw [rr.len]
    exact VLen.len h
  · obtain ⟨F0, α, S, ts, q, vx, hs, rr, xl, ql, h⟩ := h
    refine ⟨_, PSs.nox (pss_cons (ps_set (i := 1) sc_read_job.nd rfl (Or.inl rfl) (pe_tup (pa_cons (pe_lstN pa_nil) (pa_cons (pe_lstN pa_nil) (pa_cons (pe_lstN pa_nil) (pa_cons (pe_lstN pa_nil) pa_nil))))))
      (pss_cons (ps_for PassesOwn.never rfl (pi_enumCK (K := K) (k := 1) rfl (pi_enumC (by rfl) (T.fr 43 _ rfl) (pa_cons (pe_call G_rows_in (hr.mono (by decide)) (by rfl) g_rows_in k_rows_in b_rows_in .nil pass0 (pa_cons (pv 0) pa_nil)) pa_nil) (by decide) (by decide) (pk_cons pe_int pk_nil))) (pg_tupK (K := K) (n := 2) rfl (pg_tup rfl (pgs_cons (pg_name (i := 2) sc_read_job.nd rfl (Or.inl rfl)) (pgs_cons (pg_name (i := 3) sc_read_job.nd rfl (Or.inl rfl)) pgs_nil)))) (pss_one (ps_if (PW.pt (pw_or (pt_truK (K := K) rfl (pt_tru (pe_ix (r := rIx K) ix_seq (pv 1) pe_int (fun _ _ => rfl)))) (pw_or1 (pt_not (pt_truK (K := K) rfl (pt_tru (pe_call G_take_row (hr.mono (by decide)) (by rfl) g_take_row k_take_row b_take_row .nil pass0 (pa_cons (pv 1) (pa_cons (pv 3) pa_nil))))))))) (pss_one ps_never) pss_nil)))
      (pss_one (ps_ret (pv 1))))), vbodyK (N := ["text", "job", "number", "row"]) hs rr xl ql ?_⟩
    unfold vReadJob at h
    split at h
    · obtain ⟨fs, ds, zs, rs, rfl, hv, hq⟩ := h
      refine vstep fun k hk => ?_
      walk_at "v"
      refine hk _ _ ?_
      clear hk
      have hok := jobRs_ok hv
      have hjl := jobRs_len hv
      refine vcut (fun Γ S => S = stAt fs ds zs rs (jobRs fs ds zs rs).length ∧ ∃ y1 y2, Γ = [some (.fz (.str (jobS fs ds zs rs))), some (.tp [.rf 0, .rf 1, .rf 2, .rf 3]), y1, y2]) (fun k hk => ?_) (fun Γ S hP => ?_)
      · unfold wFor
        walk_at "v"
        refine ⟨jobRs fs ds zs rs, rfl, hok, by omega, ?_⟩
        refine forV_inv (fun i Γ S => S = stAt fs ds zs rs i ∧ ∃ y1 y2, Γ = [some (.fz (.str (jobS fs ds zs rs))), some (.tp [.rf 0, .rf 1, .rf 2, .rf 3]), y1, y2]) ⟨?_, _, _, rfl⟩ (fun _ _ _ _ _ => trivial) (fun i x Γ S k2 hx hI hk2 => ?_) (fun Γ S hI => ?_)
        · unfold stAt
          rw [if_pos (Nat.zero_le _), Nat.zero_sub]
          rfl
        · obtain ⟨rfl, y1, y2, rfl⟩ := hI
          obtain ⟨t, ht, rfl⟩ := enumT_get hx
          rw [List.getElem?_map, List.getElem?_map, List.getElem?_map] at ht
          cases hb : (jobRs fs ds zs rs)[i]? with
          | none =>
            rw [hb] at ht
            cases ht
          | some r =>
            rw [hb] at ht
            cases ht
            have hr := hok r (List.mem_of_getElem? hb)
            have e1 : tupT [.fz (.int ((1 + i : Nat) : Int)), .fz (.str (rowS r))] = .fz (.tuple [.int ((1 + i : Nat) : Int), .str (rowS r)]) := rfl
            have hin : i ≤ fs.length + zs.length := by
              rcases jobRs_at hv hb with ⟨h1, _⟩ | ⟨k, z, h1, h2, _⟩ | ⟨h1, _⟩
              · omega
              · have := (List.getElem?_eq_some_iff.mp h2).1
                omega
              · omega
            have e2 : stAt fs ds zs rs i = [.lst (fzs (intsL (fs.take i))), .lst (fzs (optsL (ds.take i))), .lst (fzs (prsL (zs.take (i - fs.length)))), .lst []] := by
              unfold stAt
              rw [if_pos hin]
              rfl
            rw [e1, e2]
            walk_at "v"
            have nxt : ∀ S', stAt fs ds zs rs (i + 1) = S' → k2 [some (.fz (.str (jobS fs ds zs rs))), some (.tp [.rf 0, .rf 1, .rf 2, .rf 3]), some (.fz (.int ((1 + i : Nat) : Int))), some (.fz (.str (rowS r)))] S' := fun S' e => hk2 _ _ ⟨e.symm, _, _, rfl⟩
            have hfl := hv.fl
            have hdl := hv.dl
            have hzl := hv.zl
            have la : (intsL (fs.take i)).length ≤ 1000 := by
              rw [intsL_len, List.length_take]
              omega
            have lb : (optsL (ds.take i)).length ≤ 1000 := by
              rw [optsL_len, List.length_take]
              omega
            refine ifV.F ?_
            rcases jobRs_at hv hb with ⟨h1, f, d, h2, h3, rfl⟩ | ⟨j, z, h1, h2, rfl⟩ | ⟨h1, h2, rfl⟩
            · have e0 : i - fs.length = 0 := by omega
              have e3 : i + 1 - fs.length = 0 := by omega
              have hf := hv.fv f (List.mem_of_getElem? h2)
              refine ⟨taskR f d, rfl, hr, .inl ⟨rfl, intsL (fs.take i), optsL (ds.take i), [], f, d, rfl, rfl, by rw [e0]; rfl, rfl, rfl, hf.1, la, lb, nxt _ ?_⟩⟩
              unfold stAt
              rw [e3, if_pos (by omega), List.take_add_one, List.take_add_one, h2, h3]
              unfold intsL optsL
              rw [List.map_append, List.map_append]
              rfl
            · have hj := (List.getElem?_eq_some_iff.mp h2).1
              have e0 : i - fs.length = j := by omega
              have e3 : i + 1 - fs.length = j + 1 := by omega
              have lf : (intsL (fs.take i)).length = fs.length := by
                rw [intsL_len, List.length_take]
                omega
              have sub : ∀ y ∈ zs.take j ++ [z], y ∈ zs := fun y hy => by
                rcases List.mem_append.mp hy with h | h
                · exact List.mem_of_mem_take h
                · rw [List.mem_singleton.mp h]
                  exact List.mem_of_getElem? h2
              obtain ⟨rk, hrk⟩ := hv.rank
              refine ⟨needR z, rfl, hr, .inr (.inl ⟨rfl, intsL (fs.take i), optsL (ds.take i), [], zs.take j, z, rfl, rfl, by rw [e0], rfl, rfl, la, by rw [List.length_take]; omega, fun hm => ?_, fun y hy => ?_, ⟨rk, fun y hy => (hrk y (sub y hy)).2.2⟩, nxt _ ?_⟩)⟩
              · obtain ⟨l, hl⟩ := List.getElem?_of_mem hm
                have hlj := (List.getElem?_eq_some_iff.mp hl).1
                rw [List.length_take] at hlj
                rw [List.getElem?_take_of_lt (by omega)] at hl
                have := nd_ix hv.znd hl h2
                omega
              · rw [lf]
                exact ⟨(hrk y (sub y hy)).1, (hrk y (sub y hy)).2.1⟩
              · unfold stAt
                rw [e3, if_pos (by omega), List.take_of_length_le (show fs.length ≤ i + 1 by omega), List.take_of_length_le (show fs.length ≤ i by omega), List.take_of_length_le (show ds.length ≤ i + 1 by omega), List.take_of_length_le (show ds.length ≤ i by omega), List.take_add_one, h2]
                rfl
            · have hrl := hv.ro.len
              refine ⟨(("rooms" : Str), rs), rfl, hr, .inr (.inr ⟨rfl, intsL (fs.take i), optsL (ds.take i), prsL (zs.take (i - fs.length)), rs, rfl, rfl, rfl, rfl, h2, by omega, hv.ro.val, nxt _ ?_⟩)⟩
              unfold stAt
              rw [if_neg (by omega), List.take_of_length_le (show fs.length ≤ i + 1 by omega), List.take_of_length_le (show fs.length ≤ i by omega), List.take_of_length_le (show ds.length ≤ i + 1 by omega), List.take_of_length_le (show ds.length ≤ i by omega), List.take_of_length_le (show zs.length ≤ i + 1 - fs.length by omega), List.take_of_length_le (show zs.length ≤ i - fs.length by omega)]
        · rw [enumT_len, List.length_map, List.length_map, List.length_map] at hI
          exact hk _ _ hI
      · obtain ⟨rfl, y1, y2, rfl⟩ := hP
        rw [stAt_end hv]
        walk_at "v"
        exact hq
    · exact h.elim

end
local macro_rules | `(tactic| walk_at "v0") => `(tactic| simp only [wSeq, wNext, wBreak, wCont, wDrop, wRet, wRetN, wIfS, wAsg, wgName, wgNil, wgCons, wgTup, wgUnl, wPar, wVar, wC, wB, wAnd, wOr, wNot, wAndV, wOrV, wNotV, wIf, wOp, wUn, wCB, wNil, wCons, wIsN, wNotN, isNon, wCall, wCall0, wRng1, wRng2, wIList, wITup, wEnum, wZip, wYes, wLst, wLstN, wTup, wSl, vPart, vNoPart, wIsi, wTru, vTru, wChain, wBM, wBM0, wgSub, wAug, vI0, vI0b, vI, vNeg, vAdd, vEqW, datOf, eqS, id, vIsB, vIx, vSl, vLen, vIsi, tyT, tyD, itemsA, itemsT, seqOf, datsOf, vAll, vAny, vSum, vMax2, vMin2, vMaxL, vMinL, vList, vInt1, vAppend, vSet, isKd, allD, startG, newL, newLN, tupT, itemsV, List.getElem?_cons_zero, List.getElem?_cons_succ, List.set_cons_zero, List.set_cons_succ, List.length_cons, List.length_nil, List.map_cons, List.map_nil, ifV_true, ifV_false, List.nil_append, List.cons_append, reduceCtorEq, Bool.not_true, Bool.not_false, true_and, and_true, decide_true, decide_false, retD, retX, frzT, frzTs, clo, List.take_zero, List.take_succ_cons, List.take_nil, List.not_mem_nil, false_imp_iff, implies_true, callV, callJ, jsOf, rfsTs, rfsT, rfsO, addN, stepN, okJs, renTs, renT, renO, outN, backS, putAll, idxB, inB, renTs_fz, rfsTs_fz, List.append_nil, List.drop_nil, List.drop_zero, List.foldl_nil, List.foldl_cons, List.nodup_nil, kb_NoneType_int, kb_NoneType_bool, kb_NoneType_list, kb_NoneType_tuple, kb_NoneType_str, kb_bool_int, kb_bool_bool, kb_bool_list, kb_bool_tuple, kb_bool_str, kb_int_int, kb_int_bool, kb_int_list, kb_int_tuple, kb_int_str, kb_str_int, kb_str_bool, kb_str_list, kb_str_tuple, kb_str_str, kb_list_int, kb_list_bool, kb_list_list, kb_list_tuple, kb_list_str, kb_tuple_int, kb_tuple_bool, kb_tuple_list, kb_tuple_tuple, kb_tuple_str, kb_dict_int, kb_dict_bool, kb_dict_list, kb_dict_tuple, kb_dict_str, nodB, subL, okO, cloL, Bool.or_false, Bool.true_or, Bool.or_true, Bool.false_or, eq_self, reduceIte, Int.reduceLE, Int.reduceLT, Int.reduceAdd, Int.reduceSub, Int.reduceNeg, Int.reduceToNat, Nat.reduceAdd, Nat.reduceSub, Nat.reduceLT, Nat.reduceLeDiff, Nat.reduceEqDiff, Int.reduceEq, Int.cast_ofNat_Int, atN_nat, plN_nat, rfsTs_append, renTs_append, Option.map_some, Option.map_none, List.drop_succ_cons, fzs_snoc, fzs_cat, fzs_ins, fzs_set, Int.toNat_natCast, List.length_map, List.length_append, allD_map, allD_append, frzTs_fz, atN_map, List.getD_cons_zero, List.getD_cons_succ, beq_self_eq_true, Nat.reduceBEq, Bool.false_eq_true, vInsert, vInW, datsA, flatD, intsL_flat, intsL_any, natsL_flat, natsL_any, lcR_map, vB1, vB2, vMixed, vTake, pl, vPile, vOrder, vRoom1, vHours, vNeeds, vJob, repL, atX_0, atX_1, atX_2, atX_3, vExtend, jbD, wEnumC, wgStar, wNever, vStrW, wordS, isWord, vIntW, frzAs, frzA, frzD, frzDs, callD, wCallD, vShowD, vNumIn, vSpelled, vJobText, vRowsIn, tupT_map, catL, newL_map, prsL_snoc, shX_pair, shX_prs, anyX_prs, vRingF, vNeedP, taskD, vTakeTask, vTakeNeed, vTakeRooms, neW_nt, neW_rt, neW_rn, none_ints, vTakeRow, vCheckJobT, vReadJob])

section
variable {P : Program} {w : World} {K : PySem.W.Frag} {mg : Str → Option Value} {base : Heap}
theorem strs_snoc (R : List Str) (s : Str) : (R.map PyData.str).map T.fz ++ [T.fz (.str s)] = ((R ++ [s]).map PyData.str).map T.fz := by
  rw [List.map_append, List.map_append]
  rfl
theorem intsX_nil (rs : List Int) : PyData.eqv (.list (intsL rs)) (.list []) = decide (rs = []) := by cases rs <;> simp [intsL, PyData.eqv, PyData.eqvAll]
theorem shX_ints (os : List Int) : SeqAt.shaped (.list (intsL os)) = true := M.shaped_map PyData.int (fun _ => ⟨rfl, (show 0 ≤ 10 by decide)⟩) os
theorem shX_nil : SeqAt.shaped (.list []) = true := rfl
theorem numS_fold (i : Int) : PySem.Str.ofString (toString i) = numS i := rfl
theorem rooms_sum : ∀ {ns : List Int}, (∀ n ∈ ns, 0 ≤ n ∧ n ≤ 200) → ((ns.map fun r => Str.ofString " " ++ numS r).map fun x => x.length).sum ≤ 4 * ns.length
  | [], _ => Nat.le_refl _
  | n :: ns, hv => by
    have a := (num_facts (hv n (List.mem_cons_self ..))).l3
    have b := rooms_sum fun x hx => hv x (List.mem_cons_of_mem _ hx)
    have c : (Str.ofString " " ++ numS n).length = (Str.ofString " ").length + (numS n).length := by
      show (_ ++ _ : Array Nat).size = _
      rw [Array.size_append]
      rfl
    have d : (Str.ofString " ").length = 1 := by decide +kernel
    rw [List.map_cons, List.map_cons, List.sum_cons, List.length_cons, c, d]
    omega
def vLText : VSp := fun ts S _ q => match ts, S with
  | [.fz d], [] => ∃ fs ds zs rs, d = jbD fs ds zs rs ∧ VJ fs ds zs rs ∧ q (.fz (.str (jobS fs ds zs rs))) []
  | _, _ => False
instance : VLen vLText 1 := ⟨fun {ts S vx q} h => by
  unfold vLText at h
  split at h
  · rfl
  · exact h.elim⟩
local macro_rules | `(tactic| walk_at "v") => `(tactic| simp only [wSeq, wNext, wBreak, wCont, wDrop, wRet, wRetN, wIfS, wAsg, wgName, wgNil, wgCons, wgTup, wgUnl, wPar, wVar, wC, wB, wAnd, wOr, wNot, wAndV, wOrV, wNotV, wIf, wOp, wUn, wCB, wNil, wCons, wIsN, wNotN, isNon, wCall, wCall0, wRng1, wRng2, wIList, wITup, wEnum, wZip, wYes, wLst, wLstN, wTup, wSl, vPart, vNoPart, wIsi, wTru, vTru, wChain, wBM, wBM0, wgSub, wAug, vI0, vI0b, vI, vNeg, vAdd, vEqW, datOf, eqS, id, vIsB, vIx, vSl, vLen, vIsi, tyT, tyD, itemsA, itemsT, seqOf, datsOf, vAll, vAny, vSum, vMax2, vMin2, vMaxL, vMinL, vList, vInt1, vAppend, vSet, isKd, allD, startG, newL, newLN, tupT, itemsV, List.getElem?_cons_zero, List.getElem?_cons_succ, List.set_cons_zero, List.set_cons_succ, List.length_cons, List.length_nil, List.map_cons, List.map_nil, ifV_true, ifV_false, List.nil_append, List.cons_append, reduceCtorEq, Bool.not_true, Bool.not_false, true_and, and_true, decide_true, decide_false, retD, retX, frzT, frzTs, clo, List.take_zero, List.take_succ_cons, List.take_nil, List.not_mem_nil, false_imp_iff, implies_true, callV, callJ, jsOf, rfsTs, rfsT, rfsO, addN, stepN, okJs, renTs, renT, renO, outN, backS, putAll, idxB, inB, renTs_fz, rfsTs_fz, List.append_nil, List.drop_nil, List.drop_zero, List.foldl_nil, List.foldl_cons, List.nodup_nil, kb_NoneType_int, kb_NoneType_bool, kb_NoneType_list, kb_NoneType_tuple, kb_NoneType_str, kb_bool_int, kb_bool_bool, kb_bool_list, kb_bool_tuple, kb_bool_str, kb_int_int, kb_int_bool, kb_int_list, kb_int_tuple, kb_int_str, kb_str_int, kb_str_bool, kb_str_list, kb_str_tuple, kb_str_str, kb_list_int, kb_list_bool, kb_list_list, kb_list_tuple, kb_list_str, kb_tuple_int, kb_tuple_bool, kb_tuple_list, kb_tuple_tuple, kb_tuple_str, kb_dict_int, kb_dict_bool, kb_dict_list, kb_dict_tuple, kb_dict_str, nodB, subL, okO, cloL, Bool.or_false, Bool.true_or, Bool.or_true, Bool.false_or, eq_self, reduceIte, Int.reduceLE, Int.reduceLT, Int.reduceAdd, Int.reduceSub, Int.reduceNeg, Int.reduceToNat, Nat.reduceAdd, Nat.reduceSub, Nat.reduceLT, Nat.reduceLeDiff, Nat.reduceEqDiff, Int.reduceEq, Int.cast_ofNat_Int, atN_nat, plN_nat, rfsTs_append, renTs_append, Option.map_some, Option.map_none, List.drop_succ_cons, fzs_snoc, fzs_cat, fzs_ins, fzs_set, Int.toNat_natCast, List.length_map, List.length_append, allD_map, allD_append, frzTs_fz, atN_map, List.getD_cons_zero, List.getD_cons_succ, beq_self_eq_true, Nat.reduceBEq, Bool.false_eq_true, vInsert, vInW, datsA, flatD, intsL_flat, intsL_any, natsL_flat, natsL_any, lcR_map, vB1, vB2, vMixed, vTake, pl, vPile, vOrder, vRoom1, vHours, vNeeds, vJob, repL, atX_0, atX_1, atX_2, atX_3, vExtend, jbD, wEnumC, wgStar, wNever, vStrW, wordS, isWord, vIntW, frzAs, frzA, frzD, frzDs, callD, wCallD, vShowD, vNumIn, vSpelled, vJobText, vRowsIn, tupT_map, catL, newL_map, prsL_snoc, shX_pair, shX_prs, anyX_prs, vRingF, vNeedP, taskD, vTakeTask, vTakeNeed, vTakeRooms, neW_nt, neW_rt, neW_rn, none_ints, vTakeRow, vCheckJobT, vReadJob, intsX_nil, shX_ints, shX_nil, numS_fold])
theorem ok__law_text (T : Env K mg) : Ok P w K mg base CX0 dd__law_text "_law_text" 1 ["_law_job_here"] (liftV K vLText) := by
  obtain ⟨fd, F⟩ := T.c.def_ 29 (d := dd__law_text) rfl
  refine ⟨fd, F, T.gl 29 _ rfl, F.kp, F.bindsN fun _ _ _ _ _ _ us hl => match us, hl with | [_], _ => rfl, ?_⟩
  refine F.ok sc__law_text (fun vs H Q E h => ?_) (fun cdv A outer s H vs Q E hr h => ?_)
  · obtain ⟨F0, α, S, ts, q, vx, hs, rr, xl, ql, h⟩ := h
    rw [rr.len]
    exact VLen.len h
  · obtain ⟨F0, α, S, ts, q, vx, hs, rr, xl, ql, h⟩ := h
    refine ⟨_, PSs.nox (pss_cons (ps_asg (pv 0) (pg_tupK (K := K) (n := 4) rfl (pg_tup rfl (pgs_cons (pg_name (i := 1) sc__law_text.nd rfl (Or.inl rfl)) (pgs_cons (pg_name (i := 2) sc__law_text.nd rfl (Or.inl rfl)) (pgs_cons (pg_name (i := 3) sc__law_text.nd rfl (Or.inl rfl)) (pgs_cons (pg_name (i := 4) sc__law_text.nd rfl (Or.inl rfl)) pgs_nil)))))))
      (pss_cons (ps_set (i := 5) sc__law_text.nd rfl (Or.inl rfl) (pe_lstN pa_nil))
      (pss_cons (ps_for PassesOwn.never rfl (pi_range1 (by rfl) (T.fr 40 _ rfl) (pa_cons (pe_callB (r := rLenX K) call_lenX (by rfl) (T.fr 36 _ rfl) (by decide +kernel) (pa_cons (pv 1) pa_nil)) pa_nil)) (pg_name (i := 6) sc__law_text.nd rfl (Or.inl rfl)) (pss_cons (ps_set (i := 7) sc__law_text.nd rfl (Or.inl rfl) (pe_op (r := rAddX K) op_addX pe_str (pe_callTy (r := rStrW) call_strW (by rfl) (T.fr 41 _ rfl) (by decide +kernel) (pa_cons (pe_ix (r := rIx K) ix_seq (pv 1) (pv 6) (fun _ _ => rfl)) pa_nil))))
      (pss_cons (ps_if (pt_cmpR op_notN (pe_ix (r := rIx K) ix_seq (pv 2) (pv 6) (fun _ _ => rfl)) pe_non (nomark _)) (pss_one (ps_set (i := 7) sc__law_text.nd rfl (Or.inl rfl) (pe_op (r := rAddX K) op_addX (pe_op (r := rAddX K) op_addX (pv 7) pe_str) (pe_callTy (r := rStrW) call_strW (by rfl) (T.fr 41 _ rfl) (by decide +kernel) (pa_cons (pe_ix (r := rIx K) ix_seq (pv 2) (pv 6) (fun _ _ => rfl)) pa_nil))))) pss_nil)
      (pss_one (ps_expr (pe_bmK (K := K) rfl (pe_bm PySem.F.plainAttrs_list PySem.F.slot_list_append PySem.F.type_list_append (r := rAppend) mt_append (pv 5) (pa_cons (pv 7) pa_nil))))))))
      (pss_cons (ps_for PassesOwn.never rfl (pi_listK (K := K) rfl (pv 3)) (pg_tupK (K := K) (n := 2) rfl (pg_tup rfl (pgs_cons (pg_name (i := 8) sc__law_text.nd rfl (Or.inl rfl)) (pgs_cons (pg_name (i := 9) sc__law_text.nd rfl (Or.inl rfl)) pgs_nil)))) (pss_one (ps_expr (pe_bmK (K := K) rfl (pe_bm PySem.F.plainAttrs_list PySem.F.slot_list_append PySem.F.type_list_append (r := rAppend) mt_append (pv 5) (pa_cons (pe_op (r := rAddX K) op_addX (pe_op (r := rAddX K) op_addX (pe_op (r := rAddX K) op_addX pe_str (pe_callTy (r := rStrW) call_strW (by rfl) (T.fr 41 _ rfl) (by decide +kernel) (pa_cons (pv 8) pa_nil))) pe_str) (pe_callTy (r := rStrW) call_strW (by rfl) (T.fr 41 _ rfl) (by decide +kernel) (pa_cons (pv 9) pa_nil))) pa_nil))))))
      (pss_cons (ps_if (pt_cmpR (r := rNeX K) (op_neX hr.units) (pv 4) (pe_lst pa_nil) (nomark _)) (pss_one (ps_expr (pe_bmK (K := K) rfl (pe_bm PySem.F.plainAttrs_list PySem.F.slot_list_append PySem.F.type_list_append (r := rAppend) mt_append (pv 5) (pa_cons (pe_op (r := rAddX K) op_addX pe_str (pe_bmK (K := K) rfl (pe_bm PySem.F.plainAttrs_str PySem.F.slot_str_join PySem.F.type_str_join (r := rJoinX K) mt_joinX pe_str (pa_cons (pe_lc (own := [("_law_one", 10)]) (g := gName 10) (tt := tYes) (by rfl) sc__law_text.nd (pi_listK (K := K) rfl (pv 4)) (blkOk_by (own := [("_law_one", 10)]) (N := N__law_text) (sc := defScope s__law_text) (by decide +kernel)) (fun _ _ _ _ _ => (pg_name (i := 10) sc__law_text.nd rfl (by first | exact Or.inl rfl | exact Or.inr rfl))) (fun _ _ _ _ _ => pts_nil) (fun _ _ _ _ _ => (pe_op (r := rAddX K) op_addX pe_str (pe_callTy (r := rStrW) call_strW (by rfl) (T.fr 41 _ rfl) (by decide +kernel) (pa_cons (pv 10) pa_nil))))) pa_nil)))) pa_nil))))) pss_nil)
      (pss_one (ps_ret (pe_bmK (K := K) rfl (pe_bm PySem.F.plainAttrs_str PySem.F.slot_str_join PySem.F.type_str_join (r := rJoinX K) mt_joinX pe_str (pa_cons (pv 5) pa_nil)))))))))), vbody (N := ["_law_job_here", "_law_frees", "_law_dues", "_law_needs_here", "_law_rooms", "_law_rows", "_law_t", "_law_row", "_law_a", "_law_b", "_law_one"]) hs rr xl ql ?_⟩
    unfold vLText at h
    split at h
    · obtain ⟨fs, ds, zs, rs, rfl, hv, hq⟩ := h
      have hfl := hv.fl
      have hdl := hv.dl
      have hzl := hv.zl
      have hrl := hv.ro.len
      have hok := jobRs_ok hv
      refine vstep fun k hk => ?_
      walk_at "v"
      refine hk _ _ ?_
      clear hk
      refine vstep fun k hk => ?_
      walk_at "v"
      refine hk _ _ ?_
      clear hk
      have big : ∀ n : Nat, n ≤ 1000 → n ≤ sizeLine := fun n h => Nat.le_trans h (by decide)
      have lt5 : (Str.ofString "task ").length = 5 := by decide +kernel
      have lt1 : (Str.ofString " ").length = 1 := by decide +kernel
      have ln5 : (Str.ofString "need ").length = 5 := by decide +kernel
      have lr5 : (Str.ofString "rooms").length = 5 := by decide +kernel
      have lapp : ∀ a b : Str, (a ++ b).length = a.length + b.length := fun a b => by
        show (a.cps ++ b.cps).size = _
        rw [Array.size_append]
        rfl
      have htl := taskRs_len (ds := ds) hdl
      refine vcut (fun Γ S => S = [.lst (fzs (((taskRs fs ds).map rowS).map .str))] ∧ ∃ y1 y2 y3 y4 y5, Γ = [some (.fz (jbD fs ds zs rs)), some (.fz (.list (intsL fs))), some (.fz (.list (optsL ds))), some (.fz (.list (prsL zs))), some (.fz (.list (intsL rs))), some (.rf 0), y1, y2, y3, y4, y5]) (fun k hk => ?_) (fun Γ S hP => ?_)
      · unfold wFor
        walk_at "v"
        refine ⟨by rw [intsL_len]; omega, by rw [intsL_len]; omega, ?_⟩
        refine forV_inv (fun i Γ S => S = [.lst (fzs ((((taskRs fs ds).take i).map rowS).map .str))] ∧ ∃ y1 y2 y3 y4 y5, Γ = [some (.fz (jbD fs ds zs rs)), some (.fz (.list (intsL fs))), some (.fz (.list (optsL ds))), some (.fz (.list (prsL zs))), some (.fz (.list (intsL rs))), some (.rf 0), y1, y2, y3, y4, y5]) ⟨rfl, _, _, _, _, _, rfl⟩ (fun _ _ _ _ _ => trivial) (fun i v Γ S k2 hv2 hI hk2 => ?_) (fun Γ S hI => ?_)
        · obtain ⟨rfl, y1, y2, y3, y4, y5, rfl⟩ := hI
          obtain ⟨hi, rfl⟩ := rng0_get hv2
          rw [intsL_len] at hi
          obtain ⟨f, hf⟩ : ∃ f, fs[i]? = some f := ⟨_, List.getElem?_eq_getElem hi⟩
          obtain ⟨o, ho⟩ : ∃ o, ds[i]? = some o := ⟨_, List.getElem?_eq_getElem (by omega)⟩
          have hr : (taskRs fs ds)[i]? = some (taskR f o) := by
            unfold taskRs
            rw [List.getElem?_map, (List.getElem?_zip_eq_some (z := (f, o))).mpr ⟨hf, ho⟩]
            rfl
          have F := num_facts (hv.fv f (List.mem_of_getElem? hf) |>.imp (fun h => by omega) id)
          have lF := F.l3
          have e1 : ((taskRs fs ds).take (i + 1)).map rowS = ((taskRs fs ds).take i).map rowS ++ [rowS (taskR f o)] := by
            rw [List.take_add_one, hr, List.map_append]
            rfl
          have e2 : ((((taskRs fs ds).take i).map rowS).map PyData.str).length < 100000 := by
            rw [List.length_map, List.length_map, List.length_take]
            omega
          simp only [wgName, List.set_cons_succ, List.set_cons_zero]
          refine vstep fun k hk => ?_
          walk_at "v"
          rw [intsL_get hf]
          walk_at "v"
          refine ⟨decide_eq_true F.lg, by rw [lt5]; exact big _ (by omega), hk _ _ ?_⟩
          clear hk
          refine vstep fun k hk => ?_
          walk_at "v"
          rw [optsL_get ho]
          cases o with
          | none =>
            simp only [oD]
            walk_at "v"
            refine hk _ _ ?_
            clear hk
            walk_at "v"
            refine ⟨by rw [List.length_take]; omega, hk2 _ _ ⟨?_, _, _, _, _, _, rfl⟩⟩
            rw [e1, show rowS (taskR f none) = Str.ofString "task " ++ numS f from (row_one "task" f (by decide +kernel)).symm]
            simp only [List.map_append, List.map_cons, List.map_nil]
          | some d =>
            have G := num_facts (hv.dv d (List.mem_of_getElem? ho))
            have lG := G.l3
            simp only [oD]
            walk_at "v"
            refine ⟨by rw [lapp, lt5, lt1]; exact big _ (by omega), decide_eq_true G.lg, by rw [lapp, lapp, lt5, lt1]; exact big _ (by omega), hk _ _ ?_⟩
            clear hk
            walk_at "v"
            refine ⟨by rw [List.length_take]; omega, hk2 _ _ ⟨?_, _, _, _, _, _, rfl⟩⟩
            rw [e1, show rowS (taskR f (some d)) = Str.ofString "task " ++ numS f ++ Str.ofString " " ++ numS d from (row_two "task" f d (by decide +kernel)).symm]
            simp only [List.map_append, List.map_cons, List.map_nil]
        · rw [rngT_len, intsL_len, ← htl, List.take_length] at hI
          exact hk _ _ hI
      obtain ⟨rfl, y1, y2, y3, y4, y5, rfl⟩ := hP
      refine vcut (fun Γ S => S = [.lst (fzs (((taskRs fs ds ++ zs.map needR).map rowS).map .str))] ∧ ∃ y1 y2 y3 y4 y5, Γ = [some (.fz (jbD fs ds zs rs)), some (.fz (.list (intsL fs))), some (.fz (.list (optsL ds))), some (.fz (.list (prsL zs))), some (.fz (.list (intsL rs))), some (.rf 0), y1, y2, y3, y4, y5]) (fun k hk => ?_) (fun Γ S hP => ?_)
      · unfold wFor
        walk_at "v"
        refine forV_inv (fun i Γ S => S = [.lst (fzs (((taskRs fs ds ++ (zs.take i).map needR).map rowS).map .str))] ∧ ∃ y1 y2 y3 y4 y5, Γ = [some (.fz (jbD fs ds zs rs)), some (.fz (.list (intsL fs))), some (.fz (.list (optsL ds))), some (.fz (.list (prsL zs))), some (.fz (.list (intsL rs))), some (.rf 0), y1, y2, y3, y4, y5]) ⟨by rw [List.take_zero, List.map_nil, List.append_nil], _, _, _, _, _, rfl⟩ (fun _ _ _ _ _ => trivial) (fun i v Γ S k2 hv2 hI hk2 => ?_) (fun Γ S hI => ?_)
        · obtain ⟨rfl, y1, y2, y3, y4, y5, rfl⟩ := hI
          unfold prsL at hv2
          rw [List.getElem?_map, List.getElem?_map] at hv2
          cases hz : zs[i]? with
          | none =>
            rw [hz] at hv2
            cases hv2
          | some z =>
            rw [hz] at hv2
            cases hv2
            have hzi := (List.getElem?_eq_some_iff.mp hz).1
            obtain ⟨rk, hrk⟩ := hv.rank
            have hzz := hrk z (List.mem_of_getElem? hz)
            have F := num_facts (n := (z.1 : Int)) (by omega)
            have G := num_facts (n := (z.2 : Int)) (by omega)
            have lF := F.l3
            have lG := G.l3
            have e1 : (taskRs fs ds ++ (zs.take (i + 1)).map needR).map rowS = (taskRs fs ds ++ (zs.take i).map needR).map rowS ++ [rowS (needR z)] := by
              rw [List.take_add_one, hz, List.map_append (f := needR), ← List.append_assoc, List.map_append]
              rfl
            have e2 : (taskRs fs ds ++ (zs.take i).map needR).length < 100000 := by
              rw [List.length_append, List.length_map, List.length_take]
              omega
            simp only [prD]
            walk_at "v"
            refine ⟨decide_eq_true F.lg, by rw [ln5]; exact big _ (by omega), by rw [lapp, ln5, lt1]; exact big _ (by omega), decide_eq_true G.lg, by rw [lapp, lapp, ln5, lt1]; exact big _ (by omega), by rw [List.length_take]; omega, hk2 _ _ ⟨?_, _, _, _, _, _, rfl⟩⟩
            rw [e1, show rowS (needR z) = Str.ofString "need " ++ numS z.1 ++ Str.ofString " " ++ numS z.2 from (row_two "need" z.1 z.2 (by decide +kernel)).symm]
            simp only [List.map_append, List.map_cons, List.map_nil]
        · rw [List.length_map, prsL_len, List.take_length] at hI
          exact hk _ _ hI
      obtain ⟨rfl, y1, y2, y3, y4, y5, rfl⟩ := hP
      refine vcut (fun Γ S => S = [.lst (fzs (((jobRs fs ds zs rs).map rowS).map .str))] ∧ ∃ y1 y2 y3 y4 y5, Γ = [some (.fz (jbD fs ds zs rs)), some (.fz (.list (intsL fs))), some (.fz (.list (optsL ds))), some (.fz (.list (prsL zs))), some (.fz (.list (intsL rs))), some (.rf 0), y1, y2, y3, y4, y5]) (fun k hk => ?_) (fun Γ S hP => ?_)
      · refine vifS fun k2 hk2 => ?_
        walk_at "v"
        by_cases hr : rs = []
        · refine hk2 _ _ ?_
          rw [decide_eq_true hr]
          refine ifV.F ?_
          walk_at "v"
          refine hk _ _ ⟨?_, _, _, _, _, _, rfl⟩
          unfold jobRs
          rw [show roomRs rs = [] from if_pos hr, List.append_nil]
        · refine hk2 _ _ ?_
          rw [decide_eq_false hr]
          refine ifV.T ?_
          clear hk2
          unfold wLc
          walk_at "v"
          have e1 : (rs.map fun r => PyData.str (Str.ofString " " ++ numS r)) = (rs.map fun r => Str.ofString " " ++ numS r).map PyData.str := by
            rw [List.map_map]
            rfl
          have hv200 : ∀ n ∈ rs, 0 ≤ n ∧ n ≤ 200 := fun n hn => by have := hv.ro.val n hn; omega
          have hsum := rooms_sum hv200
          have hjl : (Txt.join (Str.ofString "") (rs.map fun r => Str.ofString " " ++ numS r)).length ≤ 80 := by
            have h1 := PySem.StrLaws.join_length_le (Str.ofString "") (rs.map fun r => Str.ofString " " ++ numS r)
            rw [← PySem.StrLaws.glued_eq_join, show (Str.ofString "").length = 0 by decide +kernel] at h1
            have h2 : (Txt.join (Str.ofString "") (rs.map fun r => Str.ofString " " ++ numS r)).length ≤ _ := h1
            omega
          have hrl2 := roomRs_len rs
          have hjr := jobRs_len hv
          refine ⟨rfl, lcV_of (bs := rs) PyData.int (fun r => .str (Str.ofString " " ++ numS r)) trivial (by omega) (fun i r k3 k0 hr3 hk3 => ?_) ?_⟩
          · have F := num_facts (hv200 r (List.mem_of_getElem? hr3))
            have lF := F.l3
            simp only [wipeG]
            walk_at "v"
            exact ⟨decide_eq_true F.lg, by rw [lt1]; exact big _ (by omega), hk3⟩
          · rw [e1]
            simp only [strsD_map, Option.bind_some]
            refine ⟨?_, by rw [lr5]; exact big _ (by omega), ?_, hk _ _ ⟨?_, _, _, _, _, _, rfl⟩⟩
            · rw [show (Str.ofString "").length = 0 by decide +kernel]
              omega
            · simp only [List.length_map, List.length_append]
              omega
            · unfold jobRs
              rw [show roomRs rs = [(((("rooms" : Str), rs)) : Row)] from if_neg hr]
              simp only [List.map_append, List.map_cons, List.map_nil]
              rw [← row_rooms]
              rfl
      obtain ⟨rfl, y1, y2, y3, y4, y5, rfl⟩ := hP
      walk_at "v"
      simp only [strsD_map, Option.bind_some]
      have hs := rows_sum hok
      have hjr := jobRs_len hv
      refine ⟨?_, hq⟩
      rw [List.length_map, show (Str.ofString "\n").length = 1 by decide +kernel]
      omega
    · exact h.elim

end
local macro_rules | `(tactic| walk_at "v0") => `(tactic| simp only [wSeq, wNext, wBreak, wCont, wDrop, wRet, wRetN, wIfS, wAsg, wgName, wgNil, wgCons, wgTup, wgUnl, wPar, wVar, wC, wB, wAnd, wOr, wNot, wAndV, wOrV, wNotV, wIf, wOp, wUn, wCB, wNil, wCons, wIsN, wNotN, isNon, wCall, wCall0, wRng1, wRng2, wIList, wITup, wEnum, wZip, wYes, wLst, wLstN, wTup, wSl, vPart, vNoPart, wIsi, wTru, vTru, wChain, wBM, wBM0, wgSub, wAug, vI0, vI0b, vI, vNeg, vAdd, vEqW, datOf, eqS, id, vIsB, vIx, vSl, vLen, vIsi, tyT, tyD, itemsA, itemsT, seqOf, datsOf, vAll, vAny, vSum, vMax2, vMin2, vMaxL, vMinL, vList, vInt1, vAppend, vSet, isKd, allD, startG, newL, newLN, tupT, itemsV, List.getElem?_cons_zero, List.getElem?_cons_succ, List.set_cons_zero, List.set_cons_succ, List.length_cons, List.length_nil, List.map_cons, List.map_nil, ifV_true, ifV_false, List.nil_append, List.cons_append, reduceCtorEq, Bool.not_true, Bool.not_false, true_and, and_true, decide_true, decide_false, retD, retX, frzT, frzTs, clo, List.take_zero, List.take_succ_cons, List.take_nil, List.not_mem_nil, false_imp_iff, implies_true, callV, callJ, jsOf, rfsTs, rfsT, rfsO, addN, stepN, okJs, renTs, renT, renO, outN, backS, putAll, idxB, inB, renTs_fz, rfsTs_fz, List.append_nil, List.drop_nil, List.drop_zero, List.foldl_nil, List.foldl_cons, List.nodup_nil, kb_NoneType_int, kb_NoneType_bool, kb_NoneType_list, kb_NoneType_tuple, kb_NoneType_str, kb_bool_int, kb_bool_bool, kb_bool_list, kb_bool_tuple, kb_bool_str, kb_int_int, kb_int_bool, kb_int_list, kb_int_tuple, kb_int_str, kb_str_int, kb_str_bool, kb_str_list, kb_str_tuple, kb_str_str, kb_list_int, kb_list_bool, kb_list_list, kb_list_tuple, kb_list_str, kb_tuple_int, kb_tuple_bool, kb_tuple_list, kb_tuple_tuple, kb_tuple_str, kb_dict_int, kb_dict_bool, kb_dict_list, kb_dict_tuple, kb_dict_str, nodB, subL, okO, cloL, Bool.or_false, Bool.true_or, Bool.or_true, Bool.false_or, eq_self, reduceIte, Int.reduceLE, Int.reduceLT, Int.reduceAdd, Int.reduceSub, Int.reduceNeg, Int.reduceToNat, Nat.reduceAdd, Nat.reduceSub, Nat.reduceLT, Nat.reduceLeDiff, Nat.reduceEqDiff, Int.reduceEq, Int.cast_ofNat_Int, atN_nat, plN_nat, rfsTs_append, renTs_append, Option.map_some, Option.map_none, List.drop_succ_cons, fzs_snoc, fzs_cat, fzs_ins, fzs_set, Int.toNat_natCast, List.length_map, List.length_append, allD_map, allD_append, frzTs_fz, atN_map, List.getD_cons_zero, List.getD_cons_succ, beq_self_eq_true, Nat.reduceBEq, Bool.false_eq_true, vInsert, vInW, datsA, flatD, intsL_flat, intsL_any, natsL_flat, natsL_any, lcR_map, vB1, vB2, vMixed, vTake, pl, vPile, vOrder, vRoom1, vHours, vNeeds, vJob, repL, atX_0, atX_1, atX_2, atX_3, vExtend, jbD, wEnumC, wgStar, wNever, vStrW, wordS, isWord, vIntW, frzAs, frzA, frzD, frzDs, callD, wCallD, vShowD, vNumIn, vSpelled, vJobText, vRowsIn, tupT_map, catL, newL_map, prsL_snoc, shX_pair, shX_prs, anyX_prs, vRingF, vNeedP, taskD, vTakeTask, vTakeNeed, vTakeRooms, neW_nt, neW_rt, neW_rn, none_ints, vTakeRow, vCheckJobT, vReadJob, intsX_nil, shX_ints, shX_nil, numS_fold, vLText])

def SmN (i : Int) : Prop := -1000000 ≤ i ∧ i ≤ 1000000
theorem sm_intsL {is : List Int} {n : Nat} (h : ∀ i ∈ is, SmN i) (hn : is.length ≤ n) : Sm (22 * n) 1 (.list (intsL is)) := by
  refine (sm_list (wt := 21) (dp := 0) fun d hd => ?_).mono (Nat.mul_le_mul_left _ (by rw [intsL_len]; exact hn)) (Nat.le_refl _)
  obtain ⟨i, hi, rfl⟩ := List.mem_map.mp hd
  exact sm_int (h i hi).1 (h i hi).2
theorem VJ.sm {fs : List Int} {ds : List (Option Int)} {zs : Prs} {rs : List Int} (v : VJ fs ds zs rs) : Sm 30000 3 (jbD fs ds zs rs) := by
  have hl := v.fl
  have hf : Sm 3000 2 (.list (intsL fs)) := (sm_intsL (n := 100) (fun i hi => ⟨by have := v.fv i hi; omega, by have := v.fv i hi; omega⟩) hl).mono (by decide) (by decide)
  have hd : Sm 3000 2 (.list (optsL ds)) := (sm_list (wt := 21) (dp := 0) fun x hx => by
    obtain ⟨o, ho, rfl⟩ := List.mem_map.mp hx
    cases o with
    | none => exact (show Sm 0 0 (oD none) from sm_none).mono (by omega) (by omega)
    | some i =>
      have := v.dv i ho
      show Sm 21 0 (.int i)
      exact sm_int (by omega) (by omega)).mono (by rw [optsL_len, v.dl]; omega) (by omega)
  have hz : Sm 3000 2 (.list (prsL zs)) := (sm_list (wt := 44) (dp := 1) fun x hx => by
    obtain ⟨z, hz, rfl⟩ := List.mem_map.mp hx
    have h2 : z.1 < fs.length ∧ z.2 < fs.length := by
      obtain ⟨rk, h⟩ := v.rank
      exact ⟨(h z hz).1, (h z hz).2.1⟩
    refine (sm_tup (wt := 21) (dp := 0) (ds := [.int (z.1 : Int), .int (z.2 : Int)]) fun y hy => ?_).mono (by show 22 * 2 ≤ 44; decide) (by omega)
    simp only [List.mem_cons, List.not_mem_nil, or_false] at hy
    rcases hy with rfl | rfl
    · exact sm_int (by omega) (by omega)
    · exact sm_int (by omega) (by omega)).mono (by rw [prsL_len]; have := v.zl; omega) (by omega)
  have hr : Sm 3000 2 (.list (intsL rs)) := (sm_intsL (n := 100) (fun i hi => ⟨by have := v.ro.val i hi; omega, by have := v.ro.val i hi; omega⟩) (by have := v.ro.len; omega)).mono (by decide) (by decide)
  refine (sm_tup (wt := 3000) (dp := 2) (ds := [.list (intsL fs), .list (optsL ds), .list (prsL zs), .list (intsL rs)]) fun y hy => ?_).mono (by show 3001 * 4 ≤ 30000; decide) (by omega)
  simp only [List.mem_cons, List.not_mem_nil, or_false] at hy
  rcases hy with rfl | rfl | rfl | rfl
  · exact hf
  · exact hd
  · exact hz
  · exact hr

section
variable {P : Program} {w : World} {K : PySem.W.Frag} {mg : Str → Option Value} {base : Heap}
theorem eqv_4 (a b c d : Int) : (PyData.list [.int a, .int b, .int c, .int d]).eqv (.list [.int a, .int b, .int c, .int d]) = true := by
  show (decide (a = a) && (decide (b = b) && (decide (c = c) && (decide (d = d) && true)))) = true
  simp only [decide_true, Bool.and_self]
theorem getX_app {α : Type} (xs ys : List α) (j : Nat) : (xs ++ ys)[xs.length + j]? = ys[j]? := by
  rw [List.getElem?_append_right (Nat.le_add_right _ _), Nat.add_sub_cancel_left]
theorem atN_last {α : Type} (xs : List α) (x : α) : atN (xs ++ [x]) (-1) = some x := by
  unfold atN
  rw [if_neg (by decide), List.length_append, List.length_singleton, if_pos (by omega), show ((xs.length + 1 : Nat) : Int) + -1 = (xs.length : Int) by omega, Int.toNat_natCast, List.getElem?_concat_length]
def vGood60 : VSp := fun ts S _ q => match ts, S with
  | [.fz d], [] => ∃ fs ds zs rs, d = jbD fs ds zs rs ∧ VJ fs ds zs rs ∧ q (.fz (.bool true)) []
  | _, _ => False
instance : VLen vGood60 1 := ⟨fun {ts S vx q} h => by
  unfold vGood60 at h
  split at h
  · rfl
  · exact h.elim⟩
local macro_rules | `(tactic| walk_at "v") => `(tactic| simp only [wSeq, wNext, wBreak, wCont, wDrop, wRet, wRetN, wIfS, wAsg, wgName, wgNil, wgCons, wgTup, wgUnl, wPar, wVar, wC, wB, wAnd, wOr, wNot, wAndV, wOrV, wNotV, wIf, wOp, wUn, wCB, wNil, wCons, wIsN, wNotN, isNon, wCall, wCall0, wRng1, wRng2, wIList, wITup, wEnum, wZip, wYes, wLst, wLstN, wTup, wSl, vPart, vNoPart, wIsi, wTru, vTru, wChain, wBM, wBM0, wgSub, wAug, vI0, vI0b, vI, vNeg, vAdd, vEqW, datOf, eqS, id, vIsB, vIx, vSl, vLen, vIsi, tyT, tyD, itemsA, itemsT, seqOf, datsOf, vAll, vAny, vSum, vMax2, vMin2, vMaxL, vMinL, vList, vInt1, vAppend, vSet, isKd, allD, startG, newL, newLN, tupT, itemsV, List.getElem?_cons_zero, List.getElem?_cons_succ, List.set_cons_zero, List.set_cons_succ, List.length_cons, List.length_nil, List.map_cons, List.map_nil, ifV_true, ifV_false, List.nil_append, List.cons_append, reduceCtorEq, Bool.not_true, Bool.not_false, true_and, and_true, decide_true, decide_false, retD, retX, frzT, frzTs, clo, List.take_zero, List.take_succ_cons, List.take_nil, List.not_mem_nil, false_imp_iff, implies_true, callV, callJ, jsOf, rfsTs, rfsT, rfsO, addN, stepN, okJs, renTs, renT, renO, outN, backS, putAll, idxB, inB, renTs_fz, rfsTs_fz, List.append_nil, List.drop_nil, List.drop_zero, List.foldl_nil, List.foldl_cons, List.nodup_nil, kb_NoneType_int, kb_NoneType_bool, kb_NoneType_list, kb_NoneType_tuple, kb_NoneType_str, kb_bool_int, kb_bool_bool, kb_bool_list, kb_bool_tuple, kb_bool_str, kb_int_int, kb_int_bool, kb_int_list, kb_int_tuple, kb_int_str, kb_str_int, kb_str_bool, kb_str_list, kb_str_tuple, kb_str_str, kb_list_int, kb_list_bool, kb_list_list, kb_list_tuple, kb_list_str, kb_tuple_int, kb_tuple_bool, kb_tuple_list, kb_tuple_tuple, kb_tuple_str, kb_dict_int, kb_dict_bool, kb_dict_list, kb_dict_tuple, kb_dict_str, nodB, subL, okO, cloL, Bool.or_false, Bool.true_or, Bool.or_true, Bool.false_or, eq_self, reduceIte, Int.reduceLE, Int.reduceLT, Int.reduceAdd, Int.reduceSub, Int.reduceNeg, Int.reduceToNat, Nat.reduceAdd, Nat.reduceSub, Nat.reduceLT, Nat.reduceLeDiff, Nat.reduceEqDiff, Int.reduceEq, Int.cast_ofNat_Int, atN_nat, plN_nat, rfsTs_append, renTs_append, Option.map_some, Option.map_none, List.drop_succ_cons, fzs_snoc, fzs_cat, fzs_ins, fzs_set, Int.toNat_natCast, List.length_map, List.length_append, allD_map, allD_append, frzTs_fz, atN_map, List.getD_cons_zero, List.getD_cons_succ, beq_self_eq_true, Nat.reduceBEq, Bool.false_eq_true, vInsert, vInW, datsA, flatD, intsL_flat, intsL_any, natsL_flat, natsL_any, lcR_map, vB1, vB2, vMixed, vTake, pl, vPile, vOrder, vRoom1, vHours, vNeeds, vJob, repL, atX_0, atX_1, atX_2, atX_3, vExtend, jbD, wEnumC, wgStar, wNever, vStrW, wordS, isWord, vIntW, frzAs, frzA, frzD, frzDs, callD, wCallD, vShowD, vNumIn, vSpelled, vJobText, vRowsIn, tupT_map, catL, newL_map, prsL_snoc, shX_pair, shX_prs, anyX_prs, vRingF, vNeedP, taskD, vTakeTask, vTakeNeed, vTakeRooms, neW_nt, neW_rt, neW_rn, none_ints, vTakeRow, vCheckJobT, vReadJob, intsX_nil, shX_ints, shX_nil, numS_fold, vLText, Option.bind_some, getX_app, atN_last, vNotB, vIsJobT, vShow])
theorem ok__law_good (T : Env K mg) : OkG P w K mg base CX0 dd__law_good "_law_good" 9 ["_law_job_here"] (liftV K vGood60) := by
  obtain ⟨fd__law_text, D__law_text, g__law_text, k__law_text, b__law_text, G__law_text⟩ := ok__law_text (P := P) (w := w) (base := base) T
  obtain ⟨fd_job_text, D_job_text, g_job_text, k_job_text, b_job_text, G_job_text⟩ := ok_job_text (P := P) (w := w) (base := base) T
  obtain ⟨fd_read_job, D_read_job, g_read_job, k_read_job, b_read_job, G_read_job⟩ := ok_read_job (P := P) (w := w) (base := base) T
  obtain ⟨fd_is_job, D_is_job, g_is_job, k_is_job, b_is_job, G_is_job⟩ := ok_is_job (P := P) (w := w) (base := base) T
  obtain ⟨fd, F⟩ := T.c.def_ 30 (d := dd__law_good) rfl
  refine ⟨fd, F, T.gl 30 _ rfl, F.kp, F.bindsN fun _ _ _ _ _ _ us hl => match us, hl with | [_], _ => rfl, ?_⟩
  refine funD_okG F sc__law_good (fun vs H Q E h => ?_) (fun cdv A outer s H vs Q E hr hgd h => ?_)
  · obtain ⟨F0, α, S, ts, q, vx, hs, rr, xl, ql, h⟩ := h
    rw [rr.len]
    exact VLen.len h
  · obtain ⟨F0, α, S, ts, q, vx, hs, rr, xl, ql, h⟩ := h
    refine ⟨_, PSs.nox (pss_cons (ps_set (i := 1) sc__law_good.nd rfl (Or.inl rfl) (pe_callB (r := rShow K) (call_repr_data hgd hr.units) (by rfl) (T.fr 46 _ rfl) (by decide +kernel) (pa_cons (pv 0) pa_nil)))
      (pss_cons (ps_set (i := 2) sc__law_good.nd rfl (Or.inl rfl) (pe_call G__law_text (hr.mono (by decide)) (by rfl) g__law_text k__law_text b__law_text .nil pass0 (pa_cons (pv 0) pa_nil)))
      (pss_cons (ps_for PassesOwn.never rfl (pi_listK (K := K) rfl (pe_lst (pa_cons (pe_call G_job_text (hr.mono (by decide)) (by rfl) g_job_text k_job_text b_job_text .nil pass0 (pa_cons (pv 0) pa_nil)) (pa_cons (pe_call G_job_text (hr.mono (by decide)) (by rfl) g_job_text k_job_text b_job_text .nil pass0 (pa_cons (pv 0) pa_nil)) pa_nil)))) (pg_name (i := 3) sc__law_good.nd rfl (Or.inl rfl)) (pss_one (ps_if (PW.pt (pw_or (pt_not (pt_val (pe_callB (r := rIsi K) call_isi (by rfl) (T.fr 32 _ rfl) (by decide +kernel) (pa_cons (pv 3) (pa_cons (pe_bltn (v := .ty "str") (by rfl) (T.fr 41 _ rfl) (by decide +kernel) rfl) pa_nil))))) (pw_or (pt_cmpR (r := rNeX K) (op_neX hr.units) (pv 3) (pv 2) (nomark _)) (pw_or1 (pt_cmpR (r := rNeX K) (op_neX hr.units) (pe_callB (r := rShow K) (call_repr_data hgd hr.units) (by rfl) (T.fr 46 _ rfl) (by decide +kernel) (pa_cons (pv 0) pa_nil)) (pv 1) (nomark _)))))) (pss_one (ps_ret pe_bl)) pss_nil)))
      (pss_cons (ps_for PassesOwn.never rfl (pi_listK (K := K) rfl (pe_lst (pa_cons (pe_call G_read_job (hr.mono (by decide)) (by rfl) g_read_job k_read_job b_read_job .nil pass0 (pa_cons (pv 2) pa_nil)) (pa_cons (pe_call G_read_job (hr.mono (by decide)) (by rfl) g_read_job k_read_job b_read_job .nil pass0 (pa_cons (pv 2) pa_nil)) pa_nil)))) (pg_name (i := 4) sc__law_good.nd rfl (Or.inl rfl)) (pss_cons (ps_if (PW.pt (pw_or (pt_cmpR (r := rNeX K) (op_neX hr.units) (pe_callB (r := rShowD K) (call_reprD (call_repr_data hgd hr.units)) (by rfl) (T.fr 46 _ rfl) (by decide +kernel) (pa_cons (pv 4) pa_nil)) (pv 1) (nomark _)) (pw_or1 (pt_cmpR op_notBl (pe_frd (pe_call G_is_job (hr.mono (by decide)) (by rfl) g_is_job k_is_job b_is_job .nil pass0 (pa_cons (pv 4) pa_nil))) pe_bl (nomark _))))) (pss_one (ps_ret pe_bl)) pss_nil)
      (pss_cons (ps_setLc (i := 5) (own := [("_law_part", 7)]) (g := gName 7) (tt := tYes) (by rfl) sc__law_good.nd rfl rfl (sw_true rfl rfl rfl (by decide +kernel)) (pi_tupK (K := K) rfl (pv 4)) (blkOk_by (own := [("_law_part", 7)]) (N := N__law_good) (sc := defScope s__law_good) (by decide +kernel)) (fun _ _ _ _ _ => (pg_name (i := 7) sc__law_good.nd rfl (by first | exact Or.inl rfl | exact Or.inr rfl))) (fun _ _ _ _ _ => pts_nil) (fun _ _ _ _ _ => (pe_op (r := rAddX K) op_addX (pe_callB (r := rLenX K) call_lenX (by rfl) (T.fr 36 _ rfl) (by decide +kernel) (pa_cons (pv 7) pa_nil)) pe_int)))
      (pss_cons (ps_for PassesOwn.never rfl (pi_range1 (by rfl) (T.fr 40 _ rfl) (pa_cons pe_int pa_nil)) (pg_name (i := 6) sc__law_good.nd rfl (Or.inl rfl)) (pss_one (ps_expr (pe_bmK (K := K) rfl (pe_bm PySem.F.plainAttrs_list PySem.F.slot_list_append PySem.F.type_list_append (r := rAppend) mt_append (pe_ix (r := rIx K) ix_seq (pv 4) (pv 6) (fun _ _ => rfl)) (pa_cons (pe_op (r := rAddX K) op_addX pe_int (pv 6)) pa_nil))))))
      (pss_one (ps_if (PW.pt (pw_or (pt_cmpR (r := rNeX K) (op_neX hr.units) (pe_lc (own := [("_law_part", 7)]) (g := gName 7) (tt := tYes) (by rfl) sc__law_good.nd (pi_tupK (K := K) rfl (pv 4)) (blkOk_by (own := [("_law_part", 7)]) (N := N__law_good) (sc := defScope s__law_good) (by decide +kernel)) (fun _ _ _ _ _ => (pg_name (i := 7) sc__law_good.nd rfl (by first | exact Or.inl rfl | exact Or.inr rfl))) (fun _ _ _ _ _ => pts_nil) (fun _ _ _ _ _ => (pe_ix (r := rIx K) ix_seq (pv 7) (pe_un un_neg pe_int) (fun _ _ => rfl)))) (pe_lst (pa_cons pe_int (pa_cons pe_int (pa_cons pe_int (pa_cons pe_int pa_nil))))) (nomark _)) (pw_or1 (pt_cmpR (r := rNeX K) (op_neX hr.units) (pe_lc (own := [("_law_part", 7)]) (g := gName 7) (tt := tYes) (by rfl) sc__law_good.nd (pi_tupK (K := K) rfl (pv 4)) (blkOk_by (own := [("_law_part", 7)]) (N := N__law_good) (sc := defScope s__law_good) (by decide +kernel)) (fun _ _ _ _ _ => (pg_name (i := 7) sc__law_good.nd rfl (by first | exact Or.inl rfl | exact Or.inr rfl))) (fun _ _ _ _ _ => pts_nil) (fun _ _ _ _ _ => (pe_callB (r := rLenX K) call_lenX (by rfl) (T.fr 36 _ rfl) (by decide +kernel) (pa_cons (pv 7) pa_nil)))) (pv 5) (nomark _))))) (pss_one (ps_ret pe_bl)) pss_nil))))))
      (pss_one (ps_ret (pe_cmpR (r := rEqX K) (op_eqX hr.units) (pe_callB (r := rShowD K) (call_reprD (call_repr_data hgd hr.units)) (by rfl) (T.fr 46 _ rfl) (by decide +kernel) (pa_cons (pe_call G_read_job (hr.mono (by decide)) (by rfl) g_read_job k_read_job b_read_job .nil pass0 (pa_cons (pv 2) pa_nil)) pa_nil)) (pv 1) (nomark _)))))))), vbody (N := ["_law_job_here", "_law_kept", "_law_due", "_law_found", "_law_told", "_law_sizes", "_law_k", "_law_part"]) hs rr xl ql ?_⟩
    unfold vGood60 at h
    split at h
    · obtain ⟨fs, ds, zs, rs, rfl, hv, hq⟩ := h
      have sm := hv.sm
      have smL : (jbD fs ds zs rs).shown.length ≤ sizeLine := Nat.le_trans sm.len (by decide)
      have smD := Nat.le_trans sm.dep (by decide : 3 ≤ 40)
      refine vstep fun k hk => ?_
      walk_at "v"
      refine ⟨sm.show_, sm.dict, smD, smL, hk _ _ ?_⟩
      clear hk
      refine vstep fun k hk => ?_
      walk_at "v"
      refine ⟨fs, ds, zs, rs, rfl, hv, hk _ _ ?_⟩
      clear hk
      refine vcut (fun Γ S => S = [] ∧ ∃ y1 y2 y3 y4 y5, Γ = [some (.fz (jbD fs ds zs rs)), some (.fz (.str (jbD fs ds zs rs).shown)), some (.fz (.str (jobS fs ds zs rs))), y1, y2, y3, y4, y5]) (fun k hk => ?_) (fun Γ S hP => ?_)
      · unfold wFor
        walk_at "v"
        refine ⟨fs, ds, zs, rs, rfl, hv, fs, ds, zs, rs, rfl, hv, ?_⟩
        refine forV_inv (fun i Γ S => S = [] ∧ ∃ y1 y2 y3 y4 y5, Γ = [some (.fz (jbD fs ds zs rs)), some (.fz (.str (jbD fs ds zs rs).shown)), some (.fz (.str (jobS fs ds zs rs))), y1, y2, y3, y4, y5]) ⟨rfl, _, _, _, _, _, rfl⟩ (fun _ _ _ _ _ => trivial) (fun i v Γ S k2 hv2 hI hk2 => ?_) (fun Γ S hI => hk _ _ hI)
        obtain ⟨rfl, y1, y2, y3, y4, y5, rfl⟩ := hI
        obtain rfl : v = .fz (.str (jobS fs ds zs rs)) := by
          match i, hv2 with
          | 0, e => cases e; rfl
          | 1, e => cases e; rfl
          | i + 2, e => simp at e
        walk_at "v"
        exact ⟨sm.show_, sm.dict, smD, smL, hk2 _ _ ⟨rfl, _, _, _, _, _, rfl⟩⟩
      obtain ⟨rfl, y1, y2, y3, y4, y5, rfl⟩ := hP
      refine vcut (fun Γ S => ∃ y1 y2 y3 y4 y5, Γ = [some (.fz (jbD fs ds zs rs)), some (.fz (.str (jbD fs ds zs rs).shown)), some (.fz (.str (jobS fs ds zs rs))), y1, y2, y3, y4, y5]) (fun k hk => ?_) (fun Γ S hP => ?_)
      · unfold wFor
        walk_at "v"
        refine ⟨fs, ds, zs, rs, rfl, hv, fs, ds, zs, rs, rfl, hv, ?_⟩
        refine forV_inv (fun i Γ S => (∃ y1 y2 y3 y4 y5, Γ = [some (.fz (jbD fs ds zs rs)), some (.fz (.str (jbD fs ds zs rs).shown)), some (.fz (.str (jobS fs ds zs rs))), y1, y2, y3, y4, y5]) ∧
          ∃ A0 A1 A2 A3 B0 B1 B2 B3 : List DP.T, S = [.lst A0, .lst A1, .lst A2, .lst A3, .lst B0, .lst B1, .lst B2, .lst B3, .lst [.tp [.rf 0, .rf 1, .rf 2, .rf 3], .tp [.rf 4, .rf 5, .rf 6, .rf 7]]] ∧
            (i = 0 → A0 = fzs (intsL fs) ∧ A1 = fzs (optsL ds) ∧ A2 = fzs (prsL zs) ∧ A3 = fzs (intsL rs)) ∧ (i ≤ 1 → B0 = fzs (intsL fs) ∧ B1 = fzs (optsL ds) ∧ B2 = fzs (prsL zs) ∧ B3 = fzs (intsL rs))) ⟨⟨_, _, _, _, _, rfl⟩, _, _, _, _, _, _, _, _, rfl, fun _ => ⟨rfl, rfl, rfl, rfl⟩, fun _ => ⟨rfl, rfl, rfl, rfl⟩⟩ (fun i Γ S _ hI => ?_) (fun i v Γ S k2 hv2 hI hk2 => ?_) (fun Γ S hI => ?_)
        · obtain ⟨_, A0, A1, A2, A3, B0, B1, B2, B3, rfl, _⟩ := hI
          rfl
        · obtain ⟨⟨y1, y2, y3, y4, y5, rfl⟩, A0, A1, A2, A3, B0, B1, B2, B3, rfl, hA, hB⟩ := hI
          match i, hv2 with
          | 0, e =>
            cases e
            obtain ⟨rfl, rfl, rfl, rfl⟩ := hA rfl
            simp only [wgName, List.set_cons_succ, List.set_cons_zero]
            refine vifS fun k3 hk3 => ?_
            walk_at "v"
            refine ⟨sm.show_, sm.dict, smD, smL, fs, ds, zs, rs, rfl, hv, hk3 false _ (ifV.F ?_)⟩
            clear hk3
            simp only [wNext]
            refine vstep fun k hk => ?_
            unfold wLc
            walk_at "v"
            simp only [lcV, wipeG, wgName]
            walk_at "v"
            refine ⟨rfl, ?_⟩
            simp only [lcR, allD]
            refine hk _ _ ?_
            clear hk
            refine vstep fun k hk => ?_
            rw [show rngT 0 4 = [.fz (.int 0), .fz (.int 1), .fz (.int 2), .fz (.int 3)] from rfl]
            simp only [forV]
            walk_at "v"
            have hfl := hv.fl
            have hdl := hv.dl
            have hzl := hv.zl
            have hrl := hv.ro.len
            refine ⟨by decide, by decide, by rw [intsL_len]; omega, by rw [optsL_len]; omega, by rw [prsL_len]; omega, by rw [intsL_len]; omega, hk _ _ ?_⟩
            clear hk
            refine vifS fun k3 hk3 => ?_
            unfold wLc
            walk_at "v"
            simp only [lcV, wipeG, wgName, lcR, allD]
            walk_at "v"
            rw [show (PyData.list [.int 100, .int 101, .int 102, .int 103]).eqv (.list [.int 100, .int 101, .int 102, .int 103]) = true from eqv_4 _ _ _ _]
            refine ⟨rfl, rfl, rfl, ifV.F ⟨rfl, rfl, rfl, ?_⟩⟩
            simp only [Int.natCast_add, Int.cast_ofNat_Int, eqv_4]
            refine hk3 false _ (ifV.F ?_)
            clear hk3
            simp only [wNext]
            exact hk2 _ _ ⟨⟨_, _, _, _, _, rfl⟩, _, _, _, _, _, _, _, _, rfl, fun z => (by omega), fun z => hB (by omega)⟩
          | 1, e =>
            cases e
            obtain ⟨rfl, rfl, rfl, rfl⟩ := hB (Nat.le_refl _)
            simp only [wgName, List.set_cons_succ, List.set_cons_zero]
            refine vifS fun k3 hk3 => ?_
            walk_at "v"
            refine ⟨sm.show_, sm.dict, smD, smL, fs, ds, zs, rs, rfl, hv, hk3 false _ (ifV.F ?_)⟩
            clear hk3
            simp only [wNext]
            refine vstep fun k hk => ?_
            unfold wLc
            walk_at "v"
            simp only [lcV, wipeG, wgName]
            walk_at "v"
            refine ⟨rfl, ?_⟩
            simp only [lcR, allD]
            refine hk _ _ ?_
            clear hk
            refine vstep fun k hk => ?_
            rw [show rngT 0 4 = [.fz (.int 0), .fz (.int 1), .fz (.int 2), .fz (.int 3)] from rfl]
            simp only [forV]
            walk_at "v"
            have hfl := hv.fl
            have hdl := hv.dl
            have hzl := hv.zl
            have hrl := hv.ro.len
            refine ⟨by decide, by decide, by rw [intsL_len]; omega, by rw [optsL_len]; omega, by rw [prsL_len]; omega, by rw [intsL_len]; omega, hk _ _ ?_⟩
            clear hk
            refine vifS fun k3 hk3 => ?_
            unfold wLc
            walk_at "v"
            simp only [lcV, wipeG, wgName, lcR, allD]
            walk_at "v"
            rw [show (PyData.list [.int 100, .int 101, .int 102, .int 103]).eqv (.list [.int 100, .int 101, .int 102, .int 103]) = true from eqv_4 _ _ _ _]
            refine ⟨rfl, rfl, rfl, ifV.F ⟨rfl, rfl, rfl, ?_⟩⟩
            simp only [Int.natCast_add, Int.cast_ofNat_Int, eqv_4]
            refine hk3 false _ (ifV.F ?_)
            clear hk3
            simp only [wNext]
            exact hk2 _ _ ⟨⟨_, _, _, _, _, rfl⟩, _, _, _, _, _, _, _, _, rfl, fun z => (by omega), fun z => (by omega)⟩
          | i + 2, e => simp at e
        · exact hk _ _ hI.1
      obtain ⟨y1, y2, y3, y4, y5, rfl⟩ := hP
      walk_at "v"
      exact ⟨fs, ds, zs, rs, rfl, hv, sm.show_, sm.dict, smD, smL, by rw [decide_eq_true rfl]; exact hq⟩
    · exact h.elim

end
local macro_rules | `(tactic| walk_at "v0") => `(tactic| simp only [wSeq, wNext, wBreak, wCont, wDrop, wRet, wRetN, wIfS, wAsg, wgName, wgNil, wgCons, wgTup, wgUnl, wPar, wVar, wC, wB, wAnd, wOr, wNot, wAndV, wOrV, wNotV, wIf, wOp, wUn, wCB, wNil, wCons, wIsN, wNotN, isNon, wCall, wCall0, wRng1, wRng2, wIList, wITup, wEnum, wZip, wYes, wLst, wLstN, wTup, wSl, vPart, vNoPart, wIsi, wTru, vTru, wChain, wBM, wBM0, wgSub, wAug, vI0, vI0b, vI, vNeg, vAdd, vEqW, datOf, eqS, id, vIsB, vIx, vSl, vLen, vIsi, tyT, tyD, itemsA, itemsT, seqOf, datsOf, vAll, vAny, vSum, vMax2, vMin2, vMaxL, vMinL, vList, vInt1, vAppend, vSet, isKd, allD, startG, newL, newLN, tupT, itemsV, List.getElem?_cons_zero, List.getElem?_cons_succ, List.set_cons_zero, List.set_cons_succ, List.length_cons, List.length_nil, List.map_cons, List.map_nil, ifV_true, ifV_false, List.nil_append, List.cons_append, reduceCtorEq, Bool.not_true, Bool.not_false, true_and, and_true, decide_true, decide_false, retD, retX, frzT, frzTs, clo, List.take_zero, List.take_succ_cons, List.take_nil, List.not_mem_nil, false_imp_iff, implies_true, callV, callJ, jsOf, rfsTs, rfsT, rfsO, addN, stepN, okJs, renTs, renT, renO, outN, backS, putAll, idxB, inB, renTs_fz, rfsTs_fz, List.append_nil, List.drop_nil, List.drop_zero, List.foldl_nil, List.foldl_cons, List.nodup_nil, kb_NoneType_int, kb_NoneType_bool, kb_NoneType_list, kb_NoneType_tuple, kb_NoneType_str, kb_bool_int, kb_bool_bool, kb_bool_list, kb_bool_tuple, kb_bool_str, kb_int_int, kb_int_bool, kb_int_list, kb_int_tuple, kb_int_str, kb_str_int, kb_str_bool, kb_str_list, kb_str_tuple, kb_str_str, kb_list_int, kb_list_bool, kb_list_list, kb_list_tuple, kb_list_str, kb_tuple_int, kb_tuple_bool, kb_tuple_list, kb_tuple_tuple, kb_tuple_str, kb_dict_int, kb_dict_bool, kb_dict_list, kb_dict_tuple, kb_dict_str, nodB, subL, okO, cloL, Bool.or_false, Bool.true_or, Bool.or_true, Bool.false_or, eq_self, reduceIte, Int.reduceLE, Int.reduceLT, Int.reduceAdd, Int.reduceSub, Int.reduceNeg, Int.reduceToNat, Nat.reduceAdd, Nat.reduceSub, Nat.reduceLT, Nat.reduceLeDiff, Nat.reduceEqDiff, Int.reduceEq, Int.cast_ofNat_Int, atN_nat, plN_nat, rfsTs_append, renTs_append, Option.map_some, Option.map_none, List.drop_succ_cons, fzs_snoc, fzs_cat, fzs_ins, fzs_set, Int.toNat_natCast, List.length_map, List.length_append, allD_map, allD_append, frzTs_fz, atN_map, List.getD_cons_zero, List.getD_cons_succ, beq_self_eq_true, Nat.reduceBEq, Bool.false_eq_true, vInsert, vInW, datsA, flatD, intsL_flat, intsL_any, natsL_flat, natsL_any, lcR_map, vB1, vB2, vMixed, vTake, pl, vPile, vOrder, vRoom1, vHours, vNeeds, vJob, repL, atX_0, atX_1, atX_2, atX_3, vExtend, jbD, wEnumC, wgStar, wNever, vStrW, wordS, isWord, vIntW, frzAs, frzA, frzD, frzDs, callD, wCallD, vShowD, vNumIn, vSpelled, vJobText, vRowsIn, tupT_map, catL, newL_map, prsL_snoc, shX_pair, shX_prs, anyX_prs, vRingF, vNeedP, taskD, vTakeTask, vTakeNeed, vTakeRooms, neW_nt, neW_rt, neW_rn, none_ints, vTakeRow, vCheckJobT, vReadJob, intsX_nil, shX_ints, shX_nil, numS_fold, vLText, Option.bind_some, getX_app, atN_last, vNotB, vIsJobT, vShow, vGood60])

section
variable {P : Program} {w : World} {K : PySem.W.Frag} {mg : Str → Option Value} {base : Heap}
theorem FnG.imp {P : Program} {w : World} {K : PySem.W.Frag} {mg : Str → Option Value} {base : Heap} {CX : CXT} {k : Nat} {f : Addr} {fd : FuncData} {ps : List Str} {sp sp' : Sp} (h : FnG P w K mg base CX k f fd ps sp) (g : ∀ vs H Q E, sp' vs H Q E → sp vs H Q E) : FnG P w K mg base CX k f fd ps sp' :=
  ⟨fun vs H Q E p => h.len vs H Q E (g _ _ _ _ p), fun A outer s H args us vs Q E a b c d e p => h.run A outer s H args us vs Q E a b c d e (g _ _ _ _ p)⟩
def vLaw : VSp := fun ts S _ q => match ts, S with
  | [.scr ns], [] => ns.length ≤ 63 ∧ q (.fz (.bool true)) []
  | _, _ => False
instance : VLen vLaw 1 := ⟨fun {ts S vx q} h => by
  unfold vLaw at h
  split at h
  · rfl
  · exact h.elim⟩
theorem get_end {α : Type} (xs : List α) (x : α) : (xs ++ [x])[xs.length]? = some x := List.getElem?_concat_length
theorem getD_end {α : Type} (xs : List α) (x d : α) : (xs ++ [x]).getD xs.length d = x := by
  rw [List.getD_eq_getElem?_getD, get_end]
  rfl
theorem beq_len (n : Nat) : (n == n) = true := beq_self_eq_true n
theorem vj_nil : VJ [] [] [] [] := ⟨by decide, rfl, fun x hx => (by cases hx), fun x hx => (by cases hx), by decide, List.nodup_nil, ⟨fun t => t, fun z hz => (by cases hz)⟩, ⟨by decide, fun x hx => (by cases hx)⟩⟩
theorem vj_zero : VJ [] [] [] [0] := ⟨by decide, rfl, fun x hx => (by cases hx), fun x hx => (by cases hx), by decide, List.nodup_nil, ⟨fun t => t, fun z hz => (by cases hz)⟩, ⟨by decide, fun x hx => by rw [List.mem_singleton.mp hx]; decide⟩⟩
theorem vj_three : VJ [40, 1, 10] [none, some 40, some 0] [(1, 0), (2, 0)] ([3, 0, 2] ++ List.replicate 17 1) := by
  refine ⟨by decide, rfl, by decide, fun x hx => ?_, by decide, by decide, ⟨fun t => 2 - t, by decide⟩, ⟨by decide, by decide⟩⟩
  simp only [List.mem_cons, List.not_mem_nil, or_false, Option.some.injEq, reduceCtorEq, false_or] at hx
  rcases hx with rfl | rfl <;> decide
local macro_rules | `(tactic| walk_at "v") => `(tactic| simp only [wSeq, wNext, wBreak, wCont, wDrop, wRet, wRetN, wIfS, wAsg, wgName, wgNil, wgCons, wgTup, wgUnl, wPar, wVar, wC, wB, wAnd, wOr, wNot, wAndV, wOrV, wNotV, wIf, wOp, wUn, wCB, wNil, wCons, wIsN, wNotN, isNon, wCall, wCall0, wRng1, wRng2, wIList, wITup, wEnum, wZip, wYes, wLst, wLstN, wTup, wSl, vPart, vNoPart, wIsi, wTru, vTru, wChain, wBM, wBM0, wgSub, wAug, vI0, vI0b, vI, vNeg, vAdd, vEqW, datOf, eqS, id, vIsB, vIx, vSl, vLen, vIsi, tyT, tyD, itemsA, itemsT, seqOf, datsOf, vAll, vAny, vSum, vMax2, vMin2, vMaxL, vMinL, vList, vInt1, vAppend, vSet, isKd, allD, startG, newL, newLN, tupT, itemsV, List.getElem?_cons_zero, List.getElem?_cons_succ, List.set_cons_zero, List.set_cons_succ, List.length_cons, List.length_nil, List.map_cons, List.map_nil, ifV_true, ifV_false, List.nil_append, List.cons_append, reduceCtorEq, Bool.not_true, Bool.not_false, true_and, and_true, decide_true, decide_false, retD, retX, frzT, frzTs, clo, List.take_zero, List.take_succ_cons, List.take_nil, List.not_mem_nil, false_imp_iff, implies_true, callV, callJ, jsOf, rfsTs, rfsT, rfsO, addN, stepN, okJs, renTs, renT, renO, outN, backS, putAll, idxB, inB, renTs_fz, rfsTs_fz, List.append_nil, List.drop_nil, List.drop_zero, List.foldl_nil, List.foldl_cons, List.nodup_nil, kb_NoneType_int, kb_NoneType_bool, kb_NoneType_list, kb_NoneType_tuple, kb_NoneType_str, kb_bool_int, kb_bool_bool, kb_bool_list, kb_bool_tuple, kb_bool_str, kb_int_int, kb_int_bool, kb_int_list, kb_int_tuple, kb_int_str, kb_str_int, kb_str_bool, kb_str_list, kb_str_tuple, kb_str_str, kb_list_int, kb_list_bool, kb_list_list, kb_list_tuple, kb_list_str, kb_tuple_int, kb_tuple_bool, kb_tuple_list, kb_tuple_tuple, kb_tuple_str, kb_dict_int, kb_dict_bool, kb_dict_list, kb_dict_tuple, kb_dict_str, nodB, subL, okO, cloL, Bool.or_false, Bool.true_or, Bool.or_true, Bool.false_or, eq_self, reduceIte, Int.reduceLE, Int.reduceLT, Int.reduceAdd, Int.reduceSub, Int.reduceNeg, Int.reduceToNat, Nat.reduceAdd, Nat.reduceSub, Nat.reduceLT, Nat.reduceLeDiff, Nat.reduceEqDiff, Int.reduceEq, Int.cast_ofNat_Int, atN_nat, plN_nat, rfsTs_append, renTs_append, Option.map_some, Option.map_none, List.drop_succ_cons, fzs_snoc, fzs_cat, fzs_ins, fzs_set, Int.toNat_natCast, List.length_map, List.length_append, allD_map, allD_append, frzTs_fz, atN_map, List.getD_cons_zero, List.getD_cons_succ, beq_self_eq_true, Nat.reduceBEq, Bool.false_eq_true, vInsert, vInW, datsA, flatD, intsL_flat, intsL_any, natsL_flat, natsL_any, lcR_map, vB1, vB2, vMixed, vTake, pl, vPile, vOrder, vRoom1, vHours, vNeeds, vJob, repL, atX_0, atX_1, atX_2, atX_3, vExtend, jbD, wEnumC, wgStar, wNever, vStrW, wordS, isWord, vIntW, frzAs, frzA, frzD, frzDs, callD, wCallD, vShowD, vNumIn, vSpelled, vJobText, vRowsIn, tupT_map, catL, newL_map, prsL_snoc, shX_pair, shX_prs, anyX_prs, vRingF, vNeedP, taskD, vTakeTask, vTakeNeed, vTakeRooms, neW_nt, neW_rt, neW_rn, none_ints, vTakeRow, vCheckJobT, vReadJob, intsX_nil, shX_ints, shX_nil, numS_fold, vLText, Option.bind_some, getX_app, atN_last, vNotB, vIsJobT, vShow, vGood60, get_end, getD_end, set_last, beq_len, Nat.add_zero])
theorem okl_lawV {fd : FuncData} (F : FunD K dd_law.name dd_law.qual dd_law.params dd_law.body dd_law.scope (dd_law.dvs K) (dd_law.kws K) (He.fAd K dd_law.at_) fd) (T : Env K mg) : FnG P w K mg base CX0 10 (He.fAd K dd_law.at_) fd ["_law_script"] (liftV K vLaw) := by
  obtain ⟨fd__law_good, D__law_good, g__law_good, k__law_good, b__law_good, G__law_good⟩ := ok__law_good (P := P) (w := w) (base := base) T
  obtain ⟨fd__law_job, D__law_job, g__law_job, k__law_job, b__law_job, G__law_job⟩ := ok__law_job (P := P) (w := w) (base := base) T
  obtain ⟨fd__law_pile, D__law_pile, g__law_pile, k__law_pile, b__law_pile, G__law_pile⟩ := ok__law_pile (P := P) (w := w) (base := base) T
  refine funD_okG F sc_law (fun vs H Q E h => ?_) (fun cdv A outer s H vs Q E hr hgd h => ?_)
  · obtain ⟨F0, α, S, ts, q, vx, hs, rr, xl, ql, h⟩ := h
    rw [rr.len]
    exact VLen.len h
  · obtain ⟨F0, α, S, ts, q, vx, hs, rr, xl, ql, h⟩ := h
    refine ⟨_, PSs.nox (pss_cons (ps_for PassesOwn.never rfl (pi_range1 (by rfl) (T.fr 40 _ rfl) (pa_cons (pe_callB (r := rMax2) (call_maxX rfl) (by rfl) (T.fr 45 _ rfl) (by decide +kernel) (pa_cons pe_int (pa_cons (pe_callB (r := rMin2) (call_minX rfl) (by rfl) (T.fr 44 _ rfl) (by decide +kernel) (pa_cons (pe_callB (r := rLenX K) call_lenX (by rfl) (T.fr 36 _ rfl) (by decide +kernel) (pa_cons (pv 0) pa_nil)) (pa_cons pe_int pa_nil))) pa_nil))) pa_nil)) (pg_name (i := 1) sc_law.nd rfl (Or.inl rfl)) (pss_one (ps_if (pt_not (pt_truK (K := K) rfl (pt_tru (pe_callG hgd G__law_good (hr.mono (by decide)) (by rfl) g__law_good k__law_good b__law_good .nil pass0 (pa_cons (pe_call G__law_job (hr.mono (by decide)) (by rfl) g__law_job k__law_job b__law_job .nil pass0 (pa_cons (pe_call G__law_pile (hr.mono (by decide)) (by rfl) g__law_pile k__law_pile b__law_pile .nil pass0 (pa_cons (pv 0) (pa_cons (pv 1) pa_nil))) (pa_cons pe_int (pa_cons pe_int pa_nil)))) pa_nil))))) (pss_one (ps_ret pe_bl)) pss_nil)))
      (pss_cons (ps_if (PW.pt (pw_or (pt_not (pt_truK (K := K) rfl (pt_tru (pe_callG hgd G__law_good (hr.mono (by decide)) (by rfl) g__law_good k__law_good b__law_good .nil pass0 (pa_cons (pe_tup (pa_cons (pe_lst pa_nil) (pa_cons (pe_lst pa_nil) (pa_cons (pe_lst pa_nil) (pa_cons (pe_lst pa_nil) pa_nil))))) pa_nil))))) (pw_or1 (pt_not (pt_truK (K := K) rfl (pt_tru (pe_callG hgd G__law_good (hr.mono (by decide)) (by rfl) g__law_good k__law_good b__law_good .nil pass0 (pa_cons (pe_tup (pa_cons (pe_lst pa_nil) (pa_cons (pe_lst pa_nil) (pa_cons (pe_lst pa_nil) (pa_cons (pe_lst (pa_cons pe_int pa_nil)) pa_nil))))) pa_nil)))))))) (pss_one (ps_ret pe_bl)) pss_nil)
      (pss_one (ps_ret (pe_callG hgd G__law_good (hr.mono (by decide)) (by rfl) g__law_good k__law_good b__law_good .nil pass0 (pa_cons (pe_tup (pa_cons (pe_lst (pa_cons pe_int (pa_cons pe_int (pa_cons pe_int pa_nil)))) (pa_cons (pe_lst (pa_cons pe_non (pa_cons pe_int (pa_cons pe_int pa_nil)))) (pa_cons (pe_lst (pa_cons (pe_tup (pa_cons pe_int (pa_cons pe_int pa_nil))) (pa_cons (pe_tup (pa_cons pe_int (pa_cons pe_int pa_nil))) pa_nil))) (pa_cons (pe_op (r := rAddX K) op_addX (pe_lst (pa_cons pe_int (pa_cons pe_int (pa_cons pe_int pa_nil)))) (pe_op (r := rRepX) op_repX (pe_lst (pa_cons pe_int pa_nil)) pe_int)) pa_nil))))) pa_nil)))))), vbody (N := ["_law_script", "_law_k"]) hs rr xl ql ?_⟩
    unfold vLaw at h
    split at h
    · rename_i ns
      obtain ⟨hn, hq⟩ := h
      refine vcut (fun Γ S => True) (fun k hk => ?_) (fun Γ S _ => ?_)
      · unfold wFor
        walk_at "v"
        refine ⟨by split <;> split <;> omega, by split <;> split <;> omega, forV_inv (fun i Γ S => ∃ y1, Γ = [some (.scr ns), y1]) ⟨_, rfl⟩ (fun _ _ _ _ _ => trivial) (fun i v Γ S k2 hv2 hI hk2 => ?_) (fun Γ S hI => hk _ _ trivial)⟩
        obtain ⟨y1, rfl⟩ := hI
        obtain ⟨hi, rfl⟩ := rng0_get hv2
        walk_at "v"
        exact ⟨hn, by omega, fun x fs ds zs rs x' hv _ _ _ => ⟨fs, ds, zs, rs, rfl, hv, hk2 _ _ ⟨_, rfl⟩⟩⟩
      refine vifS fun k hk => ?_
      walk_at "v"
      refine ⟨[], [], [], [], rfl, vj_nil, [], [], [], [0], rfl, vj_zero, hk false _ (ifV.F ?_)⟩
      clear hk
      walk_at "v"
      rw [show allD (List.replicate 17 [DP.T.fz (.int 1)]).flatten = some (List.replicate 17 (.int 1)) from rfl]
      exact ⟨by decide, by decide, [40, 1, 10], [none, some 40, some 0], [(1, 0), (2, 0)], [3, 0, 2] ++ List.replicate 17 1, rfl, vj_three, hq⟩
    · exact h.elim
def spLaw (K : PySem.W.Frag) : Sp := fun vs H Q _ => ∃ (a : Addr) (ns : List Int), vs = [.ref a] ∧ SqL K H a (ns.map V.int) ∧ ns.length ≤ 63 ∧ ∀ H', Q (.bl true) H'
theorem okl_law {fd : FuncData} (F : FunD K dd_law.name dd_law.qual dd_law.params dd_law.body dd_law.scope (dd_law.dvs K) (dd_law.kws K) (He.fAd K dd_law.at_) fd) (T : Env K mg) : FnG P w K mg base CX0 10 (He.fAd K dd_law.at_) fd ["_law_script"] (spLaw K) := (okl_lawV F T).imp fun vs H Q E h => by
  obtain ⟨a, ns, rfl, hs, hn, hq⟩ := h
  refine ⟨H, [], [], [.scr ns], fun r _ => r = .fz (.bool true), fun _ _ => False, ⟨Same.rfl', rfl, List.nodup_nil, fun a h => (by cases h), fun j a o h => (by cases h)⟩, .cons (.scr hs) .nil, fun _ _ _ _ _ _ _ _ _ _ z => z.elim, fun F' α' H' v r S' st hs' rv k => ?_, hn, rfl⟩
  subst k
  rw [boolV rv]
  exact hq H'

end
theorem facts {P : Program} {w : World} {K : PySem.W.Frag} {h : Heap} {mg : Str → Option Value} {f : Addr} (X : K.In h) (G : h.Ns mainGlobals mg) (hfa : mg ("law" : Str) = some (.ref f)) (c : He.SaysD fa fn K) :
    ∃ fd : FuncData, (∀ (s : Shared) (v : Value), BindsTo s fd ⟨[v], []⟩ [("_law_script", v)]) ∧ ∀ base : Heap, K.In base → base.Ns mainGlobals mg → FnG P w K mg base CX0 10 f fd ["_law_script"] (spLaw K) := by
  have T : Env K mg := ⟨c, fun i x e => He.glo_ok X G (c.fact i e), fun i x e => He.free_ok X G (c.fact i e), fun i x n e => He.int_ok X G (c.fact i e)⟩
  obtain ⟨fd, F⟩ := c.def_ 31 (d := dd_law) rfl
  have e := hfa.symm.trans (T.gl 31 "law" rfl)
  cases e
  have b := FunD.bindsA (ps := ["_law_script"]) F fun _ _ _ _ _ _ us hl => match us, hl with | [_], _ => rfl
  refine ⟨fd, fun s v => b s [v] rfl, fun base _ _ => ?_⟩
  exact okl_law F T
end DP
open PySem PySem.W PySem.Calls PyProof.Rows
set_option maxRecDepth 100000 in
set_option maxHeartbeats 0 in
theorem PySem.Challenge.cw_duepairs_k60_jobs_written_holds : PySem.Challenge.rw_duepairs_k60_jobs_written.Holds := by
  w_on; o_law
  refine HandSHeadRun.head_any (r := OpenLaw.row PySem.Challenge.rw_duepairs_k60_jobs_written) (q := view (OpenLaw.row PySem.Challenge.rw_duepairs_k60_jobs_written).prog [41]) (H := DP.hk) (ob := DP.ob) (M := 40000) (loose := DP.loose) (d := HandSHeadRun.topDef (OpenLaw.row PySem.Challenge.rw_duepairs_k60_jobs_written).prog 41) (kwd := []) DP.ob_eq
    (by kernel_rfl) (fun s => by kernel_rfl) DP.run (by kernel_rfl) (by kernel_rfl) (by kernel_rfl) (by rfl) (by first | assumption | decide +kernel) (by decide +kernel) ⟨rfl, rfl, rfl, rfl, rfl, by decide +kernel⟩ ?hw ?hc
  case hw => w_witness2
  case hc =>
    refine DP.walk_ofG (l := PySem.Challenge.rw_duepairs_k60_jobs_written) (n := 63) (k := 10) (x := "_law_script") (CX := L2.CX0) rfl (by decide) (by kernel_rfl) ⟨rfl, by decide, by decide⟩ ?F (fun _ _ _ _ z => z)
    intro w mg fa h Y G hmg0
    obtain ⟨K, KX, c⟩ := Y
    have hmg : mg ("law" : PySem.Str) = some (.ref fa) := by
      have e : (HandSHeadRun.topDef (OpenLaw.row PySem.Challenge.rw_duepairs_k60_jobs_written).prog 41).name = ("law" : PySem.Str) := by kernel_rfl
      rw [← e]
      exact hmg0
    obtain ⟨fd, hb, hF⟩ := DP.facts (P := (PySem.Challenge.rw_duepairs_k60_jobs_written).prog) (w := w) KX G hmg c
    exact ⟨K, fd, DP.spLaw K, KX, hb, fun H a ns hl _ hS => ⟨a, ns, rfl, hS, hl, fun _ => rfl⟩, hF⟩

