import PyProof.Rows.All
import Wide.All
import OpenK.AllK
import Wide.FinOn
import KE.KStateDown
import Lean
import HandS.ForMost
import HandS.More
import HandS.SortInts
import HandS.IsInst
import HandS.Wide
import HandS.TupSets
import HandS.Defaults
import HandS.WordsExc
import HandS.Head0
import HandS.Head1
import HandS.Head2
import HandS.HeadEnd
import HandS.HeadHook1
import HandS.HeadHook2
import HandS.Conv
import PySem.Challenge.RW_duepairs_k02_behind_and_room
import PyProof.ReprRoads
import PyProof.Rows.ReprShort
import PyProof.ReprLen
set_option Elab.async false
set_option linter.all false
set_option maxRecDepth 100000
set_option maxHeartbeats 4000000
namespace DP
open PySem PySem.Spec PyProof.Rows L2
/-! the text by places -/
def topS (i : Nat) : Stmt := PySem.Challenge.pw_duepairs_k02_behind_and_room.main.body.getD i (.Pass ⟨0, 0, 0, 0⟩)
abbrev s_is_whole : Stmt := topS 6
abbrev N_is_whole : List Str := ["thing"]
theorem sc_is_whole : FnScope N_is_whole ["thing"] (defScope s_is_whole) := ⟨rfl, rfl, rfl, by decide +kernel, rfl, by decide +kernel, by decide +kernel⟩
def dd_is_whole : He.DefD := ⟨("is_whole", none), "is_whole", "is_whole", defArgs s_is_whole, defBody s_is_whole, defScope s_is_whole, [], []⟩
abbrev s_is_whole_from : Stmt := topS 7
abbrev N_is_whole_from : List Str := ["least", "thing"]
theorem sc_is_whole_from : FnScope N_is_whole_from ["least", "thing"] (defScope s_is_whole_from) := ⟨rfl, rfl, rfl, by decide +kernel, rfl, by decide +kernel, by decide +kernel⟩
def dd_is_whole_from : He.DefD := ⟨("is_whole_from", none), "is_whole_from", "is_whole_from", defArgs s_is_whole_from, defBody s_is_whole_from, defScope s_is_whole_from, [], []⟩
abbrev s_is_hour : Stmt := topS 8
abbrev N_is_hour : List Str := ["thing"]
theorem sc_is_hour : FnScope N_is_hour ["thing"] (defScope s_is_hour) := ⟨rfl, rfl, rfl, by decide +kernel, rfl, by decide +kernel, by decide +kernel⟩
def dd_is_hour : He.DefD := ⟨("is_hour", none), "is_hour", "is_hour", defArgs s_is_hour, defBody s_is_hour, defScope s_is_hour, [], []⟩
abbrev s_is_due : Stmt := topS 9
abbrev N_is_due : List Str := ["thing"]
theorem sc_is_due : FnScope N_is_due ["thing"] (defScope s_is_due) := ⟨rfl, rfl, rfl, by decide +kernel, rfl, by decide +kernel, by decide +kernel⟩
def dd_is_due : He.DefD := ⟨("is_due", none), "is_due", "is_due", defArgs s_is_due, defBody s_is_due, defScope s_is_due, [], []⟩
abbrev s_is_job : Stmt := topS 13
abbrev N_is_job : List Str := ["thing", "frees", "dues", "needs", "rooms", "part", "free", "due", "places"]
theorem sc_is_job : FnScope N_is_job ["thing"] (defScope s_is_job) := ⟨rfl, rfl, rfl, by decide +kernel, rfl, by decide +kernel, by decide +kernel⟩
def dd_is_job : He.DefD := ⟨("is_job", none), "is_job", "is_job", defArgs s_is_job, defBody s_is_job, defScope s_is_job, [], []⟩
abbrev s_is_room : Stmt := topS 14
abbrev N_is_room : List Str := ["thing"]
theorem sc_is_room : FnScope N_is_room ["thing"] (defScope s_is_room) := ⟨rfl, rfl, rfl, by decide +kernel, rfl, by decide +kernel, by decide +kernel⟩
def dd_is_room : He.DefD := ⟨("is_room", none), "is_room", "is_room", defArgs s_is_room, defBody s_is_room, defScope s_is_room, [], []⟩
abbrev s_is_task : Stmt := topS 15
abbrev N_is_task : List Str := ["many", "thing"]
theorem sc_is_task : FnScope N_is_task ["many", "thing"] (defScope s_is_task) := ⟨rfl, rfl, rfl, by decide +kernel, rfl, by decide +kernel, by decide +kernel⟩
def dd_is_task : He.DefD := ⟨("is_task", none), "is_task", "is_task", defArgs s_is_task, defBody s_is_task, defScope s_is_task, [], []⟩
abbrev s_is_need : Stmt := topS 16
abbrev N_is_need : List Str := ["many", "thing", "a", "b"]
theorem sc_is_need : FnScope N_is_need ["many", "thing"] (defScope s_is_need) := ⟨rfl, rfl, rfl, by decide +kernel, rfl, by decide +kernel, by decide +kernel⟩
def dd_is_need : He.DefD := ⟨("is_need", none), "is_need", "is_need", defArgs s_is_need, defBody s_is_need, defScope s_is_need, [], []⟩
abbrev s_are_needs : Stmt := topS 17
abbrev N_are_needs : List Str := ["many", "things", "thing"]
theorem sc_are_needs : FnScope N_are_needs ["many", "things"] (defScope s_are_needs) := ⟨rfl, rfl, rfl, by decide +kernel, rfl, by decide +kernel, by decide +kernel⟩
def dd_are_needs : He.DefD := ⟨("are_needs", none), "are_needs", "are_needs", defArgs s_are_needs, defBody s_are_needs, defScope s_are_needs, [], []⟩
abbrev s_followers_of : Stmt := topS 18
abbrev N_followers_of : List Str := ["many", "needs", "followers", "a", "b", "_"]
theorem sc_followers_of : FnScope N_followers_of ["many", "needs"] (defScope s_followers_of) := ⟨rfl, rfl, rfl, by decide +kernel, rfl, by decide +kernel, by decide +kernel⟩
def dd_followers_of : He.DefD := ⟨("followers_of", none), "followers_of", "followers_of", defArgs s_followers_of, defBody s_followers_of, defScope s_followers_of, [], []⟩
abbrev s_has_ring : Stmt := topS 19
abbrev N_has_ring : List Str := ["many", "needs", "followers", "waits", "_", "b", "cleared", "at", "a", "t"]
theorem sc_has_ring : FnScope N_has_ring ["many", "needs"] (defScope s_has_ring) := ⟨rfl, rfl, rfl, by decide +kernel, rfl, by decide +kernel, by decide +kernel⟩
def dd_has_ring : He.DefD := ⟨("has_ring", none), "has_ring", "has_ring", defArgs s_has_ring, defBody s_has_ring, defScope s_has_ring, [], []⟩
abbrev s_check_job : Stmt := topS 20
abbrev N_check_job : List Str := ["job"]
theorem sc_check_job : FnScope N_check_job ["job"] (defScope s_check_job) := ⟨rfl, rfl, rfl, by decide +kernel, rfl, by decide +kernel, by decide +kernel⟩
def dd_check_job : He.DefD := ⟨("check_job", none), "check_job", "check_job", defArgs s_check_job, defBody s_check_job, defScope s_check_job, [], []⟩
abbrev s_check_task : Stmt := topS 21
abbrev N_check_task : List Str := ["job", "t"]
theorem sc_check_task : FnScope N_check_task ["job", "t"] (defScope s_check_task) := ⟨rfl, rfl, rfl, by decide +kernel, rfl, by decide +kernel, by decide +kernel⟩
def dd_check_task : He.DefD := ⟨("check_task", none), "check_task", "check_task", defArgs s_check_task, defBody s_check_task, defScope s_check_task, [], []⟩
abbrev s_is_behind : Stmt := topS 22
abbrev N_is_behind : List Str := ["job", "a", "b"]
theorem sc_is_behind : FnScope N_is_behind ["job", "a", "b"] (defScope s_is_behind) := ⟨rfl, rfl, rfl, by decide +kernel, rfl, by decide +kernel, by decide +kernel⟩
def dd_is_behind : He.DefD := ⟨("is_behind", none), "is_behind", "is_behind", defArgs s_is_behind, defBody s_is_behind, defScope s_is_behind, [], []⟩
abbrev s_tasks_behind : Stmt := topS 23
abbrev N_tasks_behind : List Str := ["job", "first", "followers", "found", "todo", "a", "b"]
theorem sc_tasks_behind : FnScope N_tasks_behind ["job", "first"] (defScope s_tasks_behind) := ⟨rfl, rfl, rfl, by decide +kernel, rfl, by decide +kernel, by decide +kernel⟩
def dd_tasks_behind : He.DefD := ⟨("tasks_behind", none), "tasks_behind", "tasks_behind", defArgs s_tasks_behind, defBody s_tasks_behind, defScope s_tasks_behind, [], []⟩
abbrev s_room : Stmt := topS 24
abbrev N_room : List Str := ["job", "s", "e"]
theorem sc_room : FnScope N_room ["job", "s", "e"] (defScope s_room) := ⟨rfl, rfl, rfl, by decide +kernel, rfl, by decide +kernel, by decide +kernel⟩
def dd_room : He.DefD := ⟨("room", none), "room", "room", defArgs s_room, defBody s_room, defScope s_room, [], []⟩
abbrev s_room_within : Stmt := topS 25
abbrev N_room_within : List Str := ["rooms", "s", "e", "hours_behind"]
theorem sc_room_within : FnScope N_room_within ["rooms", "s", "e"] (defScope s_room_within) := ⟨rfl, rfl, rfl, by decide +kernel, rfl, by decide +kernel, by decide +kernel⟩
def dd_room_within : He.DefD := ⟨("room_within", none), "room_within", "room_within", defArgs s_room_within, defBody s_room_within, defScope s_room_within, [], []⟩
abbrev s__law_mixed : Stmt := topS 27
abbrev N__law_mixed : List Str := ["_law_cell", "_law_k", "_law_number"]
theorem sc__law_mixed : FnScope N__law_mixed ["_law_cell", "_law_k"] (defScope s__law_mixed) := ⟨rfl, rfl, rfl, by decide +kernel, rfl, by decide +kernel, by decide +kernel⟩
def dd__law_mixed : He.DefD := ⟨("_law_mixed", none), "_law_mixed", "_law_mixed", defArgs s__law_mixed, defBody s__law_mixed, defScope s__law_mixed, [], []⟩
abbrev s__law_pile : Stmt := topS 28
abbrev N__law_pile : List Str := ["_law_script", "_law_k", "_law_cell", "_law_found", "_law_j"]
theorem sc__law_pile : FnScope N__law_pile ["_law_script", "_law_k"] (defScope s__law_pile) := ⟨rfl, rfl, rfl, by decide +kernel, rfl, by decide +kernel, by decide +kernel⟩
def dd__law_pile : He.DefD := ⟨("_law_pile", none), "_law_pile", "_law_pile", defArgs s__law_pile, defBody s__law_pile, defScope s__law_pile, [], []⟩
abbrev s__law_take : Stmt := topS 29
abbrev N__law_take : List Str := ["_law_pile_here", "_law_size", "_law_digit"]
theorem sc__law_take : FnScope N__law_take ["_law_pile_here", "_law_size"] (defScope s__law_take) := ⟨rfl, rfl, rfl, by decide +kernel, rfl, by decide +kernel, by decide +kernel⟩
def dd__law_take : He.DefD := ⟨("_law_take", none), "_law_take", "_law_take", defArgs s__law_take, defBody s__law_take, defScope s__law_take, [], []⟩
abbrev s__law_order : Stmt := topS 30
abbrev N__law_order : List Str := ["_law_pile_here", "_law_many", "_law_order_here", "_law_k"]
theorem sc__law_order : FnScope N__law_order ["_law_pile_here", "_law_many"] (defScope s__law_order) := ⟨rfl, rfl, rfl, by decide +kernel, rfl, by decide +kernel, by decide +kernel⟩
def dd__law_order : He.DefD := ⟨("_law_order", none), "_law_order", "_law_order", defArgs s__law_order, defBody s__law_order, defScope s__law_order, [], []⟩
abbrev s__law_room : Stmt := topS 31
abbrev N__law_room : List Str := ["_law_rooms", "_law_hour"]
theorem sc__law_room : FnScope N__law_room ["_law_rooms", "_law_hour"] (defScope s__law_room) := ⟨rfl, rfl, rfl, by decide +kernel, rfl, by decide +kernel, by decide +kernel⟩
def dd__law_room : He.DefD := ⟨("_law_room", none), "_law_room", "_law_room", defArgs s__law_room, defBody s__law_room, defScope s__law_room, [], []⟩
abbrev s__law_hours : Stmt := topS 32
abbrev N__law_hours : List Str := ["_law_pile_here", "_law_order_here", "_law_rooms", "_law_hours_here", "_law_hour", "_law_left", "_law_task"]
theorem sc__law_hours : FnScope N__law_hours ["_law_pile_here", "_law_order_here", "_law_rooms"] (defScope s__law_hours) := ⟨rfl, rfl, rfl, by decide +kernel, rfl, by decide +kernel, by decide +kernel⟩
def dd__law_hours : He.DefD := ⟨("_law_hours", none), "_law_hours", "_law_hours", defArgs s__law_hours, defBody s__law_hours, defScope s__law_hours, [], []⟩
abbrev s__law_needs : Stmt := topS 33
abbrev N__law_needs : List Str := ["_law_pile_here", "_law_order_here", "_law_hours_here", "_law_loose", "_law_dense", "_law_needs_here", "_law_j", "_law_k", "_law_a", "_law_b"]
theorem sc__law_needs : FnScope N__law_needs ["_law_pile_here", "_law_order_here", "_law_hours_here"] (defScope s__law_needs) := ⟨rfl, rfl, rfl, by decide +kernel, rfl, by decide +kernel, by decide +kernel⟩
def dd__law_needs : He.DefD := ⟨("_law_needs", none), "_law_needs", "_law_needs", defArgs s__law_needs, defBody s__law_needs, defScope s__law_needs, [], []⟩
abbrev s__law_job : Stmt := topS 34
abbrev N__law_job : List Str := ["_law_pile_here", "_law_most", "_law_wide", "_law_rooms", "_law_order_here", "_law_hours_here", "_law_needs_here", "_law_frees", "_law_slack", "_law_dues", "_law_hour", "_law_due", "_law_k"]
theorem sc__law_job : FnScope N__law_job ["_law_pile_here", "_law_most", "_law_wide"] (defScope s__law_job) := ⟨rfl, rfl, rfl, by decide +kernel, rfl, by decide +kernel, by decide +kernel⟩
def dd__law_job : He.DefD := ⟨("_law_job", none), "_law_job", "_law_job", defArgs s__law_job, defBody s__law_job, defScope s__law_job, [], []⟩
abbrev s__law_behind : Stmt := topS 35
abbrev N__law_behind : List Str := ["_law_needs_here", "_law_task", "_law_found", "_law_left", "_law_one", "_law_a", "_law_b"]
theorem sc__law_behind : FnScope N__law_behind ["_law_needs_here", "_law_task"] (defScope s__law_behind) := ⟨rfl, rfl, rfl, by decide +kernel, rfl, by decide +kernel, by decide +kernel⟩
def dd__law_behind : He.DefD := ⟨("_law_behind", none), "_law_behind", "_law_behind", defArgs s__law_behind, defBody s__law_behind, defScope s__law_behind, [], []⟩
abbrev s__law_sum : Stmt := topS 36
abbrev N__law_sum : List Str := ["_law_rooms", "_law_first", "_law_last", "_law_found", "_law_hour"]
theorem sc__law_sum : FnScope N__law_sum ["_law_rooms", "_law_first", "_law_last"] (defScope s__law_sum) := ⟨rfl, rfl, rfl, by decide +kernel, rfl, by decide +kernel, by decide +kernel⟩
def dd__law_sum : He.DefD := ⟨("_law_sum", none), "_law_sum", "_law_sum", defArgs s__law_sum, defBody s__law_sum, defScope s__law_sum, [], []⟩
abbrev s__law_good : Stmt := topS 37
abbrev N__law_good : List Str := ["_law_pile_here", "_law_job_here", "_law_kept", "_law_tasks", "_law_task", "_law_there", "_law_found", "_law_turn", "_law_first", "_law_last", "_law_other", "_law_one"]
theorem sc__law_good : FnScope N__law_good ["_law_pile_here", "_law_job_here"] (defScope s__law_good) := ⟨rfl, rfl, rfl, by decide +kernel, rfl, by decide +kernel, by decide +kernel⟩
def dd__law_good : He.DefD := ⟨("_law_good", none), "_law_good", "_law_good", defArgs s__law_good, defBody s__law_good, defScope s__law_good, [], []⟩
abbrev s_law : Stmt := topS 38
abbrev N_law : List Str := ["_law_script", "_law_k", "_law_pile_here"]
theorem sc_law : FnScope N_law ["_law_script"] (defScope s_law) := ⟨rfl, rfl, rfl, by decide +kernel, rfl, by decide +kernel, by decide +kernel⟩
def dd_law : He.DefD := ⟨("law", none), "law", "law", defArgs s_law, defBody s_law, defScope s_law, [], []⟩
def fn : List He.DefD := ([dd_is_whole, dd_is_whole_from, dd_is_hour, dd_is_due, dd_is_job, dd_is_room, dd_is_task, dd_is_need, dd_are_needs, dd_followers_of, dd_has_ring, dd_check_job, dd_check_task, dd_is_behind, dd_tasks_behind, dd_room, dd_room_within, dd__law_mixed, dd__law_pile, dd__law_take] : List He.DefD) ++ ([dd__law_order, dd__law_room, dd__law_hours, dd__law_needs, dd__law_job, dd__law_behind, dd__law_sum, dd__law_good, dd_law] : List He.DefD)
def fa : List He.Fa := ([.glo "is_whole", .glo "is_whole_from", .glo "is_hour", .glo "is_due", .glo "is_job", .glo "is_room", .glo "is_task", .glo "is_need", .glo "are_needs", .glo "followers_of", .glo "has_ring", .glo "check_job", .glo "check_task", .glo "is_behind", .glo "tasks_behind", .glo "room", .glo "room_within", .glo "_law_mixed", .glo "_law_pile", .glo "_law_take"] : List He.Fa) ++ ([.glo "_law_order", .glo "_law_room", .glo "_law_hours", .glo "_law_needs", .glo "_law_job", .glo "_law_behind", .glo "_law_sum", .glo "_law_good", .glo "law", .free "isinstance", .free "int", .free "bool", .free "all", .free "len", .free "tuple", .free "list", .free "set", .free "range", .free "sorted", .free "max"] : List He.Fa) ++ ([.free "sum", .free "min", .free "str", .int "MOST_ROOM" 3, .int "ROOM_BEHIND" 2] : List He.Fa)
/-- what the top has left, as the walk asks it -/
structure Env (K : PySem.W.Frag) (mg : Str → Option Value) : Prop where
  c : He.SaysD fa fn K
  gl : ∀ (i : Nat) (x : Str), fa[i]? = some (.glo x) → mg x = some (.ref (He.ga K x))
  fr : ∀ (i : Nat) (x : Str), fa[i]? = some (.free x) → mg x = none
  it : ∀ (i : Nat) (x : Str) (n : Int), fa[i]? = some (.int x n) → ∃ t, mg x = some (.int n t)
/-- the def that the module's name x stands for keeps its promise -/
def Ok (P : Program) (w : World) (K : PySem.W.Frag) (mg : Str → Option Value) (base : Heap) (CX : CXT) (D : He.DefD) (x : Str) (k : Nat) (ps : List Str) (sp : Sp) : Prop :=
  ∃ fd : FuncData, FunD K D.name D.qual D.params D.body D.scope (D.dvs K) (D.kws K) (He.fAd K D.at_) fd ∧ mg x = some (.ref (He.ga K x)) ∧ PySem.W.keepIn K (.ref (He.ga K x)) = true ∧ Binds K fd ps [] ∧ FnOk P w K mg base CX k (He.ga K x) fd ps sp

/-! kinds of values -/
inductive Kd (H : Hp) : V → String → Prop where
  | non : Kd H .non "NoneType"
  | bl (b : Bool) : Kd H (.bl b) "bool"
  | int (i : Int) : Kd H (.int i) "int"
  | str (x : Str) : Kd H (.str x) "str"
  | lst {a : Addr} {xs : List V} (e : H a = some (.lst xs)) : Kd H (.ref a) "list"
  | tup {a : Addr} {xs : List V} (e : H a = some (.tup xs)) : Kd H (.ref a) "tuple"
theorem Kd.tyx {K : PySem.W.Frag} {H : Hp} {x : V} {t : String} (k : Kd H x t) : TyX K H x (.type t) := by
  cases k with
  | non => exact .base .non
  | bl b => exact .base (.bl b)
  | int i => exact .base (.int i)
  | str x => exact .base (.str x)
  | lst e => exact .base (.lst e)
  | tup e => exact .base (.tup e)
/-- isinstance of a value of such a kind -/
theorem rIsi_of {K : PySem.W.Frag} {H : Hp} {x : V} {t c : String} {b : Bool} {Q : VK} (k : Kd H x t) (e : kitB t c = some b) (q : Q (.bl b) H) : rIsi K [x, .ty c] H Q :=
  ⟨x, .ty c, .type t, .type c, b, rfl, .ty c, k.tyx, kit_ty e, q⟩
def isW : V → Bool
  | .int _ => true
  | _ => false
def isWF (m : Int) : V → Bool
  | .int i => decide (m ≤ i)
  | _ => false
def isDue : V → Bool
  | .non => true
  | .int i => decide (0 ≤ i)
  | _ => false
def isRoom : V → Bool
  | .int i => decide (0 ≤ i) && decide (i ≤ 3)
  | _ => false
def isTask (n : Int) : V → Bool
  | .int i => decide (0 ≤ i) && decide (i < n)
  | _ => false
theorem ifB {c : Bool} {A B : Prop} (h1 : c = true → A) (h2 : c = false → B) : if c = true then A else B := by
  cases c with
  | true => exact iteT (h1 rfl)
  | false => exact iteF (h2 rfl)
def rLenQ (K : PySem.W.Frag) : List V → Hp → VK → Prop := fun xs H Q => ∃ p ys, xs = [.ref p] ∧ (SqL K H p ys ∨ SqT K H p ys) ∧ Q (.int ys.length) H
def rListQ (K : PySem.W.Frag) : List V → Hp → VK → Prop := fun xs H Q => ∃ p ys, xs = [.ref p] ∧ (SqL K H p ys ∨ SqT K H p ys) ∧ ∀ l, H l = none → Q (.ref l) (upd H l (.lst ys))

open Lean in
local macro_rules | `(tactic| walk_at "u") => `(tactic| dsimp only [tRet, tRetN, tSeq, tIfS, tNext, tDrop, tAsg, tPar, tAug, tCB, tCons, tNil, tVar, tC, tAndV, tOrV, tNotV, tAnd, tOr, tNot, tB, tTest, tOp, tUn, rI, rI0, rU, tIf, tCall, tIsN, tNotN, gName, gTup, gCons, gNil, gSub, tLst, tTup, tBM, tBM0, tSl, tPart, tNoPart, tYes, tCallN])
local macro_rules | `(tactic| walk_at "T") => `(tactic| ((try dsimp only); (try simp only [Bool.not_true, Bool.not_false, Bool.false_eq_true, reduceIte])))
local macro_rules | `(tactic| walk_at "F") => `(tactic| ((try dsimp only); (try simp only [Bool.not_true, Bool.not_false, Bool.false_eq_true, reduceIte])))


section
variable {P : Program} {w : World} {K : PySem.W.Frag} {mg : Str → Option Value} {base : Heap}
/-! duepairs.whole -/
def spWhole : Sp := fun vs H Q _ => ∃ (x : V) (t : String), vs = [x] ∧ Kd H x t ∧ Q (.bl (isW x)) H
theorem ok_is_whole (T : Env K mg) : Ok P w K mg base CX0 dd_is_whole "is_whole" 1 ["thing"] spWhole := by
  obtain ⟨fd, F⟩ := T.c.def_ 0 (d := dd_is_whole) rfl
  refine ⟨fd, F, T.gl 0 _ rfl, F.kp, F.bindsN fun _ _ _ _ _ _ us hl => match us, hl with | [_], _ => rfl, ?_⟩
  refine F.ok sc_is_whole (fun vs H Q E h => ?_) (fun cdv A outer s H vs Q E hr h => ?_)
  · obtain ⟨x, t, rfl, kd, q⟩ := h
    rfl
  · obtain ⟨x, t, rfl, kd, q⟩ := h
    refine ⟨_, PSs.nox (pss_one (ps_ret (pe_and (pe_callB call_isi (by rfl) (T.fr 29 _ rfl) (by decide +kernel) (pa_cons (pv 0) (pa_cons (pe_bltn (v := .ty "int") (by rfl) (T.fr 30 _ rfl) (by decide +kernel) rfl) pa_nil))) (pe_one (pe_not (pe_callB call_isi (by rfl) (T.fr 29 _ rfl) (by decide +kernel) (pa_cons (pv 0) (pa_cons (pe_bltn (v := .ty "bool") (by rfl) (T.fr 31 _ rfl) (by decide +kernel) rfl) pa_nil)))))))), ?_⟩
    walk_at "u"
    cases kd with
    | non => exact ⟨_, rfl, rIsi_of .non (by decide +kernel) ⟨_, rfl, iteF q⟩⟩
    | bl b => exact ⟨_, rfl, rIsi_of (.bl b) (by decide +kernel) ⟨_, rfl, iteT ⟨_, rfl, rIsi_of (b := true) (.bl b) (by decide +kernel) ⟨_, rfl, q⟩⟩⟩⟩
    | int i => exact ⟨_, rfl, rIsi_of (.int i) (by decide +kernel) ⟨_, rfl, iteT ⟨_, rfl, rIsi_of (b := false) (.int i) (by decide +kernel) ⟨_, rfl, q⟩⟩⟩⟩
    | str z => exact ⟨_, rfl, rIsi_of (.str z) (by decide +kernel) ⟨_, rfl, iteF q⟩⟩
    | lst e => exact ⟨_, rfl, rIsi_of (.lst e) (by decide +kernel) ⟨_, rfl, iteF q⟩⟩
    | tup e => exact ⟨_, rfl, rIsi_of (.tup e) (by decide +kernel) ⟨_, rfl, iteF q⟩⟩
def spWholeFrom : Sp := fun vs H Q _ => ∃ (m : Int) (x : V) (t : String), vs = [.int m, x] ∧ Kd H x t ∧ Q (.bl (isWF m x)) H
theorem ok_is_whole_from (T : Env K mg) : Ok P w K mg base CX0 dd_is_whole_from "is_whole_from" 2 ["least", "thing"] spWholeFrom := by
  obtain ⟨fd_is_whole, D_is_whole, g_is_whole, k_is_whole, b_is_whole, G_is_whole⟩ := ok_is_whole (P := P) (w := w) (base := base) T
  obtain ⟨fd, F⟩ := T.c.def_ 1 (d := dd_is_whole_from) rfl
  refine ⟨fd, F, T.gl 1 _ rfl, F.kp, F.bindsN fun _ _ _ _ _ _ us hl => match us, hl with | [_, _], _ => rfl, ?_⟩
  refine F.ok sc_is_whole_from (fun vs H Q E h => ?_) (fun cdv A outer s H vs Q E hr h => ?_)
  · obtain ⟨m, x, t, rfl, kd, q⟩ := h
    rfl
  · obtain ⟨m, x, t, rfl, kd, q⟩ := h
    refine ⟨_, PSs.nox (pss_one (ps_ret (pe_and (pe_call G_is_whole (hr.mono (by decide)) (by rfl) g_is_whole k_is_whole b_is_whole .nil pass0 (pa_cons (pv 1) pa_nil)) (pe_one (pe_cmpR op_ge (pv 1) (pv 0) (nomark _)))))), ?_⟩
    refine ⟨_, rfl, x, t, rfl, kd, _, rfl, ifB (fun e => ?_) (fun e => ?_)⟩
    · cases x with
      | int i => exact ⟨_, rfl, _, rfl, _, _, rfl, rfl, q⟩
      | _ => cases e
    · have e2 : isWF m x = false := by
        cases x with
        | int i => cases e
        | _ => rfl
      rw [e2] at q
      exact q
def spHour : Sp := fun vs H Q _ => ∃ (x : V) (t : String), vs = [x] ∧ Kd H x t ∧ Q (.bl (isWF 1 x)) H
theorem ok_is_hour (T : Env K mg) : Ok P w K mg base CX0 dd_is_hour "is_hour" 3 ["thing"] spHour := by
  obtain ⟨fd_is_whole_from, D_is_whole_from, g_is_whole_from, k_is_whole_from, b_is_whole_from, G_is_whole_from⟩ := ok_is_whole_from (P := P) (w := w) (base := base) T
  obtain ⟨fd, F⟩ := T.c.def_ 2 (d := dd_is_hour) rfl
  refine ⟨fd, F, T.gl 2 _ rfl, F.kp, F.bindsN fun _ _ _ _ _ _ us hl => match us, hl with | [_], _ => rfl, ?_⟩
  refine F.ok sc_is_hour (fun vs H Q E h => ?_) (fun cdv A outer s H vs Q E hr h => ?_)
  · obtain ⟨x, t, rfl, kd, q⟩ := h
    rfl
  · obtain ⟨x, t, rfl, kd, q⟩ := h
    refine ⟨_, PSs.nox (pss_one (ps_ret (pe_call G_is_whole_from (hr.mono (by decide)) (by rfl) g_is_whole_from k_is_whole_from b_is_whole_from .nil pass0 (pa_cons pe_int (pa_cons (pv 0) pa_nil))))), ?_⟩
    exact ⟨_, rfl, 1, x, t, rfl, kd, q⟩
def spDue : Sp := fun vs H Q _ => ∃ (x : V) (t : String), vs = [x] ∧ Kd H x t ∧ Q (.bl (isDue x)) H
theorem ok_is_due (T : Env K mg) : Ok P w K mg base CX0 dd_is_due "is_due" 3 ["thing"] spDue := by
  obtain ⟨fd_is_whole_from, D_is_whole_from, g_is_whole_from, k_is_whole_from, b_is_whole_from, G_is_whole_from⟩ := ok_is_whole_from (P := P) (w := w) (base := base) T
  obtain ⟨fd, F⟩ := T.c.def_ 3 (d := dd_is_due) rfl
  refine ⟨fd, F, T.gl 3 _ rfl, F.kp, F.bindsN fun _ _ _ _ _ _ us hl => match us, hl with | [_], _ => rfl, ?_⟩
  refine F.ok sc_is_due (fun vs H Q E h => ?_) (fun cdv A outer s H vs Q E hr h => ?_)
  · obtain ⟨x, t, rfl, kd, q⟩ := h
    rfl
  · obtain ⟨x, t, rfl, kd, q⟩ := h
    refine ⟨_, PSs.nox (pss_one (ps_ret (pe_or (pe_cmp (pc_isN (pv 0)) rfl) (pe_one (pe_call G_is_whole_from (hr.mono (by decide)) (by rfl) g_is_whole_from k_is_whole_from b_is_whole_from .nil pass0 (pa_cons pe_int (pa_cons (pv 0) pa_nil))))))), ?_⟩
    refine ⟨_, rfl, _, rfl, ifB (fun e => ?_) (fun e => ?_)⟩
    · have e2 : x = .non := of_decide_eq_true e
      subst e2
      exact q
    · have e2 : isDue x = isWF 0 x := by
        cases x with
        | non => cases e
        | _ => rfl
      rw [e2] at q
      exact ⟨_, rfl, 0, x, t, rfl, kd, q⟩
def spRoomP : Sp := fun vs H Q _ => ∃ (x : V) (t : String), vs = [x] ∧ Kd H x t ∧ Q (.bl (isRoom x)) H
theorem ok_is_room (T : Env K mg) : Ok P w K mg base CX0 dd_is_room "is_room" 3 ["thing"] spRoomP := by
  obtain ⟨fd_is_whole_from, D_is_whole_from, g_is_whole_from, k_is_whole_from, b_is_whole_from, G_is_whole_from⟩ := ok_is_whole_from (P := P) (w := w) (base := base) T
  obtain ⟨fd, F⟩ := T.c.def_ 5 (d := dd_is_room) rfl
  refine ⟨fd, F, T.gl 5 _ rfl, F.kp, F.bindsN fun _ _ _ _ _ _ us hl => match us, hl with | [_], _ => rfl, ?_⟩
  refine F.ok sc_is_room (fun vs H Q E h => ?_) (fun cdv A outer s H vs Q E hr h => ?_)
  · obtain ⟨x, t, rfl, kd, q⟩ := h
    rfl
  · obtain ⟨x, t, rfl, kd, q⟩ := h
    refine ⟨_, PSs.nox (pss_one (ps_ret (pe_and (pe_call G_is_whole_from (hr.mono (by decide)) (by rfl) g_is_whole_from k_is_whole_from b_is_whole_from .nil pass0 (pa_cons pe_int (pa_cons (pv 0) pa_nil))) (pe_one (pe_cmpR op_le (pv 0) (pe_glob (v := .int 3) (by rfl) (T.it 43 _ _ rfl).choose_spec ⟨_, rfl⟩) (nomark _)))))), ?_⟩
    refine ⟨_, rfl, 0, x, t, rfl, kd, _, rfl, ifB (fun e => ?_) (fun e => ?_)⟩
    · cases x with
      | int i =>
        have e2 : isRoom (.int i) = decide (i ≤ 3) := by
          show (decide (0 ≤ i) && decide (i ≤ 3)) = _
          rw [show decide (0 ≤ i) = true from e]
          rfl
        rw [e2] at q
        exact ⟨_, rfl, _, _, rfl, rfl, q⟩
      | _ => cases e
    · have e2 : isRoom x = false := by
        cases x with
        | int i =>
          show (decide (0 ≤ i) && decide (i ≤ 3)) = false
          rw [show decide (0 ≤ i) = false from e]
          rfl
        | _ => rfl
      rw [e2] at q
      exact q
def spTask : Sp := fun vs H Q _ => ∃ (n : Int) (x : V) (t : String), vs = [.int n, x] ∧ Kd H x t ∧ Q (.bl (isTask n x)) H
theorem ok_is_task (T : Env K mg) : Ok P w K mg base CX0 dd_is_task "is_task" 3 ["many", "thing"] spTask := by
  obtain ⟨fd_is_whole_from, D_is_whole_from, g_is_whole_from, k_is_whole_from, b_is_whole_from, G_is_whole_from⟩ := ok_is_whole_from (P := P) (w := w) (base := base) T
  obtain ⟨fd, F⟩ := T.c.def_ 6 (d := dd_is_task) rfl
  refine ⟨fd, F, T.gl 6 _ rfl, F.kp, F.bindsN fun _ _ _ _ _ _ us hl => match us, hl with | [_, _], _ => rfl, ?_⟩
  refine F.ok sc_is_task (fun vs H Q E h => ?_) (fun cdv A outer s H vs Q E hr h => ?_)
  · obtain ⟨n, x, t, rfl, kd, q⟩ := h
    rfl
  · obtain ⟨n, x, t, rfl, kd, q⟩ := h
    refine ⟨_, PSs.nox (pss_one (ps_ret (pe_and (pe_call G_is_whole_from (hr.mono (by decide)) (by rfl) g_is_whole_from k_is_whole_from b_is_whole_from .nil pass0 (pa_cons pe_int (pa_cons (pv 1) pa_nil))) (pe_one (pe_cmpR op_lt (pv 1) (pv 0) (nomark _)))))), ?_⟩
    refine ⟨_, rfl, 0, x, t, rfl, kd, _, rfl, ifB (fun e => ?_) (fun e => ?_)⟩
    · cases x with
      | int i =>
        have e2 : isTask n (.int i) = decide (i < n) := by
          show (decide (0 ≤ i) && decide (i < n)) = _
          rw [show decide (0 ≤ i) = true from e]
          rfl
        rw [e2] at q
        exact ⟨_, rfl, _, rfl, _, _, rfl, rfl, q⟩
      | _ => cases e
    · have e2 : isTask n x = false := by
        cases x with
        | int i =>
          show (decide (0 ≤ i) && decide (i < n)) = false
          rw [show decide (0 ≤ i) = false from e]
          rfl
        | _ => rfl
      rw [e2] at q
      exact q

end
/-! heaps: all but the pile stays -/
def But (p : Addr) (H H' : Hp) : Prop := ∀ b o, b ≠ p → H b = some o → H' b = some o
theorem But.refl (p : Addr) (H : Hp) : But p H H := fun _ _ _ h => h
theorem But.trans {p : Addr} {H H1 H2 : Hp} (a : But p H H1) (b : But p H1 H2) : But p H H2 := fun c o n h => b c o n (a c o n h)
theorem But.upd {p : Addr} {H : Hp} {o : HO} : But p H (upd H p o) := fun b u n h => by
  rw [upd_ne n]
  exact h
theorem But.new {p q : Addr} {H : Hp} {o : HO} (h : H q = none) : But p H (L2.upd H q o) := fun b u _ e => by
  rw [upd_ne (ne_of_none e h)]
  exact e
theorem But.of {p : Addr} {H H' : Hp} (s : Same H H') : But p H H' := fun b o _ h => s b o h
theorem same_upd {H : Hp} {q : Addr} {o : HO} (h : H q = none) : Same H (upd H q o) := fun b u e => by
  rw [upd_ne (ne_of_none e h)]
  exact e
/-- a new object may change -/
theorem same_mut {H H' : Hp} {q : Addr} {o : HO} (e : Same H H') (h : H q = none) : Same H (L2.upd H' q o) := fun a u ha => by
  rw [upd_ne (ne_of_none ha h)]
  exact e a u ha
theorem But.mut {p q : Addr} {H H' : Hp} {o : HO} (e : But p H H') (h : H q = none) : But p H (L2.upd H' q o) := fun a u n ha => by
  rw [upd_ne (ne_of_none ha h)]
  exact e a u n ha
theorem But.free {p l : Addr} {H H' : Hp} (e : But p H H') (n : l ≠ p) (h : H' l = none) : H l = none := by
  cases q : H l with
  | none => rfl
  | some o =>
    rw [e l o n q] at h
    cases h
theorem But.seq {K : PySem.W.Frag} {p a : Addr} {H H' : Hp} {xs : List V} (e : But p H H') (n : a ≠ p) (h : SqL K H a xs) : SqL K H' a xs := by
  rcases h with (h | ⟨o, h⟩) | h
  · exact .inl (.inl (e _ _ n h))
  · exact .inl (.inr ⟨o, e _ _ n h⟩)
  · exact .inr h
theorem lst_ne {H : Hp} {a b : Addr} {xs : List V} (h : H a = some (.lst xs)) (h' : H b = none) : a ≠ b := ne_of_none h h'
/-! numbers -/
theorem fmod_lo {x m : Int} (h : 0 < m) : 0 ≤ x.fmod m := by
  rw [Int.fmod_eq_emod_of_nonneg x (Int.le_of_lt h)]
  exact Int.emod_nonneg x (by omega)
theorem fmod_hi {x m : Int} (h : 0 < m) : x.fmod m < m := by
  rw [Int.fmod_eq_emod_of_nonneg x (Int.le_of_lt h)]
  exact Int.emod_lt_of_pos x h
theorem small_sz {n : Nat} (h : n ≤ 100000) : n ≤ sizeLine := Nat.le_trans h (by decide)
theorem small_lt {n : Nat} (h : n < 100000) : n < sizeLine := Nat.lt_of_lt_of_le h (by decide)
/-- numbers as values -/
def nV (ts : List Nat) : List V := ts.map fun (t : Nat) => V.int (t : Int)
def iV (is : List Int) : List V := is.map V.int
theorem iV_len (is : List Int) : (iV is).length = is.length := List.length_map ..
theorem nV_len (is : List Nat) : (nV is).length = is.length := List.length_map ..
theorem iV_get {is : List Int} {j : Nat} {i : Int} (h : is[j]? = some i) : (iV is)[j]? = some (.int i) := by
  unfold iV
  rw [List.getElem?_map, h]
  rfl
theorem iV_of {is : List Int} {j : Nat} {v : V} (h : (iV is)[j]? = some v) : ∃ i, is[j]? = some i ∧ v = .int i := by
  unfold iV at h
  rw [List.getElem?_map] at h
  cases e : is[j]? with
  | none =>
    rw [e] at h
    cases h
  | some i =>
    rw [e] at h
    exact ⟨i, rfl, (Option.some.inj h).symm⟩
theorem nV_get {is : List Nat} {j : Nat} {i : Nat} (h : is[j]? = some i) : (nV is)[j]? = some (.int (i : Int)) := by
  unfold nV
  rw [List.getElem?_map, h]
  rfl
theorem nV_of {is : List Nat} {j : Nat} {v : V} (h : (nV is)[j]? = some v) : ∃ i : Nat, is[j]? = some i ∧ v = .int (i : Int) := by
  unfold nV at h
  rw [List.getElem?_map] at h
  cases e : is[j]? with
  | none =>
    rw [e] at h
    cases h
  | some i =>
    rw [e] at h
    exact ⟨i, rfl, (Option.some.inj h).symm⟩
theorem atI_iV {is : List Int} {j : Nat} {z i : Int} (e : z = (j : Int)) (h : is[j]? = some i) : atI (iV is) z = some (.int i) := at_of e (iV_get h)
theorem atI_nV {is : List Nat} {j i : Nat} {z : Int} (e : z = (j : Int)) (h : is[j]? = some i) : atI (nV is) z = some (.int (i : Int)) := at_of e (nV_get h)
theorem ixN_at {n j : Nat} {z : Int} (e : z = (j : Int)) (hj : j < n) : ixN n z = some j := by
  subst e
  unfold ixN
  rw [if_pos (by omega), if_pos (by omega)]
  simp
/-- the room of an hour -/
def roomAt (rs : List Int) (h : Int) : Int := rs.getD (h - 1).toNat 2
theorem roomAt_in {rs : List Int} {h : Int} (h1 : 1 ≤ h) (h2 : h ≤ (rs.length : Int)) : rs[(h - 1).toNat]? = some (roomAt rs h) := by
  unfold roomAt
  rw [List.getD_eq_getElem?_getD, List.getElem?_eq_getElem (by omega)]
  rfl
theorem roomAt_out {rs : List Int} {h : Int} (h2 : (rs.length : Int) < h) : roomAt rs h = 2 := by
  unfold roomAt
  rw [List.getD_eq_getElem?_getD, List.getElem?_eq_none (by omega)]
  rfl
/-- both ways of an if lead on alike -/
theorem iteJ {X : Type} {b : Bool} {A B : Prop} {G : X → Prop} (h1 : b = true → (∀ c, G c) → A) (h2 : b = false → (∀ c, G c) → B) (rest : ∀ c, G c) : if b = true then A else B := by
  cases b with
  | true => exact iteT (h1 rfl rest)
  | false => exact iteF (h2 rfl rest)
/-! orders -/
theorem perm_ins {α : Type} (l : List α) (i : Nat) (x : α) : (l.take i ++ [x] ++ l.drop i).Perm (x :: l) := by
  have h : (l.take i ++ [x] ++ l.drop i).Perm (x :: (l.take i ++ l.drop i)) := by
    rw [List.append_assoc]
    exact List.perm_middle
  rw [List.take_append_drop] at h
  exact h
theorem nV_ins (l : List Nat) (i : Nat) (x : Nat) : (nV l).take i ++ [V.int (x : Int)] ++ (nV l).drop i = nV (l.take i ++ [x] ++ l.drop i) := by
  unfold nV
  rw [List.map_append, List.map_append, List.map_take, List.map_drop]
  rfl
theorem range_snoc (i : Nat) : (List.range (i + 1)) = List.range i ++ [i] := List.range_succ
theorem iV_set (l : List Int) (j : Nat) (x : Int) : (iV l).set j (.int x) = iV (l.set j x) := by
  unfold iV
  rw [List.map_set]
theorem iV_app (l : List Int) (x : Int) : iV l ++ [.int x] = iV (l ++ [x]) := by
  unfold iV
  rw [List.map_append]
  rfl
theorem nV_app (l : List Nat) (x : Nat) : nV l ++ [.int (x : Int)] = nV (l ++ [x]) := by
  unfold nV
  rw [List.map_append]
  rfl
/-! rooms of hours -/
structure Rooms (rs : List Int) : Prop where
  len : rs.length ≤ 8
  val : ∀ r ∈ rs, 0 ≤ r ∧ r ≤ 3
theorem Rooms.at_ {rs : List Int} (R : Rooms rs) (h : Int) : 0 ≤ roomAt rs h ∧ roomAt rs h ≤ 3 := by
  unfold roomAt
  rw [List.getD_eq_getElem?_getD]
  cases e : rs[(h - 1).toNat]? with
  | none => exact ⟨by decide, by decide⟩
  | some r => exact R.val r (List.mem_of_getElem? e)
def muH (hour left : Int) : Nat := 2 * (21 - hour).toNat + (if left = 0 then 1 else 0)
theorem muH_lt {hour left l2 : Int} (h : left = 0 ∨ hour < 20) (h2 : 20 ≤ hour → l2 = 2) : muH (hour + 1) l2 < muH hour left := by
  unfold muH
  by_cases h20 : hour < 20
  · split <;> split <;> omega
  · rw [if_pos (by omega : left = 0), if_neg (by rw [h2 (by omega)]; decide)]
    omega
/-! needs: a list of tuples of two tasks -/
def NeedsAt (H : Hp) (q : Addr) (zs : List (Addr × Nat × Nat)) : Prop :=
  H q = some (.lst (zs.map fun z => V.ref z.1)) ∧ ∀ z ∈ zs, H z.1 = some (.tup [.int (z.2.1 : Int), .int (z.2.2 : Int)])
theorem NeedsAt.same {H H' : Hp} {q : Addr} {zs : List (Addr × Nat × Nat)} (n : NeedsAt H q zs) (s : Same H H') : NeedsAt H' q zs := ⟨s _ _ n.1, fun z hz => s _ _ (n.2 z hz)⟩
theorem NeedsAt.but {H H' : Hp} {p q : Addr} {xs : List V} {zs : List (Addr × Nat × Nat)} (n : NeedsAt H q zs) (hp : H p = some (.lst xs)) (nq : q ≠ p) (s : But p H H') : NeedsAt H' q zs :=
  ⟨s _ _ nq n.1, fun z hz => s _ _ (ne_of (n.2 z hz) hp (by intro e; cases e)) (n.2 z hz)⟩
theorem zs_ins {α : Type} (f : α → V) (zs : List α) (i : Nat) (z : α) : (zs.map f).take i ++ [f z] ++ (zs.map f).drop i = (zs.take i ++ [z] ++ zs.drop i).map f := by
  rw [List.map_append, List.map_append, List.map_take, List.map_drop]
  rfl
theorem NeedsAt.ins {H : Hp} {q T : Addr} {zs : List (Addr × Nat × Nat)} {a b i : Nat} (n : NeedsAt H q zs) (nT : H T = none) :
    NeedsAt (upd (upd H T (.tup [.int (a : Int), .int (b : Int)])) q (.lst ((zs.map fun z => V.ref z.1).take i ++ [.ref T] ++ (zs.map fun z => V.ref z.1).drop i))) q (zs.take i ++ [(T, a, b)] ++ zs.drop i) := by
  refine ⟨by rw [upd_same, ← zs_ins (fun z : Addr × Nat × Nat => V.ref z.1)], fun z hz => ?_⟩
  have hz2 := (perm_ins zs i (T, a, b)).mem_iff.mp hz
  rcases List.mem_cons.mp hz2 with e | hz3
  · subst e
    rw [upd_ne (fun e => by
      have := n.1
      rw [← e, nT] at this
      cases this), upd_same]
  · have h1 := n.2 z hz3
    rw [upd_ne (ne_of h1 n.1 (by intro e; cases e)), upd_ne (ne_of_none h1 nT)]
    exact h1
theorem nodup_of_perm {os : List Nat} {n : Nat} (h : os.Perm (List.range n)) : os.Nodup := h.nodup_iff.mpr List.nodup_range
theorem ix_of_nodup {os : List Nat} (h : os.Nodup) {i j : Nat} {t : Nat} (a : os[i]? = some t) (b : os[j]? = some t) : i = j := nd_ix h a b
theorem flat_iV (is : List Int) : (iV is).all flatV = true := by
  unfold iV
  rw [List.all_eq_true]
  intro v hv
  obtain ⟨i, _, rfl⟩ := List.mem_map.mp hv
  rfl
theorem flat_nV (is : List Nat) : (nV is).all flatV = true := by
  unfold nV
  rw [List.all_eq_true]
  intro v hv
  obtain ⟨i, _, rfl⟩ := List.mem_map.mp hv
  rfl
theorem inV_iV (x : Int) (is : List Int) : inV (.int x) (iV is) = decide (x ∈ is) := by
  unfold inV iV
  rw [Bool.eq_iff_iff, List.any_eq_true, decide_eq_true_iff]
  constructor
  · rintro ⟨v, hv, e⟩
    obtain ⟨i, hi, rfl⟩ := List.mem_map.mp hv
    have e2 : i = x := beq_iff_eq.mp e
    rw [← e2]
    exact hi
  · intro h
    exact ⟨.int x, List.mem_map.mpr ⟨x, h, rfl⟩, beq_iff_eq.mpr rfl⟩
theorem inV_nV (x : Nat) (is : List Nat) : inV (.int (x : Int)) (nV is) = decide (x ∈ is) := by
  unfold inV nV
  rw [Bool.eq_iff_iff, List.any_eq_true, decide_eq_true_iff]
  constructor
  · rintro ⟨v, hv, e⟩
    obtain ⟨i, hi, rfl⟩ := List.mem_map.mp hv
    have e2 : (i : Int) = (x : Int) := beq_iff_eq.mp e
    rw [← Int.ofNat.inj e2]
    exact hi
  · intro h
    exact ⟨.int (x : Int), List.mem_map.mpr ⟨x, h, rfl⟩, beq_iff_eq.mpr rfl⟩
/-- each need goes forward along the order -/
def Along (os : List Nat) (zs : List (Addr × Nat × Nat)) (j k : Nat) : Prop := ∀ z ∈ zs, ∃ j' k' : Nat, k' < j' ∧ os[k']? = some z.2.1 ∧ os[j']? = some z.2.2 ∧ (j' < j ∨ (j' = j ∧ k' < k))
theorem Along.mono {os : List Nat} {zs : List (Addr × Nat × Nat)} {j k j2 k2 : Nat} (h : Along os zs j k) (l : j < j2 ∨ (j = j2 ∧ k ≤ k2)) : Along os zs j2 k2 := fun z hz => by
  obtain ⟨j', k', h1, h2, h3, h4⟩ := h z hz
  exact ⟨j', k', h1, h2, h3, by omega⟩
/-! jobs -/
def oO : Option Int → V
  | none => .non
  | some i => .int i
def oV (ds : List (Option Int)) : List V := ds.map oO
theorem oV_len (is : List (Option Int)) : (oV is).length = is.length := List.length_map ..
theorem oV_app (l : List (Option Int)) (x : Option Int) : oV l ++ oV [x] = oV (l ++ [x]) := by
  unfold oV
  rw [List.map_append]
structure JobAt (H : Hp) (J f d n r : Addr) (fs : List Int) (ds : List (Option Int)) (zs : List (Addr × Nat × Nat)) (rs : List Int) : Prop where
  top : H J = some (.tup [.ref f, .ref d, .ref n, .ref r])
  fr : H f = some (.lst (iV fs))
  du : H d = some (.lst (oV ds))
  ne : NeedsAt H n zs
  ro : H r = some (.lst (iV rs))
theorem JobAt.same {H H' : Hp} {J f d n r : Addr} {fs : List Int} {ds : List (Option Int)} {zs : List (Addr × Nat × Nat)} {rs : List Int} (j : JobAt H J f d n r fs ds zs rs) (s : Same H H') : JobAt H' J f d n r fs ds zs rs :=
  ⟨s _ _ j.top, s _ _ j.fr, s _ _ j.du, j.ne.same s, s _ _ j.ro⟩
theorem JobAt.but {H H' : Hp} {J f d n r p : Addr} {xs : List V} {fs : List Int} {ds : List (Option Int)} {zs : List (Addr × Nat × Nat)} {rs : List Int} (j : JobAt H J f d n r fs ds zs rs) (hp : H p = some (.lst xs))
    (nf : f ≠ p) (nd : d ≠ p) (nn : n ≠ p) (nr : r ≠ p) (s : But p H H') : JobAt H' J f d n r fs ds zs rs :=
  ⟨s _ _ (ne_of j.top hp (by intro e; cases e)) j.top, s _ _ nf j.fr, s _ _ nd j.du, j.ne.but hp nn s, s _ _ nr j.ro⟩
structure Valid (fs : List Int) (ds : List (Option Int)) (zs : List (Addr × Nat × Nat)) (rs : List Int) : Prop where
  fl : fs.length ≤ 100
  dl : ds.length = fs.length
  fv : ∀ x ∈ fs, 1 ≤ x ∧ x ≤ 200
  dv : ∀ x, some x ∈ ds → 0 ≤ x ∧ x ≤ 200
  zl : zs.length ≤ 30
  znd : (zs.map (·.2)).Nodup
  rank : ∃ rk : Nat → Nat, ∀ z ∈ zs, z.2.1 < fs.length ∧ z.2.2 < fs.length ∧ rk z.2.1 < rk z.2.2
  ro : Rooms rs
/-- a rank along an order -/
theorem rank_of {os : List Nat} {zs : List (Addr × Nat × Nat)} {n m j k : Nat} (hp : os.Perm (List.range n)) (h : Along os zs j k) (e : n = m) : ∃ rk : Nat → Nat, ∀ z ∈ zs, z.2.1 < m ∧ z.2.2 < m ∧ rk z.2.1 < rk z.2.2 := by
  subst e
  refine ⟨fun t => os.idxOf t, fun z hz => ?_⟩
  obtain ⟨j', k', h1, h2, h3, _⟩ := h z hz
  have nd := nodup_of_perm hp
  have lt : ∀ {i t : Nat}, os[i]? = some t → t < n := fun h => List.mem_range.mp (hp.mem_iff.mp (List.mem_of_getElem? h))
  have ix : ∀ {i t : Nat}, os[i]? = some t → os.idxOf t = i := fun {i t} h => by
    obtain ⟨hi, e⟩ := List.getElem?_eq_some_iff.mp h
    rw [← e]
    exact nd.idxOf_getElem i hi
  refine ⟨lt h2, lt h3, ?_⟩
  show os.idxOf z.2.1 < os.idxOf z.2.2
  rw [ix h2, ix h3]
  exact h1
theorem iteJP {X : Type} {b : Bool} {A B : Prop} {G : X → Prop} (C : X → Prop) (h1 : b = true → (∀ c, C c → G c) → A) (h2 : b = false → (∀ c, C c → G c) → B) (rest : ∀ c, C c → G c) : if b = true then A else B := by
  cases b with
  | true => exact iteT (h1 rfl rest)
  | false => exact iteF (h2 rfl rest)

section
variable {P : Program} {w : World} {K : PySem.W.Frag} {mg : Str → Option Value} {base : Heap}
/-! the law's own helpers: digits of a pile -/
def spMixed : Sp := fun vs H Q _ => ∃ (c k : Int), vs = [.int c, .int k] ∧ ∀ r, 0 ≤ r → r < 2147483579 → Q (.int r) H
theorem ok__law_mixed (T : Env K mg) : Ok P w K mg base CX0 dd__law_mixed "_law_mixed" 1 ["_law_cell", "_law_k"] spMixed := by
  obtain ⟨fd, F⟩ := T.c.def_ 17 (d := dd__law_mixed) rfl
  refine ⟨fd, F, T.gl 17 _ rfl, F.kp, F.bindsN fun _ _ _ _ _ _ us hl => match us, hl with | [_, _], _ => rfl, ?_⟩
  refine F.ok sc__law_mixed (fun vs H Q E h => ?_) (fun cdv A outer s H vs Q E hr h => ?_)
  · obtain ⟨c, k, rfl, q⟩ := h
    rfl
  · obtain ⟨c, k, rfl, q⟩ := h
    refine ⟨_, PSs.nox (pss_cons (ps_set (i := 2) sc__law_mixed.nd rfl (Or.inl rfl) (pe_op op_modN (pe_callTy call_int1 (by rfl) (T.fr 30 _ rfl) (by decide +kernel) (pa_cons (pe_op op_add (pe_op op_add (pe_op op_mul (pe_op op_modN (pe_callTy call_int1 (by rfl) (T.fr 30 _ rfl) (by decide +kernel) (pa_cons (pv 0) pa_nil)) pe_int) pe_int) (pe_op op_mul (pv 1) pe_int)) pe_int) pa_nil)) pe_int))
      (pss_cons (ps_set (i := 2) sc__law_mixed.nd rfl (Or.inl rfl) (pe_op op_modN (pe_callTy call_int1 (by rfl) (T.fr 30 _ rfl) (by decide +kernel) (pa_cons (pe_op op_mul (pv 2) (pv 2)) pa_nil)) pe_int))
      (pss_one (ps_ret (pe_op op_modN (pe_callTy call_int1 (by rfl) (T.fr 30 _ rfl) (by decide +kernel) (pa_cons (pe_op op_mul (pv 2) (pe_op op_add (pv 2) pe_int)) pa_nil)) pe_int))))), ?_⟩
    walk_at "u"
    refine ⟨_, rfl, .inl ⟨_, rfl, _, _, rfl, rfl, by decide, _, _, rfl, rfl, .inr ⟨by decide, by decide⟩, _, rfl, _, _, rfl, rfl, .inr ⟨by decide, by decide⟩, _, _, rfl, rfl, _, _, rfl, rfl, .inl ⟨_, rfl, _, _, rfl, rfl, by decide, ?_⟩⟩⟩
    generalize hz : Int.fmod _ 2147483629 = z
    have z0 : 0 ≤ z := hz ▸ fmod_lo (by decide)
    have z1 : z < 2147483629 := hz ▸ fmod_hi (by decide)
    refine ⟨_, rfl, _, rfl, _, _, rfl, rfl, .inl ⟨by omega, by omega⟩, .inl ⟨_, rfl, _, _, rfl, rfl, by decide, ?_⟩⟩
    generalize hy : Int.fmod _ 2147483587 = y
    have y0 : 0 ≤ y := hy ▸ fmod_lo (by decide)
    have y1 : y < 2147483587 := hy ▸ fmod_hi (by decide)
    refine ⟨_, rfl, _, rfl, _, _, rfl, rfl, _, _, rfl, rfl, .inl ⟨by omega, by omega⟩, .inl ⟨_, rfl, _, _, rfl, rfl, by decide, ?_⟩⟩
    exact q _ (fmod_lo (by decide)) (fmod_hi (by decide))
def spTake : Sp := fun vs H Q _ => ∃ (p : Addr) (x n : Int), vs = [.ref p, .int n] ∧ H p = some (.lst [.int x]) ∧ 0 < n ∧ n < 1000 ∧ ∀ d x', 0 ≤ d → d < n → Q (.int d) (upd H p (.lst [.int x']))
theorem ok__law_take (T : Env K mg) : Ok P w K mg base CX0 dd__law_take "_law_take" 1 ["_law_pile_here", "_law_size"] spTake := by
  obtain ⟨fd, F⟩ := T.c.def_ 19 (d := dd__law_take) rfl
  refine ⟨fd, F, T.gl 19 _ rfl, F.kp, F.bindsN fun _ _ _ _ _ _ us hl => match us, hl with | [_, _], _ => rfl, ?_⟩
  refine F.ok sc__law_take (fun vs H Q E h => ?_) (fun cdv A outer s H vs Q E hr h => ?_)
  · obtain ⟨p, x, n, rfl, hp, n0, n1, q⟩ := h
    rfl
  · obtain ⟨p, x, n, rfl, hp, n0, n1, q⟩ := h
    refine ⟨_, PSs.nox (pss_cons (ps_set (i := 2) sc__law_take.nd rfl (Or.inl rfl) (pe_op op_modN (pe_callTy call_int1 (by rfl) (T.fr 30 _ rfl) (by decide +kernel) (pa_cons (pe_ix ix_list (pv 0) pe_int (fun _ _ => rfl)) pa_nil)) (pv 1)))
      (pss_cons (ps_asg (pe_op op_fdivN (pe_ix ix_list (pv 0) pe_int (fun _ _ => rfl)) (pv 1)) (pg_sub (pv 0) pe_int set_list))
      (pss_one (ps_ret (pv 2))))), ?_⟩
    walk_at "u"
    refine ⟨_, rfl, _, _, _, _, rfl, rfl, SqL.of hp, atI_nat (j := 0) rfl, .inl ⟨_, rfl, _, rfl, _, _, rfl, rfl, by omega, ?_⟩⟩
    refine ⟨_, rfl, _, _, _, _, rfl, rfl, SqL.of hp, atI_nat (j := 0) rfl, _, rfl, _, _, rfl, rfl, ⟨by omega, by omega⟩, ?_⟩
    refine ⟨_, rfl, _, _, _, 0, rfl, rfl, hp, rfl, _, rfl, ?_⟩
    exact q _ _ (fmod_lo n0) (fmod_hi n0)
def spPile (K : PySem.W.Frag) : Sp := fun vs H Q _ => ∃ (a : Addr) (ns : List Int) (k : Int), vs = [.ref a, .int k] ∧ SqL K H a (iV ns) ∧ ns.length ≤ 63 ∧ 0 ≤ k ∧ ∀ p x, H p = none → Q (.ref p) (upd H p (.lst [.int x]))
theorem ok__law_pile (T : Env K mg) : Ok P w K mg base CX0 dd__law_pile "_law_pile" 2 ["_law_script", "_law_k"] (spPile K) := by
  obtain ⟨fd__law_mixed, D__law_mixed, g__law_mixed, k__law_mixed, b__law_mixed, G__law_mixed⟩ := ok__law_mixed (P := P) (w := w) (base := base) T
  obtain ⟨fd, F⟩ := T.c.def_ 18 (d := dd__law_pile) rfl
  refine ⟨fd, F, T.gl 18 _ rfl, F.kp, F.bindsN fun _ _ _ _ _ _ us hl => match us, hl with | [_, _], _ => rfl, ?_⟩
  refine F.ok sc__law_pile (fun vs H Q E h => ?_) (fun cdv A outer s H vs Q E hr h => ?_)
  · obtain ⟨a, ns, k, rfl, hS, hlen, k0, q⟩ := h
    rfl
  · obtain ⟨a, ns, k, rfl, hS, hlen, k0, q⟩ := h
    refine ⟨_, PSs.nox (pss_cons (ps_set (i := 2) sc__law_pile.nd rfl (Or.inl rfl) pe_int)
      (pss_cons (ps_if (pt_cmpR op_lt (pv 1) (pe_callB call_len_seq (by rfl) (T.fr 33 _ rfl) (by decide +kernel) (pa_cons (pv 0) pa_nil)) (nomark _)) (pss_one (ps_set (i := 2) sc__law_pile.nd rfl (Or.inl rfl) (pe_ix ix_list (pv 0) (pv 1) (fun _ _ => rfl)))) pss_nil)
      (pss_cons (ps_if (pt_cmpR op_ge (pv 2) (pe_op op_pow pe_int pe_int) (nomark _)) (pss_one (ps_ret (pe_lst (pa_cons (pe_op op_modN (pe_callTy call_int1 (by rfl) (T.fr 30 _ rfl) (by decide +kernel) (pa_cons (pe_op op_sub (pv 2) (pe_op op_pow pe_int pe_int)) pa_nil)) (pe_op op_mulW (pe_op op_mulW (pe_op op_mulW (pe_op op_pow pe_int pe_int) (pe_op op_pow pe_int pe_int)) (pe_op op_pow pe_int pe_int)) (pe_op op_pow pe_int pe_int))) pa_nil)))) pss_nil)
      (pss_cons (ps_set (i := 3) sc__law_pile.nd rfl (Or.inl rfl) pe_int)
      (pss_cons (ps_for PassesOwn.never rfl (pi_range1 (by rfl) (T.fr 37 _ rfl) (pa_cons pe_int pa_nil)) (pg_name (i := 4) sc__law_pile.nd rfl (Or.inl rfl)) (pss_one (ps_set (i := 3) sc__law_pile.nd rfl (Or.inl rfl) (pe_op op_add (pe_op op_mul (pv 3) pe_int) (pe_call G__law_mixed (hr.mono (by decide)) (by rfl) g__law_mixed k__law_mixed b__law_mixed .nil pass0 (pa_cons (pv 2) (pa_cons (pe_op op_add (pe_op op_add (pe_op op_mul pe_int (pv 1)) (pe_op op_mul pe_int (pv 4))) (pe_op op_mul (pv 4) (pv 4))) pa_nil)))))))
      (pss_one (ps_ret (pe_lst (pa_cons (pv 3) pa_nil))))))))), ?_⟩
    walk_at "u"
    have hL : SqL K H a (iV ns) := hS
    refine ⟨_, rfl, _, rfl, a, iV ns, rfl, .inl hL, _, _, rfl, rfl, _, rfl, ?_⟩
    refine' iteJ (X := Int) (fun e rest => ?_) (fun e rest => ?_) (fun c => ?_)
    rotate_left
    · have hk : k < (ns.length : Int) := by
        have h2 := of_decide_eq_true e
        rw [iV_len] at h2
        exact h2
      obtain ⟨c, hc⟩ : ∃ c, ns[k.toNat]? = some c := ⟨_, List.getElem?_eq_getElem (by omega)⟩
      refine ⟨_, rfl, _, rfl, _, _, _, _, rfl, rfl, hL, atI_iV (j := k.toNat) (by omega) hc, ?_⟩
      exact rest c
    · exact rest 0
    · refine ⟨_, rfl, _, _, rfl, rfl, ⟨by decide, by decide, by decide⟩, _, _, rfl, rfl, _, rfl, ifB (fun e => ?_) (fun e => ?_)⟩
      · refine ⟨_, rfl, _, _, rfl, rfl, ⟨by decide, by decide, by decide⟩, _, _, rfl, rfl, .inl ⟨_, rfl, ?_⟩⟩
        refine ⟨_, _, rfl, rfl, ⟨by decide, by decide, by decide⟩, _, _, rfl, rfl, ⟨by decide, by decide, by decide⟩, _, _, rfl, rfl, (by show _ + _ < 1000000; decide +kernel), ?_⟩
        refine ⟨_, _, rfl, rfl, ⟨by decide, by decide, by decide⟩, _, _, rfl, rfl, (by show _ + _ < 1000000; decide +kernel), ?_⟩
        refine ⟨_, _, rfl, rfl, ⟨by decide, by decide, by decide⟩, _, _, rfl, rfl, (by show _ + _ < 1000000; decide +kernel), ?_⟩
        refine ⟨_, _, rfl, rfl, by decide +kernel, (show 1 ≤ sizeLine by decide), fun p hp => ?_⟩
        exact q p _ hp
      · refine ⟨_, rfl, by decide, by decide, for_range (lo := 0) (n := 24) (fun i σ H' => ∃ f y, σ = [some (.ref a), some (.int k), some (.int c), some (.int f), y] ∧ H' = H) ⟨0, none, rfl, rfl⟩ (fun i σ H' hi hp => ?_) (fun σ H' hp => ?_)⟩
        · obtain ⟨f, y, rfl, rfl⟩ := hp
          refine ⟨_, rfl, _, _, rfl, rfl, .inr ⟨by decide, by decide⟩, _, rfl, _, rfl, _, _, rfl, rfl, .inl ⟨by decide, by decide⟩, _, rfl, _, _, rfl, rfl, .inl ⟨by decide, by decide⟩, _, _, rfl, rfl, _, rfl, _, rfl, _, _, rfl, rfl, .inl ⟨by omega, by omega⟩, _, _, rfl, rfl, ?_⟩
          refine ⟨_, _, rfl, fun r r0 r1 => ?_⟩
          exact ⟨_, _, rfl, rfl, _, _, rfl, rfl⟩
        · obtain ⟨f, y, rfl, rfl⟩ := hp
          exact ⟨_, rfl, (show 1 ≤ sizeLine by decide), fun p hp => q p _ hp⟩
def spOrder : Sp := fun vs H Q _ => ∃ (p : Addr) (x : Int) (n : Nat), vs = [.ref p, .int (n : Int)] ∧ H p = some (.lst [.int x]) ∧ n ≤ 100 ∧
  ∀ (q : Addr) (os : List Nat) (x' : Int) (H' : Hp), H q = none → But p H H' → H' p = some (.lst [.int x']) → H' q = some (.lst (nV os)) → os.Perm (List.range n) → Q (.ref q) H'
theorem ok__law_order (T : Env K mg) : Ok P w K mg base CX0 dd__law_order "_law_order" 2 ["_law_pile_here", "_law_many"] spOrder := by
  obtain ⟨fd__law_take, D__law_take, g__law_take, k__law_take, b__law_take, G__law_take⟩ := ok__law_take (P := P) (w := w) (base := base) T
  obtain ⟨fd, F⟩ := T.c.def_ 20 (d := dd__law_order) rfl
  refine ⟨fd, F, T.gl 20 _ rfl, F.kp, F.bindsN fun _ _ _ _ _ _ us hl => match us, hl with | [_, _], _ => rfl, ?_⟩
  refine F.ok sc__law_order (fun vs H Q E h => ?_) (fun cdv A outer s H vs Q E hr h => ?_)
  · obtain ⟨p, x, n, rfl, hp, hn, q⟩ := h
    rfl
  · obtain ⟨p, x, n, rfl, hp, hn, q⟩ := h
    refine ⟨_, PSs.nox (pss_cons (ps_set (i := 2) sc__law_order.nd rfl (Or.inl rfl) (pe_lst pa_nil))
      (pss_cons (ps_for PassesOwn.never rfl (pi_range1 (by rfl) (T.fr 37 _ rfl) (pa_cons (pv 1) pa_nil)) (pg_name (i := 3) sc__law_order.nd rfl (Or.inl rfl)) (pss_one (ps_expr (pe_bm PySem.F.plainAttrs_list PySem.F.slot_list_insert PySem.F.type_list_insert mt_insert (pv 2) (pa_cons (pe_call G__law_take (hr.mono (by decide)) (by rfl) g__law_take k__law_take b__law_take .nil pass0 (pa_cons (pv 0) (pa_cons (pe_op op_add (pv 3) pe_int) pa_nil))) (pa_cons (pv 3) pa_nil))))))
      (pss_one (ps_ret (pv 2))))), ?_⟩
    walk_at "u"
    refine ⟨by decide, fun o no => ?_⟩
    have npo : p ≠ o := ne_of_none hp no
    refine ⟨_, rfl, _, rfl, by omega, by omega, for_range (lo := 0) (n := (n : Int).toNat) (fun i σ H' => ∃ os x' y, σ = [some (.ref p), some (.int (n : Int)), some (.ref o), y] ∧ But p H H' ∧ H' p = some (.lst [.int x']) ∧ H' o = some (.lst (nV os)) ∧ os.Perm (List.range i))
      ⟨[], x, none, rfl, But.new no, by rw [upd_ne npo]; exact hp, by rw [upd_same]; rfl, List.Perm.refl _⟩ (fun i σ H' hi hP => ?_) (fun σ H' hP => ?_)⟩
    · obtain ⟨os, x', y, rfl, hb, hp', ho, hperm⟩ := hP
      have hl : os.length = i := by rw [hperm.length_eq, List.length_range]
      refine ⟨_, rfl, .inl ⟨rfl, _, .inl (.inl ho)⟩, _, rfl, _, rfl, _, _, rfl, rfl, p, x', _, rfl, hp', by omega, by omega, fun d x2 d0 d1 => ?_⟩
      refine ⟨_, rfl, o, nV os, d, _, rfl, rfl, by rw [upd_ne npo.symm]; exact ho, by rw [nV_len]; exact small_lt (by omega), d0, by omega, ?_⟩
      refine ⟨os.take d.toNat ++ [i] ++ os.drop d.toNat, x2, _, rfl, ?_, ?_, ?_, ?_⟩
      · intro b u nb hb2
        rw [upd_ne (ne_of_none hb2 no), upd_ne nb]
        exact hb b u nb hb2
      · rw [upd_ne npo, upd_same]
      · rw [upd_same, ← nV_ins]
        simp
      · rw [range_snoc]
        exact (perm_ins os d.toNat i).trans ((List.Perm.cons i hperm).trans (List.perm_append_comm (l₁ := [i]) (l₂ := List.range i)))
    · obtain ⟨os, x', y, rfl, hb, hp', ho, hperm⟩ := hP
      refine ⟨_, rfl, ?_⟩
      exact q o os x' H' no hb hp' ho (by simpa using hperm)
def spRoom1 (K : PySem.W.Frag) : Sp := fun vs H Q _ => ∃ (r : Addr) (rs : List Int) (h : Int), vs = [.ref r, .int h] ∧ SqL K H r (iV rs) ∧ 1 ≤ h ∧ Q (.int (roomAt rs h)) H
theorem ok__law_room (T : Env K mg) : Ok P w K mg base CX0 dd__law_room "_law_room" 1 ["_law_rooms", "_law_hour"] (spRoom1 K) := by
  obtain ⟨fd, F⟩ := T.c.def_ 21 (d := dd__law_room) rfl
  refine ⟨fd, F, T.gl 21 _ rfl, F.kp, F.bindsN fun _ _ _ _ _ _ us hl => match us, hl with | [_, _], _ => rfl, ?_⟩
  refine F.ok sc__law_room (fun vs H Q E h => ?_) (fun cdv A outer s H vs Q E hr h => ?_)
  · obtain ⟨r, rs, h, rfl, hr', h1, q⟩ := h
    rfl
  · obtain ⟨r, rs, h, rfl, hr', h1, q⟩ := h
    refine ⟨_, PSs.nox (pss_cons (ps_if (pt_cmpR op_le (pv 1) (pe_callB call_len_seq (by rfl) (T.fr 33 _ rfl) (by decide +kernel) (pa_cons (pv 0) pa_nil)) (nomark _)) (pss_one (ps_ret (pe_ix ix_list (pv 0) (pe_op op_sub (pv 1) pe_int) (fun _ _ => rfl)))) pss_nil)
      (pss_one (ps_ret pe_int))), ?_⟩
    walk_at "u"
    refine ⟨_, rfl, _, rfl, r, iV rs, rfl, .inl hr', _, _, rfl, rfl, _, rfl, ifB (fun e => ?_) (fun e => ?_)⟩
    · have hk : h ≤ (rs.length : Int) := by
        have h2 := of_decide_eq_true e
        rw [iV_len] at h2
        exact h2
      refine ⟨_, rfl, _, rfl, _, _, rfl, rfl, _, _, _, _, rfl, rfl, hr', atI_iV (j := (h - 1).toNat) (by omega) (roomAt_in h1 hk), ?_⟩
      exact q
    · have hk : (rs.length : Int) < h := by
        have h2 := of_decide_eq_false e
        rw [iV_len] at h2
        omega
      rw [roomAt_out hk] at q
      exact q
def spHours : Sp := fun vs H Q _ => ∃ (p oa ra : Addr) (x : Int) (n : Nat) (os : List Nat) (rs : List Int), vs = [.ref p, .ref oa, .ref ra] ∧ H p = some (.lst [.int x]) ∧ H oa = some (.lst (nV os)) ∧ H ra = some (.lst (iV rs)) ∧ oa ≠ p ∧ ra ≠ p ∧ os.Perm (List.range n) ∧ n ≤ 100 ∧ Rooms rs ∧
  ∀ (q : Addr) (hs : List Int) (x' : Int) (H' : Hp), H q = none → But p H H' → H' p = some (.lst [.int x']) → H' q = some (.lst (iV hs)) → hs.length = n → (∀ h ∈ hs, 1 ≤ h ∧ h ≤ 20 + n) → Q (.ref q) H'
theorem ok__law_hours (T : Env K mg) : Ok P w K mg base CX0 dd__law_hours "_law_hours" 2 ["_law_pile_here", "_law_order_here", "_law_rooms"] spHours := by
  obtain ⟨fd__law_room, D__law_room, g__law_room, k__law_room, b__law_room, G__law_room⟩ := ok__law_room (P := P) (w := w) (base := base) T
  obtain ⟨fd__law_take, D__law_take, g__law_take, k__law_take, b__law_take, G__law_take⟩ := ok__law_take (P := P) (w := w) (base := base) T
  obtain ⟨fd, F⟩ := T.c.def_ 22 (d := dd__law_hours) rfl
  refine ⟨fd, F, T.gl 22 _ rfl, F.kp, F.bindsN fun _ _ _ _ _ _ us hl => match us, hl with | [_, _, _], _ => rfl, ?_⟩
  refine F.ok sc__law_hours (fun vs H Q E h => ?_) (fun cdv A outer s H vs Q E hr h => ?_)
  · obtain ⟨p, oa, ra, x, n, os, rs, rfl, hp, hoa, hra, noa, nra, hperm, hn, R, q⟩ := h
    rfl
  · obtain ⟨p, oa, ra, x, n, os, rs, rfl, hp, hoa, hra, noa, nra, hperm, hn, R, q⟩ := h
    refine ⟨_, PSs.nox (pss_cons (ps_setLc (i := 3) (own := [("_law_task", 6)]) (g := gName 6) (tt := tYes) (by rfl) sc__law_hours.nd rfl rfl (sw_true rfl rfl rfl (by decide +kernel)) (pi_list (pv 1)) (blkOk_by (own := [("_law_task", 6)]) (N := N__law_hours) (sc := defScope s__law_hours) (by decide +kernel)) (fun _ _ _ _ _ => (pg_name (i := 6) sc__law_hours.nd rfl (by first | exact Or.inl rfl | exact Or.inr rfl))) (fun _ _ _ _ _ => pts_nil) (fun _ _ _ _ _ => pe_int))
      (pss_cons (ps_set (i := 4) sc__law_hours.nd rfl (Or.inl rfl) pe_int)
      (pss_cons (ps_set (i := 5) sc__law_hours.nd rfl (Or.inl rfl) (pe_call G__law_room (hr.mono (by decide)) (by rfl) g__law_room k__law_room b__law_room .nil pass0 (pa_cons (pv 2) (pa_cons pe_int pa_nil))))
      (pss_cons (ps_for PassesOwn.never rfl (pi_list (pv 1)) (pg_name (i := 6) sc__law_hours.nd rfl (Or.inl rfl)) (pss_cons (ps_while PassesOwn.never (PW.pt (pw_or (pt_cmpR op_eq (pv 5) pe_int (nomark _)) (pw_or1 (PW.pt (pw_and (pt_cmpR op_eq (pe_call G__law_take (hr.mono (by decide)) (by rfl) g__law_take k__law_take b__law_take .nil pass0 (pa_cons (pv 0) (pa_cons pe_int pa_nil))) pe_int (nomark _)) (pw_and1 (pt_cmpR op_lt (pv 4) pe_int (nomark _)))))))) (pss_cons (ps_set (i := 4) sc__law_hours.nd rfl (Or.inl rfl) (pe_op op_add (pv 4) pe_int))
      (pss_one (ps_set (i := 5) sc__law_hours.nd rfl (Or.inl rfl) (pe_call G__law_room (hr.mono (by decide)) (by rfl) g__law_room k__law_room b__law_room .nil pass0 (pa_cons (pv 2) (pa_cons (pv 4) pa_nil)))))))
      (pss_cons (ps_asg (pv 4) (pg_sub (pv 3) (pv 6) set_list))
      (pss_one (ps_set (i := 5) sc__law_hours.nd rfl (Or.inl rfl) (pe_op op_sub (pv 5) pe_int))))))
      (pss_one (ps_ret (pv 3))))))), ?_⟩
    walk_at "u"
    have hl : os.length = n := by rw [hperm.length_eq, List.length_range]
    refine ⟨_, rfl, oa, rfl, ⟨_, SqL.of hoa⟩, fun o no => lc_list (K := K) (a := oa) (xs := nV os) (fun i H' => Same H H' ∧ H' o = some (.lst (iV (List.replicate i 0)))) ⟨same_upd no, upd_same⟩ (fun i H' _ hP => hP.1.seq (SqL.of hoa)) (fun i v H' hv hP => ?_) (fun H' hP => ?_)⟩
    · have hi : i < n := by
        have h2 := (List.getElem?_eq_some_iff.mp hv).1
        rw [nV_len] at h2
        omega
      refine ⟨rfl, ?_⟩
      walk_at "u"
      refine iteT ⟨_, hP.2, by rw [iV_len, List.length_replicate]; exact small_lt (by omega), same_mut hP.1 no, ?_⟩
      rw [upd_same, iV_app, ← List.replicate_succ']
    have npo : p ≠ o := ne_of_none hp no
    obtain ⟨sm, ho⟩ := hP
    rw [nV_len, hl] at ho
    have hra1 : H' ra = some (.lst (iV rs)) := sm _ _ hra
    refine ⟨_, rfl, ra, rs, 1, rfl, SqL.of hra1, by decide, ?_⟩
    refine ⟨_, rfl, oa, rfl, ⟨_, SqL.of (sm _ _ hoa)⟩, for_list (K := K) (a := oa) (xs := nV os) (fun i σ H2 => ∃ hs hour left x' y, σ = [some (.ref p), some (.ref oa), some (.ref ra), some (.ref o), some (.int hour), some (.int left), y] ∧ But p H H2 ∧ H2 p = some (.lst [.int x']) ∧ H2 o = some (.lst (iV hs)) ∧ hs.length = n ∧ 1 ≤ hour ∧ hour ≤ 20 + i ∧ ∀ t, t ∈ os.take i → ∃ h, hs[t]? = some h ∧ 1 ≤ h ∧ h ≤ 20 + n)
      ⟨List.replicate n 0, 1, _, x, none, rfl, But.of sm, sm _ _ hp, ho, List.length_replicate, by decide, by omega, fun t ht => by simp at ht⟩ (fun i σ H2 _ hP => ?_) (fun i v σ H2 hv hP => ?_) (fun σ H2 hP => ?_)⟩
    · obtain ⟨hs, hour, left, x', y, rfl, hb, _⟩ := hP
      exact hb.seq noa (SqL.of hoa)
    · obtain ⟨hs, hour, left, x', y, rfl, hb, hp2, ho2, hhl, h1, h20, hset⟩ := hP
      obtain ⟨t, ht, rfl⟩ := nV_of hv
      have hi : i < n := by
        have h2 := (List.getElem?_eq_some_iff.mp ht).1
        omega
      have htn : t < n := List.mem_range.mp (hperm.mem_iff.mp (List.mem_of_getElem? ht))
      refine ⟨fun m σ H3 => ∃ hour left x', σ = [some (.ref p), some (.ref oa), some (.ref ra), some (.ref o), some (.int hour), some (.int left), some (.int (t : Int))] ∧ But p H H3 ∧ H3 p = some (.lst [.int x']) ∧ H3 o = some (.lst (iV hs)) ∧ 1 ≤ hour ∧ (hour ≤ 20 + i ∨ (hour ≤ 21 + i ∧ left ≠ 0 ∧ 20 ≤ hour)) ∧ m = muH hour left,
        ⟨_, hour, left, x', rfl, hb, hp2, ho2, h1, .inl h20, rfl⟩, fun m σ H3 hW => ?_⟩
      obtain ⟨hour, left, x', rfl, hb, hp3, ho3, h1, h20, rfl⟩ := hW
      have hra3 : H3 ra = some (.lst (iV rs)) := hb _ _ nra hra
      have step : ∀ H4 : Hp, But p H H4 → (∃ x', H4 p = some (.lst [.int x'])) → H4 o = some (.lst (iV hs)) → (left = 0 ∨ hour < 20) → ∃ x', H4 p = some (.lst [.int x']) ∧ H4 ra = some (.lst (iV rs)) ∧ muH (hour + 1) (roomAt rs (hour + 1)) < muH hour left ∧ (hour + 1 ≤ 20 + i ∨ (hour + 1 ≤ 21 + i ∧ roomAt rs (hour + 1) ≠ 0 ∧ 20 ≤ hour + 1)) := fun H4 b4 ⟨x4, p4⟩ o4 hc => by
        have h2 : 20 ≤ hour → roomAt rs (hour + 1) = 2 := fun hh => roomAt_out (by have := R.len; omega)
        refine ⟨x4, p4, b4 _ _ nra hra, muH_lt hc h2, ?_⟩
        by_cases hh : 20 ≤ hour
        · have := h2 hh
          rcases h20 with h20 | ⟨h20, hz, _⟩
          · exact .inr ⟨by omega, by omega, by omega⟩
          · exact absurd (hc.resolve_right (by omega)) hz
        · exact .inl (by omega)
      have fin : (hour ≤ 20 + i ∨ (hour ≤ 21 + i ∧ left ≠ 0 ∧ 20 ≤ hour)) → hour ≤ 20 + ((i + 1 : Nat) : Int) := fun z => by
        rcases z with z | ⟨z, _⟩ <;> omega
      have last : ∀ H4 : Hp, But p H H4 → (∃ x', H4 p = some (.lst [.int x'])) → H4 o = some (.lst (iV hs)) → ∃ hs' x', But p H (upd H4 o (.lst ((iV hs).set t (.int hour)))) ∧ upd H4 o (.lst ((iV hs).set t (.int hour))) p = some (.lst [.int x']) ∧ upd H4 o (.lst ((iV hs).set t (.int hour))) o = some (.lst (iV hs')) ∧ hs'.length = n ∧ ∀ t', t' ∈ os.take (i + 1) → ∃ h, hs'[t']? = some h ∧ 1 ≤ h ∧ h ≤ 20 + n := fun H4 b4 ⟨x4, p4⟩ o4 => by
        refine ⟨hs.set t hour, x4, b4.mut no, by rw [upd_ne npo]; exact p4, by rw [upd_same, iV_set], by rw [List.length_set]; exact hhl, fun t' ht' => ?_⟩
        by_cases e : t' = t
        · subst e
          exact ⟨hour, List.getElem?_set_self (by omega), h1, by have := fin h20; omega⟩
        · rw [List.getElem?_set_ne (fun z => e z.symm)]
          refine hset t' ?_
          rw [List.take_add_one, ht] at ht'
          rcases List.mem_append.mp ht' with z | z
          · exact z
          · exact absurd (by simpa using z) e
      refine ⟨_, rfl, rfl, _, rfl, ifB (fun e => iteT ?_) (fun e => ?_)⟩
      · have hz : left = 0 := V.int.inj (of_decide_eq_true e)
        obtain ⟨x4, p4, r4, m4, i4⟩ := step H3 hb ⟨_, hp3⟩ ho3 (.inl hz)
        refine ⟨fun σ' H' => ∃ m', m' < muH hour left ∧ _, fun _ _ z => z, ?_⟩
        refine ⟨_, rfl, _, _, rfl, rfl, _, rfl, _, rfl, ra, rs, _, rfl, SqL.of r4, by omega, ?_⟩
        exact ⟨_, m4, _, _, x4, rfl, hb, p4, ho3, by omega, i4, rfl⟩
      · refine ⟨_, rfl, p, x', 6, rfl, hp3, by decide, by decide, fun d x4 d0 d1 => ?_⟩
        have b4 : But p H (upd H3 p (.lst [.int x4])) := hb.trans But.upd
        have o4 : upd H3 p (.lst [.int x4]) o = some (.lst (iV hs)) := by
          rw [upd_ne npo.symm]
          exact ho3
        have p4 : upd H3 p (.lst [.int x4]) p = some (.lst [.int x4]) := upd_same
        refine ⟨rfl, _, rfl, ifB (fun e2 => ?_) (fun e2 => iteF ?_)⟩
        · refine ⟨_, rfl, _, _, rfl, rfl, _, rfl, ifB (fun e3 => ?_) (fun e3 => ?_)⟩
          · have hz : hour < 20 := of_decide_eq_true e3
            obtain ⟨x5, p5, r5, m5, i5⟩ := step _ b4 ⟨_, p4⟩ o4 (.inr hz)
            refine ⟨fun σ' H' => ∃ m', m' < muH hour left ∧ _, fun _ _ z => z, ?_⟩
            refine ⟨_, rfl, _, _, rfl, rfl, _, rfl, _, rfl, ra, rs, _, rfl, SqL.of r5, by omega, ?_⟩
            exact ⟨_, m5, _, _, x5, rfl, b4, p5, o4, by omega, i5, rfl⟩
          · obtain ⟨hs', x5, l1, l2, l3, l4, l5⟩ := last _ b4 ⟨_, p4⟩ o4
            refine ⟨_, rfl, _, rfl, _, rfl, _, _, _, t, rfl, rfl, o4, ixN_at rfl (by rw [iV_len]; omega), _, rfl, _, _, rfl, rfl, ?_⟩
            exact ⟨hs', hour, _, x5, _, rfl, l1, l2, l3, l4, h1, fin h20, l5⟩
        · obtain ⟨hs', x5, l1, l2, l3, l4, l5⟩ := last _ b4 ⟨_, p4⟩ o4
          refine ⟨_, rfl, _, rfl, _, rfl, _, _, _, t, rfl, rfl, o4, ixN_at rfl (by rw [iV_len]; omega), _, rfl, _, _, rfl, rfl, ?_⟩
          exact ⟨hs', hour, _, x5, _, rfl, l1, l2, l3, l4, h1, fin h20, l5⟩
    · obtain ⟨hs, hour, left, x', y, rfl, hb, hp2, ho2, hhl, h1, h20, hset⟩ := hP
      refine ⟨_, rfl, ?_⟩
      refine q o hs x' H2 no hb hp2 ho2 hhl fun h hh => ?_
      obtain ⟨t, ht⟩ := List.getElem?_of_mem hh
      have htn : t < n := by
        have := (List.getElem?_eq_some_iff.mp ht).1
        omega
      obtain ⟨h', e1, e2, e3⟩ := hset t (by
        rw [nV_len, List.take_length]
        exact hperm.mem_iff.mpr (List.mem_range.mpr htn))
      rw [ht] at e1
      cases e1
      exact ⟨e2, e3⟩
def spNeeds : Sp := fun vs H Q _ => ∃ (p oa ha : Addr) (x : Int) (n : Nat) (os : List Nat) (hs : List Int), vs = [.ref p, .ref oa, .ref ha] ∧ H p = some (.lst [.int x]) ∧ H oa = some (.lst (nV os)) ∧ H ha = some (.lst (iV hs)) ∧ oa ≠ p ∧ ha ≠ p ∧ os.Perm (List.range n) ∧ hs.length = n ∧ n ≤ 100 ∧
  ∀ (q : Addr) (zs : List (Addr × Nat × Nat)) (x' : Int) (H' : Hp), H q = none → But p H H' → H' p = some (.lst [.int x']) → NeedsAt H' q zs → zs.length ≤ 30 → (zs.map (·.2)).Nodup → Along os zs n 0 → Q (.ref q) H'
theorem ok__law_needs (T : Env K mg) : Ok P w K mg base CX0 dd__law_needs "_law_needs" 2 ["_law_pile_here", "_law_order_here", "_law_hours_here"] spNeeds := by
  obtain ⟨fd__law_take, D__law_take, g__law_take, k__law_take, b__law_take, G__law_take⟩ := ok__law_take (P := P) (w := w) (base := base) T
  obtain ⟨fd, F⟩ := T.c.def_ 23 (d := dd__law_needs) rfl
  refine ⟨fd, F, T.gl 23 _ rfl, F.kp, F.bindsN fun _ _ _ _ _ _ us hl => match us, hl with | [_, _, _], _ => rfl, ?_⟩
  refine F.ok sc__law_needs (fun vs H Q E h => ?_) (fun cdv A outer s H vs Q E hr h => ?_)
  · obtain ⟨p, oa, ha, x, n, os, hs, rfl, hp, hoa, hha, noa, nha, hperm, hhl, hn, q⟩ := h
    rfl
  · obtain ⟨p, oa, ha, x, n, os, hs, rfl, hp, hoa, hha, noa, nha, hperm, hhl, hn, q⟩ := h
    refine ⟨_, PSs.nox (pss_cons (ps_set (i := 3) sc__law_needs.nd rfl (Or.inl rfl) (pe_cmpR op_eq (pe_call G__law_take (hr.mono (by decide)) (by rfl) g__law_take k__law_take b__law_take .nil pass0 (pa_cons (pv 0) (pa_cons pe_int pa_nil))) pe_int (nomark _)))
      (pss_cons (ps_set (i := 4) sc__law_needs.nd rfl (Or.inl rfl) (pe_op op_add pe_int (pe_call G__law_take (hr.mono (by decide)) (by rfl) g__law_take k__law_take b__law_take .nil pass0 (pa_cons (pv 0) (pa_cons pe_int pa_nil)))))
      (pss_cons (ps_set (i := 5) sc__law_needs.nd rfl (Or.inl rfl) (pe_lst pa_nil))
      (pss_cons (ps_for PassesOwn.never rfl (pi_range1 (by rfl) (T.fr 37 _ rfl) (pa_cons (pe_callB call_len_seq (by rfl) (T.fr 33 _ rfl) (by decide +kernel) (pa_cons (pv 1) pa_nil)) pa_nil)) (pg_name (i := 6) sc__law_needs.nd rfl (Or.inl rfl)) (pss_one (ps_for PassesOwn.never rfl (pi_range1 (by rfl) (T.fr 37 _ rfl) (pa_cons (pv 6) pa_nil)) (pg_name (i := 7) sc__law_needs.nd rfl (Or.inl rfl)) (pss_cons (ps_par (i := 8) (j := 9) (by rfl) sc__law_needs.nd rfl rfl (by decide) rfl rfl (pa_cons (pe_ix ix_list (pv 1) (pv 7) (fun _ _ => rfl)) (pa_cons (pe_ix ix_list (pv 1) (pv 6) (fun _ _ => rfl)) pa_nil)) (by rfl))
      (pss_one (ps_if (PW.pt (pw_and (pt_cmpR op_lt (pe_callB call_len_seq (by rfl) (T.fr 33 _ rfl) (by decide +kernel) (pa_cons (pv 5) pa_nil)) pe_int (nomark _)) (pw_and (PW.pt (pw_or (pt_val (pv 3)) (pw_or1 (pt_cmpR op_lt (pe_ix ix_list (pv 2) (pv 8) (fun _ _ => rfl)) (pe_ix ix_list (pv 2) (pv 9) (fun _ _ => rfl)) (nomark _))))) (pw_and1 (pt_cmpR op_eq (pe_call G__law_take (hr.mono (by decide)) (by rfl) g__law_take k__law_take b__law_take .nil pass0 (pa_cons (pv 0) (pa_cons (pv 4) pa_nil))) pe_int (nomark _)))))) (pss_one (ps_expr (pe_bm PySem.F.plainAttrs_list PySem.F.slot_list_insert PySem.F.type_list_insert mt_insert (pv 5) (pa_cons (pe_call G__law_take (hr.mono (by decide)) (by rfl) g__law_take k__law_take b__law_take .nil pass0 (pa_cons (pv 0) (pa_cons (pe_op op_add (pe_callB call_len_seq (by rfl) (T.fr 33 _ rfl) (by decide +kernel) (pa_cons (pv 5) pa_nil)) pe_int) pa_nil))) (pa_cons (pe_tup (pa_cons (pv 8) (pa_cons (pv 9) pa_nil))) pa_nil))))) pss_nil))))))
      (pss_one (ps_ret (pv 5))))))), ?_⟩
    walk_at "u"
    have hl : os.length = n := by rw [hperm.length_eq, List.length_range]
    have hnd := nodup_of_perm hperm
    have hlt : ∀ {i t : Nat}, os[i]? = some t → t < n := fun h => List.mem_range.mp (hperm.mem_iff.mp (List.mem_of_getElem? h))
    refine ⟨_, rfl, p, x, 4, rfl, hp, by decide, by decide, fun d1 x1 _ _ => ⟨rfl, ?_⟩⟩
    generalize hloose : decide (V.int d1 = V.int 0) = loose
    refine ⟨_, rfl, p, x1, 5, rfl, upd_same, by decide, by decide, fun d2 x2 d20 d21 => ⟨_, _, rfl, rfl, (show 0 ≤ sizeLine by decide), fun o no => ?_⟩⟩
    have hb0 : But p H (upd (upd H p (.lst [.int x1])) p (.lst [.int x2])) := But.upd.trans But.upd
    have npo : p ≠ o := ne_of_none (o := .lst [.int x2]) upd_same no
    have no0 : H o = none := hb0.free npo.symm no
    have hb1 : But p H (upd (upd (upd H p (.lst [.int x1])) p (.lst [.int x2])) o (.lst [])) := hb0.trans (But.new no)
    refine ⟨_, rfl, oa, _, rfl, .inl (hb1.seq noa (SqL.of hoa)), _, rfl, ?_⟩
    rw [nV_len, hl]
    refine ⟨by omega, by omega, for_range (lo := 0) (n := (n : Int).toNat) (fun j σ H2 => ∃ zs x' y6 y7 y8 y9, σ = [some (.ref p), some (.ref oa), some (.ref ha), some (.bl loose), some (.int (2 + d2)), some (.ref o), y6, y7, y8, y9] ∧ But p H H2 ∧ H2 p = some (.lst [.int x']) ∧ NeedsAt H2 o zs ∧ zs.length ≤ 30 ∧ (zs.map (·.2)).Nodup ∧ Along os zs j 0)
      ⟨[], x2, none, none, none, none, rfl, hb1, by rw [upd_ne npo, upd_same], ⟨upd_same, fun z hz => by cases hz⟩, by decide, List.nodup_nil, fun z hz => by cases hz⟩ (fun j σ H2 hj hP => ?_) (fun σ H2 hP => ?_)⟩
    · obtain ⟨zs, x', y6, y7, y8, y9, rfl, hb, hp2, hz, hzl, hznd, hal⟩ := hP
      have hj2 : j < n := by omega
      have e0 : (0 : Int) + (j : Int) = (j : Int) := Int.zero_add _
      refine ⟨_, rfl, _, rfl, by omega, by omega, for_range (lo := 0) (n := ((0 : Int) + (j : Int)).toNat) (fun k σ H2 => ∃ zs x' y7 y8 y9, σ = [some (.ref p), some (.ref oa), some (.ref ha), some (.bl loose), some (.int (2 + d2)), some (.ref o), some (.int (0 + (j : Int))), y7, y8, y9] ∧ But p H H2 ∧ H2 p = some (.lst [.int x']) ∧ NeedsAt H2 o zs ∧ zs.length ≤ 30 ∧ (zs.map (·.2)).Nodup ∧ Along os zs j k)
        ⟨zs, x', y7, y8, y9, rfl, hb, hp2, hz, hzl, hznd, hal⟩ (fun k σ H3 hk hP => ?_) (fun σ H3 hP => ?_)⟩
      · obtain ⟨zs, x', y7, y8, y9, rfl, hb, hp3, hz, hzl, hznd, hal⟩ := hP
        have hkj : k < j := by omega
        obtain ⟨a, hak⟩ : ∃ a, os[k]? = some a := ⟨_, List.getElem?_eq_getElem (by omega)⟩
        obtain ⟨b, hbj⟩ : ∃ b, os[j]? = some b := ⟨_, List.getElem?_eq_getElem (by omega)⟩
        have hoa3 := hb _ _ noa hoa
        have hha3 := hb _ _ nha hha
        obtain ⟨ta, hta⟩ : ∃ z, hs[a]? = some z := ⟨_, List.getElem?_eq_getElem (by have := hlt hak; omega)⟩
        obtain ⟨tb, htb⟩ : ∃ z, hs[b]? = some z := ⟨_, List.getElem?_eq_getElem (by have := hlt hbj; omega)⟩
        refine ⟨_, rfl, _, rfl, _, _, _, _, rfl, rfl, SqL.of hoa3, atI_nV (j := k) (by omega) hak, _, rfl, _, rfl, _, _, _, _, rfl, rfl, SqL.of hoa3, atI_nV (j := j) (by omega) hbj, _, _, rfl, ?_⟩
        refine ⟨_, rfl, o, _, rfl, .inl (SqL.of hz.1), _, _, rfl, rfl, _, rfl, ifB (fun e1 => ?_) (fun e1 => iteF ?_)⟩
        · have skip : ∀ x3, ∃ zs' x4 y7' y8' y9', [some (V.ref p), some (.ref oa), some (.ref ha), some (.bl loose), some (.int (2 + d2)), some (.ref o), some (.int (0 + (j : Int))), some (.int (0 + (k : Int))), some (.int (a : Int)), some (.int (b : Int))] = [some (V.ref p), some (.ref oa), some (.ref ha), some (.bl loose), some (.int (2 + d2)), some (.ref o), some (.int (0 + (j : Int))), y7', y8', y9'] ∧ But p H (upd H3 p (.lst [.int x3])) ∧ (upd H3 p (.lst [.int x3])) p = some (.lst [.int x4]) ∧ NeedsAt (upd H3 p (.lst [.int x3])) o zs' ∧ zs'.length ≤ 30 ∧ (zs'.map (·.2)).Nodup ∧ Along os zs' j (k + 1) := fun x3 =>
            ⟨zs, x3, _, _, _, rfl, hb.trans But.upd, upd_same, hz.but hp3 npo.symm But.upd, hzl, hznd, hal.mono (.inr ⟨rfl, Nat.le_succ k⟩)⟩
          have take2 : ∀ x3 d x4 T, 0 ≤ d → d < (zs.length : Int) + 1 → (upd (upd H3 p (.lst [.int x3])) p (.lst [.int x4])) T = none → ∃ zs' x4' y7' y8' y9', [some (V.ref p), some (.ref oa), some (.ref ha), some (.bl loose), some (.int (2 + d2)), some (.ref o), some (.int (0 + (j : Int))), some (.int (0 + (k : Int))), some (.int (a : Int)), some (.int (b : Int))] = [some (V.ref p), some (.ref oa), some (.ref ha), some (.bl loose), some (.int (2 + d2)), some (.ref o), some (.int (0 + (j : Int))), y7', y8', y9'] ∧ But p H (upd (upd (upd (upd H3 p (.lst [.int x3])) p (.lst [.int x4])) T (.tup [.int (a : Int), .int (b : Int)])) o (.lst ((zs.map fun z => V.ref z.1).take d.toNat ++ [.ref T] ++ (zs.map fun z => V.ref z.1).drop d.toNat))) ∧ (upd (upd (upd (upd H3 p (.lst [.int x3])) p (.lst [.int x4])) T (.tup [.int (a : Int), .int (b : Int)])) o (.lst ((zs.map fun z => V.ref z.1).take d.toNat ++ [.ref T] ++ (zs.map fun z => V.ref z.1).drop d.toNat))) p = some (.lst [.int x4']) ∧ NeedsAt (upd (upd (upd (upd H3 p (.lst [.int x3])) p (.lst [.int x4])) T (.tup [.int (a : Int), .int (b : Int)])) o (.lst ((zs.map fun z => V.ref z.1).take d.toNat ++ [.ref T] ++ (zs.map fun z => V.ref z.1).drop d.toNat))) o zs' ∧ zs'.length ≤ 30 ∧ (zs'.map (·.2)).Nodup ∧ Along os zs' j (k + 1) := fun x3 d x4 T hd0 hd1 nT => by
            have hz4 : NeedsAt (upd (upd H3 p (.lst [.int x3])) p (.lst [.int x4])) o zs := (hz.but hp3 npo.symm But.upd).but upd_same npo.symm But.upd
            have hp4 : (upd (upd H3 p (.lst [.int x3])) p (.lst [.int x4])) p = some (.lst [.int x4]) := upd_same
            refine ⟨zs.take d.toNat ++ [(T, a, b)] ++ zs.drop d.toNat, x4, _, _, _, rfl, ?_, by rw [upd_ne npo, upd_ne (ne_of_none hp4 nT)]; exact hp4, hz4.ins nT, ?_, ?_, ?_⟩
            · exact But.mut (((hb.trans But.upd).trans But.upd).trans (But.new nT)) no0
            · rw [(perm_ins zs d.toNat (T, a, b)).length_eq, List.length_cons]
              have h1 : zs.length < 30 := by
                have h3 := of_decide_eq_true e1
                simp only [List.length_map] at h3
                omega
              omega
            · refine (((perm_ins zs d.toNat (T, a, b)).map (·.2)).nodup_iff).mpr ?_
              rw [List.map_cons]
              refine List.nodup_cons.mpr ⟨fun hm => ?_, hznd⟩
              obtain ⟨z, hz1, hz2⟩ := List.mem_map.mp hm
              obtain ⟨j', k', l1, l2, l3, l4⟩ := hal z hz1
              rw [hz2] at l2 l3
              have e1 := ix_of_nodup hnd l2 hak
              have e2 := ix_of_nodup hnd l3 hbj
              omega
            · intro z hz1
              rcases List.mem_cons.mp ((perm_ins zs d.toNat (T, a, b)).mem_iff.mp hz1) with e | hz2
              · subst e
                exact ⟨j, k, hkj, hak, hbj, .inr ⟨rfl, Nat.lt_succ_self k⟩⟩
              · exact hal.mono (k2 := k + 1) (.inr ⟨rfl, Nat.le_succ k⟩) z hz2
          refine ⟨_, rfl, _, rfl, ?_⟩
          refine' iteJ (X := Bool) (fun e rest => ?_) (fun e rest => ?_) (fun c => ?_)
          rotate_left 2
          · refine ⟨_, rfl, _, rfl, _, _, _, _, rfl, rfl, SqL.of hha3, atI_iV (j := a) (by omega) hta, _, rfl, _, rfl, _, _, _, _, rfl, rfl, SqL.of hha3, atI_iV (j := b) (by omega) htb, _, _, rfl, rfl, ?_⟩
            obtain ⟨kk, hkk⟩ : ∃ kk, decide (ta < tb) = kk := ⟨_, rfl⟩
            refine ⟨kk, congrArg V.bl hkk, ?_⟩
            exact rest kk
          · refine ifB (fun _ => ?_) (fun _ => iteF ?_)
            · refine ⟨_, rfl, _, rfl, p, x', _, rfl, hp3, by omega, by omega, fun d x3 _ _ => ⟨rfl, _, rfl, ifB (fun _ => ?_) (fun _ => ?_)⟩⟩
              · have hq3 : (upd H3 p (.lst [.int x3])) o = some (.lst (zs.map fun z => V.ref z.1)) := by
                  rw [upd_ne npo.symm]
                  exact hz.1
                refine ⟨_, rfl, .inl ⟨rfl, _, .inl (.inl hq3)⟩, _, rfl, _, rfl, o, _, rfl, .inl (SqL.of hq3), _, _, rfl, rfl, p, x3, _, rfl, upd_same, ?_⟩
                rw [List.length_map]
                refine ⟨by omega, by omega, fun d x4 hd0 hd1 => ?_⟩
                refine ⟨_, rfl, _, rfl, (show 2 ≤ sizeLine by decide), fun T nT => ?_⟩
                have hq4 : (upd (upd (upd H3 p (.lst [.int x3])) p (.lst [.int x4])) T (.tup [.int (a : Int), .int (b : Int)])) o = some (.lst (zs.map fun z => V.ref z.1)) := by
                  have hq5 : (upd (upd H3 p (.lst [.int x3])) p (.lst [.int x4])) o = some (.lst (zs.map fun z => V.ref z.1)) := by
                    rw [upd_ne npo.symm]
                    exact hq3
                  rw [upd_ne (ne_of_none hq5 nT)]
                  exact hq5
                refine ⟨o, _, d, _, rfl, rfl, hq4, by rw [List.length_map]; exact small_lt (by omega), hd0, by omega, ?_⟩
                exact take2 x3 d x4 T hd0 hd1 nT
              · exact skip x3
            · exact ⟨zs, x', _, _, _, rfl, hb, hp3, hz, hzl, hznd, hal.mono (.inr ⟨rfl, Nat.le_succ k⟩)⟩
          · exact rest true
        · exact ⟨zs, x', _, _, _, rfl, hb, hp3, hz, hzl, hznd, hal.mono (.inr ⟨rfl, Nat.le_succ k⟩)⟩
      · obtain ⟨zs, x', y7, y8, y9, rfl, hb, hp3, hz, hzl, hznd, hal⟩ := hP
        exact ⟨zs, x', _, _, _, _, rfl, hb, hp3, hz, hzl, hznd, hal.mono (.inl (Nat.lt_succ_self j))⟩
    · obtain ⟨zs, x', y6, y7, y8, y9, rfl, hb, hp2, hz, hzl, hznd, hal⟩ := hP
      exact ⟨_, rfl, q o zs x' H2 no0 hb hp2 hz hzl hznd (by simpa using hal)⟩

def spJob : Sp := fun vs H Q _ => ∃ (p : Addr) (x wide : Int) (most : Nat), vs = [.ref p, .int (most : Int), .int wide] ∧ H p = some (.lst [.int x]) ∧ most ≤ 50 ∧ 0 ≤ wide ∧ wide ≤ 1 ∧
  ∀ (J f d n r : Addr) (fs : List Int) (ds : List (Option Int)) (zs : List (Addr × Nat × Nat)) (rs : List Int) (x' : Int) (H' : Hp), H J = none → But p H H' → H' p = some (.lst [.int x']) → JobAt H' J f d n r fs ds zs rs → Valid fs ds zs rs →
    fs.length ≤ most → (3 ∈ rs → fs.length ≤ 9) → (∀ y ∈ rs, y ≤ 2 + wide) → f ≠ p → d ≠ p → n ≠ p → r ≠ p → Q (.ref J) H'
theorem ok__law_job (T : Env K mg) : Ok P w K mg base CX0 dd__law_job "_law_job" 3 ["_law_pile_here", "_law_most", "_law_wide"] spJob := by
  obtain ⟨fd__law_order, D__law_order, g__law_order, k__law_order, b__law_order, G__law_order⟩ := ok__law_order (P := P) (w := w) (base := base) T
  obtain ⟨fd__law_hours, D__law_hours, g__law_hours, k__law_hours, b__law_hours, G__law_hours⟩ := ok__law_hours (P := P) (w := w) (base := base) T
  obtain ⟨fd__law_needs, D__law_needs, g__law_needs, k__law_needs, b__law_needs, G__law_needs⟩ := ok__law_needs (P := P) (w := w) (base := base) T
  obtain ⟨fd__law_take, D__law_take, g__law_take, k__law_take, b__law_take, G__law_take⟩ := ok__law_take (P := P) (w := w) (base := base) T
  obtain ⟨fd, F⟩ := T.c.def_ 24 (d := dd__law_job) rfl
  refine ⟨fd, F, T.gl 24 _ rfl, F.kp, F.bindsN fun _ _ _ _ _ _ us hl => match us, hl with | [_, _, _], _ => rfl, ?_⟩
  refine F.ok sc__law_job (fun vs H Q E h => ?_) (fun cdv A outer s H vs Q E hr h => ?_)
  · obtain ⟨p, x, wide, most, rfl, hp, hmost, w0, w1, q⟩ := h
    rfl
  · obtain ⟨p, x, wide, most, rfl, hp, hmost, w0, w1, q⟩ := h
    refine ⟨_, PSs.nox (pss_cons (ps_setLc (i := 3) (own := [("_law_k", 12)]) (g := gName 12) (tt := tYes) (by rfl) sc__law_job.nd rfl rfl (sw_true rfl rfl rfl (by decide +kernel)) (pi_range1 (by rfl) (T.fr 37 _ rfl) (pa_cons (pe_call G__law_take (hr.mono (by decide)) (by rfl) g__law_take k__law_take b__law_take .nil pass0 (pa_cons (pv 0) (pa_cons pe_int pa_nil))) pa_nil)) (blkOk_by (own := [("_law_k", 12)]) (N := N__law_job) (sc := defScope s__law_job) (by decide +kernel)) (fun _ _ _ _ _ => (pg_name (i := 12) sc__law_job.nd rfl (by first | exact Or.inl rfl | exact Or.inr rfl))) (fun _ _ _ _ _ => pts_nil) (fun _ _ _ _ _ => (pe_ix (r := rIxL K) ix_list (pe_lst (pa_cons pe_int (pa_cons pe_int (pa_cons pe_int (pa_cons pe_int (pa_cons pe_int (pa_cons pe_int (pa_cons (pe_op op_add pe_int (pv 2)) pa_nil)))))))) (pe_call G__law_take (hr.mono (by decide)) (by rfl) g__law_take k__law_take b__law_take .nil pass0 (pa_cons (pv 0) (pa_cons pe_int pa_nil))) (fun _ _ => rfl))))
      (pss_cons (ps_if (pt_cmpR op_in_seq pe_int (pv 3) (by rfl)) (pss_one (ps_set (i := 1) sc__law_job.nd rfl (Or.inl rfl) (pe_callB (call_min2 rfl) (by rfl) (T.fr 41 _ rfl) (by decide +kernel) (pa_cons (pv 1) (pa_cons pe_int pa_nil))))) pss_nil)
      (pss_cons (ps_set (i := 4) sc__law_job.nd rfl (Or.inl rfl) (pe_call G__law_order (hr.mono (by decide)) (by rfl) g__law_order k__law_order b__law_order .nil pass0 (pa_cons (pv 0) (pa_cons (pe_call G__law_take (hr.mono (by decide)) (by rfl) g__law_take k__law_take b__law_take .nil pass0 (pa_cons (pv 0) (pa_cons (pe_op op_add (pv 1) pe_int) pa_nil))) pa_nil))))
      (pss_cons (ps_set (i := 5) sc__law_job.nd rfl (Or.inl rfl) (pe_call G__law_hours (hr.mono (by decide)) (by rfl) g__law_hours k__law_hours b__law_hours .nil pass0 (pa_cons (pv 0) (pa_cons (pv 4) (pa_cons (pv 3) pa_nil)))))
      (pss_cons (ps_set (i := 6) sc__law_job.nd rfl (Or.inl rfl) (pe_call G__law_needs (hr.mono (by decide)) (by rfl) g__law_needs k__law_needs b__law_needs .nil pass0 (pa_cons (pv 0) (pa_cons (pv 4) (pa_cons (pv 5) pa_nil)))))
      (pss_cons (ps_setLc (i := 7) (own := [("_law_hour", 10)]) (g := gName 10) (tt := tYes) (by rfl) sc__law_job.nd rfl rfl (sw_true rfl rfl rfl (by decide +kernel)) (pi_list (pv 5)) (blkOk_by (own := [("_law_hour", 10)]) (N := N__law_job) (sc := defScope s__law_job) (by decide +kernel)) (fun _ _ _ _ _ => (pg_name (i := 10) sc__law_job.nd rfl (by first | exact Or.inl rfl | exact Or.inr rfl))) (fun _ _ _ _ _ => pts_nil) (fun _ _ _ _ _ => (pe_callB (call_max2 rfl) (by rfl) (T.fr 39 _ rfl) (by decide +kernel) (pa_cons pe_int (pa_cons (pe_op op_sub (pv 10) (pe_ix (r := rIxL K) ix_list (pe_lst (pa_cons pe_int (pa_cons pe_int (pa_cons pe_int (pa_cons pe_int (pa_cons pe_int pa_nil)))))) (pe_call G__law_take (hr.mono (by decide)) (by rfl) g__law_take k__law_take b__law_take .nil pass0 (pa_cons (pv 0) (pa_cons pe_int pa_nil))) (fun _ _ => rfl))) pa_nil)))))
      (pss_cons (ps_set (i := 8) sc__law_job.nd rfl (Or.inl rfl) (pe_ix ix_list (pe_lst (pa_cons (pe_lst (pa_cons pe_int (pa_cons pe_int (pa_cons pe_int (pa_cons pe_int pa_nil))))) (pa_cons (pe_lst (pa_cons pe_int (pa_cons pe_int (pa_cons pe_int (pa_cons pe_int pa_nil))))) (pa_cons (pe_lst (pa_cons pe_int (pa_cons pe_int (pa_cons pe_int (pa_cons pe_int pa_nil))))) (pa_cons (pe_lst (pa_cons (pe_un un_neg pe_int) (pa_cons pe_int (pa_cons pe_int (pa_cons pe_int pa_nil))))) pa_nil))))) (pe_call G__law_take (hr.mono (by decide)) (by rfl) g__law_take k__law_take b__law_take .nil pass0 (pa_cons (pv 0) (pa_cons pe_int pa_nil))) (fun _ _ => rfl)))
      (pss_cons (ps_set (i := 9) sc__law_job.nd rfl (Or.inl rfl) (pe_lst pa_nil))
      (pss_cons (ps_for PassesOwn.never rfl (pi_list (pv 5)) (pg_name (i := 10) sc__law_job.nd rfl (Or.inl rfl)) (pss_cons (ps_set (i := 11) sc__law_job.nd rfl (Or.inl rfl) (pe_callB (call_max2 rfl) (by rfl) (T.fr 39 _ rfl) (by decide +kernel) (pa_cons pe_int (pa_cons (pe_op op_add (pv 10) (pe_ix ix_list (pv 8) (pe_call G__law_take (hr.mono (by decide)) (by rfl) g__law_take k__law_take b__law_take .nil pass0 (pa_cons (pv 0) (pa_cons pe_int pa_nil))) (fun _ _ => rfl))) pa_nil))))
      (pss_one (ps_expr (pe_bm PySem.F.plainAttrs_list PySem.F.slot_list_append PySem.F.type_list_append mt_append (pv 9) (pa_cons (pe_ix ix_list (pe_lst (pa_cons (pv 11) (pa_cons (pv 11) (pa_cons (pv 11) (pa_cons pe_non pa_nil))))) (pe_call G__law_take (hr.mono (by decide)) (by rfl) g__law_take k__law_take b__law_take .nil pass0 (pa_cons (pv 0) (pa_cons pe_int pa_nil))) (fun _ _ => rfl)) pa_nil))))))
      (pss_one (ps_ret (pe_tup (pa_cons (pv 7) (pa_cons (pv 9) (pa_cons (pv 6) (pa_cons (pv 3) pa_nil)))))))))))))))), ?_⟩
    walk_at "u"
    -- rooms
    refine ⟨_, rfl, p, x, 9, rfl, hp, by decide, by decide, fun nr x1 nr0 nr1 => ⟨nr, rfl, by omega, by omega, fun D nD => ?_⟩⟩
    have hb1 : But p H (upd H p (.lst [.int x1])) := But.upd
    have hp1 : (upd H p (.lst [.int x1])) p = some (.lst [.int x1]) := upd_same
    have npD : p ≠ D := ne_of_none hp1 nD
    have nD0 : H D = none := hb1.free npD.symm nD
    refine lc_range (lo := 0) (n := nr.toNat) (fun i H' => ∃ x' rs, But p H H' ∧ H' p = some (.lst [.int x']) ∧ H' D = some (.lst (iV rs)) ∧ rs.length = i ∧ ∀ y ∈ rs, 0 ≤ y ∧ y ≤ 2 + wide)
      ⟨x1, [], hb1.trans (But.new nD), by rw [upd_ne npD]; exact hp1, upd_same, rfl, fun y hy => by cases hy⟩ (fun i H2 hi hP => ?_) (fun H2 hP => ?_)
    · obtain ⟨x', rs, hb, hp2, hD, hl, hv⟩ := hP
      refine ⟨rfl, ?_⟩
      walk_at "u"
      refine iteT ⟨_, rfl, _, _, rfl, rfl, (show 7 ≤ sizeLine by decide), fun q2 nq2 => ?_⟩
      have np2 : p ≠ q2 := ne_of_none hp2 nq2
      refine ⟨_, rfl, p, x', 7, rfl, by rw [upd_ne np2]; exact hp2, by decide, by decide, fun d x2 d0 d1 => ?_⟩
      obtain ⟨y, hy, hy0, hy1⟩ : ∃ y, ([0, 1, 2, 2, 1, 2, 2 + wide] : List Int)[d.toNat]? = some y ∧ 0 ≤ y ∧ y ≤ 2 + wide := by
        have : d = 0 ∨ d = 1 ∨ d = 2 ∨ d = 3 ∨ d = 4 ∨ d = 5 ∨ d = 6 := by omega
        rcases this with e | e | e | e | e | e | e <;> subst e <;> exact ⟨_, rfl, by omega, by omega⟩
      have hq : (upd (upd H2 q2 (.lst (iV [0, 1, 2, 2, 1, 2, 2 + wide]))) p (.lst [.int x2])) q2 = some (.lst (iV [0, 1, 2, 2, 1, 2, 2 + wide])) := by
        rw [upd_ne np2.symm, upd_same]
      have hnD : q2 ≠ D := fun e => by
        rw [← e, nq2] at hD
        cases hD
      refine ⟨_, _, _, _, rfl, rfl, SqL.of hq, atI_iV (j := d.toNat) (by omega) hy, iV rs, ?_, by rw [iV_len]; exact small_lt (by omega), x2, rs ++ [y], ?_, ?_, ?_, by rw [List.length_append, hl]; rfl, fun z hz => ?_⟩
      · rw [upd_ne npD.symm, upd_ne hnD.symm]
        exact hD
      · exact But.mut ((hb.trans (But.new nq2)).trans But.upd) nD0
      · rw [upd_ne npD, upd_same]
      · rw [upd_same, iV_app]
      · rcases List.mem_append.mp hz with h | h
        · exact hv z h
        · have e : z = y := by simpa using h
          subst e
          exact ⟨hy0, hy1⟩
    obtain ⟨x2, rs, hb2, hp2, hD, hrl, hrv⟩ := hP
    have R : Rooms rs := ⟨by omega, fun y hy => ⟨(hrv y hy).1, by have := (hrv y hy).2; omega⟩⟩
    -- if 3 in rooms: most = min(most, 9)
    refine ⟨_, rfl, D, _, rfl, .inl (SqL.of hD), rfl, flat_iV _, _, rfl, ?_⟩
    refine' iteJP (X := Nat) (fun m => m ≤ most ∧ (3 ∈ rs → m ≤ 9)) (fun e rest => ?_) (fun e rest => ?_) (fun m hc => ?_)
    rotate_left
    · have hm : 3 ∈ rs → (if (9 : Int) < (most : Int) then (9 : Int) else (most : Int)) ≤ 9 := fun _ => by split <;> omega
      obtain ⟨m, hm1, hm2, hm3⟩ : ∃ m : Nat, (if (9 : Int) < (most : Int) then (9 : Int) else (most : Int)) = (m : Int) ∧ m ≤ most ∧ m ≤ 9 := by
        by_cases h9 : (9 : Int) < (most : Int)
        · exact ⟨9, by rw [if_pos h9]; rfl, by omega, by omega⟩
        · exact ⟨most, by rw [if_neg h9], by omega, by omega⟩
      refine ⟨_, rfl, (most : Int), 9, rfl, ?_⟩
      rw [hm1]
      exact rest m ⟨hm2, fun _ => hm3⟩
    · have h3 : ¬ 3 ∈ rs := fun h => by
        have e2 : inV (.int 3) (iV rs) = false := e
        rw [inV_iV, decide_eq_true h] at e2
        cases e2
      exact rest most ⟨Nat.le_refl _, fun h => absurd h h3⟩
    obtain ⟨hm, hm3⟩ := hc
    have npD2 : D ≠ p := npD.symm
    -- order
    refine ⟨_, rfl, _, rfl, _, rfl, _, _, rfl, rfl, p, x2, _, rfl, hp2, by omega, by omega, fun nt x3 nt0 nt1 => ?_⟩
    obtain ⟨n, rfl⟩ : ∃ n : Nat, nt = (n : Int) := ⟨nt.toNat, by omega⟩
    have hb3 : But p H (upd H2 p (.lst [.int x3])) := hb2.trans But.upd
    refine ⟨p, x3, n, rfl, upd_same, by omega, fun o os x4 H4 no hb4' hp4 ho hperm => ?_⟩
    have hb4 : But p H H4 := hb3.trans hb4'
    have hD4 : H4 D = some (.lst (iV rs)) := hb4' _ _ npD2 (by rw [upd_ne npD2]; exact hD)
    have nop : o ≠ p := fun e => by
      rw [e, upd_same] at no
      cases no
    -- hours
    refine ⟨_, rfl, _, rfl, _, rfl, p, o, D, x4, n, os, rs, rfl, hp4, ho, hD4, nop, npD2, hperm, by omega, R, fun hA hs x5 H5 nh hb5' hp5 hh hhl hhv => ?_⟩
    have hb5 : But p H H5 := hb4.trans hb5'
    have nhp : hA ≠ p := fun e => by
      rw [e, hp4] at nh
      cases nh
    -- needs
    refine ⟨_, rfl, _, rfl, _, rfl, p, o, hA, x5, n, os, hs, rfl, hp5, hb5' _ _ nop ho, hh, nop, nhp, hperm, hhl, by omega, fun nA zs x6 H6 nn hb6' hp6 hz hzl hznd hal => ?_⟩
    have hb6 : But p H H6 := hb5.trans hb6'
    have nnp : nA ≠ p := fun e => by
      rw [e, hp5] at nn
      cases nn
    have hh6 : H6 hA = some (.lst (iV hs)) := hb6' _ _ nhp hh
    -- frees
    refine ⟨_, rfl, hA, rfl, ⟨_, SqL.of hh6⟩, fun fA nf => lc_list (K := K) (a := hA) (xs := iV hs) (fun i H' => ∃ x' fs, But p H6 H' ∧ H' p = some (.lst [.int x']) ∧ H' fA = some (.lst (iV fs)) ∧ fs.length = i ∧ ∀ y ∈ fs, 1 ≤ y ∧ y ≤ 200)
      ⟨x6, [], But.new nf, by rw [upd_ne (ne_of_none hp6 nf)]; exact hp6, upd_same, rfl, fun y hy => by cases hy⟩ (fun i H' _ hP => ?_) (fun i v H7 hv hP => ?_) (fun H7 hP => ?_)⟩
    · obtain ⟨x', fs, hb, _⟩ := hP
      exact hb.seq nhp (SqL.of hh6)
    · obtain ⟨x', fs, hb, hp7, hF, hl, hfv⟩ := hP
      obtain ⟨h, hh1, rfl⟩ := iV_of hv
      have hi : i < n := by
        have := (List.getElem?_eq_some_iff.mp hh1).1
        omega
      have hh2 := hhv h (List.mem_of_getElem? hh1)
      have npf : p ≠ fA := ne_of_none hp6 nf
      refine ⟨rfl, ?_⟩
      walk_at "u"
      refine iteT ⟨_, rfl, (show 5 ≤ sizeLine by decide), fun q2 nq2 => ?_⟩
      have np2 : p ≠ q2 := ne_of_none hp7 nq2
      refine ⟨_, rfl, p, x', 5, rfl, by rw [upd_ne np2]; exact hp7, by decide, by decide, fun d x2 d0 d1 => ?_⟩
      obtain ⟨y, hy, hy0, hy1⟩ : ∃ y, ([0, 1, 2, 9, 9] : List Int)[d.toNat]? = some y ∧ 0 ≤ y ∧ y ≤ 9 := by
        have : d = 0 ∨ d = 1 ∨ d = 2 ∨ d = 3 ∨ d = 4 := by omega
        rcases this with e | e | e | e | e <;> subst e <;> exact ⟨_, rfl, by omega, by omega⟩
      have hq : (upd (upd H7 q2 (.lst (iV [0, 1, 2, 9, 9]))) p (.lst [.int x2])) q2 = some (.lst (iV [0, 1, 2, 9, 9])) := by
        rw [upd_ne np2.symm, upd_same]
      have hnf : q2 ≠ fA := fun e => by
        rw [← e, nq2] at hF
        cases hF
      refine ⟨_, _, _, _, rfl, rfl, SqL.of hq, atI_iV (j := d.toNat) (by omega) hy, _, _, rfl, rfl, _, _, rfl, iV fs, ?_, by rw [iV_len]; exact small_lt (by omega), x2, fs ++ [if h - y > 1 then h - y else 1], ?_, ?_, ?_, by rw [List.length_append, hl]; rfl, fun z hz => ?_⟩
      · rw [upd_ne npf.symm, upd_ne hnf.symm]
        exact hF
      · exact But.mut ((hb.trans (But.new nq2)).trans But.upd) nf
      · rw [upd_ne npf, upd_same]
      · rw [upd_same, iV_app]
      · rcases List.mem_append.mp hz with hm1 | hm1
        · exact hfv z hm1
        · have e : z = (if h - y > 1 then h - y else 1) := List.mem_singleton.mp hm1
          subst e
          split <;> omega
    obtain ⟨x7, fs, hb7', hp7, hF, hfl, hfv⟩ := hP
    rw [iV_len, hhl] at hfl
    have hb7 : But p H H7 := hb6.trans hb7'
    have hh7 : H7 hA = some (.lst (iV hs)) := hb7' _ _ nhp hh6
    have hz7 : NeedsAt H7 nA zs := hz.but hp6 nnp hb7'
    have nfp : fA ≠ p := fun e => by
      rw [e, hp6] at nf
      cases nf
    have hD7 : H7 D = some (.lst (iV rs)) := hb7' _ _ npD2 (hb6' _ _ npD2 (hb5' _ _ npD2 hD4))
    -- slack
    refine ⟨(show 4 ≤ sizeLine by decide), fun l0 n0 => ⟨(show 4 ≤ sizeLine by decide), fun l1 n1 => ⟨(show 4 ≤ sizeLine by decide), fun l2 n2 => ⟨_, rfl, (show 4 ≤ sizeLine by decide), fun l3 n3 => ⟨(show 4 ≤ sizeLine by decide), fun l4 n4 => ?_⟩⟩⟩⟩⟩
    generalize hH8 : upd (upd (upd (upd (upd H7 l0 _) l1 _) l2 _) l3 _) l4 _ = H8
    have s8 : Same H7 H8 := by
      rw [← hH8]
      exact (((((same_upd n0).trans (same_upd n1)).trans (same_upd n2)).trans (same_upd n3))).trans (same_upd n4)
    have g4 : H8 l4 = some (.lst ([.ref l0, .ref l1, .ref l2, .ref l3])) := by
      rw [← hH8, upd_same]
    have g3 : H8 l3 = some (.lst (iV [-1, 0, 1, 3])) := by
      rw [← hH8, upd_ne (ne_of_none (by rw [upd_same]) n4), upd_same]
      rfl
    have g2 : H8 l2 = some (.lst (iV [0, 0, 0, 1])) := by
      rw [← hH8]
      exact (same_upd n4) _ _ ((same_upd n3) _ _ upd_same)
    have g1 : H8 l1 = some (.lst (iV [0, 1, 2, 3])) := by
      rw [← hH8]
      exact (same_upd n4) _ _ ((same_upd n3) _ _ ((same_upd n2) _ _ upd_same))
    have g0 : H8 l0 = some (.lst (iV [0, 0, 1, 2])) := by
      rw [← hH8]
      exact (same_upd n4) _ _ ((same_upd n3) _ _ ((same_upd n2) _ _ ((same_upd n1) _ _ upd_same)))
    have fresh : ∀ {l : Addr} {o : HO}, H8 l = some o → H7 l = none → l ≠ p := fun _ h0 e => by
      rw [e, hp7] at h0
      cases h0
    have m0 : l0 ≠ p := fresh g0 n0
    have m1 : l1 ≠ p := fresh g1 ((same_upd n0).free n1)
    have m2 : l2 ≠ p := fresh g2 (((same_upd n0).trans (same_upd n1)).free n2)
    have m3 : l3 ≠ p := fresh g3 ((((same_upd n0).trans (same_upd n1)).trans (same_upd n2)).free n3)
    have m4 : l4 ≠ p := fresh g4 (((((same_upd n0).trans (same_upd n1)).trans (same_upd n2)).trans (same_upd n3)).free n4)
    have hp8 : H8 p = some (.lst [.int x7]) := s8 _ _ hp7
    refine ⟨_, rfl, p, x7, 4, rfl, hp8, by decide, by decide, fun ds x9 ds0 ds1 => ?_⟩
    obtain ⟨sA, sl, e1, e2, nsp, hsl, hsv⟩ : ∃ (sA : Addr) (sl : List Int), ([V.ref l0, .ref l1, .ref l2, .ref l3])[ds.toNat]? = some (.ref sA) ∧ H8 sA = some (.lst (iV sl)) ∧ sA ≠ p ∧ sl.length = 4 ∧ ∀ y ∈ sl, -1 ≤ y ∧ y ≤ 3 := by
      have : ds = 0 ∨ ds = 1 ∨ ds = 2 ∨ ds = 3 := by omega
      rcases this with e | e | e | e <;> subst e
      · exact ⟨l0, _, rfl, g0, m0, rfl, by decide⟩
      · exact ⟨l1, _, rfl, g1, m1, rfl, by decide⟩
      · exact ⟨l2, _, rfl, g2, m2, rfl, by decide⟩
      · exact ⟨l3, _, rfl, g3, m3, rfl, by decide⟩
    have b9 : But p H8 (upd H8 p (.lst [.int x9])) := But.upd
    refine ⟨l4, _, ds, .ref sA, rfl, rfl, SqL.of (b9 _ _ m4 g4), at_of (j := ds.toNat) (by omega) e1, ?_⟩
    -- dues
    refine ⟨(show 0 ≤ sizeLine by decide), fun dA nd => ?_⟩
    have hb9 : But p H7 (upd H8 p (.lst [.int x9])) := (But.of s8).trans b9
    have np9 : p ≠ dA := ne_of_none (show (upd H8 p (.lst [.int x9])) p = _ from upd_same) nd
    have nd7 : H7 dA = none := hb9.free np9.symm nd
    have hb10 : But p H7 (upd (upd H8 p (.lst [.int x9])) dA (.lst [])) := hb9.trans (But.new nd)
    refine ⟨_, rfl, hA, rfl, ⟨_, hb10.seq nhp (SqL.of hh7)⟩, for_list (K := K) (a := hA) (xs := iV hs) (fun i σ H' => ∃ x' dl y10 y11, σ = [some (.ref p), some (.int (m : Int)), some (.int wide), some (.ref D), some (.ref o), some (.ref hA), some (.ref nA), some (.ref fA), some (.ref sA), some (.ref dA), y10, y11, none] ∧ But p H7 H' ∧ H' p = some (.lst [.int x']) ∧ H' sA = some (.lst (iV sl)) ∧ H' dA = some (.lst (oV dl)) ∧ dl.length = i ∧ ∀ y, some y ∈ dl → 0 ≤ y ∧ y ≤ 200)
      ⟨x9, [], none, none, rfl, hb10, by rw [upd_ne np9, upd_same], (But.new nd) _ _ nsp (b9 _ _ nsp e2), upd_same, rfl, fun y hy => by cases hy⟩ (fun i σ H' _ hP => ?_) (fun i v σ H11 hv hP => ?_) (fun σ H11 hP => ?_)⟩
    · obtain ⟨x', dl, y10, y11, _, hb, _⟩ := hP
      exact hb.seq nhp (SqL.of hh7)
    · obtain ⟨x', dl, y10, y11, rfl, hb, hp11, hs11, hd11, hdl, hdv⟩ := hP
      obtain ⟨h, hh1, rfl⟩ := iV_of hv
      have hi : i < n := by
        have := (List.getElem?_eq_some_iff.mp hh1).1
        omega
      have hh2 := hhv h (List.mem_of_getElem? hh1)
      refine ⟨_, rfl, _, rfl, _, rfl, p, x', 4, rfl, hp11, by decide, by decide, fun d x2 d0 d1 => ?_⟩
      obtain ⟨y, hy⟩ : ∃ y, sl[d.toNat]? = some y := ⟨_, List.getElem?_eq_getElem (by omega)⟩
      have hyv := hsv y (List.mem_of_getElem? hy)
      refine ⟨_, _, _, _, rfl, rfl, SqL.of (But.upd _ _ nsp hs11), atI_iV (j := d.toNat) (by omega) hy, _, _, rfl, rfl, _, _, rfl, ?_⟩
      obtain ⟨z, hz0, hz1, hz2⟩ : ∃ z, (if h + y > 0 then h + y else 0) = z ∧ 0 ≤ z ∧ z ≤ 200 := ⟨_, rfl, by split <;> omega, by split <;> omega⟩
      rw [hz0]
      refine ⟨_, rfl, .inl ⟨rfl, _, .inl (.inl (But.upd _ _ np9.symm hd11))⟩, _, rfl, _, rfl, _, rfl, (show 4 ≤ sizeLine by decide), fun l5 n5 => ?_⟩
      have np5 : p ≠ l5 := ne_of_none (show (upd H11 p (.lst [.int x2])) p = _ from upd_same) n5
      refine ⟨_, rfl, p, x2, 4, rfl, by rw [upd_ne np5, upd_same], by decide, by decide, fun d2 x3 d20 d21 => ?_⟩
      obtain ⟨w2, hw2, hw3⟩ : ∃ w2 : Option Int, ([V.int z, .int z, .int z, .non])[d2.toNat]? = (oV [w2])[0]? ∧ ∀ y, some y ∈ [w2] → 0 ≤ y ∧ y ≤ 200 := by
        have : d2 = 0 ∨ d2 = 1 ∨ d2 = 2 ∨ d2 = 3 := by omega
        have hs : ∀ y, some y ∈ [some z] → 0 ≤ y ∧ y ≤ 200 := fun y hy => by
          have e : y = z := by simpa using hy
          subst e
          exact ⟨hz1, hz2⟩
        rcases this with e | e | e | e <;> subst e
        · exact ⟨some z, rfl, hs⟩
        · exact ⟨some z, rfl, hs⟩
        · exact ⟨some z, rfl, hs⟩
        · exact ⟨none, rfl, fun y hy => by simp at hy⟩
      obtain ⟨v2, hv2⟩ : ∃ v2, oV [w2] = [v2] := by
        cases w2
        · exact ⟨_, rfl⟩
        · exact ⟨_, rfl⟩
      rw [hv2] at hw2
      have n5d : dA ≠ l5 := fun e => by
        have := But.upd (o := .lst [.int x2]) _ _ np9.symm hd11
        rw [e, n5] at this
        cases this
      have hd12 : (upd (upd (upd H11 p (.lst [.int x2])) l5 (.lst [.int z, .int z, .int z, .non])) p (.lst [.int x3])) dA = some (.lst (oV dl)) := by
        rw [upd_ne np9.symm, upd_ne n5d, upd_ne np9.symm]
        exact hd11
      refine ⟨l5, _, d2, v2, rfl, rfl, SqL.of (by rw [upd_ne np5.symm, upd_same]), at_of (j := d2.toNat) (by omega) hw2, dA, _, _, rfl, rfl, hd12, by rw [oV_len]; exact small_lt (by omega), ?_⟩
      refine ⟨x3, dl ++ [w2], _, _, rfl, ?_, ?_, ?_, ?_, by rw [List.length_append, hdl]; rfl, fun y hy => ?_⟩
      · exact But.mut (((hb.trans But.upd).trans (But.new n5)).trans But.upd) nd7
      · rw [upd_ne np9, upd_same]
      · have nds : sA ≠ dA := fun e => by
          have h1 := b9 _ _ nsp e2
          rw [e, nd] at h1
          cases h1
        rw [upd_ne nds]
        exact But.upd _ _ nsp ((But.new n5) _ _ nsp (But.upd _ _ nsp hs11))
      · rw [upd_same, ← oV_app, hv2]
      · rcases List.mem_append.mp hy with h | h
        · exact hdv y h
        · exact hw3 y h
    obtain ⟨x', dl, y10, y11, rfl, hb, hp11, hs11, hd11, hdl, hdv⟩ := hP
    rw [iV_len, hhl] at hdl
    refine ⟨_, rfl, _, rfl, _, rfl, _, rfl, (show 4 ≤ sizeLine by decide), fun J nJ => ?_⟩
    have hz11 : NeedsAt H11 nA zs := hz7.but hp7 nnp hb
    have hbJ : But p H H11 := hb7.trans hb
    have sJ : Same H11 (upd H11 J (.tup [.ref fA, .ref dA, .ref nA, .ref D])) := same_upd nJ
    have nJp : J ≠ p := fun e => by
      rw [e, hp11] at nJ
      cases nJ
    refine q J fA dA nA D fs dl zs rs x' _ (hbJ.free nJp nJ) (hbJ.trans (But.of sJ)) (sJ _ _ hp11) ⟨upd_same, sJ _ _ (hb _ _ nfp hF), sJ _ _ hd11, hz11.same sJ, sJ _ _ (hb _ _ npD2 hD7)⟩ ⟨by omega, by omega, hfv, hdv, hzl, hznd, rank_of hperm hal hfl.symm, R⟩ (by omega) (fun h => ?_) (fun y hy => (hrv y hy).2) nfp np9.symm nnp npD2
    have := hm3 h
    omega

end
/-! len(set(..)) of tuples of ints -/
def rLenSetT (K : PySem.W.Frag) (P : Program) (w : World) : List V → Hp → VK → Prop := fun xs H Q => ∃ (a : Addr) (L : List (Addr × List Int)), xs = [.ref a] ∧ H a = some (SetTO P w a L) ∧ (∀ p ∈ L, SqT K H p.1 (p.2.map V.int)) ∧
  ((L.map (·.2)).Nodup → L.length < 64 → Q (.int L.length) H)
theorem call_len_setT {X : Cx} : CallR X (.builtin "len") (rLenSetT X.K X.prog X.w) := by
  intro pins s σ H xs us Q I r h
  obtain ⟨a, L, rfl, ha, hT, q⟩ := h
  rw [Vals.ref1 r]
  have R0 : SetT0 X.prog X.w s.heap a L := (I.hok a _ ha).1
  obtain ⟨es, ep, t, R⟩ := R0.full fun p hp => I.isT (hT p hp)
  obtain ⟨o, ho, hex, hd⟩ := R.ob
  have hsz := R.size
  have hfew := R.few
  exact call_len_set ho hex hd R.fits (by omega) ⟨.int L.length, H, I.tok _, ⟨_, by rw [hsz]⟩, q R.nd R.few⟩
theorem nodup_perm_len {α : Type} [DecidableEq α] {a b : List α} (ha : a.Nodup) (hb : b.Nodup) (h1 : ∀ x ∈ a, x ∈ b) (h2 : ∀ x ∈ b, x ∈ a) : a.length = b.length := by
  have h : a.Perm b := (List.perm_ext_iff_of_nodup ha hb).mpr fun x => ⟨h1 x, h2 x⟩
  exact h.length_eq
/-- the numbers of a need -/
def pr2 (z : Addr × Nat × Nat) : Addr × List Int := (z.1, [(z.2.1 : Int), (z.2.2 : Int)])
/-! tasks behind a task, without a ring -/
def succ (zs : List (Addr × Nat × Nat)) (a : Nat) : List Nat := (zs.filter fun z => z.2.1 == a).map fun z => z.2.2
theorem succ_snoc (zs : List (Addr × Nat × Nat)) (z : Addr × Nat × Nat) (a : Nat) : succ (zs ++ [z]) a = if z.2.1 = a then succ zs a ++ [z.2.2] else succ zs a := by
  unfold succ
  rw [List.filter_append, List.map_append, List.filter_cons, List.filter_nil]
  by_cases h : z.2.1 = a
  · rw [if_pos h, if_pos (beq_iff_eq.mpr h)]
    rfl
  · rw [if_neg h, if_neg (fun e => h (beq_iff_eq.mp e))]
    simp
theorem mem_succ {zs : List (Addr × Nat × Nat)} {a b : Nat} : b ∈ succ zs a ↔ ∃ z ∈ zs, z.2.1 = a ∧ z.2.2 = b := by
  unfold succ
  rw [List.mem_map]
  constructor
  · rintro ⟨z, hz, e⟩
    obtain ⟨h1, h2⟩ := List.mem_filter.mp hz
    exact ⟨z, h1, beq_iff_eq.mp h2, e⟩
  · rintro ⟨z, h1, h2, e⟩
    exact ⟨z, List.mem_filter.mpr ⟨h1, beq_iff_eq.mpr h2⟩, e⟩
theorem succ_len (zs : List (Addr × Nat × Nat)) (a : Nat) : (succ zs a).length ≤ zs.length := by
  unfold succ
  rw [List.length_map]
  exact List.length_filter_le ..
structure Follow (H H' : Hp) (q : Addr) (as : List Addr) (zs : List (Addr × Nat × Nat)) (n : Nat) : Prop where
  top : H' q = some (.lst (as.map V.ref))
  len : as.length = n
  nd : as.Nodup
  at_ : ∀ (i : Nat) (a : Addr), as[i]? = some a → H a = none ∧ a ≠ q ∧ H' a = some (.lst (nV (succ zs i)))
theorem Follow.same {H H1 H2 : Hp} {q : Addr} {as : List Addr} {zs : List (Addr × Nat × Nat)} {n : Nat} (f : Follow H H1 q as zs n) (s : Same H1 H2) : Follow H H2 q as zs n :=
  ⟨s _ _ f.top, f.len, f.nd, fun i a h => by
    obtain ⟨h1, h2, h3⟩ := f.at_ i a h
    exact ⟨h1, h2, s _ _ h3⟩⟩
theorem rV_get {as : List Addr} {j : Nat} {a : Addr} (h : as[j]? = some a) : (as.map V.ref)[j]? = some (.ref a) := by
  rw [List.getElem?_map, h]
  rfl
/-- how many needs of b have not been done -/
def waitN (zs : List (Addr × Nat × Nat)) (done : List Nat) (b : Nat) : Nat := zs.countP fun z => decide (z.2.2 = b) && !decide (z.2.1 ∈ done)
theorem waitN_snoc (zs : List (Addr × Nat × Nat)) (done : List Nat) (a b : Nat) (h : ¬ a ∈ done) : waitN zs done b = waitN zs (done ++ [a]) b + (succ zs a).count b := by
  unfold waitN succ
  induction zs with
  | nil => rfl
  | cons z r ih =>
    rw [List.countP_cons, List.countP_cons, ih, List.filter_cons]
    by_cases hb : z.2.2 = b
    · by_cases ha : z.2.1 = a
      · have h1 : ¬ z.2.1 ∈ done := fun e => h (ha ▸ e)
        have h2 : z.2.1 ∈ done ++ [a] := List.mem_append.mpr (.inr (List.mem_singleton.mpr ha))
        simp only [hb, h1, h2, ha, beq_self_eq_true, if_true, List.map_cons, List.count_cons, decide_true, decide_false, Bool.not_false, Bool.not_true, Bool.and_true, Bool.and_false, Bool.false_eq_true, if_false]
        have h6 : a ∈ done ++ [a] := ha ▸ h2
        rw [decide_eq_false h, decide_eq_true h6]
        simp only [Bool.not_false, Bool.not_true, Bool.and_true, Bool.and_false, if_true, Bool.false_eq_true, if_false]
        omega
      · have h1 : z.2.1 ∈ done ++ [a] ↔ z.2.1 ∈ done := by
          rw [List.mem_append, List.mem_singleton]
          exact ⟨fun e => e.resolve_right ha, .inl⟩
        have h3 : (z.2.1 == a) = false := beq_eq_false_iff_ne.mpr ha
        simp only [hb, h1, h3, Bool.false_eq_true, if_false]
        omega
    · by_cases ha : z.2.1 = a
      · have h4 : (z.2.2 == b) = false := beq_eq_false_iff_ne.mpr hb
        simp only [hb, ha, beq_self_eq_true, if_true, List.map_cons, List.count_cons, h4, decide_false, Bool.false_and, Bool.false_eq_true, if_false]
        omega
      · have h3 : (z.2.1 == a) = false := beq_eq_false_iff_ne.mpr ha
        simp only [hb, h3, decide_false, Bool.false_and, Bool.false_eq_true, if_false]
        omega
theorem waitN_zero {zs : List (Addr × Nat × Nat)} {done : List Nat} {b : Nat} : waitN zs done b = 0 ↔ ∀ z ∈ zs, z.2.2 = b → z.2.1 ∈ done := by
  unfold waitN
  rw [List.countP_eq_zero]
  constructor
  · intro h z hz e
    have := h z hz
    simp only [e, decide_true, Bool.true_and, Bool.not_eq_true, Bool.not_eq_false'] at this
    simpa using this
  · intro h z hz
    by_cases e : z.2.2 = b
    · simp [e, h z hz e]
    · simp [e]
theorem waitN_take (zs : List (Addr × Nat × Nat)) (b : Nat) (k : Nat) (z : Addr × Nat × Nat) (h : zs[k]? = some z) : waitN (zs.take (k + 1)) [] b = waitN (zs.take k) [] b + if z.2.2 = b then 1 else 0 := by
  unfold waitN
  rw [List.take_add_one, h, List.countP_append]
  congr 1
  by_cases e : z.2.2 = b
  · simp [e]
  · simp [e]
/-- a list by a function -/
structure ByF (ws : List Int) (n : Nat) (f : Nat → Int) : Prop where
  len : ws.length = n
  at_ : ∀ b, b < n → ws[b]? = some (f b)
theorem ByF.set {ws : List Int} {n : Nat} {f g : Nat → Int} (h : ByF ws n f) {b : Nat} {v : Int} (hb : b < n) (e1 : g b = v) (e2 : ∀ c, c ≠ b → g c = f c) : ByF (ws.set b v) n g := by
  refine ⟨by rw [List.length_set]; exact h.len, fun c hc => ?_⟩
  by_cases e : c = b
  · subst e
    rw [List.getElem?_set_self (by rw [h.len]; exact hc), e1]
  · rw [List.getElem?_set_ne (fun z => e z.symm), h.at_ c hc, e2 c e]
theorem ByF.congr {ws : List Int} {n : Nat} {f g : Nat → Int} (h : ByF ws n f) (e : ∀ c, c < n → g c = f c) : ByF ws n g := ⟨h.len, fun b hb => by rw [h.at_ b hb, e b hb]⟩
def Acyc (zs : List (Addr × Nat × Nat)) : Prop := ∃ rk : Nat → Nat, ∀ z ∈ zs, rk z.2.1 < rk z.2.2
/-- the state of the clearing -/
structure Clr (zs : List (Addr × Nat × Nat)) (n : Nat) (cl : List Nat) (at_ : Nat) : Prop where
  nd : cl.Nodup
  lt : ∀ t ∈ cl, t < n
  up : at_ ≤ cl.length
  ord : ∀ z ∈ zs, ∀ i : Nat, cl[i]? = some z.2.2 → ∃ j : Nat, j < i ∧ cl[j]? = some z.2.1
/-- at the end -/
theorem clr_end {zs : List (Addr × Nat × Nat)} {n : Nat} {cl : List Nat} (h : Clr zs n cl cl.length) (hz : ∀ z ∈ zs, z.2.1 < n ∧ z.2.2 < n) (hw : ∀ b, b < n → (b ∈ cl ↔ waitN zs cl b = 0)) :
    decide ((cl.length : Int) < (n : Int)) = false ↔ Acyc zs := by
  constructor
  · intro e
    have hl : n ≤ cl.length := by
      have := of_decide_eq_false e
      omega
    have hall : ∀ t, t < n → t ∈ cl := fun t ht => by
      refine Decidable.byContradiction fun hn => ?_
      have h1 := nat_nodup_len (t :: cl) (List.range n) (List.nodup_cons.mpr ⟨hn, h.nd⟩) fun x hx => by
        rcases List.mem_cons.mp hx with e | hx
        · rw [e]
          exact List.mem_range.mpr ht
        · exact List.mem_range.mpr (h.lt x hx)
      rw [List.length_range, List.length_cons] at h1
      omega
    refine ⟨fun t => cl.idxOf t, fun z hzm => ?_⟩
    have hm : z.2.2 ∈ cl := hall _ (hz z hzm).2
    obtain ⟨i, hi⟩ := List.getElem?_of_mem hm
    obtain ⟨j, hj, hj2⟩ := h.ord z hzm i hi
    have ix : ∀ {i t : Nat}, cl[i]? = some t → cl.idxOf t = i := fun {i t} h2 => by
      obtain ⟨hi, e⟩ := List.getElem?_eq_some_iff.mp h2
      rw [← e]
      exact h.nd.idxOf_getElem i hi
    show cl.idxOf z.2.1 < cl.idxOf z.2.2
    rw [ix hi, ix hj2]
    exact hj
  · rintro ⟨rk, hrk⟩
    have all : ∀ (m t : Nat), rk t ≤ m → t < n → t ∈ cl := by
      intro m
      induction m with
      | zero =>
        intro t hr ht
        refine (hw t ht).mpr (waitN_zero.mpr fun z hzm e => ?_)
        have := hrk z hzm
        rw [e] at this
        omega
      | succ m ih =>
        intro t hr ht
        refine (hw t ht).mpr (waitN_zero.mpr fun z hzm e => ?_)
        have h1 := hrk z hzm
        rw [e] at h1
        exact ih z.2.1 (by omega) (hz z hzm).1
    have := nat_nodup_len (List.range n) cl List.nodup_range fun t ht => all _ t (Nat.le_refl _) (List.mem_range.mp ht)
    rw [List.length_range] at this
    exact decide_eq_false (by omega)
theorem rep_flat (n : Nat) : (List.replicate n [V.int 0]).flatten = iV (List.replicate n 0) := by
  induction n with
  | zero => rfl
  | succ n ih =>
    rw [List.replicate_succ, List.flatten_cons, ih, List.replicate_succ]
    rfl
theorem byF_rep (n : Nat) : ByF (List.replicate n 0) n (fun _ => 0) := ⟨List.length_replicate, fun b hb => by rw [List.getElem?_replicate, if_pos hb]⟩
/-- one follower of a less to wait for -/
theorem cnt_take {l : List Nat} {k b : Nat} (h : l[k]? = some b) (c : Nat) : ((l.take (k + 1)).count c : Int) = ((l.take k).count c : Int) + if c = b then 1 else 0 := by
  rw [List.take_add_one, h, List.count_append]
  show ((((l.take k).count c + [b].count c : Nat)) : Int) = _
  rw [List.count_singleton]
  by_cases e : c = b
  · subst e
    simp
  · rw [if_neg e, if_neg (by simpa using fun z : b = c => e z.symm)]
    simp
theorem cnt_le (l : List Nat) (k c : Nat) : (l.take k).count c ≤ l.count c := (List.take_sublist k l).count_le c
theorem filt_snoc (p : Nat → Bool) (i : Nat) : (List.range (i + 1)).filter p = if p i = true then (List.range i).filter p ++ [i] else (List.range i).filter p := by
  rw [List.range_succ, List.filter_append, List.filter_cons, List.filter_nil]
  split <;> simp

section
variable {P : Program} {w : World} {K : PySem.W.Frag} {mg : Str → Option Value} {base : Heap}
def spNeed : Sp := fun vs H Q _ => ∃ (n : Int) (t : Addr) (a b : Int), vs = [.int n, .ref t] ∧ H t = some (.tup [.int a, .int b]) ∧ Q (.bl (isTask n (.int a) && (isTask n (.int b) && !decide (a = b)))) H
theorem ok_is_need (T : Env K mg) : Ok P w K mg base CX0 dd_is_need "is_need" 4 ["many", "thing"] spNeed := by
  obtain ⟨fd_is_task, D_is_task, g_is_task, k_is_task, b_is_task, G_is_task⟩ := ok_is_task (P := P) (w := w) (base := base) T
  obtain ⟨fd, F⟩ := T.c.def_ 7 (d := dd_is_need) rfl
  refine ⟨fd, F, T.gl 7 _ rfl, F.kp, F.bindsN fun _ _ _ _ _ _ us hl => match us, hl with | [_, _], _ => rfl, ?_⟩
  refine F.ok sc_is_need (fun vs H Q E h => ?_) (fun cdv A outer s H vs Q E hr h => ?_)
  · obtain ⟨n, t, a, b, rfl, ht, q⟩ := h
    rfl
  · obtain ⟨n, t, a, b, rfl, ht, q⟩ := h
    refine ⟨_, PSs.nox (pss_cons (ps_if (PW.pt (pw_or (pt_not (pt_val (pe_callB call_isi (by rfl) (T.fr 29 _ rfl) (by decide +kernel) (pa_cons (pv 1) (pa_cons (pe_bltn (v := .ty "tuple") (by rfl) (T.fr 34 _ rfl) (by decide +kernel) rfl) pa_nil))))) (pw_or1 (pt_cmpR op_ne (pe_callB call_len_seq (by rfl) (T.fr 33 _ rfl) (by decide +kernel) (pa_cons (pv 1) pa_nil)) pe_int (nomark _))))) (pss_one (ps_ret pe_bl)) pss_nil)
      (pss_cons (ps_asg (pv 1) (pg_tup rfl (pgs_cons (pg_name (i := 2) sc_is_need.nd rfl (Or.inl rfl)) (pgs_cons (pg_name (i := 3) sc_is_need.nd rfl (Or.inl rfl)) pgs_nil))))
      (pss_one (ps_ret (pe_and (pe_call G_is_task (hr.mono (by decide)) (by rfl) g_is_task k_is_task b_is_task .nil pass0 (pa_cons (pv 0) (pa_cons (pv 2) pa_nil))) (pe_and (pe_call G_is_task (hr.mono (by decide)) (by rfl) g_is_task k_is_task b_is_task .nil pass0 (pa_cons (pv 0) (pa_cons (pv 3) pa_nil))) (pe_one (pe_cmpR op_ne (pv 2) (pv 3) (nomark _))))))))), ?_⟩
    walk_at "u"
    refine ⟨_, rfl, rIsi_of (b := true) (.tup ht) (by decide +kernel) ⟨_, rfl, ?_⟩⟩
    refine iteF ⟨_, rfl, t, _, rfl, .inr (SqT.of ht), rfl, _, rfl, iteF ?_⟩
    refine ⟨_, rfl, t, _, rfl, SqT.of ht, rfl, _, _, rfl, _, _, rfl, rfl, ?_⟩
    refine ⟨_, rfl, _, rfl, n, .int a, _, rfl, .int a, _, rfl, ifB (fun e => ?_) (fun e => ?_)⟩
    · rw [e] at q
      refine ⟨_, rfl, _, rfl, n, .int b, _, rfl, .int b, _, rfl, ifB (fun e2 => ?_) (fun e2 => ?_)⟩
      · rw [e2] at q
        refine ⟨_, rfl, _, rfl, rfl, ?_⟩
        have e3 : (!decide (V.int a = V.int b)) = !decide (a = b) := by
          by_cases h : a = b
          · rw [decide_eq_true h, decide_eq_true (by rw [h])]
          · rw [decide_eq_false h, decide_eq_false (fun z => h (V.int.inj z))]
        rw [e3]
        exact q
      · rw [e2] at q
        exact q
    · rw [e] at q
      exact q

def spFollow : Sp := fun vs H Q _ => ∃ (n : Nat) (N : Addr) (zs : List (Addr × Nat × Nat)), vs = [.int (n : Int), .ref N] ∧ NeedsAt H N zs ∧ (∀ z ∈ zs, z.2.1 < n ∧ z.2.2 < n) ∧ n ≤ 1000 ∧ zs.length ≤ 10000 ∧
  ∀ (q : Addr) (as : List Addr) (H' : Hp), H q = none → Same H H' → Follow H H' q as zs n → Q (.ref q) H'
theorem ok_followers_of (T : Env K mg) : Ok P w K mg base CX0 dd_followers_of "followers_of" 1 ["many", "needs"] spFollow := by
  obtain ⟨fd, F⟩ := T.c.def_ 9 (d := dd_followers_of) rfl
  refine ⟨fd, F, T.gl 9 _ rfl, F.kp, F.bindsN fun _ _ _ _ _ _ us hl => match us, hl with | [_, _], _ => rfl, ?_⟩
  refine F.ok sc_followers_of (fun vs H Q E h => ?_) (fun cdv A outer s H vs Q E hr h => ?_)
  · obtain ⟨n, N, zs, rfl, hN, hz, hn, hzl, q⟩ := h
    rfl
  · obtain ⟨n, N, zs, rfl, hN, hz, hn, hzl, q⟩ := h
    refine ⟨_, PSs.nox (pss_cons (ps_setLc (i := 2) (own := [("_", 5)]) (g := gName 5) (tt := tYes) (by rfl) sc_followers_of.nd rfl rfl (sw_true rfl rfl rfl (by decide +kernel)) (pi_range1 (by rfl) (T.fr 37 _ rfl) (pa_cons (pv 0) pa_nil)) (blkOk_by (own := [("_", 5)]) (N := N_followers_of) (sc := defScope s_followers_of) (by decide +kernel)) (fun _ _ _ _ _ => (pg_name (i := 5) sc_followers_of.nd rfl (by first | exact Or.inl rfl | exact Or.inr rfl))) (fun _ _ _ _ _ => pts_nil) (fun _ _ _ _ _ => (pe_lst pa_nil)))
      (pss_cons (ps_for PassesOwn.never rfl (pi_list (pv 1)) (pg_tup rfl (pgs_cons (pg_name (i := 3) sc_followers_of.nd rfl (Or.inl rfl)) (pgs_cons (pg_name (i := 4) sc_followers_of.nd rfl (Or.inl rfl)) pgs_nil))) (pss_one (ps_expr (pe_bm PySem.F.plainAttrs_list PySem.F.slot_list_append PySem.F.type_list_append mt_append (pe_ix ix_list (pv 2) (pv 3) (fun _ _ => rfl)) (pa_cons (pv 4) pa_nil)))))
      (pss_one (ps_ret (pv 2))))), ?_⟩
    walk_at "u"
    refine ⟨_, rfl, _, rfl, by omega, by omega, fun D nD => lc_range (lo := 0) (n := (n : Int).toNat) (fun i H' => ∃ as : List Addr, Same H H' ∧ H' D = some (.lst (as.map V.ref)) ∧ as.length = i ∧ as.Nodup ∧ ∀ a ∈ as, H a = none ∧ a ≠ D ∧ H' a = some (.lst []))
      ⟨[], same_upd nD, upd_same, rfl, List.nodup_nil, fun a ha => by cases ha⟩ (fun i H' hi hP => ?_) (fun H' hP => ?_)⟩
    · obtain ⟨as, sm, hD, hl, hnd, hv⟩ := hP
      refine ⟨rfl, ?_⟩
      walk_at "u"
      refine iteT ⟨(show 0 ≤ sizeLine by decide), fun q2 n2 => ?_⟩
      have hq2 : q2 ≠ D := fun e => by
        rw [e, hD] at n2
        cases n2
      refine ⟨as.map V.ref, by rw [upd_ne hq2.symm]; exact hD, by rw [List.length_map]; exact small_lt (by omega), as ++ [q2], ?_, ?_, by rw [List.length_append, hl]; rfl, ?_, fun a ha => ?_⟩
      · exact same_mut (sm.trans (same_upd n2)) nD
      · rw [upd_same, List.map_append]
        rfl
      · refine nd_snoc hnd fun h => ?_
        rw [(hv q2 h).2.2] at n2
        cases n2
      · rcases List.mem_append.mp ha with h | h
        · obtain ⟨h1, h2, h3⟩ := hv a h
          refine ⟨h1, h2, ?_⟩
          rw [upd_ne h2, upd_ne (ne_of_none h3 n2)]
          exact h3
        · have e := List.mem_singleton.mp h
          subst e
          refine ⟨sm.free n2, hq2, ?_⟩
          rw [upd_ne hq2, upd_same]
    obtain ⟨as, sm, hD, hl, hnd, hv⟩ := hP
    have hN' : NeedsAt H' N zs := hN.same sm
    refine ⟨_, rfl, N, rfl, ⟨_, SqL.of hN'.1⟩, for_list (K := K) (a := N) (xs := zs.map fun z => V.ref z.1) (fun k σ H2 => ∃ y3 y4, σ = [some (.int (n : Int)), some (.ref N), some (.ref D), y3, y4, none] ∧ Same H H2 ∧ Follow H H2 D as (zs.take k) n)
      ⟨none, none, rfl, sm, hD, by omega, hnd, fun i a h => ?_⟩ (fun k σ H2 _ hP => ?_) (fun k v σ H2 hv2 hP => ?_) (fun σ H2 hP => ?_)⟩
    · exact hv a (List.mem_of_getElem? h)
    · obtain ⟨y3, y4, _, s2, _⟩ := hP
      exact SqL.of (s2 _ _ hN.1)
    · obtain ⟨y3, y4, rfl, s2, F2⟩ := hP
      rw [List.getElem?_map] at hv2
      cases hk : zs[k]? with
      | none =>
        rw [hk] at hv2
        cases hv2
      | some z =>
        rw [hk] at hv2
        cases hv2
        have hzm := List.mem_of_getElem? hk
        have hT := s2 _ _ (hN.2 z hzm)
        have hlt := hz z hzm
        obtain ⟨a, ha⟩ : ∃ a, as[z.2.1]? = some a := ⟨_, List.getElem?_eq_getElem (by rw [F2.len]; omega)⟩
        obtain ⟨hn1, hn2, hn3⟩ := F2.at_ _ _ ha
        refine ⟨z.1, _, rfl, SqT.of hT, rfl, _, _, rfl, _, _, rfl, rfl, ?_⟩
        refine ⟨_, rfl, _, rfl, D, _, _, .ref a, rfl, rfl, SqL.of F2.top, at_of (j := z.2.1) rfl (rV_get ha), .inl ⟨rfl, _, .inl (.inl hn3)⟩, _, rfl, a, _, _, rfl, rfl, hn3, ?_, ?_⟩
        · rw [nV_len]
          exact small_lt (Nat.lt_of_le_of_lt (succ_len _ _) (by rw [List.length_take]; omega))
        · refine ⟨_, _, rfl, same_mut s2 hn1, ?_, F2.len, F2.nd, fun i c hc => ?_⟩
          · rw [upd_ne hn2.symm]
            exact F2.top
          · obtain ⟨g1, g2, g3⟩ := F2.at_ _ _ hc
            refine ⟨g1, g2, ?_⟩
            rw [List.take_add_one, hk]
            show _ = some (HO.lst (nV (succ (zs.take k ++ [z]) i)))
            rw [succ_snoc]
            by_cases e : z.2.1 = i
            · subst e
              rw [ha] at hc
              cases hc
              rw [upd_same, if_pos rfl, nV_app]
            · have hca : c ≠ a := fun z2 => by
                subst z2
                exact e (nd_ix F2.nd ha hc)
              rw [upd_ne hca, if_neg e]
              exact g3
    · obtain ⟨y3, y4, rfl, s2, F2⟩ := hP
      rw [List.length_map, List.take_length] at F2
      exact ⟨_, rfl, q D as H2 nD s2 F2⟩

def spRing : Sp := fun vs H Q _ => ∃ (n : Nat) (N : Addr) (zs : List (Addr × Nat × Nat)), vs = [.int (n : Int), .ref N] ∧ NeedsAt H N zs ∧ (∀ z ∈ zs, z.2.1 < n ∧ z.2.2 < n) ∧ n ≤ 1000 ∧ zs.length ≤ 10000 ∧
  ∀ (b : Bool) (H' : Hp), Same H H' → (b = false ↔ Acyc zs) → Q (.bl b) H'
theorem ok_has_ring (T : Env K mg) : Ok P w K mg base CX0 dd_has_ring "has_ring" 2 ["many", "needs"] spRing := by
  obtain ⟨fd_followers_of, D_followers_of, g_followers_of, k_followers_of, b_followers_of, G_followers_of⟩ := ok_followers_of (P := P) (w := w) (base := base) T
  obtain ⟨fd, F⟩ := T.c.def_ 10 (d := dd_has_ring) rfl
  refine ⟨fd, F, T.gl 10 _ rfl, F.kp, F.bindsN fun _ _ _ _ _ _ us hl => match us, hl with | [_, _], _ => rfl, ?_⟩
  refine F.ok sc_has_ring (fun vs H Q E h => ?_) (fun cdv A outer s H vs Q E hr h => ?_)
  · obtain ⟨n, N, zs, rfl, hN, hz, hn, hzl, q⟩ := h
    rfl
  · obtain ⟨n, N, zs, rfl, hN, hz, hn, hzl, q⟩ := h
    refine ⟨_, PSs.nox (pss_cons (ps_set (i := 2) sc_has_ring.nd rfl (Or.inl rfl) (pe_call G_followers_of (hr.mono (by decide)) (by rfl) g_followers_of k_followers_of b_followers_of .nil pass0 (pa_cons (pv 0) (pa_cons (pv 1) pa_nil))))
      (pss_cons (ps_set (i := 3) sc_has_ring.nd rfl (Or.inr rfl) (pe_op op_rep (pe_lst (pa_cons pe_int pa_nil)) (pv 0)))
      (pss_cons (ps_for PassesOwn.never rfl (pi_list (pv 1)) (pg_tup rfl (pgs_cons (pg_name (i := 4) sc_has_ring.nd rfl (Or.inl rfl)) (pgs_cons (pg_name (i := 5) sc_has_ring.nd rfl (Or.inl rfl)) pgs_nil))) (pss_one (ps_asg (pe_op op_add (pe_ix ix_list (pv 3) (pv 5) (fun _ _ => rfl)) pe_int) (pg_sub (pv 3) (pv 5) set_list))))
      (pss_cons (ps_setLc (i := 6) (own := [("t", 9)]) (g := gName 9) (by rfl) sc_has_ring.nd rfl rfl (sw_true rfl rfl rfl (by decide +kernel)) (pi_range1 (by rfl) (T.fr 37 _ rfl) (pa_cons (pv 0) pa_nil)) (blkOk_by (own := [("t", 9)]) (N := N_has_ring) (sc := defScope s_has_ring) (by decide +kernel)) (fun _ _ _ _ _ => (pg_name (i := 9) sc_has_ring.nd rfl (by first | exact Or.inl rfl | exact Or.inr rfl))) (fun _ _ _ _ _ => (pts_one (pt_cmpR op_eq (pe_ix (r := rIxL K) ix_list (pv 3) (pv 9) (fun _ _ => rfl)) pe_int (nomark _)))) (fun _ _ _ _ _ => (pv 9)))
      (pss_cons (ps_set (i := 7) sc_has_ring.nd rfl (Or.inl rfl) pe_int)
      (pss_cons (ps_while PassesOwn.never (pt_cmpR op_lt (pv 7) (pe_callB call_len_seq (by rfl) (T.fr 33 _ rfl) (by decide +kernel) (pa_cons (pv 6) pa_nil)) (nomark _)) (pss_cons (ps_set (i := 8) sc_has_ring.nd rfl (Or.inl rfl) (pe_ix ix_list (pv 6) (pv 7) (fun _ _ => rfl)))
      (pss_cons (ps_for PassesOwn.never rfl (pi_list (pe_ix ix_list (pv 2) (pv 8) (fun _ _ => rfl))) (pg_name (i := 5) sc_has_ring.nd rfl (Or.inl rfl)) (pss_cons (ps_asg (pe_op op_sub (pe_ix ix_list (pv 3) (pv 5) (fun _ _ => rfl)) pe_int) (pg_sub (pv 3) (pv 5) set_list))
      (pss_one (ps_if (pt_cmpR op_eq (pe_ix ix_list (pv 3) (pv 5) (fun _ _ => rfl)) pe_int (nomark _)) (pss_one (ps_expr (pe_bm PySem.F.plainAttrs_list PySem.F.slot_list_append PySem.F.type_list_append mt_append (pv 6) (pa_cons (pv 5) pa_nil)))) pss_nil))))
      (pss_one (ps_aug (i := 7) sc_has_ring.nd rfl (Or.inl rfl) pe_int ip_add)))))
      (pss_one (ps_ret (pe_cmpR op_lt (pe_callB call_len_seq (by rfl) (T.fr 33 _ rfl) (by decide +kernel) (pa_cons (pv 6) pa_nil)) (pv 0) (nomark _)))))))))), ?_⟩
    walk_at "u"
    refine ⟨_, rfl, _, rfl, n, N, zs, rfl, hN, hz, hn, hzl, fun fo as H1 nfo s1 F1 => ?_⟩
    -- waits = [0] * many
    refine ⟨(show 1 ≤ sizeLine by decide), fun w0 nw0 => ⟨_, rfl, w0, (n : Int), _, rfl, rfl, upd_same, by omega, by omega, by show 1 * _ ≤ _; exact small_sz (by omega), fun W nW => ?_⟩⟩
    have s12 : Same H1 (upd (upd H1 w0 (.lst [.int 0])) W (.lst (List.replicate (n : Int).toNat [V.int 0]).flatten)) := (same_upd nw0).trans (same_upd nW)
    have nW1 : H1 W = none := (same_upd nw0).free nW
    generalize hH2 : upd (upd H1 w0 (.lst [.int 0])) W (.lst (List.replicate (n : Int).toNat [V.int 0]).flatten) = H2 at s12
    have hW2 : H2 W = some (.lst (iV (List.replicate n 0))) := by
      rw [← hH2, upd_same, Int.toNat_natCast, rep_flat]
    have s2 : Same H H2 := s1.trans s12
    have F2 := F1.same s12
    have nW0 : H W = none := s1.free nW1
    have foW : fo ≠ W := ne_of_none F1.top nW1
    have asW : ∀ {i : Nat} {a : Addr}, as[i]? = some a → a ≠ W := fun h => ne_of_none (F1.at_ _ _ h).2.2 nW1
    -- for _, b in needs
    refine ⟨_, rfl, N, rfl, ⟨_, SqL.of (s2 _ _ hN.1)⟩, for_list (K := K) (a := N) (xs := zs.map fun z => V.ref z.1) (fun k σ H' => ∃ ws y4 y5, σ = [some (.int (n : Int)), some (.ref N), some (.ref fo), some (.ref W), y4, y5, none, none, none, none] ∧ Same H H' ∧ Follow H H' fo as zs n ∧ H' W = some (.lst (iV ws)) ∧ ByF ws n (fun b => (waitN (zs.take k) [] b : Int)))
      ⟨_, none, none, rfl, s2, F2, hW2, (byF_rep n).congr fun c hc => rfl⟩ (fun k σ H' _ hP => ?_) (fun k v σ H' hv hP => ?_) (fun σ H' hP => ?_)⟩
    · obtain ⟨ws, y4, y5, _, sm, _⟩ := hP
      exact SqL.of (sm _ _ hN.1)
    · obtain ⟨ws, y4, y5, rfl, sm, F', hW, hB⟩ := hP
      rw [List.getElem?_map] at hv
      cases hk : zs[k]? with
      | none =>
        rw [hk] at hv
        cases hv
      | some z =>
        rw [hk] at hv
        cases hv
        have hzm := List.mem_of_getElem? hk
        have hT := sm _ _ (hN.2 z hzm)
        have hlt := (hz z hzm).2
        refine ⟨z.1, _, rfl, SqT.of hT, rfl, _, _, rfl, _, _, rfl, rfl, ?_⟩
        refine ⟨_, rfl, _, rfl, W, _, _, _, rfl, rfl, SqL.of hW, atI_iV (j := z.2.2) rfl (hB.at_ _ hlt), _, _, rfl, rfl, _, rfl, _, rfl, W, _, _, z.2.2, rfl, rfl, hW, ixN_at rfl (by rw [iV_len, hB.len]; exact hlt), ?_⟩
        refine ⟨ws.set z.2.2 _, _, _, rfl, same_mut sm nW0, ?_, by rw [upd_same, iV_set], hB.set hlt ?_ fun c hc => ?_⟩
        · refine ⟨by rw [upd_ne foW]; exact F'.top, F'.len, F'.nd, fun i a h => ?_⟩
          obtain ⟨g1, g2, g3⟩ := F'.at_ i a h
          exact ⟨g1, g2, by rw [upd_ne (asW h)]; exact g3⟩
        · show ((waitN (zs.take (k + 1)) [] z.2.2 : Nat) : Int) = _
          rw [waitN_take zs z.2.2 k z hk, if_pos rfl]
          rfl
        · show ((waitN (zs.take (k + 1)) [] c : Nat) : Int) = _
          rw [waitN_take zs c k z hk, if_neg fun e => hc e.symm]
          rfl
    obtain ⟨ws, y4, y5, rfl, s3, F3, hW3, hB3⟩ := hP
    rw [List.length_map, List.take_length] at hB3
    -- cleared
    refine ⟨_, rfl, _, rfl, by omega, by omega, fun C nC => lc_range (lo := 0) (n := (n : Int).toNat) (fun i H2 => Same H' H2 ∧ H2 C = some (.lst (nV ((List.range i).filter fun t => waitN zs [] t == 0)))) ⟨same_upd nC, upd_same⟩ (fun i H2 hi hP => ?_) (fun H2 hP => ?_)⟩
    · obtain ⟨sm, hC⟩ := hP
      refine ⟨rfl, ?_⟩
      walk_at "u"
      have hi2 : i < n := by omega
      have e0 : (0 : Int) + (i : Int) = (i : Int) := Int.zero_add _
      refine ⟨_, rfl, _, rfl, W, _, _, _, rfl, rfl, SqL.of (sm _ _ hW3), atI_iV (j := i) e0 (hB3.at_ _ hi2), rfl, _, rfl, ifB (fun e => ?_) (fun e => ?_)⟩
      · have hw : waitN zs [] i = 0 := Int.ofNat.inj (V.int.inj (of_decide_eq_true e))
        refine ⟨_, rfl, _, hC, ?_, same_mut sm nC, ?_⟩
        · rw [nV_len]
          exact small_lt (Nat.lt_of_le_of_lt (List.length_filter_le ..) (by rw [List.length_range]; omega))
        · rw [upd_same, filt_snoc, if_pos (beq_iff_eq.mpr hw), e0, nV_app]
      · have hw : ¬ waitN zs [] i = 0 := fun h => by
          have := of_decide_eq_false e
          exact this (by rw [h]; rfl)
        refine ⟨sm, ?_⟩
        rw [filt_snoc, if_neg fun h => hw (beq_iff_eq.mp h)]
        exact hC
    obtain ⟨s34, hC4⟩ := hP
    rw [Int.toNat_natCast] at hC4
    have s4 : Same H H2 := s3.trans s34
    have F4 := F3.same s34
    have hW4 := s34 _ _ hW3
    have nC0 : H C = none := s3.free nC
    have foC : fo ≠ C := ne_of_none F3.top nC
    have WC : W ≠ C := ne_of_none hW3 nC
    have asC : ∀ {i : Nat} {a : Addr}, as[i]? = some a → a ≠ C := fun h => ne_of_none (F3.at_ _ _ h).2.2 nC
    -- while
    refine ⟨fun m σ H' => ∃ ws cl at_ y4 y5 y8, σ = [some (.int (n : Int)), some (.ref N), some (.ref fo), some (.ref W), y4, y5, some (.ref C), some (.int (at_ : Nat)), y8, none] ∧ Same H H' ∧ Follow H H' fo as zs n ∧ H' W = some (.lst (iV ws)) ∧ ByF ws n (fun b => (waitN zs (cl.take at_) b : Int)) ∧ H' C = some (.lst (nV cl)) ∧ Clr zs n cl at_ ∧ (∀ b, b < n → (b ∈ cl ↔ waitN zs (cl.take at_) b = 0)) ∧ m = n - at_,
      ⟨_, ws, _, 0, _, _, none, rfl, s4, F4, hW4, hB3, hC4, ⟨List.nodup_range.filter _, fun t ht => List.mem_range.mp (List.mem_filter.mp ht).1, Nat.zero_le _, fun z hzm i hi => ?_⟩, fun b hb => ?_, rfl⟩, fun m σ H5 hP => ?_⟩
    · have h1 := (List.mem_filter.mp (List.mem_of_getElem? hi)).2
      have h2 := waitN_zero.mp (beq_iff_eq.mp h1) z hzm rfl
      cases h2
    · rw [List.mem_filter, List.mem_range, beq_iff_eq]
      exact ⟨fun h => h.2, fun h => ⟨hb, h⟩⟩
    obtain ⟨ws, cl, at_, y4, y5, y8, rfl, s5, F5, hW5, hB5, hC5, hcl, hmem, rfl⟩ := hP
    refine ⟨_, rfl, _, rfl, C, _, rfl, .inl (SqL.of hC5), _, _, rfl, rfl, _, rfl, ifB (fun e => ?_) (fun e => ?_)⟩
    · have hat : at_ < cl.length := by
        have h1 := of_decide_eq_true e
        rw [nV_len] at h1
        omega
      have hcln : cl.length ≤ n := by
        have := nat_nodup_len cl (List.range n) hcl.nd fun t ht => List.mem_range.mpr (hcl.lt t ht)
        rw [List.length_range] at this
        exact this
      obtain ⟨a, ha⟩ : ∃ a, cl[at_]? = some a := ⟨_, List.getElem?_eq_getElem hat⟩
      have han : a < n := hcl.lt a (List.mem_of_getElem? ha)
      have hnot : ¬ a ∈ cl.take at_ := fun h => by
        obtain ⟨j, hj⟩ := List.getElem?_of_mem h
        rw [List.getElem?_take] at hj
        split at hj
        · have := ix_of_nodup hcl.nd hj ha
          omega
        · cases hj
      obtain ⟨fa, hfa⟩ : ∃ fa, as[a]? = some fa := ⟨_, List.getElem?_eq_getElem (by rw [F5.len]; exact han)⟩
      have hfa5 := (F5.at_ _ _ hfa).2.2
      refine ⟨fun σ' H' => ∃ m', m' < n - at_ ∧ _, fun _ _ z => z, ?_⟩
      refine ⟨_, rfl, _, rfl, C, _, _, _, rfl, rfl, SqL.of hC5, atI_nV (j := at_) rfl ha, ?_⟩
      refine ⟨_, rfl, _, rfl, fo, _, _, .ref fa, rfl, rfl, SqL.of F5.top, at_of (j := a) rfl (rV_get hfa), fa, rfl, ⟨_, SqL.of hfa5⟩, for_list (K := K) (a := fa) (xs := nV (succ zs a)) (fun k σ H' => ∃ ws cl2 y5, σ = [some (.int (n : Int)), some (.ref N), some (.ref fo), some (.ref W), y4, y5, some (.ref C), some (.int (at_ : Nat)), some (.int (a : Int)), none] ∧ Same H H' ∧ Follow H H' fo as zs n ∧ H' W = some (.lst (iV ws)) ∧ ByF ws n (fun b => (waitN zs (cl.take at_) b : Int) - (((succ zs a).take k).count b : Int)) ∧ H' C = some (.lst (nV (cl ++ cl2))) ∧ Clr zs n (cl ++ cl2) at_ ∧ (∀ b, b < n → (b ∈ cl ++ cl2 ↔ (waitN zs (cl.take at_) b : Int) - (((succ zs a).take k).count b : Int) = 0)))
        ⟨ws, [], y5, rfl, s5, F5, hW5, hB5.congr fun c _ => by simp, by rw [List.append_nil]; exact hC5, by rw [List.append_nil]; exact hcl, fun b hb => by
          rw [List.append_nil, hmem b hb]
          simp⟩ (fun k σ H' _ hP => ?_) (fun k v σ H' hv hP => ?_) (fun σ H' hP => ?_)⟩
      · obtain ⟨ws, cl2, y5, _, _, F', _⟩ := hP
        exact SqL.of (F'.at_ _ _ hfa).2.2
      · obtain ⟨ws, cl2, y5, rfl, s6, F6, hW6, hB6, hC6, hcl6, hmem6⟩ := hP
        obtain ⟨b, hb, rfl⟩ := nV_of hv
        obtain ⟨zb, hzb, e1, e2⟩ := mem_succ.mp (List.mem_of_getElem? hb)
        have hbn : b < n := e2 ▸ (hz zb hzb).2
        have hcnt := waitN_snoc zs (cl.take at_) a b hnot
        have hc1 := cnt_take hb b
        rw [if_pos rfl] at hc1
        have hc2 := cnt_le (succ zs a) (k + 1) b
        have hnin : ¬ b ∈ cl ++ cl2 := fun h => by
          have := (hmem6 b hbn).mp h
          omega
        have F7 : Follow H (upd H' W (.lst ((iV ws).set b (.int ((waitN zs (cl.take at_) b : Int) - (((succ zs a).take k).count b : Int) - 1))))) fo as zs n := ⟨by rw [upd_ne foW]; exact F6.top, F6.len, F6.nd, fun i c h => by
          obtain ⟨g1, g2, g3⟩ := F6.at_ i c h
          exact ⟨g1, g2, by rw [upd_ne (asW h)]; exact g3⟩⟩
        have hW7 : (upd H' W (.lst ((iV ws).set b (.int ((waitN zs (cl.take at_) b : Int) - (((succ zs a).take k).count b : Int) - 1))))) W = some (.lst (iV (ws.set b ((waitN zs (cl.take at_) b : Int) - (((succ zs a).take k).count b : Int) - 1)))) := by
          rw [upd_same, iV_set]
        have hB7 : ByF (ws.set b ((waitN zs (cl.take at_) b : Int) - (((succ zs a).take k).count b : Int) - 1)) n (fun b => (waitN zs (cl.take at_) b : Int) - (((succ zs a).take (k + 1)).count b : Int)) := hB6.set hbn (by
            show (_ : Int) - _ = _
            rw [hc1]
            omega) fun c hc => by
          show (_ : Int) - _ = _ - _
          rw [cnt_take hb c, if_neg hc, Int.add_zero]
        refine ⟨_, rfl, _, rfl, W, _, _, _, rfl, rfl, SqL.of hW6, atI_iV (j := b) rfl (hB6.at_ b hbn), _, _, rfl, rfl, _, rfl, _, rfl, W, _, _, b, rfl, rfl, hW6, ixN_at rfl (by rw [iV_len, hB6.len]; exact hbn), ?_⟩
        refine ⟨_, rfl, _, rfl, W, _, _, _, rfl, rfl, SqL.of hW7, atI_iV (j := b) rfl (hB7.at_ b hbn), rfl, _, rfl, ifB (fun e => ?_) (fun e => ?_)⟩
        · have ez : (waitN zs (cl.take at_) b : Int) - (((succ zs a).take (k + 1)).count b : Int) = 0 := V.int.inj (of_decide_eq_true e)
          have hC7 : (upd H' W (.lst ((iV ws).set b (.int ((waitN zs (cl.take at_) b : Int) - (((succ zs a).take k).count b : Int) - 1))))) C = some (.lst (nV (cl ++ cl2))) := by
            rw [upd_ne WC.symm]
            exact hC6
          have hl6 : (cl ++ cl2).length ≤ n := by
            have := nat_nodup_len (cl ++ cl2) (List.range n) hcl6.nd fun t ht => List.mem_range.mpr (hcl6.lt t ht)
            rw [List.length_range] at this
            exact this
          refine ⟨_, rfl, .inl ⟨rfl, _, .inl (.inl hC7)⟩, _, rfl, C, _, _, rfl, rfl, hC7, by rw [nV_len]; exact small_lt (by omega), ?_⟩
          refine ⟨_, cl2 ++ [b], _, rfl, same_mut (same_mut s6 nW0) nC0, ?_, by rw [upd_ne WC]; exact hW7, hB7, by rw [upd_same, nV_app, List.append_assoc], ?_, fun c hc => ?_⟩
          · exact ⟨by rw [upd_ne foC]; exact F7.top, F7.len, F7.nd, fun i c h => by
              obtain ⟨g1, g2, g3⟩ := F7.at_ i c h
              exact ⟨g1, g2, by rw [upd_ne (asC h)]; exact g3⟩⟩
          · rw [← List.append_assoc]
            refine ⟨nd_snoc hcl6.nd hnin, fun t ht => ?_, by rw [List.length_append]; exact Nat.le_trans hcl6.up (Nat.le_add_right _ _), fun z hzm i hi => ?_⟩
            · rcases List.mem_append.mp ht with h | h
              · exact hcl6.lt t h
              · rw [List.mem_singleton.mp h]
                exact hbn
            · by_cases hil : i < (cl ++ cl2).length
              · rw [List.getElem?_append_left hil] at hi
                obtain ⟨j, hj, hj2⟩ := hcl6.ord z hzm i hi
                exact ⟨j, hj, by rw [List.getElem?_append_left (by omega)]; exact hj2⟩
              · rw [List.getElem?_append_right (by omega)] at hi
                have hb2 : z.2.2 = b := by
                  cases hx : i - (cl ++ cl2).length with
                  | zero =>
                    rw [hx] at hi
                    exact (Option.some.inj hi).symm
                  | succ m =>
                    rw [hx] at hi
                    simp at hi
                have hz0 : waitN zs (cl.take at_ ++ [a]) b = 0 := by omega
                have hz1 := waitN_zero.mp hz0 z hzm hb2
                have ea : cl.take at_ ++ [a] = cl.take (at_ + 1) := by
                  rw [List.take_add_one, ha]
                  rfl
                rw [ea] at hz1
                obtain ⟨j, hj⟩ := List.getElem?_of_mem hz1
                rw [List.getElem?_take] at hj
                split at hj
                · have hj1 : j < cl.length := by omega
                  have hlen : cl.length ≤ (cl ++ cl2).length := by rw [List.length_append]; exact Nat.le_add_right _ _
                  exact ⟨j, by omega, by rw [List.append_assoc, List.getElem?_append_left hj1]; exact hj⟩
                · cases hj
          · rw [← List.append_assoc, List.mem_append, List.mem_singleton]
            by_cases ec : c = b
            · subst ec
              exact ⟨fun _ => ez, fun _ => .inr rfl⟩
            · rw [cnt_take hb c, if_neg ec, Int.add_zero]
              exact ⟨fun h => (hmem6 c hc).mp (h.resolve_right ec), fun h => .inl ((hmem6 c hc).mpr h)⟩
        · have ez : ¬ (waitN zs (cl.take at_) b : Int) - (((succ zs a).take (k + 1)).count b : Int) = 0 := fun h => of_decide_eq_false e (congrArg V.int h)
          refine ⟨_, cl2, _, rfl, same_mut s6 nW0, F7, hW7, hB7, by rw [upd_ne WC.symm]; exact hC6, hcl6, fun c hc => ?_⟩
          by_cases ec : c = b
          · subst ec
            exact ⟨fun h => absurd h hnin, fun h => absurd h ez⟩
          · rw [cnt_take hb c, if_neg ec, Int.add_zero]
            exact hmem6 c hc
      · obtain ⟨ws, cl2, y5, rfl, s6, F6, hW6, hB6, hC6, hcl6, hmem6⟩ := hP
        rw [nV_len, List.take_length] at hB6 hmem6
        have ea : (cl ++ cl2).take (at_ + 1) = cl.take at_ ++ [a] := by
          rw [List.take_append_of_le_length (by omega), List.take_add_one, ha]
          rfl
        have hw : ∀ b, (waitN zs ((cl ++ cl2).take (at_ + 1)) b : Int) = (waitN zs (cl.take at_) b : Int) - ((succ zs a).count b : Int) := fun b => by
          have := waitN_snoc zs (cl.take at_) a b hnot
          rw [ea]
          omega
        refine ⟨_, rfl, _, _, rfl, rfl, n - (at_ + 1), by omega, ws, cl ++ cl2, at_ + 1, _, _, _, rfl, s6, F6, hW6, hB6.congr fun c _ => hw c, hC6, ⟨hcl6.nd, hcl6.lt, by rw [List.length_append]; omega, hcl6.ord⟩, fun b hb => ?_, rfl⟩
        rw [hmem6 b hb, ← hw b]
        omega
    · have hat : at_ = cl.length := by
        have h1 := of_decide_eq_false e
        rw [nV_len] at h1
        have := hcl.up
        omega
      subst hat
      rw [List.take_length] at hmem
      refine ⟨_, rfl, C, _, rfl, .inl (SqL.of hC5), _, rfl, _, _, rfl, rfl, ?_⟩
      rw [nV_len]
      exact q _ H5 s5 (clr_end hcl hz hmem)

theorem isTask_nat {n t : Nat} (h : t < n) : isTask (n : Int) (.int (t : Int)) = true := by
  show (decide ((0 : Int) ≤ (t : Int)) && decide ((t : Int) < (n : Int))) = true
  rw [decide_eq_true (by omega : (0 : Int) ≤ (t : Int)), decide_eq_true (by omega : (t : Int) < (n : Int))]
  rfl
theorem all_rep (n : Nat) : (List.replicate n true).all id = true := by
  rw [List.all_eq_true]
  intro x hx
  exact (List.eq_of_mem_replicate hx)
theorem bl_rep (n : Nat) : (List.replicate n true).map V.bl ++ [V.bl true] = (List.replicate (n + 1) true).map V.bl := by
  rw [List.replicate_succ', List.map_append]
  rfl
theorem pr2_nodup : ∀ {zs : List (Addr × Nat × Nat)}, (zs.map (·.2)).Nodup → (zs.map fun z => (pr2 z).2).Nodup
  | [], _ => List.nodup_nil
  | z :: r, h => by
    rw [List.map_cons] at h
    obtain ⟨h1, h2⟩ := List.nodup_cons.mp h
    rw [List.map_cons]
    refine List.nodup_cons.mpr ⟨fun hm => h1 ?_, pr2_nodup h2⟩
    obtain ⟨y, hy, e⟩ := List.mem_map.mp hm
    refine List.mem_map.mpr ⟨y, hy, ?_⟩
    have e1 : ([(y.2.1 : Int), (y.2.2 : Int)] : List Int) = [(z.2.1 : Int), (z.2.2 : Int)] := e
    injection e1 with a1 a2
    injection a2 with a2 _
    exact Prod.ext (Int.ofNat.inj a1) (Int.ofNat.inj a2)

def spAreNeeds : Sp := fun vs H Q _ => ∃ (n : Nat) (N : Addr) (zs : List (Addr × Nat × Nat)), vs = [.int (n : Int), .ref N] ∧ NeedsAt H N zs ∧ (∀ z ∈ zs, z.2.1 < n ∧ z.2.2 < n) ∧ n ≤ 1000 ∧ zs.length < 64 ∧ (zs.map (·.2)).Nodup ∧ Acyc zs ∧
  ∀ (H' : Hp), Same H H' → Q (.bl true) H'
theorem ok_are_needs (T : Env K mg) : Ok P w K mg base CX0 dd_are_needs "are_needs" 5 ["many", "things"] spAreNeeds := by
  obtain ⟨fd_has_ring, D_has_ring, g_has_ring, k_has_ring, b_has_ring, G_has_ring⟩ := ok_has_ring (P := P) (w := w) (base := base) T
  obtain ⟨fd_is_need, D_is_need, g_is_need, k_is_need, b_is_need, G_is_need⟩ := ok_is_need (P := P) (w := w) (base := base) T
  obtain ⟨fd, F⟩ := T.c.def_ 8 (d := dd_are_needs) rfl
  refine ⟨fd, F, T.gl 8 _ rfl, F.kp, F.bindsN fun _ _ _ _ _ _ us hl => match us, hl with | [_, _], _ => rfl, ?_⟩
  refine F.ok sc_are_needs (fun vs H Q E h => ?_) (fun cdv A outer s H vs Q E hr h => ?_)
  · obtain ⟨n, N, zs, rfl, hN, hz, hn, hzl, hnd, hac, q⟩ := h
    rfl
  · obtain ⟨n, N, zs, rfl, hN, hz, hn, hzl, hnd, hac, q⟩ := h
    refine ⟨_, PSs.nox (pss_cons (ps_if (pt_not (pt_val (pe_callB (cr_all rfl) (by rfl) (T.fr 32 _ rfl) (by decide +kernel) (pa_cons (pe_lc (own := [("thing", 2)]) (g := gName 2) (tt := tYes) (by rfl) sc_are_needs.nd (pi_list (pv 1)) (blkOk_by (own := [("thing", 2)]) (N := N_are_needs) (sc := defScope s_are_needs) (by decide +kernel)) (fun _ _ _ _ _ => (pg_name (i := 2) sc_are_needs.nd rfl (by first | exact Or.inl rfl | exact Or.inr rfl))) (fun _ _ _ _ _ => pts_nil) (fun _ _ _ _ _ => (pe_call G_is_need (hr.mono (by decide)) (by rfl) g_is_need k_is_need b_is_need .nil pass0 (pa_cons (pv 0) (pa_cons (pv 2) pa_nil))))) pa_nil)))) (pss_one (ps_ret pe_bl)) pss_nil)
      (pss_one (ps_ret (pe_and (pe_cmpR op_eq (pe_callB call_len_setT (by rfl) (T.fr 33 _ rfl) (by decide +kernel) (pa_cons (pe_callTy (cr_setOfT rfl hr.units) (by rfl) (T.fr 36 _ rfl) (by decide +kernel) (pa_cons (pv 1) pa_nil)) pa_nil)) (pe_callB call_len_seq (by rfl) (T.fr 33 _ rfl) (by decide +kernel) (pa_cons (pv 1) pa_nil)) (nomark _)) (pe_one (pe_not (pe_call G_has_ring (hr.mono (by decide)) (by rfl) g_has_ring k_has_ring b_has_ring .nil pass0 (pa_cons (pv 0) (pa_cons (pv 1) pa_nil))))))))), ?_⟩
    walk_at "u"
    have hne : ∀ z ∈ zs, z.2.1 ≠ z.2.2 := fun z hzm e => by
      obtain ⟨rk, hrk⟩ := hac
      have := hrk z hzm
      rw [e] at this
      omega
    refine ⟨_, rfl, N, rfl, ⟨_, SqL.of hN.1⟩, fun D nD => lc_list (K := K) (a := N) (xs := zs.map fun z => V.ref z.1) (fun i H' => Same H H' ∧ H' D = some (.lst ((List.replicate i true).map V.bl))) ⟨same_upd nD, upd_same⟩ (fun i H' _ hP => SqL.of (hP.1 _ _ hN.1)) (fun i v H' hv hP => ?_) (fun H' hP => ?_)⟩
    · obtain ⟨sm, hD⟩ := hP
      rw [List.getElem?_map] at hv
      cases hk : zs[i]? with
      | none =>
        rw [hk] at hv
        cases hv
      | some z =>
        rw [hk] at hv
        cases hv
        have hzm := List.mem_of_getElem? hk
        have hlt := hz z hzm
        refine ⟨rfl, ?_⟩
        walk_at "u"
        refine iteT ⟨_, rfl, _, rfl, (n : Int), z.1, (z.2.1 : Int), (z.2.2 : Int), rfl, sm _ _ (hN.2 z hzm), _, hD, ?_, same_mut sm nD, ?_⟩
        · rw [List.length_map, List.length_replicate]
          have := (List.getElem?_eq_some_iff.mp hk).1
          exact small_lt (by omega)
        · have e1 := isTask_nat hlt.1
          have e2 := isTask_nat hlt.2
          have e3 : decide ((z.2.1 : Int) = (z.2.2 : Int)) = false := decide_eq_false fun e => hne z hzm (Int.ofNat.inj e)
          rw [e1, e2, e3, upd_same, ← bl_rep]
          rfl
    obtain ⟨sm, hD⟩ := hP
    refine ⟨D, _, rfl, SqL.of hD, _, rfl, ?_⟩
    rw [all_rep]
    refine iteF ?_
    have hN1 := hN.same sm
    refine ⟨_, rfl, N, zs.map pr2, rfl, SqL.of ?_, fun p hp => ?_, by rw [List.length_map]; exact hzl, fun a L na hL1 hL2 => ?_⟩
    · rw [List.map_map]
      exact hN1.1
    · obtain ⟨z, hzm, rfl⟩ := List.mem_map.mp hp
      exact SqT.of (hN1.2 z hzm)
    have sm2 : Same H (upd H' a (SetTO P w a L)) := sm.trans (same_upd na)
    have hN2 := hN.same sm2
    refine ⟨a, L, rfl, upd_same, fun p hp => ?_, fun hLnd hL64 => ?_⟩
    · obtain ⟨z, hzm, rfl⟩ := List.mem_map.mp (hL1 p hp)
      exact SqT.of (hN2.2 z hzm)
    have hlen : L.length = zs.length := by
      have h1 := nodup_perm_len (a := L.map (·.2)) (b := zs.map fun z => (pr2 z).2) hLnd (pr2_nodup hnd) (fun x hx => by
        obtain ⟨p, hp, rfl⟩ := List.mem_map.mp hx
        obtain ⟨z, hzm, rfl⟩ := List.mem_map.mp (hL1 p hp)
        exact List.mem_map.mpr ⟨z, hzm, rfl⟩) (fun x hx => by
        obtain ⟨z, hzm, rfl⟩ := List.mem_map.mp hx
        exact hL2 (pr2 z) (List.mem_map.mpr ⟨z, hzm, rfl⟩))
      rw [List.length_map, List.length_map] at h1
      exact h1
    refine ⟨_, rfl, N, _, rfl, .inl (SqL.of hN2.1), rfl, ?_⟩
    rw [List.length_map, hlen]
    refine ⟨_, rfl, ?_⟩
    rw [decide_eq_true rfl]
    refine iteT ⟨_, rfl, _, rfl, n, N, zs, rfl, hN2, hz, hn, by omega, fun b H3 s3 hb => ⟨b, rfl, ?_⟩⟩
    rw [hb.mpr hac]
    exact q H3 (sm2.trans s3)

end
/-! sums of rooms -/
def roomSum (rs : List Int) (s : Int) : Nat → Int
  | 0 => 0
  | k + 1 => roomSum rs s k + roomAt rs (s + (k : Int))
theorem roomSum_eq (rs : List Int) (s : Nat) : ∀ k : Nat, roomSum rs ((s : Int) + 1) k = ((rs.drop s).take k).sum + 2 * ((k : Int) - (min k (rs.length - s) : Nat))
  | 0 => by simp [roomSum]
  | k + 1 => by
    rw [roomSum, roomSum_eq rs s k]
    by_cases h : s + k < rs.length
    · have e1 : roomAt rs ((s : Int) + 1 + (k : Int)) = rs[s + k] := by
        have h2 := roomAt_in (rs := rs) (h := (s : Int) + 1 + (k : Int)) (by omega) (by omega)
        have e2 : ((s : Int) + 1 + (k : Int) - 1).toNat = s + k := by omega
        rw [e2, List.getElem?_eq_getElem h] at h2
        exact (Option.some.inj h2).symm
      have e3 : (rs.drop s)[k]? = some rs[s + k] := by
        rw [List.getElem?_drop, List.getElem?_eq_getElem h]
      rw [e1, List.take_add_one, e3, List.sum_append]
      have e4 : min (k + 1) (rs.length - s) = k + 1 := by omega
      have e5 : min k (rs.length - s) = k := by omega
      rw [e4, e5]
      simp
      all_goals omega
    · rw [roomAt_out (by omega)]
      have e3 : (rs.drop s)[k]? = none := List.getElem?_eq_none (by rw [List.length_drop]; omega)
      rw [List.take_add_one, e3]
      have e4 : min (k + 1) (rs.length - s) = rs.length - s := by omega
      have e5 : min k (rs.length - s) = rs.length - s := by omega
      rw [e4, e5]
      simp
      all_goals omega
/-- room(job, s, e) -/
def roomOf (rs : List Int) (s e : Int) : Int := roomSum rs s (e + 1 - s).toNat
theorem cut_sum {rs : List Int} {s e : Int} (h1 : 1 ≤ s) (h2 : s ≤ e) : cutV (iV rs) (some (s - 1)) (some e) = iV ((rs.drop (s - 1).toNat).take (e + 1 - s).toNat) := by
  obtain ⟨a, rfl⟩ : ∃ a : Nat, s = (a : Int) + 1 := ⟨(s - 1).toNat, by omega⟩
  obtain ⟨b, rfl⟩ : ∃ b : Nat, e = (b : Int) := ⟨e.toNat, by omega⟩
  have e1 : (a : Int) + 1 - 1 = (a : Int) := by omega
  have e2 : ((b : Int) + 1 - ((a : Int) + 1)).toNat = b - a := by omega
  rw [e1, e2, Int.toNat_natCast]
  unfold cutV
  rw [HT.sIx_nat, HT.sIx_nat, iV_len]
  unfold iV
  rw [← List.map_drop, ← List.map_take]
  congr 1
  by_cases h : a ≤ rs.length
  · rw [Nat.min_eq_left h]
    by_cases h3 : b ≤ rs.length
    · rw [Nat.min_eq_left h3]
    · rw [Nat.min_eq_right (by omega), List.take_of_length_le (by rw [List.length_drop]; omega), List.take_of_length_le (by rw [List.length_drop]; omega)]
  · rw [Nat.min_eq_right (by omega : rs.length ≤ a), List.drop_eq_nil_of_le (Nat.le_refl _), List.drop_eq_nil_of_le (by omega), List.take_nil, List.take_nil]
theorem room_val {rs : List Int} {s e : Int} (h1 : 1 ≤ s) (h2 : s ≤ e) : ((rs.drop (s - 1).toNat).take (e + 1 - s).toNat).sum + 2 * (if e - (if (rs.length : Int) > s - 1 then (rs.length : Int) else s - 1) > 0 then e - (if (rs.length : Int) > s - 1 then (rs.length : Int) else s - 1) else 0) = roomOf rs s e := by
  obtain ⟨a, rfl⟩ : ∃ a : Nat, s = (a : Int) + 1 := ⟨(s - 1).toNat, by omega⟩
  unfold roomOf
  rw [roomSum_eq]
  have e1 : ((a : Int) + 1 - 1).toNat = a := by omega
  rw [e1]
  congr 1
  congr 1
  split <;> split <;> omega
theorem roomOf_none {rs : List Int} {s e : Int} (h : e < s) : roomOf rs s e = 0 := by
  unfold roomOf
  rw [show (e + 1 - s).toNat = 0 by omega]
  rfl
/-! reaching -/
inductive Reach (zs : List (Addr × Nat × Nat)) (a : Nat) : Nat → Prop where
  | one {z} (h : z ∈ zs) (e : z.2.1 = a) : Reach zs a z.2.2
  | step {c : Nat} {z} (r : Reach zs a c) (h : z ∈ zs) (e : z.2.1 = c) : Reach zs a z.2.2
/-- all that is found, closed, is all that is reached -/
theorem reach_all {zs : List (Addr × Nat × Nat)} {a : Nat} {fk : List Nat} (h1 : ∀ b ∈ succ zs a, b ∈ fk) (h2 : ∀ c ∈ fk, ∀ b ∈ succ zs c, b ∈ fk) : ∀ {b : Nat}, Reach zs a b → b ∈ fk := by
  intro b r
  induction r with
  | one h e => exact h1 _ (mem_succ.mpr ⟨_, h, e, rfl⟩)
  | step r h e ih => exact h2 _ ih _ (mem_succ.mpr ⟨_, h, e, rfl⟩)
/-! a dict of True -/
def tK (fk : List Nat) : List (Key × V) := fk.map fun (b : Nat) => (Sum.inl (b : Int), V.bl true)
theorem valV_tK (fk : List Nat) (b : Nat) : (valV (tK fk) (Sum.inl (b : Int))).isSome = decide (b ∈ fk) := by
  rw [← valV_any, Bool.eq_iff_iff, List.any_eq_true, decide_eq_true_iff]
  constructor
  · rintro ⟨p, hp, e⟩
    obtain ⟨c, hc, rfl⟩ := List.mem_map.mp hp
    have e2 : (Sum.inl (c : Int) : Key) = Sum.inl (b : Int) := of_decide_eq_true e
    have e3 : (c : Int) = (b : Int) := Sum.inl.inj e2
    rw [← Int.ofNat.inj e3]
    exact hc
  · intro h
    exact ⟨_, List.mem_map.mpr ⟨b, h, rfl⟩, decide_eq_true rfl⟩
theorem tK_put {fk : List Nat} {b : Nat} (h : ¬ b ∈ fk) : putK (tK fk) (Sum.inl (b : Int)) (.bl true) = tK (fk ++ [b]) := by
  have h2 : valV (tK fk) (Sum.inl (b : Int)) = none := by
    have := valV_tK fk b
    rw [decide_eq_false h] at this
    exact Option.isSome_eq_false_iff.mp this |> fun z => by simpa using z
  rw [putK_new _ h2]
  unfold tK
  rw [List.map_append]
  rfl
theorem tK_keys (fk : List Nat) : (tK fk).map (·.1) = (fk.map fun (b : Nat) => (b : Int)).map Sum.inl := by
  unfold tK
  rw [List.map_map, List.map_map]
  rfl
theorem tK_len (fk : List Nat) : (tK fk).length = fk.length := List.length_map ..

section
variable {P : Program} {w : World} {K : PySem.W.Frag} {mg : Str → Option Value} {base : Heap}

theorem Valid.acyc {fs : List Int} {ds : List (Option Int)} {zs : List (Addr × Nat × Nat)} {rs : List Int} (v : Valid fs ds zs rs) : Acyc zs := by
  obtain ⟨rk, h⟩ := v.rank
  exact ⟨rk, fun z hz => (h z hz).2.2⟩
theorem Valid.zlt {fs : List Int} {ds : List (Option Int)} {zs : List (Addr × Nat × Nat)} {rs : List Int} (v : Valid fs ds zs rs) : ∀ z ∈ zs, z.2.1 < fs.length ∧ z.2.2 < fs.length := by
  obtain ⟨rk, h⟩ := v.rank
  exact fun z hz => ⟨(h z hz).1, (h z hz).2.1⟩
theorem kd_oV {H : Hp} {ds : List (Option Int)} {i : Nat} {v : V} (h : (oV ds)[i]? = some v) : ∃ d, ds[i]? = some d ∧ ((d = none ∧ v = .non) ∨ ∃ x, d = some x ∧ v = .int x) := by
  unfold oV at h
  rw [List.getElem?_map] at h
  cases e : ds[i]? with
  | none =>
    rw [e] at h
    cases h
  | some d =>
    rw [e] at h
    refine ⟨d, rfl, ?_⟩
    cases d with
    | none => exact .inl ⟨rfl, (Option.some.inj h).symm⟩
    | some x => exact .inr ⟨x, rfl, (Option.some.inj h).symm⟩
def spIsJob : Sp := fun vs H Q _ => ∃ (J f d n r : Addr) (fs : List Int) (ds : List (Option Int)) (zs : List (Addr × Nat × Nat)) (rs : List Int), vs = [.ref J] ∧ JobAt H J f d n r fs ds zs rs ∧ Valid fs ds zs rs ∧ ∀ H', Same H H' → Q (.bl true) H'
theorem ok_is_job (T : Env K mg) : Ok P w K mg base CX0 dd_is_job "is_job" 6 ["thing"] spIsJob := by
  obtain ⟨fd_are_needs, D_are_needs, g_are_needs, k_are_needs, b_are_needs, G_are_needs⟩ := ok_are_needs (P := P) (w := w) (base := base) T
  obtain ⟨fd_is_hour, D_is_hour, g_is_hour, k_is_hour, b_is_hour, G_is_hour⟩ := ok_is_hour (P := P) (w := w) (base := base) T
  obtain ⟨fd_is_due, D_is_due, g_is_due, k_is_due, b_is_due, G_is_due⟩ := ok_is_due (P := P) (w := w) (base := base) T
  obtain ⟨fd_is_room, D_is_room, g_is_room, k_is_room, b_is_room, G_is_room⟩ := ok_is_room (P := P) (w := w) (base := base) T
  obtain ⟨fd, F⟩ := T.c.def_ 4 (d := dd_is_job) rfl
  refine ⟨fd, F, T.gl 4 _ rfl, F.kp, F.bindsN fun _ _ _ _ _ _ us hl => match us, hl with | [_], _ => rfl, ?_⟩
  refine F.ok sc_is_job (fun vs H Q E h => ?_) (fun cdv A outer s H vs Q E hr h => ?_)
  · obtain ⟨J, f, d, n, r, fs, ds, zs, rs, rfl, hJ, hv, q⟩ := h
    rfl
  · obtain ⟨J, f, d, n, r, fs, ds, zs, rs, rfl, hJ, hv, q⟩ := h
    refine ⟨_, PSs.nox (pss_cons (ps_if (PW.pt (pw_or (pt_not (pt_val (pe_callB call_isi (by rfl) (T.fr 29 _ rfl) (by decide +kernel) (pa_cons (pv 0) (pa_cons (pe_bltn (v := .ty "tuple") (by rfl) (T.fr 34 _ rfl) (by decide +kernel) rfl) pa_nil))))) (pw_or1 (pt_cmpR op_ne (pe_callB call_len_seq (by rfl) (T.fr 33 _ rfl) (by decide +kernel) (pa_cons (pv 0) pa_nil)) pe_int (nomark _))))) (pss_one (ps_ret pe_bl)) pss_nil)
      (pss_cons (ps_if (pt_not (pt_val (pe_callB (cr_all rfl) (by rfl) (T.fr 32 _ rfl) (by decide +kernel) (pa_cons (pe_lc (own := [("part", 5)]) (g := gName 5) (tt := tYes) (by rfl) sc_is_job.nd (pi_tup (pv 0)) (blkOk_by (own := [("part", 5)]) (N := N_is_job) (sc := defScope s_is_job) (by decide +kernel)) (fun _ _ _ _ _ => (pg_name (i := 5) sc_is_job.nd rfl (by first | exact Or.inl rfl | exact Or.inr rfl))) (fun _ _ _ _ _ => pts_nil) (fun _ _ _ _ _ => (pe_callB (r := rIsi K) call_isi (by rfl) (T.fr 29 _ rfl) (by decide +kernel) (pa_cons (pv 5) (pa_cons (pe_bltn (v := .ty "list") (by rfl) (T.fr 35 _ rfl) (by decide +kernel) rfl) pa_nil))))) pa_nil)))) (pss_one (ps_ret pe_bl)) pss_nil)
      (pss_cons (ps_asg (pv 0) (pg_tup rfl (pgs_cons (pg_name (i := 1) sc_is_job.nd rfl (Or.inl rfl)) (pgs_cons (pg_name (i := 2) sc_is_job.nd rfl (Or.inl rfl)) (pgs_cons (pg_name (i := 3) sc_is_job.nd rfl (Or.inl rfl)) (pgs_cons (pg_name (i := 4) sc_is_job.nd rfl (Or.inl rfl)) pgs_nil))))))
      (pss_cons (ps_if (pt_cmpR op_ne (pe_callB call_len_seq (by rfl) (T.fr 33 _ rfl) (by decide +kernel) (pa_cons (pv 2) pa_nil)) (pe_callB call_len_seq (by rfl) (T.fr 33 _ rfl) (by decide +kernel) (pa_cons (pv 1) pa_nil)) (nomark _)) (pss_one (ps_ret pe_bl)) pss_nil)
      (pss_one (ps_ret (pe_and (pe_callB (cr_all rfl) (by rfl) (T.fr 32 _ rfl) (by decide +kernel) (pa_cons (pe_lc (own := [("free", 6)]) (g := gName 6) (tt := tYes) (by rfl) sc_is_job.nd (pi_list (pv 1)) (blkOk_by (own := [("free", 6)]) (N := N_is_job) (sc := defScope s_is_job) (by decide +kernel)) (fun _ _ _ _ _ => (pg_name (i := 6) sc_is_job.nd rfl (by first | exact Or.inl rfl | exact Or.inr rfl))) (fun _ _ _ _ _ => pts_nil) (fun _ _ _ _ _ => (pe_call G_is_hour (hr.mono (by decide)) (by rfl) g_is_hour k_is_hour b_is_hour .nil pass0 (pa_cons (pv 6) pa_nil)))) pa_nil)) (pe_and (pe_callB (cr_all rfl) (by rfl) (T.fr 32 _ rfl) (by decide +kernel) (pa_cons (pe_lc (own := [("due", 7)]) (g := gName 7) (tt := tYes) (by rfl) sc_is_job.nd (pi_list (pv 2)) (blkOk_by (own := [("due", 7)]) (N := N_is_job) (sc := defScope s_is_job) (by decide +kernel)) (fun _ _ _ _ _ => (pg_name (i := 7) sc_is_job.nd rfl (by first | exact Or.inl rfl | exact Or.inr rfl))) (fun _ _ _ _ _ => pts_nil) (fun _ _ _ _ _ => (pe_call G_is_due (hr.mono (by decide)) (by rfl) g_is_due k_is_due b_is_due .nil pass0 (pa_cons (pv 7) pa_nil)))) pa_nil)) (pe_and (pe_call G_are_needs (hr.mono (by decide)) (by rfl) g_are_needs k_are_needs b_are_needs .nil pass0 (pa_cons (pe_callB call_len_seq (by rfl) (T.fr 33 _ rfl) (by decide +kernel) (pa_cons (pv 1) pa_nil)) (pa_cons (pv 3) pa_nil))) (pe_one (pe_callB (cr_all rfl) (by rfl) (T.fr 32 _ rfl) (by decide +kernel) (pa_cons (pe_lc (own := [("places", 8)]) (g := gName 8) (tt := tYes) (by rfl) sc_is_job.nd (pi_list (pv 4)) (blkOk_by (own := [("places", 8)]) (N := N_is_job) (sc := defScope s_is_job) (by decide +kernel)) (fun _ _ _ _ _ => (pg_name (i := 8) sc_is_job.nd rfl (by first | exact Or.inl rfl | exact Or.inr rfl))) (fun _ _ _ _ _ => pts_nil) (fun _ _ _ _ _ => (pe_call G_is_room (hr.mono (by decide)) (by rfl) g_is_room k_is_room b_is_room .nil pass0 (pa_cons (pv 8) pa_nil)))) pa_nil)))))))))))), ?_⟩
    walk_at "u"
    refine ⟨_, rfl, rIsi_of (b := true) (.tup hJ.top) (by decide +kernel) ⟨_, rfl, ?_⟩⟩
    refine iteF ⟨_, rfl, J, _, rfl, .inr (SqT.of hJ.top), rfl, _, rfl, iteF ?_⟩
    -- all parts are lists
    refine ⟨_, rfl, J, rfl, ⟨_, SqT.of hJ.top⟩, fun D nD => lc_tup (K := K) (a := J) (xs := [.ref f, .ref d, .ref n, .ref r]) (fun i H' => Same H H' ∧ H' D = some (.lst ((List.replicate i true).map V.bl))) ⟨same_upd nD, upd_same⟩ (fun i H' _ hP => SqT.of (hP.1 _ _ hJ.top)) (fun i v H' hv2 hP => ?_) (fun H' hP => ?_)⟩
    · obtain ⟨sm, hD⟩ := hP
      have hk : Kd H' v "list" := by
        have hj := hJ.same sm
        match i, hv2 with
        | 0, e => cases e; exact .lst hj.fr
        | 1, e => cases e; exact .lst hj.du
        | 2, e => cases e; exact .lst hj.ne.1
        | 3, e => cases e; exact .lst hj.ro
        | i + 4, e => simp at e
      have hi : i < 4 := (List.getElem?_eq_some_iff.mp hv2).1
      refine ⟨rfl, ?_⟩
      walk_at "u"
      refine iteT ⟨_, rfl, rIsi_of (b := true) hk (by decide +kernel) ⟨_, hD, ?_, same_mut sm nD, ?_⟩⟩
      · rw [List.length_map, List.length_replicate]
        exact small_lt (by omega)
      · rw [upd_same, ← bl_rep]
    obtain ⟨s1, hD⟩ := hP
    refine ⟨D, _, rfl, SqL.of hD, _, rfl, ?_⟩
    rw [all_rep]
    refine iteF ?_
    have j1 := hJ.same s1
    refine ⟨_, rfl, J, _, rfl, SqT.of j1.top, rfl, _, _, rfl, _, _, rfl, _, _, rfl, _, _, rfl, rfl, ?_⟩
    refine ⟨_, rfl, d, _, rfl, .inl (SqL.of j1.du), _, rfl, f, _, rfl, .inl (SqL.of j1.fr), rfl, _, rfl, ?_⟩
    rw [oV_len, iV_len, hv.dl]
    refine iteNS rfl ?_
    -- frees
    refine ⟨_, rfl, f, rfl, ⟨_, SqL.of j1.fr⟩, fun D1 nD1 => lc_list (K := K) (a := f) (xs := iV fs) (fun i H2 => Same H' H2 ∧ H2 D1 = some (.lst ((List.replicate i true).map V.bl))) ⟨same_upd nD1, upd_same⟩ (fun i H2 _ hP => SqL.of (hP.1 _ _ j1.fr)) (fun i v H2 hv2 hP => ?_) (fun H2 hP => ?_)⟩
    · obtain ⟨sm, hD1⟩ := hP
      obtain ⟨x, hx, rfl⟩ := iV_of hv2
      have hx1 := (hv.fv x (List.mem_of_getElem? hx)).1
      have hi := (List.getElem?_eq_some_iff.mp hx).1
      refine ⟨rfl, ?_⟩
      walk_at "u"
      refine iteT ⟨_, rfl, .int x, _, rfl, .int x, _, hD1, ?_, same_mut sm nD1, ?_⟩
      · rw [List.length_map, List.length_replicate]
        exact small_lt (by have := hv.fl; omega)
      · rw [show isWF 1 (.int x) = true from decide_eq_true hx1, upd_same, ← bl_rep]
    obtain ⟨s2, hD1⟩ := hP
    refine ⟨D1, _, rfl, SqL.of hD1, _, rfl, ?_⟩
    rw [all_rep]
    refine iteT ?_
    have j2 := j1.same s2
    -- dues
    refine ⟨_, rfl, d, rfl, ⟨_, SqL.of j2.du⟩, fun D2 nD2 => lc_list (K := K) (a := d) (xs := oV ds) (fun i H3 => Same H2 H3 ∧ H3 D2 = some (.lst ((List.replicate i true).map V.bl))) ⟨same_upd nD2, upd_same⟩ (fun i H3 _ hP => SqL.of (hP.1 _ _ j2.du)) (fun i v H3 hv2 hP => ?_) (fun H3 hP => ?_)⟩
    · obtain ⟨sm, hD2⟩ := hP
      obtain ⟨o, ho, hc⟩ := kd_oV (H := H) hv2
      have hi := (List.getElem?_eq_some_iff.mp ho).1
      have hkd : (∃ t, Kd H3 v t) ∧ isDue v = true := by
        rcases hc with ⟨_, rfl⟩ | ⟨x, rfl, rfl⟩
        · exact ⟨⟨_, .non⟩, rfl⟩
        · exact ⟨⟨_, .int x⟩, decide_eq_true (hv.dv x (List.mem_of_getElem? ho)).1⟩
      obtain ⟨⟨t, ht⟩, hd⟩ := hkd
      refine ⟨rfl, ?_⟩
      walk_at "u"
      refine iteT ⟨_, rfl, v, t, rfl, ht, _, hD2, ?_, same_mut sm nD2, ?_⟩
      · rw [List.length_map, List.length_replicate]
        exact small_lt (by have := hv.fl; have := hv.dl; omega)
      · rw [hd, upd_same, ← bl_rep]
    obtain ⟨s3, hD2⟩ := hP
    refine ⟨D2, _, rfl, SqL.of hD2, _, rfl, ?_⟩
    rw [all_rep]
    refine iteT ?_
    have j3 := j2.same s3
    refine ⟨_, rfl, f, _, rfl, .inl (SqL.of j3.fr), _, rfl, fs.length, n, zs, by rw [iV_len]; rfl, j3.ne, hv.zlt, by have := hv.fl; omega, by have := hv.zl; omega, hv.znd, hv.acyc, fun H4 s4 => ⟨true, rfl, iteT ?_⟩⟩
    have j4 := j3.same s4
    refine ⟨_, rfl, r, rfl, ⟨_, SqL.of j4.ro⟩, fun D3 nD3 => lc_list (K := K) (a := r) (xs := iV rs) (fun i H5 => Same H4 H5 ∧ H5 D3 = some (.lst ((List.replicate i true).map V.bl))) ⟨same_upd nD3, upd_same⟩ (fun i H5 _ hP => SqL.of (hP.1 _ _ j4.ro)) (fun i v H5 hv2 hP => ?_) (fun H5 hP => ?_)⟩
    · obtain ⟨sm, hD3⟩ := hP
      obtain ⟨x, hx, rfl⟩ := iV_of hv2
      have hx1 := hv.ro.val x (List.mem_of_getElem? hx)
      have hi := (List.getElem?_eq_some_iff.mp hx).1
      have hl := hv.ro.len
      refine ⟨rfl, ?_⟩
      walk_at "u"
      refine iteT ⟨_, rfl, .int x, _, rfl, .int x, _, hD3, ?_, same_mut sm nD3, ?_⟩
      · rw [List.length_map, List.length_replicate]
        exact small_lt (by omega)
      · have e1 : isRoom (.int x) = true := by
          show (decide (0 ≤ x) && decide (x ≤ 3)) = true
          rw [decide_eq_true hx1.1, decide_eq_true hx1.2]
          rfl
        rw [e1, upd_same, ← bl_rep]
    obtain ⟨s5, hD3⟩ := hP
    refine ⟨D3, _, rfl, SqL.of hD3, ?_⟩
    rw [all_rep]
    exact q H5 ((((s1.trans s2).trans s3).trans s4).trans s5)
def spCheckJob : Sp := fun vs H Q _ => ∃ (J f d n r : Addr) (fs : List Int) (ds : List (Option Int)) (zs : List (Addr × Nat × Nat)) (rs : List Int), vs = [.ref J] ∧ JobAt H J f d n r fs ds zs rs ∧ Valid fs ds zs rs ∧ ∀ H', Same H H' → Q .non H'
theorem ok_check_job (T : Env K mg) : Ok P w K mg base CX0 dd_check_job "check_job" 7 ["job"] spCheckJob := by
  obtain ⟨fd_is_job, D_is_job, g_is_job, k_is_job, b_is_job, G_is_job⟩ := ok_is_job (P := P) (w := w) (base := base) T
  obtain ⟨fd, F⟩ := T.c.def_ 11 (d := dd_check_job) rfl
  refine ⟨fd, F, T.gl 11 _ rfl, F.kp, F.bindsN fun _ _ _ _ _ _ us hl => match us, hl with | [_], _ => rfl, ?_⟩
  refine F.ok sc_check_job (fun vs H Q E h => ?_) (fun cdv A outer s H vs Q E hr h => ?_)
  · obtain ⟨J, f, d, n, r, fs, ds, zs, rs, rfl, hJ, hv, q⟩ := h
    rfl
  · obtain ⟨J, f, d, n, r, fs, ds, zs, rs, rfl, hJ, hv, q⟩ := h
    refine ⟨_, PSs.nox (pss_one (ps_if (pt_not (pt_val (pe_call G_is_job (hr.mono (by decide)) (by rfl) g_is_job k_is_job b_is_job .nil pass0 (pa_cons (pv 0) pa_nil)))) (pss_one ps_never) pss_nil)), ?_⟩
    walk_at "u"
    exact ⟨_, rfl, J, f, d, n, r, fs, ds, zs, rs, rfl, hJ, hv, fun H' s => ⟨_, rfl, iteF (q H' s)⟩⟩
def spCheckTask : Sp := fun vs H Q _ => ∃ (J f d n r : Addr) (fs : List Int) (t : Nat), vs = [.ref J, .int (t : Int)] ∧ H J = some (.tup [.ref f, .ref d, .ref n, .ref r]) ∧ H f = some (.lst (iV fs)) ∧ t < fs.length ∧ Q .non H
theorem ok_check_task (T : Env K mg) : Ok P w K mg base CX0 dd_check_task "check_task" 4 ["job", "t"] spCheckTask := by
  obtain ⟨fd_is_task, D_is_task, g_is_task, k_is_task, b_is_task, G_is_task⟩ := ok_is_task (P := P) (w := w) (base := base) T
  obtain ⟨fd, F⟩ := T.c.def_ 12 (d := dd_check_task) rfl
  refine ⟨fd, F, T.gl 12 _ rfl, F.kp, F.bindsN fun _ _ _ _ _ _ us hl => match us, hl with | [_, _], _ => rfl, ?_⟩
  refine F.ok sc_check_task (fun vs H Q E h => ?_) (fun cdv A outer s H vs Q E hr h => ?_)
  · obtain ⟨J, f, d, n, r, fs, t, rfl, hJ, hf, ht, q⟩ := h
    rfl
  · obtain ⟨J, f, d, n, r, fs, t, rfl, hJ, hf, ht, q⟩ := h
    refine ⟨_, PSs.nox (pss_one (ps_if (pt_not (pt_val (pe_call G_is_task (hr.mono (by decide)) (by rfl) g_is_task k_is_task b_is_task .nil pass0 (pa_cons (pe_callB call_len_seq (by rfl) (T.fr 33 _ rfl) (by decide +kernel) (pa_cons (pe_ix ix_tup (pv 0) pe_int (fun _ _ => rfl)) pa_nil)) (pa_cons (pv 1) pa_nil))))) (pss_one ps_never) pss_nil)), ?_⟩
    walk_at "u"
    refine ⟨_, rfl, _, _, _, .ref f, rfl, rfl, SqT.of hJ, atI_nat (j := 0) rfl, f, _, rfl, .inl (SqL.of hf), _, rfl, (fs.length : Int), .int (t : Int), _, by rw [iV_len]; rfl, .int _, ?_⟩
    rw [isTask_nat ht]
    exact ⟨_, rfl, iteF q⟩
def spTasksBehind : Sp := fun vs H Q _ => ∃ (J f d n r : Addr) (fs : List Int) (zs : List (Addr × Nat × Nat)) (a : Nat), vs = [.ref J, .int (a : Int)] ∧ H J = some (.tup [.ref f, .ref d, .ref n, .ref r]) ∧ H f = some (.lst (iV fs)) ∧ NeedsAt H n zs ∧
  (∀ z ∈ zs, z.2.1 < fs.length ∧ z.2.2 < fs.length) ∧ fs.length < 64 ∧ zs.length ≤ 10000 ∧ a < fs.length ∧ ∀ (q : Addr) (ys : List Int) (H' : Hp), H q = none → Same H H' → H' q = some (.lst (iV ys)) → (∀ b : Nat, (b : Int) ∈ ys ↔ Reach zs a b) → Q (.ref q) H'
theorem ok_tasks_behind (T : Env K mg) : Ok P w K mg base CX0 dd_tasks_behind "tasks_behind" 2 ["job", "first"] spTasksBehind := by
  obtain ⟨fd_followers_of, D_followers_of, g_followers_of, k_followers_of, b_followers_of, G_followers_of⟩ := ok_followers_of (P := P) (w := w) (base := base) T
  obtain ⟨fd, F⟩ := T.c.def_ 14 (d := dd_tasks_behind) rfl
  refine ⟨fd, F, T.gl 14 _ rfl, F.kp, F.bindsN fun _ _ _ _ _ _ us hl => match us, hl with | [_, _], _ => rfl, ?_⟩
  refine F.ok sc_tasks_behind (fun vs H Q E h => ?_) (fun cdv A outer s H vs Q E hr h => ?_)
  · obtain ⟨J, f, d, N, r, fs, zs, a0, rfl, hJ, hf, hN, hz, hn, hzl, ha0, q⟩ := h
    rfl
  · obtain ⟨J, f, d, N, r, fs, zs, a0, rfl, hJ, hf, hN, hz, hn, hzl, ha0, q⟩ := h
    refine ⟨_, PSs.nox (pss_cons (ps_set (i := 2) sc_tasks_behind.nd rfl (Or.inl rfl) (pe_call G_followers_of (hr.mono (by decide)) (by rfl) g_followers_of k_followers_of b_followers_of .nil pass0 (pa_cons (pe_callB call_len_seq (by rfl) (T.fr 33 _ rfl) (by decide +kernel) (pa_cons (pe_ix ix_tup (pv 0) pe_int (fun _ _ => rfl)) pa_nil)) (pa_cons (pe_ix ix_tup (pv 0) pe_int (fun _ _ => rfl)) pa_nil))))
      (pss_cons (ps_set (i := 3) sc_tasks_behind.nd rfl (Or.inl rfl) pe_dnewK)
      (pss_cons (ps_set (i := 4) sc_tasks_behind.nd rfl (Or.inl rfl) (pe_lst (pa_cons (pv 1) pa_nil)))
      (pss_cons (ps_while PassesOwn.never (pt_truth (pv 4) (by intro _; rfl)) (pss_cons (ps_set (i := 5) sc_tasks_behind.nd rfl (Or.inl rfl) (pe_bm0 PySem.F.plainAttrs_list PySem.F.slot_list_pop PySem.F.type_list_pop mt_pop (pv 4)))
      (pss_one (ps_for PassesOwn.never rfl (pi_list (pe_ix ix_list (pv 2) (pv 5) (fun _ _ => rfl))) (pg_name (i := 6) sc_tasks_behind.nd rfl (Or.inl rfl)) (pss_one (ps_if (pt_cmp (pc_dnotin (hu_of hr) (pv 6) (pv 3))) (pss_cons (ps_dput (hu_of hr) (pv 3) (pv 6) pe_bl rfl)
      (pss_one (ps_expr (pe_bm PySem.F.plainAttrs_list PySem.F.slot_list_append PySem.F.type_list_append mt_append (pv 4) (pa_cons (pv 6) pa_nil))))) pss_nil))))))
      (pss_one (ps_ret (pe_callB (call_sortedDI rfl) (by rfl) (T.fr 38 _ rfl) (by decide +kernel) (pa_cons (pv 3) pa_nil)))))))), ?_⟩
    walk_at "u"
    refine ⟨_, rfl, _, _, _, .ref f, rfl, rfl, SqT.of hJ, atI_nat (j := 0) rfl, f, _, rfl, .inl (SqL.of hf), _, rfl, _, _, _, .ref N, rfl, rfl, SqT.of hJ, atI_nat (j := 2) rfl, fs.length, N, zs, by rw [iV_len]; rfl, hN, hz, by omega, hzl, fun fo as H1 nfo s1 F1 => ?_⟩
    refine fun B nB => ?_
    have nB0 : H B = none := s1.free nB
    refine ⟨_, rfl, (show 1 ≤ sizeLine by decide), fun TD nTD => ?_⟩
    have s12 : Same H1 (upd (upd H1 B (.dK [])) TD (.lst [.int (a0 : Int)])) := (same_upd nB).trans (same_upd nTD)
    have s2 := s1.trans s12
    have nTD1 : H1 TD = none := (same_upd nB).free nTD
    have nTD0 : H TD = none := s1.free nTD1
    have BTD : B ≠ TD := ne_of_none (show (upd H1 B (.dK [])) B = _ from upd_same) nTD
    have F2 := F1.same s12
    have foB : fo ≠ B := ne_of_none F1.top nB
    have foT : fo ≠ TD := ne_of_none F1.top nTD1
    have asB : ∀ {i : Nat} {a : Addr}, as[i]? = some a → a ≠ B := fun h => ne_of_none (F1.at_ _ _ h).2.2 nB
    have asT : ∀ {i : Nat} {a : Addr}, as[i]? = some a → a ≠ TD := fun h => ne_of_none (F1.at_ _ _ h).2.2 nTD1
    refine ⟨fun m σ H' => ∃ fk td y5 y6, σ = [some (.ref J), some (.int (a0 : Int)), some (.ref fo), some (.ref B), some (.ref TD), y5, y6] ∧ Same H H' ∧ Follow H H' fo as zs fs.length ∧ H' B = some (.dK (tK fk)) ∧ H' TD = some (.lst (nV td)) ∧ fk.Nodup ∧ (∀ b ∈ fk, b < fs.length ∧ Reach zs a0 b) ∧ (∀ t ∈ td, t = a0 ∨ t ∈ fk) ∧ (∀ c, c = a0 ∨ c ∈ fk → c ∈ td ∨ ∀ b ∈ succ zs c, b ∈ fk) ∧ td.length ≤ fk.length + 1 ∧ m + fk.length = fs.length + td.length,
      ⟨fs.length + 1, [], [a0], none, none, rfl, s2, F2, by rw [upd_ne BTD, upd_same]; rfl, by rw [upd_same]; rfl, List.nodup_nil, fun b hb => (by cases hb), fun t ht => .inl (List.mem_singleton.mp ht), fun c hc => .inl (List.mem_singleton.mpr (hc.resolve_right (by simp))), by simp, by simp⟩, fun m σ H3 hP => ?_⟩
    obtain ⟨fk, td, y5, y6, rfl, s3, F3, hB, hT, hnd, hfk, htd, hcl, htl, hm⟩ := hP
    have hfkl : fk.length ≤ fs.length := by
      have := nat_nodup_len fk (List.range fs.length) hnd fun t ht => List.mem_range.mpr (hfk t ht).1
      rw [List.length_range] at this
      exact this
    refine ⟨_, rfl, _, .inl ⟨_, SqL.of hT, rfl⟩, ifB (fun e => ?_) (fun e => ?_)⟩
    · obtain ⟨td0, a, rfl⟩ : ∃ td0 a, td = td0 ++ [a] := by
        have hne : td ≠ [] := fun z => by
          subst z
          cases e
        exact ⟨td.dropLast, td.getLast hne, (List.dropLast_concat_getLast hne).symm⟩
      have han : a < fs.length := by
        rcases htd a (List.mem_append.mpr (.inr (List.mem_singleton.mpr rfl))) with h | h
        · rw [h]
          exact ha0
        · exact (hfk a h).1
      obtain ⟨fa, hfa⟩ : ∃ fa, as[a]? = some fa := ⟨_, List.getElem?_eq_getElem (by rw [F3.len]; exact han)⟩
      rw [List.length_append, List.length_singleton] at hm htl
      refine ⟨fun σ' H' => ∃ m', m' < m ∧ _, fun _ _ z => z, ?_⟩
      refine ⟨_, rfl, .inl ⟨rfl, _, .inl (.inl hT)⟩, TD, _, .int (a : Int), rfl, rfl, hT, ?_, ?_⟩
      · rw [← nV_app]
        simp
      rw [← nV_app, List.dropLast_concat]
      have hT4 : (upd H3 TD (.lst (nV td0))) TD = some (.lst (nV td0)) := upd_same
      have F4 : Follow H (upd H3 TD (.lst (nV td0))) fo as zs fs.length := ⟨by rw [upd_ne foT]; exact F3.top, F3.len, F3.nd, fun i c h => by
        obtain ⟨g1, g2, g3⟩ := F3.at_ i c h
        exact ⟨g1, g2, by rw [upd_ne (asT h)]; exact g3⟩⟩
      have hB4 : (upd H3 TD (.lst (nV td0))) B = some (.dK (tK fk)) := by
        rw [upd_ne BTD]
        exact hB
      have hfa4 := (F4.at_ _ _ hfa).2.2
      refine ⟨_, rfl, _, rfl, fo, _, _, .ref fa, rfl, rfl, SqL.of F4.top, at_of (j := a) rfl (rV_get hfa), fa, rfl, ⟨_, SqL.of hfa4⟩, for_list (K := K) (a := fa) (xs := nV (succ zs a)) (fun k σ H' => ∃ fk2 y6, σ = [some (.ref J), some (.int (a0 : Int)), some (.ref fo), some (.ref B), some (.ref TD), some (.int (a : Int)), y6] ∧ Same H H' ∧ Follow H H' fo as zs fs.length ∧ H' B = some (.dK (tK (fk ++ fk2))) ∧ H' TD = some (.lst (nV (td0 ++ fk2))) ∧ (fk ++ fk2).Nodup ∧ (∀ b ∈ fk ++ fk2, b < fs.length ∧ Reach zs a0 b) ∧ ∀ b ∈ (succ zs a).take k, b ∈ fk ++ fk2)
        ⟨[], y6, rfl, same_mut s3 nTD0, F4, by rw [List.append_nil]; exact hB4, by rw [List.append_nil]; exact hT4, by rw [List.append_nil]; exact hnd, by rw [List.append_nil]; exact hfk, fun b hb => by simp at hb⟩ (fun k σ H' _ hP => ?_) (fun k v σ H' hv hP => ?_) (fun σ H' hP => ?_)⟩
      · obtain ⟨fk2, y6, _, _, F', _⟩ := hP
        exact SqL.of (F'.at_ _ _ hfa).2.2
      · obtain ⟨fk2, y6, rfl, s5, F5, hB5, hT5, hnd5, hfk5, hin5⟩ := hP
        obtain ⟨b, hb, rfl⟩ := nV_of hv
        obtain ⟨zb, hzb, e1, e2⟩ := mem_succ.mp (List.mem_of_getElem? hb)
        have hbn : b < fs.length := e2 ▸ (hz zb hzb).2
        have hbr : Reach zs a0 b := by
          rw [← e2]
          rcases htd a (List.mem_append.mpr (.inr (List.mem_singleton.mpr rfl))) with h | h
          · exact .one hzb (e1.trans h)
          · exact .step (hfk a h).2 hzb e1
        have hl5 : (fk ++ fk2).length ≤ fs.length := by
          have := nat_nodup_len (fk ++ fk2) (List.range fs.length) hnd5 fun t ht => List.mem_range.mpr (hfk5 t ht).1
          rw [List.length_range] at this
          exact this
        have mem1 : ∀ c ∈ (succ zs a).take (k + 1), c ∈ (succ zs a).take k ∨ c = b := fun c hc => by
          rw [List.take_add_one, hb] at hc
          rcases List.mem_append.mp hc with h | h
          · exact .inl h
          · exact .inr (by simpa using h)
        refine ⟨_, rfl, _, rfl, B, _, rfl, DGet.k (k := Sum.inl (b : Int)) hB5, _, rfl, ?_⟩
        rw [valV_tK]
        refine ifB (fun e => ?_) (fun e => ?_)
        · have hnin : ¬ b ∈ fk ++ fk2 := fun h => by
            rw [decide_eq_true h] at e
            cases e
          refine ⟨_, rfl, _, rfl, B, _, rfl, DPut.k (k := Sum.inl (b : Int)) hB5 (by rw [tK_len]; exact small_lt (by omega)), ?_⟩
          rw [tK_put hnin]
          have hT6 : (upd H' B (.dK (tK (fk ++ fk2 ++ [b])))) TD = some (.lst (nV (td0 ++ fk2))) := by
            rw [upd_ne BTD.symm]
            exact hT5
          refine ⟨_, rfl, .inl ⟨rfl, _, .inl (.inl hT6)⟩, _, rfl, TD, _, _, rfl, rfl, hT6, ?_, ?_⟩
          · rw [nV_len]
            have h1 : (td0 ++ fk2).length ≤ fs.length + fs.length := by
              rw [List.length_append] at hl5 ⊢
              omega
            exact small_lt (by omega)
          refine ⟨fk2 ++ [b], _, rfl, same_mut (same_mut s5 nB0) nTD0, ?_, by rw [upd_ne BTD, upd_same, List.append_assoc], by rw [upd_same, nV_app, List.append_assoc], ?_, fun c hc => ?_, fun c hc => ?_⟩
          · exact ⟨by rw [upd_ne foT, upd_ne foB]; exact F5.top, F5.len, F5.nd, fun i c h => by
              obtain ⟨g1, g2, g3⟩ := F5.at_ i c h
              exact ⟨g1, g2, by rw [upd_ne (asT h), upd_ne (asB h)]; exact g3⟩⟩
          · rw [← List.append_assoc]
            exact nd_snoc hnd5 hnin
          · rw [← List.append_assoc] at hc
            rcases List.mem_append.mp hc with h | h
            · exact hfk5 c h
            · rw [List.mem_singleton.mp h]
              exact ⟨hbn, hbr⟩
          · rw [← List.append_assoc]
            rcases mem1 c hc with h | h
            · exact List.mem_append.mpr (.inl (hin5 c h))
            · exact List.mem_append.mpr (.inr (List.mem_singleton.mpr h))
        · have hin : b ∈ fk ++ fk2 := Decidable.byContradiction fun h => by
            rw [decide_eq_false h] at e
            cases e
          refine ⟨fk2, _, rfl, s5, F5, hB5, hT5, hnd5, hfk5, fun c hc => ?_⟩
          rcases mem1 c hc with h | h
          · exact hin5 c h
          · rw [h]
            exact hin
      · obtain ⟨fk2, y6, rfl, s5, F5, hB5, hT5, hnd5, hfk5, hin5⟩ := hP
        rw [nV_len, List.take_length] at hin5
        have hl5 : (fk ++ fk2).length ≤ fs.length := by
          have := nat_nodup_len (fk ++ fk2) (List.range fs.length) hnd5 fun t ht => List.mem_range.mpr (hfk5 t ht).1
          rw [List.length_range] at this
          exact this
        rw [List.length_append] at hl5
        refine ⟨m - 1, by omega, fk ++ fk2, td0 ++ fk2, _, _, rfl, s5, F5, hB5, hT5, hnd5, hfk5, fun t ht => ?_, fun c hc => ?_, by rw [List.length_append, List.length_append]; omega, by rw [List.length_append, List.length_append]; omega⟩
        · rcases List.mem_append.mp ht with h | h
          · rcases htd t (List.mem_append.mpr (.inl h)) with h2 | h2
            · exact .inl h2
            · exact .inr (List.mem_append.mpr (.inl h2))
          · exact .inr (List.mem_append.mpr (.inr h))
        · have old : c = a0 ∨ c ∈ fk → c ∈ td0 ++ fk2 ∨ ∀ b ∈ succ zs c, b ∈ fk ++ fk2 := fun h => by
            rcases hcl c h with h2 | h2
            · rcases List.mem_append.mp h2 with h3 | h3
              · exact .inl (List.mem_append.mpr (.inl h3))
              · rw [List.mem_singleton.mp h3]
                exact .inr hin5
            · exact .inr fun b hb => List.mem_append.mpr (.inl (h2 b hb))
          rcases hc with h | h
          · exact old (.inl h)
          · rcases List.mem_append.mp h with h | h
            · exact old (.inr h)
            · exact .inl (List.mem_append.mpr (.inr h))
    · have hnil : td = [] := by
        cases td with
        | nil => rfl
        | cons x r => cases e
      subst hnil
      have h1 : ∀ c, c = a0 ∨ c ∈ fk → ∀ b ∈ succ zs c, b ∈ fk := fun c hc => (hcl c hc).resolve_left (by simp)
      refine ⟨_, rfl, B, tK fk, fk.map fun (b : Nat) => (b : Int), rfl, .inl hB, tK_keys fk, by rw [List.length_map]; omega, fun ys p hperm _ np => ?_⟩
      refine q p ys _ (s3.free np) (s3.trans (same_upd np)) upd_same fun b => ?_
      rw [hperm.mem_iff, List.mem_map]
      constructor
      · rintro ⟨c, hc, e2⟩
        rw [← Int.ofNat.inj e2]
        exact (hfk c hc).2
      · intro h
        exact ⟨b, reach_all (h1 a0 (.inl rfl)) (fun c hc => h1 c (.inr hc)) h, rfl⟩
def spIsBehind : Sp := fun vs H Q _ => ∃ (J f d n r : Addr) (fs : List Int) (ds : List (Option Int)) (zs : List (Addr × Nat × Nat)) (rs : List Int) (a b : Nat), vs = [.ref J, .int (a : Int), .int (b : Int)] ∧ JobAt H J f d n r fs ds zs rs ∧ Valid fs ds zs rs ∧ fs.length < 64 ∧ a < fs.length ∧ b < fs.length ∧
  ∀ (c : Bool) (H' : Hp), Same H H' → (c = true ↔ Reach zs a b) → Q (.bl c) H'
theorem ok_is_behind (T : Env K mg) : Ok P w K mg base CX0 dd_is_behind "is_behind" 8 ["job", "a", "b"] spIsBehind := by
  obtain ⟨fd_check_job, D_check_job, g_check_job, k_check_job, b_check_job, G_check_job⟩ := ok_check_job (P := P) (w := w) (base := base) T
  obtain ⟨fd_check_task, D_check_task, g_check_task, k_check_task, b_check_task, G_check_task⟩ := ok_check_task (P := P) (w := w) (base := base) T
  obtain ⟨fd_tasks_behind, D_tasks_behind, g_tasks_behind, k_tasks_behind, b_tasks_behind, G_tasks_behind⟩ := ok_tasks_behind (P := P) (w := w) (base := base) T
  obtain ⟨fd, F⟩ := T.c.def_ 13 (d := dd_is_behind) rfl
  refine ⟨fd, F, T.gl 13 _ rfl, F.kp, F.bindsN fun _ _ _ _ _ _ us hl => match us, hl with | [_, _, _], _ => rfl, ?_⟩
  refine F.ok sc_is_behind (fun vs H Q E h => ?_) (fun cdv A outer s H vs Q E hr h => ?_)
  · obtain ⟨J, f, d, n, r, fs, ds, zs, rs, a, b, rfl, hJ, hv, hl, ha, hb, q⟩ := h
    rfl
  · obtain ⟨J, f, d, n, r, fs, ds, zs, rs, a, b, rfl, hJ, hv, hl, ha, hb, q⟩ := h
    refine ⟨_, PSs.nox (pss_cons (ps_expr (pe_call G_check_job (hr.mono (by decide)) (by rfl) g_check_job k_check_job b_check_job .nil pass0 (pa_cons (pv 0) pa_nil)))
      (pss_cons (ps_expr (pe_call G_check_task (hr.mono (by decide)) (by rfl) g_check_task k_check_task b_check_task .nil pass0 (pa_cons (pv 0) (pa_cons (pv 1) pa_nil))))
      (pss_cons (ps_expr (pe_call G_check_task (hr.mono (by decide)) (by rfl) g_check_task k_check_task b_check_task .nil pass0 (pa_cons (pv 0) (pa_cons (pv 2) pa_nil))))
      (pss_one (ps_ret (pe_cmpR op_in_seq (pv 2) (pe_call G_tasks_behind (hr.mono (by decide)) (by rfl) g_tasks_behind k_tasks_behind b_tasks_behind .nil pass0 (pa_cons (pv 0) (pa_cons (pv 1) pa_nil))) (by rfl))))))), ?_⟩
    walk_at "u"
    refine ⟨_, rfl, J, f, d, n, r, fs, ds, zs, rs, rfl, hJ, hv, fun H1 s1 => ?_⟩
    have j1 := hJ.same s1
    refine ⟨_, rfl, _, rfl, J, f, d, n, r, fs, a, rfl, j1.top, j1.fr, ha, _, rfl, _, rfl, J, f, d, n, r, fs, b, rfl, j1.top, j1.fr, hb, ?_⟩
    refine ⟨_, rfl, _, rfl, _, rfl, J, f, d, n, r, fs, zs, a, rfl, j1.top, j1.fr, j1.ne, hv.zlt, hl, by have := hv.zl; omega, ha, fun p ys H2 np s2 hp hys => ?_⟩
    refine ⟨p, _, rfl, .inl (SqL.of hp), rfl, flat_iV _, ?_⟩
    rw [inV_iV]
    exact q _ H2 (s1.trans s2) (decide_eq_true_iff.trans (hys b))
def spRoomWithin (K : PySem.W.Frag) : Sp := fun vs H Q _ => ∃ (r : Addr) (rs : List Int) (s e : Int), vs = [.ref r, .int s, .int e] ∧ SqL K H r (iV rs) ∧ 1 ≤ s ∧ rs.length ≤ 10000 ∧ ∀ H', Same H H' → Q (.int (roomOf rs s e)) H'
theorem ok_room_within (T : Env K mg) : Ok P w K mg base CX0 dd_room_within "room_within" 1 ["rooms", "s", "e"] (spRoomWithin K) := by
  obtain ⟨fd, F⟩ := T.c.def_ 16 (d := dd_room_within) rfl
  refine ⟨fd, F, T.gl 16 _ rfl, F.kp, F.bindsN fun _ _ _ _ _ _ us hl => match us, hl with | [_, _, _], _ => rfl, ?_⟩
  refine F.ok sc_room_within (fun vs H Q E h => ?_) (fun cdv A outer s H vs Q E hr h => ?_)
  · obtain ⟨r, rs, s, e, rfl, hr', h1, hrl, q⟩ := h
    rfl
  · obtain ⟨r, rs, s, e, rfl, hr', h1, hrl, q⟩ := h
    refine ⟨_, PSs.nox (pss_cons (ps_if (pt_cmpR op_lt (pv 2) (pv 1) (nomark _)) (pss_one (ps_ret pe_int)) pss_nil)
      (pss_cons (ps_set (i := 3) sc_room_within.nd rfl (Or.inl rfl) (pe_callB (call_max2 rfl) (by rfl) (T.fr 39 _ rfl) (by decide +kernel) (pa_cons pe_int (pa_cons (pe_op op_sub (pv 2) (pe_callB (call_max2 rfl) (by rfl) (T.fr 39 _ rfl) (by decide +kernel) (pa_cons (pe_op op_sub (pv 1) pe_int) (pa_cons (pe_callB call_len_seq (by rfl) (T.fr 33 _ rfl) (by decide +kernel) (pa_cons (pv 0) pa_nil)) pa_nil)))) pa_nil))))
      (pss_one (ps_ret (pe_op op_add (pe_callB (cr_sum rfl) (by rfl) (T.fr 40 _ rfl) (by decide +kernel) (pa_cons (pe_slice sl_list (pv 0) (po_some (pe_op op_sub (pv 1) pe_int)) (po_some (pv 2))) pa_nil)) (pe_op op_mul (pe_glob (v := .int 2) (by rfl) (T.it 44 _ _ rfl).choose_spec ⟨_, rfl⟩) (pv 3))))))), ?_⟩
    walk_at "u"
    refine ⟨_, rfl, _, rfl, _, _, rfl, rfl, _, rfl, ifB (fun c => ?_) (fun c => ?_)⟩
    · rw [roomOf_none (of_decide_eq_true c)] at q
      exact q _ (Same.refl _)
    have h2 : s ≤ e := by
      have := of_decide_eq_false c
      omega
    refine ⟨_, rfl, _, rfl, _, _, rfl, rfl, _, rfl, r, _, rfl, .inl hr', _, _, rfl, _, _, rfl, rfl, _, _, rfl, ?_⟩
    rw [iV_len]
    refine ⟨_, rfl, _, rfl, _, _, rfl, rfl, _, rfl, _, rfl, _, rfl, r, _, rfl, hr', fun p np => ?_⟩
    rw [cut_sum h1 h2]
    refine ⟨p, _, rfl, SqL.of upd_same, _, rfl, _, _, rfl, rfl, .inl ⟨by decide, by decide⟩, _, _, rfl, rfl, ?_⟩
    rw [room_val h1 h2]
    exact q _ (same_upd np)
def spRoom (K : PySem.W.Frag) : Sp := fun vs H Q _ => ∃ (J f d n r : Addr) (fs : List Int) (ds : List (Option Int)) (zs : List (Addr × Nat × Nat)) (rs : List Int) (s e : Int), vs = [.ref J, .int s, .int e] ∧ JobAt H J f d n r fs ds zs rs ∧ Valid fs ds zs rs ∧ 1 ≤ s ∧ ∀ H', Same H H' → Q (.int (roomOf rs s e)) H'
theorem ok_room (T : Env K mg) : Ok P w K mg base CX0 dd_room "room" 8 ["job", "s", "e"] (spRoom K) := by
  obtain ⟨fd_check_job, D_check_job, g_check_job, k_check_job, b_check_job, G_check_job⟩ := ok_check_job (P := P) (w := w) (base := base) T
  obtain ⟨fd_room_within, D_room_within, g_room_within, k_room_within, b_room_within, G_room_within⟩ := ok_room_within (P := P) (w := w) (base := base) T
  obtain ⟨fd_is_hour, D_is_hour, g_is_hour, k_is_hour, b_is_hour, G_is_hour⟩ := ok_is_hour (P := P) (w := w) (base := base) T
  obtain ⟨fd_is_whole, D_is_whole, g_is_whole, k_is_whole, b_is_whole, G_is_whole⟩ := ok_is_whole (P := P) (w := w) (base := base) T
  obtain ⟨fd, F⟩ := T.c.def_ 15 (d := dd_room) rfl
  refine ⟨fd, F, T.gl 15 _ rfl, F.kp, F.bindsN fun _ _ _ _ _ _ us hl => match us, hl with | [_, _, _], _ => rfl, ?_⟩
  refine F.ok sc_room (fun vs H Q E h => ?_) (fun cdv A outer s H vs Q E hr h => ?_)
  · obtain ⟨J, f, d, n, r, fs, ds, zs, rs, s, e, rfl, hJ, hv, h1, q⟩ := h
    rfl
  · obtain ⟨J, f, d, n, r, fs, ds, zs, rs, s, e, rfl, hJ, hv, h1, q⟩ := h
    refine ⟨_, PSs.nox (pss_cons (ps_expr (pe_call G_check_job (hr.mono (by decide)) (by rfl) g_check_job k_check_job b_check_job .nil pass0 (pa_cons (pv 0) pa_nil)))
      (pss_cons (ps_if (pt_not (pt_val (pe_call G_is_hour (hr.mono (by decide)) (by rfl) g_is_hour k_is_hour b_is_hour .nil pass0 (pa_cons (pv 1) pa_nil)))) (pss_one ps_never) pss_nil)
      (pss_cons (ps_if (pt_not (pt_val (pe_call G_is_whole (hr.mono (by decide)) (by rfl) g_is_whole k_is_whole b_is_whole .nil pass0 (pa_cons (pv 2) pa_nil)))) (pss_one ps_never) pss_nil)
      (pss_one (ps_ret (pe_call G_room_within (hr.mono (by decide)) (by rfl) g_room_within k_room_within b_room_within .nil pass0 (pa_cons (pe_ix ix_tup (pv 0) pe_int (fun _ _ => rfl)) (pa_cons (pv 1) (pa_cons (pv 2) pa_nil))))))))), ?_⟩
    walk_at "u"
    refine ⟨_, rfl, J, f, d, n, r, fs, ds, zs, rs, rfl, hJ, hv, fun H1 s1 => ?_⟩
    have j1 := hJ.same s1
    refine ⟨_, rfl, .int s, _, rfl, .int s, ?_⟩
    rw [show isWF 1 (.int s) = true from decide_eq_true h1]
    refine ⟨_, rfl, iteF ⟨_, rfl, .int e, _, rfl, .int e, _, rfl, iteF ?_⟩⟩
    exact ⟨_, rfl, _, _, _, .ref r, rfl, rfl, SqT.of j1.top, atI_nat (j := 3) rfl, _, rfl, _, rfl, r, rs, s, e, rfl, SqL.of j1.ro, h1, by have := hv.ro.len; omega, fun H2 s2 => q H2 (s1.trans s2)⟩

end
/-! ### defs that are called where nothing is being shown: the guards are known -/
/-- a promise that is kept where no repr is under way -/
structure FnG (P : Program) (w : World) (K : PySem.W.Frag) (mg : Str → Option Value) (base : Heap) (CX : CXT) (k : Nat) (f : Addr) (fd : FuncData) (ps : List Str) (sp : Sp) : Prop where
  len : ∀ vs H Q E, sp vs H Q E → vs.length = ps.length
  run : ∀ (A : Around) (outer : List PySem.Env) (s : Shared) (H : Hp) (args : Args) (us : List Value) (vs : List V) (Q : VK) (E : XK),
    Room k A → A.guards = some [] → Env0 P w K mg base A outer s H → BindsTo s fd args (ps.zip us) → Vals vs us → sp vs H Q E → codeAny (model P w) A (.call (.ref f) args) (CR CX outer P w H s Q E) s
/-- THE RULE of such a def: its body, the guards told -/
theorem fnG_of {CX : CXT} {P : Program} {w : World} {K : PySem.W.Frag} {mg : Str → Option Value} {base : Heap} {k : Nat} {f : Addr} {name qual : Str} {params : Arguments} {body : List Stmt} {scope : Scope}
    {dV kV doc pm cdv ct oc : Value} {an od : Option Addr} {osl : Array (Option Value)} {N ps : List Str} {sp : Sp}
    (lk : K.lookup f = some ⟨oc, od, .func (PySem.W.fnOf name qual params body scope dV kV doc pm an cdv ct), osl⟩)
    (hcd : PySem.W.codeIn K cdv qual = true) (S : FnScope N ps scope) (len : ∀ vs H Q E, sp vs H Q E → vs.length = ps.length)
    (hbody : ∀ (A : Around) (outer : List PySem.Env) (s : Shared) (H : Hp) (vs : List V) (Q : VK) (E : XK),
      Room k (A.deeper (envOfC qual scope s.heap.objs.size f cdv)) → (A.deeper (envOfC qual scope s.heap.objs.size f cdv)).guards = some [] → sp vs H Q E →
      ∃ t, PSs (cxOf CX P w K mg base N qual scope f cdv A outer s H E) body t ∧ t { nx := fun _ H' => Q .non H', rt := Q } (start N vs) H) :
    FnG P w K mg base CX (k + 1) f (PySem.W.fnOf name qual params body scope dV kV doc pm an cdv ct) ps sp := by
  refine ⟨len, fun A outer s H args us vs Q E room guards e0 binds rel promise => ?_⟩
  have many := len _ _ _ _ promise
  have there : K.In s.heap := e0.mod.kin.keeps fun b o e => (e0.bs b o e).1
  have free : s.heap.NoLimit := e0.mod.nolimit.keeps fun b o e => (e0.bs b o e).1
  have kinds : ∀ y ∈ ps.zip us, scope.names.lookup y.1 = some .local ∨
      (scope.names.lookup y.1 = some .cell ∧ ((cellsFrom (s.heap.objs.size + 1) scope.names []).lookup y.1).isSome = true) := fun y hy => by
    rcases S.par y.1 (List.of_mem_zip (a := y.1) (b := y.2) hy).1 with z | z
    · exact .inl z
    · exact .inr ⟨z, PySem.W.cellsFrom_some _ _ _ (.inl z)⟩
  refine codeAny_call_function room.depth (there _ _ lk) rfl S.co S.gen rfl (PySem.W.codeRec_of there hcd) (binds _ _ _ _ ?_)
  refine wpAny_newFunctionEnv_cells S.kind kinds fun env henv s1 made => ?_
  subst henv
  refine ⟨free.keeps made.toInCall.keep, codeAny_func ?_⟩
  obtain ⟨t, reads, goal⟩ := hbody A outer s H vs Q E (room.deeper _) guards promise
  have inv := inv_start (CX := CX) (mg := mg) (base := base) (E := E) S room.hd e0 many rel made
  refine wpAny_mono (reads.run [] s1 (start N vs) H _ inv goal) (fun fl s' done => ?_) fun e s' done => done
  match fl, done with
  | .ret u, done =>
    obtain ⟨v, σ', H', J, rv, z⟩ := done
    exact ⟨v, H', J.os, J.bare, J.base, J.hok, rv, z⟩
  | .next, done =>
    obtain ⟨σ', H', J, z⟩ := done
    exact ⟨V.non, H', J.os, J.bare, J.base, J.hok, rfl, z⟩
  | .brk, done => exact done.choose_spec.choose_spec.2.elim
  | .cont, done => exact done.choose_spec.choose_spec.2.elim
theorem funD_okG {P : Program} {w : World} {K : PySem.W.Frag} {mg : Str → Option Value} {base : Heap} {x qual : Str} {params : Arguments} {body : List Stmt} {scope : Scope} {dvs : List V} {kws : List (Str × V)} {f : Addr} {fd : FuncData}
    {CX : CXT} {N ps : List Str} {k : Nat} {sp : Sp} (F : FunD K x qual params body scope dvs kws f fd) (S : FnScope N ps scope) (len : ∀ vs H Q E, sp vs H Q E → vs.length = ps.length)
    (hbody : ∀ (cdv : Value) (A : Around) (outer : List PySem.Env) (s : Shared) (H : Hp) (vs : List V) (Q : VK) (E : XK),
      Room k (A.deeper (envOfC qual scope s.heap.objs.size f cdv)) → (A.deeper (envOfC qual scope s.heap.objs.size f cdv)).guards = some [] → sp vs H Q E →
      ∃ t, PSs (cxOf CX P w K mg base N qual scope f cdv A outer s H E) body t ∧ t { nx := fun _ H' => Q .non H', rt := Q } (start N vs) H) : FnG P w K mg base CX (k + 1) f fd ps sp := by
  obtain ⟨oc, od, dV, kV, doc, pm, an, cdv, ct, osl, rfl, lk, hcd, _, _⟩ := F.ex
  exact fnG_of lk hcd S len fun A outer s H vs Q E room guards promise => hbody cdv A outer s H vs Q E room guards promise
/-- its call, by the def's name -/
theorem pe_callG {X : Cx} {CX : CXT} {k : Nat} {f : Addr} {fd : FuncData} {ps : List Str} {sp : Sp} {dvs : List V} {ds : List Value} {E : XK} {x : Str} {p pos : Pos} {e : Expr} {es : List Expr} {t : TA}
    (hgd : X.A.guards = some []) (F : FnG X.prog X.w X.K X.mg X.base CX k f fd ps sp) (hr : Room k X.A) (hg : Gl X x) (hm : X.mg x = some (.ref f)) (hk : PySem.W.keepIn X.K (.ref f) = true)
    (hb : Binds X.K fd ps ds) (hd : Vals dvs ds) (hx : Passes CX X E) (ha : PA X (e :: es) t) (hdb : (x == ("__debug__" : Str)) = false := by decide)
    (he : starEach (e :: es) X.env = (false, eval e X.env) :: starEach es X.env := by rfl) (hpl : (backTo pos (starEach es X.env)).any (·.1) = false := by rfl) :
    PE X (.Call (.Name x p) (e :: es) [] pos) (tCall sp dvs E t) := by
  refine ⟨fun pins s σ H Q I h => wpAny_Call_Name_kw (ld_glob I hg hm ?_ hdb)⟩
  refine PySem.W.callWith_K (h₀ := X.base) I.ok.mod.kin hk (thn (ha.run pos pins s σ H _ I h) fun us s1 ⟨vs, H1, J, rel, z⟩ => ⟨J.kIn, ?_⟩) he hpl
  have all : Vals (vs ++ dvs) (us ++ ds) := rel.append hd
  have many : (us ++ ds).length = ps.length := all.length.symm.trans (F.len _ _ _ _ z)
  refine wpAny_call (codeAny_mono (F.run X.A X.stack s1 H1 ⟨us, []⟩ (us ++ ds) (vs ++ dvs) Q E hr hgd J.env0 (hb s1 us J.kIn many) all z) fun r s' done => ?_)
  match r, done with
  | .error e, done => exact hx pins σ H1 s1 e s' J done
  | .ok (.ret u), done => exact J.after done
  | .ok .next, done => exact done.elim
  | .ok .brk, done => exact done.elim
  | .ok .cont, done => exact done.elim
/-- the law's call behind the top -/
theorem law_callG {P : Program} {w : World} {K : PySem.W.Frag} {mg mb : Str → Option Value} {CX : CXT} {k : Nat} {fa a : Addr} {fd : FuncData} {x : Str} {sp : Sp} {s₁ : Shared} {vs : List Value} {ns : List Int}
    (KX : K.In s₁.heap) (hns : s₁.heap.Ns mainGlobals mg) (hb : s₁.heap.Ns builtinsNs mb) (hbb : ∀ x : Str, x ≠ "__name__" → mb x = bootBuiltins x) (hlim : s₁.heap.NoLimit) (hg : s₁.gens = #[])
    (ha : s₁.heap.get? a = some { cls := .type "list", data := .seq vs.toArray }) (hi : IntsAre vs ns) (hl : ns.length ≤ sizeLine) (hr : Room k callerA)
    (F : ∀ base : Heap, K.In base → base.Ns mainGlobals mg → FnG P w K mg base CX k fa fd [x] sp) (hbind : ∀ (s : Shared) (u : Value), BindsTo s fd ⟨[u], []⟩ [(x, u)])
    (hsp : ∀ H : Hp, Only H → SqL K H a (ns.map V.int) → sp [.ref a] H (fun v _ => v = .bl true) fun _ _ _ => False) (hCX : ∀ H e s', CX [] H s₁ (fun _ _ _ => False) e s' → False) :
    codeAny (model P w) callerA (.call (.ref fa) ⟨[.ref a], []⟩) (fun r s' => r = .ok (.ret (.bool true)) ∧ OldK s₁.heap s'.heap ∧ s'.os = s₁.os ∧ AllBare s'.gens) s₁ := by
  have rel := vals_ints hi
  have size := hi.length
  have core : ∀ H : Hp, Only H → SqL K H a (ns.map V.int) → HOk P w H s₁.heap → (∀ b u, H b = some u → b = a ∧ K.lookup a = none) →
      codeAny (model P w) callerA (.call (.ref fa) ⟨[.ref a], []⟩) (fun r s' => r = .ok (.ret (.bool true)) ∧ OldK s₁.heap s'.heap ∧ s'.os = s₁.os ∧ AllBare s'.gens) s₁ := by
    intro H only seq held none_but
    have free : ∀ {b : Addr} {o : Obj} {es : Array DictEntry} {ep : Nat}, s₁.heap.get? b = some o → o.data = .dict es ep → H b = none := fun {b o es ep} there isDict => by
      cases tracked : H b with
      | none => rfl
      | some u =>
        obtain ⟨same, _⟩ := none_but b u tracked
        rw [same, ha] at there
        cases there
        exact nomatch (show Data.seq vs.toArray _ = Data.dict es ep from isDict)
    have names : ∀ {b : Addr} {m : Str → Option Value}, s₁.heap.Ns b m → (hidT s₁.heap H).Ns b m := fun ⟨o, es, ep, there, isDict, rest⟩ =>
      ⟨o, es, ep, hidT_get there (free there isDict), isDict, rest⟩
    have written : K.In (hidT s₁.heap H) := fun b o known => hidT_get (KX b o known) (by
      cases tracked : H b with
      | none => rfl
      | some u =>
        obtain ⟨same, unknown⟩ := none_but b u tracked
        rw [same, unknown] at known
        cases known)
    obtain ⟨mc, lim1, lim2⟩ := hlim
    have enters : Env0 P w K mg (hidT s₁.heap H) callerA [] s₁ H :=
      ⟨rfl, ⟨written, names hns, ⟨mb, names hb, hbb⟩, ⟨mc, names lim1, lim2⟩⟩, fun b o e => of_hidT e, Nat.le_of_eq (hidT_size _ _), trivial, fun b z => (nomatch (show b ∈ ([] : List Addr) from z)), held, .of_eq hg⟩
    have runs := (F _ written (names hns)).run callerA [] s₁ H ⟨[.ref a], []⟩ [.ref a] [.ref a] _ _ hr rfl enters (hbind s₁ (.ref a)) (.cons rfl .nil) (hsp H only seq)
    refine codeAny_mono runs fun r s' done => ?_
    match r, done with
    | .error e, done => exact (hCX H e s' done).elim
    | .ok .next, done => exact done.elim
    | .ok .brk, done => exact done.elim
    | .ok .cont, done => exact done.elim
    | .ok (.ret u), done =>
      obtain ⟨v, H', osSame, bare, un, held', told, isTrue⟩ := done
      have isTrue : v = .bl true := isTrue
      subst isTrue
      obtain rfl : u = Value.bool true := told
      refine ⟨rfl, OldK.of_keep fun b o there => ?_, osSame, bare⟩
      cases tracked : H b with
      | none => exact un.keep b o there tracked (fun z => nomatch (show b ∈ ([] : List Addr) from z)) (fun z => nomatch z)
      | some u =>
        rcases only b with z | ⟨ob, xs, z⟩
        · rw [tracked] at z
          cases z
        · have first := (held b _ z).1
          rw [there] at first
          cases first
          exact (held' b _ (un.frzs b _ _ z)).1
  cases known : K.lookup a with
  | some o =>
    have there := KX a o known
    rw [ha] at there
    cases there
    exact core (fun _ => none) (fun _ => .inl rfl) (.inr ⟨_, vs.toArray, _, known, rfl, rfl, rfl, by rw [List.size_toArray, size]; exact hl, by simpa using rel⟩)
      (fun b u z => nomatch (show (none : Option HO) = some u from z)) fun b u z => nomatch (show (none : Option HO) = some u from z)
  | none =>
    refine core (fun b => if b = a then some (.frz { cls := .type "list", data := .seq vs.toArray } (.lst (ns.map V.int))) else none)
      (fun b => ?_) (.inl (.inr ⟨{ cls := .type "list", data := .seq vs.toArray }, if_pos rfl⟩)) (fun b u z => ?_) (fun b u z => ?_)
    · by_cases same : b = a
      · exact .inr ⟨_, _, if_pos same⟩
      · exact .inl (if_neg same)
    · by_cases same : b = a
      · have z' := (if_pos same).symm.trans z
        cases z'
        subst same
        exact ⟨ha, by rw [List.length_map]; exact hl, vs, _, rel, ha⟩
      · exact nomatch (if_neg same).symm.trans z
    · by_cases same : b = a
      · exact ⟨same, known⟩
      · exact nomatch (if_neg same).symm.trans z
/-- the law's walk, by a promise that wants the guards -/
theorem walk_ofG {l : PySem.W.OpenLaw} {n k : Nat} {q : Program} {loose : List Str} {XP : (Str → Option Value) → Heap → Prop} {YP : World → Heap → Prop} {d : DefRec} {CX : CXT} {x : Str}
    (hn : l.most = some n) (hn2 : n ≤ sizeLine) (hdf : d.params.defaults = []) (hr : Room k callerA)
    (F : ∀ (w : World) (mg : Str → Option Value) (fa : Addr) (h : Heap), YP w h → h.Ns mainGlobals mg → mg d.name = some (.ref fa) → ∃ (K : PySem.W.Frag) (fd : FuncData) (sp : Sp), K.In h ∧
      (∀ (s : Shared) (u : Value), BindsTo s fd ⟨[u], []⟩ [(x, u)]) ∧ (∀ (H : Hp) (a : Addr) (ns : List Int), ns.length ≤ n → Only H → SqL K H a (ns.map V.int) → sp [.ref a] H (fun v _ => v = .bl true) fun _ _ _ => False) ∧
      ∀ base : Heap, K.In base → base.Ns mainGlobals mg → FnG l.prog w K mg base CX k fa fd [x] sp)
    (hCX : ∀ (H : Hp) (s : Shared) (e : Value) (s' : Shared), CX [] H s (fun _ _ _ => False) e s' → False) : PySem.W.WalkO q loose XP YP l.row.toRowW d [] (fun f vs => PySem.call f vs) := by
  refine Att.attach_call hn hdf fun w s₀ s₁ mg mb fa o pm cd doc a vs ns G says ho hd hcd named there numbers short noGens => ?_
  obtain ⟨K, fd, sp, KX, binds, promise, keeps⟩ := F w mg fa _ says G.T.g named
  exact law_callG KX G.T.g G.T.b G.T.builtins G.T.nolimit noGens there numbers (Nat.le_trans short hn2) hr keeps binds (fun H only seq => promise H a ns short only seq) fun H e s' => hCX H s₁ e s'
/-! ### str, repr of data -/
def rShow (K : PySem.W.Frag) : List V → Hp → VK → Prop := fun xs H Q => ∃ (a : Addr) (d : PyData), xs = [.ref a] ∧ Dp K H (.ref a) d ∧ d.showable = true ∧ d.hasDict = false ∧ d.depth ≤ 40 ∧ d.shown.length ≤ sizeLine ∧ Q (.str d.shown) H
theorem call_str_data {X : Cx} (hgd : X.A.guards = some []) (hu : X.A.units + 64 < cLine) : CallR X (.type "str") (rShow X.K) := by
  intro pins s σ H xs us Q I r h
  obtain ⟨a, d, rfl, hd, hs, hn, hdep, hsz, q⟩ := h
  obtain ⟨u, rfl, ru⟩ := vals1 r
  obtain ⟨as, rd⟩ := Dp.reads I d _ u hd ru
  cases ru
  refine str_of_reads rd hs (PyData.noDict_hsm hn) hgd (by omega) (fun _ _ e => e) (fun h' t tk keep => ?_) hsz
  exact ⟨.str d.shown, H, I.kept (h' := h') (t' := tk) keep, ⟨t, rfl⟩, q⟩
theorem call_repr_data {X : Cx} (hgd : X.A.guards = some []) (hu : X.A.units + 64 < cLine) : CallR X (.builtin "repr") (rShow X.K) := by
  intro pins s σ H xs us Q I r h
  obtain ⟨a, d, rfl, hd, hs, hn, hdep, hsz, q⟩ := h
  obtain ⟨u, rfl, ru⟩ := vals1 r
  obtain ⟨as, rd⟩ := Dp.reads I d _ u hd ru
  cases ru
  refine repr_of_reads' rd hs (PyData.noDict_hsm hn) hgd (by omega) (fun _ _ e => e) (fun h' t tk keep => ?_) hsz
  exact ⟨.str d.shown, H, I.kept (h' := h') (t' := tk) keep, ⟨t, rfl⟩, q⟩
/-! ### small data -/
structure Sm (wt dp : Nat) (d : PyData) : Prop where
  can : d.canLay0 = true
  short : d.intsShort 13 = true
  show_ : d.showable = true
  dict : d.hasDict = false
  dep : d.depth ≤ dp
  wt : d.weight ≤ wt
theorem Sm.len {wt dp : Nat} {d : PyData} (h : Sm wt dp d) : d.shown.length ≤ 15 * wt + 13 := by
  have h1 := PyData.shown_le 13 (by decide) d (PyData.leavesShort_of_canLay0 13 d h.can h.short)
  have h2 : (13 + 2) * d.weight ≤ 15 * wt := Nat.mul_le_mul_left 15 h.wt
  omega
theorem sm_none : Sm 0 0 .none := ⟨rfl, rfl, rfl, rfl, Nat.le_refl _, Nat.le_refl _⟩
theorem sm_int {i : Int} (h1 : -1000000 ≤ i) (h2 : i ≤ 1000000) : Sm 21 0 (.int i) := by
  have hb : i.natAbs < 2 ^ 20 := by omega
  have hl : i.natAbs.log2 < 20 := PySem.Flt.log2_lt_of (by decide) hb
  refine ⟨rfl, ?_, decide_eq_true (by omega), rfl, Nat.le_refl _, ?_⟩
  · refine PyProof.Rows.intsShort_of_noneOrIn (lo := -1000001) (hi := 1000001) (by decide) (by decide) (.int i) ?_
    show (decide (-1000001 < i) && decide (i < 1000001)) = true
    rw [decide_eq_true (by omega : -1000001 < i), decide_eq_true (by omega : i < 1000001)]
    rfl
  · show (if i == 0 then 0 else i.natAbs.log2 + 1) ≤ 21
    split <;> omega
theorem sm_all {wt dp : Nat} : ∀ {ds : List PyData}, (∀ d ∈ ds, Sm wt dp d) → PyData.canLayAll0 ds = true ∧ PyData.intsShortAll 13 ds = true ∧ PyData.showableAll ds = true ∧ PyData.hasDictAll ds = false ∧ PyData.depthAll ds ≤ dp ∧ PyData.weightAll ds ≤ (wt + 1) * ds.length
  | [], _ => ⟨rfl, rfl, rfl, rfl, Nat.zero_le _, Nat.zero_le _⟩
  | d :: ds, h => by
    have hd := h d (List.mem_cons_self ..)
    obtain ⟨a1, a2, a3, a4, a5, a6⟩ := sm_all (ds := ds) fun x hx => h x (List.mem_cons_of_mem _ hx)
    refine ⟨?_, ?_, ?_, ?_, ?_, ?_⟩
    · show (PyData.canLay0 d && PyData.canLayAll0 ds) = true
      rw [hd.can, a1]
      rfl
    · show (PyData.intsShort 13 d && PyData.intsShortAll 13 ds) = true
      rw [hd.short, a2]
      rfl
    · show (PyData.showable d && PyData.showableAll ds) = true
      rw [hd.show_, a3]
      rfl
    · show (PyData.hasDict d || PyData.hasDictAll ds) = false
      rw [hd.dict, a4]
      rfl
    · show max (PyData.depth d) (PyData.depthAll ds) ≤ dp
      exact Nat.max_le.mpr ⟨hd.dep, a5⟩
    · show PyData.weight d + 1 + PyData.weightAll ds ≤ _
      have := hd.wt
      rw [List.length_cons, Nat.mul_succ]
      omega
theorem sm_list {wt dp : Nat} {ds : List PyData} (h : ∀ d ∈ ds, Sm wt dp d) : Sm ((wt + 1) * ds.length) (dp + 1) (.list ds) := by
  obtain ⟨a1, a2, a3, a4, a5, a6⟩ := sm_all h
  exact ⟨a1, a2, a3, a4, Nat.succ_le_succ a5, a6⟩
theorem sm_tup {wt dp : Nat} {ds : List PyData} (h : ∀ d ∈ ds, Sm wt dp d) : Sm ((wt + 1) * ds.length) (dp + 1) (.tuple ds) := by
  obtain ⟨a1, a2, a3, a4, a5, a6⟩ := sm_all h
  exact ⟨a1, a2, a3, a4, Nat.succ_le_succ a5, a6⟩
theorem Sm.mono {wt dp wt' dp' : Nat} {d : PyData} (h : Sm wt dp d) (h1 : wt ≤ wt') (h2 : dp ≤ dp') : Sm wt' dp' d := ⟨h.can, h.short, h.show_, h.dict, Nat.le_trans h.dep h2, Nat.le_trans h.wt h1⟩
/-! ### a job as data -/
def oD : Option Int → PyData
  | none => .none
  | some i => .int i
def zD (z : Addr × Nat × Nat) : PyData := .tuple [.int (z.2.1 : Int), .int (z.2.2 : Int)]
def jobD (fs : List Int) (ds : List (Option Int)) (zs : List (Addr × Nat × Nat)) (rs : List Int) : PyData := .tuple [.list (fs.map .int), .list (ds.map oD), .list (zs.map zD), .list (rs.map .int)]
theorem dpAll_iV {K : PySem.W.Frag} {H : Hp} : ∀ is : List Int, DpAll K H (iV is) (is.map .int)
  | [] => .nil
  | i :: r => .cons (.int i) (dpAll_iV r)
theorem dpAll_oV {K : PySem.W.Frag} {H : Hp} : ∀ is : List (Option Int), DpAll K H (oV is) (is.map oD)
  | [] => .nil
  | none :: r => .cons .non (dpAll_oV r)
  | some i :: r => .cons (.int i) (dpAll_oV r)
theorem dpAll_zs {K : PySem.W.Frag} {H : Hp} : ∀ {zs : List (Addr × Nat × Nat)}, (∀ z ∈ zs, H z.1 = some (.tup [.int (z.2.1 : Int), .int (z.2.2 : Int)])) → DpAll K H (zs.map fun z => V.ref z.1) (zs.map zD)
  | [], _ => .nil
  | z :: r, h => .cons (.tup (SqT.of (h z (List.mem_cons_self ..))) (.cons (.int _) (.cons (.int _) .nil))) (dpAll_zs fun y hy => h y (List.mem_cons_of_mem _ hy))
theorem JobAt.dp {K : PySem.W.Frag} {H : Hp} {J f d n r : Addr} {fs : List Int} {ds : List (Option Int)} {zs : List (Addr × Nat × Nat)} {rs : List Int} (j : JobAt H J f d n r fs ds zs rs) : Dp K H (.ref J) (jobD fs ds zs rs) :=
  .tup (SqT.of j.top) (.cons (.lst (SqL.of j.fr) (dpAll_iV fs)) (.cons (.lst (SqL.of j.du) (dpAll_oV ds)) (.cons (.lst (SqL.of j.ne.1) (dpAll_zs j.ne.2)) (.cons (.lst (SqL.of j.ro) (dpAll_iV rs)) .nil))))
theorem Valid.sm {fs : List Int} {ds : List (Option Int)} {zs : List (Addr × Nat × Nat)} {rs : List Int} (v : Valid fs ds zs rs) : Sm 30000 3 (jobD fs ds zs rs) := by
  have hl := v.fl
  have hf : Sm 3000 1 (.list (fs.map .int)) := (sm_list (wt := 21) (dp := 0) fun x hx => by
    obtain ⟨i, hi, rfl⟩ := List.mem_map.mp hx
    have := v.fv i hi
    exact sm_int (by omega) (by omega)).mono (by rw [List.length_map]; omega) (by omega)
  have hd : Sm 3000 1 (.list (ds.map oD)) := (sm_list (wt := 21) (dp := 0) fun x hx => by
    obtain ⟨o, ho, rfl⟩ := List.mem_map.mp hx
    cases o with
    | none => exact (show Sm 0 0 (oD none) from sm_none).mono (by omega) (by omega)
    | some i =>
      have := v.dv i ho
      show Sm 21 0 (.int i)
      exact sm_int (by omega) (by omega)).mono (by rw [List.length_map, v.dl]; omega) (by omega)
  have hz : Sm 3000 2 (.list (zs.map zD)) := (sm_list (wt := 44) (dp := 1) fun x hx => by
    obtain ⟨z, hz, rfl⟩ := List.mem_map.mp hx
    have h2 : z.2.1 < fs.length ∧ z.2.2 < fs.length := by
      obtain ⟨rk, h⟩ := v.rank
      exact ⟨(h z hz).1, (h z hz).2.1⟩
    refine (sm_tup (wt := 21) (dp := 0) (ds := [.int (z.2.1 : Int), .int (z.2.2 : Int)]) fun y hy => ?_).mono (by show 22 * 2 ≤ 44; decide) (by omega)
    rcases List.mem_cons.mp hy with e | hy
    · subst e
      exact sm_int (by omega) (by omega)
    · have e := List.mem_singleton.mp hy
      subst e
      exact sm_int (by omega) (by omega)).mono (by rw [List.length_map]; have := v.zl; omega) (by omega)
  have hr : Sm 3000 1 (.list (rs.map .int)) := (sm_list (wt := 21) (dp := 0) fun x hx => by
    obtain ⟨i, hi, rfl⟩ := List.mem_map.mp hx
    have := v.ro.val i hi
    exact sm_int (by omega) (by omega)).mono (by rw [List.length_map]; have := v.ro.len; omega) (by omega)
  refine (sm_tup (wt := 3000) (dp := 2) (ds := [.list (fs.map .int), .list (ds.map oD), .list (zs.map zD), .list (rs.map .int)]) fun y hy => ?_).mono (by show 3001 * 4 ≤ 30000; decide) (by omega)
  rcases List.mem_cons.mp hy with e | hy
  · subst e
    exact hf.mono (by omega) (by omega)
  rcases List.mem_cons.mp hy with e | hy
  · subst e
    exact hd.mono (by omega) (by omega)
  rcases List.mem_cons.mp hy with e | hy
  · subst e
    exact hz.mono (by omega) (by omega)
  · have e := List.mem_singleton.mp hy
    subst e
    exact hr.mono (by omega) (by omega)

/-- the same of a def that wants the guards -/
def OkG (P : Program) (w : World) (K : PySem.W.Frag) (mg : Str → Option Value) (base : Heap) (CX : CXT) (D : He.DefD) (x : Str) (k : Nat) (ps : List Str) (sp : Sp) : Prop :=
  ∃ fd : FuncData, FunD K D.name D.qual D.params D.body D.scope (D.dvs K) (D.kws K) (He.fAd K D.at_) fd ∧ mg x = some (.ref (He.ga K x)) ∧ PySem.W.keepIn K (.ref (He.ga K x)) = true ∧ Binds K fd ps [] ∧ FnG P w K mg base CX k (He.ga K x) fd ps sp
/-! ### keywords -/
theorem vals_getD {zs : List V} {ws : List Value} (r : Vals zs ws) (i : Nat) : RelV (zs.getD i .non) (ws.getD i .none) := by
  rw [List.getD_eq_getElem?_getD, List.getD_eq_getElem?_getD]
  cases e : zs[i]? with
  | none =>
    rw [Vals.none_of r e]
    rfl
  | some v =>
    obtain ⟨u, e2, h⟩ := r.get e
    rw [e2]
    exact h
theorem vals_perm {zs : List V} {ws : List Value} (r : Vals zs ws) : ∀ perm : List Nat, Vals (perm.map fun i => zs.getD i .non) (perm.map fun i => ws.getD i .none)
  | [] => .nil
  | i :: p => .cons (vals_getD r i) (vals_perm r p)
/-- the first n values by position, the others by their names ks, in the order perm -/
theorem kbn_of {K : PySem.W.Frag} {x qual : Str} {params : Arguments} {body : List Stmt} {scope : Scope} {kws : List (Str × V)} {f : Addr} {fd : FuncData} (F : FunD K x qual params body scope [] kws f fd) (ps : List Str) (n : Nat) (ks : List Str) (perm : List Nat)
    (h : ∀ (kV doc pm : Value) (an : Option Addr) (cdv ct : Value) (us ws : List Value), us.length = n → ws.length = ks.length →
      bindArgs (PySem.W.fnOf x qual params body scope .none kV doc pm an cdv ct) ⟨us, ks.zip ws⟩ = pure (ps.zip (us ++ perm.map fun i => ws.getD i .none))) :
    KBn K fd ps n ks (fun us ws => us ++ perm.map fun i => ws.getD i .none) (fun vs zs => vs ++ perm.map fun i => zs.getD i .non) := by
  obtain ⟨oc, od, dV, kV, doc, pm, an, cdv, ct, osl, rfl, lk, hcd, hD, hK⟩ := F.ex
  rcases hD with ⟨_, rfl⟩ | ⟨e, _⟩
  · exact ⟨fun s us ws X h1 h2 => .of_eq (h kV doc pm an cdv ct us ws h1 h2), fun r1 r2 => r1.append (vals_perm r2 perm)⟩
  · exact absurd rfl e


section
variable {P : Program} {w : World} {K : PySem.W.Frag} {mg : Str → Option Value} {base : Heap}
theorem nD_all {K : PySem.W.Frag} {H : Hp} : ∀ is : List Nat, DpAll K H (nV is) (is.map fun (t : Nat) => PyData.int (t : Int))
  | [] => .nil
  | i :: r => .cons (.int _) (nD_all r)
theorem bD_all {K : PySem.W.Frag} {H : Hp} : ∀ is : List Bool, DpAll K H (is.map V.bl) (is.map PyData.bool)
  | [] => .nil
  | i :: r => .cons (.bl _) (bD_all r)
theorem can_all {α : Type} (f : α → PyData) (h : ∀ x, (f x).canLay0 = true ∧ (f x).depth = 0) : ∀ is : List α, SeqAt.shaped (.list (is.map f)) = true := by
  intro is
  have h1 : PyData.canLayAll0 (is.map f) = true ∧ PyData.depthAll (is.map f) = 0 := by
    induction is with
    | nil => exact ⟨rfl, rfl⟩
    | cons x r ih =>
      refine ⟨?_, ?_⟩
      · show (PyData.canLay0 (f x) && PyData.canLayAll0 (r.map f)) = true
        rw [(h x).1, ih.1]
        rfl
      · show max (PyData.depth (f x)) (PyData.depthAll (r.map f)) = 0
        rw [(h x).2, ih.2]
        rfl
  show (PyData.canLayAll0 (is.map f) && decide (PyData.depthAll (is.map f) + 1 ≤ 64)) = true
  rw [h1.1, h1.2]
  rfl
theorem eqv_nil (f : Nat → PyData) (is : List Nat) : PyData.eqv (.list (is.map f)) (.list []) = is.isEmpty := by
  cases is <;> rfl
theorem bl_app (bs : List Bool) (b : Bool) : bs.map V.bl ++ [V.bl b] = (bs ++ [b]).map V.bl := by
  rw [List.map_append]
  rfl
theorem range_map_snoc {α : Type} (f : Nat → α) (i : Nat) : (List.range (i + 1)).map f = (List.range i).map f ++ [f i] := by
  rw [List.range_succ, List.map_append]
  rfl

def spBehind : Sp := fun vs H Q _ => ∃ (N : Addr) (n : Nat) (zs : List (Addr × Nat × Nat)) (a : Nat), vs = [.ref N, .int (a : Int)] ∧ NeedsAt H N zs ∧ (∀ z ∈ zs, z.2.1 < n ∧ z.2.2 < n) ∧ n ≤ 1000 ∧
  ∀ (q : Addr) (ys : List Nat) (H' : Hp), H q = none → Same H H' → H' q = some (.lst (nV ys)) → (∀ b : Nat, b ∈ ys ↔ Reach zs a b) → Q (.ref q) H'
theorem ok__law_behind (T : Env K mg) : Ok P w K mg base CX0 dd__law_behind "_law_behind" 1 ["_law_needs_here", "_law_task"] spBehind := by
  obtain ⟨fd, F⟩ := T.c.def_ 25 (d := dd__law_behind) rfl
  refine ⟨fd, F, T.gl 25 _ rfl, F.kp, F.bindsN fun _ _ _ _ _ _ us hl => match us, hl with | [_, _], _ => rfl, ?_⟩
  refine F.ok sc__law_behind (fun vs H Q E h => ?_) (fun cdv A outer s H vs Q E hr h => ?_)
  · obtain ⟨N, n, zs, a0, rfl, hN, hz, hn, q⟩ := h
    rfl
  · obtain ⟨N, n, zs, a0, rfl, hN, hz, hn, q⟩ := h
    refine ⟨_, PSs.nox (pss_cons (ps_set (i := 2) sc__law_behind.nd rfl (Or.inl rfl) (pe_lst pa_nil))
      (pss_cons (ps_set (i := 3) sc__law_behind.nd rfl (Or.inl rfl) (pe_lst (pa_cons (pv 1) pa_nil)))
      (pss_cons (ps_while PassesOwn.never (pt_cmpR (op_neD hr.units) (pv 3) (pe_lst pa_nil) (nomark _)) (pss_cons (ps_set (i := 4) sc__law_behind.nd rfl (Or.inl rfl) (pe_bm0 PySem.F.plainAttrs_list PySem.F.slot_list_pop PySem.F.type_list_pop mt_pop (pv 3)))
      (pss_one (ps_for PassesOwn.never rfl (pi_list (pv 0)) (pg_tup rfl (pgs_cons (pg_name (i := 5) sc__law_behind.nd rfl (Or.inl rfl)) (pgs_cons (pg_name (i := 6) sc__law_behind.nd rfl (Or.inl rfl)) pgs_nil))) (pss_one (ps_if (PW.pt (pw_and (pt_cmpR op_eq (pv 5) (pv 4) (nomark _)) (pw_and1 (pt_cmpR op_notIn_seq (pv 6) (pv 2) (by rfl))))) (pss_cons (ps_expr (pe_bm PySem.F.plainAttrs_list PySem.F.slot_list_append PySem.F.type_list_append mt_append (pv 2) (pa_cons (pv 6) pa_nil)))
      (pss_one (ps_expr (pe_bm PySem.F.plainAttrs_list PySem.F.slot_list_append PySem.F.type_list_append mt_append (pv 3) (pa_cons (pv 6) pa_nil))))) pss_nil))))))
      (pss_one (ps_ret (pv 2)))))), ?_⟩
    walk_at "u"
    refine ⟨(show 0 ≤ sizeLine by decide), fun FD nFD => ⟨_, rfl, (show 1 ≤ sizeLine by decide), fun TD nTD => ?_⟩⟩
    have s2 : Same H (upd (upd H FD (.lst [])) TD (.lst [.int (a0 : Int)])) := (same_upd nFD).trans (same_upd nTD)
    have nTD0 : H TD = none := (same_upd nFD).free nTD
    have FT : FD ≠ TD := ne_of_none (show (upd H FD (.lst [])) FD = _ from upd_same) nTD
    refine ⟨fun m σ H' => ∃ fk td y4 y5 y6, σ = [some (.ref N), some (.int (a0 : Int)), some (.ref FD), some (.ref TD), y4, y5, y6] ∧ Same H H' ∧ H' FD = some (.lst (nV fk)) ∧ H' TD = some (.lst (nV td)) ∧ fk.Nodup ∧ (∀ b ∈ fk, b < n ∧ Reach zs a0 b) ∧ (∀ t ∈ td, t = a0 ∨ t ∈ fk) ∧ (∀ c, c = a0 ∨ c ∈ fk → c ∈ td ∨ ∀ b ∈ succ zs c, b ∈ fk) ∧ td.length ≤ fk.length + 1 ∧ m + fk.length = n + td.length,
      ⟨n + 1, [], [a0], none, none, none, rfl, s2, by rw [upd_ne FT, upd_same]; rfl, by rw [upd_same]; rfl, List.nodup_nil, fun b hb => (by cases hb), fun t ht => .inl (List.mem_singleton.mp ht), fun c hc => .inl (List.mem_singleton.mpr (hc.resolve_right (by simp))), by simp, by simp⟩, fun m σ H3 hP => ?_⟩
    obtain ⟨fk, td, y4, y5, y6, rfl, s3, hF, hT, hnd, hfk, htd, hcl, htl, hm⟩ := hP
    have hfkl : fk.length ≤ n := by
      have := nat_nodup_len fk (List.range n) hnd fun t ht => List.mem_range.mpr (hfk t ht).1
      rw [List.length_range] at this
      exact this
    refine ⟨_, rfl, (show 0 ≤ sizeLine by decide), fun e0 ne0 => ?_⟩
    have hT3 : (upd H3 e0 (.lst [])) TD = some (.lst (nV td)) := (same_upd ne0) _ _ hT
    have hF3 : (upd H3 e0 (.lst [])) FD = some (.lst (nV fk)) := (same_upd ne0) _ _ hF
    have s3' : Same H (upd H3 e0 (.lst [])) := s3.trans (same_upd ne0)
    refine ⟨_, .list [], .lst (SqL.of hT3) (nD_all td), .lst (SqL.of upd_same) .nil, can_all _ (fun _ => ⟨rfl, rfl⟩) td, rfl, _, rfl, ?_⟩
    rw [eqv_nil]
    refine ifB (fun e => ?_) (fun e => ?_)
    · obtain ⟨td0, a, rfl⟩ : ∃ td0 a, td = td0 ++ [a] := by
        have hne : td ≠ [] := fun z => by
          subst z
          cases e
        exact ⟨td.dropLast, td.getLast hne, (List.dropLast_concat_getLast hne).symm⟩
      rw [List.length_append, List.length_singleton] at hm htl
      refine ⟨fun σ' H' => ∃ m', m' < m ∧ _, fun _ _ z => z, ?_⟩
      refine ⟨_, rfl, .inl ⟨rfl, _, .inl (.inl hT3)⟩, TD, _, .int (a : Int), rfl, rfl, hT3, ?_, ?_⟩
      · rw [← nV_app]
        simp
      rw [← nV_app, List.dropLast_concat]
      have s4 : Same H (upd (upd H3 e0 (.lst [])) TD (.lst (nV td0))) := same_mut s3' nTD0
      refine ⟨_, rfl, N, rfl, ⟨_, SqL.of (s4 _ _ hN.1)⟩, for_list (K := K) (a := N) (xs := zs.map fun z => V.ref z.1) (fun k σ H' => ∃ fk2 y5 y6, σ = [some (.ref N), some (.int (a0 : Int)), some (.ref FD), some (.ref TD), some (.int (a : Int)), y5, y6] ∧ Same H H' ∧ H' FD = some (.lst (nV (fk ++ fk2))) ∧ H' TD = some (.lst (nV (td0 ++ fk2))) ∧ (fk ++ fk2).Nodup ∧ (∀ b ∈ fk ++ fk2, b < n ∧ Reach zs a0 b) ∧ ∀ z ∈ zs.take k, z.2.1 = a → z.2.2 ∈ fk ++ fk2)
        ⟨[], y5, y6, rfl, s4, by rw [List.append_nil, upd_ne FT]; exact hF3, by rw [List.append_nil, upd_same], by rw [List.append_nil]; exact hnd, by rw [List.append_nil]; exact hfk, fun b hb => by simp at hb⟩ (fun k σ H' _ hP => ?_) (fun k v σ H' hv hP => ?_) (fun σ H' hP => ?_)⟩
      · obtain ⟨fk2, y5, y6, _, sm, _⟩ := hP
        exact SqL.of (sm _ _ hN.1)
      · obtain ⟨fk2, y5, y6, rfl, s5, hF5, hT5, hnd5, hfk5, hin5⟩ := hP
        rw [List.getElem?_map] at hv
        cases hk : zs[k]? with
        | none =>
          rw [hk] at hv
          cases hv
        | some z =>
          rw [hk] at hv
          cases hv
          have hzm := List.mem_of_getElem? hk
          have hlt := hz z hzm
          have mem1 : ∀ c ∈ zs.take (k + 1), c ∈ zs.take k ∨ c = z := fun c hc => by
            rw [List.take_add_one, hk] at hc
            rcases List.mem_append.mp hc with h | h
            · exact .inl h
            · exact .inr (by simpa using h)
          have hl5 : (fk ++ fk2).length ≤ n := by
            have := nat_nodup_len (fk ++ fk2) (List.range n) hnd5 fun t ht => List.mem_range.mpr (hfk5 t ht).1
            rw [List.length_range] at this
            exact this
          refine ⟨z.1, _, rfl, SqT.of (s5 _ _ (hN.2 z hzm)), rfl, _, _, rfl, _, _, rfl, rfl, ?_⟩
          refine ⟨_, rfl, _, rfl, rfl, _, rfl, ifB (fun e1 => ?_) (fun e1 => iteF ?_)⟩
          · have ea : z.2.1 = a := Int.ofNat.inj (V.int.inj (of_decide_eq_true e1))
            have hbr : Reach zs a0 z.2.2 := by
              rcases htd a (List.mem_append.mpr (.inr (List.mem_singleton.mpr rfl))) with h | h
              · exact .one hzm (ea.trans h)
              · exact .step (hfk a h).2 hzm ea
            refine ⟨_, rfl, _, rfl, FD, _, rfl, .inl (SqL.of hF5), rfl, flat_nV _, _, rfl, ?_⟩
            rw [inV_nV]
            refine ifB (fun e2 => ?_) (fun e2 => ?_)
            · have hnin : ¬ z.2.2 ∈ fk ++ fk2 := fun h => by
                rw [decide_eq_true h] at e2
                cases e2
              have hT6 : (upd H' FD (.lst (nV (fk ++ fk2) ++ [.int (z.2.2 : Int)]))) TD = some (.lst (nV (td0 ++ fk2))) := by
                rw [upd_ne FT.symm]
                exact hT5
              rw [List.length_append] at hl5
              refine ⟨_, rfl, .inl ⟨rfl, _, .inl (.inl hF5)⟩, _, rfl, FD, _, _, rfl, rfl, hF5, by rw [nV_len, List.length_append]; exact small_lt (by omega), ?_⟩
              refine ⟨_, rfl, .inl ⟨rfl, _, .inl (.inl hT6)⟩, _, rfl, TD, _, _, rfl, rfl, hT6, by rw [nV_len, List.length_append]; exact small_lt (by omega), ?_⟩
              refine ⟨fk2 ++ [z.2.2], _, _, rfl, same_mut (same_mut s5 nFD) nTD0, by rw [upd_ne FT, upd_same, nV_app, List.append_assoc], by rw [upd_same, nV_app, List.append_assoc], ?_, fun c hc => ?_, fun c hc ec => ?_⟩
              · rw [← List.append_assoc]
                exact nd_snoc hnd5 hnin
              · rw [← List.append_assoc] at hc
                rcases List.mem_append.mp hc with h | h
                · exact hfk5 c h
                · rw [List.mem_singleton.mp h]
                  exact ⟨hlt.2, hbr⟩
              · rw [← List.append_assoc]
                rcases mem1 c hc with h | h
                · exact List.mem_append.mpr (.inl (hin5 c h ec))
                · rw [h]
                  exact List.mem_append.mpr (.inr (List.mem_singleton.mpr rfl))
            · have hin : z.2.2 ∈ fk ++ fk2 := Decidable.byContradiction fun h => by
                rw [decide_eq_false h] at e2
                cases e2
              refine ⟨fk2, _, _, rfl, s5, hF5, hT5, hnd5, hfk5, fun c hc ec => ?_⟩
              rcases mem1 c hc with h | h
              · exact hin5 c h ec
              · rw [h]
                exact hin
          · have ea : ¬ z.2.1 = a := fun h => of_decide_eq_false e1 (by rw [h])
            refine ⟨fk2, _, _, rfl, s5, hF5, hT5, hnd5, hfk5, fun c hc ec => ?_⟩
            rcases mem1 c hc with h | h
            · exact hin5 c h ec
            · exact absurd (h ▸ ec) ea
      · obtain ⟨fk2, y5, y6, rfl, s5, hF5, hT5, hnd5, hfk5, hin5⟩ := hP
        rw [List.length_map, List.take_length] at hin5
        have hl5 : (fk ++ fk2).length ≤ n := by
          have := nat_nodup_len (fk ++ fk2) (List.range n) hnd5 fun t ht => List.mem_range.mpr (hfk5 t ht).1
          rw [List.length_range] at this
          exact this
        rw [List.length_append] at hl5
        refine ⟨m - 1, by omega, fk ++ fk2, td0 ++ fk2, _, _, _, rfl, s5, hF5, hT5, hnd5, hfk5, fun t ht => ?_, fun c hc => ?_, by rw [List.length_append, List.length_append]; omega, by rw [List.length_append, List.length_append]; omega⟩
        · rcases List.mem_append.mp ht with h | h
          · rcases htd t (List.mem_append.mpr (.inl h)) with h2 | h2
            · exact .inl h2
            · exact .inr (List.mem_append.mpr (.inl h2))
          · exact .inr (List.mem_append.mpr (.inr h))
        · have old : c = a0 ∨ c ∈ fk → c ∈ td0 ++ fk2 ∨ ∀ b ∈ succ zs c, b ∈ fk ++ fk2 := fun h => by
            rcases hcl c h with h2 | h2
            · rcases List.mem_append.mp h2 with h3 | h3
              · exact .inl (List.mem_append.mpr (.inl h3))
              · rw [List.mem_singleton.mp h3]
                refine .inr fun b hb => ?_
                obtain ⟨z, hzm, e1, e2⟩ := mem_succ.mp hb
                rw [← e2]
                exact hin5 z hzm e1
            · exact .inr fun b hb => List.mem_append.mpr (.inl (h2 b hb))
          rcases hc with h | h
          · exact old (.inl h)
          · rcases List.mem_append.mp h with h | h
            · exact old (.inr h)
            · exact .inl (List.mem_append.mpr (.inr h))
    · have hnil : td = [] := by
        cases td with
        | nil => rfl
        | cons x r => cases e
      subst hnil
      have h1 : ∀ c, c = a0 ∨ c ∈ fk → ∀ b ∈ succ zs c, b ∈ fk := fun c hc => (hcl c hc).resolve_left (by simp)
      exact ⟨_, rfl, q FD fk _ nFD s3' hF3 fun b => ⟨fun hb => (hfk b hb).2, fun h => reach_all (h1 a0 (.inl rfl)) (fun c hc => h1 c (.inr hc)) h⟩⟩
theorem roomSum_add {rs : List Int} {s : Int} {n : Nat} (h : (rs.length : Int) < s + (n : Int)) : ∀ m : Nat, roomSum rs s (n + m) = roomSum rs s n + 2 * (m : Int)
  | 0 => by simp
  | m + 1 => by
    show roomSum rs s (n + m) + roomAt rs (s + ((n + m : Nat) : Int)) = _
    rw [roomSum_add h m, roomAt_out (by omega)]
    omega
def spSum (K : PySem.W.Frag) : Sp := fun vs H Q _ => ∃ (r : Addr) (rs : List Int) (s e : Int), vs = [.ref r, .int s, .int e] ∧ SqL K H r (iV rs) ∧ 1 ≤ s ∧ s ≤ 100 ∧ rs.length ≤ 100 ∧ -1000 ≤ e ∧ Q (.int (roomOf rs s e)) H
theorem ok__law_sum (T : Env K mg) : Ok P w K mg base CX0 dd__law_sum "_law_sum" 2 ["_law_rooms", "_law_first", "_law_last"] (spSum K) := by
  obtain ⟨fd__law_room, D__law_room, g__law_room, k__law_room, b__law_room, G__law_room⟩ := ok__law_room (P := P) (w := w) (base := base) T
  obtain ⟨fd, F⟩ := T.c.def_ 26 (d := dd__law_sum) rfl
  refine ⟨fd, F, T.gl 26 _ rfl, F.kp, F.bindsN fun _ _ _ _ _ _ us hl => match us, hl with | [_, _, _], _ => rfl, ?_⟩
  refine F.ok sc__law_sum (fun vs H Q E h => ?_) (fun cdv A outer s H vs Q E hr h => ?_)
  · obtain ⟨r, rs, s, e, rfl, hr', h1, h2, hrl, he, q⟩ := h
    rfl
  · obtain ⟨r, rs, s, e, rfl, hr', h1, h2, hrl, he, q⟩ := h
    refine ⟨_, PSs.nox (pss_cons (ps_set (i := 3) sc__law_sum.nd rfl (Or.inl rfl) pe_int)
      (pss_cons (ps_for PassesOwn.never rfl (pi_range2 (by rfl) (T.fr 37 _ rfl) (pa_cons (pv 1) (pa_cons (pe_op op_add (pe_callB (call_min2 rfl) (by rfl) (T.fr 41 _ rfl) (by decide +kernel) (pa_cons (pv 2) (pa_cons pe_int pa_nil))) pe_int) pa_nil))) (pg_name (i := 4) sc__law_sum.nd rfl (Or.inl rfl)) (pss_one (ps_set (i := 3) sc__law_sum.nd rfl (Or.inl rfl) (pe_op op_add (pv 3) (pe_call G__law_room (hr.mono (by decide)) (by rfl) g__law_room k__law_room b__law_room .nil pass0 (pa_cons (pv 0) (pa_cons (pv 4) pa_nil)))))))
      (pss_one (ps_ret (pe_op op_add (pv 3) (pe_op op_mul pe_int (pe_callB (call_max2 rfl) (by rfl) (T.fr 39 _ rfl) (by decide +kernel) (pa_cons pe_int (pa_cons (pe_op op_sub (pv 2) (pe_callB (call_max2 rfl) (by rfl) (T.fr 39 _ rfl) (by decide +kernel) (pa_cons pe_int (pa_cons (pe_op op_sub (pv 1) pe_int) pa_nil)))) pa_nil))))))))), ?_⟩
    walk_at "u"
    have em : ∃ m : Int, (if 200 < e then (200 : Int) else e) = m ∧ -1000 ≤ m ∧ m ≤ 200 := ⟨_, rfl, by split <;> omega, by split <;> omega⟩
    obtain ⟨m, em, m0, m1⟩ := em
    refine ⟨_, rfl, _, rfl, _, _, rfl, ?_⟩
    rw [em]
    refine ⟨_, _, rfl, rfl, _, _, rfl, ⟨by omega, by omega, by omega, by omega⟩, for_range (lo := s) (n := (m + 1 - s).toNat) (fun i σ H' => ∃ y, σ = [some (.ref r), some (.int s), some (.int e), some (.int (roomSum rs s i)), y] ∧ H' = H) ⟨none, rfl, rfl⟩ (fun i σ H' hi hP => ?_) (fun σ H' hP => ?_)⟩
    · obtain ⟨y, rfl, rfl⟩ := hP
      exact ⟨_, rfl, _, rfl, _, rfl, r, rs, _, rfl, hr', by omega, _, _, rfl, rfl, _, rfl, rfl⟩
    · obtain ⟨y, rfl, rfl⟩ := hP
      refine ⟨_, rfl, _, rfl, _, rfl, _, _, rfl, rfl, _, _, rfl, _, _, rfl, rfl, _, _, rfl, _, _, rfl, rfl, .inl ⟨by decide, by decide⟩, _, _, rfl, rfl, ?_⟩
      have ev : roomSum rs s (m + 1 - s).toNat + 2 * (if e - (if s - 1 > 200 then s - 1 else 200) > 0 then e - (if s - 1 > 200 then s - 1 else 200) else 0) = roomOf rs s e := by
        rw [if_neg (by omega : ¬ s - 1 > 200)]
        unfold roomOf
        by_cases h200 : 200 < e
        · rw [if_pos h200] at em
          subst em
          rw [if_pos (by omega)]
          have e3 : (e + 1 - s).toNat = ((200 : Int) + 1 - s).toNat + (e - 200).toNat := by omega
          rw [e3, roomSum_add (by omega)]
          omega
        · rw [if_neg h200] at em
          subst em
          rw [if_neg (by omega)]
          omega
      rw [← ev] at q
      exact q
noncomputable def rb (zs : List (Addr × Nat × Nat)) (a b : Nat) : Bool := @decide (Reach zs a b) (Classical.propDecidable _)
theorem rb_of {zs : List (Addr × Nat × Nat)} {a b : Nat} {c : Bool} (h : c = true ↔ Reach zs a b) : c = rb zs a b := by
  unfold rb
  rw [Bool.eq_iff_iff, h]
  exact (@decide_eq_true_iff _ (Classical.propDecidable _)).symm
theorem rgV_nV (n : Nat) : rgV 0 (n : Int) = nV (List.range n) := by
  unfold rgV nV
  have e : ((n : Int) - 0).toNat = n := by omega
  rw [e]
  refine List.map_congr_left fun i _ => ?_
  rw [Int.zero_add]
def spGood : Sp := fun vs H Q _ => ∃ (p J f d n r : Addr) (x : Int) (fs : List Int) (ds : List (Option Int)) (zs : List (Addr × Nat × Nat)) (rs : List Int), vs = [.ref p, .ref J] ∧ H p = some (.lst [.int x]) ∧ JobAt H J f d n r fs ds zs rs ∧ Valid fs ds zs rs ∧ fs.length ≤ 12 ∧
  f ≠ p ∧ d ≠ p ∧ n ≠ p ∧ r ≠ p ∧ ∀ H', But p H H' → Q (.bl true) H'
theorem ok__law_good (T : Env K mg) : OkG P w K mg base CX0 dd__law_good "_law_good" 9 ["_law_pile_here", "_law_job_here"] spGood := by
  obtain ⟨fd__law_behind, D__law_behind, g__law_behind, k__law_behind, b__law_behind, G__law_behind⟩ := ok__law_behind (P := P) (w := w) (base := base) T
  obtain ⟨fd_is_behind, D_is_behind, g_is_behind, k_is_behind, b_is_behind, G_is_behind⟩ := ok_is_behind (P := P) (w := w) (base := base) T
  obtain ⟨fd__law_take, D__law_take, g__law_take, k__law_take, b__law_take, G__law_take⟩ := ok__law_take (P := P) (w := w) (base := base) T
  obtain ⟨fd_room, D_room, g_room, k_room, b_room, G_room⟩ := ok_room (P := P) (w := w) (base := base) T
  obtain ⟨fd__law_sum, D__law_sum, g__law_sum, k__law_sum, b__law_sum, G__law_sum⟩ := ok__law_sum (P := P) (w := w) (base := base) T
  obtain ⟨fd, F⟩ := T.c.def_ 27 (d := dd__law_good) rfl
  refine ⟨fd, F, T.gl 27 _ rfl, F.kp, F.bindsN fun _ _ _ _ _ _ us hl => match us, hl with | [_, _], _ => rfl, ?_⟩
  refine funD_okG F sc__law_good (fun vs H Q E h => ?_) (fun cdv A outer s H vs Q E hr hgd h => ?_)
  · obtain ⟨p, J, f, d, n, r, x, fs, ds, zs, rs, rfl, hp, hJ, hv, hl, nf, nd, nn, nr, q⟩ := h
    rfl
  · obtain ⟨p, J, f, d, n, r, x, fs, ds, zs, rs, rfl, hp, hJ, hv, hl, nf, nd, nn, nr, q⟩ := h
    refine ⟨_, PSs.nox (pss_cons (ps_set (i := 2) sc__law_good.nd rfl (Or.inl rfl) (pe_callTy (call_str_data hgd hr.units) (by rfl) (T.fr 42 _ rfl) (by decide +kernel) (pa_cons (pv 1) pa_nil)))
      (pss_cons (ps_set (i := 3) sc__law_good.nd rfl (Or.inl rfl) (pe_listRg (by rfl) (by rfl) (T.fr 35 _ rfl) (prg_1 (by rfl) (T.fr 37 _ rfl) (pe_callB call_len_seq (by rfl) (T.fr 33 _ rfl) (by decide +kernel) (pa_cons (pe_ix ix_tup (pv 1) pe_int (fun _ _ => rfl)) pa_nil)))))
      (pss_cons (ps_for PassesOwn.never rfl (pi_list (pv 3)) (pg_name (i := 4) sc__law_good.nd rfl (Or.inr rfl)) (pss_cons (ps_set (i := 5) sc__law_good.nd rfl (Or.inr rfl) (pe_call G__law_behind (hr.mono (by decide)) (by rfl) g__law_behind k__law_behind b__law_behind .nil pass0 (pa_cons (pe_ix ix_tup (pv 1) pe_int (fun _ _ => rfl)) (pa_cons (pv 4) pa_nil))))
      (pss_cons (ps_setLc (i := 6) (own := [("_law_other", 10)]) (g := gName 10) (tt := tYes) (by rfl) sc__law_good.nd rfl rfl (sw_true rfl rfl rfl (by decide +kernel)) (pi_list (pv 3)) (blkOk_by (own := [("_law_other", 10)]) (N := N__law_good) (sc := defScope s__law_good) (by decide +kernel)) (fun _ _ _ _ _ => (pg_name (i := 10) sc__law_good.nd rfl (by first | exact Or.inl rfl | exact Or.inr rfl))) (fun _ _ _ _ _ => pts_nil) (fun _ _ _ _ _ => (pe_call G_is_behind (hr.mono (by decide)) (by rfl) g_is_behind k_is_behind b_is_behind .nil pass0 (pa_cons (pv 1) (pa_cons (pv 4) (pa_cons (pv 10) pa_nil))))))
      (pss_one (ps_if (PW.pt (pw_or (pt_cmpR (op_neD hr.units) (pv 6) (pe_lc (own := [("_law_other", 10)]) (g := gName 10) (tt := tYes) (by rfl) sc__law_good.nd (pi_list (pv 3)) (blkOk_by (own := [("_law_other", 10)]) (N := N__law_good) (sc := defScope s__law_good) (by decide +kernel)) (fun _ _ _ _ _ => (pg_name (i := 10) sc__law_good.nd rfl (by first | exact Or.inl rfl | exact Or.inr rfl))) (fun _ _ _ _ _ => pts_nil) (fun _ _ _ _ _ => (pe_cmpR (r := rIn K false) op_in_seq (pv 10) (pv 5) (by rfl)))) (nomark _)) (pw_or1 (pt_cmpR (op_neD hr.units) (pe_lc (own := [("_law_one", 11)]) (g := gName 11) (by rfl) sc__law_good.nd (pi_list (pv 6)) (blkOk_by (own := [("_law_one", 11)]) (N := N__law_good) (sc := defScope s__law_good) (by decide +kernel)) (fun _ _ _ _ _ => (pg_name (i := 11) sc__law_good.nd rfl (by first | exact Or.inl rfl | exact Or.inr rfl))) (fun _ _ _ _ _ => (pts_one (pt_not (pt_val (pe_callB (r := rIsi K) call_isi (by rfl) (T.fr 29 _ rfl) (by decide +kernel) (pa_cons (pv 11) (pa_cons (pe_bltn (v := .ty "bool") (by rfl) (T.fr 31 _ rfl) (by decide +kernel) rfl) pa_nil))))))) (fun _ _ _ _ _ => (pv 11))) (pe_lst pa_nil) (nomark _))))) (pss_one (ps_ret pe_bl)) pss_nil)))))
      (pss_cons (ps_for PassesOwn.never rfl (pi_range1 (by rfl) (T.fr 37 _ rfl) (pa_cons pe_int pa_nil)) (pg_name (i := 7) sc__law_good.nd rfl (Or.inl rfl)) (pss_cons (ps_set (i := 8) sc__law_good.nd rfl (Or.inl rfl) (pe_op op_add pe_int (pe_call G__law_take (hr.mono (by decide)) (by rfl) g__law_take k__law_take b__law_take .nil pass0 (pa_cons (pv 0) (pa_cons pe_int pa_nil)))))
      (pss_cons (ps_set (i := 9) sc__law_good.nd rfl (Or.inl rfl) (pe_op op_add (pe_op op_sub (pe_call G__law_take (hr.mono (by decide)) (by rfl) g__law_take k__law_take b__law_take .nil pass0 (pa_cons (pv 0) (pa_cons pe_int pa_nil))) pe_int) (pe_ix ix_list (pe_lst (pa_cons pe_int (pa_cons pe_int (pa_cons (pe_op op_pow pe_int pe_int) (pa_cons pe_int pa_nil))))) (pe_call G__law_take (hr.mono (by decide)) (by rfl) g__law_take k__law_take b__law_take .nil pass0 (pa_cons (pv 0) (pa_cons pe_int pa_nil))) (fun _ _ => rfl))))
      (pss_one (ps_if (pt_cmpR op_ne (pe_call G_room (hr.mono (by decide)) (by rfl) g_room k_room b_room .nil pass0 (pa_cons (pv 1) (pa_cons (pv 8) (pa_cons (pv 9) pa_nil)))) (pe_call G__law_sum (hr.mono (by decide)) (by rfl) g__law_sum k__law_sum b__law_sum .nil pass0 (pa_cons (pe_ix ix_tup (pv 1) pe_int (fun _ _ => rfl)) (pa_cons (pv 8) (pa_cons (pv 9) pa_nil)))) (nomark _)) (pss_one (ps_ret pe_bl)) pss_nil)))))
      (pss_one (ps_ret (pe_cmpR op_eq (pe_callTy (call_str_data hgd hr.units) (by rfl) (T.fr 42 _ rfl) (by decide +kernel) (pa_cons (pv 1) pa_nil)) (pv 2) (nomark _)))))))), ?_⟩
    walk_at "u"
    have hsm := hv.sm
    have hsl := hsm.len
    refine ⟨_, rfl, J, _, rfl, hJ.dp, hsm.show_, hsm.dict, Nat.le_trans hsm.dep (by decide), Nat.le_trans hsl (by decide), ?_⟩
    refine ⟨_, rfl, _, _, _, .ref f, rfl, rfl, SqT.of hJ.top, atI_nat (j := 0) rfl, f, _, rfl, .inl (SqL.of hJ.fr), _, rfl, RgOk.of_le (by omega) (by rw [iV_len]; omega) (by omega) (by omega), fun TA nTA => ?_⟩
    rw [iV_len, rgV_nV]
    have j1 := hJ.same (same_upd (o := .lst (nV (List.range fs.length))) nTA)
    have hp1 : (upd H TA (.lst (nV (List.range fs.length)))) p = some (.lst [.int x]) := (same_upd nTA) _ _ hp
    have hTA1 : (upd H TA (.lst (nV (List.range fs.length)))) TA = some (.lst (nV (List.range fs.length))) := upd_same
    refine ⟨_, rfl, TA, rfl, ⟨_, SqL.of upd_same⟩, for_list (K := K) (a := TA) (xs := nV (List.range fs.length)) (fun i σ H' => ∃ y4 y5 y6, σ = [some (.ref p), some (.ref J), some (.str (jobD fs ds zs rs).shown), some (.ref TA), y4, y5, y6, none, none, none, none, none] ∧ Same (upd H TA (.lst (nV (List.range fs.length)))) H')
      ⟨none, none, none, rfl, Same.refl _⟩ (fun i σ H' _ hP => ?_) (fun i v σ H' hv2 hP => ?_) (fun σ H' hP => ?_)⟩
    · obtain ⟨y4, y5, y6, _, sm⟩ := hP
      exact SqL.of (sm _ _ hTA1)
    · obtain ⟨y4, y5, y6, rfl, sm⟩ := hP
      obtain ⟨t, ht, rfl⟩ := nV_of hv2
      have hil := (List.getElem?_eq_some_iff.mp ht).1
      rw [List.length_range] at hil
      have eti : t = i := by
        rw [List.getElem?_range hil] at ht
        exact (Option.some.inj ht).symm
      subst eti
      have j2 := j1.same sm
      refine ⟨_, rfl, _, _, _, .ref n, rfl, rfl, SqT.of j2.top, atI_nat (j := 2) rfl, _, rfl, n, fs.length, zs, t, rfl, j2.ne, hv.zlt, by omega, fun TH ys H3 nTH s3 hTH hys => ?_⟩
      have s03 := sm.trans s3
      have j3 := j1.same s03
      have hTA3 := s03 _ _ hTA1
      refine ⟨_, rfl, TA, rfl, ⟨_, SqL.of hTA3⟩, fun FB nFB => lc_list (K := K) (a := TA) (xs := nV (List.range fs.length)) (fun k H' => Same H3 H' ∧ H' FB = some (.lst (((List.range k).map (rb zs t)).map V.bl))) ⟨same_upd nFB, upd_same⟩ (fun k H' _ hP => SqL.of (hP.1 _ _ hTA3)) (fun k v H' hv3 hP => ?_) (fun H4 hP => ?_)⟩
      · obtain ⟨sm4, hFB⟩ := hP
        obtain ⟨b, hb, rfl⟩ := nV_of hv3
        have hbl := (List.getElem?_eq_some_iff.mp hb).1
        rw [List.length_range] at hbl
        have eb : b = k := by
          rw [List.getElem?_range hbl] at hb
          exact (Option.some.inj hb).symm
        subst eb
        refine ⟨rfl, ?_⟩
        walk_at "u"
        refine iteT ⟨_, rfl, _, rfl, _, rfl, J, f, d, n, r, fs, ds, zs, rs, t, b, rfl, j3.same sm4, hv, by omega, hil, hbl, fun c H5 s5 hc => ?_⟩
        rw [rb_of hc]
        refine ⟨_, s5 _ _ hFB, ?_, same_mut (sm4.trans s5) nFB, ?_⟩
        · rw [List.length_map, List.length_map, List.length_range]
          exact small_lt (by omega)
        · rw [upd_same, bl_app, range_map_snoc]
      obtain ⟨s4, hFB⟩ := hP
      rw [nV_len, List.length_range] at hFB
      have hTA4 := s4 _ _ hTA3
      have hTH4 := s4 _ _ hTH
      refine ⟨_, rfl, _, rfl, TA, rfl, ⟨_, SqL.of hTA4⟩, fun FC nFC => lc_list (K := K) (a := TA) (xs := nV (List.range fs.length)) (fun k H' => Same H4 H' ∧ H' FC = some (.lst (((List.range k).map (rb zs t)).map V.bl))) ⟨same_upd nFC, upd_same⟩ (fun k H' _ hP => SqL.of (hP.1 _ _ hTA4)) (fun k v H' hv3 hP => ?_) (fun H5 hP => ?_)⟩
      · obtain ⟨sm4, hFC⟩ := hP
        obtain ⟨b, hb, rfl⟩ := nV_of hv3
        have hbl := (List.getElem?_eq_some_iff.mp hb).1
        rw [List.length_range] at hbl
        have eb : b = k := by
          rw [List.getElem?_range hbl] at hb
          exact (Option.some.inj hb).symm
        subst eb
        refine ⟨rfl, ?_⟩
        walk_at "u"
        refine iteT ⟨_, rfl, _, rfl, TH, _, rfl, .inl (SqL.of (sm4 _ _ hTH4)), rfl, flat_nV _, ?_⟩
        rw [inV_nV, show decide (b ∈ ys) = rb zs t b from rb_of (decide_eq_true_iff.trans (hys b))]
        refine ⟨_, hFC, ?_, same_mut sm4 nFC, ?_⟩
        · rw [List.length_map, List.length_map, List.length_range]
          exact small_lt (by omega)
        · rw [upd_same, range_map_snoc, ← bl_app]
          rfl
      obtain ⟨s5, hFC⟩ := hP
      rw [nV_len, List.length_range] at hFC
      refine ⟨_, _, .lst (SqL.of (s5 _ _ hFB)) (bD_all _), .lst (SqL.of hFC) (bD_all _), can_all _ (fun _ => ⟨rfl, rfl⟩) _, can_all _ (fun _ => ⟨rfl, rfl⟩) _, _, rfl, ?_⟩
      rw [SeqAt.eqv_refl _ (SeqAt.canLay_of_shaped (can_all PyData.bool (fun _ => ⟨rfl, rfl⟩) _))]
      have hFB5 := s5 _ _ hFB
      refine iteF ⟨_, rfl, FB, rfl, ⟨_, SqL.of hFB5⟩, fun FE nFE => lc_list (K := K) (a := FB) (xs := ((List.range fs.length).map (rb zs t)).map V.bl) (fun k H' => Same H5 H' ∧ H' FE = some (.lst [])) ⟨same_upd nFE, upd_same⟩ (fun k H' _ hP => SqL.of (hP.1 _ _ hFB5)) (fun k v H' hv3 hP => ?_) (fun H6 hP => ?_)⟩
      · rw [List.getElem?_map] at hv3
        cases hb : ((List.range fs.length).map (rb zs t))[k]? with
        | none =>
          rw [hb] at hv3
          cases hv3
        | some b =>
          rw [hb] at hv3
          cases hv3
          refine ⟨rfl, ?_⟩
          walk_at "u"
          exact ⟨_, rfl, rIsi_of (b := true) (.bl b) (by decide +kernel) ⟨_, rfl, iteF hP⟩⟩
      obtain ⟨s6, hFE⟩ := hP
      refine ⟨(show 0 ≤ sizeLine by decide), fun e6 ne6 => ?_⟩
      refine ⟨.list [], .list [], .lst (SqL.of ((same_upd ne6) _ _ hFE)) .nil, .lst (SqL.of upd_same) .nil, rfl, rfl, _, rfl, iteF ?_⟩
      exact ⟨_, _, _, rfl, ((((s03.trans s4).trans s5).trans s6).trans (same_upd ne6))⟩
    obtain ⟨y4, y5, y6, rfl, s2⟩ := hP
    have hp2 : H' p = some (.lst [.int x]) := s2 _ _ hp1
    have j2 := j1.same s2
    have b2 : But p H H' := But.of ((same_upd nTA).trans s2)
    refine ⟨6, rfl, by decide, by decide, for_range (lo := 0) (n := 6) (fun i σ H2 => ∃ x' y4 y5 y6 y7 y8 y9, σ = [some (.ref p), some (.ref J), some (.str (jobD fs ds zs rs).shown), some (.ref TA), y4, y5, y6, y7, y8, y9, none, none] ∧ But p H H2 ∧ H2 p = some (.lst [.int x']) ∧ JobAt H2 J f d n r fs ds zs rs)
      ⟨x, y4, y5, y6, none, none, none, rfl, b2, hp2, j2⟩ (fun i σ H2 hi hP => ?_) (fun σ H2 hP => ?_)⟩
    · obtain ⟨x', y4, y5, y6, y7, y8, y9, rfl, hb, hpx, hj⟩ := hP
      refine ⟨_, rfl, p, x', 30, rfl, hpx, by decide, by decide, fun d1 x1 d10 d11 => ⟨_, _, rfl, rfl, ?_⟩⟩
      have hj1 : JobAt (upd H2 p (.lst [.int x1])) J f d n r fs ds zs rs := hj.but hpx nf nd nn nr But.upd
      refine ⟨_, rfl, p, x1, 60, rfl, upd_same, by decide, by decide, fun d2 x2 d20 d21 => ⟨_, _, rfl, rfl, _, _, rfl, rfl, ⟨by decide, by decide, by decide⟩, (show 4 ≤ sizeLine by decide), fun q4 nq4 => ?_⟩⟩
      have hj2 : JobAt (upd (upd H2 p (.lst [.int x1])) p (.lst [.int x2])) J f d n r fs ds zs rs := hj1.but upd_same nf nd nn nr But.upd
      have hp2' : (upd (upd H2 p (.lst [.int x1])) p (.lst [.int x2])) p = some (.lst [.int x2]) := upd_same
      have np4 : p ≠ q4 := ne_of_none hp2' nq4
      refine ⟨_, rfl, p, x2, 4, rfl, by rw [upd_ne np4]; exact hp2', by decide, by decide, fun d3 x3 d30 d31 => ?_⟩
      obtain ⟨y, hy, hy0⟩ : ∃ y, ([0, 0, 10 ^ (20 : Int).toNat, 0] : List Int)[d3.toNat]? = some y ∧ 0 ≤ y := by
        have : d3 = 0 ∨ d3 = 1 ∨ d3 = 2 ∨ d3 = 3 := by omega
        rcases this with e | e | e | e <;> subst e <;> exact ⟨_, rfl, by decide⟩
      have b5 : But p H (upd (upd (upd (upd H2 p (.lst [.int x1])) p (.lst [.int x2])) q4 (.lst (iV [0, 0, 10 ^ (20 : Int).toNat, 0]))) p (.lst [.int x3])) := (((hb.trans But.upd).trans But.upd).trans (But.new nq4)).trans But.upd
      have hj3 := (hj2.same (same_upd (o := .lst (iV [0, 0, 10 ^ (20 : Int).toNat, 0])) nq4)).but (H' := upd (upd (upd (upd H2 p (.lst [.int x1])) p (.lst [.int x2])) q4 (.lst (iV [0, 0, 10 ^ (20 : Int).toNat, 0]))) p (.lst [.int x3])) ((same_upd nq4) _ _ hp2') nf nd nn nr But.upd
      refine ⟨q4, _, d3, .int y, rfl, rfl, SqL.of (by rw [upd_ne np4.symm, upd_same]; rfl), atI_iV (is := [0, 0, 10 ^ (20 : Int).toNat, 0]) (j := d3.toNat) (by omega) hy, _, _, rfl, rfl, ?_⟩
      refine ⟨_, rfl, _, rfl, _, rfl, J, f, d, n, r, fs, ds, zs, rs, _, _, rfl, hj3, hv, by omega, fun H6 s6 => ?_⟩
      have hj6 := hj3.same s6
      refine ⟨_, rfl, _, _, _, .ref r, rfl, rfl, SqT.of hj6.top, atI_nat (j := 3) rfl, _, rfl, _, rfl, r, rs, _, _, rfl, SqL.of hj6.ro, by omega, by omega, by have := hv.ro.len; omega, by omega, rfl, _, rfl, iteNS rfl ?_⟩
      exact ⟨x3, _, _, _, _, _, _, rfl, b5.trans (But.of s6), s6 _ _ upd_same, hj6⟩
    · obtain ⟨x', y4, y5, y6, y7, y8, y9, rfl, hb, hpx, hj⟩ := hP
      refine ⟨_, rfl, J, _, rfl, hj.dp, hsm.show_, hsm.dict, Nat.le_trans hsm.dep (by decide), Nat.le_trans hsl (by decide), _, rfl, rfl, ?_⟩
      rw [decide_eq_true rfl]
      exact q H2 hb
theorem fresh_same {p : Addr} {H H1 H2 : Hp} (s : Same H H1) (n : H p = none) (b : But p H1 H2) : Same H H2 := fun a o h => b a o (ne_of_none h n) (s a o h)
def spLaw (K : PySem.W.Frag) : Sp := fun vs H Q _ => ∃ (a : Addr) (ns : List Int), vs = [.ref a] ∧ SqL K H a (ns.map V.int) ∧ ns.length ≤ 63 ∧ ∀ H', Q (.bl true) H'
theorem okl_law {fd : FuncData} (F : FunD K dd_law.name dd_law.qual dd_law.params dd_law.body dd_law.scope (dd_law.dvs K) (dd_law.kws K) (He.fAd K dd_law.at_) fd) (T : Env K mg) : FnG P w K mg base CX0 10 (He.fAd K dd_law.at_) fd ["_law_script"] (spLaw K) := by
  obtain ⟨fd__law_pile, D__law_pile, g__law_pile, k__law_pile, b__law_pile, G__law_pile⟩ := ok__law_pile (P := P) (w := w) (base := base) T
  obtain ⟨fd__law_good, D__law_good, g__law_good, k__law_good, b__law_good, G__law_good⟩ := ok__law_good (P := P) (w := w) (base := base) T
  obtain ⟨fd_room, D_room, g_room, k_room, b_room, G_room⟩ := ok_room (P := P) (w := w) (base := base) T
  obtain ⟨fd__law_job, D__law_job, g__law_job, k__law_job, b__law_job, G__law_job⟩ := ok__law_job (P := P) (w := w) (base := base) T
  refine funD_okG F sc_law (fun vs H Q E h => ?_) (fun cdv A outer s H vs Q E hr hgd h => ?_)
  · obtain ⟨a, ns, rfl, hS, hlen, q⟩ := h
    rfl
  · obtain ⟨a, ns, rfl, hS, hlen, q⟩ := h
    refine ⟨_, PSs.nox (pss_cons (ps_for PassesOwn.never rfl (pi_range1 (by rfl) (T.fr 37 _ rfl) (pa_cons (pe_callB (call_max2 rfl) (by rfl) (T.fr 39 _ rfl) (by decide +kernel) (pa_cons pe_int (pa_cons (pe_callB (call_min2 rfl) (by rfl) (T.fr 41 _ rfl) (by decide +kernel) (pa_cons (pe_callB call_len_seq (by rfl) (T.fr 33 _ rfl) (by decide +kernel) (pa_cons (pv 0) pa_nil)) (pa_cons pe_int pa_nil))) pa_nil))) pa_nil)) (pg_name (i := 1) sc_law.nd rfl (Or.inl rfl)) (pss_cons (ps_set (i := 2) sc_law.nd rfl (Or.inl rfl) (pe_call G__law_pile (hr.mono (by decide)) (by rfl) g__law_pile k__law_pile b__law_pile .nil pass0 (pa_cons (pv 0) (pa_cons (pv 1) pa_nil))))
      (pss_one (ps_if (pt_not (pt_val (pe_callG hgd G__law_good (hr.mono (by decide)) (by rfl) g__law_good k__law_good b__law_good .nil pass0 (pa_cons (pv 2) (pa_cons (pe_call G__law_job (hr.mono (by decide)) (by rfl) g__law_job k__law_job b__law_job .nil pass0 (pa_cons (pv 2) (pa_cons pe_int (pa_cons pe_int pa_nil)))) pa_nil))))) (pss_one (ps_ret pe_bl)) pss_nil))))
      (pss_one (ps_ret (pe_and (pe_cmpR op_eq (pe_call G_room (hr.mono (by decide)) (by rfl) g_room k_room b_room .nil pass0 (pa_cons (pe_tup (pa_cons (pe_lst pa_nil) (pa_cons (pe_lst pa_nil) (pa_cons (pe_lst pa_nil) (pa_cons (pe_lst pa_nil) pa_nil))))) (pa_cons pe_int (pa_cons pe_int pa_nil)))) pe_int (nomark _)) (pe_one (pe_cmpR op_eq (pe_call G_room (hr.mono (by decide)) (by rfl) g_room k_room b_room .nil pass0 (pa_cons (pe_tup (pa_cons (pe_lst pa_nil) (pa_cons (pe_lst pa_nil) (pa_cons (pe_lst pa_nil) (pa_cons (pe_lst (pa_cons pe_int (pa_cons pe_int pa_nil))) pa_nil))))) (pa_cons pe_int (pa_cons pe_int pa_nil)))) pe_int (nomark _))))))), ?_⟩
    walk_at "u"
    have em : ∃ m : Int, (if (if (8 : Int) < ((ns.map V.int).length : Int) then (8 : Int) else ((ns.map V.int).length : Int)) > 2 then (if (8 : Int) < ((ns.map V.int).length : Int) then (8 : Int) else ((ns.map V.int).length : Int)) else 2) = m ∧ 2 ≤ m ∧ m ≤ 8 := ⟨_, rfl, by split <;> split <;> omega, by split <;> split <;> omega⟩
    obtain ⟨m, em, m0, m1⟩ := em
    refine ⟨_, rfl, a, _, rfl, .inl hS, _, _, rfl, _, _, rfl, ?_⟩
    rw [em]
    refine ⟨_, rfl, by omega, by omega, for_range (lo := 0) (n := m.toNat) (fun i σ H' => ∃ y1 y2, σ = [some (.ref a), y1, y2] ∧ Same H H') ⟨none, none, rfl, Same.refl _⟩ (fun i σ H' hi hP => ?_) (fun σ H' hP => ?_)⟩
    · obtain ⟨y1, y2, rfl, sm⟩ := hP
      refine ⟨_, rfl, _, rfl, a, ns, _, rfl, sm.seq hS, hlen, by omega, fun p x np => ?_⟩
      have s1 : Same H (upd H' p (.lst [.int x])) := sm.trans (same_upd np)
      have np0 : H p = none := sm.free np
      refine ⟨_, rfl, _, rfl, p, x, 1, 12, rfl, upd_same, by decide, by decide, by decide, fun J f d n r fs ds zs rs x' H2 nJ b2 hp2 hj hv hfl _ _ nf nd nn nr => ?_⟩
      refine ⟨p, J, f, d, n, r, x', fs, ds, zs, rs, rfl, hp2, hj, hv, hfl, nf, nd, nn, nr, fun H3 b3 => ⟨_, rfl, iteF ?_⟩⟩
      exact ⟨_, _, rfl, fresh_same (fresh_same s1 np0 b2) np0 b3⟩
    · obtain ⟨y1, y2, rfl, sm⟩ := hP
      have vnil : ∀ rs : List Int, Rooms rs → Valid [] [] [] rs := fun rs R => ⟨by decide, rfl, fun x hx => (by cases hx), fun x hx => (by cases hx), by decide, List.nodup_nil, ⟨fun t => t, fun z hz => (by cases hz)⟩, R⟩
      refine ⟨(show 0 ≤ sizeLine by decide), fun a1 n1 => ⟨(show 0 ≤ sizeLine by decide), fun a2 n2 => ⟨(show 0 ≤ sizeLine by decide), fun a3 n3 => ⟨(show 0 ≤ sizeLine by decide), fun a4 n4 => ⟨(show 4 ≤ sizeLine by decide), fun J nJ => ?_⟩⟩⟩⟩⟩
      have g4 := (same_upd (o := .tup [.ref a1, .ref a2, .ref a3, .ref a4]) nJ) a4 _ upd_same
      have g3 := (same_upd (o := .tup [.ref a1, .ref a2, .ref a3, .ref a4]) nJ) a3 _ ((same_upd (o := .lst []) n4) _ _ upd_same)
      have g2 := (same_upd (o := .tup [.ref a1, .ref a2, .ref a3, .ref a4]) nJ) a2 _ ((same_upd (o := .lst []) n4) _ _ ((same_upd (o := .lst []) n3) _ _ upd_same))
      have g1 := (same_upd (o := .tup [.ref a1, .ref a2, .ref a3, .ref a4]) nJ) a1 _ ((same_upd (o := .lst []) n4) _ _ ((same_upd (o := .lst []) n3) _ _ ((same_upd (o := .lst []) n2) _ _ upd_same)))
      refine ⟨J, a1, a2, a3, a4, [], [], [], [], 1, 0, rfl, ⟨upd_same, g1, g2, ⟨g3, fun z hz => (by cases hz)⟩, g4⟩, vnil [] ⟨by decide, fun y hy => (by cases hy)⟩, by decide, fun H5 s5 => ⟨rfl, _, rfl, iteT ?_⟩⟩
      refine ⟨(show 0 ≤ sizeLine by decide), fun b1 n1 => ⟨(show 0 ≤ sizeLine by decide), fun b2 n2 => ⟨(show 0 ≤ sizeLine by decide), fun b3 n3 => ⟨(show 2 ≤ sizeLine by decide), fun b4 n4 => ⟨(show 4 ≤ sizeLine by decide), fun J nJ => ?_⟩⟩⟩⟩⟩
      have g4 := (same_upd (o := .tup [.ref b1, .ref b2, .ref b3, .ref b4]) nJ) b4 _ upd_same
      have g3 := (same_upd (o := .tup [.ref b1, .ref b2, .ref b3, .ref b4]) nJ) b3 _ ((same_upd (o := .lst [.int 3, .int 0]) n4) _ _ upd_same)
      have g2 := (same_upd (o := .tup [.ref b1, .ref b2, .ref b3, .ref b4]) nJ) b2 _ ((same_upd (o := .lst [.int 3, .int 0]) n4) _ _ ((same_upd (o := .lst []) n3) _ _ upd_same))
      have g1 := (same_upd (o := .tup [.ref b1, .ref b2, .ref b3, .ref b4]) nJ) b1 _ ((same_upd (o := .lst [.int 3, .int 0]) n4) _ _ ((same_upd (o := .lst []) n3) _ _ ((same_upd (o := .lst []) n2) _ _ upd_same)))
      refine ⟨J, b1, b2, b3, b4, [], [], [], [3, 0], 1, 3, rfl, ⟨upd_same, g1, g2, ⟨g3, fun z hz => (by cases hz)⟩, g4⟩, vnil [3, 0] ⟨by decide, by decide⟩, by decide, fun H6 s6 => ⟨rfl, ?_⟩⟩
      exact q H6

end
/-! ### the head -/
def loose0 : List PySem.Str := ["is_whole", "is_whole_from", "is_hour", "is_due", "is_job", "is_room", "is_task", "is_need", "are_needs", "followers_of", "has_ring", "check_job", "check_task", "is_behind", "tasks_behind", "room", "room_within", "_law_mixed", "_law_pile", "_law_take"]
def loose1 : List PySem.Str := ["_law_order", "_law_room", "_law_hours", "_law_needs", "_law_job", "_law_behind", "_law_sum", "_law_good", "MOST_ROOM", "ROOM_BEHIND", "JobError", "NoJob", "NoTask", "NoHour"]
abbrev R : PySem.W.OpenRow := PySem.W.OpenLaw.row PySem.Challenge.rw_duepairs_k02_behind_and_room
abbrev hk : PySem.W.Hook := He.hookD 4 fa fn
def ob (s : PySem.W.SharedT) : He.AlD := He.obsDG 4 fa fn (HandSHeadRun.getT s)
theorem ob_eq (s : PySem.W.SharedT) : ob s = hk.obs s.abs := He.obsDG_eq (HandSHeadRun.getT_eq s)
abbrev loose : List PySem.Str := loose0 ++ loose1
theorem run (w : World) : HandSHeadRun.RunEq R (PySem.W.view R.prog [38]) hk ob 4000 loose w := by
  intro os
  kernel_rfl
theorem facts {P : Program} {w : World} {K : PySem.W.Frag} {h : Heap} {mg : Str → Option Value} {f : Addr} (X : K.In h) (G : h.Ns mainGlobals mg) (hfa : mg ("law" : Str) = some (.ref f)) (c : He.SaysD fa fn K) :
    ∃ fd : FuncData, (∀ (s : Shared) (v : Value), BindsTo s fd ⟨[v], []⟩ [("_law_script", v)]) ∧ ∀ base : Heap, K.In base → base.Ns mainGlobals mg → FnG P w K mg base CX0 10 f fd ["_law_script"] (spLaw K) := by
  have T : Env K mg := ⟨c, fun i x e => He.glo_ok X G (c.fact i e), fun i x e => He.free_ok X G (c.fact i e), fun i x n e => He.int_ok X G (c.fact i e)⟩
  obtain ⟨fd, F⟩ := c.def_ 28 (d := dd_law) rfl
  have e := hfa.symm.trans (T.gl 28 "law" rfl)
  cases e
  have b := FunD.bindsA (ps := ["_law_script"]) F fun _ _ _ _ _ _ us hl => match us, hl with | [_], _ => rfl
  refine ⟨fd, fun s v => b s [v] rfl, fun base _ _ => ?_⟩
  exact okl_law F T
end DP
open PySem PySem.W PySem.Calls PyProof.Rows
set_option maxRecDepth 100000 in
set_option maxHeartbeats 0 in
theorem PySem.Challenge.cw_duepairs_k02_behind_and_room_holds : PySem.Challenge.rw_duepairs_k02_behind_and_room.Holds := by
  w_on; o_law
  refine HandSHeadRun.head_any (r := OpenLaw.row PySem.Challenge.rw_duepairs_k02_behind_and_room) (q := view (OpenLaw.row PySem.Challenge.rw_duepairs_k02_behind_and_room).prog [38]) (H := DP.hk) (ob := DP.ob) (M := 4000) (loose := DP.loose) (d := HandSHeadRun.topDef (OpenLaw.row PySem.Challenge.rw_duepairs_k02_behind_and_room).prog 38) (kwd := []) DP.ob_eq
    (by kernel_rfl) (fun s => by kernel_rfl) DP.run (by kernel_rfl) (by kernel_rfl) (by kernel_rfl) (by rfl) (by first | assumption | decide +kernel) (by decide +kernel) ⟨rfl, rfl, rfl, rfl, rfl, by decide +kernel⟩ ?hw ?hc
  case hw => w_witness2
  case hc =>
    refine DP.walk_ofG (l := PySem.Challenge.rw_duepairs_k02_behind_and_room) (n := 63) (k := 10) (x := "_law_script") (CX := L2.CX0) rfl (by decide) (by kernel_rfl) ⟨rfl, by decide, by decide⟩ ?F (fun _ _ _ _ z => z)
    intro w mg fa h Y G hmg0
    obtain ⟨K, KX, c⟩ := Y
    have hmg : mg ("law" : PySem.Str) = some (.ref fa) := by
      have e : (HandSHeadRun.topDef (OpenLaw.row PySem.Challenge.rw_duepairs_k02_behind_and_room).prog 38).name = ("law" : PySem.Str) := by kernel_rfl
      rw [← e]
      exact hmg0
    obtain ⟨fd, hb, hF⟩ := DP.facts (P := (PySem.Challenge.rw_duepairs_k02_behind_and_room).prog) (w := w) KX G hmg c
    exact ⟨K, fd, DP.spLaw K, KX, hb, fun H a ns hl _ hS => ⟨a, ns, rfl, hS, hl, fun _ => rfl⟩, hF⟩

