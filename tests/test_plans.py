"""Point 7, and listed of point 9: plans, faults, and the hours that come of an order."""

import itertools
import unittest

from common import BIG, JOB, NO_JOBS, NOT_WHOLE, Case, deep, some_jobs
from duepairs.errors import NoHours, NoJob, NoOrder
from duepairs.plans import fault, is_plan, listed

NONE = ([], [], [], [])


def keeps(job, hours):
    """The conditions of point 7, each on its own."""
    frees, dues, needs, rooms = job
    return (all(hours[t] >= free for t, free in enumerate(frees))
            and all(due is None or hours[t] <= due for t, due in enumerate(dues))
            and all(hours[a] < hours[b] for a, b in needs)
            and all(hours.count(h) <= (rooms + [2] * h)[h - 1] for h in hours))


class Examples(unittest.TestCase):
    def test_plans(self):
        job = ([1, 1, 2], [None, 3, 3], [(0, 1), (0, 2)], [2, 1])
        self.assertEqual(
            [is_plan(job, [1, 2, 3]), fault(job, [1, 2, 3]), fault(job, [1, 2, 2]),
             fault(job, [2, 2, 3])],
            [True, None, ("room", 2), ("need", 0, 1)])

    def test_listed(self):
        job = ([1, 1, 2], [None, 3, 3], [(0, 1), (0, 2)], [2, 1])
        self.assertEqual(listed(job, [2, 1, 0]), [1, 3, 2])


class IsPlan(Case):
    def check(self, job, thing, wanted):
        self.assertIs(is_plan(job, thing), wanted, (job, thing))
        self.assertIs(is_plan(job=job, thing=thing), wanted)

    def test_plans(self):
        self.check(JOB, [1, 2, 3], True)
        self.check(JOB, [1, 3, 2], True)
        self.check(JOB, [1, 3, 3], True)
        self.check(NONE, [], True)
        self.check(([1], [None], [], []), [BIG], True)
        self.check(([1], [0], [], []), [1], False)

    def test_each_condition(self):
        self.check(([2], [3], [], []), [1], False)
        self.check(([2], [3], [], []), [2], True)
        self.check(([2], [3], [], []), [3], True)
        self.check(([2], [3], [], []), [4], False)
        self.check(([1, 1], [None, None], [(0, 1)], []), [1, 2], True)
        self.check(([1, 1], [None, None], [(0, 1)], []), [2, 2], False)
        self.check(([1, 1], [None, None], [(0, 1)], []), [3, 2], False)

    def test_room(self):
        for places in range(4):
            for many in range(5):
                job = ([1] * many, [None] * many, [], [2, places])
                self.check(job, [2] * many, many <= places)
                self.check(job, [3] * many, many <= 2)
                self.check(job, [BIG] * many, many <= 2)

    def test_things_that_are_no_hours(self):
        for thing in NOT_WHOLE + [0, 1, -1, BIG, (1, 2, 3), [1, 2], [1, 2, 3, 4], "123", deep(20)]:
            self.check(JOB, thing, False)
        for thing in NOT_WHOLE + [0, -1, -BIG]:
            self.check(JOB, [thing, 2, 3], False)
            self.check(JOB, [1, 2, thing], False)
            self.check(([1], [None], [], []), [thing], False)
        self.check(([1], [None], [], []), [True], False)
        for thing in NOT_WHOLE + [0, [1]]:
            self.check(NONE, thing, thing == [] and isinstance(thing, list))

    def test_no_job(self):
        for thing in NO_JOBS:
            self.raises(NoJob, is_plan, thing, [1, 2, 3])
            self.raises(NoJob, is_plan, thing, None)


class Fault(Case):
    def check(self, job, hours, wanted):
        told = fault(job, hours)
        self.assertEqual(told, wanted, (job, hours))
        self.assertEqual(fault(job=job, hours=hours), wanted)
        self.assertEqual([type(part) for part in told or ()], [type(part) for part in wanted or ()])
        self.assertIs(is_plan(job, hours), wanted is None)

    def test_none(self):
        self.check(NONE, [], None)
        self.check(JOB, [1, 2, 3], None)

    def test_free(self):
        job = ([1, 3, 2], [None] * 3, [], [])
        self.check(job, [1, 2, 2], ("free", 1))
        self.check(job, [1, 3, 1], ("free", 2))
        self.check(job, [1, 1, 1], ("free", 1))
        self.check(job, [1, 3, 2], None)

    def test_due(self):
        job = ([1, 1, 1], [None, 2, 3], [], [])
        self.check(job, [9, 3, 1], ("due", 1))
        self.check(job, [9, 2, 4], ("due", 2))
        self.check(job, [9, 3, 4], ("due", 1))
        self.check(job, [9, 2, 3], None)
        self.check(([1, 1], [0, 0], [], []), [1, 1], ("due", 0))

    def test_need(self):
        job = ([1] * 4, [None] * 4, [(2, 3), (0, 1)], [])
        self.check(job, [1, 1, 1, 1], ("need", 2, 3))
        self.check(job, [1, 1, 1, 2], ("need", 0, 1))
        self.check(job, [2, 1, 4, 3], ("need", 2, 3))
        self.check(job, [1, 2, 2, 2], ("need", 2, 3))
        self.check(job, [1, 2, 1, 2], None)

    def test_room(self):
        job = ([1] * 6, [None] * 6, [], [1, 3, 0])
        self.check(job, [2, 2, 2, 2, 1, 1], ("room", 1))
        self.check(job, [2, 2, 2, 2, 1, 4], ("room", 2))
        self.check(job, [2, 2, 2, 3, 1, 4], ("room", 3))
        self.check(job, [4, 5, 4, 5, 4, 5], ("room", 4))
        self.check(job, [5, 4, 5, 4, 5, 6], ("room", 5))
        self.check(job, [BIG] * 3 + [7] * 3, ("room", 7))
        self.check(job, [BIG] * 3 + [BIG - 1] * 2 + [1], ("room", BIG))
        self.check(job, [2, 2, 2, 1, 4, 4], None)

    def test_which_is_told_first(self):
        job = ([2, 1, 1], [None, 1, None], [(2, 1)], [0, 0, 0])
        self.check(job, [1, 2, 3], ("free", 0))
        self.check(job, [2, 2, 3], ("due", 1))
        self.check(job, [2, 1, 3], ("need", 2, 1))
        self.check(job, [2, 1, 1], ("need", 2, 1))
        self.check(([2, 1, 1], [None, 1, None], [], [0, 0, 0]), [2, 1, 3], ("room", 1))
        self.check(([1, 2], [0, None], [(1, 0)], [0]), [1, 1], ("free", 1))
        self.check(([1, 1], [None, 1], [(0, 1)], [0, 0]), [2, 2], ("due", 1))

    def test_against_all_conditions(self):
        for job in some_jobs(150, 7, most_tasks=3):
            for hours in itertools.product(range(1, 6), repeat=len(job[0])):
                self.assertIs(fault(job, list(hours)) is None, keeps(job, list(hours)))

    def test_no_hours(self):
        for thing in NOT_WHOLE + [0, 1, -1, BIG, (1, 2, 3), [1, 2], [1, 2, 3, 4], "123", deep(20)]:
            self.raises(NoHours, fault, JOB, thing)
        for thing in NOT_WHOLE + [0, -1, -BIG]:
            self.raises(NoHours, fault, JOB, [thing, 2, 3])
            self.raises(NoHours, fault, JOB, [1, 2, thing])
        self.raises(NoHours, fault, NONE, [1])
        self.raises(NoHours, fault, NONE, ())

    def test_no_job(self):
        for thing in NO_JOBS:
            self.raises(NoJob, fault, thing, [1, 2, 3])
            self.raises(NoJob, fault, thing, None)


class Listed(Case):
    def check(self, job, order, wanted):
        self.assertEqual(listed(job, order), wanted, (job, order))
        self.assertEqual(listed(job=job, order=order), wanted)

    def test_orders_of_one_job(self):
        job = ([1] * 4, [None] * 4, [], [])
        self.check(job, [0, 1, 2, 3], [1, 1, 2, 2])
        self.check(job, [3, 1, 2, 0], [2, 1, 2, 1])
        self.check(job, [2, 3, 0, 1], [2, 2, 1, 1])
        self.check(JOB, [0, 1, 2], [1, 2, 3])
        self.check(JOB, [1, 2, 0], [1, 2, 3])
        self.check(JOB, [2, 0, 1], [1, 3, 2])

    def test_no_tasks(self):
        self.check(NONE, [], [])
        self.check(([], [], [], [0, 0]), [], [])

    def test_frees_make_a_task_wait(self):
        self.check(([3, 1], [None, None], [], []), [0, 1], [3, 1])
        self.check(([2, 2, 2, 1], [None] * 4, [], []), [0, 1, 2, 3], [2, 2, 3, 1])
        self.check(([40, 1], [None, None], [], []), [0, 1], [40, 1])

    def test_needs_make_a_task_wait(self):
        job = ([1] * 3, [None] * 3, [(0, 1), (1, 2)], [])
        for order in itertools.permutations(range(3)):
            self.check(job, list(order), [1, 2, 3])
        self.check(([5, 1], [None] * 2, [(0, 1)], []), [1, 0], [5, 6])
        self.check(([1, 5], [None] * 2, [(0, 1)], []), [1, 0], [1, 5])

    def test_a_task_of_two_needs(self):
        job = ([1, 3, 1], [None] * 3, [(0, 2), (1, 2)], [])
        self.check(job, [2, 1, 0], [1, 3, 4])

    def test_hours_with_room_for_0_to_3(self):
        many = [1] * 7
        job = (many, [None] * 7, [], [0, 1, 2, 3])
        self.check(job, [0, 1, 2, 3, 4, 5, 6], [2, 3, 3, 4, 4, 4, 5])
        self.check(job, [6, 5, 4, 3, 2, 1, 0], [5, 4, 4, 4, 3, 3, 2])
        self.check((many, [None] * 7, [], [3, 0, 0, 3]), [0, 1, 2, 3, 4, 5, 6], [1, 1, 1, 4, 4, 4, 5])
        self.check(([1], [None], [], [0] * 20), [0], [21])

    def test_behind_the_rooms_there_are_two(self):
        self.check(([2] * 5, [None] * 5, [], [3]), [0, 1, 2, 3, 4], [2, 2, 3, 3, 4])

    def test_dues_are_not_looked_at(self):
        for dues in itertools.product([None, 0, 1, 2, 9], repeat=3):
            self.check(([1] * 3, list(dues), [], [1]), [1, 0, 2], [2, 1, 2])

    def test_far_frees(self):
        self.check(([BIG, 1, 7], [None] * 3, [(2, 1)], []), [0, 1, 2], [BIG, 8, 7])
        self.check(([BIG] * 3, [None] * 3, [], []), [2, 1, 0], [BIG + 1, BIG, BIG])

    def test_all_but_the_dues_is_kept(self):
        for job in some_jobs(150, 11):
            frees, _, needs, rooms = job
            loose = (frees, [None] * len(frees), needs, rooms)
            for order in itertools.permutations(range(len(frees))):
                self.assertIs(is_plan(loose, listed(job, list(order))), True)

    def test_by_the_hours_of_a_plan_no_task_is_later(self):
        seen = 0
        for job in some_jobs(250, 13):
            tasks = list(range(len(job[0])))
            for hours in itertools.product(range(1, 6), repeat=len(tasks)):
                if is_plan(job, list(hours)):
                    seen += 1
                    told = listed(job, sorted(tasks, key=lambda t: hours[t]))
                    self.assertIs(is_plan(job, told), True)
                    self.assertTrue(all(told[t] <= hours[t] for t in tasks), (job, hours))
        self.assertGreater(seen, 1000)

    def test_hour_by_hour(self):
        for job in some_jobs(150, 17):
            frees, _, needs, rooms = job
            for order in itertools.permutations(range(len(frees))):
                hours = {}
                hour = 0
                while len(hours) < len(frees):
                    hour += 1
                    able = [t for t in order if t not in hours and frees[t] <= hour
                            and all(hours.get(a, hour) < hour for a, b in needs if b == t)]
                    for t in able[:rooms[hour - 1] if hour <= len(rooms) else 2]:
                        hours[t] = hour
                self.assertEqual(listed(job, list(order)), [hours[t] for t in range(len(frees))])

    def test_no_order(self):
        for thing in NOT_WHOLE + [0, 1, -1, BIG, (0, 1, 2), "012", deep(20)]:
            self.raises(NoOrder, listed, JOB, thing)
        for thing in [[0, 1], [0, 1, 2, 2], [0, 1, 2, 3], [0, 1, 1], [2, 2, 2], [1, 2, 3], [-1, 0, 1],
                      [0, 1, BIG], [False, 1, 2], [0, True, 2], [0, 1, None], [0, 1, "2"],
                      [0, 1, [2]], [0, 1, (2,)], [[0, 1, 2]], [0, 1, 2, None]]:
            self.raises(NoOrder, listed, JOB, thing)
        self.raises(NoOrder, listed, NONE, [0])
        self.raises(NoOrder, listed, NONE, ())
        self.raises(NoOrder, listed, NONE, None)

    def test_no_job(self):
        for thing in NO_JOBS:
            self.raises(NoJob, listed, thing, [0, 1, 2])
            self.raises(NoJob, listed, thing, None)


if __name__ == "__main__":
    unittest.main()
