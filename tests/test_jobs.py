"""Points 5 and 6: what the functions of duepairs.jobs tell of a job, and their errors."""

import copy
import itertools
import unittest

from common import BIG, JOB, NO_JOBS, NOT_WHOLE, Case, some_jobs
from duepairs.errors import NoHour, NoJob, NoTask
from duepairs.jobs import is_behind, is_job, is_narrow, room, with_due, with_free

NO_TASKS = NOT_WHOLE + [-1, 3, 4, BIG, -BIG]


class Example(unittest.TestCase):
    def test_the_documents_example(self):
        job = ([1, 1, 2], [None, 3, 3], [(0, 1), (0, 2)], [2, 1])
        self.assertEqual(
            [is_job(job), is_job(list(job)), is_narrow(job), is_behind(job, 0, 2), room(job, 1, 3)],
            [True, False, True, True, 5])


class IsNarrow(Case):
    def test_jobs(self):
        for rooms, wanted in [([], True), ([0, 1, 2], True), ([3], False), ([2, 2, 3], False),
                              ([3, 0], False), ([2] * 20, True)]:
            for frees in [[], [1, 3]]:
                job = (frees, [None] * len(frees), [], rooms)
                self.assertIs(is_narrow(job), wanted)
                self.assertIs(is_narrow(job=job), wanted)

    def test_only_rooms_count(self):
        self.assertIs(is_narrow(([3] * 4, [3] * 4, [(3, 0)], [2])), True)

    def test_no_job(self):
        for thing in NO_JOBS:
            self.raises(NoJob, is_narrow, thing)


class IsBehind(Case):
    row = ([1] * 6, [None] * 6, [(0, 1), (1, 2), (2, 3), (4, 3)], [])

    def test_by_one_need(self):
        self.assertIs(is_behind(self.row, 0, 1), True)
        self.assertIs(is_behind(self.row, 4, 3), True)

    def test_by_several_needs(self):
        self.assertIs(is_behind(self.row, 0, 2), True)
        self.assertIs(is_behind(self.row, 0, 3), True)
        self.assertIs(is_behind(job=self.row, a=1, b=3), True)

    def test_not_the_other_way_about(self):
        for a, b in [(1, 0), (2, 0), (3, 0), (3, 1), (3, 4)]:
            self.assertIs(is_behind(self.row, a, b), False)

    def test_unrelated_tasks(self):
        for a, b in [(0, 4), (4, 0), (0, 5), (5, 0), (4, 2), (3, 5)]:
            self.assertIs(is_behind(self.row, a, b), False)

    def test_a_task_is_not_behind_itself(self):
        for t in range(6):
            self.assertIs(is_behind(self.row, t, t), False)

    def test_needs_in_any_order(self):
        for needs in itertools.permutations([(2, 0), (0, 3), (3, 1)]):
            job = ([1] * 4, [None] * 4, list(needs), [])
            found = [(a, b) for a in range(4) for b in range(4) if is_behind(job, a, b)]
            self.assertEqual(found, [(0, 1), (0, 3), (2, 0), (2, 1), (2, 3), (3, 1)])

    def test_as_the_document_defines_it(self):
        for job in some_jobs(200, 5, most_tasks=6):
            tasks = range(len(job[0]))
            far = set(job[2])
            for middle in tasks:
                far |= {(a, b) for a in tasks for b in tasks if {(a, middle), (middle, b)} <= far}
            for a in tasks:
                for b in tasks:
                    self.assertIs(is_behind(job, a, b), (a, b) in far)

    def test_errors(self):
        for thing in NO_TASKS:
            self.raises(NoTask, is_behind, JOB, thing, 0)
            self.raises(NoTask, is_behind, JOB, 0, thing)
            self.raises(NoTask, is_behind, JOB, thing, thing)
        self.raises(NoTask, is_behind, ([], [], [], []), 0, 0)
        for thing in NO_JOBS:
            self.raises(NoJob, is_behind, thing, 0, 1)
            self.raises(NoJob, is_behind, thing, None, "x")


class Room(Case):
    def check(self, rooms, s, e, wanted):
        job = ([1], [None], [], rooms)
        told = room(job, s, e)
        self.assertEqual(told, wanted, (rooms, s, e))
        self.assertIs(type(told), int)
        self.assertEqual(room(job=job, s=s, e=e), wanted)

    def test_within_the_list(self):
        self.check([2, 1, 0, 3], 1, 4, 6)
        self.check([2, 1, 0, 3], 2, 3, 1)
        self.check([2, 1, 0, 3], 3, 3, 0)
        self.check([2, 1, 0, 3], 4, 4, 3)

    def test_over_its_end(self):
        self.check([2, 1], 1, 3, 5)
        self.check([0, 1], 2, 3, 3)
        self.check([0, 1], 2, 5, 7)

    def test_behind_it(self):
        self.check([0, 1], 3, 3, 2)
        self.check([0, 1], 4, 6, 6)
        self.check([3, 3], 5, 5, 2)
        self.check([], 1, 1, 2)
        self.check([], 1, 7, 14)

    def test_far_behind_it(self):
        self.check([0, 1], 1, BIG, 2 * (BIG - 2) + 1)
        self.check([3], BIG - 4, BIG, 10)
        self.check([3], BIG, BIG, 2)
        self.check([], 10 ** 29, BIG, 2 * (BIG - 10 ** 29 + 1))

    def test_an_end_before_the_beginning(self):
        for e in [0, -1, -2, -3, -BIG]:
            for s in [1, 2, 3, 4, 5, BIG]:
                self.check([3, 2, 1], s, e, 0)
                self.check([], s, e, 0)
        self.check([3, 2, 1], 3, 2, 0)
        self.check([3, 2, 1], 2, 1, 0)
        self.check([3, 2, 1], 9, 8, 0)
        self.check([3, 2, 1], 9, 1, 0)
        self.check([3, 2, 1], BIG, BIG - 1, 0)
        self.check([3, 2, 1], BIG, 1, 0)

    def test_hour_by_hour(self):
        rooms = [1, 3, 0, 2, 1]
        for s in range(1, 10):
            for e in range(-3, 12):
                each = [rooms[h - 1] if h <= 5 else 2 for h in range(s, e + 1)]
                self.check(rooms, s, e, sum(each))

    def test_errors(self):
        for thing in NOT_WHOLE:
            self.raises(NoHour, room, JOB, thing, 2)
            self.raises(NoHour, room, JOB, 1, thing)
            self.raises(NoHour, room, JOB, 5, thing)
        for s in [0, -1, -BIG]:
            for e in [-BIG, -2, 0, 1, 5, BIG]:
                self.raises(NoHour, room, JOB, s, e)
        for thing in NO_JOBS:
            self.raises(NoJob, room, thing, 1, 2)
            self.raises(NoJob, room, thing, 0, None)


class WithFree(Case):
    def test_a_greater_one_is_set(self):
        self.assertEqual(with_free(JOB, 0, 2), ([2, 1, 2], [None, 3, 3], [(0, 1), (0, 2)], [2, 1]))
        self.assertEqual(with_free(JOB, 2, 3)[0], [1, 1, 3])
        self.assertEqual(with_free(JOB, 1, BIG)[0], [1, BIG, 2])
        self.assertEqual(with_free(job=JOB, t=1, f=4)[0], [1, 4, 2])

    def test_others_change_nothing(self):
        for t, f in [(0, 1), (2, 1), (2, 2)]:
            self.assertEqual(with_free(JOB, t, f), JOB)

    def test_it_is_a_job(self):
        self.assertIs(is_job(with_free(JOB, 2, 9)), True)

    def test_errors(self):
        for thing in NO_TASKS:
            self.raises(NoTask, with_free, JOB, thing, 2)
            self.raises(NoTask, with_free, JOB, thing, 0)
            self.raises(NoTask, with_free, JOB, thing, None)
        for thing in NOT_WHOLE + [0, -1, -BIG]:
            self.raises(NoHour, with_free, JOB, 0, thing)
        self.raises(NoTask, with_free, ([], [], [], []), 0, 1)
        for thing in NO_JOBS:
            self.raises(NoJob, with_free, thing, 0, 1)
            self.raises(NoJob, with_free, thing, None, 0)


class WithDue(Case):
    def test_a_lesser_one_is_set(self):
        self.assertEqual(with_due(JOB, 1, 2), ([1, 1, 2], [None, 2, 3], [(0, 1), (0, 2)], [2, 1]))
        self.assertEqual(with_due(JOB, 2, 0)[1], [None, 3, 0])
        self.assertEqual(with_due(job=JOB, t=2, d=1)[1], [None, 3, 1])

    def test_a_number_where_there_is_none(self):
        for d in [0, 1, 7, BIG]:
            self.assertEqual(with_due(JOB, 0, d), ([1, 1, 2], [d, 3, 3], [(0, 1), (0, 2)], [2, 1]))

    def test_others_change_nothing(self):
        for t, d in [(1, 3), (1, 4), (2, BIG)]:
            self.assertEqual(with_due(JOB, t, d), JOB)
        self.assertEqual(with_due(([1], [0], [], []), 0, 0), ([1], [0], [], []))
        self.assertEqual(with_due(([1], [0], [], []), 0, 1), ([1], [0], [], []))

    def test_it_is_a_job(self):
        self.assertIs(is_job(with_due(JOB, 0, 0)), True)

    def test_errors(self):
        for thing in NO_TASKS:
            self.raises(NoTask, with_due, JOB, thing, 2)
            self.raises(NoTask, with_due, JOB, thing, -1)
            self.raises(NoTask, with_due, JOB, thing, None)
        for thing in NOT_WHOLE + [-1, -BIG]:
            for t in [0, 1]:
                self.raises(NoHour, with_due, JOB, t, thing)
        self.raises(NoTask, with_due, ([], [], [], []), 0, 1)
        for thing in NO_JOBS:
            self.raises(NoJob, with_due, thing, 0, 1)
            self.raises(NoJob, with_due, thing, None, -1)


class NoJobSeen(Case):
    def test_is_job_never_raises_nor_changes(self):
        for thing in NO_JOBS + [JOB]:
            before = copy.deepcopy(thing)
            is_job(thing)
            self.assertEqual(repr(thing), repr(before))


if __name__ == "__main__":
    unittest.main()
