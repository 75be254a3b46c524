"""Point 5: what is a job and what is none."""

import unittest

from common import BIG, JOB, NO_JOBS, NOT_WHOLE, deep
from duepairs.jobs import is_job


class IsJob(unittest.TestCase):
    def check(self, thing, wanted):
        told = is_job(thing)
        self.assertIs(told, wanted, thing)
        self.assertIs(is_job(thing=thing), wanted, thing)

    def test_the_documents_job(self):
        self.check(JOB, True)
        self.check(list(JOB), False)

    def test_no_tasks_and_no_rooms(self):
        self.check(([], [], [], []), True)
        self.check(([], [], [], [2, 0, 3]), True)
        self.check(([1], [None], [], []), True)

    def test_the_same_list_in_several_places(self):
        same = [1, 2]
        self.check((same, same, [], same), True)
        empty = []
        self.check((empty, empty, empty, empty), True)

    def test_things_that_are_no_job(self):
        for thing in NO_JOBS + NOT_WHOLE + [deep(depth) for depth in range(20)]:
            self.check(thing, False)

    def test_tuples_of_other_lengths(self):
        self.check((), False)
        self.check(JOB[:3], False)
        self.check(JOB + ([],), False)
        self.check(JOB + JOB, False)
        self.check((JOB,), False)
        self.check(([], [], []), False)
        self.check(([], [], [], [], []), False)

    def test_parts_of_a_wrong_kind(self):
        for part in range(4):
            for thing in NOT_WHOLE + [0, 1, BIG]:
                if not isinstance(thing, list):
                    for base in [JOB, ([], [], [], [])]:
                        self.check(base[:part] + (thing,) + base[part + 1:], False)
            self.check(JOB[:part] + (tuple(JOB[part]),) + JOB[part + 1:], False)

    def test_parts_of_a_wrong_length(self):
        self.check(([1, 1], [None], [], []), False)
        self.check(([1], [None, None], [], []), False)
        self.check(([], [None], [], []), False)
        self.check(([1], [], [], []), False)

    def test_entries_of_a_wrong_kind(self):
        for thing in NOT_WHOLE:
            self.check(([1, thing], [None, None], [], []), False)
            self.check(([thing, 1], [None, None], [], []), False)
            self.check(([1, 1], [None, None], [], [2, thing]), False)
            self.check(([1, 1], [None, None], [thing], []), False)
            self.check(([1, 1, 1], [None] * 3, [(0, thing)], []), False)
            self.check(([1, 1, 1], [None] * 3, [(thing, 2)], []), False)
            self.check(([1, 1], [1, thing], [], []), thing is None)
            self.check(([1, 1], [thing, 1], [], []), thing is None)

    def test_frees_begin_with_1(self):
        for free in [1, 2, 40, BIG]:
            self.check(([free], [None], [], []), True)
        for free in [0, -1, -BIG]:
            self.check(([free], [None], [], []), False)
            self.check(([1, free, 1], [None] * 3, [], []), False)

    def test_dues_begin_with_0(self):
        for due in [None, 0, 1, 40, BIG]:
            self.check(([1], [due], [], []), True)
        for due in [-1, -2, -BIG]:
            self.check(([1], [due], [], []), False)
            self.check(([1, 1, 1], [None, due, 0], [], []), False)

    def test_rooms_are_from_0_to_3(self):
        for places in [0, 1, 2, 3]:
            self.check(([1], [1], [], [places]), True)
        for places in [-1, 4, -BIG, BIG]:
            self.check(([1], [1], [], [places]), False)
            self.check(([1], [1], [], [2, places, 2]), False)


class Needs(unittest.TestCase):
    def check(self, many, needs, wanted):
        self.assertIs(is_job(([1] * many, [None] * many, needs, [])), wanted, needs)

    def test_tuples_of_two_tasks(self):
        self.check(2, [(0, 1)], True)
        self.check(2, [(1, 0)], True)
        self.check(2, [[0, 1]], False)
        self.check(2, [(0, 1), [0, 1]], False)
        self.check(2, [(0,)], False)
        self.check(2, [()], False)
        self.check(3, [(0, 1, 2)], False)
        self.check(3, [0, 1], False)
        self.check(3, ["01"], False)
        self.check(3, [(0, (1, 2))], False)
        self.check(3, [((0, 1),)], False)

    def test_needs_that_name_no_task(self):
        for pair in [(0, 2), (2, 0), (-1, 0), (0, -1), (0, BIG), (-BIG, 1), (2, 3)]:
            self.check(2, [pair], False)
            self.check(2, [(0, 1), pair], False)
        self.check(0, [(0, 1)], False)
        self.check(1, [(0, 1)], False)

    def test_true_and_false_are_no_tasks(self):
        for pair in [(False, 1), (0, True), (True, 0), (1, False)]:
            self.check(2, [pair], False)

    def test_a_task_does_not_need_itself(self):
        self.check(1, [(0, 0)], False)
        self.check(2, [(0, 1), (1, 1)], False)

    def test_no_need_stands_twice(self):
        self.check(2, [(0, 1), (0, 1)], False)
        self.check(3, [(0, 1), (1, 2), (0, 1)], False)
        self.check(3, [(0, 1), (1, 2), (0, 2)], True)

    def test_rings(self):
        for many in range(2, 12):
            row = [(t, t + 1) for t in range(many - 1)]
            self.check(many, row, True)
            self.check(many, row + [(many - 1, 0)], False)
            self.check(many, [(many - 1, 0)] + row[::-1], False)
            self.check(many + 2, row + [(many - 1, 0)], False)

    def test_rings_among_other_needs(self):
        self.check(4, [(0, 1), (1, 2), (2, 1), (2, 3)], False)
        self.check(5, [(0, 1), (1, 2), (2, 3), (3, 1), (3, 4)], False)
        self.check(6, [(0, 1), (3, 4), (4, 5), (5, 3)], False)
        self.check(4, [(0, 1), (0, 2), (1, 3), (2, 3), (0, 3)], True)
        self.check(4, [(3, 2), (2, 1), (1, 0), (3, 0), (2, 0), (3, 1)], True)


if __name__ == "__main__":
    unittest.main()
