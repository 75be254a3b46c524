"""Points 9 and 10: settle, closed and lines_for."""

import itertools
import unittest

from common import (BIG, JOB, NEITHER, NO_JOBS, NOT_WHOLE, SEARCHED, WIDE, Case, broad_jobs, busy_jobs,
                    deep, some_jobs)
from duepairs.errors import NoJob, NoStatement
from duepairs.jobs import is_narrow
from duepairs.lines import are_right, judge
from duepairs.plans import is_plan, listed
from duepairs.settling import closed, lines_for, settle
from duepairs.trees import is_tree
from second import ends_in_none, led_to, reads_as_tree, reads_right, some_plan

NONE = ("none",)
FORK = ([1, 1, 1], [None, 3, 3], [(0, 1), (0, 2)], [2, 2, 1])
THREE = ([1, 1, 1], [1, 1, 1], [], [])


def derivations_within(tree):
    if isinstance(tree, list):
        return [tree]
    return derivations_within(tree[2]) + derivations_within(tree[3])


class Examples(unittest.TestCase):
    def test_the_documents_examples(self):
        self.assertEqual(closed(FORK), ([1, 2, 2], [1, 3, 3]))
        self.assertEqual(settle(FORK)[0], "plan")
        self.assertEqual(settle(THREE)[0], "none")
        self.assertEqual(
            [settle(WIDE)[0], closed(WIDE), lines_for(WIDE, ("none",)), is_tree(WIDE, settle(WIDE)[1])],
            ["none", ([1, 1, 2, 2], [2, 2, 3, 3]), None, True])


class Settle(Case):
    def check(self, job):
        """What settle tells of the job is right; returned is "plan", "lines" or "tree"."""
        told = settle(job)
        self.assertEqual(settle(job=job), told)
        self.assertIs(type(told), tuple)
        word, thing = told
        if word == "plan":
            self.assertIs(is_plan(job, thing), True, job)
            self.assertIsNotNone(closed(job))
            return "plan"
        self.assertEqual(word, "none")
        self.assertIs(is_tree(job, thing), True, job)
        self.assertIs(reads_as_tree(job, thing), True, job)
        for lines in derivations_within(thing):
            self.assertLessEqual(len(lines), 2000)
        # It is a derivation just if the job has one.
        self.assertIs(closed(job) is None, isinstance(thing, list), job)
        self.assertIs(judge(job, thing), isinstance(thing, list), job)
        return "lines" if isinstance(thing, list) else "tree"

    def test_without_tasks(self):
        for rooms in [[], [0, 0], [3]]:
            self.assertEqual(settle(([], [], [], rooms)), ("plan", []))

    def test_one_task(self):
        for free, due, rooms in itertools.product([1, 2, 3], [None, 0, 1, 2, 3], [[], [0, 0], [0, 3], [1, 0, 0]]):
            job = ([free], [due], [], rooms)
            self.assertEqual(self.check(job) == "plan", some_plan(job) is not None, job)

    def test_rooms_of_0_to_3(self):
        for places in range(4):
            for many in range(1, 6):
                job = ([2] * many, [2] * many, [], [3, places])
                self.assertEqual(self.check(job), "plan" if many <= places else "lines")

    def test_needs(self):
        for many in range(1, 7):
            row = [(t, t + 1) for t in range(many - 1)]
            for due in range(many + 2):
                job = ([1] * many, [None] * (many - 1) + [due], row, [])
                self.assertEqual(self.check(job), "plan" if due >= many else "lines")

    def test_narrow_jobs_of_all_sizes(self):
        told = []
        for job in broad_jobs(400, 41, 2) + busy_jobs(300, 43, 6, 12, most_room=2):
            self.assertIs(is_narrow(job), True)
            told.append(self.check(job))
        self.assertGreater(told.count("plan"), 100)
        self.assertGreater(told.count("lines"), 100)
        self.assertEqual(told.count("tree"), 0)

    def test_jobs_with_room_for_three_of_all_sizes(self):
        told = [self.check(job) for job in broad_jobs(400, 47, 3) + busy_jobs(400, 53, 4, 9)]
        self.assertGreater(told.count("plan"), 100)
        self.assertGreater(told.count("lines"), 100)

    def test_small_jobs_against_going_through_all(self):
        told = []
        for job in some_jobs(500, 59, most_tasks=5) + busy_jobs(700, 61, 2, 6) + busy_jobs(300, 67, 2, 6, most_room=2):
            told.append(self.check(job))
            self.assertIs(told[-1] == "plan", some_plan(job) is not None, job)
        self.assertGreater(told.count("plan"), 300)
        self.assertGreater(told.count("lines"), 300)

    def test_every_small_job(self):
        # All jobs of three tasks with these entries.
        for frees, dues, rooms in itertools.product([[1, 1, 1], [1, 2, 1]], itertools.product([None, 1, 2], repeat=3),
                                                    itertools.product([0, 1, 2, 3], repeat=2)):
            for needs in [[], [(0, 1)], [(2, 1)], [(0, 1), (0, 2)], [(1, 0), (2, 0)], [(0, 1), (1, 2)]]:
                job = (frees, list(dues), needs, list(rooms))
                self.assertIs(self.check(job) == "plan", some_plan(job) is not None, job)

    def test_jobs_with_neither(self):
        for job in NEITHER:
            self.assertIsNone(some_plan(job))
            self.assertIsNotNone(led_to(job))
            self.assertEqual(self.check(job), "tree")

    def test_jobs_with_neither_by_one_more_hour(self):
        told = []
        for frees, dues, needs, rooms in NEITHER:
            for t in range(len(frees)):
                for step in [-1, 1]:
                    other = [due + step if at == t and due is not None else due for at, due in enumerate(dues)]
                    job = (frees, other, needs, rooms)
                    told.append(self.check(job))
                    self.assertIs(told[-1] == "plan", some_plan(job) is not None, job)
        self.assertEqual(sorted(set(told)), ["lines", "plan", "tree"])

    def test_jobs_with_neither_have_a_plan_with_three_everywhere(self):
        for frees, dues, needs, rooms in NEITHER:
            job = (frees, dues, needs, [3] * 20)
            self.assertIs(self.check(job) == "plan", some_plan(job) is not None, job)

    def test_a_plan_that_must_be_searched(self):
        for job in SEARCHED:
            frees, dues = closed(job)
            order = sorted(range(len(frees)), key=lambda t: (dues[t] is None, dues[t]))
            self.assertIs(is_plan(job, listed(job, order)), False)
            self.assertEqual(self.check(job), "plan")

    def test_two_reasons_without_a_plan(self):
        # The job with neither stands beside other tasks, with dues of their own.
        frees, dues, needs, rooms = WIDE
        for due, word in [(None, "tree"), (7, "tree"), (6, "lines")]:
            job = (frees + [6, 6, 6], dues + [due] * 3, needs, rooms)
            self.assertEqual(self.check(job), word)
        job = (frees + [1] * 5, dues + [None, 9, 20, 30, 40], needs + [(4, 5), (6, 7)], rooms)
        self.assertEqual(self.check(job), "tree")

    def test_no_job(self):
        for thing in NO_JOBS:
            self.raises(NoJob, settle, thing)


class ListedByDues(unittest.TestCase):
    def test_every_order_by_the_dues_of_closed_is_a_plan(self):
        seen = 0
        for job in busy_jobs(400, 71, 3, 6, most_room=2) + some_jobs(200, 73, most_room=2):
            told = closed(job)
            if told is not None:
                tasks = range(len(job[0]))
                places = [BIG if due is None else due for due in told[1]]
                for order in itertools.permutations(tasks):
                    if all(places[a] <= places[b] for a, b in zip(order, order[1:])):
                        seen += 1
                        self.assertIs(is_plan(job, listed(job, list(order))), True, (job, order))
        self.assertGreater(seen, 500)


class Closed(Case):
    def check(self, job, wanted):
        self.assertEqual(closed(job), wanted, job)
        self.assertEqual(closed(job=job), wanted, job)

    def test_frees_by_needs(self):
        self.check(([1, 1, 1], [None] * 3, [(0, 1), (1, 2)], []), ([1, 2, 3], [None] * 3))
        self.check(([4, 1, 1], [None] * 3, [(0, 2), (1, 2)], []), ([4, 1, 5], [None] * 3))
        self.check(([1, 3, 4], [None] * 3, [(0, 2), (1, 2)], []), ([1, 3, 4], [None] * 3))
        self.check(([1, 3, 5], [None] * 3, [(0, 2), (1, 2)], []), ([1, 3, 5], [None] * 3))

    def test_dues_by_needs(self):
        self.check(([1, 1, 1], [None, None, 5], [(0, 1), (1, 2)], []), ([1, 2, 3], [3, 4, 5]))
        self.check(([1, 1, 1], [2, None, 5], [(0, 1), (1, 2)], []), ([1, 2, 3], [2, 4, 5]))
        self.check(([1, 1, 1], [9, 9, 5], [(0, 1), (1, 2)], []), ([1, 2, 3], [3, 4, 5]))

    def test_dues_by_room(self):
        for rooms, due in [([2] * 5, 4), ([2] * 4 + [1], 3), ([2, 2, 2, 1, 1], 3), ([2, 2, 2, 0, 1], 2),
                           ([2, 2, 1, 0, 0], 1), ([2, 1, 0, 0, 0], None), ([3] * 5, 4), ([0] * 5, None)]:
            job = ([1, 1, 1], [None, 5, 5], [(0, 1), (0, 2)], rooms)
            self.check(job, None if due is None else ([1, 2, 2], [due, 5, 5]))

    def test_dues_by_tasks_that_are_not_behind(self):
        # Hours 4 and 5 are full of the tasks 2 to 5, so 1 must be done in hour 3, and 0 in 2.
        job = ([1, 1, 4, 4, 4, 4], [None, 5, 5, 5, 5, 5], [(0, 1)], [])
        self.check(job, ([1, 2, 4, 4, 4, 4], [2, 5, 5, 5, 5, 5]))
        job = ([1, 1, 4, 4, 4], [None, 5, 5, 5, 5], [(0, 1)], [])
        self.check(job, ([1, 2, 4, 4, 4], [4, 5, 5, 5, 5]))

    def test_no_dues(self):
        self.check(([], [], [], []), ([], []))
        self.check(([3, 2], [None, None], [], [0] * 9), ([3, 2], [None, None]))

    def test_rooms_make_no_frees(self):
        self.check(([1], [9], [], [0, 0, 0]), ([1], [9]))

    def test_none(self):
        self.check(([1], [0], [], []), None)
        self.check(([4], [3], [], []), None)
        self.check(([1, 1], [None, 1], [(0, 1)], []), None)
        self.check(([1, 1, 1], [1, 1, 1], [], []), None)
        self.check(([1, 1, 1], [1, 1, 1], [], [3]), ([1, 1, 1], [1, 1, 1]))
        self.check(([2], [2], [], [1, 0]), None)

    def test_against_going_round(self):
        seen = 0
        for job in some_jobs(500, 79, most_tasks=6) + busy_jobs(500, 83, 3, 8) + broad_jobs(30, 89, 2) + NEITHER:
            wanted = led_to(job)
            seen += wanted is None
            self.check(job, wanted)
        self.assertGreater(seen, 200)

    def test_all_plans_keep_it(self):
        for job in some_jobs(300, 97, most_tasks=3):
            told = closed(job)
            hours_of = range(1, 7)
            for hours in itertools.product(hours_of, repeat=len(job[0])):
                if is_plan(job, list(hours)):
                    frees, dues = told
                    self.assertTrue(all(free <= hour for free, hour in zip(frees, hours)))
                    self.assertTrue(all(due is None or due >= hour for due, hour in zip(dues, hours)))

    def test_no_job(self):
        for thing in NO_JOBS:
            self.raises(NoJob, closed, thing)


class LinesFor(Case):
    def check(self, job, statement, wanted):
        lines = lines_for(job, statement)
        self.assertEqual(lines_for(job=job, statement=statement), lines)
        if not wanted:
            self.assertIsNone(lines, (job, statement))
            return
        self.assertIs(type(lines), list, (job, statement))
        self.assertIs(are_right(job, lines), True, (job, statement))
        self.assertIs(reads_right(job, lines), True, (job, statement))
        self.assertEqual(lines[-1][0], statement)

    def check_all(self, job):
        """Lines for a statement are there just where the hours that all lines lead to say so."""
        told = led_to(job)
        self.check(job, NONE, told is None)
        for t in range(len(job[0])):
            for hour in [-BIG, -1, 0, 1, 2, 3, 4, 5, 6, 7, 8, 20, 40, BIG]:
                free = told is None or hour <= told[0][t]
                due = told is None or told[1][t] is not None and told[1][t] <= hour
                self.check(job, ("free", t, hour), free)
                self.check(job, ("due", t, hour), due)

    def test_the_documents_jobs(self):
        for job in [FORK, THREE, WIDE, JOB]:
            self.check_all(job)
        self.check(([], [], [], []), NONE, False)

    def test_at_the_bounds(self):
        for hour in range(-3, 9):
            self.check(FORK, ("free", 0, hour), hour <= 1)
            self.check(FORK, ("free", 2, hour), hour <= 2)
            self.check(FORK, ("due", 0, hour), hour >= 1)
            self.check(FORK, ("due", 2, hour), hour >= 3)
            self.check(JOB, ("due", 0, hour), hour >= 2)
        for hour in [-BIG, 0, 1, 40, BIG]:
            self.check(([1], [None], [], []), ("due", 0, hour), False)

    def test_small_jobs(self):
        for job in some_jobs(60, 101) + busy_jobs(60, 103, 3, 6) + NEITHER[:5]:
            self.check_all(job)

    def test_against_closed(self):
        for job in broad_jobs(60, 107, 2) + broad_jobs(60, 109, 3) + NEITHER:
            told = closed(job)
            self.check(job, NONE, told is None)
            for t in range(len(job[0])):
                if told is None:
                    self.check(job, ("free", t, 99), True)
                    self.check(job, ("due", t, -99), True)
                    continue
                free, due = told[0][t], told[1][t]
                for step in [-2, -1, 0, 1]:
                    self.check(job, ("free", t, free + step), step <= 0)
                    self.check(job, ("due", t, (40 if due is None else due) - step), step <= 0 and due is not None)

    def test_lines_that_there_is_no_plan_are_a_derivation(self):
        seen = 0
        for job in busy_jobs(100, 113, 3, 8):
            lines = lines_for(job, NONE)
            self.assertIs(lines is None, closed(job) is not None)
            if lines is not None:
                seen += 1
                self.assertIs(judge(job, lines), True)
                self.assertIs(ends_in_none(job, lines), True)
        self.assertGreater(seen, 20)

    def test_no_statement(self):
        wrong = NOT_WHOLE + [0, 1, BIG, "none", "free", ["none"], ["free", 0, 1], ("None",), ("free",), ("none", 0),
                             ("free", 0), ("free", 0, 1, 2), ("none", 0, 1), ("later", 0, 1), (None, 0, 1),
                             (["free"], 0, 1), (("none",),), (0,), deep(20)]
        for word in ["free", "due"]:
            wrong += [(word, thing, 1) for thing in NOT_WHOLE + [-1, 3, BIG]]
            wrong += [(word, 0, thing) for thing in NOT_WHOLE]
        for thing in wrong:
            # FORK has a plan and THREE a derivation, which would do for any statement.
            for job in [FORK, THREE, ([], [], [], [])]:
                self.raises(NoStatement, lines_for, job, thing)
        self.raises(NoStatement, lines_for, WIDE, ("free", 4, 1))
        self.raises(NoStatement, lines_for, WIDE, ("due", True, 1))
        self.raises(NoStatement, lines_for, ([], [], [], []), ("free", 0, 1))

    def test_no_job(self):
        for thing in NO_JOBS:
            for statement in [NONE, ("free", 0, 1), None, "none"]:
                self.raises(NoJob, lines_for, thing, statement)


if __name__ == "__main__":
    unittest.main()
