"""Point 14: all_plans and all_inside."""

import inspect
import itertools
import time
import unittest

from common import BIG, JOB, NO_JOBS, NOT_WHOLE, Case, broad_jobs, busy_jobs, deep, some_jobs
from duepairs.errors import NoHour, NoJob, NotNarrow, Unlike
from duepairs.jobs import with_due
from duepairs.listing import all_inside, all_plans
from duepairs.plans import is_plan
from duepairs.settling import settle
from plain import horizon, plans_until

EMPTY = ([], [], [], [])
FREE = ([1], [None], [], [])
WIDE = ([1, 1], [None, 3], [], [2, 3])
THREE = ([1, 1, 1], [1, 1, 1], [], [])


def told_plans(job, last):
    return list(all_plans(job, last))


def firsts(job, last, many):
    return list(itertools.islice(all_plans(job, last), many))


class AllPlans(Case):
    def check(self, job, last, wanted):
        self.assertEqual(told_plans(job, last), wanted, (job, last))
        self.assertEqual(list(all_plans(last=last, job=job)), wanted)

    def test_the_documents_example(self):
        self.check(([1, 1], [None, None], [(0, 1)], []), 3, [[1, 2], [1, 3], [2, 3]])

    def test_it_is_a_generator(self):
        self.assertIs(inspect.isgeneratorfunction(all_plans), True)
        self.assertEqual(all_plans.__module__, "duepairs.listing")

    def test_no_tasks(self):
        for last in [0, 1, 40, BIG]:
            self.check(EMPTY, last, [[]])
            self.check(([], [], [], [0, 2]), last, [[]])

    def test_a_last_hour_of_0(self):
        for job in [FREE, JOB, THREE, ([1], [0], [], [])]:
            self.check(job, 0, [])

    def test_one_task(self):
        self.check(FREE, 3, [[1], [2], [3]])
        self.check(([2], [None], [], []), 1, [])
        self.check(([2], [None], [], []), 2, [[2]])
        self.check(([2], [4], [], []), 9, [[2], [3], [4]])
        self.check(([1], [None], [], [0, 1, 0]), 4, [[2], [4]])
        self.check(([1], [5], [], [0, 1, 0]), BIG, [[2], [4], [5]])

    def test_room(self):
        self.check(([1] * 3, [None] * 3, [], [1, 2]), 2, [[1, 2, 2], [2, 1, 2], [2, 2, 1]])
        self.check(([1] * 3, [None] * 3, [], []), 1, [])
        self.check(([1] * 2, [None] * 2, [], [1, 1]), 2, [[1, 2], [2, 1]])

    def test_needs_both_ways(self):
        self.check(([1] * 3, [None] * 3, [(2, 0), (0, 1)], []), 4, [[2, 3, 1], [2, 4, 1], [3, 4, 1], [3, 4, 2]])

    def test_without_a_plan(self):
        for last in [0, 1, 5, 40]:
            self.check(THREE, last, [])
            self.check(([1], [0], [], []), last, [])

    def test_they_go_up_as_lists_do(self):
        plans = told_plans(([1] * 2, [None] * 2, [], []), 12)
        self.assertEqual(plans, [[a, b] for a in range(1, 13) for b in range(1, 13)])

    def test_small_jobs_against_going_through_all(self):
        seen = []
        for job in some_jobs(150, 251, most_room=2) + busy_jobs(150, 253, 2, 5, most_room=2):
            for last in [1, 3, 5]:
                wanted = plans_until(job, last)
                self.check(job, last, wanted)
                seen.append(len(wanted))
        self.assertGreater(seen.count(0), 50)
        self.assertGreater(len([many for many in seen if many > 20]), 20)

    def test_the_plans_to_the_horizon(self):
        for job in some_jobs(60, 257, most_tasks=3, most_room=2):
            self.check(job, horizon(job), plans_until(job, horizon(job)))

    def test_larger_jobs(self):
        full = 0
        for job in broad_jobs(60, 263, 2) + busy_jobs(60, 269, 6, 12, most_room=2):
            plans = firsts(job, 12, 40)
            self.assertTrue(all(is_plan(job, hours) and max(hours) <= 12 for hours in plans))
            self.assertTrue(all(one < two for one, two in zip(plans, plans[1:])))
            ended = job
            for t in range(len(job[0])):
                ended = with_due(ended, t, 12)
            self.assertIs(len(plans) > 0, settle(ended)[0] == "plan")
            full += len(plans) == 40
        self.assertGreater(full, 5)

    def test_tight_jobs_of_12_tasks(self):
        # Two tasks in each of six hours, in every way: 12! / 2 ** 6 plans.
        job = ([1] * 12, [6] * 12, [], [])
        plans = firsts(job, 12, 2000)
        self.assertEqual(plans[0], [1, 1, 2, 2, 3, 3, 4, 4, 5, 5, 6, 6])
        self.assertEqual(plans, sorted(plans))
        self.assertEqual(len(set(map(tuple, plans))), 2000)
        row = ([1] * 12, [12] * 12, [(t, t + 1) for t in range(11)], [1] * 12)
        self.check(row, 12, [list(range(1, 13))])

    def test_each_next_one_is_prompt(self):
        jobs = [([1] * 6, [None] * 6, [], []), ([1] * 6, [40] * 6, [(5, t) for t in range(5)], [0] * 20),
                ([1] * 6, [None] * 5 + [1], [(t + 1, t) for t in range(5)], [0, 1] * 10)]
        longest = 0
        for job, last in [(job, 40) for job in jobs] + [(job, 12) for job in busy_jobs(40, 271, 9, 12, most_room=2)]:
            begun = time.perf_counter()
            plans = all_plans(job, last)
            for hours in itertools.islice(plans, 300):
                longest = max(longest, time.perf_counter() - begun)
                begun = time.perf_counter()
            longest = max(longest, time.perf_counter() - begun)
        self.assertLess(longest, 3)


class Lists(Case):
    def test_each_plan_is_a_list_of_its_own(self):
        plans = told_plans(([1] * 3, [None] * 3, [], []), 3)
        self.assertEqual(len({id(hours) for hours in plans}), len(plans))
        self.assertTrue(all(type(hours) is list for hours in plans))

    def test_changing_a_yielded_list_changes_no_later_one(self):
        job = ([1] * 4, [None] * 4, [(1, 3)], [1])
        wanted = told_plans(job, 4)
        told = []
        for hours in all_plans(job, 4):
            told.append(list(hours))
            hours[:] = [99] * 5
        self.assertEqual(told, wanted)
        for hours in all_plans(EMPTY, 4):
            hours.append(1)
        self.assertEqual(told_plans(EMPTY, 4), [[]])

    def test_arguments_are_taken_when_iteration_begins(self):
        job = ([1, 1], [None, None], [], [])
        plans = all_plans(job, 2)
        job[0][0] = 2
        job[3].append(1)
        self.assertEqual(next(plans), [2, 1])
        job[0][1] = 9
        job[1][0] = 1
        job[2].append((0, 1))
        job[3][:] = [0, 0, 0]
        self.assertEqual(list(plans), [[2, 2]])
        self.assertEqual(told_plans(job, 20), [])

    def test_what_is_changed_between_two_plans_has_no_effect(self):
        given = ([1, 1, 1], [None, 4, None], [(0, 1)], [1, 2, 1])
        wanted = told_plans(given, 4)
        for step in range(len(wanted)):
            job = tuple([list(part) for part in given])
            plans = all_plans(job, 4)
            begun = list(itertools.islice(plans, step + 1))
            job[0][:] = [2, 3, 3]
            job[1][:] = [2, 2, None]
            job[2].append((2, 1))
            job[3][:] = [2, 2, 0, 0, 1]
            self.assertEqual(begun + list(plans), wanted)

    def test_a_job_that_becomes_none(self):
        job = ([1], [None], [], [])
        plans = all_plans(job, 2)
        self.assertEqual(next(plans), [1])
        job[0].append("x")
        self.assertEqual(list(plans), [[2]])
        plans = all_plans(job, 2)
        job[0].pop()
        self.assertEqual(list(plans), [[1], [2]])

    def test_the_same_list_in_several_places(self):
        same = [1, 2]
        job = (same, same, [], same)
        self.assertEqual(told_plans(job, 5), [[1, 2]])
        self.assertEqual(same, [1, 2])

    def test_the_job_is_left_as_it_is(self):
        job = ([1, 1, 1], [None, 3, 3], [(0, 1), (0, 2)], [2, 1])
        before = repr(job)
        told_plans(job, 5)
        self.assertEqual(repr(job), before)

    def test_two_at_a_time(self):
        job = ([1] * 3, [None] * 3, [(0, 1)], [])
        wanted = told_plans(job, 4)
        self.assertEqual(list(zip(all_plans(job, 4), all_plans(job, 4))), list(zip(wanted, wanted)))


class AllPlansErrors(Case):
    def begun(self, *arguments):
        plans = all_plans(*arguments)
        return next(plans)

    def test_only_when_iterated_over(self):
        for arguments in [(None, None), (WIDE, None), (FREE, "x")]:
            self.assertTrue(inspect.isgenerator(all_plans(*arguments)))

    def test_no_job(self):
        for thing in NO_JOBS:
            for last in [3, -1, None]:
                self.raises(NoJob, self.begun, thing, last)

    def test_not_narrow(self):
        for job in [WIDE, ([], [], [], [3])]:
            for last in [3, -1, None]:
                self.raises(NotNarrow, self.begun, job, last)

    def test_no_hour(self):
        for job in [FREE, EMPTY, THREE]:
            for last in NOT_WHOLE + [-1, -BIG, deep(20)]:
                self.raises(NoHour, self.begun, job, last)


class AllInside(Case):
    def check(self, one, other, wanted):
        """Told is None just if it is wanted; else a plan of one and not of other."""
        hours = all_inside(one, other)
        self.assertEqual(all_inside(other=other, one=one), hours)
        if wanted:
            self.assertIsNone(hours, (one, other))
        else:
            self.assertIs(type(hours), list, (one, other))
            self.assertIs(is_plan(one, hours), True, (one, other))
            self.assertIs(is_plan(other, hours), False, (one, other))

    def test_the_documents_examples(self):
        self.check(([1], [2], [], []), ([1], [3], [], []), True)
        self.assertEqual(all_inside(([1], [3], [], []), ([1], [2], [], [])), [3])

    def test_no_tasks(self):
        self.check(EMPTY, EMPTY, True)
        self.check(EMPTY, ([], [], [], [0, 0]), True)

    def test_frees(self):
        self.check(([2], [None], [], []), ([1], [None], [], []), True)
        self.check(([1], [None], [], []), ([2], [None], [], []), False)
        self.check(([1], [None], [], [0, 0]), ([3], [None], [], []), True)
        self.check(([1, 1], [None, None], [(0, 1)], []), ([1, 2], [None, None], [], []), True)
        self.check(([1, 1], [None, None], [(0, 1)], []), ([1, 3], [None, None], [], []), False)

    def test_dues(self):
        self.check(FREE, ([1], [40], [], []), False)
        self.check(([1], [40], [], []), FREE, True)
        self.check(([1, 1], [None, 4], [(0, 1)], []), ([1, 1], [3, None], [], []), True)
        self.check(([1, 1], [None, 4], [(0, 1)], []), ([1, 1], [2, None], [], []), False)
        self.check(FREE, ([1], [0], [], []), False)

    def test_needs(self):
        two = ([1, 1], [None, None], [], [])
        self.check(two, ([1, 1], [None, None], [(0, 1)], []), False)
        self.check(([1, 1], [None, None], [(0, 1)], []), two, True)
        self.check(([1, 2], [1, None], [], []), ([1, 1], [None, None], [(0, 1)], []), True)
        self.check(([1, 2], [2, 3], [], [2, 1]), ([1, 1], [None, None], [(0, 1)], []), True)
        self.check(([1, 2], [2, 3], [], [2, 2]), ([1, 1], [None, None], [(0, 1)], []), False)
        row = ([1] * 3, [None] * 3, [(0, 1), (1, 2)], [])
        self.check(row, ([1] * 3, [None] * 3, [(0, 2)], []), True)
        self.check(row, ([1] * 3, [None] * 3, [(2, 0)], []), False)

    def test_rooms(self):
        for mine, others in itertools.product(range(3), repeat=2):
            for many in [1, 2, 3]:
                one = ([1] * many, [None] * many, [], [2, mine])
                self.check(one, ([1] * many, [None] * many, [], [2, others]), others >= min(mine, many))
                self.check(one, ([1] * many, [None] * many, [], [2, 2, 2, 2]), True)
                self.check(one, ([1] * many, [None] * many, [], [2, mine, 2, 1]), many == 1)
        self.check(([1, 1], [3, 3], [], []), ([1, 1], [None, None], [], [2, 2, 2, 0]), True)
        self.check(([1, 1], [3, 3], [(0, 1)], []), ([1, 1], [None, None], [], [1, 1, 1]), True)

    def test_without_plans(self):
        other = ([9] * 3, [0] * 3, [(2, 1)], [0] * 20)
        self.check(THREE, other, True)
        self.check(([1] * 3, [None] * 3, [], []), other, False)
        self.check(other, THREE, True)

    def test_small_jobs_against_all_plans(self):
        told = []
        jobs = [job for job in some_jobs(300, 277, most_tasks=3, most_room=2) + busy_jobs(100, 281, 2, 3, most_room=2)
                if len(job[0]) > 1]
        for many in (2, 3):
            alike = [job for job in jobs if len(job[0]) == many]
            for one, other in list(zip(alike, alike[1:])) + list(zip(alike, alike[7:])):
                last = max(horizon(one), horizon(other)) + 1
                plans = plans_until(other, last)
                told.append(all(hours in plans for hours in plans_until(one, last)))
                self.check(one, other, told[-1])
        self.assertGreater(told.count(True), 50)
        self.assertGreater(told.count(False), 100)

    def test_jobs_with_one_condition_more_or_less(self):
        told = []
        for job in busy_jobs(60, 283, 3, 4, most_room=2):
            frees, dues, needs, rooms = job
            last = horizon(job) + 1
            others = [(frees, dues, needs[:-1], rooms), (frees, dues, needs, rooms[:-1] + [1]),
                      (frees, dues, [], rooms), (frees, dues, needs, [])]
            others += [(frees[:t] + [frees[t] + 1] + frees[t + 1:], dues, needs, rooms) for t in range(len(frees))]
            others += [(frees, dues[:t] + [max(frees)] + dues[t + 1:], needs, rooms) for t in range(len(frees))]
            plans = plans_until(job, last)
            for other in others:
                others_plans = plans_until(other, last)
                told.append(all(hours in others_plans for hours in plans))
                self.check(job, other, told[-1])
                self.check(other, job, all(hours in plans for hours in others_plans))
        self.assertGreater(told.count(False), 50)

    def test_jobs_of_8_tasks_within_a_minute(self):
        needs = [(a, b) for b in range(8) for a in range(b)]
        jobs = [([1] * 8, [due] * 8, some, rooms) for due in (None, 10, 40) for some in ([], needs[:9], needs)
                for rooms in ([], [1] * 20, [0] * 19 + [1], [2, 1] * 10)]
        longest = 0
        for one, other in itertools.product(jobs, jobs[::5]):
            begun = time.perf_counter()
            hours = all_inside(one, other)
            longest = max(longest, time.perf_counter() - begun)
            self.assertTrue(hours is None or is_plan(one, hours) and not is_plan(other, hours))
        self.assertLess(longest, 20)

    def test_no_job(self):
        for thing in NO_JOBS:
            for other in [FREE, EMPTY, WIDE, thing]:
                self.raises(NoJob, all_inside, thing, other)
                self.raises(NoJob, all_inside, other, thing)

    def test_unlike(self):
        for one, other in itertools.permutations([FREE, EMPTY, WIDE, THREE], 2):
            self.raises(Unlike, all_inside, one, other)

    def test_not_narrow(self):
        for other in [WIDE, ([1, 1], [None, 0], [], [])]:
            self.raises(NotNarrow, all_inside, WIDE, other)
            self.raises(NotNarrow, all_inside, other, WIDE)
        self.raises(NotNarrow, all_inside, EMPTY, ([], [], [], [3]))


if __name__ == "__main__":
    unittest.main()
