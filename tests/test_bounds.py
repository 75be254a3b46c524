"""Points 11 to 13: earliest, latest, always_ahead, needed_delay and fewest_hours."""

import itertools
import unittest

from common import BIG, JOB, NO_JOBS, NOT_WHOLE, Case, broad_jobs, busy_jobs, deep, some_jobs
from duepairs.bounds import always_ahead, earliest, fewest_hours, latest, needed_delay
from duepairs.errors import NoJob, NoPlan, NotNarrow, NoTask
from duepairs.jobs import is_behind, is_narrow, with_due, with_free
from duepairs.lines import judge
from duepairs.plans import is_plan
from duepairs.settling import settle
from plain import has_latest, horizon, plans_until
from second import ends_in_none, some_plan

FORK = ([1, 1, 1], [None, 3, 3], [(0, 1), (0, 2)], [2, 2, 1])
THREE = ([1, 1, 1], [1, 1, 1], [], [])
WIDE_ROOMS = ([1, 1], [None, 3], [], [2, 3])
WIDE_THREE = ([1, 1, 1, 1], [1, 1, 1, 1], [], [3])
EMPTY = ([], [], [], [])
# Always a first, though both might be done in hour 2: there is room for one of them only.
PASS = ([1, 2], [2, 3], [], [2, 1])


def narrow_small(seed):
    jobs = some_jobs(150, seed, most_room=2) + busy_jobs(150, seed + 1, 1, 4, most_room=2)
    return [job for job in jobs if horizon(job) <= 9]


def narrow_large(seed):
    return broad_jobs(60, seed, 2) + busy_jobs(90, seed + 1, 5, 12, most_room=2)


class BoundsCase(Case):
    def check_none(self, job, lines):
        """The lines are a derivation that the job has no plan."""
        self.assertIs(type(lines), list)
        self.assertIs(judge(job, lines), True, (job, lines))
        self.assertIs(ends_in_none(job, lines), True)

    def check_plan(self, job, hours):
        self.assertIs(type(hours), list)
        self.assertIs(is_plan(job, hours), True, (job, hours))

    def check_earliest(self, job, t):
        told = earliest(job, t)
        self.assertEqual(earliest(job=job, t=t), told)
        self.assertEqual([type(part) for part in (told,) + told], [tuple, int, list, list])
        h, hours, lines = told
        self.check_plan(job, hours)
        self.assertEqual(hours[t], h)
        self.check_none(with_due(job, t, h - 1), lines)
        return h

    def check_latest(self, job, t):
        told = latest(job, t)
        self.assertEqual(latest(job=job, t=t), told)
        self.assertIs(told is not None, has_latest(job, t))
        if told is None:
            return None
        self.assertEqual([type(part) for part in (told,) + told], [tuple, int, list, list])
        h, hours, lines = told
        self.check_plan(job, hours)
        self.assertEqual(hours[t], h)
        self.check_none(with_free(job, t, h + 1), lines)
        return h

    def check_ahead(self, job, a, b):
        """What always_ahead tells is right; returned is whether it is so."""
        told = always_ahead(job, a, b)
        self.assertEqual(always_ahead(job=job, a=a, b=b), told)
        self.assertEqual([type(told), len(told)], [tuple, 2])
        hours, papers = told
        if papers is None:
            self.check_plan(job, hours)
            self.assertGreaterEqual(hours[a], hours[b])
            return False
        self.assertIsNone(hours)
        self.assertIs(type(papers), list)
        wanted = [] if is_behind(job, a, b) else list(range(earliest(job, b)[0], latest(job, a)[0] + 1))
        self.assertEqual([h for h, _ in papers], wanted)
        for paper in papers:
            self.assertEqual([type(part) for part in (paper,) + paper], [tuple, int, list])
            h, lines = paper
            self.check_none(with_due(with_free(job, a, h), b, h), lines)
        return True

    def check_delay(self, job):
        told = needed_delay(job)
        self.assertEqual(needed_delay(job=job), told)
        self.assertEqual([type(part) for part in (told,) + told[:2]], [tuple, int, list])
        n, hours, lines = told

        def delayed(by):
            return (job[0], [None if due is None else due + by for due in job[1]], job[2], job[3])

        self.check_plan(delayed(n), hours)
        if n == 0:
            self.assertIsNone(lines)
        else:
            self.check_none(delayed(n - 1), lines)
        return n

    def check_fewest(self, job):
        told = fewest_hours(job)
        self.assertEqual(fewest_hours(job=job), told)
        self.assertEqual([type(part) for part in (told,) + told[:2]], [tuple, int, list])
        n, hours, lines = told
        self.check_plan(job, hours)
        self.assertEqual(max(hours, default=0), n)
        self.assertIs(n == 0, job[0] == [])
        if n == 0:
            self.assertIsNone(lines)
        else:
            dues = [n - 1 if due is None else min(n - 1, due) for due in job[1]]
            self.check_none((job[0], dues, job[2], job[3]), lines)
        return n

    def check_all(self, job):
        """All bounds of a job with a plan, as values only."""
        tasks = range(len(job[0]))
        return ([self.check_earliest(job, t) for t in tasks], [self.check_latest(job, t) for t in tasks],
                [[self.check_ahead(job, a, b) for b in tasks] for a in tasks],
                self.check_fewest(job), self.check_delay(job))


class Examples(BoundsCase):
    def test_the_documents_example(self):
        self.assertEqual(
            [earliest(FORK, 1)[0], latest(FORK, 0)[0], always_ahead(FORK, 0, 2), fewest_hours(FORK)[0],
             needed_delay(THREE)[0]],
            [2, 1, (None, []), 2, 1])


class Bounds(BoundsCase):
    def test_one_task(self):
        for free, due, rooms in itertools.product([1, 3], [None, 3, 4, 5], [[], [0, 0, 1], [1, 1, 0, 1], [0] * 3]):
            job = ([free], [due], [], rooms)
            plans = plans_until(job, 9)
            if plans:
                least, greatest = plans[0][0], plans[-1][0]
                self.assertEqual(self.check_all(job), (
                    [least], [None if due is None else greatest], [[False]], least, 0))

    def test_no_tasks(self):
        for rooms in [[], [0, 2], [1]]:
            self.assertEqual(fewest_hours(([], [], [], rooms)), (0, [], None))
            self.assertEqual(needed_delay(([], [], [], rooms)), (0, [], None))

    def test_rooms_make_earliest_hours_late(self):
        job = ([1, 1, 1], [None, 6, 6], [(0, 1)], [0, 1, 0, 0, 1])
        self.assertEqual([self.check_earliest(job, t) for t in range(3)], [2, 5, 2])
        self.assertEqual([self.check_latest(job, t) for t in range(3)], [5, 6, 6])

    def test_the_bounds_may_be_narrower_than_what_lines_state(self):
        # There is no room in hours 1 and 4; no lines state so of the task.
        job = ([1], [4], [], [0, 1, 1, 0])
        self.assertEqual([self.check_earliest(job, 0), self.check_latest(job, 0)], [2, 3])

    def test_small_jobs_against_all_plans(self):
        seen = set()
        for job in narrow_small(211):
            plans = plans_until(job, horizon(job))
            if not plans:
                continue
            tasks = range(len(job[0]))
            firsts, lasts, aheads, fewest, delay = self.check_all(job)
            self.assertEqual(firsts, [min(hours[t] for hours in plans) for t in tasks], job)
            wanted = [max(hours[t] for hours in plans) if has_latest(job, t) else None for t in tasks]
            self.assertEqual(lasts, wanted, job)
            # When a can be done as late as one likes, some of these plans have it behind all others.
            self.assertEqual(aheads, [[all(hours[a] < hours[b] for hours in plans) for b in tasks] for a in tasks], job)
            self.assertEqual(fewest, min(max(hours, default=0) for hours in plans), job)
            self.assertEqual(delay, 0)
            seen.add((None in lasts, any(map(any, aheads))))
        self.assertEqual(len(seen), 4)

    def test_large_jobs(self):
        seen = 0
        for job in narrow_large(223):
            self.assertIs(is_narrow(job), True)
            if settle(job)[0] == "plan":
                seen += 1
                tasks = range(len(job[0]))
                for t in tasks:
                    self.check_earliest(job, t)
                    self.check_latest(job, t)
                    self.check_ahead(job, t, t)
                    self.check_ahead(job, t, (t * 7 + 1) % len(tasks))
                self.check_fewest(job)
        self.assertGreater(seen, 20)


class Latest(BoundsCase):
    def test_none_just_without_dues_behind(self):
        job = ([1] * 5, [None, None, 4, None, None], [(0, 1), (1, 2), (3, 4)], [])
        self.assertEqual([self.check_latest(job, t) for t in range(5)], [2, 3, 4, None, None])

    def test_other_dues_do_not_bound_it(self):
        job = ([1, 1, 1], [None, 2, 2], [(1, 0)], [1, 1])
        self.assertIsNone(latest(job, 0))
        self.assertEqual([self.check_latest(job, t) for t in (1, 2)], [2, 2])

    def test_the_latest_hour_may_be_that_of_a_plan_far_from_the_due(self):
        job = ([1] * 6, [6] * 6, [(0, t) for t in range(1, 6)], [1] * 6)
        self.assertEqual([self.check_latest(job, 0), self.check_earliest(job, 5)], [1, 2])

    def test_frees_and_dues_of_40_and_more(self):
        job = ([40, 1], [None, 40], [(1, 0)], [0] * 20)
        self.assertEqual([self.check_earliest(job, 0), self.check_latest(job, 1)], [40, 39 + 1])
        job = with_due(with_free(job, 0, 99), 0, 100)
        self.assertEqual([self.check_earliest(job, 0), self.check_latest(job, 0), self.check_latest(job, 1)],
                         [99, 100, 40])


class Ahead(BoundsCase):
    def test_a_task_and_itself(self):
        for job in [FORK, PASS, ([1], [1], [], []), ([1], [None], [], [0])]:
            for t in range(len(job[0])):
                self.assertIs(self.check_ahead(job, t, t), False)

    def test_a_task_behind_another(self):
        job = ([1, 1, 1, 1], [None] * 4, [(0, 1), (1, 2)], [])
        self.assertEqual(always_ahead(job, 0, 1), (None, []))
        self.assertEqual(always_ahead(job, 0, 2), (None, []))
        self.assertIs(self.check_ahead(job, 2, 0), False)
        self.assertIs(self.check_ahead(job, 0, 3), False)
        self.assertIs(self.check_ahead(job, 3, 0), False)
        # Behind it, with dues that let both be asked for in the same hours.
        job = ([1, 1, 1], [9, 9, 9], [(0, 1), (2, 1)], [])
        self.assertEqual(always_ahead(job, 0, 1), (None, []))

    def test_hours_in_which_they_cannot_meet(self):
        self.assertEqual(always_ahead(([1, 3], [2, 9], [], []), 0, 1), (None, []))
        self.assertEqual(always_ahead(([1, 3], [2, None], [], []), 0, 1), (None, []))
        self.assertIs(self.check_ahead(([1, 2], [2, 9], [], []), 0, 1), False)

    def test_papers(self):
        self.assertIs(self.check_ahead(PASS, 0, 1), True)
        self.assertEqual([h for h, _ in always_ahead(PASS, 0, 1)[1]], [2])
        self.assertIs(self.check_ahead(PASS, 1, 0), False)

    def test_papers_of_several_hours(self):
        for job, a, b, wanted in [
                (([3, 3, 1], [None, 5, 5], [], [0, 1, 1, 0, 1]), 2, 0, [3, 4, 5]),
                (([2, 1, 2, 3], [4, 5, None, 5], [], [2, 1, 1, 0, 1]), 1, 2, [2, 3, 4, 5]),
                (([1, 2, 2, 1], [5, None, 5, 5], [(0, 3)], [1, 0, 1, 1, 1]), 0, 1, [3, 4])]:
            self.assertIs(self.check_ahead(job, a, b), True)
            self.assertEqual([h for h, _ in always_ahead(job, a, b)[1]], wanted)
            self.assertIs(self.check_ahead(job, b, a), False)

    def test_all_pairs_of_tasks(self):
        told = set()
        for job in busy_jobs(60, 227, 4, 8, most_room=2):
            if settle(job)[0] == "plan":
                for a, b in itertools.permutations(range(len(job[0])), 2):
                    told.add((is_behind(job, a, b), self.check_ahead(job, a, b)))
        self.assertEqual(sorted(told), [(False, False), (False, True), (True, True)])

    def test_not_ahead_when_it_can_be_as_late_as_one_likes(self):
        job = ([1, 5], [None, 30], [], [1])
        self.assertIs(self.check_ahead(job, 0, 1), False)
        self.assertIs(self.check_ahead(job, 1, 0), False)


class Delay(BoundsCase):
    def test_dues_of_0(self):
        self.assertEqual(self.check_delay(([1], [0], [], [])), 1)
        self.assertEqual(self.check_delay(([4], [0], [], [])), 4)
        self.assertEqual(self.check_delay(([1, 1, 1], [0, 0, None], [], [])), 1)
        self.assertEqual(self.check_delay(([1, 1, 1], [0, 0, 0], [], [])), 2)
        self.assertEqual(self.check_delay(([1, 1], [0, 5], [(1, 0)], [])), 2)
        self.assertEqual(self.check_delay(([1], [0], [], [0] * 20)), 21)

    def test_without_dues(self):
        for job in [EMPTY, ([40, 1], [None, None], [(0, 1)], [0] * 20)]:
            self.assertEqual(self.check_delay(job), 0)

    def test_it_is_the_least(self):
        seen = set()
        for job in narrow_small(229) + busy_jobs(60, 233, 3, 6, most_room=2):
            n = self.check_delay(job)
            wanted = 0
            while some_plan((job[0], [due and due + wanted if due else (None if due is None else wanted)
                                      for due in job[1]], job[2], job[3])) is None:
                wanted += 1
            self.assertEqual(n, wanted, job)
            seen.add(n)
        self.assertLess({0, 1, 2, 3}, seen)

    def test_large_jobs(self):
        seen = {self.check_delay(job) for job in narrow_large(239)}
        self.assertGreater(len(seen), 3)

    def test_far_delays(self):
        job = ([40] * 12, [0] * 12, [(t, t + 1) for t in range(11)], [0] * 20)
        self.assertEqual(self.check_delay(job), 51)


class Fewest(BoundsCase):
    def test_rooms(self):
        for rooms, wanted in [([], 2), ([0], 3), ([1, 0, 1], 4), ([1, 1, 1], 3), ([0] * 20, 22)]:
            self.assertEqual(self.check_fewest(([1, 1, 1], [None] * 3, [], rooms)), wanted)

    def test_frees_needs_and_dues(self):
        self.assertEqual(self.check_fewest(([7, 1], [None, 9], [], [])), 7)
        self.assertEqual(self.check_fewest(([7, 1], [None, 9], [(0, 1)], [])), 8)
        self.assertEqual(self.check_fewest(([1], [1], [], [])), 1)
        self.assertEqual(self.check_fewest(([1] * 5, [None] * 5, [(t, t + 1) for t in range(4)], [])), 5)
        self.assertEqual(self.check_fewest(([1] * 12, [40] * 12, [], [1])), 7)


class Errors(BoundsCase):
    WITH_TASKS = [(earliest, 1), (latest, 1), (always_ahead, 2)]

    def test_no_job(self):
        for thing in NO_JOBS:
            for function, many in self.WITH_TASKS:
                for wrong in [0, None, 99]:
                    self.raises(NoJob, function, thing, *[wrong] * many)
            self.raises(NoJob, needed_delay, thing)
            self.raises(NoJob, fewest_hours, thing)
        self.raises(NoJob, earliest, ([1], [0], [], [4]), 9)

    def test_not_narrow(self):
        for job in [WIDE_ROOMS, WIDE_THREE, ([], [], [], [3])]:
            for function, many in self.WITH_TASKS:
                for t in [0, 1, -1, 99, None, "x", deep(20)]:
                    self.raises(NotNarrow, function, job, *[t] * many)
            self.raises(NotNarrow, needed_delay, job)
            self.raises(NotNarrow, fewest_hours, job)

    def test_no_task(self):
        # THREE has no plan, which is said only after that.
        for job in [FORK, THREE, EMPTY]:
            for thing in NOT_WHOLE + [-1, len(job[0]), 3, BIG, -BIG, deep(20)]:
                self.raises(NoTask, earliest, job, thing)
                self.raises(NoTask, latest, job, thing)
                self.raises(NoTask, always_ahead, job, thing, 0)
                self.raises(NoTask, always_ahead, job, 0, thing)
                self.raises(NoTask, always_ahead, job, thing, thing)

    def test_no_plan(self):
        for job in [THREE, ([1, 1], [None, 1], [(0, 1)], []), ([1, 2], [0, None], [], [])]:
            for t in range(2):
                self.raises(NoPlan, earliest, job, t)
                self.raises(NoPlan, latest, job, t)
                self.raises(NoPlan, always_ahead, job, t, 0)
                self.raises(NoPlan, always_ahead, job, 0, t)
                self.raises(NoPlan, always_ahead, job, 0, 1)
            self.raises(NoPlan, fewest_hours, job)
            self.assertGreater(self.check_delay(job), 0)

    def test_an_argument_is_not_changed(self):
        for function, arguments in [(earliest, (JOB, 1)), (latest, (JOB, 1)), (always_ahead, (JOB, 1, 2)),
                                    (needed_delay, (THREE,)), (fewest_hours, (JOB,))]:
            before = repr(arguments)
            function(*arguments)
            self.assertEqual(repr(arguments), before)


if __name__ == "__main__":
    unittest.main()
