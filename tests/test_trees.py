"""Point 9: what is a tree of a job and what is none."""

import unittest

from common import BIG, NEITHER, NO_JOBS, NOT_WHOLE, WIDE, Case, busy_jobs, deep
from duepairs.errors import NoJob
from duepairs.jobs import with_due, with_free
from duepairs.lines import judge
from duepairs.settling import settle
from duepairs.trees import is_tree
from second import bends, reads_as_tree


def crowded(t, f, d):
    """A derivation for a task that is free after its due."""
    return [(("due", t, d), ("given",)), (("free", t, f), ("given",)), (("none",), ("full", f - 1, d, ((0, 1),)))]


# A job without a plan, one with a plan, and one that has no plan because of the task 1.
LATE = ([3], [2], [], [])
FINE = ([1], [2], [], [])
PAIR = ([1, 5], [4, 4], [], [])


class IsTree(Case):
    def check(self, job, thing, wanted):
        self.assertIs(is_tree(job, thing), wanted, (job, thing))
        self.assertIs(is_tree(job=job, thing=thing), wanted)
        self.assertIs(reads_as_tree(job, thing), wanted)

    def test_derivations_are_trees(self):
        self.check(LATE, crowded(0, 3, 2), True)
        self.check(PAIR, crowded(1, 5, 4), True)
        self.check(FINE, crowded(0, 3, 2), False)
        self.check(FINE, crowded(0, 1, 2), False)
        self.check(LATE, crowded(0, 3, 2)[:2], False)
        self.check(LATE, crowded(0, 3, 2) + crowded(0, 3, 2)[:1], False)
        self.check(LATE, [], False)

    def test_a_parted_job(self):
        # In both cases the task 1 has no hour; of the task 0 nothing is asked.
        lines = crowded(1, 5, 4)
        for h in [0, 1, 2, 3, 4, 5, 39, BIG]:
            self.check(PAIR, (0, h, lines, lines), True)
        self.check(PAIR, (0, 2, lines, []), False)
        self.check(PAIR, (0, 2, [], lines), False)
        self.check(PAIR, (0, 2, lines, lines[:2]), False)

    def test_which_case_is_first(self):
        # The lines are of the case in which the due, or the free, of the task 0 is another one.
        for h in [0, 1, 2]:
            first = with_due(LATE, 0, h)
            second = with_free(LATE, 0, h + 1)
            self.check(LATE, (0, h, crowded(0, 3, min(2, h)), crowded(0, 3, 2)), True)
            self.assertIs(judge(first, crowded(0, 3, h)), True)
            self.assertIs(judge(second, crowded(0, 3, 2)), True)
        self.check(LATE, (0, 1, crowded(0, 3, 2), crowded(0, 3, 1)), False)
        self.check(LATE, (0, 1, crowded(0, 3, 2), crowded(0, 3, 2)), False)
        for h in [3, 4, 7]:
            self.check(LATE, (0, h, crowded(0, 3, 2), crowded(0, h + 1, 2)), True)
            self.check(LATE, (0, h, crowded(0, 3, h), crowded(0, h + 1, 2)), False)
            self.check(LATE, (0, h, crowded(0, 3, 2), crowded(0, h, 2)), False)

    def test_the_hour_of_the_second_case(self):
        # With a due of 4: free from 5 on there is no hour left, free from 4 on there is one.
        job = ([1, 1, 1], [4, None, None], [], [0, 0, 0])
        first = [(("free", 0, 1), ("given",)), (("due", 0, 3), ("given",)), (("none",), ("full", 0, 3, ((1, 0),)))]
        second = [(("free", 0, 5), ("given",)), (("due", 0, 4), ("given",)), (("none",), ("full", 4, 4, ((1, 0),)))]
        self.check(job, (0, 3, first, second), False)
        self.check(job, (0, 4, first, second), False)
        closed = ([1, 1, 1], [4, None, None], [], [0, 0, 0, 0])
        later = [(("free", 0, 4), ("given",)), (("due", 0, 4), ("given",)), (("none",), ("full", 3, 4, ((1, 0),)))]
        self.check(closed, (0, 3, first, later), True)
        self.check(closed, (0, 3, later, first), False)
        self.check(closed, (0, 2, first, later), False)

    def test_trees_of_trees(self):
        lines = crowded(1, 5, 4)
        tree = lines
        for h in range(15):
            tree = (0, h, lines, tree) if h % 2 else (0, h, tree, lines)
            self.check(PAIR, tree, True)
        self.check(PAIR, (0, 1, (0, 1, (0, 1, lines, lines[:1]), lines), lines), False)

    def test_the_case_of_a_case(self):
        job = ([1], [4], [], [0, 0, 0, 0])

        def no_hour(f, d):
            return [(("free", 0, f), ("given",)), (("due", 0, d), ("given",)), (("none",), ("full", f - 1, d, ((1, 0),)))]

        self.check(job, (0, 2, (0, 1, no_hour(1, 1), no_hour(2, 2)), (0, 3, no_hour(3, 3), no_hour(4, 4))), True)
        self.check(job, (0, 2, (0, 1, no_hour(1, 1), no_hour(2, 4)), (0, 3, no_hour(3, 3), no_hour(4, 4))), False)
        self.check(job, (0, 2, (0, 1, no_hour(1, 1), no_hour(2, 2)), (0, 3, no_hour(1, 3), no_hour(4, 4))), False)
        self.check(job, (0, 2, (0, 3, no_hour(1, 2), no_hour(4, 2)), no_hour(3, 4)), True)
        self.check(job, (0, 2, (0, 3, no_hour(1, 3), no_hour(4, 2)), no_hour(3, 4)), False)

    def test_tasks_and_hours_that_are_none(self):
        lines = crowded(1, 5, 4)
        for thing in NOT_WHOLE + [-1, 2, 3, BIG, -BIG]:
            self.check(PAIR, (thing, 2, lines, lines), False)
        for thing in NOT_WHOLE + [-1, -2, -BIG]:
            self.check(PAIR, (0, thing, lines, lines), False)
            self.check(PAIR, (1, thing, lines, lines), False)

    def test_anything(self):
        lines = crowded(1, 5, 4)
        for thing in NOT_WHOLE + NO_JOBS + [deep(20), (0, 2), (0, 2, lines), (0, 2, lines, lines, lines), (lines,),
                                            [0, 2, lines, lines], (2, 0, lines, lines), tuple(lines), [lines],
                                            (lines, lines), ((0, 2, lines, lines),), (0, lines, 2, lines)]:
            self.check(PAIR, thing, False)
            self.check(PAIR, (0, 2, thing, lines), False)
            self.check(PAIR, (0, 2, lines, thing), False)
            self.check(PAIR, (0, 2, (1, 1, lines, thing), lines), False)
            self.check(([], [], [], []), thing, False)

    def test_no_job(self):
        for thing in NO_JOBS:
            self.raises(NoJob, is_tree, thing, crowded(0, 3, 2))
            self.raises(NoJob, is_tree, thing, None)


class Bent(unittest.TestCase):
    """Trees that settle told, changed in one place."""

    def check_bent(self, job, tree):
        self.assertIs(is_tree(job, tree), True)
        for other in bends(tree):
            self.assertIs(is_tree(job, other), reads_as_tree(job, other), (job, other))

    def test_the_documents_tree(self):
        tree = settle(WIDE)[1]
        self.assertIsInstance(tree, tuple)
        self.check_bent(WIDE, tree)

    def test_other_trees(self):
        for job in NEITHER[1:6]:
            self.check_bent(job, settle(job)[1])

    def test_derivations(self):
        for job in busy_jobs(40, 37, 3, 5):
            word, told = settle(job)
            if word == "none":
                self.check_bent(job, told)

    def test_the_tree_of_another_job(self):
        trees = [settle(job)[1] for job in NEITHER]
        for job in NEITHER:
            for tree in trees:
                self.assertIs(is_tree(job, tree), reads_as_tree(job, tree))

    def test_cases_put_together(self):
        for job in NEITHER[:6]:
            t, h, first, second = settle(job)[1]
            self.assertIs(is_tree(with_due(job, t, h), first), True)
            self.assertIs(is_tree(with_free(job, t, h + 1), second), True)
            for other in [first, second, (t, h, second, first), (t, h, first, first), (t, h, second, second)]:
                self.assertIs(is_tree(job, other), reads_as_tree(job, other))
            self.assertIs(is_tree(job, (t, h, second, first)), False)
            # Parting a case once more for nothing.
            again = (t, h, (t, h + 5, first, settle(with_free(with_due(job, t, h), t, h + 6))[1]), second)
            self.assertIs(is_tree(job, again), True)


if __name__ == "__main__":
    unittest.main()
