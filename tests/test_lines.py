"""Point 8: statements, lines and their reasons, are_right and judge."""

import unittest

from common import BIG, JOB, NO_JOBS, NOT_WHOLE, Case, busy_jobs, deep
from duepairs.errors import NoJob
from duepairs.lines import are_right, judge
from duepairs.settling import settle
from second import bends, ends_in_none, reads_right

THREE = ([1, 1, 1], [1, 1, 1], [], [])
THREE_LINES = [
    (("due", 0, 1), ("given",)), (("free", 0, 1), ("given",)), (("due", 1, 1), ("given",)),
    (("free", 1, 1), ("given",)), (("due", 2, 1), ("given",)), (("free", 2, 1), ("given",)),
    (("none",), ("full", 0, 1, ((0, 1), (2, 3), (4, 5)))),
]
FORK = ([1, 1, 1], [None, 3, 3], [(0, 1), (0, 2)], [2, 2, 1])
FORK_LINES = [
    (("due", 1, 3), ("given",)), (("due", 2, 3), ("given",)),
    (("due", 0, 1), ("sooner", 3, ((0, None), (1, None)))),
]
GIVEN = ("given",)


def given(word, t, hour):
    return ((word, t, hour), GIVEN)


class LinesCase(Case):
    def check(self, job, lines, wanted):
        """Both functions, and the second reading, tell of the lines what is wanted."""
        derived = wanted and len(lines) > 0 and lines[-1][0] == ("none",)
        self.assertIs(are_right(job, lines), wanted, (job, lines))
        self.assertIs(judge(job, lines), derived, (job, lines))
        self.assertIs(are_right(job=job, lines=lines), wanted)
        self.assertIs(judge(job=job, lines=lines), derived)
        self.assertIs(reads_right(job, lines), wanted, (job, lines))

    def last(self, job, lines, line, wanted):
        """The line is right behind the lines, which are right, just if that is wanted."""
        self.check(job, lines, True)
        self.check(job, lines + [line], wanted)


class Examples(LinesCase):
    def test_the_documents_examples(self):
        self.check(FORK, FORK_LINES, True)
        self.check(THREE, THREE_LINES, True)

    def test_no_lines_are_right_but_no_derivation(self):
        for job in [FORK, THREE, ([], [], [], [])]:
            self.check(job, [], True)


class Lists(LinesCase):
    def test_things_that_are_no_list_of_lines(self):
        for thing in NOT_WHOLE + NO_JOBS + [JOB, tuple(THREE_LINES), deep(20), THREE_LINES[0]]:
            for job in [THREE, FORK]:
                wanted = isinstance(thing, list) and thing == []
                self.assertIs(are_right(job, thing), wanted, thing)
                self.assertIs(judge(job, thing), False, thing)

    def test_things_that_are_no_line(self):
        for thing in NOT_WHOLE + NO_JOBS + [(), (("none",),), (("none",), GIVEN, 0), deep(19)]:
            self.check(THREE, [thing], False)
            self.check(THREE, THREE_LINES + [thing], False)
            self.check(THREE, [thing] + THREE_LINES, False)

    def test_a_derivation_ends_in_none(self):
        for end in range(len(THREE_LINES)):
            self.check(THREE, THREE_LINES[:end], True)
        self.check(THREE, THREE_LINES + THREE_LINES[:1], True)
        self.check(THREE, THREE_LINES + [(("none",), ("weaker", 6))], True)
        self.check(THREE, THREE_LINES + [(("due", 0, -7), ("weaker", 6))], True)

    def test_every_line_must_be_right(self):
        for at in range(len(THREE_LINES)):
            wrong = THREE_LINES[:at] + [given("free", 0, 2)] + THREE_LINES[at + 1:]
            self.check(THREE, wrong, False)
        self.check(THREE, THREE_LINES + [given("free", 0, 2)], False)
        self.check(THREE, THREE_LINES[1:], False)
        self.check(THREE, THREE_LINES[::-1], False)

    def test_the_same_line_may_stand_twice(self):
        self.check(THREE, THREE_LINES[:1] * 3, True)
        self.check(THREE, THREE_LINES + THREE_LINES, True)

    def test_no_job(self):
        for thing in NO_JOBS:
            for lines in [[], THREE_LINES, None]:
                self.raises(NoJob, are_right, thing, lines)
                self.raises(NoJob, judge, thing, lines)


class Statements(LinesCase):
    """Behind a line that there is no plan, every statement is right, and nothing else."""

    def behind_none(self, statement, wanted):
        self.last(THREE, THREE_LINES, (statement, ("weaker", 6)), wanted)

    def test_statements(self):
        for hour in [-BIG, -1, 0, 1, 2, 40, BIG]:
            for t in [0, 2]:
                self.behind_none(("free", t, hour), True)
                self.behind_none(("due", t, hour), True)
        self.behind_none(("none",), True)

    def test_tasks_that_are_none(self):
        for word in ["free", "due"]:
            for thing in NOT_WHOLE + [-1, 3, BIG]:
                self.behind_none((word, thing, 1), False)

    def test_hours_that_are_none(self):
        for word in ["free", "due"]:
            for thing in NOT_WHOLE:
                self.behind_none((word, 1, thing), False)

    def test_words_that_are_none(self):
        for thing in NOT_WHOLE + ["Free", "none", "given", "f", 0]:
            self.behind_none((thing, 1, 1), False)
        for thing in NOT_WHOLE + ["None", "free", "due", 0]:
            self.behind_none((thing,), False)

    def test_other_kinds_and_lengths(self):
        for thing in NOT_WHOLE + [0, "none", "free", ["none"], ["free", 0, 1], ("none", "none"), ("none", 0),
                                  ("none", 0, 1), ("free", 0), ("free", 0, 1, 1), ("due", 0), (("none",),)]:
            self.behind_none(thing, False)

    def test_no_tasks(self):
        self.check(([], [], [], []), [(("none",), GIVEN)], False)
        self.check(([], [], [], []), [given("free", 0, 1)], False)


class Reasons(LinesCase):
    def test_things_that_are_no_reason(self):
        for thing in NOT_WHOLE + [0, "given", ["given"], (["given"],), ("Given",), ("given", 0), ("given", None),
                                  ("later",), ("later", 0, 0), ("sooner", 3), ("full", 0, 1), ("weaker",),
                                  ("weaker", 0, 0), ("none",), ("free",), (0,), (None,), ((),), (True, 0)]:
            self.last(THREE, THREE_LINES[:1], (("due", 0, 1), thing), False)
            self.last(THREE, THREE_LINES[:6], (("none",), thing), False)


class Given(LinesCase):
    job = ([1, 2, 1], [None, 3, 0], [(0, 1)], [2, 1])

    def test_frees(self):
        for t, free in enumerate(self.job[0]):
            for f in [-1, 0, 1, 2, 3, 4]:
                self.check(self.job, [given("free", t, f)], f == free)
        self.check(self.job, [given("free", 0, True)], False)
        self.check(self.job, [given("free", False, 1)], False)

    def test_dues(self):
        for t, due in enumerate(self.job[1]):
            for d in [-1, 0, 1, 2, 3, 4]:
                self.check(self.job, [given("due", t, d)], d == due)
        self.check(self.job, [given("due", 0, None)], False)
        self.check(self.job, [given("due", 2, False)], False)

    def test_that_there_is_no_plan_is_never_given(self):
        self.check(self.job, [(("none",), GIVEN)], False)


class Later(LinesCase):
    job = ([2, 1, 1], [5, None, None], [(0, 1), (1, 2)], [])
    start = [given("free", 0, 2)]

    def check_later(self, statement, i, wanted):
        self.last(self.job, self.start, (statement, ("later", i)), wanted)

    def test_bounds(self):
        for f in range(-1, 6):
            self.check_later(("free", 1, f), 0, f == 3)

    def test_tasks(self):
        for t in [0, 2]:
            self.check_later(("free", t, 3), 0, False)
        self.check_later(("due", 1, 3), 0, False)
        self.check_later(("none",), 0, False)

    def test_numbers_of_lines(self):
        for i in NOT_WHOLE + [1, 2, -1, BIG, -BIG]:
            self.check_later(("free", 1, 3), i, False)

    def test_what_the_line_states(self):
        due = [given("due", 0, 5)]
        self.last(self.job, due, (("free", 1, 6), ("later", 0)), False)
        weak = self.start + [(("free", 0, -4), ("weaker", 0))]
        self.last(self.job, weak, (("free", 1, -3), ("later", 1)), True)
        self.last(self.job, weak, (("free", 1, 3), ("later", 1)), False)
        self.last(THREE, THREE_LINES, (("free", 1, 2), ("later", 6)), False)

    def test_several_in_a_row(self):
        row = self.start + [(("free", 1, 3), ("later", 0))]
        self.last(self.job, row, (("free", 2, 4), ("later", 1)), True)
        self.last(self.job, row, (("free", 2, 4), ("later", 0)), False)
        self.last(self.job, row, (("free", 1, 3), ("later", 0)), True)


class Weaker(LinesCase):
    job = ([2, 2], [4, 4], [], [])
    start = [given("free", 0, 2), given("due", 0, 4)]

    def check_weaker(self, statement, i, wanted):
        self.last(self.job, self.start, (statement, ("weaker", i)), wanted)

    def test_bounds(self):
        for hour in [-BIG, -1, 0, 1, 2, 3, 4, 5, 6, BIG]:
            self.check_weaker(("free", 0, hour), 0, hour <= 2)
            self.check_weaker(("due", 0, hour), 1, hour >= 4)

    def test_another_task_or_word(self):
        for hour in [1, 2, 3, 4, 5]:
            self.check_weaker(("free", 1, hour), 0, False)
            self.check_weaker(("due", 1, hour), 1, False)
            self.check_weaker(("free", 0, hour), 1, False)
            self.check_weaker(("due", 0, hour), 0, False)

    def test_none_comes_of_none_alone(self):
        self.check_weaker(("none",), 0, False)
        self.check_weaker(("none",), 1, False)
        self.last(THREE, THREE_LINES, (("none",), ("weaker", 6)), True)
        self.last(THREE, THREE_LINES, (("none",), ("weaker", 5)), False)

    def test_numbers_of_lines(self):
        for i in NOT_WHOLE + [2, 3, -1, -2, BIG, -BIG]:
            self.check_weaker(("free", 0, 1), i, False)
            self.check_weaker(("due", 0, 5), i, False)
            self.check_weaker(("none",), i, False)


class Sooner(LinesCase):
    """The document's example, and a task whose followers and others fill hours 3 and 4."""

    job = ([1, 1, 4, 1], [5, 4, 4, 3], [(0, 1), (3, 1)], [2, 2, 1, 1])
    start = [given("due", 1, 4), given("due", 2, 4), given("free", 2, 4), given("due", 3, 3),
             given("free", 3, 1), given("due", 0, 5), given("free", 0, 1), given("free", 1, 1)]

    def fork(self, s, e, parts, wanted):
        self.last(FORK, FORK_LINES[:2], (("due", 0, s), ("sooner", e, parts)), wanted)

    def mixed(self, s, e, parts, wanted, t=0):
        self.last(self.job, self.start, (("due", t, s), ("sooner", e, parts)), wanted)

    def test_hours_of_the_example(self):
        both = ((0, None), (1, None))
        for s in range(-4, 7):
            for e in range(-4, 7):
                # Hour 3 has room for one, and both are due by it.
                self.fork(s, e, both, s >= 0 and e >= 3 and (e < s + 2 or (s, e) == (1, 3)))

    def test_how_many_parts(self):
        self.fork(1, 3, ((0, None), (1, None)), True)
        self.fork(1, 3, ((1, None), (0, None)), True)
        self.fork(1, 3, ((0, None),), False)
        self.fork(1, 3, (), False)
        self.fork(7, 3, (), False)
        self.fork(1, 3, ((0, None), (1, None), (0, None)), False)
        self.fork(1, 3, ((0, None), (0, None)), False)
        self.fork(2, 3, ((0, None),), True)
        self.fork(2, 3, ((1, None),), True)
        self.fork(2, 3, ((0, None), (0, None)), False)

    def test_followers_and_others(self):
        # Room from hour 4 to hour 4 is one: task 1 is behind 0, task 2 is free from hour 4 on.
        self.mixed(2, 4, ((0, None), (1, 2)), True)
        self.mixed(2, 4, ((1, 2), (0, None)), True)
        self.mixed(2, 4, ((0, None), (1, None)), False)
        self.mixed(2, 4, ((0, 7), (1, 2)), False)
        self.mixed(2, 4, ((0, None), (1, 7)), False)
        self.mixed(2, 4, ((0, 2), (1, 2)), False)
        self.mixed(2, 4, ((0, None), (2, 2)), False)
        self.mixed(2, 4, ((0, None), (1, 1)), False)
        self.mixed(2, 4, ((0, None), (7, 7)), False)

    def test_the_hour_from_which_others_are_free(self):
        # From hour 5 on there is room for two, by hour 4 for none: one that is free in 4 is not in 5.
        self.mixed(3, 4, ((0, None),), True)
        self.mixed(3, 4, ((0, None), (1, 2)), False)
        self.mixed(3, 4, ((1, 2),), False)
        self.mixed(2, 4, ((1, 2),), False)
        self.mixed(1, 4, ((0, None), (1, 2)), False)

    def test_the_hour_by_which_they_are_due(self):
        self.mixed(2, 3, ((3, None),), False)
        self.mixed(2, 3, ((0, None), (1, 2)), False)
        self.mixed(2, 5, ((0, None), (1, 2)), False)
        late = self.start + [(("due", 1, 5), ("weaker", 0))]
        self.last(self.job, late, (("due", 0, 2), ("sooner", 4, ((8, None), (1, 2)))), False)
        self.last(self.job, late, (("due", 0, 2), ("sooner", 4, ((0, None), (1, 2)))), True)

    def test_the_task_itself_does_not_count(self):
        # Hour 5 has no room, so one task would be enough, if it were another one.
        job = ([5, 5], [5, 5], [], [0] * 5)
        lines = [given("due", 0, 5), given("free", 0, 5), given("due", 1, 5), given("free", 1, 5)]
        for s in range(6):
            self.last(job, lines, (("due", 0, s), ("sooner", 5, ((0, 1),))), False)
            self.last(job, lines, (("due", 0, s), ("sooner", 5, ((2, 3),))), s <= 3)
            self.last(job, lines, (("due", 0, s), ("sooner", 5, ((2, 3), (0, 1)))), False)
        # Task 3 is no task behind 0, and 0 is none behind itself.
        self.mixed(4, 4, ((3, None),), False)
        self.mixed(9, 9, ((5, None),), False)
        self.mixed(9, 9, ((0, None),), True)
        alone = ([9], [9], [], [])
        lines = [given("due", 0, 9), given("free", 0, 9)]
        for s in range(10):
            self.last(alone, lines, (("due", 0, s), ("sooner", 9, ((0, 1),))), False)
            self.last(alone, lines, (("due", 0, s), ("sooner", 9, ((0, None),))), False)

    def test_tasks_in_front_do_not_count(self):
        self.mixed(3, 3, ((3, None),), False, t=1)
        self.mixed(3, 3, ((3, None),), False, t=0)
        self.mixed(3, 5, ((5, None),), False, t=1)

    def test_tasks_far_behind_count(self):
        row = ([1] * 3, [None, None, 3], [(0, 1), (1, 2)], [])
        self.last(row, [given("due", 2, 3)], (("due", 0, 2), ("sooner", 3, ((0, None),))), True)
        self.last(row, [given("due", 2, 3)], (("due", 0, 1), ("sooner", 3, ((0, None),))), False)

    def test_no_hour_below_0(self):
        job = ([1, 1], [None, 0], [(0, 1)], [])
        for s in range(-3, 3):
            self.last(job, [given("due", 1, 0)], (("due", 0, s), ("sooner", 0, ((0, None),))), s >= 0)
            self.last(job, [given("due", 1, 0)], (("due", 0, s), ("sooner", -1, ((0, None),))), False)

    def test_other_statements(self):
        for statement in [("free", 0, 1), ("free", 0, 2), ("none",), ("due", 1, 1), ("due", 2, 1)]:
            line = (statement, ("sooner", 3, ((0, None), (1, None))))
            self.last(FORK, FORK_LINES[:2], line, False)

    def test_things_in_the_places(self):
        for thing in NOT_WHOLE + [-1, 2, 3, BIG, -BIG]:
            self.fork(1, 3, ((thing, None), (1, None)), False)
            self.fork(1, 3, ((0, None), (thing, None)), False)
        for thing in [thing for thing in NOT_WHOLE if thing is not None] + [0, 1, 2, -1, BIG, -BIG]:
            self.fork(1, 3, ((0, thing), (1, None)), False)
        for thing in NOT_WHOLE + [-BIG, BIG]:
            self.fork(1, thing, ((0, None), (1, None)), False)
        for thing in NOT_WHOLE + [0, [(0, None), (1, None)], ([0, None], [1, None]), ((0, None), [1, None]),
                                  ((0, None), (1,)), ((0, None), (1, None, None)), ((0, None), 1),
                                  ((0, None), None), "ab"]:
            self.fork(1, 3, thing, False)

    def test_far_hours(self):
        job = ([1, 1], [None, BIG], [(0, 1)], [0])
        due = [given("due", 1, BIG)]
        for s, wanted in [(BIG, True), (BIG - 1, True), (BIG - 2, False), (1, False)]:
            self.last(job, due, (("due", 0, s), ("sooner", BIG, ((0, None),))), wanted)


class Full(LinesCase):
    job = ([2, 2, 3, 2], [3, 3, 3, 4], [(0, 2)], [2, 1, 1])
    start = [given("due", 0, 3), given("free", 0, 2), given("due", 1, 3), given("free", 1, 2),
             given("due", 2, 3), given("free", 2, 3), given("due", 3, 4), given("free", 3, 2)]
    three = ((0, 1), (2, 3), (4, 5))

    def full(self, s, e, parts, wanted):
        self.last(self.job, self.start, (("none",), ("full", s, e, parts)), wanted)

    def test_hours(self):
        for s in range(-2, 5):
            for e in range(-2, 7):
                # Hours 2 and 3 have room for two together, all three are due by 3.
                self.full(s, e, self.three, (s, e) == (1, 3))

    def test_how_many_parts(self):
        self.full(1, 3, ((4, 5), (0, 1), (2, 3)), True)
        for parts in [((0, 1), (2, 3)), ((0, 1), (4, 5)), ((2, 3),), (), ((0, 1), (2, 3), (2, 3)),
                      ((0, 1), (0, 1), (0, 1)), self.three + ((0, 1),), self.three + ((6, 7),)]:
            self.full(1, 3, parts, False)
        self.full(1, 4, self.three + ((6, 7),), False)

    def test_a_task_is_free_from_the_hour_behind_s_on(self):
        self.full(2, 3, ((4, 5), (0, 1)), False)
        self.full(2, 3, ((4, 5),), False)
        self.full(0, 3, self.three, False)
        job = ([2, 2, 3, 2], [3, 3, 3, 4], [(0, 2)], [0, 1, 1])
        self.last(job, self.start, (("none",), ("full", 0, 3, self.three)), True)
        job = ([2, 2, 3, 2], [3, 3, 3, 4], [(0, 2)], [1, 1, 1])
        self.last(job, self.start, (("none",), ("full", 0, 3, self.three)), False)

    def test_which_lines(self):
        for parts in [((0, 3), (2, 3), (4, 5)), ((0, 0), (2, 3), (4, 5)), ((1, 1), (2, 3), (4, 5)),
                      ((1, 0), (2, 3), (4, 5)), ((0, 1), (6, 3), (4, 5)), ((0, 1), (2, 5), (4, 5)),
                      ((0, 1), (2, 3), (4, 8)), ((0, 1), (2, 3), (8, 5)), ((0, 1), (2, 3), (-4, 5))]:
            self.full(1, 3, parts, False)

    def test_a_free_must_be_named(self):
        self.full(1, 3, ((0, 1), (2, 3), (4, None)), False)
        self.full(1, 3, ((0, None), (2, None), (4, None)), False)

    def test_weaker_dues_and_frees(self):
        weak = self.start + [(("due", 0, 4), ("weaker", 0)), (("free", 0, 1), ("weaker", 1))]
        self.last(self.job, weak, (("none",), ("full", 1, 3, ((8, 1), (2, 3), (4, 5)))), False)
        self.last(self.job, weak, (("none",), ("full", 1, 3, ((0, 9), (2, 3), (4, 5)))), False)
        self.last(self.job, weak, (("none",), ("full", 1, 3, self.three)), True)

    def test_no_hours_at_all(self):
        job = ([5], [3], [], [])
        lines = [given("due", 0, 3), given("free", 0, 5)]
        for s in range(-2, 7):
            for e in range(-2, 7):
                self.last(job, lines, (("none",), ("full", s, e, ((0, 1),))), 3 <= e <= s <= 4)
        job = ([1], [0], [], [])
        lines = [given("due", 0, 0), given("free", 0, 1)]
        self.last(job, lines, (("none",), ("full", 0, 0, ((0, 1),))), True)
        self.last(job, lines, (("none",), ("full", -1, 0, ((0, 1),))), False)
        self.last(job, lines, (("none",), ("full", 0, -1, ((0, 1),))), False)
        self.last(job, lines, (("none",), ("full", 0, 1, ((0, 1),))), False)

    def test_other_statements(self):
        for statement in [("free", 0, 2), ("due", 0, 3), ("due", 0, 1)]:
            self.last(self.job, self.start, (statement, ("full", 1, 3, self.three)), False)

    def test_things_in_the_places(self):
        for thing in NOT_WHOLE + [-1, 8, 9, BIG, -BIG]:
            self.full(1, 3, ((thing, 1), (2, 3), (4, 5)), False)
            self.full(1, 3, ((0, thing), (2, 3), (4, 5)), False)
            self.full(1, 3, ((0, 1), (2, 3), (4, thing)), False)
        for thing in NOT_WHOLE + [BIG, -BIG]:
            self.full(thing, 3, self.three, False)
            self.full(1, thing, self.three, False)
        for thing in NOT_WHOLE + [0, list(self.three), tuple(list(part) for part in self.three),
                                  ((0, 1), (2, 3), (4,)), ((0, 1), (2, 3), (4, 5, 5)), ((0, 1), (2, 3), 4)]:
            self.full(1, 3, thing, False)


class Truths(LinesCase):
    """True stands for 1, and False for 0, nowhere."""

    def test_true_for_1(self):
        lines = list(THREE_LINES)
        for wrong in [("full", False, 1, ((0, 1), (2, 3), (4, 5))), ("full", 0, True, ((0, 1), (2, 3), (4, 5))),
                      ("full", 0, 1, ((False, 1), (2, 3), (4, 5))), ("full", 0, 1, ((0, True), (2, 3), (4, 5)))]:
            self.last(THREE, lines[:6], (("none",), wrong), False)
        self.last(FORK, FORK_LINES[:2], (("due", 0, True), ("sooner", 3, ((0, None), (1, None)))), False)
        self.last(FORK, FORK_LINES[:2], (("due", False, 1), ("sooner", 3, ((0, None), (1, None)))), False)
        self.last(FORK, FORK_LINES[:2], (("due", 0, 1), ("sooner", 3, ((False, None), (True, None)))), False)


class Bent(unittest.TestCase):
    """Right lists, and each list that comes of changing one place, against the second reading."""

    def check_bent(self, job, lines):
        self.assertIs(are_right(job, lines), True)
        kept = 0
        for other in bends(lines):
            wanted = reads_right(job, other)
            kept += wanted
            self.assertIs(are_right(job, other), wanted, (job, other))
            self.assertIs(judge(job, other), ends_in_none(job, other), (job, other))
        self.assertGreater(kept, 0)

    def test_the_examples(self):
        self.check_bent(FORK, FORK_LINES)
        self.check_bent(THREE, THREE_LINES)
        self.check_bent(Sooner.job, Sooner.start + [(("due", 0, 2), ("sooner", 4, ((0, None), (1, 2))))])
        self.check_bent(Full.job, Full.start + [(("none",), ("full", 1, 3, Full.three)),
                                                (("free", 3, -2), ("weaker", 8))])
        self.check_bent(Later.job, Later.start + [(("free", 1, 3), ("later", 0)), (("free", 1, 2), ("weaker", 1)),
                                                  (("free", 2, 3), ("later", 2))])

    def test_derivations(self):
        seen = 0
        for job in busy_jobs(150, 31, 4, 6):
            word, told = settle(job)
            if word == "none" and isinstance(told, list) and len(told) > 6:
                seen += 1
                self.check_bent(job, told)
        self.assertGreater(seen, 20)


if __name__ == "__main__":
    unittest.main()
