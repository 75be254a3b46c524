"""Points 2 and 4: arguments stay as they are, results belong to the caller, all is prompt."""

import copy
import inspect
import itertools
import time
import unittest

from common import BIG, JOB, NEITHER, NO_JOBS, SEARCHED, broad_jobs, busy_jobs, lists_within
from duepairs import board, bounds, errors, jobs, lines, listing, plans, settling, texts, trees

INTERFACE = {
    jobs: {"is_job": ["thing"], "is_narrow": ["job"], "is_behind": ["job", "a", "b"],
           "room": ["job", "s", "e"], "with_free": ["job", "t", "f"], "with_due": ["job", "t", "d"]},
    plans: {"is_plan": ["job", "thing"], "fault": ["job", "hours"], "listed": ["job", "order"]},
    lines: {"are_right": ["job", "lines"], "judge": ["job", "lines"]},
    trees: {"is_tree": ["job", "thing"]},
    settling: {"settle": ["job"], "closed": ["job"], "lines_for": ["job", "statement"]},
    bounds: {"earliest": ["job", "t"], "latest": ["job", "t"], "always_ahead": ["job", "a", "b"],
             "needed_delay": ["job"], "fewest_hours": ["job"]},
    listing: {"all_plans": ["job", "last"], "all_inside": ["one", "other"]},
    board: {"Board": ["rooms"]},
    texts: {"job_text": ["job"], "read_job": ["text"], "lines_text": ["lines"], "read_lines": ["text"],
            "chart": ["hours"]},
}

WIDE = ([1, 1, 2, 1], [None, 3, 0, 4], [(0, 1), (3, 2)], [3, 0, 1])

THREE = ([1, 1, 1], [1, 1, 1], [], [])
DERIVATION = [
    (("due", 0, 1), ("given",)), (("free", 0, 1), ("given",)), (("due", 1, 1), ("given",)),
    (("free", 1, 1), ("given",)), (("due", 2, 1), ("given",)), (("free", 2, 1), ("given",)),
    (("none",), ("full", 0, 1, ((0, 1), (2, 3), (4, 5)))),
]

# A job of which the task 2 is always ahead of the task 0, though they have hours in common.
AHEAD = ([3, 3, 1], [None, 5, 5], [], [0, 1, 1, 0, 1])


def plans_told(job, last):
    return list(listing.all_plans(job, last))


def board_told(job):
    told = board.Board.of(job)
    return (told.job(), told.rooms, told.settle(), told.back())


def boards_told(rooms, deeds, others):
    told = board.Board(rooms)
    told.do(deeds)
    told.set_rooms(others)
    told.rooms = others
    both = told & told
    told &= both
    return (told.job(), both.job(), told.rooms, both.rooms)


def need_refused(job, a, b):
    try:
        board.Board.of(job).need(a, b)
    except errors.BadNeed as error:
        return error.ring


def board_joined(one, other):
    return (board.Board.of(one) & board.Board.of(other)).job()


# Calls that return something: a function and its arguments.
ANSWERED = [
    (jobs.is_job, JOB), (jobs.is_narrow, JOB), (jobs.is_behind, JOB, 0, 2), (jobs.room, JOB, 1, 3),
    (jobs.with_free, JOB, 0, 5), (jobs.with_free, JOB, 2, 1), (jobs.with_due, JOB, 0, 5),
    (jobs.with_due, JOB, 1, 9), (plans.is_plan, JOB, [1, 2, 3]), (plans.is_plan, JOB, [[1], 2]),
    (plans.fault, JOB, [1, 2, 2]), (plans.fault, JOB, [1, 2, 3]), (plans.listed, JOB, [2, 1, 0]),
    (plans.listed, WIDE, [3, 2, 1, 0]), (jobs.with_free, WIDE, 3, 3), (jobs.with_due, WIDE, 1, 1),
    (lines.are_right, THREE, DERIVATION), (lines.are_right, THREE, [[[1], 2], "x"]),
    (lines.judge, THREE, DERIVATION), (lines.judge, JOB, [[]]), (lines.are_right, JOB, []),
    (trees.is_tree, THREE, DERIVATION), (trees.is_tree, THREE, (0, 3, DERIVATION, [[1]])),
    (trees.is_tree, JOB, [DERIVATION, [2]]), (settling.settle, JOB), (settling.settle, WIDE),
    (settling.settle, THREE), (settling.settle, NEITHER[0]), (settling.settle, NEITHER[-1]),
    (settling.settle, SEARCHED[0]), (settling.settle, ([], [], [], [])), (settling.closed, JOB),
    (settling.closed, THREE), (settling.closed, NEITHER[3]), (settling.closed, ([], [], [], [])),
    (settling.lines_for, JOB, ("due", 0, 2)), (settling.lines_for, JOB, ("free", 2, 1)),
    (settling.lines_for, JOB, ("none",)), (settling.lines_for, THREE, ("due", 1, -3)),
    (settling.lines_for, THREE, ("none",)), (bounds.earliest, JOB, 1), (bounds.latest, JOB, 0),
    (bounds.latest, ([1], [None], [], []), 0), (bounds.always_ahead, JOB, 0, 1), (bounds.always_ahead, JOB, 1, 0),
    (bounds.always_ahead, AHEAD, 2, 0), (bounds.needed_delay, JOB), (bounds.needed_delay, THREE),
    (bounds.needed_delay, ([], [], [], [])), (bounds.fewest_hours, JOB), (bounds.fewest_hours, ([], [], [], [])),
    (listing.all_inside, JOB, JOB), (listing.all_inside, AHEAD, JOB), (listing.all_inside, JOB, AHEAD),
    (texts.job_text, JOB), (texts.read_job, "task 1\ntask 2 3\nneed 1 0\nrooms 1"), (texts.read_job, ""),
    (texts.lines_text, DERIVATION), (texts.read_lines, "0: none full 0 1 (0,1) (2,)"), (texts.read_lines, ""),
    (texts.chart, [3, 1]), (plans_told, JOB, 4), (plans_told, ([], [], [], []), 4), (board_told, JOB),
    (board_told, WIDE), (boards_told, [1, 2], [("add", 1, 2), ("rooms", [3]), ("add", 2, None), ("need", 1, 0)], (1,)),
    (boards_told, (3,), [("add", 1, 2), ("drop",)], [1, 2]), (need_refused, JOB, 1, 0), (board_joined, JOB, AHEAD),
    (board_joined, JOB, JOB),
    (jobs.with_free, ([], [], [], []), 0, 1),
]

# Calls that raise an error, and the names of these errors.
RAISED = [
    ((jobs.is_narrow, ([1], [], [], [])), "NoJob"), ((jobs.is_behind, JOB, [0], 1), "NoTask"),
    ((jobs.room, JOB, 0, [3]), "NoHour"), ((jobs.with_free, JOB, 3, 1), "NoTask"),
    ((jobs.with_free, JOB, 1, [2]), "NoHour"), ((jobs.with_due, JOB, 1, [-1]), "NoHour"),
    ((plans.is_plan, [JOB], [1]), "NoJob"), ((plans.fault, JOB, [1, [2], 3]), "NoHours"),
    ((plans.listed, JOB, [2, 1, 1]), "NoOrder"), ((lines.are_right, [JOB], DERIVATION), "NoJob"),
    ((lines.judge, None, [[1]]), "NoJob"), ((trees.is_tree, list(JOB), DERIVATION), "NoJob"),
    ((settling.settle, ([1], [[1]], [], [])), "NoJob"), ((settling.closed, [[], [], [], []]), "NoJob"),
    ((settling.lines_for, ([], [], [[1]], []), ("none",)), "NoJob"),
    ((settling.lines_for, JOB, ["none"]), "NoStatement"),
    ((settling.lines_for, JOB, ("free", [0], 1)), "NoStatement"),
    ((bounds.earliest, WIDE, 0), "NotNarrow"), ((bounds.latest, JOB, [0]), "NoTask"),
    ((bounds.always_ahead, THREE, 0, 1), "NoPlan"), ((bounds.needed_delay, [JOB]), "NoJob"),
    ((bounds.fewest_hours, THREE), "NoPlan"), ((plans_told, JOB, [1]), "NoHour"), ((plans_told, WIDE, 1), "NotNarrow"),
    ((listing.all_inside, JOB, WIDE), "Unlike"), ((listing.all_inside, WIDE, WIDE), "NotNarrow"),
    ((board.Board, [[1]]), "NoRooms"), ((board.Board.of, [JOB]), "NoJob"), ((boards_told, (), [1], [1]), "BadDeed"),
    ((boards_told, (), ([1],), [1]), "NoDeeds"), ((boards_told, (), [], [[2]]), "NoRooms"),
    ((board_joined, JOB, WIDE), "Unlike"),
    ((board_joined, ([1, 1], [1, 1], [(0, 1)], []), ([1, 1], [1, 1], [(1, 0)], [])), "BadNeed"),
    ((texts.job_text, [JOB]), "NoJob"), ((texts.read_job, "\n"), "NoText"), ((texts.read_lines, "\n"), "NoText"),
    ((texts.chart, [[1]]), "NoHours"),
]
REFUSED = [call for call, _ in RAISED]


def called(call):
    try:
        return call[0](*call[1:])
    except errors.JobError as error:
        return error.__class__.__name__


class Interface(unittest.TestCase):
    def test_names_and_arguments(self):
        for module, functions in INTERFACE.items():
            for name, parameters in functions.items():
                function = getattr(module, name)
                self.assertEqual(list(inspect.signature(function).parameters), parameters)
                self.assertEqual(function.__module__, module.__name__)

    def test_arguments_by_name_in_any_order(self):
        for function, *arguments in ANSWERED[:-1]:
            names = INTERFACE.get(inspect.getmodule(function), {}).get(function.__name__)
            names = names or list(inspect.signature(function).parameters)
            told = function(**dict(reversed(list(zip(names, arguments)))))
            self.assertEqual(told, function(*arguments))


class Arguments(unittest.TestCase):
    def test_they_are_as_before(self):
        for call in ANSWERED + REFUSED:
            arguments = copy.deepcopy(call[1:])
            held = [(part, list(part)) for part in lists_within(arguments)]
            called((call[0],) + arguments)
            self.assertEqual(repr(arguments), repr(call[1:]))
            for part, entries in held:
                self.assertEqual(len(part), len(entries))
                self.assertTrue(all(x is y for x, y in zip(part, entries)))

    def test_changing_them_later_changes_no_result(self):
        for call in ANSWERED:
            arguments = copy.deepcopy(call[1:])
            told = called((call[0],) + arguments)
            before = repr(told)
            for part in lists_within(arguments):
                part.append("changed")
                part[0] = "changed"
            self.assertEqual(repr(told), before)

    def test_the_same_list_in_several_places(self):
        same = [1, 2, 3]
        job = (same, same, [], same)
        order = [0, 1, 2]
        self.assertEqual(jobs.with_free(job, 0, 4), ([4, 2, 3], [1, 2, 3], [], [1, 2, 3]))
        self.assertEqual(jobs.with_due(job, 1, 0), ([1, 2, 3], [1, 0, 3], [], [1, 2, 3]))
        self.assertEqual(plans.fault(job, same), None)
        self.assertEqual(plans.listed(job, order), [1, 2, 3])
        self.assertEqual(same, [1, 2, 3])
        order = [1, 0]
        self.assertEqual(plans.listed(([1, 1], order, [], order), order), [3, 1])


class Results(unittest.TestCase):
    def test_their_lists_are_new(self):
        for call in ANSWERED:
            given = lists_within(call[1:])
            first = lists_within(called(call))
            second = lists_within(called(call))
            for one, other in itertools.combinations(given + first + second, 2):
                if any(one is part for part in first + second) or any(other is part for part in first):
                    self.assertIsNot(one, other)

    def test_no_list_stands_twice_in_one_result(self):
        same = [1, 1, 1]
        empty = []
        for job in [(same, same, empty, same), (empty, empty, empty, empty), JOB]:
            calls = [(jobs.with_free, job, 0, 2), (jobs.with_due, job, 0, 1), (jobs.with_due, job, 0, 9),
                     (jobs.with_free, job, 0, 1)]
            for call in calls:
                parts = lists_within(called(call))
                for one, other in itertools.combinations(parts, 2):
                    self.assertIsNot(one, other)
                for part in parts:
                    self.assertFalse(any(part is given for given in job))

    def test_changing_them_changes_nothing_told_later(self):
        for call in ANSWERED:
            before = repr(called(call))
            told = called(call)
            for part in lists_within(told):
                part.append("changed")
                part[0] = "changed"
            self.assertEqual(repr(called(call)), before)

    def test_the_same_question_has_the_same_answer(self):
        for call in ANSWERED + REFUSED:
            answers = [repr(called(call)) for _ in range(3)]
            for other in ANSWERED:
                called(other)
            answers.append(repr(called(call)))
            self.assertEqual(answers, answers[:1] * 4)

    def test_a_job_that_was_returned_is_a_job(self):
        job = jobs.with_due(jobs.with_free(JOB, 1, 2), 0, 1)
        self.assertIs(jobs.is_job(job), True)
        self.assertEqual(plans.listed(job, [0, 1, 2]), [1, 2, 3])


class Errors(unittest.TestCase):
    def test_each_is_a_job_error_and_a_value_error_and_no_other(self):
        classes = [value for value in vars(errors).values() if isinstance(value, type)]
        for call, name in RAISED:
            with self.assertRaises(ValueError) as caught:
                call[0](*call[1:])
            kinds = [kind.__name__ for kind in classes if isinstance(caught.exception, kind)]
            self.assertEqual(sorted(kinds), sorted(["JobError", name]))
            told = {"BadNeed": ["ring"], "BadDeed": ["place", "kind"], "NoText": ["line"]}
            self.assertEqual(list(vars(caught.exception)), told.get(name, []))

    def test_no_job_is_raised_before_any_other(self):
        for thing in NO_JOBS:
            for call in [(jobs.is_behind, thing, None, None), (jobs.room, thing, None, None),
                         (jobs.with_free, thing, None, None), (jobs.with_due, thing, None, None),
                         (plans.is_plan, thing, None), (plans.fault, thing, None),
                         (plans.listed, thing, None), (jobs.is_narrow, thing),
                         (lines.are_right, thing, None), (lines.judge, thing, None),
                         (trees.is_tree, thing, None), (settling.settle, thing),
                         (settling.closed, thing), (settling.lines_for, thing, None),
                         (bounds.earliest, thing, None), (bounds.latest, thing, None),
                         (bounds.always_ahead, thing, None, None), (bounds.needed_delay, thing),
                         (bounds.fewest_hours, thing), (plans_told, thing, None), (listing.all_inside, thing, thing),
                         (listing.all_inside, thing, WIDE), (listing.all_inside, WIDE, thing), (board_told, thing),
                         (texts.job_text, thing)]:
                self.assertEqual(called(call), "NoJob")

    def test_no_task_is_raised_before_no_hour(self):
        self.assertEqual(called((jobs.with_free, JOB, 3, 0)), "NoTask")
        self.assertEqual(called((jobs.with_due, JOB, 3, -1)), "NoTask")
    def test_no_job_is_raised_before_no_statement(self):
        self.assertEqual(called((settling.lines_for, list(JOB), ("free", 9, 1))), "NoJob")
        self.assertEqual(called((settling.lines_for, JOB, ("free", 9, 1))), "NoStatement")


class Promptness(unittest.TestCase):
    def prompt(self, *call):
        begun = time.perf_counter()
        told = called(call)
        self.assertLess(time.perf_counter() - begun, 5, call[0])
        return told

    def test_jobs_of_the_greatest_size(self):
        needs = [(a, b) for b in range(12) for a in range(b)][:30]
        job = ([40] * 12, [40] * 12, needs, [0] * 20)
        self.assertIs(self.prompt(jobs.is_job, job), True)
        self.assertIs(self.prompt(jobs.is_behind, job, 0, 7), True)
        self.assertEqual(self.prompt(jobs.room, job, 1, BIG), 2 * (BIG - 20))
        self.assertEqual(self.prompt(jobs.with_free, job, 0, 100)[0][0], 100)
        self.assertEqual(self.prompt(plans.listed, job, list(range(11, -1, -1)))[0], 41)
        self.assertEqual(self.prompt(plans.fault, job, [BIG] * 12), ("due", 0))

    def test_jobs_beyond_that(self):
        many = 2000
        row = [(t, t + 1) for t in range(many - 1)]
        job = ([1] * many, [None] * many, row, [0, 3] * 1000)
        self.assertIs(self.prompt(jobs.is_job, job), True)
        self.assertIs(self.prompt(jobs.is_job, job[:2] + (row + [(many - 1, 0)], [])), False)
        self.assertIs(self.prompt(jobs.is_behind, job, 0, many - 1), True)
        hours = self.prompt(plans.listed, job, list(range(many)))
        self.assertEqual(hours[:3] + hours[-1:], [2, 4, 6, 3000])
        self.assertIs(self.prompt(plans.is_plan, job, hours), True)
        self.assertEqual(self.prompt(plans.fault, job, [2] * many), ("need", 0, 1))

    def test_frees_of_30_figures(self):
        job = ([BIG, BIG - 1, 1, BIG], [None] * 4, [(3, 2)], [])
        self.assertEqual(self.prompt(plans.listed, job, [0, 1, 2, 3]), [BIG, BIG - 1, BIG + 1, BIG])

    def test_many_ways_through_the_needs(self):
        needs = [(a, b) for b in range(60) for a in range(b)]
        job = ([1] * 60, [None] * 60, needs, [])
        self.assertIs(self.prompt(jobs.is_behind, job, 0, 59), True)
        self.assertIs(self.prompt(jobs.is_behind, job, 59, 0), False)

    def settled(self, job):
        """Asks all of a job that stage 3 can be asked."""
        word, thing = self.prompt(settling.settle, job)
        self.prompt(settling.closed, job)
        self.prompt(settling.lines_for, job, ("none",))
        for t in range(len(job[0])):
            self.prompt(settling.lines_for, job, ("due", t, 40))
            self.prompt(settling.lines_for, job, ("free", t, 2))
        if word == "none":
            self.assertIs(self.prompt(trees.is_tree, job, thing), True)
            self.prompt(lines.judge, job, thing)
        return word

    def test_settling_jobs_of_the_greatest_size(self):
        needs = [(a, b) for b in range(12) for a in range(b)]
        for many, top in [(12, 2), (9, 3)]:
            for some in [[], needs[:30], needs]:
                some = [(a, b) for a, b in some if b < many]
                for due in [None, 1, 5, 12, 20, 26, 40]:
                    for rooms in [[], [0] * 20, [0, 0, 0, top] * 5, [0] * 16 + [top] * 4, [top] * 20, [1, 0, 0, 0] * 5]:
                        self.settled(([1] * many, [due] * many, some, rooms))
                        self.settled(([40] * many, [due] * many, some, rooms))

    def test_settling_jobs_of_all_kinds(self):
        told = [self.settled(job) for job in broad_jobs(30, 5, 2) + broad_jobs(30, 7, 3) + busy_jobs(30, 11, 9, 12, 2)
                + busy_jobs(30, 13, 8, 9) + NEITHER + SEARCHED]
        self.assertEqual(sorted(set(told)), ["none", "plan"])

    def test_jobs_with_neither_late_and_far_apart(self):
        # Many hours without room are put in front of, and between, those of the job.
        for frees, dues, needs, rooms in NEITHER[:9]:
            for gap in range(20 // len(rooms)):
                sparse = [places for room in rooms for places in [0] * gap + [room]]
                late = [None if due is None else min(due, len(rooms)) * (gap + 1) for due in dues]
                begun = [(free - 1) * (gap + 1) + 1 for free in frees]
                self.assertEqual(self.settled((begun, late, needs, sparse)), "none")

    def test_hours_of_100(self):
        # with_free and with_due can be given such hours.
        for many, rooms in [(12, [2, 0]), (9, [3, 0])]:
            needs = [(a, b) for b in range(many) for a in range(b)][:30]
            job = ([1] * many, [None] * many, needs, rooms)
            for t in range(many):
                job = jobs.with_due(job, t, 100)
            self.settled(job)
            for t in range(many):
                job = jobs.with_free(job, t, 96)
            self.settled(job)

    def bounded(self, job):
        """Asks all of a narrow job that stages 4 to 7 can be asked."""
        delay = self.prompt(bounds.needed_delay, job)
        if delay[0] == 0:
            self.prompt(bounds.fewest_hours, job)
            for t in range(len(job[0])):
                self.prompt(bounds.earliest, job, t)
                self.prompt(bounds.latest, job, t)
                self.prompt(bounds.always_ahead, job, t, 0)
                self.prompt(bounds.always_ahead, job, 0, t)
        self.assertEqual(self.prompt(texts.read_job, self.prompt(texts.job_text, job)), job)
        self.assertEqual(self.prompt(board_told, job)[0], job)
        self.prompt(board_joined, job, job)
        return delay[0] == 0

    def test_bounds_of_jobs_of_the_greatest_size(self):
        needs = [(a, b) for b in range(12) for a in range(b)]
        for some in [[], needs[:30], needs]:
            for due in [None, 12, 40]:
                for rooms in [[], [0] * 16 + [2] * 4, [1, 0, 0, 0] * 5]:
                    self.bounded(([1] * 12, [due] * 12, some, rooms))
                    self.bounded(([40] * 12, [due] * 12, some, rooms))

    def test_bounds_of_jobs_of_all_kinds(self):
        told = [self.bounded(job) for job in broad_jobs(30, 17, 2) + busy_jobs(30, 19, 9, 12, 2)]
        self.assertEqual(sorted(set(told)), [False, True])

    def test_boards_of_all_needs(self):
        needs = [(a, b) for b in range(12) for a in range(b)]
        one = ([1] * 12, [40] * 12, needs[:30], [2] * 20)
        other = ([1] * 12, [40] * 12, needs[25:], [0, 2] * 10)
        self.assertEqual(self.prompt(board_joined, one, other)[2], needs)
        back = ([1] * 12, [40] * 12, [(11, 0)], [])
        self.assertEqual(self.prompt(board_joined, (one[0], one[1], needs, []), back), "BadNeed")
        self.prompt(need_refused, (one[0], one[1], needs, []), 11, 0)

    def test_lines_of_50000_parts(self):
        begun = DERIVATION[:6]
        self.assertIs(self.prompt(lines.are_right, THREE, begun * 1200), True)
        self.assertIs(self.prompt(lines.judge, THREE, begun * 1200), False)
        for parts in [((0, 1),) * 16000, ((0, 1), (2, 3), (4, 5)) * 5000]:
            self.assertIs(self.prompt(lines.judge, THREE, begun + [(("none",), ("full", 0, 1, parts))]), False)
        weak = begun + [(("free", 0, -at), ("weaker", at + 5 if at else 1)) for at in range(6000)]
        self.assertIs(self.prompt(lines.are_right, THREE, weak), True)
        self.assertIs(self.prompt(lines.judge, THREE, begun + DERIVATION[6:] * 2500), True)

    def test_trees_of_50000_parts(self):
        job = ([1] * 4, [1, 1, 1, None], [], [])
        broad = DERIVATION
        for h in range(9):
            broad = (3, h, broad, broad)
        self.assertIs(self.prompt(trees.is_tree, job, broad), True)
        self.assertIs(self.prompt(trees.is_tree, job, (3, 7, broad, broad[:3])), False)
        far = DERIVATION
        for h in range(1500):
            far = (3, h, far, DERIVATION) if h % 2 else (3, h, DERIVATION, far)
        self.assertIs(self.prompt(trees.is_tree, job, far), True)


if __name__ == "__main__":
    unittest.main()
