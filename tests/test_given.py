"""Points 2 and 4: arguments stay as they are, results belong to the caller, all is prompt."""

import copy
import inspect
import itertools
import time
import unittest

from common import BIG, JOB, NO_JOBS, lists_within
from duepairs import errors, jobs, plans

INTERFACE = {
    jobs: {"is_job": ["thing"], "is_narrow": ["job"], "is_behind": ["job", "a", "b"],
           "room": ["job", "s", "e"], "with_free": ["job", "t", "f"], "with_due": ["job", "t", "d"]},
    plans: {"is_plan": ["job", "thing"], "fault": ["job", "hours"], "listed": ["job", "order"]},
}

WIDE = ([1, 1, 2, 1], [None, 3, 0, 4], [(0, 1), (3, 2)], [3, 0, 1])

# Calls that return something: a function and its arguments.
ANSWERED = [
    (jobs.is_job, JOB), (jobs.is_narrow, JOB), (jobs.is_behind, JOB, 0, 2), (jobs.room, JOB, 1, 3),
    (jobs.with_free, JOB, 0, 5), (jobs.with_free, JOB, 2, 1), (jobs.with_due, JOB, 0, 5),
    (jobs.with_due, JOB, 1, 9), (plans.is_plan, JOB, [1, 2, 3]), (plans.is_plan, JOB, [[1], 2]),
    (plans.fault, JOB, [1, 2, 2]), (plans.fault, JOB, [1, 2, 3]), (plans.listed, JOB, [2, 1, 0]),
    (plans.listed, WIDE, [3, 2, 1, 0]), (jobs.with_free, WIDE, 3, 3), (jobs.with_due, WIDE, 1, 1),
    (jobs.with_free, ([], [], [], []), 0, 1),
]

# Calls that raise an error, and the names of these errors.
RAISED = [
    ((jobs.is_narrow, ([1], [], [], [])), "NoJob"), ((jobs.is_behind, JOB, [0], 1), "NoTask"),
    ((jobs.room, JOB, 0, [3]), "NoHour"), ((jobs.with_free, JOB, 3, 1), "NoTask"),
    ((jobs.with_free, JOB, 1, [2]), "NoHour"), ((jobs.with_due, JOB, 1, [-1]), "NoHour"),
    ((plans.is_plan, [JOB], [1]), "NoJob"), ((plans.fault, JOB, [1, [2], 3]), "NoHours"),
    ((plans.listed, JOB, [2, 1, 1]), "NoOrder"),
]
REFUSED = [call for call, _ in RAISED]


def called(call):
    try:
        return call[0](*call[1:])
    except errors.JobError as error:
        return error.__class__.__name__


class Interface(unittest.TestCase):
    def test_names_and_arguments(self):
        for module, functions in INTERFACE.items():
            for name, parameters in functions.items():
                function = getattr(module, name)
                self.assertEqual(list(inspect.signature(function).parameters), parameters)
                self.assertEqual(function.__module__, module.__name__)

    def test_arguments_by_name_in_any_order(self):
        for function, *arguments in ANSWERED[:-1]:
            names = INTERFACE[inspect.getmodule(function)][function.__name__]
            told = function(**dict(reversed(list(zip(names, arguments)))))
            self.assertEqual(told, function(*arguments))


class Arguments(unittest.TestCase):
    def test_they_are_as_before(self):
        for call in ANSWERED + REFUSED:
            arguments = copy.deepcopy(call[1:])
            held = [(part, list(part)) for part in lists_within(arguments)]
            called((call[0],) + arguments)
            self.assertEqual(repr(arguments), repr(call[1:]))
            for part, entries in held:
                self.assertEqual(len(part), len(entries))
                self.assertTrue(all(x is y for x, y in zip(part, entries)))

    def test_changing_them_later_changes_no_result(self):
        for call in ANSWERED:
            arguments = copy.deepcopy(call[1:])
            told = called((call[0],) + arguments)
            before = repr(told)
            for part in lists_within(arguments):
                part.append("changed")
                part[0] = "changed"
            self.assertEqual(repr(told), before)

    def test_the_same_list_in_several_places(self):
        same = [1, 2, 3]
        job = (same, same, [], same)
        order = [0, 1, 2]
        self.assertEqual(jobs.with_free(job, 0, 4), ([4, 2, 3], [1, 2, 3], [], [1, 2, 3]))
        self.assertEqual(jobs.with_due(job, 1, 0), ([1, 2, 3], [1, 0, 3], [], [1, 2, 3]))
        self.assertEqual(plans.fault(job, same), None)
        self.assertEqual(plans.listed(job, order), [1, 2, 3])
        self.assertEqual(same, [1, 2, 3])
        order = [1, 0]
        self.assertEqual(plans.listed(([1, 1], order, [], order), order), [3, 1])


class Results(unittest.TestCase):
    def test_their_lists_are_new(self):
        for call in ANSWERED:
            given = lists_within(call[1:])
            first = lists_within(called(call))
            second = lists_within(called(call))
            for one, other in itertools.combinations(given + first + second, 2):
                if any(one is part for part in first + second) or any(other is part for part in first):
                    self.assertIsNot(one, other)

    def test_no_list_stands_twice_in_one_result(self):
        same = [1, 1, 1]
        empty = []
        for job in [(same, same, empty, same), (empty, empty, empty, empty), JOB]:
            calls = [(jobs.with_free, job, 0, 2), (jobs.with_due, job, 0, 1), (jobs.with_due, job, 0, 9),
                     (jobs.with_free, job, 0, 1)]
            for call in calls:
                parts = lists_within(called(call))
                for one, other in itertools.combinations(parts, 2):
                    self.assertIsNot(one, other)
                for part in parts:
                    self.assertFalse(any(part is given for given in job))

    def test_changing_them_changes_nothing_told_later(self):
        for call in ANSWERED:
            before = repr(called(call))
            told = called(call)
            for part in lists_within(told):
                part.append("changed")
                part[0] = "changed"
            self.assertEqual(repr(called(call)), before)

    def test_the_same_question_has_the_same_answer(self):
        for call in ANSWERED + REFUSED:
            answers = [repr(called(call)) for _ in range(3)]
            for other in ANSWERED:
                called(other)
            answers.append(repr(called(call)))
            self.assertEqual(answers, answers[:1] * 4)

    def test_a_job_that_was_returned_is_a_job(self):
        job = jobs.with_due(jobs.with_free(JOB, 1, 2), 0, 1)
        self.assertIs(jobs.is_job(job), True)
        self.assertEqual(plans.listed(job, [0, 1, 2]), [1, 2, 3])


class Errors(unittest.TestCase):
    def test_each_is_a_job_error_and_a_value_error_and_no_other(self):
        classes = [value for value in vars(errors).values() if isinstance(value, type)]
        for call, name in RAISED:
            with self.assertRaises(ValueError) as caught:
                call[0](*call[1:])
            kinds = [kind.__name__ for kind in classes if isinstance(caught.exception, kind)]
            self.assertEqual(sorted(kinds), sorted(["JobError", name]))
            self.assertEqual(vars(caught.exception), {})

    def test_no_job_is_raised_before_any_other(self):
        for thing in NO_JOBS:
            for call in [(jobs.is_behind, thing, None, None), (jobs.room, thing, None, None),
                         (jobs.with_free, thing, None, None), (jobs.with_due, thing, None, None),
                         (plans.is_plan, thing, None), (plans.fault, thing, None),
                         (plans.listed, thing, None), (jobs.is_narrow, thing)]:
                self.assertEqual(called(call), "NoJob")

    def test_no_task_is_raised_before_no_hour(self):
        self.assertEqual(called((jobs.with_free, JOB, 3, 0)), "NoTask")
        self.assertEqual(called((jobs.with_due, JOB, 3, -1)), "NoTask")


class Promptness(unittest.TestCase):
    def prompt(self, *call):
        begun = time.perf_counter()
        told = called(call)
        self.assertLess(time.perf_counter() - begun, 5, call[0])
        return told

    def test_jobs_of_the_greatest_size(self):
        needs = [(a, b) for b in range(12) for a in range(b)][:30]
        job = ([40] * 12, [40] * 12, needs, [0] * 20)
        self.assertIs(self.prompt(jobs.is_job, job), True)
        self.assertIs(self.prompt(jobs.is_behind, job, 0, 7), True)
        self.assertEqual(self.prompt(jobs.room, job, 1, BIG), 2 * (BIG - 20))
        self.assertEqual(self.prompt(jobs.with_free, job, 0, 100)[0][0], 100)
        self.assertEqual(self.prompt(plans.listed, job, list(range(11, -1, -1)))[0], 41)
        self.assertEqual(self.prompt(plans.fault, job, [BIG] * 12), ("due", 0))

    def test_jobs_beyond_that(self):
        many = 2000
        row = [(t, t + 1) for t in range(many - 1)]
        job = ([1] * many, [None] * many, row, [0, 3] * 1000)
        self.assertIs(self.prompt(jobs.is_job, job), True)
        self.assertIs(self.prompt(jobs.is_job, job[:2] + (row + [(many - 1, 0)], [])), False)
        self.assertIs(self.prompt(jobs.is_behind, job, 0, many - 1), True)
        hours = self.prompt(plans.listed, job, list(range(many)))
        self.assertEqual(hours[:3] + hours[-1:], [2, 4, 6, 3000])
        self.assertIs(self.prompt(plans.is_plan, job, hours), True)
        self.assertEqual(self.prompt(plans.fault, job, [2] * many), ("need", 0, 1))

    def test_frees_of_30_figures(self):
        job = ([BIG, BIG - 1, 1, BIG], [None] * 4, [(3, 2)], [])
        self.assertEqual(self.prompt(plans.listed, job, [0, 1, 2, 3]), [BIG, BIG - 1, BIG + 1, BIG])

    def test_many_ways_through_the_needs(self):
        needs = [(a, b) for b in range(60) for a in range(b)]
        job = ([1] * 60, [None] * 60, needs, [])
        self.assertIs(self.prompt(jobs.is_behind, job, 0, 59), True)
        self.assertIs(self.prompt(jobs.is_behind, job, 59, 0), False)


if __name__ == "__main__":
    unittest.main()
