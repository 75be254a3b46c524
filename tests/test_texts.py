"""Points 17 and 18: texts of jobs and of lines, and charts."""

import unittest

from common import BIG, JOB, NEITHER, NO_JOBS, NOT_WHOLE, SEARCHED, Case, broad_jobs, busy_jobs, deep, some_jobs
from duepairs.errors import NoHours, NoJob, NoText
from duepairs.jobs import is_job
from duepairs.settling import lines_for, settle
from duepairs.texts import chart, job_text, lines_text, read_job, read_lines
from plain import bent_texts, first_bad_line, first_bad_row, job_of_rows

EMPTY = ([], [], [], [])
FORK = ([1, 1, 1], [None, 3, 3], [(0, 1), (0, 2)], [2, 2, 1])
FORK_TEXT = "task 1\ntask 1 3\ntask 1 3\nneed 0 1\nneed 0 2\nrooms 2 2 1"

# One line of each kind, as the document writes them.
LINES = [
    (("free", 2, 2), ("given",)), (("due", 2, 4), ("given",)), (("free", 3, 4), ("later", 0)),
    (("due", 0, 1), ("sooner", 4, ((1, None), (5, 2)))), (("none",), ("full", 0, 2, ((1, 0), (4, 3)))),
    (("due", 0, 3), ("weaker", 3)),
]
LINES_TEXT = ("0: free 2 >= 2 given\n1: due 2 <= 4 given\n2: free 3 >= 4 later 0\n"
              "3: due 0 <= 1 sooner 4 (1,) (5,2)\n4: none full 0 2 (1,0) (4,3)\n5: due 0 <= 3 weaker 3")

# Lines that are not right, but can be written.
WRONG_LINES = [
    (("none",), ("given",)), (("none",), ("later", BIG)), (("none",), ("weaker", 0)), (("none",), ("sooner", -1, ())),
    (("none",), ("full", -BIG, -2, ())), (("free", 0, -BIG), ("full", 0, 0, ((7, None),))),
    (("due", BIG, 0), ("given",)),
    (("due", 10, -1), ("later", 10)), (("free", 0, 0), ("sooner", 0, ((0, 0), (0, 0), (10, 20), (0, None)))),
]


class Examples(unittest.TestCase):
    def test_the_documents_examples(self):
        self.assertEqual(job_text(FORK), FORK_TEXT)
        self.assertEqual(chart([1, 2, 2]), "  1:   0\n  2:   1   2")
        self.assertEqual(
            lines_text([(("due", 1, 3), ("given",)), (("due", 0, 1), ("sooner", 3, ((0, None), (4, 2))))]),
            "0: due 1 <= 3 given\n1: due 0 <= 1 sooner 3 (0,) (4,2)")


class TextCase(Case):
    def bad(self, function, text, line):
        """The text raises NoText with this line."""
        with self.assertRaises(ValueError, msg=repr(text)) as caught:
            function(text)
        self.assertIs(type(caught.exception), NoText, text)
        self.assertEqual(vars(caught.exception), {"line": line}, text)
        self.assertIs(type(caught.exception.line), int)
        with self.assertRaises(NoText):
            function(text=text)


class Jobs(TextCase):
    def both_ways(self, job, text):
        self.assertEqual(job_text(job), text)
        self.assertEqual(job_text(job=job), text)
        self.assertEqual(read_job(text), job)
        self.assertEqual(read_job(text=text), job)
        self.assertIs(is_job(read_job(text)), True)

    def test_each_line(self):
        self.both_ways(EMPTY, "")
        self.both_ways(([], [], [], [3]), "rooms 3")
        self.both_ways(([], [], [], [0, 0]), "rooms 0 0")
        self.both_ways(([1], [None], [], []), "task 1")
        self.both_ways(([1], [0], [], []), "task 1 0")
        self.both_ways(([40], [10], [], [2]), "task 40 10\nrooms 2")
        self.both_ways(([BIG], [BIG], [], []), f"task {BIG} {BIG}")
        self.both_ways(([1, 1], [None, None], [(1, 0)], []), "task 1\ntask 1\nneed 1 0")
        self.both_ways(FORK, FORK_TEXT)
        self.both_ways(([1] * 12, [None] * 12, [(11, 10), (10, 0)], []), "\n".join(["task 1"] * 12) +
                       "\nneed 11 10\nneed 10 0")

    def test_all_kinds(self):
        for job in some_jobs(100, 401, most_tasks=6) + broad_jobs(40, 403, 3) + busy_jobs(40, 409, 5, 12) + NEITHER:
            text = job_text(job)
            self.both_ways(job, text)
            self.assertIsNone(first_bad_line(text))
            self.assertEqual(job_of_rows(text.split("\n")) if text else EMPTY, job)

    def test_more_needs_than_30(self):
        needs = [(a, b) for b in range(12) for a in range(b)]
        job = ([1] * 12, [40] * 12, needs, [3] * 20)
        self.both_ways(job, job_text(job))

    def test_lines_that_cannot_stand(self):
        for text, line in [
                ("\n", 1), ("task 1\n", 2), ("\ntask 1", 1), ("task 1\n\ntask 1", 2), (" ", 1), ("task", 1),
                ("task 0", 1), ("task 01", 1), ("task 1 01", 1), ("task 1 00", 1), ("task 1  2", 1), ("task 1 2 3", 1),
                (" task 1", 1), ("task 1 ", 1), ("task  1", 1), ("task -1", 1), ("task 1 -1", 1), ("task +1", 1),
                ("task 1 None", 1), ("Task 1", 1), ("task1", 1), ("task 1.0", 1), ("task 1_0", 1), ("tasks 1", 1),
                ("job", 1), ("0", 1), ("task 1\nneed 0 1", 2), ("task 1\nneed 0 0", 2), ("need 0 1", 1),
                ("need 0 1\ntask 1\ntask 1", 1), ("task 1\nneed 0 1\ntask 1", 2),
                ("task 1\ntask 1\nneed 0 2\ntask 1", 3),
                ("task 1\ntask 1\nneed 0 1\ntask 1", 4), ("task 1\ntask 1\nneed 0 1\nneed 0 1", 4),
                ("task 1\ntask 1\nneed 0 1\nneed 1 0", 4), ("task 1\ntask 1\nneed 0", 3), ("task 1\ntask 1\nneed", 3),
                ("task 1\ntask 1\nneed 0 1 0", 3), ("task 1\ntask 1\nneed 00 1", 3), ("task 1\ntask 1\nneed -0 1", 3),
                ("task 1\ntask 1\ntask 1\nneed 0 1\nneed 1 2\nneed 2 0", 6), ("task 1\ntask 1\nneed 0 -1", 3),
                ("rooms", 1), ("rooms ", 1), ("rooms 4", 1), ("rooms 2 4", 1), ("rooms 02", 1), ("rooms -1", 1),
                ("rooms 1\nrooms 1", 2), ("rooms 1\ntask 1", 2), ("rooms 1\n", 2), ("rooms 0\nneed 0 1", 2),
                ("task 1\ntask 1\nrooms 1\nneed 0 1", 4), ("task 1\nrooms 1\ntask 0", 3), ("room 1", 1),
                ("rooms 1, 2", 1), ("task 1\nrooms 2 x\n\n", 2), ("x\ny", 1), ("task 1\ntask 2\nx\ny", 3),
                ("rooms 22", 1), ("task 1 2\nrooms 1 1 1 1 1 1 1 1 1 1 1 5", 2), ("~" * 2000, 1), ("\n" * 2000, 1),
                ("0" * 2000, 1), ("task " + "0" * 1995, 1)]:
            self.bad(read_job, text, line)
            self.assertEqual(first_bad_line(text), line, text)

    def test_bent_texts(self):
        bad = good = 0
        for job in [FORK, ([2, 1], [None, 0], [(1, 0)], [3]), ([1], [10], [], []), ([], [], [], [1, 0])]:
            for text in bent_texts(job_text(job)):
                line = first_bad_line(text)
                if line is None:
                    good += 1
                    self.both_ways(job_of_rows(text.split("\n")) if text else EMPTY, text)
                else:
                    bad += 1
                    self.bad(read_job, text, line)
        self.assertGreater(bad, 3000)
        self.assertGreater(good, 100)

    def test_long_texts(self):
        for text in ["rooms" + " 1" * 997, "\n".join(["task 1"] * 285), "task " + "9" * 1995]:
            self.assertEqual(job_text(read_job(text)), text)
        self.bad(read_job, "rooms" + " 1" * 996 + " 4", 1)
        self.bad(read_job, "\n".join(["task 1"] * 284 + ["task"]), 285)

    def test_no_job(self):
        for thing in NO_JOBS:
            self.raises(NoJob, job_text, thing)

    def test_lists_belong_to_the_caller(self):
        for part in read_job(FORK_TEXT):
            part.clear()
        self.assertEqual(read_job(FORK_TEXT), FORK)
        before = repr(JOB)
        job_text(JOB)
        self.assertEqual(repr(JOB), before)
        self.assertEqual(len({id(part) for part in read_job("")}), 4)


class Lines(TextCase):
    def both_ways(self, lines, text):
        self.assertEqual(lines_text(lines), text)
        self.assertEqual(lines_text(lines=lines), text)
        told = read_lines(text)
        self.assertEqual(told, lines)
        self.assertEqual(read_lines(text=text), lines)
        # No list stands for a tuple in it, and no True for a 1.
        self.assertEqual(repr(told), repr(lines))

    def test_each_line(self):
        self.both_ways([], "")
        self.both_ways(LINES, LINES_TEXT)
        self.both_ways(WRONG_LINES, "\n".join([
            "0: none given", f"1: none later {BIG}", "2: none weaker 0", "3: none sooner -1", f"4: none full {-BIG} -2",
            f"5: free 0 >= {-BIG} full 0 0 (7,)", f"6: due {BIG} <= 0 given", "7: due 10 <= -1 later 10",
            "8: free 0 >= 0 sooner 0 (0,0) (0,0) (10,20) (0,)"]))
        self.both_ways([(("none",), ("sooner", 0, ((0, None),)))], "0: none sooner 0 (0,)")

    def test_more_than_ten_lines(self):
        lines = [(("free", t, 1), ("weaker", t)) for t in range(120)]
        self.both_ways(lines, "\n".join([f"{t}: free {t} >= 1 weaker {t}" for t in range(120)]))

    def test_derivations(self):
        seen = 0
        for job in busy_jobs(100, 419, 3, 9) + broad_jobs(40, 421, 2):
            for t in range(len(job[0])):
                lines = lines_for(job, ("due", t, 5))
                if lines is not None:
                    seen += 1
                    text = lines_text(lines)
                    self.both_ways(lines, text)
                    self.assertIsNone(first_bad_row(text))
        self.assertGreater(seen, 200)

    def test_lines_that_cannot_stand(self):
        for text, line in [
                ("\n", 1), ("0: none given\n", 2), ("\n0: none given", 1), ("1: none given", 1), ("00: none given", 1),
                ("0 none given", 1), ("0:none given", 1), ("0:  none given", 1), ("0: none", 1), ("0:", 1), ("0: ", 1),
                ("0", 1), (" 0: none given", 1), ("0: none given ", 1), ("0: none  given", 1), ("0: given", 1),
                ("0: none given 0", 1), ("0: None given", 1), ("0: none Given", 1), ("0: none 1 given", 1),
                ("0: none given\n2: none given", 2), ("0: none given\n0: none given", 2), ("-0: none given", 1),
                ("0: none given\n1: none given\n3: none given\n4: x", 3), ("0: none given\n\n1: none given", 2),
                ("0: free 0 >= 1", 1), ("0: free 0 > 1 given", 1), ("0: free 0 <= 1 given", 1),
                ("0: due 0 >= 1 given", 1), ("0: none 0 >= 1 given", 1), ("0: free -1 >= 1 given", 1),
                ("0: free 0 >= 01 given", 1), ("0: free 0 >= -0 given", 1), ("0: free 00 >= 1 given", 1),
                ("0: free 0 >= --1 given", 1), ("0: free 0 >= - given", 1), ("0: free 0 >= None given", 1),
                ("0: due 0 <= +1 given", 1), ("0: free 0 >= 1 1 given", 1), ("0: later 0 >= 1 given", 1),
                ("0: none later", 1), ("0: none later -1", 1), ("0: none later 0 0", 1), ("0: none weaker None", 1),
                ("0: none weaker 00", 1), ("0: none sooner", 1), ("0: none sooner (0,)", 1), ("0: none sooner 00", 1),
                ("0: none sooner 1 2", 1), ("0: none sooner 1 (0)", 1), ("0: none sooner 1 (,)", 1),
                ("0: none sooner 1 (0,1,)", 1), ("0: none sooner 1 (0, 1)", 1), ("0: none sooner 1 (-1,)", 1),
                ("0: none sooner 1 (0,-1)", 1), ("0: none sooner 1 (00,)", 1), ("0: none sooner 1 (0,00)", 1),
                ("0: none sooner 1 (0,None)", 1), ("0: none sooner 1 0,1", 1), ("0: none sooner 1 (0,1", 1),
                ("0: none sooner 1 0,1)", 1), ("0: none sooner 1 ()", 1), ("0: none sooner 1 (", 1),
                ("0: none sooner 1 ((0,1))", 1), ("0: none sooner 1 (0,1)(2,3)", 1), ("0: none sooner 1  (0,1)", 1),
                ("0: none sooner 1 (0,1) ", 1), ("0: none sooner 1 ,", 1), ("0: none sooner 1 (,1)", 1),
                ("0: none full", 1), ("0: none full 1", 1), ("0: none full 1 (0,1)", 1), ("0: none full 1 (0,1) 2", 1),
                ("0: none full 1 2 3", 1), ("0: none full 1 -0", 1), ("0: none full 1 2 (0,1) 3", 1),
                ("0: none none", 1), ("0: none free", 1), ("x", 1), ("~" * 2000, 1), ("\n" * 2000, 1),
                ("0:" * 1000, 1)]:
            self.bad(read_lines, text, line)
            self.assertEqual(first_bad_row(text), line, text)

    def test_bent_texts(self):
        bad = good = 0
        for lines in [LINES, WRONG_LINES[:6]]:
            for text in bent_texts(lines_text(lines)):
                line = first_bad_row(text)
                if line is None:
                    good += 1
                    self.assertEqual(lines_text(read_lines(text)), text)
                else:
                    bad += 1
                    self.bad(read_lines, text, line)
        self.assertGreater(bad, 10000)
        self.assertGreater(good, 500)

    def test_long_texts(self):
        lines = LINES * 3000
        self.assertEqual(read_lines(lines_text(lines)), lines)
        one = [(("none",), ("full", 1, 2, ((3, 4),) * 16000))]
        self.assertEqual(read_lines(lines_text(one)), one)

    def test_derivations_of_all_cases(self):
        for job in NEITHER[:4] + SEARCHED:
            word, told = settle(job)
            todo = [told] if word == "none" else []
            while todo:
                tree = todo.pop()
                if isinstance(tree, tuple):
                    todo += tree[2:]
                else:
                    self.both_ways(tree, lines_text(tree))

    def test_lists_belong_to_the_caller(self):
        read_lines(LINES_TEXT).clear()
        read_lines("").append(1)
        self.assertEqual([read_lines(LINES_TEXT), read_lines("")], [LINES, []])
        before = repr(LINES)
        lines_text(LINES)
        self.assertEqual(repr(LINES), before)


class Chart(Case):
    def check(self, hours, wanted):
        self.assertEqual(chart(hours), wanted)
        self.assertEqual(chart(hours=hours), wanted)

    def test_no_hours_at_all(self):
        self.check([], "")

    def test_hours_of_one_to_three_figures(self):
        self.check([1], "  1:   0")
        self.check([3], "  1:\n  2:\n  3:   0")
        self.check([2, 1, 2], "  1:   1\n  2:   0   2")
        self.check([12, 9], "\n".join([f"  {h}:" for h in range(1, 9)] + ["  9:   1", " 10:", " 11:", " 12:   0"]))
        rows = chart([100, 1, 100]).split("\n")
        self.assertEqual(len(rows), 100)
        self.assertEqual([rows[0], rows[8], rows[9], rows[98], rows[99]],
                         ["  1:   1", "  9:", " 10:", " 99:", "100:   0   2"])

    def test_tasks_of_one_to_four_figures(self):
        self.check([1] * 12, "  1:   0   1   2   3   4   5   6   7   8   9  10  11")
        rows = chart([2] * 99 + [1, 2] * 950 + [1]).split("\n")
        self.assertEqual(len(rows), 2)
        self.assertTrue(rows[0].startswith("  1:  99 101 103"))
        self.assertTrue(rows[0].endswith(" 995 997 9991001" + "".join([str(t) for t in range(1003, 2001, 2)])))
        self.assertTrue(rows[1].startswith("  2:   0   1   2"))
        self.assertTrue(rows[1].endswith("199419961998"))
        self.assertEqual({len(row) % 4 for row in rows}, {0})

    def test_a_whole_chart_by_hand(self):
        hours = [(t * 7) % 100 + 1 for t in range(1999)]
        rows = []
        for h in range(1, 101):
            rows.append(str(h).rjust(3) + ":" + "".join([str(t).rjust(4) for t in range(1999) if hours[t] == h]))
        self.check(hours, "\n".join(rows))

    def test_a_plan(self):
        self.check(settle(FORK)[1], "  1:   0\n  2:   1   2")

    def test_no_hours(self):
        for thing in [None, True, 0, 1, "", "1", (), (1, 2), BIG, ([1],), deep(20)]:
            if not isinstance(thing, list):
                self.raises(NoHours, chart, thing)
        for thing in NOT_WHOLE + [0, -1, -BIG, deep(20)]:
            self.raises(NoHours, chart, [thing])
            self.raises(NoHours, chart, [1, 2, thing])
            self.raises(NoHours, chart, [thing, 1])

    def test_the_argument_is_left_as_it_is(self):
        hours = [3, 1, 3]
        chart(hours)
        self.assertEqual(hours, [3, 1, 3])


if __name__ == "__main__":
    unittest.main()
