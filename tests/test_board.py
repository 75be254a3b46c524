"""Points 15 and 16: boards."""

import inspect
import random
import unittest

from common import BIG, JOB, NEITHER, NO_JOBS, NOT_WHOLE, Case, busy_jobs, deep, some_jobs
from duepairs import board as board_file
from duepairs.board import Board
from duepairs.errors import BadDeed, BadNeed, JobError, NoDeeds, NoHour, NoJob, NoRooms, NoTask, Unlike
from duepairs.jobs import is_job
from duepairs.settling import settle
from plain import is_ring, plans_until, rings

EMPTY = ([], [], [], [])
NO_ROOMS = [None, True, False, 0, 1, BIG, "", "21", [None], [True], [0, False], [4], [-1], [2, BIG], ["1"], [[1]],
            [(1,)], (4,), (1, None), (1, True), ([],), deep(20)]
NO_FREES = NOT_WHOLE + [0, -1, -BIG, deep(20)]
NO_DUES = [thing for thing in NOT_WHOLE if thing is not None] + [-1, -BIG, deep(20)]


def no_tasks(many):
    return NOT_WHOLE + [-1, many, BIG, -BIG, deep(20)]


def of(job):
    return Board.of(job)


def held(board):
    """All that a board tells, as values."""
    return (board.job(), len(board), [board[t] for t in range(len(board))], board.rooms,
            [t for t in range(-2, 20) if t in board])


class BoardCase(Case):
    def shows(self, board, job):
        """The board tells just this job."""
        frees, dues, needs, rooms = job
        self.assertEqual(board.job(), job)
        self.assertIs(is_job(board.job()), True)
        self.assertEqual([type(part) for part in board.job()], [list] * 4)
        self.assertEqual(len(board), len(frees))
        self.assertEqual([board[t] for t in range(len(frees))], list(zip(frees, dues)))
        self.assertEqual(board.rooms, rooms)
        self.assertIs(type(board.rooms), list)
        self.assertEqual([t in board for t in range(-1, len(frees) + 1)], [False] + [True] * len(frees) + [False])
        self.assertIs(board == Board.of(job), True)
        self.assertIs(board != Board.of(job), False)

    def refused(self, board, error, function, *arguments):
        """The call raises the error, which is returned, and nothing is changed by it."""
        before = held(board)
        told = repr(arguments)
        with self.assertRaises(ValueError, msg=arguments) as caught:
            function(*arguments)
        self.assertIs(type(caught.exception), error, arguments)
        self.assertEqual(held(board), before)
        self.assertEqual(repr(arguments), told)
        return caught.exception

    def set_at(self, board, t, worth):
        board[t] = worth


class Example(BoardCase):
    def test_the_documents_example(self):
        board = Board()
        self.assertEqual([board.add(), board.add(2, 3), board.add(due=3)], [0, 1, 2])
        board.chain(0, 1, 2)
        self.assertEqual(
            [board.job(), board[1], 2 in board, len(board), board.settle()[0], board.back()],
            [([1, 2, 1], [None, 3, 3], [(0, 1), (1, 2)], []), (2, 3), True, 3, "plan", True])
        self.shows(board, ([1, 2, 1], [None, 3, 3], [], []))
        self.assertEqual((of(([1], [3], [], [])) & of(([2], [None], [], [1]))).job(), ([2], [3], [], [1]))


class Made(BoardCase):
    def test_without_tasks(self):
        board = Board()
        self.shows(board, EMPTY)
        self.assertIs(board.back(), False)
        for rooms in [[], (), [2, 0, 3], (1, 3), [0] * 20, [3] * 20]:
            self.shows(Board(rooms), ([], [], [], list(rooms)))
            self.shows(Board(rooms=rooms), ([], [], [], list(rooms)))
            self.assertIs(Board(rooms).back(), False)

    def test_of_a_job(self):
        for job in some_jobs(60, 301, most_tasks=6) + NEITHER:
            board = Board.of(job)
            self.assertIs(type(board), Board)
            self.shows(board, job)
            self.assertIs(board.back(), False)
            self.shows(board, job)
        self.shows(Board.of(job=JOB), JOB)

    def test_no_rooms(self):
        for thing in NO_ROOMS:
            self.raises(NoRooms, Board, thing)

    def test_no_job(self):
        for thing in NO_JOBS:
            self.raises(NoJob, Board.of, thing)
        self.raises(NoJob, Board.of, Board())

    def test_each_method_is_defined_in_the_class(self):
        for name in ["of", "add", "need", "unneed", "chain", "drop", "set_rooms", "do", "back", "job", "settle",
                     "rooms", "__init__", "__getitem__", "__setitem__", "__contains__", "__len__", "__eq__", "__and__",
                     "__iand__", "__iter__"]:
            self.assertIn(name, vars(Board))
        self.assertEqual(Board.__module__, board_file.__name__)
        self.assertIsInstance(vars(Board)["of"], classmethod)
        self.assertIsInstance(vars(Board)["rooms"], property)

    def test_arguments_by_name(self):
        wanted = {"__init__": ["self", "rooms"], "add": ["self", "free", "due"], "need": ["self", "a", "b"],
                  "unneed": ["self", "a", "b"], "chain": ["self", "tasks"], "drop": ["self"],
                  "set_rooms": ["self", "rooms"], "do": ["self", "deeds"], "back": ["self"], "job": ["self"],
                  "settle": ["self"]}
        for name, parameters in wanted.items():
            self.assertEqual(list(inspect.signature(vars(Board)[name]).parameters), parameters)
        board = Board(rooms=[1])
        self.assertEqual([board.add(due=3, free=2), board.add(free=4), board.add(due=None), board.add(due=0)],
                         [0, 1, 2, 3])
        self.assertIsNone(board.need(b=1, a=0))
        self.assertIsNone(board.need(a=1, b=2))
        self.assertIsNone(board.unneed(b=1, a=0))
        self.assertIsNone(board.set_rooms(rooms=(2, 1)))
        self.assertIsNone(board.do(deeds=[("add", 5, 6)]))
        self.shows(board, ([2, 4, 1, 1, 5], [3, None, None, 0, 6], [(1, 2)], [2, 1]))


class Deeds(BoardCase):
    def test_add(self):
        board = Board()
        for number, (free, due) in enumerate([(1, None), (40, 0), (3, 3), (BIG, BIG)]):
            told = board.add(free, due)
            self.assertEqual([told, type(told)], [number, int])
        self.shows(board, ([1, 40, 3, BIG], [None, 0, 3, BIG], [], []))

    def test_add_refused(self):
        board = of(JOB)
        for thing in NO_FREES:
            self.refused(board, NoHour, board.add, thing)
            self.refused(board, NoHour, board.add, thing, 3)
        for thing in NO_DUES:
            self.refused(board, NoHour, board.add, 1, thing)
            self.refused(board, NoHour, board.add, 0, thing)
        self.assertIs(board.back(), False)

    def test_item_read(self):
        board = of(JOB)
        self.assertEqual([board[0], board[1], board[2]], [(1, None), (1, 3), (2, 3)])
        self.assertIs(type(board[0]), tuple)
        for many in range(3):
            board = of(([1] * many, [None] * many, [], []))
            for thing in no_tasks(many):
                self.refused(board, NoTask, lambda at: board[at], thing)

    def test_item_set(self):
        board = of(JOB)
        board[0] = (5, 7)
        board[2] = (1, None)
        board[1] = (40, 0)
        self.shows(board, ([5, 40, 1], [7, 0, None], JOB[2], JOB[3]))
        # Equal to what is there, and a change none the less.
        board[1] = (40, 0)
        self.assertEqual([board.back() for _ in range(5)], [True] * 4 + [False])
        self.shows(board, JOB)

    def test_item_set_refused(self):
        board = of(JOB)
        for thing in no_tasks(3):
            for worth in [(1, 2), (0, 2), None]:
                self.refused(board, NoTask, self.set_at, board, thing, worth)
        for worth in NOT_WHOLE + [1, (1,), (1, 2, 3), [1, 2], "12", (), ((1, 2),), deep(20)]:
            self.refused(board, NoHour, self.set_at, board, 0, worth)
        for thing in NO_FREES:
            self.refused(board, NoHour, self.set_at, board, 0, (thing, None))
        for thing in NO_DUES:
            self.refused(board, NoHour, self.set_at, board, 2, (1, thing))
        self.assertIs(board.back(), False)

    def test_need_and_unneed(self):
        board = of(([1] * 4, [None] * 4, [], []))
        self.assertEqual([board.need(2, 1), board.need(0, 3), board.need(3, 2), board.need(0, 1)], [None] * 4)
        self.shows(board, ([1] * 4, [None] * 4, [(2, 1), (0, 3), (3, 2), (0, 1)], []))
        self.assertIsNone(board.unneed(0, 3))
        self.shows(board, ([1] * 4, [None] * 4, [(2, 1), (3, 2), (0, 1)], []))
        board.need(0, 3)
        self.shows(board, ([1] * 4, [None] * 4, [(2, 1), (3, 2), (0, 1), (0, 3)], []))

    def test_need_refused(self):
        board = of(JOB)
        for method in (board.need, board.unneed):
            for thing in no_tasks(3):
                self.refused(board, NoTask, method, thing, 0)
                self.refused(board, NoTask, method, 0, thing)
                self.refused(board, NoTask, method, thing, thing)
        for t in range(3):
            self.assertEqual(vars(self.refused(board, BadNeed, board.need, t, t)), {"ring": None})
        for a, b in JOB[2]:
            self.assertEqual(vars(self.refused(board, BadNeed, board.need, a, b)), {"ring": None})
            self.assertEqual(vars(self.refused(board, BadNeed, board.need, b, a)), {"ring": [b, a]})
        for a, b in [(0, 0), (1, 0), (1, 2), (2, 0)]:
            self.assertEqual(vars(self.refused(board, BadNeed, board.unneed, a, b)), {"ring": None})

    def test_shortest_rings_of_need(self):
        board = of(([1] * 7, [None] * 7, [(0, 1), (1, 2), (2, 3), (3, 4), (0, 5), (5, 3), (6, 0)], []))
        for a, b, wanted in [(4, 0, [4, 0, 5, 3]), (2, 0, [2, 0, 1]), (4, 6, [4, 6, 0, 5, 3]), (4, 3, [4, 3]),
                             (4, 2, [4, 2, 3])]:
            error = self.refused(board, BadNeed, board.need, a, b)
            self.assertEqual(vars(error), {"ring": wanted})
            self.assertTrue(all(type(t) is int for t in error.ring))

    def test_every_ring_of_need(self):
        seen = 0
        for job in busy_jobs(60, 307, 4, 6):
            board = Board.of(job)
            many, needs = len(job[0]), job[2]
            for a in range(many):
                for b in range(many):
                    all_rings = rings(many, needs + [(a, b)]) if a != b and (a, b) not in needs else []
                    if all_rings:
                        seen += 1
                        ring = self.refused(board, BadNeed, board.need, a, b).ring
                        self.assertEqual(ring[:2], [a, b])
                        self.assertTrue(is_ring(needs + [(a, b)], ring))
                        self.assertEqual(len(ring), len(all_rings[0]))
                    elif a != b and (a, b) not in needs:
                        board.need(a, b)
                        self.assertIs(board.back(), True)
        self.assertGreater(seen, 100)

    def test_a_ring_belongs_to_the_caller(self):
        board = of(JOB)
        self.refused(board, BadNeed, board.need, 1, 0).ring.append(9)
        self.assertEqual(self.refused(board, BadNeed, board.need, 1, 0).ring, [1, 0])

    def test_chain(self):
        board = of(([1] * 5, [None] * 5, [(1, 2)], []))
        self.assertIsNone(board.chain(3, 1, 2, 0))
        self.shows(board, ([1] * 5, [None] * 5, [(1, 2), (3, 1), (2, 0)], []))
        board.chain(3, 1, 2)
        self.shows(board, ([1] * 5, [None] * 5, [(1, 2), (3, 1), (2, 0)], []))
        board.chain(4)
        board.chain()
        self.assertEqual([board.back() for _ in range(3)], [True] * 3)
        self.shows(board, ([1] * 5, [None] * 5, [(1, 2), (3, 1), (2, 0)], []))
        self.assertIs(board.back(), True)
        self.shows(board, ([1] * 5, [None] * 5, [(1, 2)], []))
        self.assertIs(board.back(), False)

    def test_chain_without_tasks(self):
        board = Board()
        self.assertIsNone(board.chain())
        self.assertEqual([board.back(), board.back()], [True, False])
        self.shows(board, EMPTY)

    def test_chain_refused(self):
        board = of(JOB)
        for thing in no_tasks(3):
            for tasks in [(thing,), (0, thing), (thing, 0), (1, 1, thing), (1, 0, thing), (0, thing, 1)]:
                self.refused(board, NoTask, board.chain, *tasks)
        for tasks, ring in [((1, 1), None), ((0, 0, 1), None), ((0, 1, 1), None), ((1, 0), [1, 0]), ((0, 1, 0), [1, 0]),
                            ((1, 2, 0), [2, 0]), ((1, 2, 1), [2, 1]), ((2, 1, 1, 0), None), ((2, 1, 0, 0), [1, 0])]:
            self.assertEqual(vars(self.refused(board, BadNeed, board.chain, *tasks)), {"ring": ring})
        board = of(([1] * 4, [None] * 4, [], []))
        # The ring is made of the chain's own needs.
        self.assertEqual(self.refused(board, BadNeed, board.chain, 2, 3, 1, 2).ring, [1, 2, 3])
        self.assertIs(board.back(), False)

    def test_drop(self):
        board = of(([1, 2, 3], [4, None, 5], [(2, 0), (0, 1), (1, 2)][:2], [1]))
        self.assertIsNone(board.drop())
        self.shows(board, ([1, 2], [4, None], [(0, 1)], [1]))
        board.drop()
        self.shows(board, ([1], [4], [], [1]))
        board.drop()
        self.shows(board, ([], [], [], [1]))
        self.refused(board, NoTask, board.drop)
        self.assertEqual([board.back() for _ in range(4)], [True] * 3 + [False])
        self.shows(board, ([1, 2, 3], [4, None, 5], [(2, 0), (0, 1)], [1]))

    def test_drop_takes_out_needs_of_it_and_for_it(self):
        board = of(([1] * 4, [None] * 4, [(3, 0), (0, 1), (2, 3), (1, 2)][:3], []))
        board.drop()
        self.shows(board, ([1] * 3, [None] * 3, [(0, 1)], []))
        self.assertEqual(board.add(), 3)
        self.shows(board, ([1] * 4, [None] * 4, [(0, 1)], []))

    def test_rooms(self):
        board = of(JOB)
        for rooms in [[3, 0], (), (1, 2, 3), [], [0] * 20]:
            board.rooms = rooms
            self.shows(board, JOB[:3] + (list(rooms),))
            self.assertIs(board.back(), True)
            self.assertIsNone(board.set_rooms(rooms))
            self.shows(board, JOB[:3] + (list(rooms),))
            self.assertIs(board.back(), True)
            self.shows(board, JOB)
        self.assertIs(board.back(), False)

    def test_rooms_refused(self):
        board = of(JOB)
        for thing in NO_ROOMS:
            self.refused(board, NoRooms, board.set_rooms, thing)
            self.refused(board, NoRooms, setattr, board, "rooms", thing)
            self.refused(board, BadDeed, board.do, [("rooms", thing)])
        self.assertIs(board.back(), False)

    def test_settle(self):
        for job in some_jobs(40, 311) + NEITHER[:3]:
            self.assertEqual(Board.of(job).settle(), settle(job))
        board = of(JOB)
        board.settle()[1].append("x")
        self.assertEqual(board.settle(), settle(JOB))


class Do(BoardCase):
    def test_each_word(self):
        board = of(JOB)
        deeds = [("add", 5, None), ("set", 0, 2, 9), ("need", 3, 0), ("unneed", 0, 2), ("rooms", (1, 0)), ("add", 1, 0),
                 ("need", 2, 4), ("drop",), ("rooms", [3])]
        self.assertIsNone(board.do(deeds))
        self.shows(board, ([2, 1, 2, 5], [9, 3, 3, None], [(0, 1), (3, 0)], [3]))
        self.assertEqual([board.back(), board.back()], [True, False])
        self.shows(board, JOB)

    def test_none(self):
        board = of(JOB)
        self.assertIsNone(board.do([]))
        self.shows(board, JOB)
        self.assertEqual([board.back(), board.back()], [True, False])

    def test_one_after_the_other(self):
        board = Board()
        board.do([("add", 1, None), ("add", 1, None), ("need", 0, 1), ("unneed", 0, 1), ("need", 1, 0)])
        self.shows(board, ([1, 1], [None, None], [(1, 0)], []))

    def test_no_deeds(self):
        board = of(JOB)
        for thing in [None, True, 0, "add", "", (), (("drop",),), ("drop",), deep(20)]:
            if not isinstance(thing, list):
                self.refused(board, NoDeeds, board.do, thing)

    def test_deeds_of_a_wrong_form(self):
        board = of(JOB)
        wrong = NOT_WHOLE + [0, "drop", ["drop"], ("drop", 1), ("add",), ("add", 1), ("add", 1, 2, 3), ("set", 0, 1),
                             ("set", 0, (1, 2)), ("set", 0, 1, 2, 3), ("need", 0), ("need", 0, 1, 2), ("unneed", 1),
                             ("unneed", 0, 1, 2), ("rooms",), ("rooms", [], []), ("chain", 0, 1), ("Add", 1, 1),
                             ("back",), ("do", []), ([], 1, 2), (["add"], 1, 2), (("drop",),), (None, 1, 2),
                             (True,), (0, 1, 2), ["add", 1, 2], [("drop",)], deep(20)]
        for thing in wrong:
            for before in [[], [("drop",)], [("drop",), ("add", 3, 3)]]:
                error = self.refused(board, BadDeed, board.do, before + [thing, ("add", 0, 0)])
                self.assertEqual(vars(error), {"place": len(before), "kind": None})
                self.assertIsNone(error.__cause__)
        self.assertIs(board.back(), False)

    def test_deeds_that_raise_an_error(self):
        board = of(JOB)
        for deed, kind, ring in [
                (("add", 0, None), NoHour, None), (("add", 1, -1), NoHour, None), (("add", [], {}), NoHour, None),
                (("set", 3, 1, 1), NoTask, None), (("set", [], 0, 0), NoTask, None), (("set", 0, 0, 1), NoHour, None),
                (("set", 0, 1, "x"), NoHour, None), (("need", 0, 3), NoTask, None), (("need", [], 0), NoTask, None),
                (("need", 0, 0), BadNeed, None), (("need", 0, 1), BadNeed, None), (("need", 2, 0), BadNeed, [2, 0]),
                (("unneed", 0, 3), NoTask, None), (("unneed", 1, 0), BadNeed, None), (("rooms", [4]), NoRooms, None),
                (("rooms", None), NoRooms, None)]:
            for before in [[], [("rooms", [1])], [("add", 1, 1), ("drop",)]]:
                error = self.refused(board, BadDeed, board.do, before + [deed, ("none",)])
                self.assertEqual(vars(error), {"place": len(before), "kind": kind.__name__})
                self.assertIs(type(error.__cause__), kind)
                self.assertEqual(vars(error.__cause__), {"ring": ring} if kind is BadNeed else {})
        error = self.refused(board, BadDeed, board.do, [("drop",)] * 5)
        self.assertEqual([error.place, error.kind], [3, "NoTask"])
        self.assertIs(type(error.__cause__), NoTask)
        self.assertIs(board.back(), False)

    def test_many(self):
        board = Board()
        board.do([("add", t + 1, None) for t in range(2000)])
        self.assertEqual(len(board), 2000)
        board.do([("need", t % 30, t % 30 + 1) if t // 30 % 2 == 0 else ("unneed", t % 30, t % 30 + 1)
                  for t in range(2000)])
        self.assertEqual([board.back() for _ in range(3)], [True, True, False])
        self.shows(board, EMPTY)


class Told(BoardCase):
    def test_contains(self):
        for job in [EMPTY, JOB]:
            board = of(job)
            for thing in no_tasks(len(job[0])) + [(0,), "0", [0], Board()]:
                self.assertIs(thing in board, False)
            for t in range(len(job[0])):
                self.assertIs(t in board, True)

    def test_equal(self):
        board = of(JOB)
        self.assertIs(board == of(JOB), True)
        self.assertIs(board == board, True)
        self.assertIs(Board() == Board(()), True)
        frees, dues, needs, rooms = JOB
        for other in [([1, 1, 1], dues, needs, rooms), (frees, [None, 3, None], needs, rooms), EMPTY,
                      (frees, dues, needs[::-1], rooms), (frees, dues, needs[:1], rooms),
                      (frees, dues, needs, [2, 1, 2]), (frees, dues, needs, [])]:
            self.assertIs(board == of(other), False)
            self.assertIs(of(other) == board, False)
            self.assertIs(board != of(other), True)
        for thing in NO_JOBS + [JOB, board.job(), (frees, dues), object()]:
            self.assertIs(board == thing, False)
            self.assertIs(thing == board, False)
            self.assertIs(board != thing, True)

    def test_changes_that_are_taken_back_do_not_count(self):
        board = of(JOB)
        other = of(JOB)
        other.add()
        self.assertIs(board == other, False)
        other.drop()
        self.assertIs(board == other, True)

    def test_it_cannot_be_iterated_over(self):
        for board in [Board(), of(JOB)]:
            self.assertRaises(TypeError, iter, board)
            self.assertRaises(TypeError, list, board)

    def test_lists_belong_to_the_caller(self):
        board = of(JOB)
        for part in board.job() + (board.rooms,):
            part.append(7)
            part[0] = 9
        self.shows(board, JOB)
        job = board.job()
        self.assertEqual(len({id(part) for part in job + board.job() + (board.rooms, board.rooms)}), 10)

    def test_arguments_may_be_changed_later(self):
        same = [1, 2]
        job = (same, same, [], same)
        board = Board.of(job)
        rooms = [1]
        other = Board(rooms)
        third = of(JOB)
        third.rooms = rooms
        deeds = [("rooms", rooms), ("add", 2, 2)]
        fourth = Board()
        fourth.do(deeds)
        fifth = Board()
        fifth.set_rooms(rooms)
        same[0] = 9
        same.append(3)
        job[2].append((0, 1))
        rooms[:] = [0, 0]
        deeds.clear()
        self.shows(board, ([1, 2], [1, 2], [], [1, 2]))
        self.shows(other, ([], [], [], [1]))
        self.shows(third, JOB[:3] + ([1],))
        self.shows(fourth, ([2], [2], [], [1]))
        self.shows(fifth, ([], [], [], [1]))

    def test_boards_of_one_job_do_not_affect_each_other(self):
        job = ([1, 1], [None, 3], [(0, 1)], [1])
        boards = [Board.of(job), Board.of(job), Board(job[3])]
        boards.append(boards[0] & boards[1])
        boards[0].add()
        boards[0].unneed(0, 1)
        boards[0].rooms = [0]
        boards[0][0] = (9, 9)
        for board in boards[1:2] + boards[3:]:
            self.shows(board, job)
            self.assertIs(board.back(), False)
        self.shows(boards[2], ([], [], [], [1]))
        self.assertEqual(job, ([1, 1], [None, 3], [(0, 1)], [1]))


class And(BoardCase):
    def both(self, one, other, wanted):
        """What & and &= make of two jobs."""
        left, right = of(one), of(other)
        left.add()
        left.drop()
        told = left & right
        self.assertIs(type(told), Board)
        self.shows(told, wanted)
        self.assertIs(told.back(), False)
        self.shows(left, one)
        self.shows(right, other)
        kept = left
        left &= right
        self.assertIs(left, kept)
        self.shows(left, wanted)
        self.shows(right, other)
        self.assertIs(left.back(), True)
        self.shows(left, one)
        self.assertEqual([left.back(), left.back(), left.back(), right.back()], [True, True, False, False])

    def test_frees_and_dues(self):
        self.both(([1, 5, 3], [None, 4, None], [], []), ([2, 4, 3], [None, None, 0], [], []),
                  ([2, 5, 3], [None, 4, 0], [], []))
        self.both(([1], [3], [], []), ([1], [2], [], []), ([1], [2], [], []))
        self.both(([1], [0], [], []), ([1], [None], [], []), ([1], [0], [], []))

    def test_needs_in_order(self):
        self.both(([1] * 4, [None] * 4, [(2, 3), (0, 1)], []), ([1] * 4, [None] * 4, [(1, 2), (0, 1), (0, 3)], []),
                  ([1] * 4, [None] * 4, [(2, 3), (0, 1), (1, 2), (0, 3)], []))

    def test_rooms_of_unequal_length(self):
        self.both(([], [], [], [1, 3, 2]), ([], [], [], [3, 2]), ([], [], [], [1, 2, 2]))
        self.both(([], [], [], [3]), ([], [], [], [3, 3, 1]), ([], [], [], [3, 2, 1]))
        self.both(([], [], [], [3, 0, 3]), EMPTY, ([], [], [], [2, 0, 2]))
        self.both(EMPTY, ([], [], [], [0, 3]), ([], [], [], [0, 2]))
        self.both(EMPTY, EMPTY, EMPTY)

    def test_a_board_and_itself(self):
        for job in [EMPTY, JOB, NEITHER[0]]:
            self.both(job, job, job)
            board = of(job)
            board &= board
            self.shows(board, job)
            self.assertEqual([board.back(), board.back()], [True, False])

    def test_its_plans_are_those_of_both(self):
        seen = set()
        jobs = some_jobs(200, 313, most_tasks=3)
        for one, other in zip(jobs, jobs[3:]):
            if len(one[0]) == len(other[0]):
                try:
                    told = (of(one) & of(other)).job()
                except BadNeed:
                    continue
                last = 7
                theirs = plans_until(other, last)
                wanted = [hours for hours in plans_until(one, last) if hours in theirs]
                self.assertEqual(plans_until(told, last), wanted)
                seen.add(len(wanted))
        self.assertGreater(len(seen), 6)

    def test_unlike(self):
        board = of(JOB)
        kept = board
        for thing in NO_JOBS + [JOB, Board(), of(([1] * 4, [None] * 4, [], [])), [1, 1, 1], 3, {0: 1}]:
            self.refused(board, Unlike, lambda other: board & other, thing)
            with self.assertRaises(Unlike):
                board &= thing
            self.assertIs(board, kept)
            self.shows(board, JOB)
        self.assertIs(board.back(), False)
        self.refused(Board(), Unlike, lambda other: Board() & other, board)

    def test_shortest_rings(self):
        def joined(board, other):
            board &= other

        seen = set()
        pairs = [(one, other) for one in busy_jobs(40, 317, 4, 6) for other in busy_jobs(4, 331, 4, 6)]
        pairs += [(([1] * 6, [None] * 6, [(0, 1), (1, 2), (2, 3), (4, 5)], []),
                   ([1] * 6, [None] * 6, [(3, 0), (5, 4)], [])),
                  (([1] * 6, [None] * 6, [(0, 1), (1, 2), (2, 3), (3, 4), (4, 5)], []),
                   ([1] * 6, [None] * 6, [(5, 0)], []))]
        for one, other in pairs:
            many = len(one[0])
            needs = one[2] + other[2]
            found = rings(many, needs) if many == len(other[0]) else []
            if found:
                left, right = of(one), of(other)
                for error in [self.refused(left, BadNeed, lambda board: left & board, right),
                              self.refused(left, BadNeed, joined, left, right)]:
                    self.assertEqual(list(vars(error)), ["ring"])
                    self.assertTrue(is_ring(needs, error.ring))
                    self.assertEqual(len(error.ring), len(found[0]))
                self.assertIs(left.back(), False)
                self.shows(right, other)
                seen.add(len(found[0]))
        self.assertTrue({2, 3, 6} <= seen)


class Model:
    """Plain lists that a board is held against."""

    def __init__(self):
        self.now = ([], [], [], [])
        self.past = []

    def goes_to(self, frees, dues, needs, rooms):
        self.past.append(self.now)
        self.now = (frees, dues, needs, rooms)


class AtRandom(BoardCase):
    """Boards under many deeds, held against plain lists behind each of them."""

    def one_deed(self, draw, model):
        """A deed as a tuple, and the job that it makes, or the name of the error that it raises."""
        frees, dues, needs, rooms = model
        many = len(frees)
        word = draw.choice(["add", "add", "set", "need", "need", "need", "unneed", "drop", "rooms"])
        if word == "add":
            free, due = draw.choice([0, 1, 2, 9]), draw.choice([None, 0, 3, -1])
            return (word, free, due), "NoHour" if free == 0 or due == -1 else (
                frees + [free], dues + [due], needs, rooms)
        if word == "set":
            t, free, due = draw.randint(-1, many), draw.choice([0, 1, 5]), draw.choice([None, 4, -1])
            if not 0 <= t < many:
                return (word, t, free, due), "NoTask"
            return (word, t, free, due), "NoHour" if free == 0 or due == -1 else (
                frees[:t] + [free] + frees[t + 1:], dues[:t] + [due] + dues[t + 1:], needs, rooms)
        if word == "drop":
            return (word,), "NoTask" if many == 0 else (
                frees[:-1], dues[:-1], [(a, b) for a, b in needs if a < many - 1 and b < many - 1], rooms)
        if word == "rooms":
            new = [draw.randint(0, 3) for _ in range(draw.randint(0, 3))] + draw.choice([[], [], [4]])
            return (word, draw.choice([list, tuple])(new)), "NoRooms" if 4 in new else (frees, dues, needs, new)
        a, b = draw.randint(0, many), draw.randint(-1 if draw.random() < 0.1 else 0, max(0, many - 1))
        if a >= many or not 0 <= b < many:
            return (word, a, b), "NoTask"
        if word == "unneed":
            return (word, a, b), "BadNeed" if (a, b) not in needs else (
                frees, dues, [need for need in needs if need != (a, b)], rooms)
        if a == b or (a, b) in needs or is_job((frees, dues, needs + [(a, b)], rooms)) is False:
            return (word, a, b), "BadNeed"
        return (word, a, b), (frees, dues, needs + [(a, b)], rooms)

    def done_alone(self, board, deed):
        word, *rest = deed
        if word == "set":
            board[rest[0]] = (rest[1], rest[2])
        elif word == "rooms" and isinstance(rest[0], list):
            board.rooms = rest[0]
        else:
            told = getattr(board, {"rooms": "set_rooms"}.get(word, word))(*rest)
            self.assertEqual(told, len(board) - 1 if word == "add" else None)

    def one_step(self, draw, board, model):
        """One call of the board, and what it should do."""
        kind = draw.randint(0, 9)
        if kind < 6:
            deed, told = self.one_deed(draw, model.now)
            try:
                self.done_alone(board, deed)
                self.assertIsInstance(told, tuple, deed)
                model.goes_to(*told)
            except JobError as error:
                self.assertEqual(type(error).__name__, told, deed)
        elif kind == 6:
            deeds, now, wanted = [], model.now, None
            for place in range(draw.randint(0, 4)):
                deed, told = self.one_deed(draw, now)
                deeds.append(deed)
                if isinstance(told, str):
                    wanted = wanted or (place, told)
                elif wanted is None:
                    now = told
            if wanted is None:
                board.do(deeds)
                model.goes_to(*now)
            else:
                error = self.refused(board, BadDeed, board.do, deeds)
                self.assertEqual((error.place, error.kind), wanted)
                self.assertEqual(type(error.__cause__).__name__, wanted[1])
        elif kind == 7:
            frees, dues, needs, rooms = model.now
            other = Board.of((frees, dues, [], [1]))
            board &= other
            model.goes_to(frees, dues, needs, [min(2, places) for places in rooms] or [1])
            model.now[3][0] = min(1, model.now[3][0])
        else:
            self.assertIs(board.back(), model.past != [])
            if model.past:
                model.now = model.past.pop()

    def test_all_deeds(self):
        for seed in range(40):
            draw = random.Random(seed)
            board, model = Board(), Model()
            for _ in range(80):
                self.one_step(draw, board, model)
                self.shows(board, model.now)
            while model.past:
                self.assertIs(board.back(), True)
                model.now = model.past.pop()
                self.shows(board, model.now)
            self.assertIs(board.back(), False)
            self.shows(board, EMPTY)


if __name__ == "__main__":
    unittest.main()
