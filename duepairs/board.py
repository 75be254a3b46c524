"""Boards: jobs whose tasks can change, and whose changes can be taken back."""

from duepairs.errors import NoDeeds, Unlike
from duepairs.jobs import check_job, check_task, is_task
from duepairs.settling import settle
from duepairs.states import (
    EMPTY, after_deed, job_of, state_of, with_both, with_chain, with_need, with_pair, with_rooms,
    with_task, without_last, without_need,
)


class Board:
    """A board, in a state that is now, behind the states that can be gone back to."""

    def __init__(self, rooms=()):
        self._now = with_rooms(EMPTY, rooms)
        self._before = []

    @classmethod
    def of(cls, job):
        """A board with the job."""
        check_job(job)
        board = cls()
        board._now = state_of(job)
        return board

    def _change(self, state):
        """Goes on to the state; whatever can be wrong has been found when it was made."""
        self._before.append(self._now)
        self._now = state

    def add(self, free=1, due=None):
        """Puts a task at the end and returns its number."""
        self._change(with_task(self._now, free, due))
        return len(self._now[0]) - 1

    def need(self, a, b):
        """Puts the need (a, b) at the end: a is to be done first."""
        self._change(with_need(self._now, a, b))

    def unneed(self, a, b):
        """Takes the need (a, b) out."""
        self._change(without_need(self._now, a, b))

    def chain(self, *tasks):
        """Puts in, one after the other, the needs between neighbours that are not there yet."""
        self._change(with_chain(self._now, tasks))

    def drop(self):
        """Takes the last task out, and all needs of it or for it."""
        self._change(without_last(self._now))

    @property
    def rooms(self):
        """The list of the rooms."""
        return list(self._now[3])

    @rooms.setter
    def rooms(self, value):
        """Sets the rooms."""
        self.set_rooms(value)

    def set_rooms(self, rooms):
        """Sets the rooms."""
        self._change(with_rooms(self._now, rooms))

    def do(self, deeds):
        """Does several deeds, one after the other, as one change; none if one cannot be done."""
        if not isinstance(deeds, list):
            raise NoDeeds("the argument is not a list")
        state = self._now
        for place, deed in enumerate(deeds):
            state = after_deed(state, place, deed)
        self._change(state)

    def back(self):
        """Takes the last change back; returns whether there is one."""
        if not self._before:
            return False
        self._now = self._before.pop()
        return True

    def job(self):
        """The job now."""
        return job_of(self._now)

    def settle(self):
        """What settle tells of the job now."""
        return settle(job_of(self._now))

    def _joined(self, other):
        """The state with the conditions of this board and of the other, anything."""
        if not isinstance(other, Board) or len(other._now[0]) != len(self._now[0]):
            raise Unlike("the other is not a board with equally many tasks")
        return with_both(self._now, other._now)

    def __and__(self, other):
        board = Board()
        board._now = self._joined(other)
        return board

    def __iand__(self, other):
        self._change(self._joined(other))
        return self

    def __getitem__(self, at):
        check_task(self._now, at)
        frees, dues, _, _ = self._now
        return (frees[at], dues[at])

    def __setitem__(self, at, worth):
        self._change(with_pair(self._now, at, worth))

    def __iter__(self):
        raise TypeError("a board cannot be iterated over")

    def __contains__(self, x):
        return is_task(len(self._now[0]), x)

    def __len__(self):
        return len(self._now[0])

    def __eq__(self, other):
        return isinstance(other, Board) and self._now == other._now
