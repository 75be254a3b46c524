"""Listing plans: all plans of a narrow job, and whether they are all plans of another."""

from duepairs.bounds import always_ahead, ended_by, plan_of
from duepairs.errors import NoHour, Unlike
from duepairs.jobs import ROOM_BEHIND, check_job, check_narrow, due_by, free_from, room_within
from duepairs.whole import is_whole_from


def all_plans(job, last):
    """Yields all plans in which no task is done after the hour last, in rising order."""
    check_narrow(job)
    if not is_whole_from(0, last):
        raise NoHour("the last hour is not a whole number from 0 on")
    # It has lists of its own, so what becomes of the job between two plans has no effect.
    ended = ended_by(job, last)
    if plan_of(ended) is not None:
        yield from plans_of(ended)


def plans_of(job):
    """Yields all plans, in rising order, of a narrow job that has one and a due for each task."""
    frees, dues, _, rooms = job
    if not frees:
        yield []
        return
    for h in range(frees[0], dues[0] + 1):
        if room_within(rooms, h, h) > 0:
            left = without_first(job, h)
            # No hour is taken with which there is no plan, so the next plan is never far.
            if plan_of(left) is not None:
                for hours in plans_of(left):
                    yield [h] + hours


def without_first(job, h):
    """The job of the tasks behind the first in number, if that is done in the hour h.

    The tasks are renumbered from 0, and each of them has a due.
    """
    frees, dues, needs, rooms = job
    many = len(frees)
    new_frees = [max(frees[t], h + 1) if (0, t) in needs else frees[t] for t in range(1, many)]
    new_dues = [min(dues[t], h - 1) if (t, 0) in needs else dues[t] for t in range(1, many)]
    new_needs = [(a - 1, b - 1) for a, b in needs if a > 0 and b > 0]
    new_rooms = rooms + [ROOM_BEHIND] * (h - len(rooms))
    new_rooms[h - 1] = new_rooms[h - 1] - 1
    return (new_frees, new_dues, new_needs, new_rooms)


def all_inside(one, other):
    """None if every plan of one is a plan of other; else a plan of one that is none of other."""
    check_job(one)
    check_job(other)
    if len(one[0]) != len(other[0]):
        raise Unlike("the jobs have not equally many tasks")
    check_narrow(one)
    check_narrow(other)
    if plan_of(one) is None:
        return None
    hours = first_plan(jobs_too_early(one, other) + jobs_too_late(one, other) + jobs_too_full(one, other))
    return plan_against_need(one, other) if hours is None else hours


def first_plan(jobs):
    """A plan of the first of the jobs that has one, or None if none has."""
    for job in jobs:
        hours = plan_of(job)
        if hours is not None:
            return hours
    return None


def jobs_too_early(one, other):
    """For each task a job with the plans of one in which it is done before its free in the other."""
    return [due_by(one, t, free - 1) for t, free in enumerate(other[0])]


def jobs_too_late(one, other):
    """For each task a job with the plans of one in which it is done after its due in the other."""
    return [free_from(one, t, due + 1) for t, due in enumerate(other[1]) if due is not None]


def jobs_too_full(one, other):
    """Jobs with the plans of one in which an hour has more tasks than the other has room for."""
    tasks = range(len(one[0]))
    jobs = []
    for h, places in enumerate(other[3], start=1):
        if places == 0:
            jobs.extend([with_crowd(one, [t], h) for t in tasks])
        if places == 1:
            jobs.extend([with_crowd(one, [t, u], h) for t in tasks for u in range(t)])
    return jobs


def with_crowd(job, tasks, h):
    """The job in which these tasks can be done in the hour h only."""
    crowded = job
    for t in tasks:
        crowded = due_by(free_from(crowded, t, h), t, h)
    return crowded


def plan_against_need(one, other):
    """A plan of one, which has plans, that does not keep a need of the other, or None."""
    for a, b in other[2]:
        hours, _ = always_ahead(one, a, b)
        if hours is not None:
            return hours
    return None
