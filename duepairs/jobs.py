"""Jobs: tuples (frees, dues, needs, rooms)."""

from duepairs.errors import NoHour, NoJob, NoTask, NotNarrow
from duepairs.whole import is_due, is_hour, is_whole, is_whole_from

MOST_ROOM = 3
ROOM_BEHIND = 2


def is_job(thing):
    """Whether the thing is a job."""
    if not isinstance(thing, tuple) or len(thing) != 4:
        return False
    if not all([isinstance(part, list) for part in thing]):
        return False
    frees, dues, needs, rooms = thing
    if len(dues) != len(frees):
        return False
    return (
        all([is_hour(free) for free in frees])
        and all([is_due(due) for due in dues])
        and are_needs(len(frees), needs)
        and all([is_room(places) for places in rooms])
    )


def is_room(thing):
    """Whether the thing can stand as an entry among rooms."""
    return is_whole_from(0, thing) and thing <= MOST_ROOM


def is_task(many, thing):
    """Whether the thing is one of so many tasks."""
    return is_whole_from(0, thing) and thing < many


def is_need(many, thing):
    """Whether the thing is a tuple of two different ones of so many tasks."""
    if not isinstance(thing, tuple) or len(thing) != 2:
        return False
    a, b = thing
    return is_task(many, a) and is_task(many, b) and a != b


def are_needs(many, things):
    """Whether the things in a list are different needs of so many tasks, without a ring."""
    if not all([is_need(many, thing) for thing in things]):
        return False
    return len(set(things)) == len(things) and not has_ring(many, things)


def followers_of(many, needs):
    """For each of so many tasks the list of the tasks that need it."""
    followers = [[] for _ in range(many)]
    for a, b in needs:
        followers[a].append(b)
    return followers


def has_ring(many, needs):
    """Whether needs of so many tasks make a ring."""
    followers = followers_of(many, needs)
    waits = [0] * many
    for _, b in needs:
        waits[b] = waits[b] + 1
    cleared = [t for t in range(many) if waits[t] == 0]
    at = 0
    while at < len(cleared):
        a = cleared[at]
        for b in followers[a]:
            waits[b] = waits[b] - 1
            if waits[b] == 0:
                cleared.append(b)
        at += 1
    # The tasks of a ring, and those behind them, wait for each other for ever.
    return len(cleared) < many


def check_job(job):
    """Raises NoJob if the argument is not a job."""
    if not is_job(job):
        raise NoJob("the argument is not a job")


def check_narrow(job):
    """Raises NoJob if the argument is not a job, then NotNarrow if it is not narrow."""
    if not is_narrow(job):
        raise NotNarrow("the job has an hour with room for three")


def check_task(job, t):
    """Raises NoTask if t is not a task of the job."""
    if not is_task(len(job[0]), t):
        raise NoTask("the argument is not a task of the job")


def is_narrow(job):
    """Whether no hour of the job has room for three."""
    check_job(job)
    return MOST_ROOM not in job[3]


def is_behind(job, a, b):
    """Whether the task b is behind the task a, by one need or by several in a row."""
    check_job(job)
    check_task(job, a)
    check_task(job, b)
    return b in tasks_behind(job, a)


def tasks_behind(job, first):
    """The tasks behind the task first, in rising order."""
    followers = followers_of(len(job[0]), job[2])
    found = {}
    todo = [first]
    while todo:
        a = todo.pop()
        for b in followers[a]:
            if b not in found:
                found[b] = True
                todo.append(b)
    return sorted(found)


def room(job, s, e):
    """How many tasks can be done in the hours from s to e together."""
    check_job(job)
    if not is_hour(s):
        raise NoHour("the first hour is not a whole number from 1 on")
    if not is_whole(e):
        raise NoHour("the last hour is not a whole number")
    return room_within(job[3], s, e)


def room_within(rooms, s, e):
    """How many tasks can be done in the hours from s, from 1 on, to e together."""
    if e < s:
        return 0
    hours_behind = max(0, e - max(s - 1, len(rooms)))
    return sum(rooms[s - 1:e]) + ROOM_BEHIND * hours_behind


def with_free(job, t, f):
    """The job in which the task t is free from hour f on, or later if it was so before."""
    check_job(job)
    check_task(job, t)
    if not is_hour(f):
        raise NoHour("the free is not a whole number from 1 on")
    return free_from(job, t, f)


def free_from(job, t, f):
    """What with_free tells, of a job, a task of it, and an hour."""
    frees, dues, needs, rooms = job
    new_frees = list(frees)
    new_frees[t] = max(frees[t], f)
    return (new_frees, list(dues), list(needs), list(rooms))


def with_due(job, t, d):
    """The job in which the task t is due by hour d, or sooner if it was so before."""
    check_job(job)
    check_task(job, t)
    if not is_whole_from(0, d):
        raise NoHour("the due is not a whole number from 0 on")
    return due_by(job, t, d)


def due_by(job, t, d):
    """What with_due tells, of a job, a task of it, and a whole number from 0 on."""
    frees, dues, needs, rooms = job
    new_dues = list(dues)
    if dues[t] is None or d < dues[t]:
        new_dues[t] = d
    return (list(frees), new_dues, list(needs), list(rooms))
