"""States of a board: tuples (frees, dues, needs, rooms) of tuples, otherwise like jobs.

Nothing of a state can change: each function here tells a new one.
"""

from duepairs.errors import BadDeed, BadNeed, JobError, NoHour, NoRooms, NoTask
from duepairs.jobs import check_task, is_room, room_within
from duepairs.rings import ring_by, shortest_ring
from duepairs.whole import is_due, is_hour

EMPTY = ((), (), (), ())


def state_of(job):
    """The state in which a board has the job."""
    frees, dues, needs, rooms = job
    return (tuple(frees), tuple(dues), tuple(needs), tuple(rooms))


def job_of(state):
    """The job that a board in this state has, with lists of its own."""
    frees, dues, needs, rooms = state
    return (list(frees), list(dues), list(needs), list(rooms))


def check_entry(free, due):
    """Raises NoHour if these, anything, cannot be the free and the due of a task."""
    if not is_hour(free):
        raise NoHour("the free is not a whole number from 1 on")
    if not is_due(due):
        raise NoHour("the due is neither None nor a whole number from 0 on")


def with_task(state, free, due):
    """The state with one more task at the end."""
    check_entry(free, due)
    frees, dues, needs, rooms = state
    return (frees + (free,), dues + (due,), needs, rooms)


def with_pair(state, t, pair):
    """The state with the pair, anything, as the free and the due of the task t."""
    check_task(state, t)
    if not isinstance(pair, tuple) or len(pair) != 2:
        raise NoHour("what is set is not a tuple of a free and a due")
    free, due = pair
    return with_entry(state, t, free, due)


def with_entry(state, t, free, due):
    """The state with this free and this due of the task t."""
    check_task(state, t)
    check_entry(free, due)
    frees, dues, needs, rooms = state
    new_frees = frees[:t] + (free,) + frees[t + 1:]
    new_dues = dues[:t] + (due,) + dues[t + 1:]
    return (new_frees, new_dues, needs, rooms)


def with_need(state, a, b):
    """The state with the need (a, b) at the end."""
    check_task(state, a)
    check_task(state, b)
    frees, dues, needs, rooms = state
    if a == b or (a, b) in needs:
        raise BadNeed(None)
    ring = ring_by(len(frees), needs, a, b)
    if ring is not None:
        raise BadNeed(ring)
    return (frees, dues, needs + ((a, b),), rooms)


def without_need(state, a, b):
    """The state without the need (a, b)."""
    check_task(state, a)
    check_task(state, b)
    frees, dues, needs, rooms = state
    if (a, b) not in needs:
        raise BadNeed(None)
    return (frees, dues, tuple([need for need in needs if need != (a, b)]), rooms)


def with_chain(state, tasks):
    """The state with the needs between neighbours that are not there yet, one after the other."""
    for t in tasks:
        check_task(state, t)
    chained = state
    for a, b in zip(tasks, tasks[1:]):
        if (a, b) not in chained[2]:
            chained = with_need(chained, a, b)
    return chained


def without_last(state):
    """The state without the last task and the needs in which it stands."""
    frees, dues, needs, rooms = state
    if not frees:
        raise NoTask("there is no task to take out")
    last = len(frees) - 1
    return (frees[:last], dues[:last], tuple([need for need in needs if last not in need]), rooms)


def with_rooms(state, rooms):
    """The state with these rooms."""
    if not isinstance(rooms, (list, tuple)) or not all([is_room(places) for places in rooms]):
        raise NoRooms("the rooms are not a list or tuple of whole numbers from 0 to 3")
    frees, dues, needs, _ = state
    return (frees, dues, needs, tuple(rooms))


def with_both(state, other):
    """The state with the conditions of two states with equally many tasks."""
    frees = [max(pair) for pair in zip(state[0], other[0])]
    dues = [lesser_due(one, two) for one, two in zip(state[1], other[1])]
    needs = state[2] + tuple([need for need in other[2] if need not in state[2]])
    hours = range(1, max(len(state[3]), len(other[3])) + 1)
    rooms = [min(room_within(state[3], h, h), room_within(other[3], h, h)) for h in hours]
    ring = shortest_ring(len(frees), needs)
    if ring is not None:
        raise BadNeed(ring)
    return (tuple(frees), tuple(dues), needs, tuple(rooms))


def lesser_due(one, two):
    """The lesser of two dues, None being later than all others."""
    if one is None or two is None:
        return two if one is None else one
    return min(one, two)


# For each word of a deed what it does, and how many entries such a deed has, the word included.
DOERS = {
    "add": with_task, "set": with_entry, "need": with_need, "unneed": without_need,
    "drop": without_last, "rooms": with_rooms,
}
ENTRIES = {"add": 3, "set": 4, "need": 3, "unneed": 3, "drop": 1, "rooms": 2}


def is_deed(thing):
    """Whether the thing is a tuple with the word of a deed and as many entries as it has."""
    if not isinstance(thing, tuple) or len(thing) == 0 or not isinstance(thing[0], str):
        return False
    return ENTRIES.get(thing[0]) == len(thing)


def after_deed(state, place, deed):
    """The state after a deed, anything; raises BadDeed with this place if it cannot be done."""
    if not is_deed(deed):
        raise BadDeed(place, None)
    doer = DOERS[deed[0]]
    rest = deed[1:]
    try:
        return doer(state, *rest)
    except JobError as error:
        raise BadDeed(place, error.__class__.__name__) from error
