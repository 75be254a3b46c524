"""Plans: lists with an hour for each task that keep a job."""

from duepairs.errors import NoHours, NoOrder
from duepairs.jobs import check_job, is_task, room_within
from duepairs.whole import is_hour


def is_plan(job, thing):
    """Whether the thing is a plan of the job."""
    check_job(job)
    return are_hours(job, thing) and first_fault(job, thing) is None


def fault(job, hours):
    """What of the job the hours do not keep, or None if they are a plan."""
    check_job(job)
    if not are_hours(job, hours):
        raise NoHours("the argument is not a list of hours, one for each task")
    return first_fault(job, hours)


def are_hours(job, thing):
    """Whether the thing is a list of hours, one for each task of the job."""
    if not isinstance(thing, list) or len(thing) != len(job[0]):
        return False
    return all([is_hour(hour) for hour in thing])


def first_fault(job, hours):
    """What fault tells, of a list with an hour for each task."""
    frees, dues, needs, rooms = job
    for t, free in enumerate(frees):
        if hours[t] < free:
            return ("free", t)
    for t, due in enumerate(dues):
        if due is not None and hours[t] > due:
            return ("due", t)
    for a, b in needs:
        if hours[a] >= hours[b]:
            return ("need", a, b)
    for h, many in crowds(hours):
        if many > room_within(rooms, h, h):
            return ("room", h)
    return None


def crowds(hours):
    """The tuples (hour, how many tasks are done in it), in rising order."""
    many = {}
    for h in hours:
        many[h] = many.get(h, 0) + 1
    return sorted(many.items())


def listed(job, order):
    """The hours that come of doing in each hour the first tasks in order that can be done."""
    check_job(job)
    if not is_order(len(job[0]), order):
        raise NoOrder("the argument is not a list of all tasks, each once")
    return hours_by(job, order)


def is_order(many, thing):
    """Whether the thing is a list of so many tasks, each once."""
    if not isinstance(thing, list) or not all([is_task(many, t) for t in thing]):
        return False
    return sorted(thing) == list(range(many))


def hours_by(job, order):
    """What listed tells, of a list of all tasks, each once."""
    frees, _, needs, rooms = job
    hours = [0] * len(frees)
    left = list(order)
    hour = 1
    while left:
        waiting = {b: True for a, b in needs if hours[a] == 0}
        able = [t for t in left if t not in waiting]
        ready = [t for t in able if frees[t] <= hour]
        for t in ready[:room_within(rooms, hour, hour)]:
            hours[t] = hour
        left = [t for t in left if hours[t] == 0]
        # Frees may be far away: hours in which nothing can be done are passed over at once.
        hour = hour + 1 if ready else min([frees[t] for t in able])
    return hours
