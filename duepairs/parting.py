"""Parting a job that has no plan into cases with a derivation each."""

from duepairs.collecting import collected, lines_to
from duepairs.jobs import due_by, free_from
from duepairs.places import next_open, open_hours
from duepairs.searching import bit_of, searched


def tree_of(job, tasks):
    """A tree of a job that has no plan, in which only some tasks are parted.

    They are such that there are no hours for them, even if all others are left out: as soon as
    each of them has one hour left, a derivation finds that out.
    """
    found = collected(job)
    if found.none_line is not None:
        return lines_to(found.lines, found.none_line)
    t, h = next_parting(found, tasks)
    return (t, h, tree_of(due_by(job, t, h), tasks), tree_of(free_from(job, t, h + 1), tasks))


def tasks_to_part(found):
    """Tasks for which there are no hours, even if all others are left out, but no fewer of them.

    The collection is that of a job without a plan. All of these tasks have a due in it: hours
    for the others could be put behind those of all that have one.
    """
    left_out = 0
    kept = []
    for t in range(len(found.frees)):
        if searched(found, left_out + bit_of(t)) is None:
            left_out = left_out + bit_of(t)
        else:
            kept.append(t)
    return kept


def next_parting(found, tasks):
    """The one of the tasks with the fewest hours left, and the hour behind which to part it.

    Hours without room at the beginning are parted off at once.
    """
    rooms = found.of_job[3]
    several = [v for v in tasks if found.frees[v] < found.dues[v]]
    t = min(several, key=lambda v: open_hours(rooms, found.frees[v], found.dues[v]))
    f = found.frees[t]
    return t, max(f, next_open(rooms, f) - 1)
