"""Trees: cases that a job has been parted into, each with a derivation that it has no plan."""

from duepairs.jobs import check_job, due_by, free_from, is_task
from duepairs.lines import all_behind, is_derivation
from duepairs.whole import is_whole_from


def is_tree(job, thing):
    """Whether the thing is a tree of the job."""
    check_job(job)
    behind = all_behind(job)
    # No recursion: how deep a tree that is passed may be is not told.
    todo = [(job, thing)]
    while todo:
        parted, part = todo.pop()
        if is_parting(len(job[0]), part):
            t, h, first, second = part
            todo.append((free_from(parted, t, h + 1), second))
            todo.append((due_by(parted, t, h), first))
        elif not is_derivation(parted, behind, part):
            return False
    return True


def is_parting(many, thing):
    """Whether the thing is a tuple of one of so many tasks, an hour or 0, and two more things."""
    if not isinstance(thing, tuple) or len(thing) != 4:
        return False
    return is_task(many, thing[0]) and is_whole_from(0, thing[1])
