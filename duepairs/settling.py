"""Settling a job: a plan, or a derivation or a tree that there is none."""

from duepairs.collecting import by_due, collected, lines_to
from duepairs.errors import NoStatement
from duepairs.jobs import check_job
from duepairs.lines import NO_PLAN, is_statement
from duepairs.parting import tasks_to_part, tree_of
from duepairs.plans import first_fault, hours_by
from duepairs.searching import searched


def settle(job):
    """("plan", hours) with a plan, or ("none", tree) with a tree, a derivation if there is one."""
    check_job(job)
    found = collected(job)
    if found.none_line is not None:
        return ("none", lines_to(found.lines, found.none_line))
    hours = planned(found)
    if hours is None:
        return ("none", tree_of(job, tasks_to_part(found)))
    return ("plan", hours)


def planned(found):
    """A plan of the job of a complete collection, or None if there is none."""
    last = [t for t, due in enumerate(found.dues) if due is None]
    hours = hours_by(found.of_job, by_due(found) + last)
    if first_fault(found.of_job, hours) is None:
        return hours
    # This is not reached with narrow jobs: see point 9 of the document.
    return searched(found, 0)


def closed(job):
    """The greatest frees and the least dues that lines state, or None if there is a derivation."""
    check_job(job)
    found = collected(job)
    if found.none_line is not None:
        return None
    return (found.frees, found.dues)


def lines_for(job, statement):
    """Right lines up to one with the statement, or None if there are none."""
    check_job(job)
    if not is_statement(len(job[0]), statement):
        raise NoStatement("the argument is not a statement of the job")
    found = collected(job)
    last = line_for(found, statement)
    if last is None:
        return None
    lines = lines_to(found.lines, last)
    if lines[-1][0] != statement:
        lines.append((statement, ("weaker", len(lines) - 1)))
    return lines


def line_for(found, statement):
    """The number of a collected line that says as much as the statement, or None."""
    if found.none_line is not None or statement == NO_PLAN:
        return found.none_line
    word, t, hour = statement
    if word == "free":
        return found.free_lines[t] if hour <= found.frees[t] else None
    due = found.dues[t]
    return found.due_lines[t] if due is not None and due <= hour else None
