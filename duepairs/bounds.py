"""Bounds: what holds in every plan of a narrow job, with plans and derivations that show it."""

from duepairs.errors import NoPlan
from duepairs.jobs import check_narrow, check_task, due_by, free_from, tasks_behind
from duepairs.plans import hours_by
from duepairs.settling import settle


def earliest(job, t):
    """(h, hours, lines): the least hour of t, a plan with it, and why there is none with less."""
    check_narrow(job)
    check_task(job, t)
    hours = any_plan(job)
    return turning(lambda h: due_by(job, t, h), 0, hours[t])


def latest(job, t):
    """(h, hours, lines) likewise for the greatest hour of t, or None if there is no greatest."""
    check_narrow(job)
    check_task(job, t)
    hours = any_plan(job)
    dues = [job[1][v] for v in [t] + tasks_behind(job, t) if job[1][v] is not None]
    if not dues:
        return None
    return turning(lambda h: free_from(job, t, h), min(dues) + 1, hours[t])


def any_plan(job):
    """A plan of the job; raises NoPlan if there is none."""
    hours = plan_of(job)
    if hours is None:
        raise NoPlan("the job has no plan")
    return hours


def plan_of(job):
    """A plan of the job, or None if there is none."""
    word, told = settle(job)
    return told if word == "plan" else None


def turning(job_for, none_at, plan_at):
    """(n, hours, lines): the number n next to those for which a job has no plan.

    job_for tells the job for a number: for none_at it has no plan, for plan_at it has one, and in
    between it changes just once. hours is a plan of the job for n, and lines a derivation of that
    for the next number towards none_at.
    """
    without = none_at
    n = plan_at
    while abs(n - without) > 1:
        middle = (n + without) // 2
        if plan_of(job_for(middle)) is None:
            without = middle
        else:
            n = middle
    return (n, settle(job_for(n))[1], settle(job_for(without))[1])


def always_ahead(job, a, b):
    """(None, papers) if a is done in an earlier hour than b in every plan, else (hours, None).

    papers has for each hour in which a and b might meet a derivation that they do not; hours is a
    plan in which a is not done in an earlier hour.
    """
    check_narrow(job)
    check_task(job, a)
    check_task(job, b)
    first = earliest(job, b)[0]
    if b in tasks_behind(job, a):
        return (None, [])
    # If a can be done as late as one likes, it can be so when b is done in its earliest hour.
    bound = latest(job, a)
    last = first if bound is None else bound[0]
    papers = []
    for h in range(first, last + 1):
        word, told = settle(due_by(free_from(job, a, h), b, h))
        if word == "plan":
            return (told, None)
        papers.append((h, told))
    return (None, papers)


def needed_delay(job):
    """(n, hours, lines): by how much the dues must be postponed, a plan then, and why not by less."""
    check_narrow(job)
    hours = plan_of(job)
    if hours is not None:
        return (0, hours, None)
    # When all dues lie behind the hours of some list that keeps the rest, it is a plan.
    enough = max(hours_by(job, list(range(len(job[0])))))
    return turning(lambda n: delayed(job, n), 0, enough)


def delayed(job, n):
    """The job with n added to each due."""
    frees, dues, needs, rooms = job
    return (list(frees), [None if due is None else due + n for due in dues], list(needs), list(rooms))


def fewest_hours(job):
    """(n, hours, lines): the least last hour, a plan that ends with it, and why none ends before."""
    check_narrow(job)
    hours = any_plan(job)
    if not hours:
        return (0, hours, None)
    return turning(lambda n: ended_by(job, n), 0, max(hours))


def ended_by(job, n):
    """The job in which each due is n if it was greater or None."""
    frees, dues, needs, rooms = job
    return (list(frees), [n if due is None else min(due, n) for due in dues], list(needs), list(rooms))
