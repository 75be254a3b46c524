"""Lines of derivations: what is stated of every plan of a job, each by earlier ones."""

from duepairs.jobs import check_job, is_task, room_within, tasks_behind
from duepairs.whole import is_whole, is_whole_from

NO_PLAN = ("none",)


def are_right(job, lines):
    """Whether the lines, anything, are a list of right lines."""
    check_job(job)
    return are_right_lines(job, all_behind(job), lines)


def judge(job, lines):
    """Whether the lines, anything, are a derivation: that the job has no plan."""
    check_job(job)
    return is_derivation(job, all_behind(job), lines)


def all_behind(job):
    """For each task of the job the list of the tasks behind it."""
    return [tasks_behind(job, t) for t in range(len(job[0]))]


def is_derivation(job, behind, thing):
    """Whether the thing is a derivation; behind has the tasks behind each task of the job."""
    return are_right_lines(job, behind, thing) and len(thing) > 0 and thing[-1][0] == NO_PLAN


def are_right_lines(job, behind, thing):
    """Whether the thing is a list of right lines."""
    if not isinstance(thing, list):
        return False
    for at, line in enumerate(thing):
        # The lines before this one have been found right, so their statements can be read.
        if not is_line(len(job[0]), line) or not is_right(job, behind, thing, at):
            return False
    return True


def is_line(many, thing):
    """Whether the thing is a tuple of a statement on so many tasks and a tuple with a first word."""
    if not isinstance(thing, tuple) or len(thing) != 2:
        return False
    statement, reason = thing
    return is_statement(many, statement) and isinstance(reason, tuple) and len(reason) > 0


def is_statement(many, thing):
    """Whether the thing is a statement on so many tasks."""
    if not isinstance(thing, tuple) or len(thing) not in (1, 3):
        return False
    if len(thing) == 1:
        return thing == NO_PLAN
    word, t, hour = thing
    return word in ("free", "due") and is_task(many, t) and is_whole(hour)


def is_right(job, behind, lines, at):
    """Whether the reason of the line with this number is one; the lines before it are right."""
    statement, reason = lines[at]
    word = reason[0]
    if word == "given":
        return len(reason) == 1 and is_given(job, statement)
    if word == "later":
        return len(reason) == 2 and is_later(job, statement, stated_before(lines, at, reason[1]))
    if word == "weaker":
        return len(reason) == 2 and is_weaker(statement, stated_before(lines, at, reason[1]))
    if word == "sooner":
        return len(reason) == 3 and is_sooner(job, behind, lines, at)
    if word == "full":
        return len(reason) == 4 and is_full(job, lines, at)
    return False


def stated_before(lines, at, thing):
    """What the line states whose number is the thing, or None if no line before at has it."""
    return lines[thing][0] if is_whole_from(0, thing) and thing < at else None


def is_given(job, statement):
    """Whether the statement is an entry of the frees or of the dues."""
    if statement == NO_PLAN:
        return False
    word, t, hour = statement
    frees, dues, _, _ = job
    return hour == (frees[t] if word == "free" else dues[t])


def is_later(job, statement, told):
    """Whether the free in the statement is that behind the told one, by a need."""
    if told is None or told[0] != "free" or statement[0] != "free":
        return False
    _, u, g = told
    _, t, f = statement
    return (u, t) in job[2] and f == g + 1


def is_weaker(statement, told):
    """Whether the statement says no more than the told one, or that there is no plan."""
    if told == NO_PLAN:
        return True
    if told is None or statement[:2] != told[:2]:
        return False
    return told[2] >= statement[2] if told[0] == "free" else told[2] <= statement[2]


def is_sooner(job, behind, lines, at):
    """Whether too many tasks would be left if that in the line were done after its hour."""
    statement, (_, e, parts) = lines[at]
    if statement[0] != "due":
        return False
    _, t, s = statement
    if s < 0 or not is_whole(e) or not isinstance(parts, tuple):
        return False
    tasks = [task_of_part(lines, at, part, s + 2, e, behind[t]) for part in parts]
    return t not in tasks and are_too_many(job, tasks, s + 2, e)


def is_full(job, lines, at):
    """Whether there are too many tasks for the hours behind s up to e, and so no plan."""
    statement, (_, s, e, parts) = lines[at]
    if statement != NO_PLAN or not is_whole_from(0, s) or not is_whole(e):
        return False
    if not isinstance(parts, tuple):
        return False
    tasks = [task_of_part(lines, at, part, s + 1, e, []) for part in parts]
    return are_too_many(job, tasks, s + 1, e)


def task_of_part(lines, at, part, first, e, followers):
    """The task that a part, anything, puts between the hours first and e, or None.

    It has no need of a line that says that it is free from the hour first on if it is one of
    the followers.
    """
    if not isinstance(part, tuple) or len(part) != 2:
        return None
    i, j = part
    due = stated_before(lines, at, i)
    if due is None or due[0] != "due" or due[2] > e:
        return None
    v = due[1]
    if j is None:
        return v if v in followers else None
    free = stated_before(lines, at, j)
    if free is None or free[:2] != ("free", v) or free[2] < first:
        return None
    return v


def are_too_many(job, tasks, first, e):
    """Whether the tasks are different, no None among them, and more than there is room."""
    if None in tasks or len(set(tasks)) != len(tasks):
        return False
    return len(tasks) > room_within(job[3], first, e)
