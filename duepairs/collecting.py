"""Collecting right lines of a job, until nothing new comes of them."""

from duepairs.jobs import room_within
from duepairs.lines import NO_PLAN, all_behind
from duepairs.places import hour_of_place, places_until


class Collection:
    """Right lines of a job, and for each task the greatest free and the least due in them.

    frees and dues are these hours, free_lines and due_lines the numbers of their lines (None
    where no due is stated); none_line is the number of a line that there is no plan, or None.
    """

    def __init__(self, job):
        self.of_job = job
        self.behind = all_behind(job)
        self.lines = []
        self.frees = [None for _ in job[0]]
        self.free_lines = [None for _ in job[0]]
        self.dues = [None for _ in job[0]]
        self.due_lines = [None for _ in job[0]]
        self.none_line = None

    def state_free(self, t, f, reason):
        """Puts a line with a greater free of the task t at the end."""
        self.frees[t] = f
        self.free_lines[t] = len(self.lines)
        self.lines.append((("free", t, f), reason))

    def state_due(self, t, d, reason):
        """Puts a line with a lesser due of the task t at the end."""
        self.dues[t] = d
        self.due_lines[t] = len(self.lines)
        self.lines.append((("due", t, d), reason))

    def state_none(self, reason):
        """Puts a line that there is no plan at the end."""
        self.none_line = len(self.lines)
        self.lines.append((NO_PLAN, reason))

def collected(job):
    """A collection of the job to which nothing new can come, or with a none_line at its end."""
    found = Collection(job)
    # Frees come of those of the tasks before, and dues first of all of those of the tasks behind.
    order = sorted(list(range(len(job[0]))), key=lambda t: -len(found.behind[t]))
    for t in order:
        collect_free(found, t)
    for t, due in enumerate(job[1]):
        if due is not None:
            found.state_due(t, due, ("given",))
    collect_dues(found, order[::-1])
    return found


def collect_free(found, t):
    """States the greatest free of a task; those of the tasks that it needs are stated."""
    frees, _, needs, _ = found.of_job
    needed = [a for a, b in needs if b == t]
    last = max(needed, key=lambda a: found.frees[a], default=None)
    if last is None or found.frees[last] < frees[t]:
        found.state_free(t, frees[t], ("given",))
    else:
        found.state_free(t, found.frees[last] + 1, ("later", found.free_lines[last]))


def collect_dues(found, order):
    """States lesser dues, going through the tasks in order, until there are none or no plan."""
    news = True
    while news:
        collect_full(found)
        if found.none_line is not None:
            return
        news = False
        for t in order:
            if collect_due(found, t):
                news = True


def by_due(found):
    """The tasks with a due, by rising dues."""
    tasks = [t for t, due in enumerate(found.dues) if due is not None]
    return sorted(tasks, key=lambda t: found.dues[t])


def collect_full(found):
    """States that there is no plan if too many tasks have their hours within some hours."""
    tasks = by_due(found)
    for first in sorted(set(found.frees)):
        within = [u for u in tasks if found.frees[u] >= first]
        for many, v in enumerate(within, start=1):
            e = found.dues[v]
            if many > room_within(found.of_job[3], first, e):
                parts = [(found.due_lines[u], found.free_lines[u]) for u in within[:many]]
                found.state_none(("full", first - 1, e, tuple(parts)))
                return


def collect_due(found, t):
    """States the least due of a task that the lines lead to, and returns whether it is new."""
    followers = found.behind[t]
    others = [v for v in by_due(found) if v != t]
    best = found.dues[t]
    crowd = []
    for first in [None] + sorted(set(found.frees)):
        after = [v for v in others if v in followers or (first is not None and found.frees[v] >= first)]
        s, many = soonest(found, after)
        # Those that are not behind t count if they are free from the hour s + 2 on.
        fits = s is not None and (first is None or s + 2 <= first)
        if fits and (best is None or s < best):
            best = s
            crowd = after[:many]
    if not crowd:
        return False
    parts = [(found.due_lines[v], None if v in followers else found.free_lines[v]) for v in crowd]
    found.state_due(t, best, ("sooner", found.dues[crowd[-1]], tuple(parts)))
    return True


def soonest(found, tasks):
    """The least s from 0 on for which the first of the tasks are too many from hour s + 2 on.

    The tasks have rising dues. Returned are s and how many of the tasks these are, (None, 0) if
    there are no tasks.
    """
    rooms = found.of_job[3]
    best = None
    crowd = 0
    for many, v in enumerate(tasks, start=1):
        # If they take the last places up to their due, the first of these lies in hour s + 1.
        s = hour_of_place(rooms, places_until(rooms, found.dues[v]) - many) - 1
        if best is None or s < best:
            best = s
            crowd = many
    return best, crowd


def lines_to(lines, last):
    """The line with the number last, behind those that it comes of, as a list of its own."""
    wanted = {last: True}
    for at in reversed(range(last + 1)):
        if at in wanted:
            for i in told_lines(lines[at][1]):
                wanted[i] = True
    numbers = {}
    for at in sorted(wanted):
        numbers[at] = len(numbers)
    return [(lines[at][0], renumbered(lines[at][1], numbers)) for at in sorted(wanted)]


def told_lines(reason):
    """The numbers of the lines that a reason names."""
    if reason[0] == "given":
        return []
    if reason[0] in ("later", "weaker"):
        return [reason[1]]
    return [i for part in reason[-1] for i in part if i is not None]


def renumbered(reason, numbers):
    """The reason with the new numbers of the lines that it names."""
    if reason[0] == "given":
        return reason
    if reason[0] in ("later", "weaker"):
        return (reason[0], numbers[reason[1]])
    parts = [(numbers[i], None if j is None else numbers[j]) for i, j in reason[-1]]
    return reason[:-1] + (tuple(parts),)
