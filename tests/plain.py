"""Plain readings of points 12 to 17, to hold the package's answers against.

They go through everything, and share no code with the package.
"""

import itertools
import re

from second import far_pairs, rooms_of


def plans_until(job, last):
    """All plans in which no task is done after the hour last, in rising order."""
    frees, dues, needs, _ = job
    many = len(frees)

    def go_on(hours):
        t = len(hours)
        if t == many:
            yield list(hours)
            return
        for h in range(frees[t], (last if dues[t] is None else min(last, dues[t])) + 1):
            told = hours + [h]
            if told.count(h) <= rooms_of(job, h, h) and all(
                    told[a] < told[b] for a, b in needs if max(a, b) <= t):
                yield from go_on(told)

    return list(go_on([]))


def horizon(job):
    """An hour by which everything that is asked of small jobs can be seen in some plan."""
    frees, dues, _, rooms = job
    return max([0, len(rooms)] + frees + [due for due in dues if due is not None]) + len(frees)


def has_latest(job, t):
    """Whether the task, or one behind it, has a due."""
    far = far_pairs(job)
    return any(due is not None for v, due in enumerate(job[1]) if v == t or (t, v) in far)


def rings(many, needs):
    """Every ring of a few needs, as a list of tasks, by rising lengths."""
    return [list(tasks) for size in range(2, many + 1) for tasks in itertools.permutations(range(many), size)
            if all(pair in needs for pair in zip(tasks, tasks[1:] + tasks[:1]))]


def is_ring(needs, tasks):
    return (type(tasks) is list and len(set(tasks)) == len(tasks) > 1
            and all(pair in needs for pair in zip(tasks, tasks[1:] + tasks[:1])))


NUMBER = "(?:0|[1-9][0-9]*)"
WHOLE = f"(?:0|-?[1-9][0-9]*)"
PART = rf"\({NUMBER},{NUMBER}?\)"
ROW = re.compile(
    rf"({NUMBER}): (?:none|free {NUMBER} >= {WHOLE}|due {NUMBER} <= {WHOLE}) (?:given|later {NUMBER}|weaker {NUMBER}"
    rf"|sooner {WHOLE}(?: {PART})*|full {WHOLE} {WHOLE}(?: {PART})*)")


def first_bad_row(text):
    """The number of the first line with which a text is none of lines, or None."""
    for at, row in enumerate(text.split("\n") if text != "" else []):
        match = ROW.fullmatch(row)
        if match is None or match.group(1) != str(at):
            return at + 1
    return None


def job_of_rows(rows):
    """The job whose text these lines are, or None."""
    frees, dues, needs, rooms = [], [], [], []
    kinds = [row.split(" ")[0] for row in rows]
    if kinds != [word for word in ("task", "need", "rooms") for kind in kinds if kind == word]:
        return None
    for row in rows:
        if re.fullmatch(f"task [1-9][0-9]*( {NUMBER})?", row):
            free, *due = row.split(" ")[1:]
            frees.append(int(free))
            dues.append(int(due[0]) if due else None)
        elif re.fullmatch(f"need {NUMBER} {NUMBER}", row):
            _, a, b = row.split(" ")
            needs.append((int(a), int(b)))
        elif re.fullmatch("rooms( [0-3])+", row) and not rooms:
            rooms = [int(places) for places in row.split(" ")[1:]]
        else:
            return None
    if any(t >= len(frees) for need in needs for t in need) or len(set(needs)) < len(needs):
        return None
    far = far_pairs((frees, dues, needs, rooms))
    return None if any((t, t) in far for t in range(len(frees))) else (frees, dues, needs, rooms)


def first_bad_line(text):
    """The number of the first line with which a text is none of a job, or None."""
    rows = text.split("\n") if text != "" else []
    for many in range(1, len(rows) + 1):
        if job_of_rows(rows[:many]) is None:
            return many
    return None


def bent_texts(text):
    """Texts that come of bending one sign, one word or one line of a text."""
    signs = "0129 -:\n(),<>=ae"
    for k in range(len(text) + 1):
        yield text[:k] + text[k + 1:]
        for sign in signs:
            yield text[:k] + sign + text[k:]
            yield text[:k] + sign + text[k + 1:]
    words = re.split("([ \n])", text)
    for k in range(0, len(words), 2):
        for word in ["", "task", "need", "rooms", "none", "free", "due", "given", "later", "weaker", "sooner", "full",
                     "0", "00", "-0", "01", "-1", "4", "10", "+1", "1.0", "1_0", ">=", "<=", ">", "=", "()", "(1)",
                     "(1,)", "(,1)", "(1,2,)", "(1,2)", "(01,2)", "(1,-2)", "(1, 2)", words[k] + " " + words[k]]:
            yield "".join(words[:k] + [word] + words[k + 1:])
    rows = text.split("\n")
    for k in range(len(rows)):
        yield "\n".join(rows[:k] + rows[k + 1:])
        yield "\n".join(rows[:k] + [rows[k]] * 2 + rows[k + 1:])
        yield "\n".join(rows[:k] + [""] + rows[k:])
        for other in range(len(rows)):
            swapped = list(rows)
            swapped[k], swapped[other] = rows[other], rows[k]
            yield "\n".join(swapped)
    yield text + "\n"
    yield "\n" + text
    yield " " + text
    yield text + " "
    yield text.replace("\n", "\n\n")
    yield text.replace("\n", " ")
    yield text.upper()
