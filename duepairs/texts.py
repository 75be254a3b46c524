"""Texts of jobs and of lines, written and read, and charts of hours."""

from duepairs.errors import NoHours, NoText
from duepairs.jobs import check_job, has_ring, is_need, is_room
from duepairs.lines import NO_PLAN
from duepairs.numerals import number_in, spelled, whole_in
from duepairs.whole import is_hour

# How the hour stands behind the task in a text, by the word of a statement.
SIGNS = {"free": ">=", "due": "<="}


def job_text(job):
    """The text of a job."""
    check_job(job)
    frees, dues, needs, rooms = job
    tasks = [["task", free] if due is None else ["task", free, due] for free, due in zip(frees, dues)]
    ends = [["need", a, b] for a, b in needs] + ([["rooms"] + rooms] if rooms else [])
    return "\n".join([spelled(words) for words in tasks + ends])


def rows_in(text):
    """The lines of a text; the empty string has none."""
    return text.split("\n") if text else []


def read_job(text):
    """The job of which this is the text; raises NoText if it is that of none."""
    job = ([], [], [], [])
    for number, row in enumerate(rows_in(text), start=1):
        # Rooms, which are not empty when they have been read, stand on the last line only.
        if job[3] or not take_row(job, row):
            raise NoText(number)
    return job


def take_row(job, row):
    """Puts what the line of a text says into a job read so far; returns whether it can."""
    word, *others = row.split(" ")
    numbers = [number_in(other) for other in others]
    if None in numbers:
        return False
    if word == "task":
        return take_task(job, numbers)
    if word == "need":
        return take_need(job, numbers)
    return word == "rooms" and take_rooms(job, numbers)


def take_task(job, numbers):
    """Puts a task with this free and perhaps due into a job without needs, if it can."""
    frees, dues, needs, _ = job
    if needs or len(numbers) not in (1, 2) or numbers[0] == 0:
        return False
    frees.append(numbers[0])
    dues.append(numbers[1] if len(numbers) == 2 else None)
    return True


def take_need(job, numbers):
    """Puts the need with these numbers into a job, if it can."""
    frees, _, needs, _ = job
    need = tuple(numbers)
    if not is_need(len(frees), need) or need in needs or has_ring(len(frees), needs + [need]):
        return False
    needs.append(need)
    return True


def take_rooms(job, numbers):
    """Puts these rooms, which are not empty, into a job, if it can."""
    if not numbers or not all([is_room(number) for number in numbers]):
        return False
    job[3].extend(numbers)
    return True


def lines_text(lines):
    """The text of a list of lines, right or not."""
    return "\n".join([line_text(at, line) for at, line in enumerate(lines)])


def line_text(at, line):
    """The line with the number at, as it stands in a text."""
    statement, reason = line
    if statement == NO_PLAN:
        said = ["none"]
    else:
        word, t, hour = statement
        said = [word, t, SIGNS[word], hour]
    why = list(reason)
    if reason[0] in ("sooner", "full"):
        why = why[:-1] + [part_text(i, j) for i, j in reason[-1]]
    return spelled([f"{at}:"] + said + why)


def part_text(i, j):
    """A part of a reason, as it stands in a text."""
    return f"({i},)" if j is None else f"({i},{j})"


def read_lines(text):
    """The lines of which this is the text; raises NoText if it is that of none."""
    lines = []
    for at, row in enumerate(rows_in(text)):
        line = line_in(at, row.split(" "))
        if line is None:
            raise NoText(at + 1)
        lines.append(line)
    return lines


def line_in(at, words):
    """The line with the number at that the words write, or None if they write none."""
    if words[0] != f"{at}:":
        return None
    end = 2 if words[1:2] == ["none"] else 5
    statement = statement_in(words[1:end])
    reason = reason_in(words[end:])
    return None if statement is None or reason is None else (statement, reason)


def statement_in(words):
    """The statement that the words write, or None if they write none."""
    if words == ["none"]:
        return NO_PLAN
    if len(words) != 4:
        return None
    word, task, sign, hour = words
    t = number_in(task)
    h = whole_in(hour)
    if sign != SIGNS.get(word) or t is None or h is None:
        return None
    return (word, t, h)


def reason_in(words):
    """The reason that the words write, or None if they write none."""
    if words == ["given"]:
        return ("given",)
    if len(words) < 2:
        return None
    word = words[0]
    if word in ("later", "weaker"):
        told = [number_in(other) for other in words[1:]]
        return None if len(told) != 1 or None in told else (word, told[0])
    if word not in ("sooner", "full"):
        return None
    bounds = 2 if word == "sooner" else 3
    hours = [whole_in(other) for other in words[1:bounds]]
    parts = [part_in(other) for other in words[bounds:]]
    if len(hours) != bounds - 1 or None in hours or None in parts:
        return None
    return (word, *hours, tuple(parts))


def part_in(word):
    """The part of a reason that the word writes, or None if it writes none."""
    if not word.startswith("(") or not word.endswith(")"):
        return None
    first, comma, second = word[1:-1].partition(",")
    i = number_in(first)
    j = number_in(second)
    if i is None or comma == "" or (j is None and second != ""):
        return None
    return (i, j)


def chart(hours):
    """A text with a line for each hour up to the greatest, with the tasks done in it."""
    if not isinstance(hours, list) or not all([is_hour(h) for h in hours]):
        raise NoHours("the argument is not a list of hours")
    tasks = {}
    for t, h in enumerate(hours):
        tasks.setdefault(h, []).append(t)
    return "\n".join([chart_row(h, tasks.get(h, [])) for h in range(1, max(hours, default=0) + 1)])


def chart_row(h, tasks):
    """The hour and the tasks done in it, as they stand in a chart."""
    return f"{h:>3}:" + "".join([f"{t:>4}" for t in tasks])
