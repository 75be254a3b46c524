"""A second, plain reading of points 7 to 10, to hold the package's answers against.

It goes through everything, and shares no code with the package.
"""

import itertools


def is_number(thing):
    return type(thing) is int


def rooms_of(job, s, e):
    """How many tasks can be done in the hours from s to e, hour by hour (few of them)."""
    rooms = job[3]
    return sum(rooms[h - 1] if h <= len(rooms) else 2 for h in range(s, e + 1))


def many_rooms(job, s, e):
    """The same for hours far away."""
    edge = max(s, len(job[3]) + 1)
    return rooms_of(job, s, min(e, edge - 1)) + 2 * max(0, e - edge + 1)


def far_pairs(job):
    """All (a, b) for which b is behind a."""
    tasks = range(len(job[0]))
    far = set(job[2])
    for middle in tasks:
        far |= {(a, b) for a in tasks for b in tasks if (a, middle) in far and (middle, b) in far}
    return far


def is_said(job, thing):
    """Whether the thing is a statement."""
    if type(thing) is not tuple:
        return False
    if len(thing) == 3 and type(thing[0]) is str and thing[0] in ("free", "due"):
        return is_number(thing[1]) and 0 <= thing[1] < len(job[0]) and is_number(thing[2])
    return thing == ("none",)


def reads_right(job, lines):
    """Whether lines, anything, are a list of right lines."""
    if type(lines) is not list:
        return False
    far = far_pairs(job)
    for k, line in enumerate(lines):
        if type(line) is not tuple or len(line) != 2:
            return False
        it, reason = line
        if not is_said(job, it) or type(reason) is not tuple or not reason:
            return False
        if not one_reads_right(job, far, [told for told, _ in lines[:k]], it, reason):
            return False
    return True


def one_reads_right(job, far, told, it, reason):
    """Whether the statement it has a reason, after earlier statements that are told."""
    frees, dues, needs, _ = job
    word, *rest = reason

    def earlier(i):
        return told[i] if is_number(i) and 0 <= i < len(told) else ("?", None, None)

    if word == "given" and not rest:
        return it[0] == "free" and it[2] == frees[it[1]] or it[0] == "due" and it[2] == dues[it[1]]
    if word == "later" and len(rest) == 1:
        kind, u, g = (earlier(rest[0]) + (None, None))[:3]
        return kind == "free" and any(it == ("free", b, g + 1) for a, b in needs if a == u)
    if word == "weaker" and len(rest) == 1:
        kind, u, x = (earlier(rest[0]) + (None, None))[:3]
        if kind == "none":
            return True
        return kind in ("free", "due") and it[:2] == (kind, u) and (
            x >= it[2] if kind == "free" else x <= it[2])
    if word == "sooner" and len(rest) == 2 and it[0] == "due" and it[2] >= 0:
        return crowd_is_right(job, far, earlier, it[1], it[2] + 2, *rest)
    if word == "full" and len(rest) == 3 and it == ("none",):
        if is_number(rest[0]) and rest[0] >= 0:
            return crowd_is_right(job, far, earlier, None, rest[0] + 1, *rest[1:])
    return False


def crowd_is_right(job, far, earlier, t, first, e, parts):
    if not is_number(e) or type(parts) is not tuple:
        return False
    tasks = set()
    for part in parts:
        if type(part) is not tuple or len(part) != 2:
            return False
        due = earlier(part[0])
        if due[0] != "due" or due[2] > e:
            return False
        v = due[1]
        if part[1] is None:
            if (t, v) not in far:
                return False
        else:
            free = earlier(part[1])
            if free[0] != "free" or free[1] != v or free[2] < first:
                return False
        tasks.add(v)
    return len(tasks) == len(parts) and t not in tasks and len(parts) > many_rooms(job, first, e)


def ends_in_none(job, lines):
    """Whether lines, anything, are a derivation."""
    return reads_right(job, lines) and len(lines) > 0 and lines[-1][0] == ("none",)


def reads_as_tree(job, thing):
    """Whether the thing is a tree."""
    if type(thing) is tuple and len(thing) == 4:
        t, h, first, second = thing
        if not is_number(t) or not 0 <= t < len(job[0]) or not is_number(h) or h < 0:
            return False
        frees, dues, needs, rooms = job
        due = h if dues[t] is None else min(h, dues[t])
        one = (frees, dues[:t] + [due] + dues[t + 1:], needs, rooms)
        other = (frees[:t] + [max(h + 1, frees[t])] + frees[t + 1:], dues, needs, rooms)
        return reads_as_tree(one, first) and reads_as_tree(other, second)
    return ends_in_none(job, thing)


def led_to(job):
    """All that lines lead to: None if there is no plan, else the greatest frees and least dues.

    It tries every line with every hour, round after round, until nothing new comes.
    """
    frees, dues, needs, _ = job
    frees, dues = list(frees), list(dues)
    far = far_pairs(job)
    tasks = range(len(frees))
    last = max([due for due in dues if due is not None], default=0)
    before = None
    while before != (frees, dues):
        before = (list(frees), list(dues))
        for u, t in needs:
            frees[t] = max(frees[t], frees[u] + 1)
        for s, e in itertools.product(range(last + 2), repeat=2):
            early = [v for v in tasks if dues[v] is not None and dues[v] <= e]
            if len([v for v in early if frees[v] >= s + 1]) > rooms_of(job, s + 1, e):
                return None
            for t in tasks:
                crowd = [v for v in early if v != t and ((t, v) in far or frees[v] >= s + 2)]
                if len(crowd) > rooms_of(job, s + 2, e) and (dues[t] is None or s < dues[t]):
                    dues[t] = s
    return frees, dues


def some_plan(job):
    """A plan, found by going through all that can be done in each hour, or None."""
    frees, dues, needs, rooms = job
    tasks = range(len(frees))
    end = max([len(rooms)] + frees + [due for due in dues if due is not None]) + len(frees)

    def go_on(hour, hours):
        if len(hours) == len(frees):
            return [hours[t] for t in tasks]
        left = [t for t in tasks if t not in hours]
        if hour > end or any(dues[t] is not None and dues[t] < hour for t in left):
            return None
        able = [t for t in left if frees[t] <= hour and all(a in hours for a, b in needs if b == t)]
        for many in range(min(len(able), rooms_of(job, hour, hour)), -1, -1):
            for chosen in itertools.combinations(able, many):
                told = go_on(hour + 1, {**hours, **{t: hour for t in chosen}})
                if told is not None:
                    return told
        return None

    return go_on(1, {})


def bends(thing):
    """Every value that comes of changing a nested value in just one place."""
    if thing is None:
        yield from [0, 1, -1, False, "None", [], ()]
    elif is_number(thing):
        yield from [thing + 1, thing - 1, -thing - 1, str(thing), None, [thing], (thing,), 10 ** 29]
        if thing in (0, 1):
            yield bool(thing)
    elif type(thing) is str:
        yield from ["", thing + "s", thing.upper(), None, 0, [thing], (thing,)]
        yield from [word for word in ("free", "due", "none", "given", "later", "sooner", "full",
                                      "weaker") if word != thing]
    else:
        kind = type(thing)
        yield (list if kind is tuple else tuple)(thing)
        yield from [None, 0, "", kind([thing]), thing + thing, thing + kind([None]), kind(reversed(thing))]
        for k, part in enumerate(thing):
            yield thing[:k] + thing[k + 1:]
            yield thing[:k] + kind([part, part]) + thing[k + 1:]
            for other in bends(part):
                yield thing[:k] + kind([other]) + thing[k + 1:]
