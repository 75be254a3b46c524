"""Whole numbers: the integers, but neither True nor False."""


def is_whole(thing):
    """Whether the thing is a whole number."""
    return isinstance(thing, int) and not isinstance(thing, bool)


def is_whole_from(least, thing):
    """Whether the thing is a whole number that is not below the least one."""
    return is_whole(thing) and thing >= least


def is_hour(thing):
    """Whether the thing is an hour."""
    return is_whole_from(1, thing)


def is_due(thing):
    """Whether the thing can stand as an entry among dues."""
    return thing is None or is_whole_from(0, thing)
