"""Searching a plan hour by hour, by the tasks done so far.

Tasks are kept as a whole number with a bit for each of them, that of the task t being 2 ** t.
"""

from duepairs.jobs import room_within


def searched(found, left_out):
    """Hours of the tasks that keep a collection's frees and dues, or None if there are none.

    The tasks left out, a number with their bits, are taken as done in hour 0.
    """
    needed = needed_bits(found.behind)
    goal = all_bits(len(needed))
    layers = [{left_out: None}]
    while layers[-1] and goal not in layers[-1]:
        layers.append(next_layer(found, needed, layers[-1], len(layers)))
    return hours_through(layers, goal, len(needed)) if layers[-1] else None


def bit_of(t):
    """The number whose only bit is that of the task t."""
    return 1 << t


def all_bits(many):
    """The number with the bits of all of so many tasks."""
    return (1 << many) - 1


def has_bit(tasks, t):
    """Whether the task t is one of the tasks."""
    return (tasks >> t) & 1 == 1


def needed_bits(behind):
    """For each task the number of all that must be done before it."""
    needed = [0 for _ in behind]
    for a, followers in enumerate(behind):
        for b in followers:
            needed[b] = needed[b] + bit_of(a)
    return needed


def next_layer(found, needed, layer, hour):
    """What can be done by the end of this hour, each with what was done before it.

    It is enough to do as many as can be done: one that is put off for nothing can be done now.
    """
    places = room_within(found.of_job[3], hour, hour)
    after = {}
    for done in layer:
        left = [t for t in range(len(needed)) if not has_bit(done, t)]
        if not is_late(found, left, hour):
            ready = [t for t in left if found.frees[t] <= hour and needed[t] & done == needed[t]]
            for chosen in choices(ready, min(places, len(ready))):
                after[done + chosen] = done
    return after


def is_late(found, left, hour):
    """Whether one of the tasks that are left by this hour is due before it."""
    return any([found.dues[t] is not None and found.dues[t] < hour for t in left])


def choices(tasks, many):
    """All ways to choose so many of the tasks, each as a number with their bits."""
    found = [[0]] + [[] for _ in range(many)]
    for t in tasks:
        for k in range(many, 0, -1):
            found[k] = found[k] + [chosen + bit_of(t) for chosen in found[k - 1]]
    return found[many]


def hours_through(layers, goal, many):
    """The hours in which the tasks are done on the way to the goal in the last layer."""
    hours = [0 for _ in range(many)]
    done = goal
    for hour in range(len(layers) - 1, 0, -1):
        before = layers[hour][done]
        for t in range(many):
            if has_bit(done, t) and not has_bit(before, t):
                hours[t] = hour
        done = before
    return hours
