"""Rings: tasks of which each is needed by the next one, and the last one by the first."""

from duepairs.jobs import followers_of, has_ring


def shortest_way(many, needs, first, last):
    """The tasks on a shortest way by needs from the first to the last, or None if there is none."""
    followers = followers_of(many, needs)
    before = {first: None}
    reached = [first]
    at = 0
    while at < len(reached) and last not in before:
        a = reached[at]
        for b in followers[a]:
            if b not in before:
                before[b] = a
                reached.append(b)
        at += 1
    if last not in before:
        return None
    way = [last]
    while way[-1] != first:
        way.append(before[way[-1]])
    return way[::-1]


def ring_by(many, needs, a, b):
    """A shortest ring that the need (a, b) of different tasks makes with the needs, or None."""
    way = shortest_way(many, needs, b, a)
    return None if way is None else [a] + way[:-1]


def shortest_ring(many, needs):
    """A shortest ring that needs of so many tasks make, or None if they make none."""
    if not has_ring(many, needs):
        return None
    rings = [ring_by(many, needs, a, b) for a, b in needs]
    return min([ring for ring in rings if ring is not None], key=len)
