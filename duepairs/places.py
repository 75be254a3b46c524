"""Places: the room of all hours in a row, that of earlier hours first, numbered from 0."""

from duepairs.jobs import ROOM_BEHIND, room_within


def places_until(rooms, e):
    """How many places the hours from 1 to e have together."""
    return room_within(rooms, 1, e)


def hour_of_place(rooms, place):
    """The hour in which the place with this number lies; hour 1 if the number is below 0."""
    if place < 0:
        return 1
    left = place
    for h, places in enumerate(rooms, start=1):
        if left < places:
            return h
        left = left - places
    return len(rooms) + 1 + left // ROOM_BEHIND


def next_open(rooms, h):
    """The first hour from h on that has room."""
    return hour_of_place(rooms, places_until(rooms, h - 1))


def open_hours(rooms, s, e):
    """How many of the hours from s to e have room."""
    return len([h for h in range(s, e + 1) if room_within(rooms, h, h) > 0])
