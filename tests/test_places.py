"""duepairs.places, on which the lines of derivations and the trees hang."""

import itertools
import unittest

from common import BIG
from duepairs.places import hour_of_place, next_open, open_hours, places_until


def rows_of_places(rooms, hours):
    """The hour of each place in so many hours."""
    return [h for h in range(1, hours + 1) for _ in range(rooms[h - 1] if h <= len(rooms) else 2)]


class Places(unittest.TestCase):
    all_rooms = [list(rooms) for many in range(4) for rooms in itertools.product(range(4), repeat=many)]

    def test_places_until(self):
        for rooms in self.all_rooms:
            row = rows_of_places(rooms, 9)
            for e in range(-2, 10):
                self.assertEqual(places_until(rooms, e), len([h for h in row if h <= e]))

    def test_hour_of_place(self):
        for rooms in self.all_rooms:
            for place, h in enumerate(rows_of_places(rooms, 9)):
                self.assertEqual(hour_of_place(rooms, place), h)
            for place in [-1, -2, -3, -BIG]:
                self.assertEqual(hour_of_place(rooms, place), 1)
        self.assertEqual(hour_of_place([0, 1], 2 * BIG), BIG + 2)

    def test_next_open(self):
        for rooms in self.all_rooms:
            row = rows_of_places(rooms, 9)
            for h in range(1, 8):
                self.assertEqual(next_open(rooms, h), min(hour for hour in row if hour >= h))

    def test_open_hours(self):
        for rooms in self.all_rooms:
            row = rows_of_places(rooms, 9)
            for s, e in itertools.product(range(1, 9), repeat=2):
                self.assertEqual(open_hours(rooms, s, e), len({h for h in row if s <= h <= e}))


if __name__ == "__main__":
    unittest.main()
