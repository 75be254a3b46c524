"""What several tests share: things of all kinds, and ways to look at values."""

import random
import unittest

# An ordinary job, that of the document's examples.
JOB = ([1, 1, 2], [None, 3, 3], [(0, 1), (0, 2)], [2, 1])

BIG = 10 ** 30 - 1

# Things that are no whole number, whatever is asked of it.
NOT_WHOLE = [None, True, False, "", "1", [], [1], (), (1,), [[1]], ((1, 2), [None]), "x" * 2000]


def deep(depth):
    thing = 1
    for step in range(depth):
        thing = [thing] if step % 2 else (thing, None)
    return thing


# Things of all kinds, none of which is a job.
NO_JOBS = [
    None, True, False, 0, 1, -1, BIG, "", "job", [], [1], (), (1,),
    list(JOB), JOB[:3], JOB + ([],), ((), (), (), ()), ([1], [None], [], ()), ([1], [None], (), []),
    ([1], (None,), [], []), ((1,), [None], [], []), ([0], [None], [], []), ([1], [-1], [], []),
    ([1, 1], [None], [], []), ([1], [None], [(0, 0)], []), ([1, 1], [None, 2], [(0, 1), (1, 0)], []),
    ([1], [None], [], [4]), [[], [], [], []], ([], [], []), deep(20), [0] * 2000, "x" * 2000,
]


def lists_within(thing):
    """Every list in a value, as often as it stands there."""
    found = []
    if isinstance(thing, list):
        found.append(thing)
    if isinstance(thing, (list, tuple)):
        for part in thing:
            found.extend(lists_within(part))
    return found


def some_jobs(count, seed, most_tasks=4, most_room=3):
    """So many small jobs, the same ones each time."""
    draw = random.Random(seed)
    jobs = []
    for _ in range(count):
        many = draw.randint(0, most_tasks)
        names = list(range(many))
        draw.shuffle(names)
        pairs = [(names[i], names[j]) for i in range(many) for j in range(i + 1, many)]
        jobs.append((
            [draw.randint(1, 3) for _ in range(many)],
            [draw.choice([None, None, draw.randint(0, 5)]) for _ in range(many)],
            draw.sample(pairs, draw.randint(0, min(3, len(pairs)))),
            [draw.randint(0, most_room) for _ in range(draw.randint(0, 4))],
        ))
    return jobs


class Case(unittest.TestCase):
    def raises(self, error, function, *arguments):
        """The call raises just this error and leaves its arguments as they are."""
        before = repr(arguments)
        with self.assertRaises(ValueError, msg=arguments) as caught:
            function(*arguments)
        self.assertIs(type(caught.exception), error, arguments)
        self.assertEqual(repr(arguments), before)
