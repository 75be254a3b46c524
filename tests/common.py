"""What several tests share: things of all kinds, and ways to look at values."""

import random
import unittest

# An ordinary job, that of the document's examples.
JOB = ([1, 1, 2], [None, 3, 3], [(0, 1), (0, 2)], [2, 1])

BIG = 10 ** 30 - 1

# Things that are no whole number, whatever is asked of it.
NOT_WHOLE = [None, True, False, "", "1", [], [1], (), (1,), [[1]], ((1, 2), [None]), "x" * 2000]


def deep(depth):
    thing = 1
    for step in range(depth):
        thing = [thing] if step % 2 else (thing, None)
    return thing


# Things of all kinds, none of which is a job.
NO_JOBS = [
    None, True, False, 0, 1, -1, BIG, "", "job", [], [1], (), (1,),
    list(JOB), JOB[:3], JOB + ([],), ((), (), (), ()), ([1], [None], [], ()), ([1], [None], (), []),
    ([1], (None,), [], []), ((1,), [None], [], []), ([0], [None], [], []), ([1], [-1], [], []),
    ([1, 1], [None], [], []), ([1], [None], [(0, 0)], []), ([1, 1], [None, 2], [(0, 1), (1, 0)], []),
    ([1], [None], [], [4]), [[], [], [], []], ([], [], []), deep(20), [0] * 2000, "x" * 2000,
]


def lists_within(thing):
    """Every list in a value, as often as it stands there."""
    found = []
    if isinstance(thing, list):
        found.append(thing)
    if isinstance(thing, (list, tuple)):
        for part in thing:
            found.extend(lists_within(part))
    return found


def some_jobs(count, seed, most_tasks=4, most_room=3):
    """So many small jobs, the same ones each time."""
    draw = random.Random(seed)
    jobs = []
    for _ in range(count):
        many = draw.randint(0, most_tasks)
        names = list(range(many))
        draw.shuffle(names)
        pairs = [(names[i], names[j]) for i in range(many) for j in range(i + 1, many)]
        jobs.append((
            [draw.randint(1, 3) for _ in range(many)],
            [draw.choice([None, None, draw.randint(0, 5)]) for _ in range(many)],
            draw.sample(pairs, draw.randint(0, min(3, len(pairs)))),
            [draw.randint(0, most_room) for _ in range(draw.randint(0, 4))],
        ))
    return jobs


def busy_jobs(count, seed, least_tasks, most_tasks, most_room=3):
    """So many jobs with many needs and close dues, often without a plan; the same ones each time."""
    draw = random.Random(seed)
    jobs = []
    for _ in range(count):
        many = draw.randint(least_tasks, most_tasks)
        end = draw.randint(2, 3 + 2 * many // 3)
        layers = sorted(draw.randint(0, draw.randint(1, 3)) for _ in range(many))
        share = draw.random() * 0.7
        names = list(range(many))
        draw.shuffle(names)
        needs = [(names[i], names[j]) for i in range(many) for j in range(many)
                 if layers[i] < layers[j] and draw.random() < share]
        jobs.append((
            [draw.randint(1, end) if draw.random() < 0.2 else 1 for _ in range(many)],
            [draw.choice([end, end, end, draw.randint(1, end), None]) for _ in range(many)],
            draw.sample(needs, min(30, len(needs))),
            [draw.randint(0, most_room) for _ in range(end)],
        ))
    return jobs


# Jobs with neither a plan nor a derivation: that of the document, and others, some far from easy.
WIDE = ([1, 1, 1, 1], [None, None, 3, 3], [(0, 2), (1, 3)], [0, 3, 1])
NEITHER = [
    WIDE,
    ([1, 1, 1, 1], [3, None, 3, 3], [(0, 2), (1, 3)], [0, 3, 1]),
    ([1] * 5, [3] * 5, [(2, 0), (2, 4), (3, 1), (3, 4)], [0, 3, 2]),
    ([1] * 6, [4] * 6, [(2, 0), (2, 5), (4, 0), (4, 1), (3, 1), (3, 5)], [1, 0, 3, 2]),
    ([1] * 6, [4] * 5 + [3], [(5, 2), (5, 0), (3, 0), (3, 1), (4, 2), (4, 0), (4, 1)], [1, 3, 2, 0]),
    ([1, 1, 5, 1, 1, 1], [5] * 6,
     [(1, 3), (1, 0), (1, 2), (5, 4), (5, 0), (4, 0), (3, 0), (3, 2)], [0, 0, 3, 1, 3]),
    ([1, 1, 1, 1, 1, 3, 1], [4, None, None, 4, 4, 4, 4], [(3, 0), (5, 1), (2, 0), (2, 6), (4, 6)], [1, 3, 1, 1]),
    ([1, 1, 2, 1, 1, 1, 1, 1], [5] * 8,
     [(1, 0), (1, 6), (3, 4), (3, 6), (7, 2), (7, 0), (7, 6), (4, 6), (4, 5), (2, 0), (2, 5)], [2, 0, 1, 3, 2]),
    ([1] * 9, [5] * 6 + [None, None, 5],
     [(2, 3), (2, 6), (2, 5), (2, 4), (2, 1), (2, 0), (7, 8), (7, 3), (7, 5), (7, 1), (7, 0), (6, 1), (6, 0),
      (5, 1), (5, 0)], [0, 0, 3, 3, 3]),
    ([2, 1, 1, 1, 1, 2, 1, 2, 12], [20, 20, 33, 24, 40, 20, None, 40, None],
     [(2, 0), (2, 5), (4, 0), (4, 1), (3, 1), (3, 5), (8, 7), (1, 7), (0, 8), (0, 6), (4, 7)],
     [0] * 3 + [1] + [0] * 14 + [3, 2]),
    ([18, 1, 3, 1, 4, 1, 2, 1, 7], [40, 38, 20, 20, 20, 28, 20, 39, 27],
     [(1, 6), (1, 2), (5, 3), (5, 4), (5, 2), (5, 7), (4, 0), (5, 8), (1, 7), (3, 7), (6, 7)], [0] * 18 + [3, 3]),
    ([1, 1, 1, 1, 1, 1, 1, 1, 2], [14, 21, 22, 23, 14, 26, 18, 17, 11],
     [(6, 3), (5, 4), (5, 0), (3, 0), (7, 4), (1, 8), (2, 8)], [0, 0, 2, 0, 0, 0, 0, 1, 0, 2, 0, 3, 0, 1]),
]

# Jobs with a plan that is not found by listing the tasks by the dues that lines state.
SEARCHED = [
    ([1] * 6, [5, 5, None, 5, 5, 5], [(1, 0), (5, 3), (5, 2), (4, 2), (4, 0)], [1, 0, 3, 0, 1]),
    ([1, 2, 1, 1, 1, 1], [None, 3, 3, None, 3, 3], [(5, 2), (0, 1), (3, 1), (4, 1)], [2, 3, 1]),
    ([1] * 7, [4, 4, 4, None, 2, 4, 4],
     [(3, 5), (3, 4), (6, 1), (3, 2), (4, 2), (5, 2), (0, 2), (3, 0), (3, 1)], [1, 2, 3, 1]),
    ([1] * 8, [4, 4, 4, 4, 4, None, None, 4], [(1, 4), (5, 7), (3, 4), (3, 2), (5, 0)], [1, 3, 0, 3]),
]


def broad_jobs(count, seed, most_room):
    """So many jobs of sizes up to the greatest that are passed; the same ones each time."""
    draw = random.Random(seed)
    most_tasks = 12 if most_room < 3 else 9
    jobs = []
    for _ in range(count):
        many = draw.randint(most_tasks - 4, most_tasks)
        names = list(range(many))
        draw.shuffle(names)
        pairs = [(names[i], names[j]) for i in range(many) for j in range(i + 1, many)]
        end = draw.choice([3, 5, 7, 10, 20, 40])
        frees = [draw.randint(1, end) if draw.random() < 0.4 else 1 for _ in range(many)]
        jobs.append((
            frees,
            [None if draw.random() < 0.2 else min(40, draw.randint(free, end) + 1) for free in frees],
            draw.sample(pairs, draw.randint(0, min(30, len(pairs)))),
            [draw.randint(0, most_room) for _ in range(draw.randint(0, 20))],
        ))
    return jobs


class Case(unittest.TestCase):
    def raises(self, error, function, *arguments):
        """The call raises just this error and leaves its arguments as they are."""
        before = repr(arguments)
        with self.assertRaises(ValueError, msg=arguments) as caught:
            function(*arguments)
        self.assertIs(type(caught.exception), error, arguments)
        self.assertEqual(repr(arguments), before)
