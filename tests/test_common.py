"""What several modules need: ways between marks, rings, and numbers of ways, on small machines."""

import random

from endkeepers.common import (
    branching_mark, branching_marks, counted, explored, is_name, led_by, rings_ahead, rings_of, same_follow, shortest_way, spot_of, tallied,
    walked,
)
from endkeepers.errors import TooMany

from tests.helping import Case

# A ring of 0, 1 and 2, from which 3 leads to a ring of its own, and 4 and 5 to one of both.
STEPS = (
    ((0, 1),), ((0, 2), (1, 3)), ((0, 0), (1, 4)), ((0, 3),), ((0, 5),), ((0, 4), (1, 3)),
)


def drawn_steps(draw, marks):
    """Drawn steps between so many marks; each mark has one, two or three."""
    return tuple(
        tuple((label, draw.randrange(marks)) for label in range(draw.randint(1, 3))) for _ in range(marks)
    )


def slow_distance(steps, start, goals):
    """How many steps lead from start to one of the goals, as few as can be; None if none do."""
    here = {start}
    for number in range(len(steps)):
        if here & set(goals):
            return number
        here |= {there for mark in here for _, there in steps[mark]}
    return None


class TestWays(Case):
    def test_shortest_way(self):
        self.assertSame(shortest_way(STEPS, 0, [0]), ([], 0))
        self.assertSame(shortest_way(STEPS, 0, [3]), ([0, 1], 3))
        self.assertSame(shortest_way(STEPS, 2, [1, 5]), ([0, 0], 1))
        self.assertSame(shortest_way(STEPS, 0, [5]), ([0, 0, 1, 0], 5))

    def test_no_way_is_shorter(self):
        draw = random.Random(560)
        for _ in range(200):
            steps = drawn_steps(draw, draw.randint(1, 9))
            start = draw.randrange(len(steps))
            goals = [mark for mark in range(len(steps)) if draw.random() < 0.3]
            distance = slow_distance(steps, start, goals)
            if distance is not None:
                labels, goal = shortest_way(steps, start, goals)
                self.assertIn(goal, goals)
                self.assertEqual(len(labels), distance)
                self.assertEqual(led_by(steps, start, labels), goal)

    def test_rings(self):
        self.assertSame(rings_of(STEPS), [0, 0, 0, 3, 4, 4])
        self.assertSame(rings_of((((0, 1),), ((0, 2),), ((0, 2),))), [None, None, 2])
        self.assertSame(branching_mark(STEPS, rings_of(STEPS)), None)
        self.assertSame(rings_ahead(STEPS, rings_of(STEPS)), {3: 1, 4: 2, 0: 3})
        twice = (((0, 1),), ((0, 0), (1, 0)))
        self.assertSame(branching_mark(twice, rings_of(twice)), 1)
        both = (((0, 1), (1, 0)), ((0, 1),), ((0, 2), (1, 3)), ((0, 2), (1, 3)), ((0, 0), (1, 2)))
        self.assertSame(branching_marks(both, rings_of(both)), [2, 3])
        self.assertSame(branching_marks(STEPS, rings_of(STEPS)), [])

    def test_lone_marks_told_as_rings(self):
        lone = (((0, 1), (1, 3)), ((0, 2),), ((0, 3),), ((0, 3),))
        self.assertSame(rings_ahead(lone, rings_of(lone)), {3: 1})
        self.assertSame(rings_ahead(lone, [0, 1, 2, 3]), {3: 1, 2: 2, 1: 3, 0: 4})

    def test_names(self):
        for name in ("a", "z", "abcdefghijkl"):
            self.assertSame(is_name(name), True)
        for name in ("", "abcdefghijklm", "A", "a1", "a a", None, ["a"], ("a",), 0):
            self.assertSame(is_name(name), False)

    def test_same_follow(self):
        self.assertSame(same_follow(STEPS, 0, 0), True)
        self.assertSame(same_follow(STEPS, 0, 3), False)
        around = (((0, 1),), ((0, 2),), ((0, 0),), ((0, 3),), ((0, 5),), ((1, 5),))
        self.assertSame([same_follow(around, 0, mark) for mark in range(6)], [True] * 4 + [False] * 2)

    def test_walked(self):
        marks, steps = walked(["a"], lambda mark: [(0, "b"), (1, mark)], 2)
        self.assertSame((marks, steps), (["a", "b"], [((0, 1), (1, 0)), ((0, 1), (1, 1))]))
        self.assertRaised(TooMany, {"limit": 1}, walked, ["a"], lambda mark: [(0, "b"), (1, mark)], 1)
        self.assertSame(explored(0, 2, lambda mark, letter: (mark + letter) % 3, 3), ([0, 1, 2], ((0, 1), (1, 2), (2, 0))))


class TestNumbers(Case):
    def test_spots(self):
        self.assertSame([spot_of((0, 1), phase) for phase in range(4)], [0, 0, 0, 0])
        self.assertSame([spot_of((2, 1), phase) for phase in range(5)], [0, 1, 2, 2, 2])
        self.assertSame([spot_of((1, 3), phase) for phase in range(9)], [0, 1, 2, 3, 1, 2, 3, 1, 2])
        self.assertSame([spot_of((2, 3), phase) for phase in range(9)], [0, 1, 2, 3, 4, 2, 3, 4, 2])

    def test_counted(self):
        tallies = tallied(STEPS)
        self.assertSame(tallies[2], [(0, 1), (4, 1)])
        self.assertSame(tallied((((0, 1), (1, 1)), ((0, 1),))), [[(1, 2)], [(1, 1)]])
        self.assertSame(counted((tallies, [1] * 6, (0, 1)), 4), [1, 1, 2, 3, 3])
        self.assertSame(counted((tallies, [1] * 6, (1, 2)), 4), [1, 2, 2, 3, 5])
