"""[G5] and [G6]: how fast the needs of windows grow, and which rows the same items follow."""

import itertools
import math
import random

from endkeepers.classes import turns
from endkeepers.errors import TooMany, Unfit
from endkeepers.tellers import kinds
from endkeepers.windowgrades import window_alike, window_grades
from endkeepers.windows import window_items, window_need, window_place, window_ways

from tests.edges import MIXING, PLACES_300, PLACES_301, TURNING, UNLIKE_RESTS, WINDOW_MARKS_300, WINDOW_MARKS_301
from tests.helping import (
    ENDS, FOLLOWING, NO_RESTS, Case, chain, drawn_row, drawn_tellers, long_turning, ring, rows_in_order,
)

TWO = (((1, 2, 0), (1, 3, 1), (3, 2, 2), (3, 3, 3)), (0, 1, 2, 3))
EVEN = (((1, 2), (3, 3), (2, 2), (1, 1)), (0, 0, 0, 1))
EVEN_LAST = (((1, 1), (2, 0), (1, 1)), (0, 0, 1))
MIXED = (((1, 2), (3, 4), (4, 0), (1, 5), (5, 1), (4, 3)), (0, 1, 0, 1, 1, 0))
ODD_RESTS = [teller for _, teller in UNLIKE_RESTS]


def fitting(seed, times, states=5, most=2, greatest=2):
    """Drawn tellers for which nothing is too many."""
    for teller in drawn_tellers(seed, times, states, most, greatest):
        try:
            window_ways(teller)
        except TooMany:
            continue
        yield teller


def far_ways(teller, rest, longest):
    """How many ways of steps on there are from the start of the rest, of none to so many steps."""
    places = window_ways(teller)
    many = {turns(teller)[0] + rest: 1}
    found = []
    for _ in range(longest + 1):
        found.append(sum(many.values()))
        behind = {}
        for place, times in many.items():
            for _, there in places[place][1]:
                behind[there] = behind.get(there, 0) + times
        many = behind
    return found


def slow_follow(teller, one, other):
    """Whether the same items follow two places, by going through all pairs of places."""
    places = window_ways(teller)
    pairs, seen = [(one, other)], {(one, other)}
    for here, there in pairs:
        left, right = dict(places[here][1]), dict(places[there][1])
        if set(left) != set(right):
            return False
        for item in left:
            if (left[item], right[item]) not in seen:
                seen.add((left[item], right[item]))
                pairs.append((left[item], right[item]))
    return True


class TestWindowGrades(Case):
    def test_examples(self):
        self.assertSame(window_grades(ENDS), (1, (0,)))
        self.assertSame(window_grades(TWO), (0, (2,)))
        self.assertSame(window_grades(EVEN), (1, (0, None)))
        self.assertSame(window_grades(MIXED), (2, (1, None)))
        self.assertSame([window_need(MIXED, n) for n in range(9)], [1, 2, 3, 8, 5, 32, 7, 128, 9])

    def test_known_ones(self):
        self.assertSame(window_grades(FOLLOWING), (1, (1,)))
        self.assertSame(window_grades(EVEN_LAST), (1, (0,)))
        self.assertSame(window_grades(ring(7, 2, 2)), (0, (0,) * 7))
        self.assertSame(window_grades(chain(5, 3)), (4, (0,)))
        self.assertSame(window_grades(((((0,),), (7,)))), (0, (0,)))
        self.assertSame(window_grades((((0, 1), (1, 0)), (0, 1))), (0, (None,)))

    def test_beside_far_needs(self):
        told = {}
        for teller in list(fitting(600, 250)) + [TWO, EVEN, MIXED, EVEN_LAST, *ODD_RESTS, *TURNING]:
            start, grades = window_grades(teller)
            b, p = turns(teller)
            self.assertSame(start, b)
            self.assertIs(type(grades), tuple)
            self.assertEqual(len(grades), p)
            # As many as a number of letters of the rest, b more than what stands here: half as far, and far.
            near, far = 600 * p, 1200 * p
            for rest, power in enumerate(grades):
                many = far_ways(teller, rest, far + rest)
                growth = math.log2(many[far + rest]) - math.log2(many[near + rest])
                if power is None:
                    # A share, and no power, not even n ** 20.
                    self.assertGreater(growth, 20)
                else:
                    self.assertLess(abs(growth - power), 0.2, (teller, rest))
                told[(b > 0, min(p, 2), power)] = True
        self.assertGreaterEqual(set(told), set(itertools.product((True, False), (1, 2), (None, 0, 1))))

    def test_beside_needs_to_300(self):
        for teller in list(fitting(601, 60)) + [TWO, EVEN, MIXED, *ODD_RESTS]:
            b, grades = window_grades(teller)
            p = len(grades)
            for rest, power in enumerate(grades):
                numbers = [n for n in range(b + rest, 301, p) if n > 0]
                needs = [window_need(teller, n) for n in numbers[::40] + numbers[-1:]]
                if power == 0:
                    self.assertLessEqual(max(needs), 10 ** 4)
                elif power is None:
                    self.assertGreaterEqual(needs[-1], 2 ** (numbers[-1] // 30))
                else:
                    self.assertGreaterEqual(needs[-1] * 10 ** 4, numbers[-1] ** power)
                    self.assertLessEqual(needs[-1], 10 ** 4 * numbers[-1] ** power)

    def test_unlike_rests(self):
        for wanted, teller in UNLIKE_RESTS:
            self.assertSame(window_grades(teller), wanted)

    def test_great_powers(self):
        for states in (2, 5, 9, 12):
            moves = tuple((min(state + 1, states - 1), state) for state in range(states))
            self.assertSame(window_grades((moves, tuple(range(states)))), (0, (states - 1,)))

    def test_300_are_told_and_301_not(self):
        self.assertSame([window_grades(teller) for teller in PLACES_300], [(1, (None,)), (4, (None,))])
        self.assertSame(window_grades(WINDOW_MARKS_300), (4, (4,)))
        self.assertSame(window_grades(ring(17, 3, 2)), (0, (0,) * 17))
        for teller in PLACES_301 + (WINDOW_MARKS_301, MIXING, ring(18, 3, 2)):
            self.assertRaised(TooMany, {"limit": 300}, window_grades, teller)
        for told in (9, 10, 11, 12, 13):
            self.assertRaised(TooMany, {"limit": 300}, window_grades, long_turning(told))


class TestWindowAlike(Case):
    def test_examples(self):
        self.assertSame(
            [window_alike(EVEN, 1, (), (0, 0)), window_alike(EVEN, 1, (), (0,)), window_alike(EVEN, 1, (0,), (1,)),
             window_alike(EVEN, 1, (0,), (1, 0, 1, 1))],
            [True, False, True, False],
        )

    def test_beside_all_pairs_of_places(self):
        draw = random.Random(603)
        told = {}
        for teller in list(fitting(604, 150, 5, 3)) + [TWO, EVEN, MIXED, *ODD_RESTS, *TURNING]:
            p = turns(teller)[1]
            for _ in range(8):
                rest = draw.randrange(p)
                rows = [drawn_row(draw, kinds(teller), draw.choice((0, 1, 1, 2, 3, 5, 17))) for _ in range(2)]
                here, there = [window_place(teller, rest, row) for row in rows]
                found = window_alike(teller, rest, *rows)
                self.assertSame(found, slow_follow(teller, here, there))
                self.assertSame(window_alike(teller, rest, *reversed(rows)), found)
                told[(found, here == there, len(rows[0]) == len(rows[1]))] = True
        self.assertEqual(set(told) | {(False, True, True), (False, True, False)},
                         set(itertools.product((True, False), repeat=3)))
        self.assertNotIn((False, True, True), told)
        self.assertNotIn((False, True, False), told)

    def test_beside_all_rows(self):
        for teller in list(fitting(605, 12, 3, 2, 1)) + [EVEN]:
            b, p = turns(teller)
            many = kinds(teller)
            for rest in range(p):
                # All items that follow, by as many as eight letters.
                followed = {}
                for row in rows_in_order(many, 9):
                    items = window_items(teller, rest, row)
                    for length in range(len(items) + 1):
                        followed.setdefault(items[:length], set()).add(items[length:])
                rows = list(rows_in_order(many, 2))
                for one, other in itertools.product(rows, repeat=2):
                    left, right = [
                        {more for more in followed[window_items(teller, rest, row)] if len(more) <= 7}
                        for row in (one, other)
                    ]
                    if left != right:
                        self.assertSame(window_alike(teller, rest, one, other), False)
                    elif len(window_ways(teller)) <= 6:
                        self.assertSame(window_alike(teller, rest, one, other), True)

    def test_a_row_and_itself(self):
        draw = random.Random(606)
        for teller in (EVEN, TWO, MIXED, *ODD_RESTS):
            for length in (0, 1, 40, 41, 899, 900):
                row = drawn_row(draw, kinds(teller), length)
                for rest in range(turns(teller)[1]):
                    self.assertSame(window_alike(teller, rest, row, row), True)

    def test_rows_of_unlike_lengths_to_900(self):
        zeros, ones = (0,) * 900, (1,) * 900
        self.assertSame(window_alike(TWO, 0, (2,) * 900, ()), True)
        self.assertSame(window_alike(TWO, 0, (2,) * 899 + (1,), (1,)), True)
        self.assertSame(window_alike(TWO, 0, (2,) * 899 + (1,), (0,)), False)
        self.assertSame(window_alike(EVEN, 1, zeros, ()), True)
        self.assertSame(window_alike(EVEN, 1, zeros[:899], ()), False)
        self.assertSame(window_alike(EVEN, 1, ones, zeros), True)
        self.assertSame(window_alike(EVEN, 0, zeros, ones[:899]), False)

    def test_unlike_places_that_go_alike(self):
        # Behind these items unlike marks may stand, and yet the same follows.
        self.assertNotEqual(window_place(ENDS, 0, ()), window_place(ENDS, 0, (0,)))
        self.assertSame(window_alike(ENDS, 0, (), (0,)), True)
        self.assertNotEqual(window_place(EVEN, 1, (0, 0)), window_place(EVEN, 1, ()))
        self.assertSame(window_alike(EVEN, 1, (), (0, 0)), True)

    def test_steps_out_do_not_count(self):
        # At the spot b the steps out tell 0 and 1 apart, but what follows in the round is the same.
        self.assertSame(window_ways(ENDS)[1][2], ((0, 3), (1, 4)))
        teller = (((1, 0), (1, 0)), (5, 5))
        self.assertSame(window_alike(teller, 0, (0,), (1,)), True)
        for rest in range(2):
            for one, other in itertools.product(rows_in_order(2, 3), repeat=2):
                here, there = window_place(EVEN, rest, one), window_place(EVEN, rest, other)
                self.assertSame(window_alike(EVEN, rest, one, other), slow_follow(EVEN, here, there))

    def test_rests_that_are_none(self):
        for teller in (EVEN, TWO, ENDS, MIXED):
            for rest in NO_RESTS + (turns(teller)[1],):
                with self.subTest(teller=teller, rest=rest):
                    self.assertRaised(Unfit, {}, window_alike, teller, rest, (), (0,))

    def test_which_is_raised(self):
        for rest in (0, 1, -1, True, None, "0"):
            self.assertRaised(TooMany, {"limit": 300}, window_alike, long_turning(12), rest, (), (0,))
        for teller in PLACES_301 + (long_turning(11), WINDOW_MARKS_301):
            p = turns(teller)[1]
            for rest in (p, -1, True, None, "0"):
                self.assertRaised(Unfit, {}, window_alike, teller, rest, (), (0,))
            self.assertRaised(TooMany, {"limit": 300}, window_alike, teller, p - 1, (), (0,))


class TestTimes(Case):
    def test_the_edges(self):
        draw = random.Random(607)
        for teller in PLACES_300 + (WINDOW_MARKS_300, ring(17, 3, 2)):
            one, other = (drawn_row(draw, kinds(teller), 900) for _ in range(2))
            with self.assertQuick(2):
                window_grades(teller)
            with self.assertQuick(2):
                window_alike(teller, 0, one, other)
        for teller in (MIXING, PLACES_301[0], long_turning(11)):
            with self.assertQuick(2):
                self.assertRaised(TooMany, {"limit": 300}, window_grades, teller)
