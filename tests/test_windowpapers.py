"""[G7] and [G8]: forks and rings of windows, which show from below what must be kept."""

import random

from endkeepers.books import all_books
from endkeepers.classes import turns
from endkeepers.errors import TooMany, Unfit
from endkeepers.forkpapers import fork_least
from endkeepers.ringpapers import rings_least
from endkeepers.tellers import kinds
from endkeepers.windowgrades import window_alike, window_grades
from endkeepers.windowpapers import window_fork, window_fork_error, window_rings, window_rings_error
from endkeepers.windows import window_items, window_need, window_ways

from tests.edges import MIXING, PLACES_300, PLACES_301, TURNING, UNLIKE_RESTS, WINDOW_MARKS_300, WINDOW_MARKS_301
from tests.helping import (
    ENDS, FOLLOWING, NO_PAPER_ROWS, NO_RESTS, NO_TUPLES, Case, chain, drawn_row, drawn_tellers, long_turning, ring,
    rows_in_order,
)

TWO = (((1, 2, 0), (1, 3, 1), (3, 2, 2), (3, 3, 3)), (0, 1, 2, 3))
EVEN = (((1, 2), (3, 3), (2, 2), (1, 1)), (0, 0, 0, 1))
MIXED = (((1, 2), (3, 4), (4, 0), (1, 5), (5, 1), (4, 3)), (0, 1, 0, 1, 1, 0))
PAPER = ((), (2,), (0, 2), (2, 0, 2), (1, 2, 0, 2), (0, 1, 2, 0, 2))
# 24 states, each 0 behind the last one: the window of the letters behind the 23rd 0 from its end.
MANY = (tuple((min(state + 1, 23), state) for state in range(24)), tuple(range(24)))
SOME = (ENDS, FOLLOWING, TWO, EVEN, MIXED, *TURNING, *(teller for _, teller in UNLIKE_RESTS))


def fitting(seed, times, states=5, most=3, greatest=2):
    """Drawn tellers for which nothing is too many, and some more."""
    for teller in list(drawn_tellers(seed, times, states, most, greatest)) + list(SOME):
        try:
            window_ways(teller)
        except TooMany:
            continue
        yield teller


def slow_fork_error(teller, rest, value):
    """What is wrong first with a triple of rows, by their items and what follows."""
    start, one, other = value
    if len(one) != len(other) or len(one) <= len(start):
        return "lengths"
    begin, left, right = (window_items(teller, rest, row) for row in value)
    if left[:len(begin)] != begin or right[:len(begin)] != begin:
        return "begin"
    if left == right:
        return "alike"
    if not window_alike(teller, rest, start, one) or not window_alike(teller, rest, start, other):
        return "onward"
    return None


def slow_rings_error(teller, rest, value):
    """What is wrong first with rows, by their items and what follows."""
    items = [window_items(teller, rest, row) for row in value]
    for i in range(len(value) // 2):
        before, behind = items[2 * i], items[2 * i + 1]
        if len(behind) <= len(before) or behind[:len(before)] != before:
            return ("ring", i)
        if not window_alike(teller, rest, value[2 * i], value[2 * i + 1]):
            return ("ring", i)
        if 2 * i + 2 < len(value):
            onward = items[2 * i + 2]
            step = onward[len(behind):]
            around = (behind[len(before):] * (len(step) + 1))[:len(step)]
            if onward[:len(behind)] != behind or step == around:
                return ("way", i)
    return None


class TestWindowFork(Case):
    def test_examples(self):
        self.assertSame(window_fork(EVEN, 0), None)
        self.assertSame(window_fork_error(EVEN, 1, window_fork(EVEN, 1)), None)

    def check(self, teller, rest, paper):
        """The paper is a fork, and no need of the rest is less than it tells."""
        self.assertIs(type(paper), tuple)
        self.assertSame(window_fork_error(teller, rest, paper), None)
        self.assertSame(slow_fork_error(teller, rest, paper), None)
        for row in paper:
            self.assertLessEqual(len(row), 900)
        b, p = turns(teller)
        for n in range(b + rest, 301, 7 * p):
            self.assertGreaterEqual(window_need(teller, n), fork_least(paper, n - b))

    def test_a_fork_exactly_if_the_grade_is_none(self):
        answers = {}
        for teller in fitting(620, 120):
            b, grades = window_grades(teller)
            for rest, power in enumerate(grades):
                paper = window_fork(teller, rest)
                self.assertEqual(paper is None, power is not None)
                answers[(b > 0, len(grades) > 1, paper is None)] = True
                if paper is not None:
                    self.check(teller, rest, paper)
        self.assertGreaterEqual(len(answers), 8)

    def test_300_places_and_marks(self):
        for teller in PLACES_300 + (WINDOW_MARKS_300,):
            for rest, power in enumerate(window_grades(teller)[1]):
                paper = window_fork(teller, rest)
                self.assertEqual(paper is None, power is not None)
                if paper is not None:
                    self.check(teller, rest, paper)

    def test_rounds_of_unlike_lengths(self):
        # In these the shortest rounds back to the place that branches have 6 letters and 8, 4 and 1, and so on.
        for teller, begin, both in (
            ((((3, 0), (0, 4), (0, 2), (4, 0), (4, 1)), (0, 0, 1, 1, 0)), 4, 14),
            ((((0, 2), (1, 0), (1, 2), (0, 0)), (0, 1, 3, 3)), 2, 5),
            ((((1, 2), (0, 0), (1, 1)), (1, 2, 3)), 1, 5),
            ((((0, 4), (3, 2), (3, 1), (1, 0), (4, 0)), (0, 2, 2, 1, 1)), 0, 3),
        ):
            paper = window_fork(teller, 0)
            self.check(teller, 0, paper)
            self.assertSame([len(row) for row in paper], [begin, begin + both, begin + both])

    def test_rests_that_are_none(self):
        for teller in (EVEN, TWO, ENDS):
            for rest in NO_RESTS + (turns(teller)[1],):
                with self.subTest(teller=teller, rest=rest):
                    self.assertRaised(Unfit, {}, window_fork, teller, rest)
                    self.assertRaised(Unfit, {}, window_rings, teller, rest)
                    for value in (None, ((), (0,), (1,)), PAPER, [], ((), (0,) * 901)):
                        self.assertRaised(Unfit, {}, window_fork_error, teller, rest, value)
                        self.assertRaised(Unfit, {}, window_rings_error, teller, rest, value)

    def test_which_is_raised(self):
        for value in (None, ((), (0,), (1,)), PAPER, [], ((), (0,) * 901)):
            for rest in (0, 1, -1, True, None, "0"):
                for call in (window_fork_error, window_rings_error):
                    self.assertRaised(TooMany, {"limit": 300}, call, long_turning(12), rest, value)
                for call in (window_fork, window_rings):
                    self.assertRaised(TooMany, {"limit": 300}, call, long_turning(12), rest)
            for teller in PLACES_301 + (long_turning(11), WINDOW_MARKS_301, MIXING):
                p = turns(teller)[1]
                for call in (window_fork_error, window_rings_error):
                    self.assertRaised(Unfit, {}, call, teller, p, value)
                    self.assertRaised(TooMany, {"limit": 300}, call, teller, p - 1, value)
                for call in (window_fork, window_rings):
                    self.assertRaised(Unfit, {}, call, teller, p)
                    self.assertRaised(TooMany, {"limit": 300}, call, teller, p - 1)


class TestWindowForkError(Case):
    def test_examples(self):
        values = (
            ((), (0, 0), (1, 0)), ((), (0,), (1,)), ((), (0, 0), (0, 0)), ((1,), (0, 0, 0), (1, 0, 0)),
            ((), (0, 0), (1,)), ((), (0, 0)),
        )
        self.assertSame(
            [window_fork_error(EVEN, 1, value) for value in values],
            [None, "onward", "alike", "begin", "lengths", "form"],
        )

    def test_form(self):
        good = ((), (0, 0), (1, 0))
        values = NO_TUPLES + ((), ((),), ((), (0, 0)), good + ((),), (good,), list(good), (list(good),) * 3)
        for wrong in NO_PAPER_ROWS:
            for place in range(3):
                values += (good[:place] + (wrong,) + good[place + 1:],)
        for value in values:
            with self.subTest(value=value):
                self.assertSame(window_fork_error(EVEN, 1, value), "form")
        self.assertSame(window_fork_error(TWO, 0, ((), (0, 2), (2, 0))), "onward")
        self.assertSame(window_fork_error(ENDS, 0, ((), (0, 2), (2, 0))), "form")

    def test_lengths(self):
        for value in (((), (), ()), ((0,), (0,), (1,)), ((0, 0), (0,), (1,)), ((), (0,), ()), ((), (), (0,)),
                      ((), (0, 0), (1, 1, 1)), ((1,), (1,), (1,)), ((0,) * 900, (0,) * 900, (1,) * 900)):
            with self.subTest(value=value):
                self.assertSame(window_fork_error(EVEN, 1, value), "lengths")

    def test_begin_of_one_and_of_other(self):
        # In even windows it is told of pieces of whatever length whether they begin with 0.
        self.assertSame(window_items(EVEN, 1, (0, 0)), (1, 3))
        self.assertSame(window_items(EVEN, 1, (1, 0)), (1, 1))
        start = (0, 0)
        self.assertSame(window_fork_error(EVEN, 1, (start, (0, 0, 0, 0), (1, 0, 0, 0))), None)
        self.assertSame(window_fork_error(EVEN, 1, (start, (0, 0, 1, 0), (1, 0, 0, 0))), "begin")
        self.assertSame(window_fork_error(EVEN, 1, (start, (0, 0, 0, 0), (1, 0, 1, 0))), "begin")
        # Rows need not end with the start: the items count.
        more = (tuple(item + item[1:] for item in EVEN[0]), EVEN[1])
        self.assertSame(window_fork_error(more, 1, ((2, 2), (0, 0, 1, 1), (1, 0, 1, 2))), None)
        self.assertSame(window_fork_error(more, 1, ((2, 2), (0, 0, 1, 1), (1, 0, 1, 0))), "begin")

    def test_onward_of_one_and_of_other(self):
        self.assertSame(window_fork_error(TWO, 0, ((), (2,), (0,))), "onward")
        self.assertSame(window_fork_error(TWO, 0, ((), (0,), (2,))), "onward")
        self.assertSame(window_fork_error(TWO, 0, ((), (0,), (1,))), "onward")
        self.assertSame(window_fork_error(EVEN, 1, ((), (0, 0, 0), (1, 0, 0))), "onward")

    def test_rows_of_900_letters_and_of_901(self):
        zeros, one = (0,) * 900, (1,) + (0,) * 899
        self.assertSame(window_fork_error(EVEN, 1, ((), zeros, one)), None)
        self.assertSame(window_fork_error(EVEN, 1, (zeros[:898], zeros, one)), None)
        self.assertSame(window_fork_error(EVEN, 1, (zeros[:899], zeros, one)), "onward")
        self.assertSame(window_fork_error(EVEN, 1, (zeros + (0,), zeros, one)), "form")
        self.assertSame(window_fork_error(EVEN, 1, ((), zeros + (0,), one + (0,))), "form")
        self.assertSame(window_fork_error(EVEN, 1, ((), zeros, one + (0,))), "form")

    def test_the_first_that_applies(self):
        answers = {}
        draw = random.Random(621)
        for teller in fitting(622, 60, 4, 2, 1):
            rows = list(rows_in_order(kinds(teller), 4))
            p = turns(teller)[1]
            for _ in range(40):
                rest = draw.randrange(p)
                start = draw.choice(rows[:7])
                longer = [row for row in rows if len(row) == len(start) + draw.choice((0, 1, 1, 2, p))]
                value = (start, draw.choice(longer or rows), draw.choice(longer or rows))
                wanted = slow_fork_error(teller, rest, value)
                self.assertSame(window_fork_error(teller, rest, value), wanted)
                answers[wanted] = answers.get(wanted, 0) + 1
        self.assertEqual(set(answers), {None, "lengths", "begin", "alike", "onward"})

    def test_what_was_returned(self):
        self.assertSame(window_fork_error(EVEN, 1, all_books()), "form")
        self.assertSame(window_fork_error(EVEN, 1, window_fork(EVEN, 1) + ((),)), "form")
        self.assertSame(window_fork_error(EVEN, 0, window_fork(EVEN, 1)), "alike")
        self.assertSame(window_fork_error(EVEN, 1, window_ways(EVEN)), "form")


class TestWindowRings(Case):
    def test_examples(self):
        self.assertSame(window_rings(EVEN, 1), None)
        self.assertSame(window_rings_error(EVEN, 0, window_rings(EVEN, 0)), None)
        self.assertSame(len(window_rings(TWO, 0)), 6)

    def check(self, teller, rest, paper, power):
        """The paper are rings, as many as the grade tells, and no need of the rest is less than they tell."""
        self.assertIs(type(paper), tuple)
        self.assertEqual(len(paper), 2 * power + 2)
        self.assertSame(window_rings_error(teller, rest, paper), None)
        self.assertSame(slow_rings_error(teller, rest, paper), None)
        for row in paper:
            self.assertIs(type(row), tuple)
            self.assertLessEqual(len(row), 900)
        b, p = turns(teller)
        for n in range(b + rest, 301, 7 * p):
            self.assertGreaterEqual(window_need(teller, n), rings_least(paper, n - b))

    def test_as_many_as_the_grade_tells(self):
        found = {}
        for teller in fitting(623, 120):
            b, grades = window_grades(teller)
            for rest, power in enumerate(grades):
                paper = window_rings(teller, rest)
                found[(b > 0, len(grades) > 1, power)] = True
                if power is None:
                    self.assertSame(paper, None)
                else:
                    self.check(teller, rest, paper, power)
        self.assertGreaterEqual({power for _, _, power in found}, {None, 0, 1, 2, 3, 4})
        self.assertGreaterEqual(len(found), 14)

    def test_none_with_more_rings(self):
        draw = random.Random(624)
        found = 0
        for teller in fitting(625, 60, 4, 2, 1):
            for rest, power in enumerate(window_grades(teller)[1]):
                for _ in range(20):
                    row, rows = (), []
                    for _ in range(draw.choice((2, 4, 6, 8))):
                        row = drawn_row(draw, kinds(teller), draw.choice((1, 1, 2))) + row
                        rows.append(row)
                    if window_rings_error(teller, rest, tuple(rows)) is None:
                        found += 1
                        self.assertTrue(power is None or len(rows) // 2 <= power + 1)
        self.assertGreater(found, 100)

    def test_many_rings(self):
        self.assertSame(window_grades(MANY), (0, (23,)))
        with self.assertQuick(2):
            paper = window_rings(MANY, 0)
        self.check(MANY, 0, paper, 23)

    def test_300_places_and_marks(self):
        for teller in PLACES_300 + (WINDOW_MARKS_300, ring(17, 3, 2), chain(12, 3)):
            for rest, power in enumerate(window_grades(teller)[1]):
                paper = window_rings(teller, rest)
                if power is None:
                    self.assertSame(paper, None)
                else:
                    self.check(teller, rest, paper, power)


class TestWindowRingsError(Case):
    def test_examples(self):
        values = (PAPER, ((), (2,), (2, 2), (2, 0, 2)), ((), (2,), (0, 2), (1, 0, 2)), ((), ()))
        self.assertSame(
            [window_rings_error(TWO, 0, value) for value in values], [None, ("way", 0), ("ring", 1), ("ring", 0)],
        )

    def test_form(self):
        values = NO_TUPLES + ((), ((),), PAPER[:1], PAPER[:3], PAPER[:5], list(PAPER), (list(PAPER), list(PAPER)))
        for wrong in NO_PAPER_ROWS:
            if wrong == (2,):
                wrong = (3,)
            for place in range(6):
                values += (PAPER[:place] + (wrong,) + PAPER[place + 1:],)
            values += (((0,), wrong), (wrong, (0,)), (wrong,))
        for value in values:
            with self.subTest(value=value):
                self.assertSame(window_rings_error(TWO, 0, value), "form")
        self.assertSame(window_rings_error(ENDS, 0, PAPER), "form")

    def test_ring(self):
        for first in (((), ()), ((2,), ()), ((2,), (2,)), ((2,), (0, 2)), ((0,), (0, 1)), ((), (0,)), ((), (1,))):
            with self.subTest(first=first):
                self.assertSame(window_rings_error(TWO, 0, first), ("ring", 0))
                self.assertSame(window_rings_error(TWO, 0, first + PAPER[2:]), ("ring", 0))
        self.assertSame(window_rings_error(TWO, 0, PAPER[:2] + ((0, 2), (0, 2))), ("ring", 1))
        self.assertSame(window_rings_error(TWO, 0, PAPER[:2] + ((0, 2), (0, 0, 1))), ("ring", 1))
        self.assertSame(window_rings_error(TWO, 0, PAPER[:4] + ((1, 2, 0, 2), (2, 2, 1, 0, 2))), ("ring", 2))
        # By the rounds: of an even number of letters, where the window is even.
        self.assertSame(window_rings_error(EVEN, 1, ((), (1, 0))), None)
        self.assertSame(window_rings_error(EVEN, 1, ((), (1,))), ("ring", 0))

    def test_way(self):
        for wrong in ((2,), (), (1,), (2, 2), (0,), (2, 0), (2, 1), (2,) * 900):
            with self.subTest(wrong=wrong):
                self.assertSame(window_rings_error(TWO, 0, PAPER[:2] + (wrong,) + PAPER[3:]), ("way", 0))
        for wrong in ((2, 0, 2), (0, 2), (2, 2, 0, 2), (0, 2, 0, 2), (1, 2, 1, 2)):
            with self.subTest(wrong=wrong):
                self.assertSame(window_rings_error(TWO, 0, PAPER[:4] + (wrong,) + PAPER[5:]), ("way", 1))
        # The way behind the ring 0 is looked at ahead of the ring 1.
        self.assertSame(window_rings_error(TWO, 0, PAPER[:2] + ((2,), (0,))), ("way", 0))
        self.assertSame(window_rings_error(TWO, 0, ((), (0,), (2,), ())), ("ring", 0))

    def test_far_on(self):
        rows, row = [], ()
        for number in range(24):
            rows += [row, (1,) + row]
            row = (0, 1) + row
        self.assertSame(window_rings_error(MANY, 0, tuple(rows)), None)
        for number in (1, 2, 3, 11, 22, 23):
            wrong = rows[:2 * number] + [(0,) + rows[2 * number]] + rows[2 * number + 1:]
            self.assertSame(window_rings_error(MANY, 0, tuple(wrong)), ("ring", number))
        for number in (0, 1, 2, 3, 11, 22):
            for more in ((), (1,), (1, 1)):
                before = more + rows[2 * number + 1]
                wrong = rows[:2 * number + 2] + [before, (1,) + before] + rows[2 * number + 4:]
                self.assertSame(window_rings_error(MANY, 0, tuple(wrong)), ("way", number))

    def test_rows_of_900_letters_and_of_901(self):
        twos = (2,) * 900
        self.assertSame(window_rings_error(TWO, 0, ((), twos)), None)
        self.assertSame(window_rings_error(TWO, 0, (twos[:899], twos)), None)
        zero = (0,) + twos[:898]
        self.assertSame(window_rings_error(TWO, 0, ((), twos[:898], zero, (0,) + zero)), None)
        self.assertSame(window_rings_error(TWO, 0, ((), twos + (2,))), "form")
        self.assertSame(window_rings_error(TWO, 0, (twos, twos + (2,))), "form")
        self.assertSame(window_rings_error(TWO, 0, (twos, twos)), ("ring", 0))

    def test_the_first_that_applies(self):
        draw = random.Random(626)
        answers = {}
        for teller in fitting(627, 150, 4, 2, 1):
            p = turns(teller)[1]
            for _ in range(15):
                rest = draw.randrange(p)
                row, rows = (), []
                for _ in range(draw.choice((2, 4, 4, 6))):
                    row = drawn_row(draw, kinds(teller), draw.choice((0, 1, 1, p, p, 2))) + row
                    rows.append(row)
                wanted = slow_rings_error(teller, rest, tuple(rows))
                self.assertSame(window_rings_error(teller, rest, tuple(rows)), wanted)
                answers[wanted] = True
        self.assertGreaterEqual(set(answers), {None, ("ring", 0), ("ring", 1), ("way", 0), ("way", 1)})

    def test_what_was_returned(self):
        self.assertSame(window_rings_error(TWO, 0, all_books()), "form")
        self.assertSame(window_rings_error(TWO, 0, window_rings(TWO, 0)[:4]), None)
        self.assertSame(window_rings_error(TWO, 0, window_rings(TWO, 0)[:3]), "form")
        self.assertSame(window_rings_error(EVEN, 1, window_fork(EVEN, 1)), "form")
        self.assertSame(window_rings_error(EVEN, 1, window_fork(EVEN, 1)[:2]), None)


class TestTimes(Case):
    def test_the_edges(self):
        draw = random.Random(628)
        for teller in PLACES_300 + (WINDOW_MARKS_300, ring(17, 3, 2)):
            value = ((),) + tuple(drawn_row(draw, kinds(teller), 900) for _ in range(2))
            for call in (window_fork, window_rings):
                with self.assertQuick(2):
                    call(teller, 0)
            with self.assertQuick(2):
                window_fork_error(teller, 0, value)
            with self.assertQuick(2):
                window_rings_error(teller, 0, value[:2])
        # 40 rings, each row longer than the one ahead.
        rows = tuple((2,) * number for number in range(88))
        with self.assertQuick(2):
            self.assertSame(window_rings_error(TWO, 0, rows), ("way", 0))
