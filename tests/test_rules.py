"""[E6] and [E7]: rules for needs of all numbers of letters, and whether two needs are the same."""

import itertools
import random
from fractions import Fraction

from endkeepers.amounts import needs
from endkeepers.books import all_books
from endkeepers.counting import ways
from endkeepers.errors import TooMany, Unfit
from endkeepers.knowntellers import known_names, known_teller
from endkeepers.rules import rule, rule_error, same_need
from endkeepers.tellers import kinds
from endkeepers.windows import window_ways

from tests.edges import (
    BOTH_301, LOTS_300, LOTS_301, MARKS_301, PLACES_300, PLACES_301, RESTING_MARKS_301, SIZES_24, SIZES_25,
    WINDOW_MARKS_301,
)
from tests.helping import (
    ALL_ENDS, BARE, ENDS, FOLLOWING, NO_TUPLES, QUEUE, RESTING_BOOKS, TAKING_BOOKS, TOLD_BOOKS, UNDOING, WINDOW, Case,
    chain, drawn_tellers, far_lengths, long_turning, ring, spread,
)

HOLDS, COUNT, SORTED = known_teller("holds", 2), known_teller("count", 2), known_teller("sorted", 2)
EVEN = (((1, 2), (3, 3), (2, 2), (1, 1)), (0, 0, 0, 1))


def told_by(value, last):
    """The numbers that a rule tells."""
    first, factors = value
    found = list(first)
    while len(found) <= last:
        found.append(sum(factor * number for factor, number in zip(factors, reversed(found))))
    return tuple(found[:last + 1])


def rank(rows):
    """The rank of a square of numbers."""
    rows = [[Fraction(number) for number in row] for row in rows]
    found = 0
    for column in range(len(rows)):
        pivots = [row for row in range(found, len(rows)) if rows[row][column] != 0]
        if pivots:
            rows[found], rows[pivots[0]] = rows[pivots[0]], rows[found]
            for row in range(found + 1, len(rows)):
                factor = rows[row][column] / rows[found][column]
                rows[row] = [a - factor * b for a, b in zip(rows[row], rows[found])]
            found += 1
    return found


def size_of(teller, book):
    """The size of teller and book, as the document tells it."""
    if book == WINDOW:
        return len(window_ways(teller))
    if book in TAKING_BOOKS:
        return len(ways(teller, book))
    return None


def countdown(states):
    """A teller of one kind that tells each of its states; the last one stays."""
    return tuple((min(state + 1, states - 1),) for state in range(states)), tuple(range(states))


class TestRule(Case):
    def test_examples(self):
        self.assertSame(
            [rule(FOLLOWING, book) for book in (UNDOING, QUEUE, ("put right",), ALL_ENDS)],
            [((1, 2, 4), (3, -3, 1)), ((1, 2, 3, 5), (2, -1, 0, 0)), ((1, 2, 3), (1, 0, 0)), ((1,), (2,))],
        )
        self.assertSame(rule(HOLDS, UNDOING), ((1, 2), (2, -1)))

    def check(self, teller, book, value):
        """The rule tells the needs, and none of fewer numbers does."""
        first, factors = value
        self.assertEqual(len(first), len(factors))
        self.assertTrue(1 <= len(first) <= 24)
        found = needs(teller, book, 300)
        self.assertSame(told_by(value, 300), found)
        # So many numbers in a row and column, and no fewer, tell all others.
        many = len(first)
        for more in (many, many + 3):
            self.assertEqual(rank([found[place:place + more] for place in range(more)]), many)
        self.assertSame(rule_error(teller, book, value), None)

    def test_of_the_fewest_numbers(self):
        lengths = set()
        for teller in drawn_tellers(440, 60, 4, 3, 2):
            for book in TOLD_BOOKS:
                try:
                    value = rule(teller, book)
                except TooMany:
                    continue
                with self.subTest(teller=teller, book=book):
                    self.check(teller, book, value)
                lengths.add(len(value[0]))
        self.assertGreaterEqual(lengths, {1, 2, 3, 4, 5, 6, 7, 8})

    def test_known_tellers(self):
        for name in known_names():
            for many in (1, 2, 3):
                for book in TOLD_BOOKS:
                    try:
                        value = rule(known_teller(name, many), book)
                    except TooMany:
                        continue
                    self.check(known_teller(name, many), book, value)

    def test_needs_that_go_round(self):
        # 1, 1, 4, 1, 16, 1, 64: two rounds, one of 4 to the power of n // 2, and one of 1.
        self.check(EVEN, WINDOW, rule(EVEN, WINDOW))
        self.assertSame(rule((((1, 2), (3, 3), (3, 3), (1, 2)), (0, 1, 2, 3)), ()), ((1, 2), (0, 1)))
        self.assertSame(rule(ring(7, 2, 2), ()), ((1,), (1,)))
        self.assertSame(rule((((0,),), (5,)), UNDOING), ((1,), (1,)))
        self.assertSame(rule((((1, 2), (1, 1), (2, 2)), (0, 1, 2)), ()), ((1, 2), (1, 0)))

    def test_sizes_of_24_and_25(self):
        for book, teller in SIZES_24:
            self.assertIn(size_of(teller, book), (None, 24))
            self.check(teller, book, rule(teller, book))
        for book, teller in SIZES_25:
            self.assertIn(size_of(teller, book), (None, 25))
            self.assertRaised(TooMany, {"limit": 24}, rule, teller, book)
            # It is still known whether a rule is right.
            value = (needs(teller, book, 23), (0,) * 24)
            self.assertSame(rule_error(teller, book, value), ("need", 24))

    def test_as_many_lots_as_states(self):
        # Of one kind there is one row of each length: one need, but as many lots as states.
        for states in (1, 2, 23, 24):
            self.assertEqual(len(ways(countdown(states), UNDOING)), states)
            self.assertSame(rule(countdown(states), UNDOING), ((1,), (1,)))
            self.assertSame(rule(countdown(states), ("put right",)), ((1,), (1,)))

    def test_sizes_without_take(self):
        # b is 1, and p what both rings' lengths have in common.
        for one, other in ((1, 22), (1, 21), (2, 11), (4, 6), (3, 7)):
            for book in ((), ("put right",)):
                self.check(rounds_of(one, other), book, rule(rounds_of(one, other), book))
        for one, other in ((3, 8), (5, 6), (11, 12), (4, 7)):
            for book in RESTING_BOOKS:
                with self.subTest(one=one, other=other, book=book):
                    self.assertRaised(TooMany, {"limit": 24}, rule, rounds_of(one, other), book)
        self.check(beats(2, 11, 7), (), rule(beats(2, 11, 7), ()))
        self.assertEqual(len(rule(beats(1, 22, 7), ())[0]), 23)

    def test_too_many(self):
        for book, teller in LOTS_300:
            self.assertRaised(TooMany, {"limit": 24}, rule, teller, book)
        for teller in PLACES_300:
            self.assertRaised(TooMany, {"limit": 24}, rule, teller, WINDOW)
        self.assertRaised(TooMany, {"limit": 24}, rule, far_lengths(9), ())
        for book, teller in too_many_cases():
            self.assertRaised(TooMany, {"limit": 300}, rule, teller, book)
            self.assertRaised(TooMany, {"limit": 300}, rule_error, teller, book, ((1,), (1,)))
            # It is ahead of all that is wrong with the value.
            self.assertRaised(TooMany, {"limit": 300}, rule_error, teller, book, None)

    def test_the_bare_book(self):
        self.assertRaised(Unfit, {}, rule, FOLLOWING, BARE)
        self.assertRaised(Unfit, {}, rule_error, FOLLOWING, BARE, None)
        self.assertRaised(Unfit, {}, rule_error, FOLLOWING, BARE, ((1,), (1,)))
        for book, teller in too_many_cases():
            self.assertRaised(Unfit, {}, rule, teller, BARE)
            self.assertRaised(Unfit, {}, rule_error, teller, BARE, ((1,), (1,)))


def rounds_of(one, other):
    """A teller that goes into one of two rings, by the first letter; it tells all its states apart."""
    moves = [(1, 1 + one)]
    for begin, length in ((1, one), (1 + one, other)):
        moves += [(begin + (place + 1) % length,) * 2 for place in range(length)]
    return tuple(moves), tuple(range(1 + one + other))


def beats(one, other, number):
    """Such a teller that tells in each ring a number of its own, but in one state 9.

    Without deeds the need is 2, but 1 where both rings are in this state: behind number letters,
    and whenever both have gone round behind these.
    """
    tells = [[9 if (number - 1 - place) % length == 0 else told for place in range(length)]
             for told, length in ((1, one), (2, other))]
    return rounds_of(one, other)[0], (0,) + tuple(tells[0]) + tuple(tells[1])


def late_teller(states):
    """A teller of two kinds that counts letters, and at the end asks for one."""
    moves = tuple((state + 1,) * 2 for state in range(states - 3)) + ((states - 2, states - 1),)
    return moves + ((states - 2,) * 2, (states - 1,) * 2), (0,) * (states - 1) + (1,)


def too_many_cases():
    """Books and tellers of which need raises TooMany(300)."""
    found = list(LOTS_301 + MARKS_301 + BOTH_301 + RESTING_MARKS_301)
    found += [(WINDOW, teller) for teller in PLACES_301 + (WINDOW_MARKS_301, long_turning(12))]
    return found + [((), far_lengths(10)), (("put right",), far_lengths(10))]


class TestRuleError(Case):
    def test_examples(self):
        values = (
            ((1, 2, 4), (3, -3, 1)), ((1, 2, 4, 7), (4, -6, 4, -1)), ((1, 2, 4), (2, 0, 0)), ((1,), (2, 0)), ((), ()),
            ((1, 3), (1, 1)),
        )
        self.assertSame(
            [rule_error(FOLLOWING, UNDOING, value) for value in values],
            [None, None, ("need", 3), "form", "form", ("need", 1)],
        )
        self.assertSame(rule_error(FOLLOWING, ALL_ENDS, ((1, 2, 4), (2, 0, 0))), None)

    def test_form(self):
        values = NO_TUPLES + (
            (), ((),), ((), (), ()), ((1,), (1,), (1,)), ((1,),), ([1], (1,)), ((1,), [1]), (1, 1), ((1,), 1),
            ((1,), (True,)), ((True,), (1,)), ((1,), (False,)), ((1, 2), (1, None)), ((1, "2"), (1, 1)),
            ((1, 2), (1,)), ((1,), ()), ((), (1,)), ((1,) * 25, (1,) * 25), ((1,) * 24, (1,) * 25),
            ((1,) * 25, (1,) * 24),
            (((1,),), ((1,),)), ({0: 1}, (1,)), ("1", "1"), ((1, (2,)), (1, 1)), [(1,), (1,)],
        )
        for value in values:
            for book in (UNDOING, (), WINDOW, ALL_ENDS):
                with self.subTest(value=value, book=book):
                    self.assertSame(rule_error(FOLLOWING, book, value), "form")

    def test_24_numbers(self):
        ones = (((0, 0),), (0,))
        for many in (1, 2, 23, 24):
            value = ((1,) * many, (0,) * (many - 1) + (1,))
            for book in TOLD_BOOKS:
                self.assertSame(rule_error(ones, book, value), None)
        self.assertSame(rule_error(ones, UNDOING, ((1,) * 25, (0,) * 24 + (1,))), "form")

    @staticmethod
    def longer(value):
        """The rule with one number more: what stands there stands once more, a place later, and is taken away."""
        first, factors = value
        more = told_by(value, len(first))
        return more, tuple(a - b for a, b in zip(factors + (0,), (-1,) + factors))

    def test_right_rules_with_more_numbers(self):
        for teller in drawn_tellers(441, 30, 4, 2, 2):
            for book in TOLD_BOOKS:
                try:
                    value = rule(teller, book)
                except TooMany:
                    continue
                for _ in range(3):
                    if len(value[0]) < 24:
                        value = self.longer(value)
                        self.assertSame(rule_error(teller, book, value), None)
                        # Its last number changed, it fails there.
                        first, factors = value
                        wrong = (first[:-1] + (first[-1] + 1,), factors)
                        self.assertSame(rule_error(teller, book, wrong), ("need", len(first) - 1))

    def test_the_least_number_at_which_it_fails(self):
        draw = random.Random(442)
        places = set()
        for teller in drawn_tellers(443, 60, 4, 2, 2):
            for book in TOLD_BOOKS:
                try:
                    first, factors = rule(teller, book)
                except TooMany:
                    continue
                place = draw.randrange(len(factors))
                wrong = (first, factors[:place] + (factors[place] + draw.choice((-1, 1)),) + factors[place + 1:])
                found, wanted = told_by(wrong, 60), needs(teller, book, 60)
                unlike = [number for number in range(61) if found[number] != wanted[number]]
                answer = ("need", unlike[0]) if unlike else None
                self.assertSame(rule_error(teller, book, wrong), answer)
                places.add(answer)
        self.assertGreater(len(places), 4)

    def test_far_out(self):
        # The needs of a teller that stays at 1 for long, and then has more.
        for states in (5, 15, 23):
            late = late_teller(states)
            found = needs(late, ("put right",), 40)
            self.assertSame(found, (1,) * (states - 2) + (2,) * (43 - states))
            self.assertSame(rule_error(late, ("put right",), ((1,), (1,))), ("need", states - 2))
            self.assertSame(rule_error(late, (), ((1,), (1,))), ("need", states - 2))
            self.assertSame(rule_error(late, UNDOING, ((1,), (1,))), ("need", states - 2))

    def test_very_far_out(self):
        # The least n is where both rings are in their one state for the first time.
        for one, other, number in ((2, 3, 4), (4, 9, 30), (9, 13, 100), (11, 12, 132)):
            self.assertSame(rule_error(beats(one, other, number), (), ((1, 2), (1, 0))), ("need", number))
            self.assertSame(needs(beats(one, other, number), (), 300)[number - 1:number + 2], (2, 1, 2))

    def test_great_numbers(self):
        great = 10 ** 399
        self.assertSame(rule_error(FOLLOWING, UNDOING, ((1,), (great,))), ("need", 1))
        self.assertSame(rule_error(FOLLOWING, UNDOING, ((great,) * 24, (-great,) * 24)), ("need", 0))
        self.assertSame(rule_error(FOLLOWING, UNDOING, ((-great, 2), (1, 1))), ("need", 0))
        self.assertSame(rule_error(FOLLOWING, UNDOING, ((1, 2, 4), (3, -3, 1 + great))), ("need", 3))
        self.assertSame(rule_error(FOLLOWING, UNDOING, ((0, 0), (0, 0))), ("need", 0))

    def test_what_was_returned(self):
        self.assertSame(rule_error(FOLLOWING, UNDOING, ways(FOLLOWING, UNDOING)), "form")
        self.assertSame(rule_error(FOLLOWING, UNDOING, all_books()), "form")
        self.assertSame(rule_error(FOLLOWING, UNDOING, rule(FOLLOWING, QUEUE)), ("need", 2))


class TestSameNeed(Case):
    def test_examples(self):
        self.assertSame(same_need(HOLDS, UNDOING, HOLDS, QUEUE), None)
        self.assertSame(same_need(FOLLOWING, UNDOING, SORTED, UNDOING), None)
        self.assertSame(same_need(FOLLOWING, UNDOING, FOLLOWING, QUEUE), 2)
        self.assertSame(same_need(FOLLOWING, QUEUE, FOLLOWING, WINDOW), 1)
        self.assertSame(same_need(FOLLOWING, UNDOING, COUNT, UNDOING), 3)

    def test_beside_needs(self):
        draw = random.Random(444)
        answers = set()
        tellers = list(drawn_tellers(445, 60, 4, 3, 2))
        for _ in range(300):
            one, other = draw.choice(tellers), draw.choice(tellers)
            book, another = draw.choice(TOLD_BOOKS), draw.choice(TOLD_BOOKS)
            try:
                left, right = needs(one, book, 300), needs(other, another, 300)
            except TooMany:
                self.assertRaised(TooMany, {"limit": 300}, same_need, one, book, other, another)
                continue
            unlike = [number for number in range(301) if left[number] != right[number]]
            wanted = unlike[0] if unlike else None
            self.assertSame(same_need(one, book, other, another), wanted)
            self.assertSame(same_need(other, another, one, book), wanted)
            answers.add(wanted)
        self.assertGreaterEqual(answers, {None, 1, 2, 3})

    def test_all_books_of_known_tellers(self):
        for one, other in itertools.combinations(known_names(), 2):
            for book in TOLD_BOOKS:
                left, right = needs(known_teller(one, 2), book, 100), needs(known_teller(other, 2), book, 100)
                unlike = [number for number in range(101) if left[number] != right[number]]
                self.assertSame(
                    same_need(known_teller(one, 2), book, known_teller(other, 2), book), unlike[0] if unlike else None,
                )

    def test_unlike_kinds(self):
        self.assertSame(same_need(known_teller("holds", 2), UNDOING, known_teller("holds", 3), QUEUE), None)
        self.assertSame(same_need(known_teller("holds", 1), UNDOING, known_teller("holds", 3), UNDOING), 1)
        self.assertSame(same_need(known_teller("length", 1), ALL_ENDS, known_teller("length", 3), ()), None)
        self.assertSame(same_need(ENDS, ALL_ENDS, known_teller("parity", 3), UNDOING), None)

    def test_far_out(self):
        steady = (((1, 2), (1, 1), (2, 2)), (0, 1, 2))
        for number in (30, 131, 132):
            self.assertSame(same_need(beats(11, 12, number), (), steady, ()), number)
        # Both first have 1 behind 128 letters, and then behind 130, and behind 132 more.
        self.assertSame(same_need(beats(10, 13, 128), (), beats(11, 12, 128), ()), 258)
        self.assertSame(same_need(beats(11, 12, 128), (), beats(10, 13, 128), ()), 258)
        self.assertSame(same_need(beats(10, 13, 128), (), beats(13, 10, 128), ()), None)
        self.assertSame(same_need(late_teller(23), UNDOING, chain(1, 2), UNDOING), 21)

    def test_unfit_is_ahead_of_too_many(self):
        for book, teller in too_many_cases():
            self.assertRaised(Unfit, {}, same_need, teller, book, FOLLOWING, BARE)
            self.assertRaised(Unfit, {}, same_need, FOLLOWING, BARE, teller, book)
            self.assertRaised(TooMany, {"limit": 300}, same_need, teller, book, FOLLOWING, UNDOING)
            self.assertRaised(TooMany, {"limit": 300}, same_need, FOLLOWING, UNDOING, teller, book)
            self.assertRaised(TooMany, {"limit": 300}, same_need, teller, book, teller, book)
        self.assertRaised(Unfit, {}, same_need, FOLLOWING, BARE, FOLLOWING, BARE)

    def test_whatever_tells_the_same(self):
        draw = random.Random(446)
        for teller in drawn_tellers(447, 30, 6, 3, 1):
            for book in TOLD_BOOKS:
                try:
                    self.assertSame(same_need(teller, book, spread(draw, teller), book), None)
                except TooMany:
                    continue


class TestTimes(Case):
    def test_the_edges(self):
        for book, teller in LOTS_300:
            with self.assertQuick(3):
                same_need(teller, book, teller, book)
            with self.assertQuick(2):
                rule_error(teller, book, (needs(teller, book, 23), (1,) * 24))
            with self.assertQuick(2):
                rule_error(teller, book, ((1,) * 24, (10 ** 399,) * 24))
        for teller in PLACES_300:
            with self.assertQuick(3):
                same_need(teller, WINDOW, teller, WINDOW)
