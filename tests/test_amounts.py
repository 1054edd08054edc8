"""[E5]: needs and bits."""

import random

from endkeepers.amounts import bits, need, needs
from endkeepers.counting import ways
from endkeepers.errors import TooMany, Unfit
from endkeepers.knowntellers import known_names, known_teller
from endkeepers.tellers import kinds

from tests.edges import (
    BOTH_301, LOTS_300, LOTS_301, MARKS_300, MARKS_301, PLACES_300, PLACES_301, RESTING_MARKS_300, RESTING_MARKS_301,
    WINDOW_MARKS_301,
)
from tests.helping import (
    ALL_ENDS, BARE, FOLLOWING, NO_NUMBERS, QUEUE, RESTING_BOOKS, TAKING_BOOKS, TOLD_BOOKS, UNDOING, WINDOW, Case, chain,
    drawn_teller, drawn_tellers, far_lengths, long_turning, ring, slow_need, spread,
)


def slow_counts(steps, last):
    """The numbers of ways of no steps to so many from the lot 0, by going on lot by lot."""
    here, found = {0: 1}, []
    for _ in range(last + 1):
        found.append(sum(here.values()))
        behind = {}
        for lot, times in here.items():
            for _, there in steps[lot]:
                behind[there] = behind.get(there, 0) + times
        here = behind
    return tuple(found)


def two_rounds(one, other, kinds_of_letters=2):
    """A teller that goes into one of two rings, by the first letter, and tells 1, or 2, in one state of each."""
    moves = [(1, 1 + one) + (1,) * (kinds_of_letters - 2)]
    for begin, length in ((1, one), (1 + one, other)):
        moves += [(begin + (place + 1) % length,) * kinds_of_letters for place in range(length)]
    return tuple(moves), (0, 1) + (0,) * (one - 1) + (2,) + (0,) * (other - 1)


class TestNeeds(Case):
    def test_examples(self):
        self.assertSame(
            [needs(FOLLOWING, book, 6) for book in (UNDOING, QUEUE, WINDOW, ("put right",))],
            [(1, 2, 4, 7, 11, 16, 22), (1, 2, 3, 5, 7, 9, 11), (1, 1, 3, 5, 7, 9, 11), (1, 2, 3, 3, 3, 3, 3)],
        )
        self.assertSame(need(FOLLOWING, UNDOING, 300), 45151)
        self.assertSame(need(FOLLOWING, ALL_ENDS, 100), 2 ** 100)
        self.assertSame([bits(FOLLOWING, book, 100) for book in (UNDOING, QUEUE, ALL_ENDS)], [13, 8, 100])
        self.assertRaised(Unfit, {}, need, FOLLOWING, UNDOING, 301)
        self.assertRaised(Unfit, {}, need, FOLLOWING, BARE, 1)

    def test_numbers_that_are_none(self):
        for number in NO_NUMBERS + (301, 900, 10 ** 399):
            for book in ((), UNDOING, WINDOW, BARE, ALL_ENDS):
                for call in (need, needs, bits):
                    with self.subTest(number=number, book=book, call=call):
                        self.assertRaised(Unfit, {}, call, FOLLOWING, book, number)

    def test_the_bare_book(self):
        for number in (0, 1, 300):
            for call in (need, needs, bits):
                self.assertRaised(Unfit, {}, call, FOLLOWING, BARE, number)
                self.assertRaised(Unfit, {}, call, MARKS_301[0][1], BARE, number)

    def test_beside_all_rows(self):
        compared = {book: 0 for book in TOLD_BOOKS}
        for teller in drawn_tellers(420, 40, 4, 3, 2):
            last = {1: 7, 2: 5, 3: 4}[kinds(teller)]
            for book in TOLD_BOOKS:
                try:
                    found = needs(teller, book, last)
                except TooMany:
                    continue
                for number in range(last + 1):
                    with self.subTest(teller=teller, book=book, number=number):
                        self.assertSame(found[number], slow_need(teller, book, number))
                compared[book] += found[-1] > 1
        self.assertGreater(min(compared.values()), 5)

    def test_known_tellers_beside_all_rows(self):
        for name in known_names():
            for book in TOLD_BOOKS:
                wanted = tuple(slow_need(known_teller(name, 2), book, number) for number in range(6))
                self.assertSame(needs(known_teller(name, 2), book, 5), wanted)

    def test_far_out_beside_ways(self):
        for teller in drawn_tellers(421, 40, 5, 3, 2):
            for book in TAKING_BOOKS:
                try:
                    steps = ways(teller, book)
                except TooMany:
                    continue
                self.assertSame(needs(teller, book, 300), slow_counts(steps, 300))

    def test_far_out(self):
        for number in (2, 100, 299, 300):
            self.assertSame(need(FOLLOWING, UNDOING, number), number * (number + 1) // 2 + 1)
            self.assertSame(need(FOLLOWING, QUEUE, number), 2 * number - 1)
            self.assertSame(need(FOLLOWING, WINDOW, number), 2 * number - 1)
            self.assertSame(need(known_teller("holds", 3), ("take right",), number), number + 1)
            self.assertSame(need(known_teller("sorted", 3), ALL_ENDS, number), 3 ** number)
            self.assertSame(need(known_teller("length", 3), ALL_ENDS, number), 1)
            self.assertSame(need(known_teller("count", 2), ("put right",), number), 4 if number > 2 else 3)

    def test_one_and_all_and_each(self):
        for book in TOLD_BOOKS:
            found = needs(FOLLOWING, book, 300)
            self.assertIs(type(found), tuple)
            self.assertEqual(len(found), 301)
            for number in (0, 1, 2, 6, 100, 300):
                self.assertSame(needs(FOLLOWING, book, number), found[:number + 1])
                self.assertSame(need(FOLLOWING, book, number), found[number])

    def test_books_without_take_and_slide(self):
        # Each number of letters leads to one state alone, which tells whatever it tells.
        for book in ((), ("put right",)):
            self.assertSame(needs(ring(7, 3, 2), book, 20), (1,) * 21)
        parity, counting = known_teller("parity", 2), known_teller("count", 2)
        self.assertSame(needs(parity, (), 4), (1, 2, 2, 2, 2))
        self.assertSame(needs(counting, (), 5), (1, 2, 3, 4, 4, 4))
        self.assertSame(needs(FOLLOWING, (), 4), (1, 1, 2, 2, 2))
        self.assertSame(needs(FOLLOWING, ("put left",), 4), (1, 2, 3, 3, 3))
        self.assertSame(needs(FOLLOWING, ("put left", "put right"), 4), (1, 2, 4, 4, 4))
        # Needs may fall, and go round.
        evenly = (((1, 2), (3, 3), (3, 3), (1, 2)), (0, 1, 2, 3))
        self.assertSame(needs(evenly, (), 6), (1, 2, 1, 2, 1, 2, 1))
        self.assertSame(needs(two_rounds(2, 3), (), 7), (1, 2, 1, 2, 2, 2, 1, 2))


class TestTooMany(Case):
    def check(self, teller, book, refused):
        """All three raise TooMany(300), or none of them."""
        for call in (need, needs, bits):
            for number in (0, 1, 300):
                if refused:
                    self.assertRaised(TooMany, {"limit": 300}, call, teller, book, number)
                    self.assertRaised(Unfit, {}, call, teller, book, 301)
                    self.assertRaised(Unfit, {}, call, teller, book, True)
                else:
                    call(teller, book, number)

    def test_with_a_take(self):
        for book, teller in LOTS_300:
            self.check(teller, book, False)
        for book, teller, _ in MARKS_300:
            self.check(teller, book, False)
        for book, teller in LOTS_301 + MARKS_301 + BOTH_301:
            self.check(teller, book, True)

    def test_by_the_slide(self):
        for teller in PLACES_300:
            self.check(teller, WINDOW, False)
        for teller in PLACES_301 + (WINDOW_MARKS_301, long_turning(12), long_turning(11)):
            self.check(teller, WINDOW, True)

    def test_turns_of_300_and_301_without_take(self):
        for book in ((), ("put right",)):
            self.check(far_lengths(8), book, False)
            self.check(far_lengths(9), book, False)
            self.check(far_lengths(10), book, True)
            self.assertSame(needs(far_lengths(9), ("put right",), 300)[297:], (18, 18, 19, 19))
        self.assertEqual(sum(round_of(far_lengths(9))), 300)
        self.assertEqual(sum(round_of(far_lengths(10))), 301)

    def test_300_marks_and_301_without_take(self):
        for book, teller in RESTING_MARKS_300:
            self.assertEqual(slow_marks(teller, book), 300)
            self.check(teller, book, False)
        for book, teller in RESTING_MARKS_301:
            self.assertEqual(slow_marks(teller, book), 301)
            self.check(teller, book, True)
            self.check(far_lengths(8), book, True)


def round_of(teller):
    """(b, p) of the sets of states behind all rows of n letters."""
    here, seen = frozenset((0,)), {}
    while here not in seen:
        seen[here] = len(seen)
        here = frozenset(there for state in here for there in teller[0][state])
    return seen[here], len(seen) - seen[here]


def slow_marks(teller, book):
    """How many marks there are without a take, to 1000: of the least teller, which is the teller itself here."""
    moves, tells = teller
    first = tuple(range(len(moves))) if "put right" in book else tells
    seen, marks = {first}, [first]
    for mark in marks:
        for letter in range(len(moves[0])):
            there = tuple(mark[item[letter]] for item in moves)
            if there not in seen and len(seen) < 1000:
                seen.add(there)
                marks.append(there)
    return len(seen)


class TestBits(Case):
    def test_the_least_number_that_is_enough(self):
        for teller in drawn_tellers(422, 30, 4, 3, 2):
            for book in TOLD_BOOKS:
                for number in (0, 1, 2, 3, 6, 17):
                    try:
                        states = need(teller, book, number)
                    except TooMany:
                        continue
                    found = bits(teller, book, number)
                    self.assertGreaterEqual(2 ** found, states)
                    self.assertTrue(found == 0 or 2 ** (found - 1) < states)

    def test_powers_of_two(self):
        # holds by an undo list needs n + 1 states.
        holding = known_teller("holds", 2)
        found = [bits(holding, UNDOING, number) for number in (0, 1, 2, 3, 4, 7, 8, 15, 16, 255, 256)]
        self.assertSame(found, [0, 1, 2, 2, 3, 3, 4, 4, 5, 8, 9])
        self.assertSame(bits(known_teller("parity", 2), UNDOING, 300), 300)
        self.assertSame(bits(known_teller("length", 2), WINDOW, 300), 0)


class TestSameTellers(Case):
    def test_whatever_tells_the_same(self):
        draw = random.Random(423)
        for teller in drawn_tellers(424, 30, 8, 3, 1):
            other = spread(draw, teller)
            for book in TOLD_BOOKS:
                try:
                    found = needs(teller, book, 12)
                except TooMany:
                    self.assertRaised(TooMany, {"limit": 300}, needs, other, book, 12)
                    continue
                self.assertSame(needs(other, book, 12), found)


class TestTimes(Case):
    def test_the_edges(self):
        for book, teller in LOTS_300:
            with self.assertQuick(2):
                needs(teller, book, 300), bits(teller, book, 300)
        for teller in PLACES_300:
            with self.assertQuick(2):
                needs(teller, WINDOW, 300)
        for book in RESTING_BOOKS:
            with self.assertQuick(2):
                try:
                    needs(far_lengths(9), book, 300)
                except TooMany:
                    pass
            with self.assertQuick(2):
                needs(chain(24, 3), book, 300)

    def test_24_states(self):
        draw = random.Random(425)
        for _ in range(8):
            teller = drawn_teller(draw, 24, draw.randint(1, 3), draw.randint(0, 3))
            for book in TOLD_BOOKS:
                with self.assertQuick(2):
                    try:
                        need(teller, book, 300)
                    except TooMany:
                        pass
