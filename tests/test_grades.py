"""[F1] to [F3]: grades, the greatest needs, and the books within a grade."""

import random

from endkeepers.amounts import needs
from endkeepers.books import all_books
from endkeepers.counting import ways
from endkeepers.errors import TooMany, Unfit
from endkeepers.grades import books_within, grade, most
from endkeepers.knowntellers import known_names, known_teller
from endkeepers.tellers import kinds

from tests.edges import BOTH_301, LOTS_300, LOTS_301, MARKS_300, MARKS_301, RESTING_MARKS_300, RESTING_MARKS_301
from tests.helping import (
    ALL_ENDS, BARE, FOLLOWING, NO_NUMBERS, QUEUE, RESTING_BOOKS, TAKING_BOOKS, UNDOING, WINDOW, Case, chain,
    drawn_teller, drawn_tellers, far_lengths, ring, spread,
)

GRADED = RESTING_BOOKS + TAKING_BOOKS


def slow_grade(steps):
    """The grade of a machine of lots, by going from lot to lot."""
    def come_to(lots):
        seen, found = set(lots), list(lots)
        for lot in found:
            for _, there in steps[lot]:
                if there not in seen:
                    seen.add(there)
                    found.append(there)
        return seen

    ahead = [come_to({there for _, there in pairs}) for pairs in steps]
    rings = []
    for lot in range(len(steps)):
        ring_of_lot = frozenset(there for there in ahead[lot] if lot in ahead[there])
        if ring_of_lot and ring_of_lot not in rings:
            rings.append(ring_of_lot)
    for lots in rings:
        for lot in lots:
            if sum(there in lots for _, there in steps[lot]) > 1:
                return None

    def longest(lots):
        return 1 + max((longest(other) for other in rings if other != lots and other & ahead[min(lots)]), default=0)

    return max(longest(lots) for lots in rings) - 1


def unlike_letters(letters, kinds_of_letters=2):
    """A teller that counts how often 0 and 1 have come by turns, up to so many."""
    moves = []
    for state in range(letters + 1):
        moves.append(tuple(
            min(state + 1, letters) if letter == state % 2 else state for letter in range(kinds_of_letters)
        ))
    return tuple(moves), tuple(range(letters + 1))


class TestGrade(Case):
    def test_examples(self):
        parity = known_teller("parity", 2)
        self.assertSame(
            [grade(FOLLOWING, book) for book in (UNDOING, QUEUE, ("take left",), ALL_ENDS, ("put right",))],
            [2, 1, 1, None, 0],
        )
        self.assertSame(
            [grade(known_teller(name, 2), UNDOING) for name in ("holds", "begins", "ends", "parity", "count")],
            [1, 0, None, None, 3],
        )
        self.assertSame(grade(parity, UNDOING), None)
        self.assertRaised(Unfit, {}, grade, FOLLOWING, WINDOW)

    def test_unfit_books(self):
        for book in (BARE, WINDOW):
            for teller in [FOLLOWING] + [teller for _, teller in LOTS_301 + MARKS_301]:
                self.assertRaised(Unfit, {}, grade, teller, book)
                self.assertRaised(Unfit, {}, most, teller, book)

    def test_books_without_a_take(self):
        for book in RESTING_BOOKS:
            for teller in (FOLLOWING, chain(24, 3), far_lengths(10)):
                self.assertSame(grade(teller, book), 0)
        for book, teller in RESTING_MARKS_301:
            self.assertSame(grade(teller, book), 0)

    def test_too_many(self):
        for book, teller in LOTS_301 + MARKS_301 + BOTH_301:
            self.assertRaised(TooMany, {"limit": 300}, grade, teller, book)
            self.assertRaised(TooMany, {"limit": 300}, most, teller, book)
        for book, teller in LOTS_300 + tuple(case[:2] for case in MARKS_300):
            self.assertSame(grade(teller, book), slow_grade(ways(teller, book)))

    def test_beside_rings_lot_by_lot(self):
        found = set()
        for teller in list(drawn_tellers(480, 200, 5, 3, 2)) + [unlike_letters(3), unlike_letters(4, 3)]:
            for book in TAKING_BOOKS:
                try:
                    steps = ways(teller, book)
                except TooMany:
                    continue
                with self.subTest(teller=teller, book=book):
                    self.assertSame(grade(teller, book), slow_grade(steps))
                found.add(grade(teller, book))
        self.assertGreaterEqual(found, {None, 0, 1, 2, 3})

    def test_great_grades(self):
        for letters in (1, 2, 3, 10, 23):
            self.assertSame(grade(unlike_letters(letters), UNDOING), letters)
            # A letter that stays where it is makes a second item to the same ring.
            self.assertSame(grade(unlike_letters(letters, 3), UNDOING), letters)
        self.assertSame(grade(chain(24, 2), UNDOING), 0)

    def test_two_items_to_one_lot_branch(self):
        # From the only lot both items lead back to it.
        self.assertSame(ways(FOLLOWING, ALL_ENDS), ((((0, 2, 2), 0), ((1, 1, 2), 0)),))
        self.assertSame(grade(FOLLOWING, ALL_ENDS), None)

    def test_a_choice_between_rings_does_not_branch(self):
        # From one ring two items lead to two others, from each of which one comes to a last one.
        teller = (((0, 1, 2), (1, 3, 1), (2, 2, 3), (3, 3, 3)), (0, 1, 2, 3))
        self.assertSame(ways(teller, UNDOING)[0], ((0, 0), (1, 1), (2, 2)))
        self.assertSame(grade(teller, UNDOING), 2)
        self.assertSame(grade((((0, 1), (2, 2), (1, 1)), (0, 1, 2)), UNDOING), 1)
        # A ring that can be gone round in two ways, far from its beginning.
        self.assertSame(grade((((1, 1), (2, 2), (0, 3), (0, 0)), (0, 1, 2, 3)), UNDOING), None)
        # Lone lots ahead of a ring, and between rings, count for nothing.
        self.assertSame(grade((((1, 1), (2, 2), (2, 3), (4, 4), (4, 4)), (0, 1, 2, 3, 4)), UNDOING), 1)

    def test_with_needs(self):
        for teller in drawn_tellers(481, 60, 4, 3, 1):
            for book in GRADED:
                try:
                    power, found = grade(teller, book), needs(teller, book, 300)
                except TooMany:
                    continue
                if book in RESTING_BOOKS:
                    continue
                if power is None:
                    # At least 2 ** (n // r), r being no more than twice the lots and what is ahead.
                    self.assertGreaterEqual(found[300], 2 ** (300 // (3 * len(ways(teller, book)))))
                elif power == 0:
                    self.assertEqual(found[300], found[200])
                else:
                    # Twice as many letters need about 2 ** d times as much.
                    self.assertGreater(found[300] * 2, found[150] * 2 ** power)
                    self.assertLess(found[300], found[150] * 2 ** power * 2)


class TestMost(Case):
    def test_examples(self):
        self.assertSame(most(known_teller("begins", 2), UNDOING), 2)
        self.assertSame(most(FOLLOWING, ("put left", "put right")), 4)
        self.assertSame(most(FOLLOWING, UNDOING), None)

    def test_the_greatest_of_all(self):
        told = set()
        for teller in drawn_tellers(482, 120, 5, 3, 2):
            for book in GRADED:
                try:
                    found = most(teller, book)
                    wanted = max(needs(teller, book, 300)) if grade(teller, book) == 0 else None
                except TooMany:
                    continue
                self.assertSame(found, wanted)
                told.add(found)
        self.assertGreaterEqual(told, {None, 1, 2, 3, 4, 5})

    def test_the_greatest_need_may_come_late_and_go(self):
        # 1 for long, 2 once, and 1 again: without a take.
        late = tuple((state + 1,) * 2 for state in range(20)) + ((21, 22), (23, 23), (23, 23), (23, 23))
        teller = (late, (0,) * 21 + (1, 2, 3))
        self.assertSame(needs(teller, (), 24), (1,) * 21 + (2,) + (1,) * 3)
        self.assertSame(most(teller, ()), 2)
        self.assertSame(most(teller, ("put right",)), 2)
        # With a take it comes late, and stays.
        self.assertSame(most(teller, UNDOING), 2)
        self.assertSame(most(teller, ("take right",)), 2)
        self.assertSame(most(far_lengths(9), ()), 19)
        self.assertSame(most(far_lengths(9), ("put right",)), 19)

    def test_too_many_without_a_take(self):
        for book in ((), ("put right",)):
            self.assertRaised(TooMany, {"limit": 300}, most, far_lengths(10), book)
        for book, teller in RESTING_MARKS_301:
            self.assertRaised(TooMany, {"limit": 300}, most, teller, book)
        for book, teller in RESTING_MARKS_300:
            self.assertSame(most(teller, book), max(needs(teller, book, 300)))


class TestBooksWithin(Case):
    def test_examples(self):
        self.assertSame(len(books_within(FOLLOWING, 0)), 4)
        self.assertSame(len(books_within(FOLLOWING, 2)), 12)
        self.assertSame(
            [book for book in books_within(FOLLOWING, 1) if "take left" in book],
            [("put right", "take left"), ("take left",)],
        )

    def test_beside_grades(self):
        for teller in drawn_tellers(483, 80, 4, 3, 2):
            for number in (0, 1, 2, 3, 300, 10 ** 399):
                try:
                    found = books_within(teller, number)
                except TooMany:
                    continue
                wanted = [
                    book for book in all_books()
                    if book not in (BARE, WINDOW) and grade(teller, book) is not None and grade(teller, book) <= number
                ]
                self.assertSame(found, tuple(wanted))

    def test_known_tellers(self):
        for name in known_names():
            for many in (1, 2, 3):
                within = books_within(known_teller(name, many), 10 ** 399)
                self.assertEqual(set(RESTING_BOOKS) - set(within), set())
                self.assertNotIn(BARE, within)
                self.assertNotIn(WINDOW, within)
        self.assertSame(len(books_within(known_teller("length", 3), 0)), 15)
        self.assertSame(len(books_within(known_teller("parity", 2), 10 ** 399)), 4)

    def test_numbers_that_are_none(self):
        tellers = [FOLLOWING] + [teller for _, teller in LOTS_301 + MARKS_301 + BOTH_301]
        for number in NO_NUMBERS:
            for teller in tellers:
                with self.subTest(number=number):
                    self.assertRaised(Unfit, {}, books_within, teller, number)

    def test_too_many(self):
        for _, teller in LOTS_301 + MARKS_301 + BOTH_301:
            for number in (0, 1, 10 ** 399):
                self.assertRaised(TooMany, {"limit": 300}, books_within, teller, number)
        # Too many for one book are too many for all numbers.
        for teller in drawn_tellers(484, 100, 6, 2, 2):
            refused = False
            for book in TAKING_BOOKS:
                try:
                    ways(teller, book)
                except TooMany:
                    refused = True
            if refused:
                self.assertRaised(TooMany, {"limit": 300}, books_within, teller, 0)
            else:
                self.assertGreaterEqual(len(books_within(teller, 0)), 4)


class TestSameTellers(Case):
    def test_whatever_tells_the_same(self):
        draw = random.Random(485)
        for teller in drawn_tellers(486, 30, 6, 3, 1):
            other = spread(draw, teller)
            for book in GRADED:
                try:
                    found = grade(teller, book), most(teller, book)
                except TooMany:
                    continue
                self.assertSame((grade(other, book), most(other, book)), found)


class TestTimes(Case):
    def test_the_edges(self):
        for book, teller in LOTS_300:
            with self.assertQuick(2):
                grade(teller, book), most(teller, book)
        draw = random.Random(487)
        for teller in [chain(24, 3), ring(24, 3, 3), unlike_letters(23)] + [
            drawn_teller(draw, 24, many, 3) for many in (1, 2, 3)
        ]:
            self.assertEqual(kinds(teller), len(teller[0][0]))
            with self.assertQuick(4):
                try:
                    books_within(teller, 3)
                except TooMany:
                    pass
