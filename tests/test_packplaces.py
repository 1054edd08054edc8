"""[I5]: the places of packs among the histories of as many letters, and the packs at them."""

import itertools
import random

from endkeepers.amounts import bits, need
from endkeepers.errors import TooMany, Unfit
from endkeepers.grades import grade
from endkeepers.histories import history
from endkeepers.knowntellers import known_teller
from endkeepers.packplaces import pack_at, pack_place
from endkeepers.packs import length_of, pack, pack_error
from endkeepers.tellers import kinds

from tests.edges import BOTH_301, LOTS_300, LOTS_301, MARKS_300, MARKS_301
from tests.helping import (
    ENDS, FOLLOWING, HOLDING, NO_NUMBERS, QUEUE, UNDOING, Case, chain, drawn_row, drawn_tellers, ring,
)
from tests.packing import ONE_TAKE_BOOKS, UNFIT_BOOKS, climbing_tellers, packed

NEAR, PARITY = known_teller("next", 2), known_teller("parity", 2)
HUGE = ((0, 10 ** 30), (1, 0), (2, 5))


class TestPackPlace(Case):
    def test_examples(self):
        self.assertSame(
            (pack_place(NEAR, UNDOING, ((0, 2), (1, 1), (2, 1))),
             pack_place(NEAR, QUEUE, ((0, 0), (2, 0), (4, 0), (3, 3)))),
            (9, 10),
        )
        self.assertSame(
            [pack_at(NEAR, UNDOING, 2, number) for number in range(4)],
            [((0, 2),), ((0, 1), (1, 0)), ((0, 0), (1, 1)), ((0, 0), (1, 0), (2, 0))],
        )
        self.assertRaised(Unfit, {}, pack_at, NEAR, UNDOING, 2, 4)
        self.assertRaised(TooMany, {"limit": 300}, pack_place, NEAR, UNDOING, HUGE)

    def test_beside_all_histories_sorted(self):
        books = {}
        tellers = [NEAR, HOLDING, known_teller("sorted", 3), known_teller("count", 2), *drawn_tellers(740, 12, 4, 3, 2)]
        for teller, book in packed(tellers + list(climbing_tellers(741, 10, 6))):
            books[book] = True
            for length in range(6 if kinds(teller) < 3 else 5):
                packs = {}
                for row in itertools.product(range(kinds(teller)), repeat=length):
                    packs.setdefault(history(teller, book, row), pack(teller, book, row))
                for place, told in enumerate(sorted(packs)):
                    self.assertSame(pack_place(teller, book, packs[told]), place)
                    self.assertSame(pack_at(teller, book, length, place), packs[told])
                self.assertRaised(Unfit, {}, pack_at, teller, book, length, len(packs))
        self.assertEqual(set(books), set(ONE_TAKE_BOOKS))

    def test_there_and_back_to_300_letters(self):
        draw = random.Random(742)
        tellers = [NEAR, known_teller("count", 3), ring(7, 2, 2), chain(9, 2)] + list(climbing_tellers(743, 8))
        for teller, book in packed(tellers):
            for length in (0, 1, 2, 41, 299, 300):
                many = need(teller, book, length)
                for number in {0, many // 2, many - 1, draw.randrange(many)}:
                    some = pack_at(teller, book, length, number)
                    self.assertSame(pack_error(teller, book, some), None)
                    self.assertSame(length_of(some), length)
                    self.assertSame(pack_place(teller, book, some), number)
                    self.assertLessEqual(number.bit_length(), bits(teller, book, length))
                row = drawn_row(draw, kinds(teller), length)
                some = pack(teller, book, row)
                place = pack_place(teller, book, some)
                self.assertLess(place, many)
                self.assertSame(pack_at(teller, book, length, place), some)

    def test_the_last_place_is_one_less_than_the_need(self):
        for teller, book in packed([NEAR, HOLDING, *drawn_tellers(744, 20, 4, 2, 2)]):
            for length in (0, 1, 7, 300):
                many = need(teller, book, length)
                self.assertSame(pack_place(teller, book, pack_at(teller, book, length, many - 1)), many - 1)
                self.assertSame(pack_place(teller, book, pack_at(teller, book, length, 0)), 0)
                for number in (many, many + 1, 10 ** 399):
                    self.assertRaised(Unfit, {}, pack_at, teller, book, length, number)

    def test_more_than_300_letters(self):
        for length in (301, 302, 900, 10 ** 30):
            self.assertRaised(TooMany, {"limit": 300}, pack_place, NEAR, UNDOING, ((0, length),))
            self.assertRaised(TooMany, {"limit": 300}, pack_place, NEAR, UNDOING, ((0, length - 5), (1, 4)))
            self.assertRaised(Unfit, {}, pack_at, NEAR, UNDOING, length, 0)
        # By ascending items the 1s alone come first, and the greatest history is that of 0, 1, and whatever follows.
        self.assertSame(pack_place(NEAR, UNDOING, ((0, 300),)), 0)
        self.assertSame(pack_place(NEAR, UNDOING, ((0, 0), (1, 0), (2, 298))), 45150)
        self.assertSame(pack_at(NEAR, UNDOING, 300, 45150), ((0, 0), (1, 0), (2, 298)))
        self.assertRaised(Unfit, {}, pack_at, NEAR, UNDOING, 300, 45151)

    def test_lengths_and_numbers_that_are_none(self):
        for teller, book in ((NEAR, UNDOING), (NEAR, QUEUE), (HOLDING, ("put left", "take right"))):
            for wrong in NO_NUMBERS + (-1, 10 ** 399, "1", b"1", (1,)):
                with self.subTest(wrong=wrong):
                    self.assertRaised(Unfit, {}, pack_at, teller, book, wrong, 0)
                    self.assertRaised(Unfit, {}, pack_at, teller, book, 2, wrong)
                    self.assertRaised(Unfit, {}, pack_at, teller, book, wrong, wrong)
            self.assertRaised(Unfit, {}, pack_at, teller, book, 301, 0)
            self.assertRaised(Unfit, {}, pack_at, teller, book, 301, None)

    def test_which_is_raised(self):
        calls = ((pack_place, (((0, 0),),)), (pack_place, (HUGE,)), (pack_at, (0, 0)), (pack_at, (None, None)))
        for call, more in calls:
            for book in UNFIT_BOOKS:
                for teller in [FOLLOWING, PARITY] + [teller for _, teller in LOTS_301 + MARKS_301]:
                    self.assertRaised(Unfit, {}, call, teller, book, *more)
            for book, teller in LOTS_301 + MARKS_301 + BOTH_301:
                if book in ONE_TAKE_BOOKS:
                    self.assertRaised(TooMany, {"limit": 300}, call, teller, book, *more)
            for book, teller in ((UNDOING, PARITY), (QUEUE, PARITY), (UNDOING, ENDS), (("take left",), PARITY)):
                self.assertRaised(Unfit, {}, call, teller, book, *more)


class TestTimes(Case):
    def test_300_lots_and_300_letters(self):
        tried = 0
        for book, teller in LOTS_300 + tuple(case[:2] for case in MARKS_300):
            if book not in ONE_TAKE_BOOKS or grade(teller, book) is None:
                continue
            tried += 1
            with self.assertQuick(2):
                some = pack_at(teller, book, 300, need(teller, book, 300) - 1)
            with self.assertQuick(2):
                self.assertSame(pack_place(teller, book, some), need(teller, book, 300) - 1)
        self.assertGreaterEqual(tried, 3)
