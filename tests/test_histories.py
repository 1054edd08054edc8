"""[D1] to [D3]: histories, and which rows deeds can tell apart."""

import random

from endkeepers.classes import agreement, state_of
from endkeepers.errors import Unfit
from endkeepers.histories import history, told_apart
from endkeepers.tellers import kinds

from tests.helping import (
    ALL_ENDS, BARE, FOLLOWING, HOLDING, QUEUE, TOLD_BOOKS, UNDOING, WINDOW, Case, chain, drawn_row, drawn_teller,
    drawn_tellers, long_turning, rows_in_order, slow_history, slow_partings,
)

BOTH_TAKES_RIGHT = ("put right", "take left", "take right")
BOTH_TAKES_LEFT = ("put left", "take left", "take right")


class TestHistory(Case):
    def test_examples(self):
        books = (("put right",), UNDOING, QUEUE, ("take left",), WINDOW)
        self.assertSame(
            [history(FOLLOWING, book, (1, 0, 1)) for book in books],
            [(2,), (0, 0, 1, 2), (0, 0, 2, 2), (0, 0, 1, 1), (0, 0, 2, 2)],
        )
        self.assertSame(
            history(FOLLOWING, ("put left", "take right"), (1, 0, 1)), ((0, 0, 1), (0, 1, 1), (0, 1, 1), (1, 1, 1)),
        )
        self.assertSame(history(FOLLOWING, BOTH_TAKES_RIGHT, (1, 0, 1)), ((0,), (0,), (1,), (0, 2)))
        self.assertSame(history(FOLLOWING, ALL_ENDS, (1, 0, 1)), ((), (0, 2, 2), (1, 1, 2), (0, 2, 2)))
        self.assertRaised(Unfit, {}, history, FOLLOWING, BARE, (1, 0, 1))

    def test_the_bare_book(self):
        for row in ((), (0,), (1, 0) * 50):
            self.assertRaised(Unfit, {}, history, FOLLOWING, BARE, row)
            self.assertRaised(Unfit, {}, history, chain(1, 2), BARE, row)

    def test_the_empty_row(self):
        wanted = {
            (): (0,), ("put right",): (0,), ("put left",): ((0, 1),), ("put left", "put right"): ((0, 1),),
            ("take right",): (0,), UNDOING: (0,), ("put left", "take right"): ((0, 1),),
            ("put left", "put right", "take right"): ((0, 1),), ("take left",): (0,), QUEUE: (0,),
            ("put left", "take left"): ((0, 1),), ("put left", "put right", "take left"): ((0, 1),),
            BOTH_TAKES_RIGHT: ((0,),), BOTH_TAKES_LEFT: (((0, 1),),), ALL_ENDS: ((),), WINDOW: (0,),
        }
        self.assertEqual(set(wanted), set(TOLD_BOOKS))
        for book, items in wanted.items():
            with self.subTest(book=book):
                self.assertSame(history(HOLDING, book, ()), items)

    def test_each_line_of_the_table_beside_pieces(self):
        draw = random.Random(320)
        for teller in drawn_tellers(321, 60, 4, 3, 2):
            for book in TOLD_BOOKS:
                longest = 9 if book != WINDOW or kinds(teller) == 1 else 5
                for length in (0, 1, 2, draw.randint(3, longest), longest):
                    row = drawn_row(draw, kinds(teller), length)
                    with self.subTest(teller=teller, book=book, row=row):
                        self.assertSame(history(teller, book, row), slow_history(teller, book, row))

    def test_larger_tellers_beside_pieces(self):
        draw = random.Random(322)
        for states in (12, 24):
            for many in (1, 2, 3):
                teller = drawn_teller(draw, states, many, 3)
                for book in TOLD_BOOKS:
                    if book != WINDOW:
                        row = drawn_row(draw, many, 9)
                        self.assertSame(history(teller, book, row), slow_history(teller, book, row))

    def test_40_and_100_letters(self):
        draw = random.Random(323)
        for teller in drawn_tellers(324, 3, 5, 3, 2):
            for length in (40, 100):
                row = drawn_row(draw, kinds(teller), length)
                for book in TOLD_BOOKS:
                    found = history(teller, book, row)
                    if book != WINDOW:
                        if length == 40 or not {"take left", "take right"} <= set(book):
                            self.assertSame(found, slow_history(teller, book, row))
                        takes = {"take left", "take right"} & set(book)
                        self.assertEqual(len(found), length + 1 if takes else 1)

    def test_long_windows(self):
        draw = random.Random(325)
        for teller in [long_turning(12)] + list(drawn_tellers(326, 6, 24, 3, 2)):
            for length in (40, 100):
                row = drawn_row(draw, kinds(teller), length)
                wanted = tuple(
                    agreement(teller, k)[state_of(teller, row[k:])] for k in range(length, -1, -1)
                )
                self.assertSame(history(teller, WINDOW, row), wanted)

    def test_classes_that_come_in_by_and_by(self):
        # A piece's classes stand by their order, not as they came: behind 0 0 the pieces are 0 0, 0 and ().
        counting = (((1, 0), (2, 1), (3, 2), (3, 3)), (0, 1, 2, 3))
        self.assertSame(
            history(counting, BOTH_TAKES_RIGHT, (0, 0, 0, 1)), ((0,), (1,), (1, 2), (1, 2, 3), (0, 1, 2, 3)),
        )
        self.assertSame(
            history(counting, BOTH_TAKES_LEFT, (1, 0)),
            (((0, 1, 2, 3),), ((1, 2, 3, 3),), ((0, 1, 2, 3), (1, 2, 3, 3))),
        )


class TestToldApart(Case):
    def test_examples(self):
        rows = (((0, 1), (1, 0)), ((0, 0), (1, 0)), ((1, 0, 0), (0, 0, 0)))
        self.assertSame([told_apart(FOLLOWING, QUEUE, one, other) for one, other in rows], [True, False, False])
        rows = (((0,), (1,)), ((0, 0), (1, 0)), ((0, 1), (1, 1)))
        self.assertSame([told_apart(FOLLOWING, WINDOW, one, other) for one, other in rows], [False, False, True])
        self.assertRaised(Unfit, {}, told_apart, FOLLOWING, QUEUE, (0,), (0, 1))

    def test_unlike_lengths_and_the_bare_book(self):
        for book in TOLD_BOOKS:
            self.assertRaised(Unfit, {}, told_apart, FOLLOWING, book, (), (0,))
            self.assertRaised(Unfit, {}, told_apart, FOLLOWING, book, (1,) * 40, (1,) * 39)
        for one, other in (((), ()), ((0,), (1,)), ((0,), (0, 1))):
            self.assertRaised(Unfit, {}, told_apart, FOLLOWING, BARE, one, other)

    def test_a_row_and_itself(self):
        for book in TOLD_BOOKS:
            for row in ((), (0,), (1, 0) * 20, (0, 1) * 50):
                self.assertSame(told_apart(FOLLOWING, book, row, row), False)

    def test_beside_all_deeds(self):
        draw = random.Random(327)
        found = {}
        for teller in drawn_tellers(328, 25, 3, 2, 2):
            rows = [row for row in rows_in_order(kinds(teller), 3) if row]
            for book in TOLD_BOOKS:
                for _ in range(4):
                    one = draw.choice(rows)
                    other = draw.choice([row for row in rows if len(row) == len(one)])
                    # The fewest deeds are at most as many as the letters and twice the states together.
                    most = len(one) + 2 * len(teller[0])
                    apart = slow_partings(teller, book, one, other, most) is not None
                    with self.subTest(teller=teller, book=book, one=one, other=other):
                        self.assertSame(told_apart(teller, book, one, other), apart)
                    found.setdefault(book, set()).add(apart)
        # Each book has rows that are told apart, and such that are not.
        self.assertEqual({book: len(both) for book, both in found.items()}, {book: 2 for book in TOLD_BOOKS})

    def test_all_rows_of_three_letters_beside_all_deeds(self):
        for teller in (FOLLOWING, (((1, 0), (0, 1)), (0, 1))):
            for book in TOLD_BOOKS:
                for one in rows_in_order(2, 3):
                    for other in rows_in_order(2, 3):
                        if len(one) == len(other) and one < other:
                            apart = slow_partings(teller, book, one, other, len(one) + 4) is not None
                            self.assertSame(told_apart(teller, book, one, other), apart)

    def test_100_letters(self):
        one, other = (0,) + (1,) * 99, (1,) * 100
        self.assertSame(told_apart(FOLLOWING, ALL_ENDS, one, other), True)
        self.assertSame(told_apart(FOLLOWING, QUEUE, (1,) * 99 + (0,), other), True)
        self.assertSame(told_apart(FOLLOWING, ("put right",), (0, 1) + one[2:], (1, 0) + one[2:]), False)
        self.assertSame(told_apart(FOLLOWING, WINDOW, (1,) * 99 + (0,), other), True)
        self.assertSame(told_apart(HOLDING, WINDOW, (1,) * 100, other), False)


class TestTimes(Case):
    def test_the_edges(self):
        draw = random.Random(329)
        for many in (1, 2, 3):
            teller = drawn_teller(draw, 24, many, 99)
            one, other = drawn_row(draw, many, 100), drawn_row(draw, many, 100)
            for book in TOLD_BOOKS:
                with self.assertQuick(2):
                    told_apart(teller, book, one, other)
