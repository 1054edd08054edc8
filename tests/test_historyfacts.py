"""[D5]: what holds of histories and partings."""

import random

from endkeepers.books import mirrored_book
from endkeepers.errors import TooMany
from endkeepers.histories import history, told_apart
from endkeepers.joining import mirrored
from endkeepers.moving import after, open_deeds
from endkeepers.partings import parting
from endkeepers.tellers import kinds, told

from tests.helping import (
    QUEUE, TOLD_BOOKS, WINDOW, Case, drawn_tellers, rows_in_order, slow_class,
)


def drawn_rows(draw, many, longest):
    """Two drawn rows of one length, often with the same letters in most places."""
    length = draw.randint(0, longest)
    one = tuple(draw.randrange(many) for _ in range(length))
    return one, tuple(letter if draw.random() < 0.7 else draw.randrange(many) for letter in one)


def cases(seed, times, longest, states=4, greatest=2):
    """Drawn tellers, each with two drawn rows of one length."""
    draw = random.Random(seed)
    for teller in drawn_tellers(seed + 1000, times, states, 3, greatest):
        one, other = drawn_rows(draw, kinds(teller), longest)
        yield teller, one, other


def pieces_left(book, row):
    """The pieces of a row that the takes of a book can leave."""
    firsts = range(len(row) + 1) if "take left" in book else (0,)
    lasts = range(len(row) + 1) if "take right" in book else (len(row),)
    return [row[first:last] for first in firsts for last in lasts if first <= last]


class TestHistoryFacts(Case):
    def test_parting_is_none_exactly_if_not_told_apart(self):
        answers = set()
        for teller, one, other in cases(360, 200, 8):
            for book in TOLD_BOOKS:
                apart = told_apart(teller, book, one, other)
                self.assertEqual(parting(teller, book, one, other) is not None, apart)
                self.assertEqual(history(teller, book, one) != history(teller, book, other), apart)
                answers.add(apart)
        self.assertEqual(answers, {True, False})

    def test_like_rows_are_told_alike_and_stay_alike(self):
        like = 0
        for teller, one, other in cases(361, 200, 6):
            many = kinds(teller)
            for book in TOLD_BOOKS:
                if history(teller, book, one) == history(teller, book, other):
                    like += one != other
                    self.assertSame(told(teller, one), told(teller, other))
                    for deed in open_deeds(book, many, one):
                        self.assertSame(
                            history(teller, book, after(book, many, one, deed)),
                            history(teller, book, after(book, many, other, deed)),
                        )
        self.assertGreater(like, 100)

    def test_same_history_exactly_if_pieces_have_the_same_classes(self):
        answers = set()
        for teller, one, other in cases(362, 200, 6):
            for book in TOLD_BOOKS:
                if book != WINDOW:
                    same = [slow_class(teller, book, piece) for piece in pieces_left(book, one)] == [
                        slow_class(teller, book, piece) for piece in pieces_left(book, other)
                    ]
                    self.assertEqual(history(teller, book, one) == history(teller, book, other), same)
                    answers.add(same)
        self.assertEqual(answers, {True, False})

    def test_more_deeds_tell_no_less_apart(self):
        for teller, one, other in cases(363, 150, 7):
            apart = {book: told_apart(teller, book, one, other) for book in TOLD_BOOKS}
            for book in TOLD_BOOKS:
                for more in TOLD_BOOKS:
                    if set(book) <= set(more):
                        self.assertLessEqual(apart[book], apart[more])
            self.assertLessEqual(apart[WINDOW], apart[QUEUE])

    def test_mirrored(self):
        answers = set()
        for teller, one, other in cases(364, 200, 7, 4, 1):
            try:
                turned = mirrored(teller)
            except TooMany:
                continue
            for book in TOLD_BOOKS:
                if book != WINDOW:
                    apart = told_apart(teller, book, one, other)
                    self.assertSame(told_apart(turned, mirrored_book(book), one[::-1], other[::-1]), apart)
                    answers.add(apart)
        self.assertEqual(answers, {True, False})

    def test_histories_of_rows_of_one_length_have_as_many_items(self):
        for teller, one, other in cases(365, 60, 12):
            for book in TOLD_BOOKS:
                self.assertEqual(len(history(teller, book, one)), len(history(teller, book, other)))

    def test_same_history_is_a_matter_of_all_short_rows(self):
        # Told apart is no matter of order, and like rows of like rows are alike.
        for teller in drawn_tellers(366, 25, 3, 2, 1):
            rows = [row for row in rows_in_order(kinds(teller), 3) if len(row) == 3]
            for book in TOLD_BOOKS:
                lots = {}
                for row in rows:
                    lots.setdefault(history(teller, book, row), []).append(row)
                for one in rows:
                    for other in rows:
                        together = any(one in lot and other in lot for lot in lots.values())
                        self.assertSame(told_apart(teller, book, one, other), not together)
