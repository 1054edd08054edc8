"""[B3] and [B4]: which deeds there are, which can be done, and the row behind them."""

import itertools
import random

from endkeepers.errors import BadRun, Refused, TooMany
from endkeepers.moving import after, deed_error, deeds_of, led, open_deeds

from tests.helping import (
    ALL_ENDS, BARE, BOOKS, NO_TUPLES, QUEUE, UNDOING, WINDOW, WORDS, Case, drawn_run, rows_in_order, slow_after,
)

PUTTING = ("put left", "put right", "slide")
TAKING = ("slide", "take left", "take right")
NO_LETTERS = (
    True, False, -1, 10 ** 400, -10 ** 400, None, "", "0", "1", (), (0,), [], [0], {}, {0: 0}, ("put left", 0),
)
# Values that are no tuple of a word and as many items as it takes.
NO_DEEDS = NO_TUPLES + WORDS + (
    (), ("put left",), ("put right",), ("slide",), ("put left", 0, 0), ("put right", 0, 1), ("slide", 0, None),
    ("take left", 0), ("take right", 0), ("take left", None), ("take right", ()), ("take left", "take right"),
    ("take left",) * 3, ("jump",), ("jump", 0), ("put", 0), ("take",), ("", 0), ("put left 0",), ("Put left", 0),
    ("put left ", 0), (None,), (None, 0), (0, "put left"), (True,), ((), 0), (("put left", 0),), ((("take left",),),),
    (["put left"], 0), ({}, 0), (0,), (0, 1), (0, 1, 2), ["put left", 0], ["take left"], [("take left",)],
    {"put left": 0}, "put left 0",
)


def all_deeds(many):
    """All deeds with letters of many kinds, in no order."""
    return [("take right",), ("take left",)] + [(word, letter) for letter in range(many) for word in PUTTING]


def slow_deed_error(book, many, row, value):
    """Of a tuple of a word and as many items as it takes: what is wrong, by going through all deeds."""
    same = [deed for deed in all_deeds(many) if repr(deed) == repr(value)]
    if not same:
        return "letter"
    if value[0] not in book:
        return "book"
    return "empty" if row == () and value[0] in TAKING else None


class TestDeedsOf(Case):
    def test_example(self):
        self.assertSame(deeds_of(QUEUE, 2), (("put right", 0), ("put right", 1), ("take left",)))
        self.assertSame(deeds_of((), 3), ())

    def test_all_books(self):
        for book in BOOKS:
            for many in (1, 2, 3):
                with self.subTest(book=book, many=many):
                    wanted = sorted(deed for deed in all_deeds(many) if deed[0] in book)
                    self.assertSame(deeds_of(book, many), tuple(wanted))

    def test_each_word(self):
        self.assertSame(deeds_of(WINDOW, 3), (("slide", 0), ("slide", 1), ("slide", 2)))
        self.assertSame(deeds_of(("put left",), 1), (("put left", 0),))
        self.assertSame(
            deeds_of(ALL_ENDS, 2),
            (("put left", 0), ("put left", 1), ("put right", 0), ("put right", 1), ("take left",), ("take right",)),
        )
        self.assertSame(deeds_of(BARE, 3), (("take left",), ("take right",)))


class TestDeedError(Case):
    def test_example(self):
        values = (
            ("put right", 1), ("put right", 2), ("put right", True), ("put right",), ["put right", 1], ("take left",),
            ("take right",), ("take right", 0), ("slide", 2), ("slide", 0), "take left",
        )
        self.assertSame(
            [deed_error(QUEUE, 2, (), value) for value in values],
            [None, "letter", "letter", "form", "form", "empty", "book", "form", "letter", "book", "form"],
        )

    def test_form(self):
        for value in NO_DEEDS:
            for book, row in ((ALL_ENDS, (0,)), (ALL_ENDS, ()), ((), ()), (WINDOW, ()), (WINDOW, (0,))):
                with self.subTest(value=value, book=book, row=row):
                    self.assertSame(deed_error(book, 2, row, value), "form")

    def test_form_is_ahead_of_letter_and_book(self):
        self.assertSame(deed_error((), 1, (), ("put left", 7, 7)), "form")
        self.assertSame(deed_error((), 1, (), ("take left", 7)), "form")

    def test_letter(self):
        for many in (1, 2, 3):
            for word in PUTTING:
                for letter in NO_LETTERS + (many, many + 1):
                    for book in (ALL_ENDS, WINDOW, (), BARE):
                        with self.subTest(many=many, word=word, letter=letter, book=book):
                            # It is ahead of "book" and of "empty".
                            self.assertSame(deed_error(book, many, (), (word, letter)), "letter")
                            self.assertSame(deed_error(book, many, (0,), (word, letter)), "letter")

    def test_letters_of_so_many_kinds(self):
        for many in (1, 2, 3):
            for letter in range(5):
                with self.subTest(many=many, letter=letter):
                    wanted = None if letter < many else "letter"
                    self.assertSame(deed_error(("put left",), many, (), ("put left", letter)), wanted)
                    self.assertSame(deed_error(("put right",), many, (), ("put right", letter)), wanted)
                    self.assertSame(deed_error(WINDOW, many, (0,), ("slide", letter)), wanted)

    def test_book_is_ahead_of_empty(self):
        for word in TAKING:
            deed = (word, 0) if word == "slide" else (word,)
            for book in BOOKS:
                with self.subTest(word=word, book=book):
                    self.assertSame(deed_error(book, 2, (), deed), "empty" if word in book else "book")
                    self.assertSame(deed_error(book, 2, (1,), deed), None if word in book else "book")

    def test_puts_at_the_empty_row(self):
        for word in ("put left", "put right"):
            for book in BOOKS:
                with self.subTest(word=word, book=book):
                    self.assertSame(deed_error(book, 2, (), (word, 1)), None if word in book else "book")

    def test_all_books_kinds_and_deeds(self):
        values = [(word,) for word in ("take left", "take right")]
        values += [(word, letter) for word in PUTTING for letter in (0, 1, 2, 3, -1, True, None)]
        for book in BOOKS:
            for many in (1, 2, 3):
                for row in ((), (0,), (0, 0), (many - 1,) * 40, (0,) * 240):
                    for value in values:
                        self.assertSame(deed_error(book, many, row, value), slow_deed_error(book, many, row, value))


class TestOpenDeeds(Case):
    def test_example(self):
        self.assertSame(open_deeds(QUEUE, 1, ()), (("put right", 0),))
        self.assertSame(open_deeds(QUEUE, 1, (0,)), (("put right", 0), ("take left",)))
        self.assertSame(open_deeds(WINDOW, 2, ()), ())
        self.assertSame(open_deeds(WINDOW, 2, (1,)), (("slide", 0), ("slide", 1)))

    def test_all_books(self):
        for book in BOOKS:
            for many in (1, 2, 3):
                with self.subTest(book=book, many=many):
                    allowed = sorted(deed for deed in all_deeds(many) if deed[0] in book)
                    puts = tuple(deed for deed in allowed if deed[0] in ("put left", "put right"))
                    self.assertSame(open_deeds(book, many, ()), puts)
                    for row in ((0,), (many - 1, 0), (0,) * 40, (0,) * 240):
                        self.assertSame(open_deeds(book, many, row), tuple(allowed))


class TestAfter(Case):
    def test_example(self):
        self.assertSame(after(QUEUE, 2, (0, 1), ("put right", 0)), (0, 1, 0))
        self.assertSame(after(QUEUE, 2, (0, 1), ("take left",)), (1,))
        self.assertSame(after(WINDOW, 2, (0, 1), ("slide", 1)), (1, 1))
        self.assertSame(after(("put left", "take right"), 3, (0, 1), ("put left", 2)), (2, 0, 1))
        self.assertSame(after(BARE, 3, (0, 1), ("take right",)), (0,))
        self.assertRaised(Refused, {"word": "book"}, after, QUEUE, 2, (0, 1), ("take right",))

    def test_each_deed_at_the_empty_row(self):
        for letter in (0, 1, 2):
            self.assertSame(after(ALL_ENDS, 3, (), ("put left", letter)), (letter,))
            self.assertSame(after(ALL_ENDS, 3, (), ("put right", letter)), (letter,))
            self.assertRaised(Refused, {"word": "empty"}, after, WINDOW, 3, (), ("slide", letter))
        self.assertRaised(Refused, {"word": "empty"}, after, ALL_ENDS, 3, (), ("take left",))
        self.assertRaised(Refused, {"word": "empty"}, after, ALL_ENDS, 3, (), ("take right",))

    def test_each_deed_at_one_letter(self):
        self.assertSame(after(ALL_ENDS, 3, (1,), ("put left", 2)), (2, 1))
        self.assertSame(after(ALL_ENDS, 3, (1,), ("put right", 2)), (1, 2))
        self.assertSame(after(ALL_ENDS, 3, (1,), ("take left",)), ())
        self.assertSame(after(ALL_ENDS, 3, (1,), ("take right",)), ())
        self.assertSame(after(WINDOW, 3, (1,), ("slide", 2)), (2,))

    def test_each_deed_at_longer_rows(self):
        for many in (1, 2, 3):
            for row in rows_in_order(many, 4):
                for book in BOOKS:
                    for deed in all_deeds(many):
                        if deed[0] not in book:
                            self.assertRaised(Refused, {"word": "book"}, after, book, many, row, deed)
                        elif row == () and deed[0] in TAKING:
                            self.assertRaised(Refused, {"word": "empty"}, after, book, many, row, deed)
                        else:
                            self.assertSame(after(book, many, row, deed), slow_after(row, deed))

    def test_rows_of_40_letters_and_more(self):
        for length in (39, 40, 41, 100, 239, 240):
            row = tuple(place % 3 for place in range(length))
            with self.subTest(length=length):
                for deed in (("put left", 1), ("put right", 1), ("take left",), ("take right",)):
                    self.assertSame(after(ALL_ENDS, 3, row, deed), slow_after(row, deed))
                self.assertSame(after(WINDOW, 3, row, ("slide", 1)), slow_after(row, ("slide", 1)))

    def test_refused_with_each_word(self):
        for value in NO_DEEDS:
            with self.subTest(value=value):
                self.assertRaised(Refused, {"word": "form"}, after, ALL_ENDS, 2, (0,), value)
        for letter in NO_LETTERS + (2,):
            with self.subTest(letter=letter):
                self.assertRaised(Refused, {"word": "letter"}, after, ALL_ENDS, 2, (0,), ("put left", letter))
                self.assertRaised(Refused, {"word": "letter"}, after, ALL_ENDS, 2, (0,), ("slide", letter))
        self.assertRaised(Refused, {"word": "book"}, after, ALL_ENDS, 2, (), ("slide", 0))
        self.assertRaised(Refused, {"word": "book"}, after, (), 2, (0,), ("take left",))
        self.assertRaised(Refused, {"word": "book"}, after, WINDOW, 2, (0,), ("put right", 0))
        self.assertRaised(Refused, {"word": "empty"}, after, QUEUE, 2, (), ("take left",))


class TestLed(Case):
    def test_example(self):
        self.assertSame(led(QUEUE, 2, (0, 1), (("take left",), ("put right", 0), ("take left",))), (0,))
        self.assertSame(led(QUEUE, 2, (0, 1), ()), (0, 1))
        self.assertRaised(BadRun, {"place": 1}, led, QUEUE, 2, (0,), (("take left",), ("take left",), ("jump",)))
        self.assertRaised(TooMany, {"limit": 200}, led, QUEUE, 2, (0,), (("put right", 0),) * 201)

    def test_no_deeds(self):
        for book in BOOKS:
            for row in ((), (0,), (1, 0, 1), (1,) * 40):
                with self.subTest(book=book, row=row):
                    self.assertSame(led(book, 2, row, ()), row)

    def test_199_200_and_201_deeds(self):
        for many in (199, 200):
            self.assertSame(led(QUEUE, 2, (0,), (("put right", 1),) * many), (0,) + (1,) * many)
            self.assertSame(led(WINDOW, 3, (0, 1), (("slide", 2),) * many), (2, 2))
            with self.subTest(many=many):
                deeds = (("put right", 1),) * (many - 1) + (None,)
                self.assertRaised(BadRun, {"place": many - 1}, led, QUEUE, 2, (), deeds)
        for many in (201, 202, 1000):
            for value in (("put right", 1), ("take left",), ("jump",), None, 0, "take left"):
                with self.subTest(many=many, value=value):
                    self.assertRaised(TooMany, {"limit": 200}, led, QUEUE, 2, (0,), (value,) * many)
                    self.assertRaised(TooMany, {"limit": 200}, led, (), 2, (), (value,) * many)

    def test_rows_that_grow_past_40_letters(self):
        row = tuple(place % 3 for place in range(40))
        self.assertSame(led(ALL_ENDS, 3, row, (("put right", 2),) * 200), row + (2,) * 200)
        self.assertSame(led(ALL_ENDS, 3, row, (("put left", 2),) * 200), (2,) * 200 + row)
        deeds = tuple(("put left" if place % 2 else "put right", place % 3) for place in range(200))
        longest = led(ALL_ENDS, 3, row, deeds)
        self.assertSame(len(longest), 240)
        self.assertSame(longest[100:140], row)
        self.assertSame(longest[140:], tuple(place % 3 for place in range(0, 200, 2)))
        self.assertSame(longest[:100], tuple(place % 3 for place in range(199, 0, -2)))

    def test_rows_that_come_to_an_end(self):
        for many in (1, 2, 40):
            for word in ("take left", "take right"):
                with self.subTest(many=many, word=word):
                    self.assertSame(led(BARE, 2, (1,) * many, ((word,),) * many), ())
                    self.assertRaised(BadRun, {"place": many}, led, BARE, 2, (1,) * many, ((word,),) * (many + 1))
        # What is not open at first may be open behind a put.
        put, take = ("put right", 1), ("take right",)
        self.assertSame(led(UNDOING, 2, (), (put, take, ("put right", 0))), (0,))
        self.assertRaised(BadRun, {"place": 0}, led, UNDOING, 2, (), (take, put))
        self.assertRaised(BadRun, {"place": 2}, led, UNDOING, 2, (), (put, take, take))

    def test_the_first_place_that_cannot_be_done(self):
        good = (("put right", 1), ("take left",)) * 10
        not_done = (("put left", 0), ("take right",), ("slide", 0), ("put right", 2), ("put right", True))
        for wrong in NO_DEEDS + not_done:
            for place in (0, 1, 7, 19):
                deeds = good[:place] + (wrong,) + good[place + 1:]
                with self.subTest(wrong=wrong, place=place):
                    self.assertRaised(BadRun, {"place": place}, led, QUEUE, 2, (0,), deeds)
                    self.assertRaised(BadRun, {"place": place}, led, QUEUE, 2, (0,), deeds[:place] + (wrong,) * 3)

    def test_all_runs_of_three_deeds(self):
        for book in BOOKS:
            for row in rows_in_order(2, 2):
                for deeds in itertools.product(deeds_of(book, 2), repeat=3):
                    here, place = row, 0
                    while place < 3 and (here != () or deeds[place][0] in ("put left", "put right")):
                        here, place = slow_after(here, deeds[place]), place + 1
                    if place < 3:
                        self.assertRaised(BadRun, {"place": place}, led, book, 2, row, deeds)
                    else:
                        self.assertSame(led(book, 2, row, deeds), here)

    def test_it_is_after_one_behind_another(self):
        draw = random.Random(93)
        for _ in range(300):
            book, many = draw.choice(BOOKS), draw.randint(1, 3)
            row, deeds = drawn_run(draw, book, many, 10, 60)
            here = row
            for deed in deeds:
                here = after(book, many, here, deed)
            self.assertSame(led(book, many, row, deeds), here)
