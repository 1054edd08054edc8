"""[B6]: what holds of rows behind deeds."""

import random

from endkeepers.books import mirrored_book
from endkeepers.moving import after, led, open_deeds
from endkeepers.runtexts import read_run, run_text

from tests.helping import BOOKS, QUEUE, WINDOW, Case, drawn_run, rows_in_order

TURNED = {"put left": "put right", "put right": "put left", "take left": "take right", "take right": "take left"}


def drawn_runs(seed, times, books=BOOKS, longest=12, most=60):
    """Books, numbers of kinds, rows and deeds that can be done to them."""
    draw = random.Random(seed)
    for _ in range(times):
        book, many = draw.choice(books), draw.randint(1, 3)
        row, deeds = drawn_run(draw, book, many, longest, most)
        yield book, many, row, deeds


def marked_behind(row, deeds):
    """The letters behind the deeds, each with where it comes from: its place in the row, or its end."""
    letters = [(letter, place) for place, letter in enumerate(row)]
    for word, *rest in deeds:
        if word in ("slide", "take left"):
            letters = letters[1:]
        elif word == "take right":
            letters = letters[:-1]
        if word == "put left":
            letters = [(rest[0], "left")] + letters
        elif word in ("put right", "slide"):
            letters = letters + [(rest[0], "right")]
    return letters


def length_behind(length, words):
    """How long a row is behind deeds of these words."""
    return length + sum({"put": 1, "take": -1, "slide": 0}[word.split()[0]] for word in words)


def otherwise(draw, many, deeds):
    """Deeds of the same words with drawn letters."""
    return tuple(deed[:1] + tuple(draw.randrange(many) for _ in deed[1:]) for deed in deeds)


class TestDeedFacts(Case):
    def test_what_is_left_is_a_piece_with_letters_put_around(self):
        ends = [book for book in BOOKS if book != WINDOW]
        for book, many, row, deeds in drawn_runs(100, 600, ends):
            letters = marked_behind(row, deeds)
            found = led(book, many, row, deeds)
            self.assertSame(found, tuple(letter for letter, _ in letters))
            places = [mark for _, mark in letters]
            x = [mark for mark in places if mark == "left"]
            y = [mark for mark in places if mark == "right"]
            p = places[len(x):len(places) - len(y)]
            self.assertEqual(places, x + p + y)
            self.assertEqual(p, list(range(p[0], p[0] + len(p))) if p else [])
            first = p[0] if p else 0
            self.assertSame(found[len(x):len(places) - len(y)], row[first:first + len(p)])

    def test_slides(self):
        draw = random.Random(101)
        for many in (1, 2, 3):
            for length in (1, 2, 3, 10, 40):
                for times in {0, 1, 2, length // 2, length - 1, length}:
                    if times <= length:
                        row = tuple(draw.randrange(many) for _ in range(length))
                        behind = tuple(draw.randrange(many) for _ in range(times))
                        deeds = tuple(("slide", letter) for letter in behind)
                        self.assertSame(led(WINDOW, many, row, deeds), row[times:] + behind)

    def test_the_length_hangs_on_length_and_words(self):
        for book, many, row, deeds in drawn_runs(102, 400):
            words = [deed[0] for deed in deeds]
            for k in (0, len(deeds) // 2, len(deeds)):
                self.assertSame(len(led(book, many, row, deeds[:k])), length_behind(len(row), words[:k]))

    def test_rows_of_one_length_can_be_done_the_same_to(self):
        draw = random.Random(103)
        for book, many, row, deeds in drawn_runs(104, 400):
            other = tuple(draw.randrange(many) for _ in row)
            same_words = otherwise(draw, many, deeds)
            for k in {0, 1, len(deeds) // 2, len(deeds)}:
                one, two = led(book, many, row, deeds[:k]), led(book, many, other, same_words[:k])
                self.assertSame(len(one), len(two))
                self.assertSame(open_deeds(book, many, one), open_deeds(book, many, two))

    def test_mirrored_deeds(self):
        ends = [book for book in BOOKS if book != WINDOW]
        for book, many, row, deeds in drawn_runs(105, 400, ends):
            turned = tuple((TURNED[deed[0]],) + deed[1:] for deed in deeds)
            self.assertSame(
                led(mirrored_book(book), many, row[::-1], turned), led(book, many, row, deeds)[::-1],
            )

    def test_a_slide_is_a_put_at_the_right_and_a_take_at_the_left(self):
        for many in (1, 2, 3):
            for row in rows_in_order(many, 5):
                for letter in range(many):
                    if row:
                        slid = after(WINDOW, many, row, ("slide", letter))
                        self.assertSame(led(QUEUE, many, row, (("put right", letter), ("take left",))), slid)
                        self.assertSame(led(QUEUE, many, row, (("take left",), ("put right", letter))), slid)

    def test_runs_are_read_back(self):
        for _, _, row, deeds in drawn_runs(106, 300, longest=40, most=200):
            self.assertSame(read_run(run_text(row, deeds)), (row, deeds))
