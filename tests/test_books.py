"""[B1] and [B2]: what is a book, all of them, and which is which."""

import itertools

from endkeepers.books import all_books, book_error, is_bare, mirrored_book
from endkeepers.errors import Unfit

from tests.helping import BARE, BOOKS, FOLLOWING, NO_TUPLES, QUEUE, UNDOING, WINDOW, WORDS, Case

NO_WORDS = (
    "", " ", "put", "take", "left", "put_left", "Put left", "PUT LEFT", "put  left", " put left", "put left ",
    "put left\n", "put left 0", "slides", "Slide", "slid", "take", "take left, take right", "none", "jump", None,
    True, False, 0, 1, -1, 10 ** 400, (), ("put left",), ["slide"], {"slide": 0}, {}, [], ("put left", 0), FOLLOWING,
)
# Left and right in each other's place, written out.
MIRRORED = {
    (): (),
    ("put left",): ("put right",),
    ("put left", "put right"): ("put left", "put right"),
    ("put left", "put right", "take left"): ("put left", "put right", "take right"),
    ("put left", "put right", "take left", "take right"): ("put left", "put right", "take left", "take right"),
    ("put left", "take left"): ("put right", "take right"),
    ("put left", "take left", "take right"): ("put right", "take left", "take right"),
    ("put left", "take right"): ("put right", "take left"),
    ("take left",): ("take right",),
    ("take left", "take right"): ("take left", "take right"),
}


def slow_book_error(words):
    """What is wrong with a tuple of words of the five."""
    if list(words) != sorted(set(words)):
        return "order"
    return "slide" if "slide" in words and words != ("slide",) else None


class TestBookError(Case):
    def test_example(self):
        values = (
            UNDOING, (), WINDOW, list(UNDOING), "slide", ("take right", "put right"), ("put", "put"),
            ("put left", "put left"), ("put left", "slide"),
        )
        self.assertSame(
            [book_error(value) for value in values],
            [None, None, None, "form", "form", "order", ("word", 0), "order", "slide"],
        )

    def test_form(self):
        for value in NO_TUPLES + WORDS + ("none", "put left, put right", list(QUEUE), [], {"slide": 1}):
            with self.subTest(value=value):
                self.assertSame(book_error(value), "form")

    def test_first_item_that_is_no_word(self):
        for wrong in NO_WORDS:
            for place in range(5):
                words = list(WORDS)
                words[place] = wrong
                with self.subTest(wrong=wrong, place=place):
                    self.assertSame(book_error(tuple(words)), ("word", place))
                    self.assertSame(book_error(tuple(words[:place] + [wrong] * 4)), ("word", place))
                    self.assertSame(book_error(tuple(words[:place] + [wrong])), ("word", place))

    def test_word_is_ahead_of_order(self):
        self.assertSame(book_error(("take right", "put")), ("word", 1))
        self.assertSame(book_error(("take right", "put left", "slide", "jump")), ("word", 3))
        self.assertSame(book_error(("put left", "put left", None)), ("word", 2))
        self.assertSame(book_error(("slide", "zoom")), ("word", 1))
        self.assertSame(book_error(("put left", "slide", True)), ("word", 2))
        self.assertSame(book_error(("slide",) * 100 + (0,)), ("word", 100))

    def test_order_is_ahead_of_slide(self):
        for value in (
            ("slide", "slide"), ("slide", "put left"), ("take left", "slide"), ("put left", "slide", "put right"),
            ("put left", "slide", "slide"), ("put left", "slide", "take left", "take left"),
            ("take right", "put left", "slide"), ("slide",) * 50,
        ):
            with self.subTest(value=value):
                self.assertSame(book_error(value), "order")

    def test_slide(self):
        for value in (
            ("put left", "slide"), ("put right", "slide"), ("slide", "take left"), ("slide", "take right"), WORDS,
            ("put left", "slide", "take right"),
        ):
            with self.subTest(value=value):
                self.assertSame(book_error(value), "slide")

    def test_all_tuples_of_words(self):
        found = []
        for length in range(6):
            for words in itertools.product(WORDS, repeat=length):
                self.assertSame(book_error(words), slow_book_error(words))
                if book_error(words) is None:
                    found.append(words)
        self.assertSame(sorted(found), list(BOOKS))
        for words in itertools.product(WORDS, repeat=6):
            self.assertIn(book_error(words), ("order",))


class TestAllBooks(Case):
    def test_example(self):
        self.assertSame(len(all_books()), 17)
        self.assertSame(
            all_books()[:4], ((), ("put left",), ("put left", "put right"), ("put left", "put right", "take left")),
        )
        self.assertSame(
            all_books()[12:],
            (("put right", "take right"), ("slide",), ("take left",), ("take left", "take right"), ("take right",)),
        )

    def test_they_are_the_books(self):
        self.assertSame(all_books(), BOOKS)
        self.assertSame(all_books(), tuple(sorted(set(all_books()))))
        self.assertEqual({book_error(book) for book in all_books()}, {None})


class TestIsBare(Case):
    def test_example(self):
        self.assertSame([book for book in all_books() if is_bare(book)], [("take left", "take right")])

    def test_each_book(self):
        for book in BOOKS:
            with self.subTest(book=book):
                self.assertSame(is_bare(book), book == BARE)


class TestMirroredBook(Case):
    def test_example(self):
        self.assertSame(mirrored_book(UNDOING), ("put left", "take left"))
        self.assertSame(mirrored_book(QUEUE), ("put left", "take right"))
        self.assertRaised(Unfit, {}, mirrored_book, WINDOW)

    def test_each_book(self):
        written = list(MIRRORED.items()) + [(other, one) for one, other in MIRRORED.items()]
        self.assertEqual({one for one, _ in written} | {WINDOW}, set(BOOKS))
        for one, other in written:
            with self.subTest(one=one):
                self.assertSame(mirrored_book(one), other)

    def test_twice(self):
        for book in BOOKS:
            if book != WINDOW:
                with self.subTest(book=book):
                    self.assertIsNone(book_error(mirrored_book(book)))
                    self.assertSame(mirrored_book(mirrored_book(book)), book)
