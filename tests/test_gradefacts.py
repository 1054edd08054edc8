"""[F6], and the parts of [M] that it names: what holds of grades, forks and rings."""

import itertools
import random

from endkeepers.amounts import needs
from endkeepers.books import mirrored_book
from endkeepers.classes import letters_alike
from endkeepers.errors import TooMany
from endkeepers.forkpapers import fork, fork_error, fork_least
from endkeepers.grades import books_within, grade, most
from endkeepers.joining import mirrored
from endkeepers.ringpapers import rings, rings_error, rings_least
from endkeepers.tellers import kinds

from tests.helping import RESTING_BOOKS, TAKING_BOOKS, Case, drawn_tellers, rows_in_order

PUTS = ((), ("put left",), ("put right",), ("put left", "put right"))
GRADED = RESTING_BOOKS + TAKING_BOOKS


def grade_of(teller, book):
    """The grade, or "many" where there are too many lots."""
    try:
        return grade(teller, book)
    except TooMany:
        return "many"


def greatest(power):
    """A number for each grade, None counting as the greatest."""
    return 1000 if power is None else power


class TestGradeFacts(Case):
    def test_papers_tell_no_more_than_is_needed(self):
        for teller in drawn_tellers(540, 60, 4, 3, 2):
            for book in TAKING_BOOKS:
                power = grade_of(teller, book)
                if power == "many":
                    continue
                found = needs(teller, book, 60)
                if power is None:
                    self.assertTrue(all(fork_least(fork(teller, book), n) <= found[n] for n in range(61)))
                    self.assertSame(rings(teller, book), None)
                else:
                    self.assertTrue(all(rings_least(rings(teller, book), n) <= found[n] for n in range(61)))
                    self.assertSame(fork(teller, book), None)

    def test_any_paper_tells_no_more_than_the_grade(self):
        draw = random.Random(541)
        forks = papers = 0
        for teller in drawn_tellers(542, 40, 4, 2, 1):
            rows = list(rows_in_order(kinds(teller), 4))
            for book in TAKING_BOOKS:
                power = grade_of(teller, book)
                if power == "many":
                    continue
                found = needs(teller, book, 30)
                for _ in range(25):
                    value = (draw.choice(rows[:4]),) + tuple(draw.choice(rows) for _ in range(2))
                    if fork_error(teller, book, value) is None:
                        forks += 1
                        self.assertSame(power, None)
                        self.assertTrue(all(fork_least(value, n) <= found[n] for n in range(31)))
                    longer = sorted((draw.choice(rows) for _ in range(draw.choice((2, 4, 6)))), key=len)
                    if rings_error(teller, book, tuple(longer)) is None:
                        papers += 1
                        self.assertTrue(power is None or len(longer) // 2 <= power + 1)
                        self.assertTrue(all(rings_least(tuple(longer), n) <= found[n] for n in range(31)))
        self.assertGreater(min(forks, papers), 20)

    def test_bounded_needs_stay_at_most(self):
        for teller in drawn_tellers(543, 100, 5, 3, 2):
            for book in TAKING_BOOKS:
                if grade_of(teller, book) == 0:
                    found = needs(teller, book, 300)
                    self.assertSame(found[300], most(teller, book))
                    self.assertSame(found[250:], (found[300],) * 51)

    def test_which_puts_are_let(self):
        told = set()
        for teller in drawn_tellers(545, 150, 4, 3, 2):
            for take, other in (("take right", "put left"), ("take left", "put right")):
                books = [tuple(sorted(puts + (take,))) for puts in PUTS]
                powers = {book: grade_of(teller, book) for book in books}
                known = [power for power in powers.values() if power != "many"]
                # Bounded by one of the four, bounded by all.
                self.assertLessEqual(len({power == 0 for power in known}), 1)
                for book in books:
                    if other not in book:
                        pair = (powers[book], powers[tuple(sorted(book + (other,)))])
                        if "many" not in pair:
                            # A share with puts at the end that is not taken from, a share without.
                            self.assertEqual(pair[0] is None, pair[1] is None)
                told.update(known)
        self.assertGreaterEqual(told, {None, 0, 1, 2})

    def test_both_takes_and_a_put(self):
        answers = set()
        for teller in drawn_tellers(546, 150, 5, 3, 1):
            alike = len(letters_alike(teller)) == 1
            for puts in PUTS[1:]:
                book = tuple(sorted(puts + ("take left", "take right")))
                power = grade_of(teller, book)
                if power == "many":
                    continue
                answers.add(alike)
                if alike:
                    self.assertSame(power, 0)
                    self.assertSame(needs(teller, book, 40), (1,) * 41)
                else:
                    self.assertSame(power, None)
        self.assertEqual(answers, {True, False})

    def test_mirrored(self):
        told = set()
        for teller in drawn_tellers(547, 120, 4, 3, 1):
            try:
                turned = mirrored(teller)
            except TooMany:
                continue
            for book in GRADED:
                pair = (grade_of(teller, book), grade_of(turned, mirrored_book(book)))
                if "many" not in pair:
                    self.assertSame(*pair)
                    told.add(pair[0])
        self.assertGreaterEqual(told, {None, 0, 1, 2})

    def test_more_deeds_have_no_less_a_grade(self):
        for teller in drawn_tellers(548, 80, 4, 3, 2):
            powers = {book: grade_of(teller, book) for book in GRADED}
            for book, more in itertools.product(GRADED, repeat=2):
                if set(book) <= set(more) and "many" not in (powers[book], powers[more]):
                    self.assertLessEqual(greatest(powers[book]), greatest(powers[more]))

    def test_books_within_grow(self):
        for teller in drawn_tellers(549, 60, 4, 3, 2):
            if "many" in [grade_of(teller, book) for book in TAKING_BOOKS]:
                continue
            before = ()
            for number in range(5):
                found = books_within(teller, number)
                self.assertLessEqual(set(before), set(found))
                before = found
