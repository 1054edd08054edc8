"""[E8]: what holds of needs, ways, lots, least rows and rules."""

import itertools
import random

from endkeepers.amounts import need, needs
from endkeepers.books import mirrored_book
from endkeepers.classes import thinned
from endkeepers.counting import go_alike, least_like, lot_of, ways
from endkeepers.errors import TooMany
from endkeepers.joining import mirrored, paired
from endkeepers.rules import rule, rule_error, same_need
from endkeepers.tellers import kinds

from tests.helping import (
    ALL_ENDS, QUEUE, RESTING_BOOKS, TAKING_BOOKS, TOLD_BOOKS, UNDOING, WINDOW, Case, drawn_pairs, drawn_tellers,
)


def unless_too_many(call, *arguments):
    """What the call returns, or None if it raises TooMany."""
    try:
        return call(*arguments)
    except TooMany:
        return None


def numbers_of_ways(steps, longest):
    """For each lot the numbers of ways of no steps to so many from it."""
    found = [[1] for _ in steps]
    for number in range(longest):
        for lot, pairs in enumerate(steps):
            found[lot].append(sum(found[there][number] for _, there in pairs))
    return found


class TestNeedFacts(Case):
    def test_rows_that_are_their_own_least(self):
        for teller in drawn_tellers(460, 25, 4, 3, 2):
            for book in TAKING_BOOKS:
                found = unless_too_many(needs, teller, book, 5 if kinds(teller) < 3 else 4)
                for number, wanted in enumerate(found or ()):
                    rows = itertools.product(range(kinds(teller)), repeat=number)
                    self.assertEqual(sum(least_like(teller, book, row) == row for row in rows), wanted)

    def test_from_one_to_all_rows(self):
        for teller in drawn_tellers(461, 60, 5, 3, 2):
            for book in TOLD_BOOKS:
                for number, found in enumerate(unless_too_many(needs, teller, book, 30) or ()):
                    self.assertLessEqual(1, found)
                    self.assertLessEqual(found, kinds(teller) ** number)
                    self.assertTrue(number > 0 or found == 1)

    def test_numbers_of_ways(self):
        for teller in drawn_tellers(462, 50, 4, 3, 2):
            for book in TAKING_BOOKS:
                steps = unless_too_many(ways, teller, book)
                if steps is None:
                    continue
                by_lots = numbers_of_ways(steps, 24)
                found = needs(teller, book, 24)
                self.assertSame(found, tuple(by_lots[0]))
                # It never falls, and grows no faster than from the lot that has the most ways.
                self.assertSame(tuple(sorted(found)), found)
                for first in (0, 1, 2, 7):
                    for behind in (0, 1, 2, 7, 15):
                        greatest = max(numbers[behind] for numbers in by_lots)
                        self.assertLessEqual(found[first + behind], found[first] * greatest)

    def test_by_slides_and_without_takes_it_may_fall(self):
        falling = {WINDOW: 0, **{book: 0 for book in RESTING_BOOKS}}
        evenly = (((1, 2), (3, 3), (3, 3), (1, 2)), (0, 1, 2, 3))
        for teller in [evenly] + list(drawn_tellers(463, 200, 5, 2, 1)):
            for book in falling:
                found = unless_too_many(needs, teller, book, 12) or ()
                falling[book] += list(found) != sorted(found)
        self.assertGreater(min(falling[book] for book in (WINDOW, (), ("put right",))), 0)

    def test_more_deeds_never_need_less(self):
        for teller in drawn_tellers(464, 50, 4, 3, 2):
            found = {book: unless_too_many(needs, teller, book, 12) for book in TOLD_BOOKS}
            for book in TOLD_BOOKS:
                for more in TOLD_BOOKS:
                    if set(book) <= set(more) and found[book] and found[more]:
                        for less, greater in zip(found[book], found[more]):
                            self.assertLessEqual(less, greater)
            if found[WINDOW] and found[QUEUE]:
                for less, greater in zip(found[WINDOW], found[QUEUE]):
                    self.assertLessEqual(less, greater)

    def test_thinned_tellers_need_the_same(self):
        thinner = 0
        for teller in drawn_tellers(465, 120, 4, 3, 1):
            thin = thinned(teller)[0]
            thinner += kinds(thin) < kinds(teller)
            for book in TOLD_BOOKS:
                found = unless_too_many(needs, teller, book, 20)
                if found is not None:
                    self.assertSame(unless_too_many(needs, thin, book, 20), found)
                    self.assertSame(same_need(teller, book, thin, book), None)
        self.assertGreater(thinner, 10)

    def test_mirrored_tellers_and_books(self):
        for teller in drawn_tellers(466, 60, 4, 3, 1):
            turned = unless_too_many(mirrored, teller)
            for book in TOLD_BOOKS:
                if turned is None or book == WINDOW:
                    continue
                found = unless_too_many(needs, teller, book, 20)
                other = unless_too_many(needs, turned, mirrored_book(book), 20)
                if found is not None and other is not None:
                    self.assertSame(other, found)

    def test_paired_tellers(self):
        compared = 0
        for one, other in drawn_pairs(467, 40, 3, 2, 2):
            both = paired(one, other)
            for book in TOLD_BOOKS:
                found = [unless_too_many(needs, teller, book, 12) for teller in (one, other, both)]
                if None not in found:
                    compared += 1
                    for left, right, together in zip(*found):
                        self.assertLessEqual(max(left, right), together)
                        self.assertLessEqual(together, left * right)
        self.assertGreater(compared, 300)

    def test_rules(self):
        for teller in drawn_tellers(468, 40, 4, 2, 2):
            for book in TOLD_BOOKS:
                value = unless_too_many(rule, teller, book)
                if value is None:
                    continue
                self.assertSame(rule_error(teller, book, value), None)
                first, factors = value
                numbers = list(first)
                for _ in range(60):
                    numbers.append(sum(a * b for a, b in zip(factors, reversed(numbers))))
                self.assertSame(tuple(numbers[:61]), needs(teller, book, 60))
                # One of fewer numbers, that tells as many as it can, fails.
                if len(first) > 1:
                    for shorter in (factors[1:], factors[:-1]):
                        self.assertEqual(rule_error(teller, book, (first[:-1], shorter))[0], "need")

    def test_same_for_small_numbers_is_same_for_all(self):
        draw = random.Random(469)
        tellers = [teller for teller in drawn_tellers(470, 60, 3, 2, 1) if kinds(teller) == 2]
        same = 0
        for _ in range(150):
            one, other = draw.choice(tellers), draw.choice(tellers)
            book, another = draw.choice(TAKING_BOOKS), draw.choice(TAKING_BOOKS)
            if unless_too_many(ways, one, book) is None or unless_too_many(ways, other, another) is None:
                continue
            last = len(ways(one, book)) + len(ways(other, another)) - 1
            if last <= 300 and needs(one, book, last) == needs(other, another, last):
                same += 1
                self.assertSame(needs(one, book, 300), needs(other, another, 300))
                self.assertSame(same_need(one, book, other, another), None)
            else:
                self.assertLessEqual(same_need(one, book, other, another), last)
        self.assertGreater(same, 5)

    def test_rows_of_one_lot_go_alike(self):
        draw = random.Random(471)
        for teller in drawn_tellers(472, 30, 4, 3, 2):
            for book in TAKING_BOOKS:
                if unless_too_many(ways, teller, book) is None:
                    continue
                rows = [tuple(draw.randrange(kinds(teller)) for _ in range(draw.randint(0, 5))) for _ in range(5)]
                for one, other in itertools.combinations(rows, 2):
                    if lot_of(teller, book, one) == lot_of(teller, book, other):
                        self.assertSame(go_alike(teller, book, one, other), True)

    def test_both_takes_and_both_puts_keep_all_but_letters_alike(self):
        for teller in drawn_tellers(473, 40, 5, 3, 1):
            self.assertSame(need(teller, ALL_ENDS, 40), kinds(thinned(teller)[0]) ** 40)
            self.assertLessEqual(need(teller, UNDOING, 40), need(teller, ALL_ENDS, 40))
