"""[A10]: what holds of all tellers."""

import random

from endkeepers.errors import TooMany
from endkeepers.joining import changed, joined, mirrored, paired
from endkeepers.tellers import kinds, least, parting_row, told

from tests.helping import FOLLOWING, LEAST_HOLDING, Case, drawn_pairs, drawn_teller, drawn_tellers, spread

TENS = tuple(number // 10 for number in range(100))
ONES = tuple(number % 10 for number in range(100))


class TestFacts(Case):
    def check_parting(self, one, other):
        row = parting_row(one, other)
        self.assertEqual(repr(least(one)) == repr(least(other)), row is None)
        if row is not None:
            self.assertNotEqual(told(one, row), told(other, row))
            self.assertLessEqual(len(row), max(0, len(one[0]) + len(other[0]) - 2))
            if row:
                # A beginning of the first parting row is a row ahead of it.
                self.assertEqual(told(one, row[:-1]), told(other, row[:-1]))
        return row is None

    def test_least_tellers_are_the_same_exactly_if_nothing_parts(self):
        found = [self.check_parting(one, other) for one, other in drawn_pairs(60, 400, 4, 3, 1)]
        self.assertEqual(set(found), {True, False})
        for one, other in drawn_pairs(61, 100, 24, 3, 1):
            self.check_parting(one, other)
        draw = random.Random(62)
        for teller in drawn_tellers(63, 100, 11, 3, 1):
            self.assertTrue(self.check_parting(teller, spread(draw, teller)))

    def test_a_teller_with_fewer_states_tells_otherwise(self):
        # All tellers of two states and two kinds beside those that need three.
        fewer = [
            (((a, b), (c, d)), (x, y))
            for a in (0, 1) for b in (0, 1) for c in (0, 1) for d in (0, 1) for x in (0, 1) for y in (0, 1)
        ]
        for teller in drawn_tellers(64, 100, 4, 2, 1):
            if kinds(teller) == 2:
                same = [other for other in fewer if parting_row(teller, other) is None]
                self.assertEqual(bool(same), len(least(teller)[0]) <= 2)

    def test_numbers_of_states_of_joined_ones(self):
        for one, other in drawn_pairs(65, 300, 4, 3, 2):
            many, more = len(least(one)[0]), len(least(other)[0])
            both = len(joined((one, other))[0])
            self.assertLessEqual(both, many * more)
            self.assertGreaterEqual(both, max(many, more))

    def test_paired_ones_come_back(self):
        self.assertSame(changed(paired(FOLLOWING, LEAST_HOLDING), ONES), LEAST_HOLDING)
        for one, other in drawn_pairs(66, 300, 4, 3, 9):
            self.assertSame(changed(paired(one, other), TENS), least(one))
            self.assertSame(changed(paired(one, other), ONES), least(other))

    def test_paired_and_joined_ones_have_the_same_moves(self):
        for one, other in drawn_pairs(67, 200, 4, 3, 9):
            both = paired(one, other)
            ranks = {number: rank for rank, number in enumerate(sorted(set(both[1])))}
            self.assertSame(joined((one, other)), (both[0], tuple(ranks[number] for number in both[1])))

    def test_the_mirrored_one_of_a_mirrored_one(self):
        counted = 0
        for teller in drawn_tellers(68, 300, 5, 3, 2):
            try:
                turned = mirrored(teller)
            except TooMany:
                continue
            counted += 1
            self.assertSame(mirrored(turned), least(teller))
        self.assertGreater(counted, 100)

    def test_one_kind_reads_the_same_from_both_ends(self):
        draw = random.Random(69)
        for states in range(1, 25):
            teller = drawn_teller(draw, states, 1, 2)
            self.assertSame(mirrored(teller), least(teller))
