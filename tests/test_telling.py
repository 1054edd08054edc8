"""[A6]: what is told, the least teller, and what parts two."""

import random

from endkeepers.errors import Unfit
from endkeepers.tellers import least, parting_row, teller_error, told

from tests.helping import (
    BEGINS, ENDS, FIFTH, FOLLOWING, HOLDING, Case, chain, drawn_pairs, drawn_teller, drawn_tellers,
    ring, rows_in_order, slow_least, slow_parting, slow_told, spread,
)


class TestTold(Case):
    def test_example(self):
        self.assertSame([told(FOLLOWING, row) for row in ((), (1, 1, 0), (1, 0, 0, 1, 1))], [0, 0, 1])

    def test_the_empty_row(self):
        for number in (0, 7, 99):
            with self.subTest(number=number):
                self.assertSame(told((((1, 0), (1, 1)), (number, 3)), ()), number)

    def test_by_what_the_rows_are(self):
        for row in rows_in_order(2, 7):
            with self.subTest(row=row):
                text = "".join(map(str, row))
                self.assertSame(told(FOLLOWING, row), int("01" in text))
                self.assertSame(told(HOLDING, row), int("0" in text))
                self.assertSame(told(BEGINS, row), int(text.startswith("0")))
                self.assertSame(told(ENDS, row), int(text.endswith("0")))
                self.assertSame(told(FIFTH, row), int(text[4:5] == "0"))

    def test_long_rows(self):
        self.assertSame(told(FOLLOWING, (1,) * 899 + (0,)), 0)
        self.assertSame(told(FOLLOWING, (1,) * 898 + (0, 1)), 1)
        self.assertSame(told(ring(24, 900 % 24), (0,) * 900), 1)
        self.assertSame(told(ring(24, 899 % 24), (0,) * 900), 0)
        self.assertSame(told(ring(7, 900 % 7, 3), (2,) * 900), 1)

    def test_states_that_no_row_leads_to(self):
        self.assertSame([told(HOLDING, row) for row in rows_in_order(2, 2)], [0, 1, 0, 1, 1, 1, 0])

    def test_drawn(self):
        for teller in drawn_tellers(2, 60, 24, 3, 99):
            for row in rows_in_order(len(teller[0][0]), 4):
                self.assertSame(told(teller, row), slow_told(teller, row))


class TestLeast(Case):
    def test_example(self):
        self.assertSame(least(HOLDING), (((1, 0), (1, 1)), (0, 1)))
        self.assertSame(least((((1, 2), (1, 3), (1, 2), (3, 3)), (0, 0, 0, 1))), FOLLOWING)
        self.assertSame(least(FOLLOWING), FOLLOWING)

    def test_one_state(self):
        for many in (1, 2, 3):
            for number in (0, 5, 99):
                with self.subTest(many=many, number=number):
                    alone = (((0,) * many,), (number,))
                    self.assertSame(least(alone), alone)
                    self.assertSame(least((((1,) * many, (2,) * many, (0,) * many), (number,) * 3)), alone)
                    self.assertSame(least(ring(24, 24, many)), (((0,) * many,), (0,)))

    def test_states_that_no_row_leads_to(self):
        self.assertSame(least((((0,), (0,), (1,)), (4, 5, 6))), (((0,),), (4,)))
        self.assertSame(least((((2,), (0,), (2,)), (4, 5, 6))), (((1,), (1,)), (4, 6)))

    def test_states_told_apart_late(self):
        self.assertSame(least(chain(24)), chain(24))
        self.assertSame(least(ring(24, 23)), ring(24, 23))
        self.assertSame(least(chain(24, 3)), chain(24, 3))
        moves, tells = ring(24, 5)
        self.assertSame(least((moves, tells[:17] + (1,) + tells[18:])), ring(12, 5))

    def test_order_of_states(self):
        # 1 leads to the state 3, and 0 1 to the state 1: the shorter row is the earlier one.
        self.assertSame(
            least((((2, 3), (1, 1), (2, 1), (3, 3)), (0, 1, 2, 3))),
            (((1, 2), (1, 3), (2, 2), (3, 3)), (0, 2, 3, 1)),
        )
        # Of rows of one length the lesser one is the earlier one.
        self.assertSame(
            least((((3, 2, 1), (1, 1, 1), (2, 2, 2), (3, 3, 3)), (9, 8, 7, 6))),
            (((1, 2, 3), (1, 1, 1), (2, 2, 2), (3, 3, 3)), (9, 6, 7, 8)),
        )

    def test_states_are_put_together_with_the_earliest_one(self):
        # The states 1 and 2 are alike, and 3 comes of the row 1, behind that of 2 and ahead of 1.
        self.assertSame(
            least((((2, 3), (1, 1), (2, 2), (3, 1)), (0, 5, 5, 6))),
            (((1, 2), (1, 1), (2, 1)), (0, 5, 6)),
        )

    def test_the_same_is_told(self):
        for teller in drawn_tellers(3, 80, 24, 3, 3):
            small = least(teller)
            self.assertIsNone(teller_error(small))
            for row in rows_in_order(len(teller[0][0]), 5):
                self.assertSame(told(small, row), told(teller, row))

    def test_beside_a_slower_reckoning(self):
        for teller in drawn_tellers(4, 400):
            self.assertSame(least(teller), slow_least(teller))

    def test_beside_a_slower_reckoning_with_more_states(self):
        for teller in drawn_tellers(5, 60, 6, 2, 1):
            self.assertSame(least(teller), slow_least(teller))

    def test_least_of_least_is_the_same(self):
        for teller in drawn_tellers(6, 200, 24, 3, 2):
            self.assertSame(least(least(teller)), least(teller))

    def test_tellers_that_tell_the_same_have_one_least_teller(self):
        draw = random.Random(7)
        for teller in drawn_tellers(8, 150, 11, 3, 2):
            self.assertSame(least(spread(draw, teller)), least(teller))


class TestPartingRow(Case):
    def test_example(self):
        self.assertSame((parting_row(HOLDING, FOLLOWING), parting_row(least(HOLDING), HOLDING)), ((0,), None))
        self.assertRaised(Unfit, {}, parting_row, FOLLOWING, (((0,),), (0,)))

    def test_the_empty_row(self):
        self.assertSame(parting_row((((0,),), (0,)), (((0,),), (1,))), ())
        self.assertSame(parting_row((((0,), (0,)), (0, 1)), (((1,), (1,)), (0, 0))), None)

    def test_the_first_row_in_the_order(self):
        # 1 and 0 0 part them, and the shorter one is the first.
        self.assertSame(parting_row((((1, 2), (2, 0), (2, 2)), (0, 0, 1)), (((0, 0),), (0,))), (1,))
        # 0 1 and 1 0 part them, and the lesser one is the first.
        self.assertSame(parting_row((((1, 2), (0, 3), (3, 0), (3, 3)), (0, 0, 0, 1)), (((0, 0),), (0,))), (0, 1))
        self.assertSame(parting_row(BEGINS, ENDS), (0, 1))

    def test_unlike_kinds(self):
        tellers = [(((0,) * many,), (0,)) for many in (1, 2, 3)]
        for one in tellers:
            for other in tellers:
                with self.subTest(one=one, other=other):
                    if one == other:
                        self.assertIsNone(parting_row(one, other))
                    else:
                        self.assertRaised(Unfit, {}, parting_row, one, other)
        # Unlike numbers are told of (), and still these do not fit.
        self.assertRaised(Unfit, {}, parting_row, (((0,),), (0,)), (((0, 0),), (1,)))

    def test_tellers_of_24_states(self):
        # Rounds of 23 and of 24 first differ behind as many letters as [A10] lets.
        self.assertSame(parting_row(ring(23, 22), ring(24, 22)), (0,) * 45)
        late = (tuple((state,) for state in list(range(1, 24)) + [1]), (0,) * 23 + (1,))
        self.assertSame(parting_row(ring(24, 23), late), (0,) * 46)
        self.assertSame(parting_row(late, ring(24, 23)), (0,) * 46)
        self.assertSame(parting_row(chain(24, 3), chain(23, 3)), (0,) * 22)
        self.assertIsNone(parting_row(chain(24, 3), chain(24, 3)))

    def test_beside_all_rows_in_order(self):
        found = []
        for one, other in drawn_pairs(9, 300, 4, 3, 1):
            wanted = slow_parting(one, other)
            found.append(wanted is None)
            self.assertSame(parting_row(one, other), wanted)
            self.assertSame(parting_row(other, one), wanted)
        self.assertEqual(set(found), {True, False})

    def test_tellers_that_tell_the_same(self):
        draw = random.Random(10)
        for teller in drawn_tellers(11, 150, 11, 3, 2):
            self.assertIsNone(parting_row(teller, spread(draw, teller)))
            self.assertIsNone(parting_row(least(teller), teller))

    def test_one_state_told_otherwise(self):
        draw = random.Random(12)
        for _ in range(100):
            moves, tells = drawn_teller(draw, 24, 2, 0)
            state = draw.randrange(24)
            row = parting_row((moves, tells), (moves, tells[:state] + (1,) + tells[state + 1:]))
            firsts = {}
            for earlier in rows_in_order(2, 8):
                at = 0
                for letter in earlier:
                    at = moves[at][letter]
                firsts.setdefault(at, earlier)
            if state in firsts:
                self.assertSame(row, firsts[state])
            else:
                self.assertTrue(row is None or len(row) > 8)
