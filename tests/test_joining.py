"""[A7]: tellers made of tellers."""

import random

from endkeepers.errors import TooMany, Unfit
from endkeepers.joining import changed, joined, mirrored, paired
from endkeepers.tellers import kinds, least, teller_error, told

from tests.helping import (
    BEGINS, ENDS, FIFTH, FOLLOWING, HOLDING, LEAST_HOLDING, Case, chain, drawn_pairs, drawn_teller, drawn_tellers,
    ring, rows_in_order, slow_least, slow_told, spread,
)

ALONE = (((0,),), (0,))
# Tellers of five states whose mirrors need just 24 states, and just 25.
MIRROR_24 = (
    (((0, 2), (3, 1), (0, 3), (4, 1), (2, 0)), (0, 1, 1, 0, 1)),
    (((3, 1, 4), (1, 1, 2), (3, 4, 3), (0, 3, 0), (1, 0, 0)), (1, 1, 1, 0, 1)),
)
MIRROR_25 = (
    (((4, 0), (2, 2), (0, 1), (1, 1), (2, 3)), (1, 0, 0, 1, 1)),
    (((4, 4, 3), (4, 2, 3), (2, 3, 0), (0, 2, 4), (3, 1, 0)), (1, 0, 1, 1, 1)),
)


def turning(states, letter):
    """Of two kinds: tells 1 if the number of one letter goes round to the last state."""
    moves = tuple(
        tuple((state + 1) % states if seen == letter else state for seen in range(2)) for state in range(states)
    )
    return moves, (0,) * (states - 1) + (1,)


def tables_behind(teller):
    """What is told from the states of the least teller behind all rows, as a set."""
    moves, tells = slow_least(teller)
    seen, waiting = {tells}, [tells]
    while waiting:
        table = waiting.pop()
        for letter in range(len(moves[0])):
            longer = tuple(table[item[letter]] for item in moves)
            if longer not in seen:
                seen.add(longer)
                waiting.append(longer)
    return seen


class TestMirrored(Case):
    def test_example(self):
        self.assertSame((mirrored(ENDS), mirrored(BEGINS)), (BEGINS, ENDS))
        self.assertSame(mirrored(FOLLOWING), (((0, 1), (2, 1), (2, 2)), (0, 0, 1)))
        self.assertRaised(TooMany, {"limit": 24}, mirrored, FIFTH)

    def test_what_is_told(self):
        counted = 0
        for teller in drawn_tellers(20, 250):
            try:
                turned = mirrored(teller)
            except TooMany:
                continue
            counted += 1
            self.assertIsNone(teller_error(turned))
            for row in rows_in_order(kinds(teller), 5):
                self.assertSame(told(turned, row), slow_told(teller, row[::-1]))
        self.assertGreater(counted, 150)

    def test_it_is_least(self):
        for teller in drawn_tellers(24, 200, 3, 2, 1):
            turned = mirrored(teller)
            self.assertSame(least(turned), turned)
            if len(turned[0]) <= 5:
                self.assertSame(turned, slow_least(turned))

    def test_it_is_raised_exactly_if_there_are_too_many_states(self):
        seen = set()
        for teller in drawn_tellers(21, 300, 5, 2, 2):
            many = len(tables_behind(teller))
            seen.add(many > 24)
            if many > 24:
                self.assertRaised(TooMany, {"limit": 24}, mirrored, teller)
            else:
                self.assertSame(len(mirrored(teller)[0]), many)
        self.assertEqual(seen, {True, False})

    def test_both_sides_of_the_bound(self):
        for teller in MIRROR_24:
            turned = mirrored(teller)
            self.assertSame(len(turned[0]), 24)
            self.assertSame(least(turned), turned)
            self.assertIsNone(teller_error(turned))
            for row in rows_in_order(kinds(teller), 6):
                self.assertSame(told(turned, row), slow_told(teller, row[::-1]))
            self.assertSame(mirrored(turned), least(teller))
        for teller in MIRROR_25:
            self.assertSame(len(tables_behind(teller)), 25)
            self.assertRaised(TooMany, {"limit": 24}, mirrored, teller)

    def test_tellers_of_24_states(self):
        for many in range(1, 25):
            with self.subTest(many=many):
                self.assertSame(mirrored(ring(many, many - 1)), ring(many, many - 1))
                self.assertSame(mirrored(chain(many, 3)), chain(many, 3))
        self.assertSame(mirrored((tuple((state,) for state in range(24)), tuple(range(24)))), ALONE)

    def test_states_that_play_no_part(self):
        # What is told from states that no row leads to would part more rows than there are.
        self.assertSame(mirrored(HOLDING), LEAST_HOLDING)
        moves, tells = FIFTH
        shifted = tuple(tuple(state + 1 for state in item) for item in moves)
        self.assertSame(mirrored((((0, 0),) + shifted, (3,) + tells)), (((0, 0),), (3,)))
        draw = random.Random(22)
        for teller in drawn_tellers(23, 60, 4, 2, 1):
            try:
                wanted = mirrored(teller)
            except TooMany:
                self.assertRaised(TooMany, {"limit": 24}, mirrored, spread(draw, teller))
                continue
            self.assertSame(mirrored(spread(draw, teller)), wanted)


class TestPaired(Case):
    def test_example(self):
        self.assertRaised(Unfit, {}, paired, FOLLOWING, HOLDING)
        self.assertSame(paired(FOLLOWING, least(HOLDING)), (((1, 0), (1, 2), (2, 2)), (0, 1, 11)))

    def test_what_is_told(self):
        for one, other in drawn_pairs(30, 250, 4, 3, 9):
            both = paired(one, other)
            self.assertIsNone(teller_error(both))
            for row in rows_in_order(kinds(one), 4):
                self.assertSame(told(both, row), 10 * slow_told(one, row) + slow_told(other, row))

    def test_it_is_least(self):
        for one, other in drawn_pairs(31, 200, 4, 3, 2):
            both = paired(one, other)
            self.assertSame(least(both), both)
            if len(both[0]) <= 5:
                self.assertSame(both, slow_least(both))
        draw = random.Random(32)
        for one, other in drawn_pairs(33, 60, 4, 2, 1):
            self.assertSame(paired(spread(draw, one), spread(draw, other)), paired(one, other))

    def test_numbers_to_9(self):
        for a in range(10):
            for b in range(10):
                self.assertSame(paired((((0,),), (a,)), (((0,),), (b,))), (((0,),), (10 * a + b,)))
        for number in (10, 11, 99):
            with self.subTest(number=number):
                high = (((0,),), (number,))
                self.assertRaised(Unfit, {}, paired, high, ALONE)
                self.assertRaised(Unfit, {}, paired, ALONE, high)
                self.assertRaised(Unfit, {}, paired, high, high)

    def test_a_high_number_of_a_state_that_no_row_leads_to(self):
        spare = (((0,), (1,)), (0, 10))
        self.assertRaised(Unfit, {}, paired, spare, ALONE)
        self.assertRaised(Unfit, {}, paired, ALONE, spare)
        self.assertSame(paired((((0,), (1,)), (0, 9)), ALONE), ALONE)

    def test_unlike_kinds(self):
        tellers = [(((0,) * many,), (0,)) for many in (1, 2, 3)]
        for one in tellers:
            for other in tellers:
                with self.subTest(one=one, other=other):
                    if one == other:
                        self.assertSame(paired(one, other), one)
                    else:
                        self.assertRaised(Unfit, {}, paired, one, other)

    def test_both_sides_of_the_bound(self):
        self.assertSame(len(paired(turning(4, 0), turning(6, 1))[0]), 24)
        self.assertSame(len(paired(ring(8, 1), ring(3, 1))[0]), 24)
        self.assertSame(len(paired(ring(24, 1), ring(12, 1))[0]), 24)
        self.assertRaised(TooMany, {"limit": 24}, paired, turning(5, 0), turning(5, 1))
        self.assertRaised(TooMany, {"limit": 24}, paired, ring(24, 1), ring(23, 1))

    def test_unfit_is_ahead_of_too_many(self):
        moves, tells = ring(24, 1)
        self.assertRaised(Unfit, {}, paired, (moves, tells[:23] + (10,)), ring(23, 1))
        self.assertRaised(Unfit, {}, paired, ring(23, 1), (moves, tells[:23] + (10,)))
        self.assertRaised(Unfit, {}, paired, ring(24, 1), ring(23, 1, 2))


class TestJoined(Case):
    def test_example(self):
        self.assertSame(joined((least(HOLDING), FOLLOWING)), (((1, 0), (1, 2), (2, 2)), (0, 1, 2)))
        self.assertSame(joined((HOLDING,)), least(HOLDING))
        self.assertRaised(Unfit, {}, joined, (ENDS, (((0,),), (0,))))
        self.assertRaised(Unfit, {}, joined, ())

    def test_ranks(self):
        # Told are (5, 2) of (), then (5, 1), then (3, 9): the ranks 2, 1 and 0.
        one = (((1,), (2,), (2,)), (5, 5, 3))
        other = (((1,), (2,), (2,)), (2, 1, 9))
        self.assertSame(joined((one, other)), (one[0], (2, 1, 0)))
        self.assertSame(joined((other, one)), (one[0], (1, 0, 2)))

    def test_one_teller(self):
        self.assertSame(joined((((((0, 0),), (99,))),)), (((0, 0),), (0,)))
        self.assertSame(joined(((((1,), (1,)), (99, 7)),)), (((1,), (1,)), (1, 0)))
        self.assertSame(joined(((((1,), (2,), (2,)), (7, 99, 7)),)), (((1,), (2,), (2,)), (0, 1, 0)))
        # No row leads to the state that tells 3, so 5 has the rank 0.
        self.assertSame(joined(((((1,), (1,), (2,)), (8, 5, 3)),)), (((1,), (1,)), (1, 0)))

    def test_what_is_told(self):
        for one, other in drawn_pairs(40, 150, 3, 2, 3):
            some = (one, other)
            rows = list(rows_in_order(kinds(one), len(one[0]) * len(other[0]) - 1))
            answers = {row: tuple(slow_told(teller, row) for teller in some) for row in rows}
            ranks = sorted(set(answers.values()))
            both = joined(some)
            self.assertIsNone(teller_error(both))
            for row in rows:
                self.assertSame(told(both, row), ranks.index(answers[row]))

    def test_three_tellers(self):
        counted = 0
        for one, other in drawn_pairs(41, 200, 2, 3, 2):
            some = (one, FOLLOWING, other)
            if kinds(one) != 2:
                self.assertRaised(Unfit, {}, joined, some)
                continue
            counted += 1
            rows = list(rows_in_order(2, 7))
            answers = {row: tuple(slow_told(teller, row) for teller in some) for row in rows}
            ranks = sorted(set(answers.values()))
            for row in rows:
                self.assertSame(told(joined(some), row), ranks.index(answers[row]))
        self.assertGreater(counted, 30)

    def test_it_is_least(self):
        draw = random.Random(42)
        for one, other in drawn_pairs(43, 200, 3, 3, 2):
            both = joined((one, other))
            self.assertSame(least(both), both)
            self.assertSame(joined((spread(draw, one), spread(draw, other))), both)
            if len(both[0]) <= 5:
                self.assertSame(both, slow_least(both))

    def test_one_teller_many_times(self):
        for times in (1, 2, 59, 60):
            with self.subTest(times=times):
                self.assertSame(joined((FOLLOWING,) * times), FOLLOWING)
                self.assertSame(joined((ring(24, 23, 3),) * times), ring(24, 23, 3))

    def test_60_tellers(self):
        self.assertSame(joined(tuple(ring(24, at) for at in range(24))), (ring(24, 0)[0], tuple(range(23, -1, -1))))
        self.assertSame(
            joined(tuple(ring(24, at % 24) for at in range(60))), (ring(24, 0)[0], tuple(range(23, -1, -1)))
        )
        self.assertSame(joined((ring(2, 1), ring(3, 2), ring(4, 3)) * 20)[0], ring(12, 0)[0])
        self.assertRaised(Unfit, {}, joined, (ENDS,) * 59 + (ALONE,))

    def test_unlike_kinds(self):
        tellers = [(((0,) * many,), (0,)) for many in (1, 2, 3)]
        self.assertRaised(Unfit, {}, joined, tuple(tellers))
        self.assertRaised(Unfit, {}, joined, (tellers[0], tellers[1], tellers[0]))
        self.assertRaised(Unfit, {}, joined, (tellers[2], tellers[2], tellers[1]))

    def test_both_sides_of_the_bound(self):
        self.assertSame(len(joined((turning(4, 0), turning(6, 1)))[0]), 24)
        self.assertSame(len(joined((ring(8, 1), ring(3, 1), ring(2, 1)))[0]), 24)
        self.assertRaised(TooMany, {"limit": 24}, joined, (turning(5, 0), turning(5, 1)))
        self.assertRaised(TooMany, {"limit": 24}, joined, (ring(2, 1), ring(3, 1), ring(5, 1)))
        self.assertRaised(TooMany, {"limit": 24}, joined, tuple(ring(states, 1) for states in range(2, 25)))

    def test_unfit_is_ahead_of_too_many(self):
        self.assertRaised(Unfit, {}, joined, (ring(24, 1), ring(23, 1), ENDS))


class TestChanged(Case):
    def test_example(self):
        both = paired(FOLLOWING, least(HOLDING))
        self.assertSame(changed(both, (0, 1) + (0,) * 9 + (1,)), least(HOLDING))
        self.assertRaised(Unfit, {}, changed, ENDS, (5,))
        self.assertRaised(Unfit, {}, changed, ENDS, [0, 1])

    def test_what_is_told(self):
        draw = random.Random(50)
        for teller in drawn_tellers(51, 200, 5, 3, 9):
            table = tuple(draw.choice((0, 1, draw.randrange(100))) for _ in range(10))
            other = changed(teller, table)
            self.assertIsNone(teller_error(other))
            for row in rows_in_order(kinds(teller), 5):
                self.assertSame(told(other, row), table[slow_told(teller, row)])

    def test_it_is_least(self):
        draw = random.Random(52)
        for teller in drawn_tellers(53, 200, 4, 2, 3):
            table = tuple(draw.randrange(2) for _ in range(4))
            other = changed(teller, table)
            self.assertSame(least(other), other)
            self.assertSame(other, slow_least((teller[0], tuple(table[number] for number in teller[1]))))

    def test_tellers_of_24_states(self):
        moves = ring(24, 0)[0]
        self.assertSame(changed((moves, tuple(range(24))), tuple(range(99, 75, -1))), (moves, tuple(range(99, 75, -1))))
        self.assertSame(changed((moves, tuple(range(24))), (3, 4) * 12), (ring(2, 0)[0], (3, 4)))

    def test_tables_that_fit_and_tables_that_do_not(self):
        for greatest in (0, 1, 12, 98, 99):
            teller = (((1,), (1,)), (0, greatest))
            with self.subTest(greatest=greatest):
                self.assertSame(told(changed(teller, tuple(range(greatest + 1))), (0,)), greatest)
                self.assertSame(told(changed(teller, (99,) * 4000), (0,)), 99)
                for short in {greatest, greatest // 2, 0}:
                    self.assertRaised(Unfit, {}, changed, teller, (0,) * short)

    def test_a_high_number_of_a_state_that_no_row_leads_to(self):
        self.assertSame(changed(HOLDING, (3, 4) + (0,) * 11), (((1, 0), (1, 1)), (3, 4)))
        self.assertRaised(Unfit, {}, changed, HOLDING, (3, 4) + (0,) * 10)
        self.assertRaised(Unfit, {}, changed, HOLDING, (3, 4))

    def test_wrong_items(self):
        for wrong in (True, False, 100, 10 ** 400, -1, None, "0", "", (), (0,), [0], {}):
            for place in (0, 1, 2):
                table = [0, 1, 2]
                table[place] = wrong
                with self.subTest(wrong=wrong, place=place):
                    self.assertRaised(Unfit, {}, changed, ENDS, tuple(table))
        self.assertSame(changed(ENDS, (99, 0, 99)), (((1, 0), (1, 0)), (99, 0)))

    def test_no_tuples(self):
        for wrong in (None, True, 0, 1, 10 ** 400, "", "01", [], [0, 1], {}, {0: 0, 1: 1}, [0] * 100):
            with self.subTest(wrong=wrong):
                self.assertRaised(Unfit, {}, changed, ENDS, wrong)

    def test_a_table_that_is_wrong_for_a_teller_of_one_number(self):
        self.assertRaised(Unfit, {}, changed, ALONE, ())
        self.assertSame(changed(ALONE, (7,)), (((0,),), (7,)))
        self.assertSame(changed(drawn_teller(random.Random(54), 24, 3, 0), (7,)), (((0, 0, 0),), (7,)))
