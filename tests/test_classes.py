"""[C1] to [C6]: classes of rows, letters that act alike, agreements and their turns."""

import itertools
import random

from endkeepers.classes import (
    action_of, agreement, class_of, letters_alike, state_of, thinned, told_from, turns,
)
from endkeepers.errors import TooMany, Unfit
from endkeepers.knowntellers import known_teller
from endkeepers.tellers import kinds, least, told

from tests.helping import (
    ALL_ENDS, BARE, BOOKS, FOLLOWING, HOLDING, NO_NUMBERS, QUEUE, WINDOW, Case, chain, drawn_row, drawn_teller,
    drawn_tellers, long_turning, ring, rows_in_order, slow_agreement, slow_class, slow_least, slow_told, slow_turns,
    spread, states_from,
)

EVEN = (((1, 2), (3, 3), (2, 2), (1, 1)), (0, 0, 0, 1))
# Books by their puts.
NO_PUT = ((), BARE, ("take left",), ("take right",))


def tellers_and_rows(seed, times, states=24, longest=900):
    """Drawn tellers of one to so many states and one to three kinds, and drawn rows."""
    draw = random.Random(seed)
    for _ in range(times):
        many = draw.randint(1, 3)
        teller = drawn_teller(draw, draw.randint(1, states), many, draw.randint(0, 3))
        yield teller, drawn_row(draw, many, draw.choice((0, 1, 2, 7, 40, 100, longest)))


class TestRows(Case):
    def test_examples(self):
        self.assertSame(known_teller("next", 2), FOLLOWING)
        self.assertSame(state_of(FOLLOWING, (1, 0)), 1)
        self.assertSame(told_from(FOLLOWING, (1, 0)), (0, 1, 1))
        self.assertSame(action_of(FOLLOWING, (1, 0)), (1, 2, 2))
        self.assertSame(state_of(FOLLOWING, ()), 0)
        self.assertSame(told_from(FOLLOWING, ()), (0, 0, 1))
        self.assertSame(action_of(FOLLOWING, ()), (0, 1, 2))

    def test_states_alike_and_states_never_come_to(self):
        # Of HOLDING's states 0 is numbered 0, 2 is numbered 1, and nobody comes to 1 and 3.
        self.assertSame(state_of(HOLDING, (1, 0, 1)), 1)
        self.assertSame(told_from(HOLDING, (1, 1)), (0, 1))
        self.assertSame(action_of(HOLDING, (1, 0)), (1, 1))
        draw = random.Random(300)
        for teller, row in tellers_and_rows(301, 60, 11):
            other = spread(draw, teller)
            self.assertSame(state_of(other, row), state_of(teller, row))
            self.assertSame(told_from(other, row), told_from(teller, row))
            self.assertSame(action_of(other, row), action_of(teller, row))

    def test_rows_of_none_to_900_letters(self):
        for teller, row in tellers_and_rows(302, 150):
            states = range(len(least(teller)[0]))
            ends = tuple(states_from(teller, state, row)[-1] for state in states)
            self.assertSame(action_of(teller, row), ends)
            self.assertSame(state_of(teller, row), ends[0])
            self.assertSame(told_from(teller, row), tuple(least(teller)[1][state] for state in ends))

    def test_the_states_are_those_of_the_least_teller(self):
        for teller in drawn_tellers(303, 40, 3, 2, 1):
            slow = slow_least(teller)
            for row in rows_in_order(kinds(teller), 4):
                self.assertSame(state_of(teller, row), states_from(slow, 0, row)[-1])
                wanted = tuple(states_from(slow, state, row)[-1] for state in range(len(slow[0])))
                self.assertSame(action_of(teller, row), wanted)

    def test_24_states(self):
        counting = chain(24, 2)
        for length in (0, 1, 22, 23, 24, 900):
            row = (0, 1) * (length // 2) + (1,) * (length % 2)
            self.assertSame(state_of(counting, row), min(length, 23))
            self.assertSame(action_of(counting, row), tuple(min(state + length, 23) for state in range(24)))
            self.assertSame(told_from(counting, row), tuple(int(state + length >= 23) for state in range(24)))


class TestClassOf(Case):
    def test_examples(self):
        books = ((), ("put right", "take left"), ("put left", "take left"), ("put left", "put right"))
        self.assertSame([class_of(FOLLOWING, book, (1, 0)) for book in books], [0, 1, (0, 1, 1), (1, 2, 2)])
        self.assertRaised(Unfit, {}, class_of, FOLLOWING, WINDOW, (1, 0))

    def test_all_books(self):
        for teller, row in tellers_and_rows(304, 60):
            for book in BOOKS:
                if book == WINDOW:
                    self.assertRaised(Unfit, {}, class_of, teller, book, row)
                    continue
                by_puts = {
                    (False, False): told(teller, row), (False, True): state_of(teller, row),
                    (True, False): told_from(teller, row), (True, True): action_of(teller, row),
                }
                self.assertSame(class_of(teller, book, row), by_puts["put left" in book, "put right" in book])
                self.assertSame(class_of(teller, book, row), slow_class(teller, book, row))

    def test_takes_play_no_part(self):
        for book in NO_PUT:
            self.assertSame(class_of(FOLLOWING, book, (0, 1)), 1)
        self.assertSame(class_of(FOLLOWING, ALL_ENDS, (0, 1)), (2, 2, 2))
        self.assertSame(class_of(HOLDING, (), (0,) * 900), 1)


class TestLetters(Case):
    def test_examples(self):
        self.assertSame(letters_alike(known_teller("holds", 3)), ((0,), (1, 2)))
        self.assertSame(letters_alike(known_teller("sorted", 3)), ((0,), (1,), (2,)))
        self.assertSame(thinned(known_teller("holds", 3)), ((((1, 0), (1, 1)), (0, 1)), (0, 1, 1)))

    def test_all_alike_none_alike_and_first_and_last(self):
        self.assertSame(letters_alike(chain(24, 3)), ((0, 1, 2),))
        self.assertSame(thinned(chain(24, 3)), (chain(24, 1), (0, 0, 0)))
        self.assertSame(letters_alike(chain(1, 1)), ((0,),))
        self.assertSame(thinned(FOLLOWING), (FOLLOWING, (0, 1)))
        swapped = (((0, 1, 0), (1, 1, 1)), (0, 1))
        self.assertSame(letters_alike(swapped), ((0, 2), (1,)))
        self.assertSame(thinned(swapped), ((((0, 1), (1, 1)), (0, 1)), (0, 1, 0)))

    def test_letters_act_alike_by_the_least_teller(self):
        # The letters lead to unlike states, which tell the same for ever.
        teller = (((1, 2), (1, 1), (2, 2)), (0, 1, 1))
        self.assertSame(letters_alike(teller), ((0, 1),))
        self.assertSame(thinned(teller), ((((1,), (1,)), (0, 1)), (0, 0)))
        # Only from states that nobody comes to are these letters unlike.
        self.assertSame(letters_alike((((0, 0), (0, 1)), (0, 1))), ((0, 1),))

    def check_alike(self, teller):
        """The lots, by what is told with either letter between all short rows."""
        many, states = kinds(teller), len(least(teller)[0])
        around = list(itertools.product(list(rows_in_order(many, states - 1)), repeat=2))

        def same(one, other):
            return all(slow_told(teller, x + (one,) + y) == slow_told(teller, x + (other,) + y) for x, y in around)

        lots = letters_alike(teller)
        self.assertSame(sorted(letter for lot in lots for letter in lot), list(range(many)))
        self.assertSame(lots, tuple(sorted(tuple(sorted(lot)) for lot in lots)))
        for one in range(many):
            for other in range(many):
                together = any(one in lot and other in lot for lot in lots)
                self.assertEqual(together, same(one, other))

    def test_alike_is_told_alike_between_all_rows(self):
        for teller in drawn_tellers(305, 120, 3, 3, 1):
            self.check_alike(teller)

    def test_thinned(self):
        draw = random.Random(306)
        unlike = 0
        for _ in range(150):
            # Some letters are made to act alike.
            teller = drawn_teller(draw, draw.randint(1, 6), draw.randint(1, 3), 1)
            first = draw.randrange(kinds(teller))
            if draw.random() < 0.6:
                teller = tuple(item[:-1] + (item[first],) for item in teller[0]), teller[1]
            thin, lots = thinned(teller)
            unlike += kinds(thin) < kinds(teller)
            self.assertSame(lots, tuple(
                [letter in lot for lot in letters_alike(teller)].index(True) for letter in range(kinds(teller))
            ))
            self.assertSame(kinds(thin), len(letters_alike(teller)))
            self.assertSame(least(thin), thin)
            for row in rows_in_order(kinds(teller), 5):
                self.assertSame(told(thin, tuple(lots[letter] for letter in row)), told(teller, row))
            # What is thinned has no letters alike, and as many states.
            self.assertSame(thinned(thin), (thin, tuple(range(kinds(thin)))))
            self.assertSame(letters_alike(thin), tuple((letter,) for letter in range(kinds(thin))))
            self.assertSame(len(thin[0]), len(least(teller)[0]))
        self.assertGreater(unlike, 20)


class TestAgreement(Case):
    def test_examples(self):
        self.assertSame([agreement(FOLLOWING, number) for number in (0, 1, 2)], [(0, 0, 2), (0, 1, 2), (0, 1, 2)])
        self.assertSame(
            [agreement(EVEN, number) for number in (0, 1, 2, 3)],
            [(0, 0, 0, 3), (0, 1, 0, 0), (0, 1, 1, 3), (0, 1, 0, 0)],
        )
        self.assertRaised(Unfit, {}, agreement, FOLLOWING, True)

    def test_no_numbers(self):
        for number in NO_NUMBERS + (901, 10 ** 399):
            with self.subTest(number=number):
                self.assertRaised(Unfit, {}, agreement, FOLLOWING, number)
                self.assertRaised(Unfit, {}, agreement, long_turning(12), number)

    def test_beside_all_rows_of_so_many_letters(self):
        for teller in drawn_tellers(307, 150, 5, 3, 1):
            for number in range(5 if kinds(teller) > 1 else 9):
                self.assertSame(agreement(teller, number), slow_agreement(teller, number))

    def test_far_out(self):
        for states in (1, 2, 7, 24):
            teller = ring(states, states - 1, 2)
            for number in (0, 1, 2, 300, 899, 900):
                self.assertSame(agreement(teller, number), slow_ring_agreement(states, number))
        for number in (2, 3, 300, 899, 900):
            self.assertSame(agreement(EVEN, number), (0, 1, 1, 3) if number % 2 == 0 else (0, 1, 0, 0))

    def test_also_where_turns_refuses(self):
        teller = long_turning(12)
        self.assertRaised(TooMany, {"limit": 300}, turns, teller)
        self.assertSame(len(agreement(teller, 900)), 21)
        self.assertSame(agreement(teller, 300), agreement(teller, 301))
        self.assertNotEqual(agreement(teller, 299), agreement(teller, 300))


def slow_ring_agreement(states, number):
    """The agreement of a ring that tells 1 in its last state: all others agree."""
    telling = (states - 1 - number) % states
    others = [state for state in range(states) if state != telling]
    return tuple(telling if state == telling else others[0] for state in range(states))


class TestTurns(Case):
    def test_examples(self):
        self.assertSame(turns(FOLLOWING), (1, 1))
        self.assertSame(turns(EVEN), (1, 2))
        self.assertSame(turns(known_teller("length", 1)), (0, 1))

    def test_299_300_and_301(self):
        self.assertSame(turns(long_turning(9)), (297, 1))
        self.assertSame(turns(long_turning(10)), (298, 1))
        self.assertSame(turns(long_turning(11)), (299, 1))
        self.assertRaised(TooMany, {"limit": 300}, turns, long_turning(12))
        self.assertRaised(TooMany, {"limit": 300}, turns, long_turning(13))

    def test_beside_agreements(self):
        for teller in drawn_tellers(308, 200, 6, 3, 2):
            b, p = turns(teller)
            tables = [agreement(teller, number) for number in range(b + p + 1)]
            self.assertSame((b, p), slow_turns(tables, len(tables)))

    def test_rounds_beside_one_another(self):
        # Rings of 5, 7 and 8 states, each told apart by its own number: they go round by 280.
        moves, tells = [], []
        for told_there, length in ((1, 5), (2, 7), (3, 8)):
            begin = 1 + len(tells)
            moves += [(begin + (place + 1) % length,) * 3 for place in range(length)]
            tells += [told_there if place == 0 else 0 for place in range(length)]
        teller = (((1, 6, 13),) + tuple(moves), (0,) + tuple(tells))
        self.assertSame(turns(teller)[1], 280)
        b, p = turns(teller)
        for number in (b, b + 1, b + 17):
            self.assertSame(agreement(teller, number), agreement(teller, number + p))
            self.assertNotEqual(agreement(teller, number), agreement(teller, number + p // 2))

    def test_one_state(self):
        self.assertSame(turns((((0, 0),), (7,))), (0, 1))
        self.assertSame(turns((((0,), (0,)), (7, 8))), (0, 1))


class TestWhatHolds(Case):
    def test_same_class_exactly_if_told_alike_with_letters_around(self):
        draw = random.Random(309)
        for teller in drawn_tellers(310, 40, 3, 2, 1):
            many, states = kinds(teller), len(least(teller)[0])
            around = list(rows_in_order(many, states))
            for _ in range(12):
                one, other = drawn_row(draw, many, draw.randint(0, 4)), drawn_row(draw, many, draw.randint(0, 4))
                right = all(slow_told(teller, one + y) == slow_told(teller, other + y) for y in around)
                left = all(slow_told(teller, x + one) == slow_told(teller, x + other) for x in around)
                both = all(
                    slow_told(teller, x + one + y) == slow_told(teller, x + other + y) for x in around for y in around
                )
                self.assertEqual(state_of(teller, one) == state_of(teller, other), right)
                self.assertEqual(told_from(teller, one) == told_from(teller, other), left)
                self.assertEqual(action_of(teller, one) == action_of(teller, other), both)

    def test_classes_come_of_actions(self):
        draw = random.Random(311)
        for teller, row in tellers_and_rows(312, 100, 8, 12):
            tells = least(teller)[1]
            other = drawn_row(draw, kinds(teller), draw.randint(0, 6))
            first, second = action_of(teller, row), action_of(teller, other)
            self.assertSame(action_of(teller, row + other), tuple(second[state] for state in first))
            self.assertSame(state_of(teller, row), first[0])
            self.assertSame(told_from(teller, row), tuple(tells[state] for state in first))
            self.assertSame(told(teller, row), told_from(teller, row)[0])

    def test_agreement_of_the_states_of_rows(self):
        draw = random.Random(313)
        for teller in drawn_tellers(314, 60, 4, 2, 1):
            for number in range(5):
                one, other = (drawn_row(draw, kinds(teller), 3) for _ in range(2))
                behind = itertools.product(range(kinds(teller)), repeat=number)
                same = all(slow_told(teller, one + y) == slow_told(teller, other + y) for y in behind)
                table = agreement(teller, number)
                self.assertEqual(table[state_of(teller, one)] == table[state_of(teller, other)], same)

    def test_agreement_comes_of_the_one_ahead_and_goes_round(self):
        for teller in drawn_tellers(315, 60, 9, 3, 2):
            moves = least(teller)[0]
            for number in range(6):
                table, onward = agreement(teller, number), agreement(teller, number + 1)
                for one in range(len(moves)):
                    for other in range(len(moves)):
                        same = all(table[here] == table[there] for here, there in zip(moves[one], moves[other]))
                        self.assertEqual(onward[one] == onward[other], same)
            b, p = turns(teller)
            for number in (b, b + 1, b + 2 * p, 300):
                self.assertSame(agreement(teller, number + p), agreement(teller, number))

    def test_whatever_tells_the_same_has_the_same_classes(self):
        draw = random.Random(316)
        for teller in drawn_tellers(317, 40, 8, 3, 2):
            other = spread(draw, teller)
            row = drawn_row(draw, kinds(teller), 9)
            for book in (QUEUE, (), ALL_ENDS, ("put left",)):
                self.assertSame(class_of(other, book, row), class_of(teller, book, row))
            self.assertSame(letters_alike(other), letters_alike(teller))
            self.assertSame(thinned(other), thinned(teller))
            self.assertSame(turns(other), turns(teller))
            self.assertSame(agreement(other, 5), agreement(teller, 5))


class TestTimes(Case):
    def test_the_edges(self):
        draw = random.Random(318)
        for _ in range(5):
            teller = drawn_teller(draw, 24, 3, 99)
            row = drawn_row(draw, 3, 900)
            with self.assertQuick(2):
                state_of(teller, row), told_from(teller, row), action_of(teller, row)
                class_of(teller, ALL_ENDS, row), agreement(teller, 900), turns(teller), thinned(teller)
        with self.assertQuick(2):
            agreement(long_turning(12), 900), turns(long_turning(11))
