"""[G1] to [G4], and what [G9] says of these: the places of windows, and the ways between them."""

import itertools
import random

from endkeepers.amounts import need
from endkeepers.classes import action_of, agreement, state_of, turns
from endkeepers.errors import TooMany, Unfit
from endkeepers.histories import history, told_apart
from endkeepers.tellers import kinds, least
from endkeepers.windows import window_items, window_need, window_place, window_ways

from tests.edges import MIXING, PLACES_300, PLACES_301, TURNING, WINDOW_MARKS_300, WINDOW_MARKS_301
from tests.helping import (
    ENDS, FOLLOWING, NO_NUMBERS, NO_RESTS, QUEUE, WINDOW, Case, chain, drawn_row, drawn_teller, drawn_tellers, long_turning,
    ring, slow_need, slow_partings, spread, states_from,
)

TWO = (((1, 2, 0), (1, 3, 1), (3, 2, 2), (3, 3, 3)), (0, 1, 2, 3))
EVEN = (((1, 2), (3, 3), (2, 2), (1, 1)), (0, 0, 0, 1))
EVEN_LAST = (((1, 1), (2, 0), (1, 1)), (0, 0, 1))
MIXED = (((1, 2), (3, 4), (4, 0), (1, 5), (5, 1), (4, 3)), (0, 1, 0, 1, 1, 0))


def slow_places(teller):
    """The places and their steps, by pieces: of each place one piece for each of its marks is kept."""
    b, p = turns(teller)
    many = kinds(teller)
    places = [(spot, {action_of(teller, ()): ()}) for spot in range(b + p)]
    known = {(spot, (action_of(teller, ()),)): spot for spot in range(b + p)}
    found = []
    while len(found) < len(places):
        spot, pieces = places[len(found)]
        lines = [(), ()]
        ways = []
        if spot >= b:
            ways.append((0, spot - 1 if spot > b else b + p - 1))
        if 0 < spot <= b:
            ways.append((1, spot - 1))
        for line, behind in ways:
            come = {}
            for piece in pieces.values():
                for letter in range(many):
                    longer = (letter,) + piece
                    item = agreement(teller, behind)[state_of(teller, longer)]
                    come.setdefault(item, {})[action_of(teller, longer)] = longer
            for item in sorted(come):
                place = (behind, tuple(sorted(come[item])))
                if place not in known:
                    known[place] = len(places)
                    places.append((behind, come[item]))
                lines[line] += ((item, known[place]),)
        found.append((spot, lines[0], lines[1]))
    return tuple(found)


class TestWindowWays(Case):
    def test_examples(self):
        self.assertSame(
            window_ways(ENDS),
            ((0, (), ()), (1, ((0, 2),), ((0, 3), (1, 4))), (1, ((0, 2),), ((0, 3), (1, 4))), (0, (), ()), (0, (), ())),
        )
        self.assertSame(
            window_ways(TWO),
            (
                (0, ((0, 0), (1, 1), (2, 2)), ()), (0, ((1, 1), (3, 3)), ()), (0, ((2, 2), (3, 3)), ()),
                (0, ((3, 3),), ()),
            ),
        )

    def test_beside_pieces(self):
        turned = set()
        for teller in list(drawn_tellers(400, 400, 6, 2, 1)) + [EVEN, MIXED, *TURNING]:
            try:
                found = window_ways(teller)
            except TooMany:
                continue
            with self.subTest(teller=teller):
                self.assertSame(found, slow_places(teller))
            b, p = turns(teller)
            turned.add((min(b, 2), min(p, 2)))
        self.assertEqual(turned, {(b, p) for b in (0, 1, 2) for p in (1, 2)})

    def test_more_turns_beside_pieces(self):
        for teller in (EVEN, EVEN_LAST, FOLLOWING, ring(7, 3, 2), ring(17, 0, 1), chain(9, 3), chain(1, 1)):
            self.assertSame(window_ways(teller), slow_places(teller))

    def test_numbering_and_order_of_steps(self):
        for teller in drawn_tellers(401, 80, 5, 3, 2):
            try:
                places = window_ways(teller)
            except TooMany:
                continue
            b, p = turns(teller)
            self.assertSame([place[0] for place in places[:b + p]], list(range(b + p)))
            come = list(range(b + p))
            for spot, on, out in places:
                for line in (on, out):
                    self.assertSame(tuple(sorted(line)), line)
                    self.assertEqual(len({item for item, _ in line}), len(line))
                    for _, place in line:
                        come += [place] if place not in come else []
                self.assertEqual(bool(on), spot >= b)
                self.assertEqual(bool(out), 0 < spot <= b)
            self.assertSame(come, list(range(len(places))))

    def test_300_places_and_301(self):
        for teller in PLACES_300:
            self.assertEqual(len(window_ways(teller)), 300)
        # Of a ring there is a place for each state at each spot.
        self.assertEqual(len(window_ways(ring(17, 3, 2))), 289)
        for teller in PLACES_301 + (ring(18, 3, 2),):
            self.assertRaised(TooMany, {"limit": 300}, window_ways, teller)

    def test_300_turns_and_301(self):
        # With b + p of 300 the starts are 300 places, and there are more; so it is with fewer.
        for told in (9, 10, 11, 12, 13):
            self.assertRaised(TooMany, {"limit": 300}, window_ways, long_turning(told))

    def test_too_many_marks(self):
        self.assertSame(turns(MIXING), (0, 1))
        with self.assertQuick(2):
            self.assertRaised(TooMany, {"limit": 300}, window_ways, MIXING)
        self.assertEqual(len(window_ways(WINDOW_MARKS_300)), 247)
        self.assertRaised(TooMany, {"limit": 300}, window_ways, WINDOW_MARKS_301)


class TestWindowNeed(Case):
    def test_examples(self):
        self.assertSame([window_need(ENDS, n) for n in range(5)], [1, 2, 2, 2, 2])
        self.assertSame([window_need(TWO, n) for n in range(6)], [1, 3, 7, 13, 21, 31])
        self.assertSame([window_need(EVEN, n) for n in range(8)], [1, 1, 4, 1, 16, 1, 64, 1])
        self.assertSame([window_need(EVEN_LAST, n) for n in range(8)], [1, 1, 2, 1, 2, 1, 2, 1])
        self.assertRaised(Unfit, {}, window_need, ENDS, 301)

    def test_numbers_that_are_none(self):
        for number in NO_NUMBERS + (301, 900, 10 ** 399):
            with self.subTest(number=number):
                self.assertRaised(Unfit, {}, window_need, FOLLOWING, number)
                # Ahead of what else is raised.
                self.assertRaised(Unfit, {}, window_need, long_turning(12), number)
                self.assertRaised(Unfit, {}, window_need, PLACES_301[0], number)

    def test_too_many(self):
        for teller in PLACES_301 + (long_turning(11), long_turning(12), WINDOW_MARKS_301):
            for number in (0, 1, 300):
                self.assertRaised(TooMany, {"limit": 300}, window_need, teller, number)

    def test_beside_all_rows(self):
        for teller in drawn_tellers(402, 80, 4, 3, 2):
            for number in range(6 if kinds(teller) < 3 else 4):
                try:
                    found = window_need(teller, number)
                except TooMany:
                    continue
                self.assertSame(found, slow_need(teller, WINDOW, number))

    def test_far_out(self):
        for number in (40, 299, 300):
            self.assertSame(window_need(TWO, number), number * number + number + 1)
            self.assertSame(window_need(FOLLOWING, number), 2 * number - 1)
            self.assertSame(window_need(EVEN, number), 2 ** number if number % 2 == 0 else 1)
            self.assertSame(window_need(EVEN_LAST, number), 2 - number % 2)
            self.assertSame(window_need(ring(17, 3, 2), number), 1)

    def test_rounds_of_three_and_four_beside_all_rows(self):
        self.assertSame([turns(teller) for teller in TURNING], [(1, 3), (2, 3), (5, 3), (1, 4)])
        for teller in TURNING:
            for number in range(10):
                self.assertSame(window_need(teller, number), slow_need(teller, WINDOW, number))

    def test_by_three(self):
        # 1 of rows that begin with 0 and have a number of letters that three divides.
        three = (((1, 4), (2, 2), (3, 3), (1, 1), (4, 4)), (0, 0, 0, 1, 0))
        # The same, of rows with one letter more, or two.
        more = (((1, 4), (2, 2), (3, 3), (1, 1), (4, 4)), (0, 1, 0, 0, 0))
        most = (((1, 4), (2, 2), (3, 3), (1, 1), (4, 4)), (0, 0, 1, 0, 0))
        for left, teller in ((0, three), (1, more), (2, most)):
            self.assertSame(turns(teller), (1 if left == 0 else 0, 3))
            for number in (1, 2, 3, 4, 5, 6, 7, 298, 299, 300):
                self.assertSame(window_need(teller, number), 2 ** number if number % 3 == left else 1)

    def test_by_the_slide_of_needs(self):
        for teller in drawn_tellers(403, 60, 5, 3, 2):
            for number in (0, 1, 7, 100):
                try:
                    self.assertSame(window_need(teller, number), need(teller, WINDOW, number))
                except TooMany:
                    self.assertRaised(TooMany, {"limit": 300}, need, teller, WINDOW, number)
                    self.assertRaised(TooMany, {"limit": 300}, window_need, teller, number)


class TestWindowItems(Case):
    def test_examples(self):
        self.assertSame(window_items(EVEN, 1, (1, 0)), (1, 1))
        self.assertSame(window_items(EVEN, 1, (0, 0)), (1, 3))
        self.assertSame(window_items(EVEN, 0, (0, 0)), (1, 0))

    def test_beside_long_windows(self):
        draw = random.Random(404)
        for teller in list(drawn_tellers(405, 80, 12, 3, 2)) + [long_turning(11), ring(24, 5, 3)]:
            b, p = turns(teller)
            rest = draw.choice((0, p - 1, draw.randrange(p)))
            row = drawn_row(draw, kinds(teller), draw.choice((0, 1, 2, 9, 40)))
            # A window of the rest, longer than the row and the spots out of the round.
            length = b + rest + p * (len(row) // p + 1)
            wanted = tuple(
                agreement(teller, length - m)[state_of(teller, row[len(row) - m:])] for m in range(1, len(row) + 1)
            )
            self.assertSame(window_items(teller, rest, row), wanted)

    def test_900_letters(self):
        draw = random.Random(406)
        for teller in (EVEN, TWO, ENDS, ring(7, 3, 3), long_turning(11)):
            b, p = turns(teller)
            row = drawn_row(draw, kinds(teller), 900)
            for rest in {0, p - 1}:
                found = window_items(teller, rest, row)
                self.assertEqual(len(found), 900)
                for m in (1, 2, 5, 899, 900):
                    state = states_from(teller, 0, row[900 - m:])[-1]
                    self.assertSame(found[m - 1], agreement(teller, b + (rest - m) % p)[state])

    def test_rests_that_are_none(self):
        for teller in (EVEN, TWO, ENDS):
            for rest in NO_RESTS + (turns(teller)[1],):
                with self.subTest(teller=teller, rest=rest):
                    self.assertRaised(Unfit, {}, window_items, teller, rest, (0,))
                    self.assertRaised(Unfit, {}, window_place, teller, rest, (0,))

    def test_which_is_raised(self):
        for rest in (0, 1, -1, True, None, "0"):
            # What turns raises is ahead of the rest ..
            self.assertRaised(TooMany, {"limit": 300}, window_items, long_turning(12), rest, (0,))
            self.assertRaised(TooMany, {"limit": 300}, window_place, long_turning(12), rest, (0,))
        for teller in PLACES_301 + (long_turning(11), WINDOW_MARKS_301):
            b, p = turns(teller)
            # .. and the rest is ahead of too many marks and places, which window_items does not mind.
            self.assertRaised(Unfit, {}, window_place, teller, p, (0,))
            self.assertRaised(Unfit, {}, window_items, teller, p, (0,))
            self.assertRaised(TooMany, {"limit": 300}, window_place, teller, p - 1, (0,))
            self.assertEqual(len(window_items(teller, p - 1, (0, 1) * 3)), 6)


class TestWindowPlace(Case):
    def test_examples(self):
        self.assertSame(
            [window_place(EVEN, 1, ()), window_place(EVEN, 0, (0,)), window_place(EVEN, 1, (0,)),
             window_place(TWO, 0, (0, 1))],
            [2, 3, 6, 3],
        )
        self.assertRaised(Unfit, {}, window_place, TWO, 1, ())

    def test_beside_steps_on(self):
        draw = random.Random(407)
        for teller in drawn_tellers(408, 80, 5, 3, 2):
            try:
                places = window_ways(teller)
            except TooMany:
                continue
            b, p = turns(teller)
            for length in (0, 1, 2, 7, 60, 900):
                rest = draw.randrange(p)
                row = drawn_row(draw, kinds(teller), length)
                here = b + rest
                for item in window_items(teller, rest, row):
                    here = dict(places[here][1])[item]
                self.assertSame(window_place(teller, rest, row), here)

    def test_a_place_has_the_marks_of_all_pieces_with_its_items(self):
        for teller in drawn_tellers(409, 40, 4, 2, 1):
            try:
                b, p = turns(teller)
                window_ways(teller)
            except TooMany:
                continue
            for rest in range(p):
                lots = {}
                for length in range(5):
                    by_items = {}
                    for row in itertools.product(range(kinds(teller)), repeat=length):
                        items = window_items(teller, rest, row)
                        by_items.setdefault(items, []).append(row)
                    for rows in by_items.values():
                        lot = (length % p, tuple(sorted({action_of(teller, row) for row in rows})))
                        numbers = {window_place(teller, rest, row) for row in rows}
                        self.assertEqual(len(numbers), 1)
                        # Like lots at one spot are one place.
                        self.assertEqual(lots.setdefault(lot, numbers), numbers)


class TestWindowFacts(Case):
    def test_told_apart_exactly_if_histories_are_unlike(self):
        draw = random.Random(410)
        answers = set()
        for teller in drawn_tellers(411, 150, 4, 2, 1):
            length = draw.randint(1, 5)
            one, other = (drawn_row(draw, kinds(teller), length) for _ in range(2))
            # Behind as many slides as there are letters nothing of a row is left.
            apart = slow_partings(teller, WINDOW, one, other, length) is not None
            self.assertSame(told_apart(teller, WINDOW, one, other), apart)
            self.assertEqual(history(teller, WINDOW, one) != history(teller, WINDOW, other), apart)
            answers.add(apart)
        self.assertEqual(answers, {True, False})

    def test_bounds_of_the_need(self):
        for teller in drawn_tellers(412, 100, 5, 3, 2):
            for number in (0, 1, 2, 5, 12):
                try:
                    found = window_need(teller, number)
                    self.assertLessEqual(found, need(teller, QUEUE, number))
                except TooMany:
                    continue
                self.assertLessEqual(1, found)
                self.assertLessEqual(found, kinds(teller) ** number)

    def test_least_tellers_and_others_that_tell_the_same(self):
        draw = random.Random(413)
        for teller in drawn_tellers(414, 50, 8, 3, 1):
            row = drawn_row(draw, kinds(teller), 9)
            for other in (least(teller), spread(draw, teller)):
                try:
                    places = window_ways(teller)
                except TooMany:
                    self.assertRaised(TooMany, {"limit": 300}, window_ways, other)
                    continue
                self.assertSame(window_ways(other), places)
                self.assertSame(window_need(other, 20), window_need(teller, 20))
                self.assertSame(window_items(other, 0, row), window_items(teller, 0, row))
                self.assertSame(window_place(other, 0, row), window_place(teller, 0, row))

    def test_rows_of_items_within_the_round_never_fall(self):
        falls = 0
        for teller in list(drawn_tellers(415, 120, 5, 3, 2)) + [EVEN_LAST]:
            try:
                places = window_ways(teller)
            except TooMany:
                continue
            b, p = turns(teller)
            least_factor = kinds(teller) ** b
            needs = [window_need(teller, number) for number in range(b + 4 * p + 1)]
            for rest in range(p):
                many, ways = [1], {b + rest: 1}
                for _ in range(3 * p):
                    behind = {}
                    for place, times in ways.items():
                        for _, there in places[place][1]:
                            behind[there] = behind.get(there, 0) + times
                    ways = behind
                    many.append(sum(ways.values()))
                self.assertLessEqual(many[:-1], sorted(many))
                for first in range(0, 2 * p, p):
                    self.assertLessEqual(many[first], many[first + p])
            for number in range(b, b + 3 * p):
                self.assertGreaterEqual(needs[number + p] * least_factor, needs[number])
                falls += needs[number + p] < needs[number]
        self.assertGreater(falls, 0)


class TestTimes(Case):
    def test_the_edges(self):
        draw = random.Random(416)
        for teller in PLACES_300:
            row = drawn_row(draw, kinds(teller), 900)
            with self.assertQuick(2):
                window_ways(teller), window_need(teller, 300)
            with self.assertQuick(2):
                window_items(teller, 0, row), window_place(teller, 0, row)

    def test_24_states(self):
        draw = random.Random(417)
        for _ in range(10):
            teller = drawn_teller(draw, 24, draw.randint(1, 3), draw.randint(0, 3))
            with self.assertQuick(2):
                try:
                    window_need(teller, 300)
                except TooMany:
                    pass
