"""[I1] to [I3]: packs of rows, how many blocks they have, and what can be told of them."""

import random

from endkeepers.books import all_books
from endkeepers.counting import ways
from endkeepers.errors import TooMany, Unfit
from endkeepers.grades import grade
from endkeepers.knowntellers import known_teller
from endkeepers.packs import length_of, pack, pack_error, pack_tells, width
from endkeepers.tellers import kinds, told

from tests.edges import BOTH_301, LOTS_300, LOTS_301, MARKS_300, MARKS_301
from tests.helping import (
    ENDS, FOLLOWING, HOLDING, NO_TUPLES, QUEUE, UNDOING, Case, chain, drawn_row, drawn_tellers, ring, rows_in_order,
)
from tests.packing import (
    ONE_TAKE_BOOKS, UNFIT_BOOKS, climbing_tellers, drawn_pack, drawn_rows, packed, slow_lone, slow_lots, slow_one_ring, slow_pack,
)

NEAR, PARITY = known_teller("next", 2), known_teller("parity", 2)
HUGE = ((0, 10 ** 30), (1, 0), (2, 5))
NO_BLOCKS = (
    None, True, 0, "", "ab", [], [0, 0], {}, (), (0,), (0, 0, 0), (0, -1), (-1, 0), (0, True), (False, 0), (0, None),
    (None, 0), (0, "0"), ("0", 0), (0, (0,)), ((0,), 0), ((0, 0), 0), (0, [0]), (-10 ** 399, 0), (0, -10 ** 399),
)


def slow_width(teller, book):
    """The most blocks of a way, found by making ways longer as long as there are more."""
    steps = ways(teller, book)
    most = {0: 1}
    grown = True
    while grown:
        grown = False
        for lot in list(most):
            for _, there in steps[lot]:
                number = most[lot] + (0 if slow_one_ring(teller, book, lot, there) else 1)
                if most.get(there, 0) < number:
                    most[there] = number
                    grown = True
    return max(most.values())


def slow_pack_error(teller, book, value):
    """What is wrong first with a tuple of pairs of integers, of steps that can be gone one by one."""
    steps = ways(teller, book)
    last = None
    for place, (lot, many) in enumerate(value):
        if lot >= len(steps):
            return ("block", place)
        if place == 0 and lot != 0:
            return ("block", place)
        if place > 0 and lot not in [there for _, there in steps[last]]:
            return ("block", place)
        if place > 0 and slow_one_ring(teller, book, last, lot):
            return ("block", place)
        if slow_lone(teller, book, lot) and many != 0:
            return ("block", place)
        last = slow_lots(teller, book, ((lot, many),))[-1]
    return None


class TestPack(Case):
    def test_examples(self):
        self.assertSame(pack(NEAR, UNDOING, (1, 1, 0, 0, 1, 0)), ((0, 2), (1, 1), (2, 1)))
        self.assertSame(pack(NEAR, UNDOING, ()), ((0, 0),))
        self.assertSame(pack(NEAR, QUEUE, (1, 1, 0, 0, 1, 0)), ((0, 0), (2, 0), (4, 0), (3, 3)))

    def test_beside_lots(self):
        draw = random.Random(700)
        books = {}
        for teller, book in packed(list(drawn_tellers(701, 20, 5, 3, 2)) + list(climbing_tellers(713, 20))):
            books[book] = True
            for row in list(rows_in_order(kinds(teller), 2)) + drawn_rows(draw, teller, (3, 5, 9, 20)):
                self.assertSame(pack(teller, book, row), slow_pack(teller, book, row))
        self.assertEqual(set(books), set(ONE_TAKE_BOOKS))

    def test_rows_of_none_to_900_letters(self):
        draw = random.Random(702)
        for teller, book in packed([NEAR, HOLDING, known_teller("count", 3), ring(7, 2, 2), chain(9, 2)]):
            for length in (0, 1, 40, 41, 899, 900, 2000):
                row = drawn_row(draw, kinds(teller), length)
                with self.assertQuick(2):
                    found = pack(teller, book, row)
                self.assertEqual(length_of(found), length)
                self.assertSame(pack_error(teller, book, found), None)
                self.assertSame(pack_tells(teller, book, found), told(teller, row))

    def test_long_rings_and_lone_lots(self):
        # Ahead of a ring of three stand two lone lots.
        teller = (((1, 1), (2, 2), (3, 3), (4, 4), (2, 5), (5, 5)), (0, 1, 2, 3, 4, 5))
        self.assertSame(pack(teller, UNDOING, (0,) * 9), ((0, 0), (1, 0), (2, 7)))
        self.assertSame(pack(teller, UNDOING, (0,) * 7 + (1, 0)), ((0, 0), (1, 0), (2, 5), (5, 1)))
        self.assertSame(pack(teller, UNDOING, (0,) * 4 + (1, 0)), ((0, 0), (1, 0), (2, 2), (5, 1)))
        self.assertSame(pack(teller, UNDOING, (0,)), ((0, 0), (1, 0)))
        # The whole row in one ring.
        self.assertSame(pack(ring(7, 3, 2), UNDOING, (0, 1) * 20), ((0, 40),))

    def test_which_is_raised(self):
        calls = (
            (pack, ((0,),)), (width, ()), (pack_error, (None,)), (pack_error, (((0, 0),),)), (pack_tells, (((0, 0),),)),
        )
        share = [(book, teller) for book, teller in LOTS_300 if book in ONE_TAKE_BOOKS and grade(teller, book) is None]
        self.assertTrue(share)
        for call, more in calls:
            # A book that is not a one-take one is ahead of all ..
            for book in UNFIT_BOOKS:
                for teller in [FOLLOWING, PARITY] + [teller for _, teller in LOTS_301 + MARKS_301]:
                    self.assertRaised(Unfit, {}, call, teller, book, *more)
            # .. then too many lots or marks, also where some ring branches ..
            for book, teller in LOTS_301 + MARKS_301 + BOTH_301:
                if book in ONE_TAKE_BOOKS:
                    self.assertRaised(TooMany, {"limit": 300}, call, teller, book, *more)
            # .. and then a ring that branches.
            for book, teller in share + [(UNDOING, PARITY), (QUEUE, PARITY), (UNDOING, ENDS), (("take left",), PARITY)]:
                self.assertRaised(Unfit, {}, call, teller, book, *more)


class TestWidth(Case):
    def test_examples(self):
        self.assertSame([width(NEAR, book) for book in (UNDOING, QUEUE, ("take left",))], [3, 4, 3])
        self.assertRaised(Unfit, {}, width, PARITY, QUEUE)
        self.assertRaised(Unfit, {}, width, NEAR, ("put left", "put right"))

    def test_beside_longest_ways(self):
        found = {}
        for teller, book in packed(list(drawn_tellers(703, 40, 5, 3, 2)) + list(climbing_tellers(711, 40))):
            number = width(teller, book)
            self.assertSame(number, slow_width(teller, book))
            found.setdefault(number, []).append(book)
        self.assertGreaterEqual(set(found), {1, 2, 3, 4, 5, 6, 7})

    def test_beside_all_short_rows(self):
        for teller, book in packed(drawn_tellers(704, 20, 3, 2, 1)):
            most = max(len(pack(teller, book, row)) for row in rows_in_order(kinds(teller), 7))
            number = width(teller, book)
            self.assertLessEqual(most, number)
            if number <= 3:
                self.assertEqual(most, number)

    def test_rings_that_may_be_left_out(self):
        # From the ring of 0 a short way leads to the last ring, and a long one.
        moves = ((0, 1), (5, 2), (3, 3), (4, 4), (5, 5), (5, 5))
        self.assertSame(width((moves, (0, 1, 2, 3, 4, 5)), UNDOING), 6)
        self.assertSame(width(chain(24, 2), UNDOING), 24)
        self.assertSame(width(ring(24, 1, 3), QUEUE), 1)
        many = tuple((min(state + 1, 23), state) for state in range(24)), tuple(range(24))
        self.assertSame(width(many, UNDOING), 24)


class TestPackError(Case):
    def test_examples(self):
        values = (HUGE, ((0, 0),), ((0, 2), (2, 1)), ((1, 0),), ((0, 1), (0, 1)), ((0, 1), (3, 0)))
        self.assertSame(
            [pack_error(NEAR, UNDOING, value) for value in values],
            [None, None, ("block", 1), ("block", 0), ("block", 1), ("block", 1)],
        )
        values = (((0, 1), (1, -1)), (), ((0, 1), (1, True)), [(0, 1)])
        self.assertSame([pack_error(NEAR, UNDOING, value) for value in values], ["form"] * 4)
        values = (((0, 0), (2, 0), (4, 7)), ((0, 1), (2, 0)), ((0, 0), (2, 1), (4, 7)), ((0, 0), (2, 0), (1, 3)))
        self.assertSame(
            [pack_error(NEAR, QUEUE, value) for value in values], [None, ("block", 0), ("block", 1), ("block", 2)],
        )

    def test_form(self):
        good = ((0, 2), (1, 1), (2, 3))
        values = NO_TUPLES + ((), (good,), list(good), tuple(map(list, good)), good + (None,), (1, 2), (0, 0))
        for wrong in NO_BLOCKS:
            for place in range(3):
                values += (good[:place] + (wrong,) + good[place + 1:],)
            values += ((wrong,), wrong, ((9, 9), wrong))
        for value in values:
            with self.subTest(value=value):
                self.assertSame(pack_error(NEAR, UNDOING, value), "form")

    def test_the_first_block_that_fails(self):
        draw = random.Random(705)
        answers = {}
        for teller, book in packed(list(drawn_tellers(706, 25, 5, 2, 2)) + list(climbing_tellers(712, 25))):
            lots = len(ways(teller, book))
            for _ in range(15):
                value = list(drawn_pack(draw, teller, book, 6))
                self.assertSame(pack_error(teller, book, tuple(value)), None)
                for _ in range(draw.randint(0, 2)):
                    place = draw.randrange(len(value))
                    lot, steps = value[place]
                    value[place] = draw.choice((
                        (draw.randint(0, lots), steps), (lot, draw.randint(0, 4)), (lot, steps + 1), (lot + 1, steps),
                    ))
                if draw.random() < 0.2:
                    value.insert(draw.randint(0, len(value)), draw.choice(value))
                wanted = slow_pack_error(teller, book, tuple(value))
                self.assertSame(pack_error(teller, book, tuple(value)), wanted)
                answers[wanted] = True
        self.assertGreaterEqual(set(answers), {None} | {("block", place) for place in range(5)})

    def test_each_pack_of_a_row_and_no_other(self):
        for teller, book in packed([NEAR, HOLDING, *drawn_tellers(707, 8, 3, 2, 1)]):
            packs = {pack(teller, book, row) for row in rows_in_order(kinds(teller), 5)}
            lots = len(ways(teller, book))
            tried = [((0, 0),), ((0, 1),), ((0, 2),), ((0, 3),), ((0, 5),)]
            for value in tried:
                if len(value) < 4:
                    tried += [value + ((lot, steps),) for lot in range(min(lots, 7)) for steps in (0, 1, 2)
                              if length_of(value) + 1 + steps <= 5]
                self.assertEqual(pack_error(teller, book, value) is None, value in packs)

    def test_great_steps(self):
        # In the ring of three one comes out behind the steps that leave 2: 10 ** 30 leaves 1.
        teller = (((1, 1), (2, 2), (3, 3), (4, 4), (2, 5), (5, 5)), (0, 1, 2, 3, 4, 5))
        for steps in (10 ** 30, 10 ** 30 + 1, 10 ** 30 + 2, 10 ** 399 - 1, 3 * 10 ** 399 + 2, 2, 5, 6, 7):
            value = ((0, 0), (1, 0), (2, steps), (5, 10 ** 400 - 1))
            self.assertSame(pack_error(teller, UNDOING, value), None if steps % 3 == 2 else ("block", 3))
        for steps in (1, 10 ** 30):
            self.assertSame(pack_error(teller, UNDOING, ((0, steps),)), ("block", 0))
            self.assertSame(pack_error(teller, UNDOING, ((0, 0), (1, steps))), ("block", 1))
        for lot in (6, 7, 300, 10 ** 399):
            self.assertSame(pack_error(teller, UNDOING, ((0, 0), (lot, 0))), ("block", 1))
            self.assertSame(pack_error(teller, UNDOING, ((lot, 0), (lot, 0))), ("block", 0))

    def test_form_is_ahead_of_blocks(self):
        self.assertSame(pack_error(NEAR, UNDOING, ((7, 0), (0, True))), "form")
        self.assertSame(pack_error(NEAR, UNDOING, ((7, 0), (0, 0, 0))), "form")
        self.assertSame(pack_error(NEAR, UNDOING, ((7, 0), (0, -1))), "form")

    def test_what_was_returned(self):
        self.assertSame(pack_error(NEAR, UNDOING, all_books()), "form")
        self.assertSame(pack_error(NEAR, UNDOING, ways(NEAR, UNDOING)), "form")
        self.assertSame(pack_error(NEAR, UNDOING, ways(NEAR, UNDOING)[0]), None)
        self.assertSame(pack_error(NEAR, UNDOING, ways(NEAR, UNDOING)[1]), ("block", 0))
        long = pack(NEAR, UNDOING, (1, 0) * 450)
        self.assertSame(pack_error(NEAR, UNDOING, long), None)
        self.assertSame(pack_error(NEAR, QUEUE, long), ("block", 0))


class TestLengthAndTold(Case):
    def test_examples(self):
        self.assertSame(
            (length_of(HUGE) - 10 ** 30, pack_tells(NEAR, UNDOING, HUGE), pack_tells(NEAR, UNDOING, HUGE[:2])), (7, 1, 0),
        )
        self.assertSame(pack_tells(known_teller("length", 2), QUEUE, ((0, 10 ** 30),)), 1)

    def test_of_packs_of_rows(self):
        draw = random.Random(708)
        for teller, book in packed(list(drawn_tellers(709, 30, 5, 3, 99)) + list(climbing_tellers(714, 30))):
            for row in drawn_rows(draw, teller, (0, 1, 2, 4, 7, 15, 60)):
                found = pack(teller, book, row)
                self.assertSame(length_of(found), len(row))
                self.assertSame(pack_tells(teller, book, found), told(teller, row))

    def test_of_great_packs(self):
        for steps in range(6):
            more = 10 ** 30 - 10 ** 30 % 3 + steps
            for book in ONE_TAKE_BOOKS:
                teller = known_teller("length", 2)
                self.assertSame(pack_tells(teller, book, ((0, more),)), steps % 3)
                self.assertSame(length_of(((0, more),)), more)
        teller = (((1, 1), (2, 2), (3, 3), (4, 4), (2, 5), (5, 5)), (0, 1, 2, 3, 4, 5))
        for steps in (0, 1, 2, 3 * 10 ** 400, 3 * 10 ** 400 + 1, 3 * 10 ** 400 + 2):
            value = ((0, 0), (1, 0), (2, steps))
            self.assertSame(pack_tells(teller, UNDOING, value), 2 + steps % 3)
            self.assertSame(length_of(value), steps + 2)
        self.assertSame(length_of(((0, 10 ** 399), (1, 10 ** 399), (2, 0))), 2 * 10 ** 399 + 2)


class TestTimes(Case):
    def test_300_lots(self):
        draw = random.Random(710)
        tried = 0
        for book, teller in LOTS_300 + tuple(case[:2] for case in MARKS_300):
            if book not in ONE_TAKE_BOOKS or grade(teller, book) is None:
                continue
            tried += 1
            row = drawn_row(draw, kinds(teller), 900)
            for call, more in ((pack, (row,)), (width, ()), (pack_error, (HUGE,)), (pack_tells, (((0, 0),),))):
                with self.assertQuick(2):
                    call(teller, book, *more)
            found = pack(teller, book, row)
            with self.assertQuick(2):
                self.assertSame(pack_error(teller, book, found), None)
            with self.assertQuick(2):
                self.assertSame(pack_tells(teller, book, found), told(teller, row))
            self.assertSame(width(teller, book), slow_width(teller, book))
        self.assertGreaterEqual(tried, 3)

    def test_values_of_thousands_of_pairs(self):
        with self.assertQuick(2):
            self.assertSame(pack_error(NEAR, UNDOING, ((0, 0),) * 2000), ("block", 1))
        with self.assertQuick(2):
            self.assertSame(pack_error(NEAR, UNDOING, ((0, 0),) * 1999 + ((0, True),)), "form")
