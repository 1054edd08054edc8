"""[H2] and [H3]: what a table is, and the tables that histories make."""

import random

from endkeepers.amounts import needs
from endkeepers.books import all_books
from endkeepers.errors import Unfit
from endkeepers.knowntellers import known_teller
from endkeepers.tables import counts, made, table_error
from endkeepers.tellers import kinds

from tests.edges import MIXING
from tests.helping import (
    BARE, BOOKS, ENDS, FOLLOWING, HOLDING, NO_NUMBERS, NO_TUPLES, QUEUE, TOLD_BOOKS, UNDOING, WINDOW, Case, chain,
    drawn_teller, drawn_tellers, long_turning, ring, spread,
)
from tests.keeping import drawn_table, part_of, slow_made, slow_table_error, spoilt, spots_of

LOG = ("put right",)
ONLY, FIRST = ((0, 1), ((1, (None, None)), (0, (None, None)))), ((0,), ((0, (0, 1)),))
# What is put in place of each part of a table: numbers near those that fit, True and False, None, and other kinds.
OTHERS = (0, 1, 2, -1, 3, 99, 100, 10 ** 400, True, False, None, "", "0", (), (0,), [], [0], {}, {0: 0})


def full_level(states, rows, nexts):
    """A level of so many states."""
    return ((states - 1,) * rows, ((7, nexts),) * states)


class TestTableError(Case):
    def test_examples(self):
        values = ((FIRST, ONLY), (((0,), ((0, (None, None)),)),), [FIRST, ONLY], (), (ONLY, FIRST))
        self.assertSame([table_error(LOG, 2, value) for value in values], [None, None, "form", "form", ("level", 0)])
        self.assertSame(
            [table_error(LOG, 2, (((0,), ((0, nexts),)), ONLY))
             for nexts in ((0, 2), (0, None), (0, True), (0, 1, 1), [0, 1])],
            [("state", 0, 0), ("state", 0, 0), ("state", 0, 0), ("level", 0), ("level", 0)],
        )
        self.assertSame(
            [table_error(LOG, 2, (FIRST, ((0, 2), ((1, (None, None)), (0, (None, 0)))))),
             table_error(LOG, 2, (FIRST, ((0, 1), ((1, (None, None)), (0, (None, 0))))))],
            [("level", 1), ("state", 1, 1)],
        )
        self.assertRaised(Unfit, {}, table_error, BARE, 2, (FIRST, ONLY))

    def test_made_and_drawn_tables(self):
        draw = random.Random(640)
        for book in TOLD_BOOKS:
            for many in (1, 2, 3):
                for size in range(5):
                    table = drawn_table(draw, book, many, size, 4)
                    self.assertSame(table_error(book, many, table), None)
                    # For other kinds, for other books, and with a level more or less it may be none.
                    for other in (1, 2, 3):
                        self.assertSame(table_error(book, other, table), slow_table_error(book, other, table))
                    for other in TOLD_BOOKS:
                        self.assertSame(table_error(other, many, table), slow_table_error(other, many, table))
                    for value in (table + table[-1:], table[:-1], table[1:], table[::-1], table + table):
                        self.assertSame(table_error(book, many, value), slow_table_error(book, many, value))

    def test_each_part_spoilt(self):
        draw = random.Random(641)
        told = {}
        for book in TOLD_BOOKS:
            table = drawn_table(draw, book, 2, draw.choice((1, 2)), 2)
            for path in spots_of(table):
                part = part_of(table, path)
                changes = list(OTHERS)
                if isinstance(part, tuple):
                    changes += [list(part), part + part[:1], part[1:], part + (0,), part + (None,)]
                for other in changes:
                    value = spoilt(table, path, other)
                    wanted = slow_table_error(book, 2, value)
                    self.assertSame(table_error(book, 2, value), wanted)
                    told[wanted] = True
        self.assertGreaterEqual(
            set(told), {None, "form", ("level", 0), ("level", 1), ("level", 2), ("state", 0, 0), ("state", 1, 1)},
        )

    def test_two_parts_spoilt(self):
        draw = random.Random(642)
        for _ in range(1500):
            book = draw.choice(TOLD_BOOKS)
            table = value = drawn_table(draw, book, 2, draw.choice((1, 2, 3)), 3)
            for _ in range(2):
                paths = [path for path in spots_of(value) if len(path) > 1]
                value = spoilt(value, draw.choice(paths), draw.choice(OTHERS))
            self.assertSame(table_error(book, 2, value), slow_table_error(book, 2, value))

    def test_levels_are_ahead_of_nexts(self):
        bad = ((0,), ((0, (5, None)),))
        self.assertSame(table_error(LOG, 2, (bad, ONLY)), ("state", 0, 0))
        self.assertSame(table_error(LOG, 2, (bad, ONLY[::-1])), ("level", 1))
        self.assertSame(table_error(LOG, 2, (bad, ((0, 2), ONLY[1]))), ("level", 1))
        self.assertSame(table_error(LOG, 2, (bad, ((0, 1), ((1, (0, 0)), (100, (None, None)))))), ("level", 1))
        self.assertSame(table_error(LOG, 2, (bad, ((0, 1), ((1, (0, 0)), (99, (None, None)))))), ("state", 0, 0))

    def test_one_to_five_levels(self):
        for many in (1, 2, 3):
            for levels in range(1, 8):
                nexts = [tuple(None if level + 1 == levels else 0 for _ in range(many)) for level in range(levels)]
                table = tuple(full_level(1, many ** level, nexts[level]) for level in range(levels))
                self.assertSame(table_error(LOG, many, table), None if levels < 6 else "form")
        self.assertSame(table_error((), 2, ((),) * 5), ("level", 0))
        self.assertSame(table_error((), 2, ((),) * 6), "form")

    def test_100_states_and_101(self):
        for states in (1, 99, 100, 101, 102):
            wanted = None if states <= 100 else ("level", 1)
            table = (((0,), ((0, (states - 1, 0)),)), full_level(states, 2, (None, None)))
            self.assertSame(table_error(LOG, 2, table), wanted)
            table = (full_level(states, 1, (0, 0)), ONLY)
            self.assertSame(table_error(LOG, 2, table), None if states <= 100 else ("level", 0))
        for start in (98, 99, 100):
            table = (((start,), full_level(100, 1, ())[1]),)
            self.assertSame(table_error((), 1, table), None if start < 100 else ("level", 0))
            table = (((0,), ((0, (start,)),)), full_level(100, 1, (None,)))
            self.assertSame(table_error(LOG, 1, table), None if start < 100 else ("state", 0, 0))

    def test_no_states_and_no_starts(self):
        self.assertSame(table_error((), 1, (((), ()),)), ("level", 0))
        self.assertSame(table_error((), 1, (((0,), ()),)), ("level", 0))
        self.assertSame(table_error((), 1, (((), ((0, ()),)),)), ("level", 0))
        self.assertSame(table_error((), 1, (((0,), ((0, ()),)),)), None)

    def test_far_states(self):
        states = ((0, (0,)),) * 61 + ((0, (1,)),) + ((0, (None,)),) * 38
        self.assertSame(table_error(LOG, 1, (((0,), states), ((0,), ((0, (None,)),)))), ("state", 0, 61))
        levels = tuple(full_level(2, 1, (0,)) for _ in range(4))
        last = ((0,), ((0, (None,)), (0, (0,))))
        self.assertSame(table_error(LOG, 1, levels + (last,)), ("state", 4, 1))

    def test_none_and_numbers_by_levels(self):
        # A slide leads to its own level, and nowhere at the level 0.
        self.assertSame(table_error(WINDOW, 1, (((0,), ((0, (None,)),)), ((1,), ((0, (1,)), (0, (0,)))))), None)
        self.assertSame(table_error(WINDOW, 1, (((0,), ((0, (0,)),)), ((1,), ((0, (1,)), (0, (0,)))))), ("state", 0, 0))
        self.assertSame(table_error(WINDOW, 1, (((0,), ((0, (None,)),)), ((1,), ((0, (2,)), (0, (0,)))))), ("state", 1, 0))
        self.assertSame(
            table_error(WINDOW, 1, (((0,), ((0, (None,)),)), ((1,), ((0, (1,)), (0, (None,)))))), ("state", 1, 1),
        )
        # A take leads a level down: where there are fewer states.
        self.assertSame(
            [table_error(("take left",), 1, (((0,), ((0, (None,)),)), ((1,), ((0, (0,)), (0, (last,))))))
             for last in (0, 1, None)], [None, ("state", 1, 1), ("state", 1, 1)],
        )

    def test_values_of_every_kind(self):
        for value in NO_TUPLES + ("()", 10 ** 399, [FIRST, ONLY], {0: FIRST}, ((FIRST, ONLY),) * 6):
            with self.subTest(value=value):
                self.assertSame(table_error(LOG, 2, value), "form")
        for value in NO_TUPLES:
            for book in TOLD_BOOKS:
                self.assertSame(table_error(book, 2, (value,)), ("level", 0))
                self.assertSame(table_error(book, 2, ((value, value),)), ("level", 0))

    def test_the_bare_book(self):
        for value in NO_TUPLES + ((), (FIRST, ONLY), made(ENDS, (), 2)):
            self.assertRaised(Unfit, {}, table_error, BARE, 2, value)

    def test_what_was_returned(self):
        self.assertSame(table_error(LOG, 2, all_books()), "form")
        self.assertSame(table_error(LOG, 2, all_books()[:5]), ("level", 0))
        self.assertSame(table_error(QUEUE, 2, made(ENDS, UNDOING, 4)), None)
        self.assertSame(table_error(QUEUE, 2, made(ENDS, LOG, 4)), ("level", 0))
        self.assertSame(table_error(LOG, 2, made(ENDS, LOG, 4)[1:]), ("level", 0))
        self.assertSame(table_error(LOG, 2, made(ENDS, LOG, 4)[:4]), ("state", 3, 0))


class TestMade(Case):
    def test_examples(self):
        ends, near = known_teller("ends", 2), known_teller("next", 2)
        self.assertSame(made(ends, LOG, 1), (FIRST, ONLY))
        self.assertSame(
            made(near, QUEUE, 2),
            (((0,), ((0, (0, 1, None)),)), ((0, 1), ((0, (0, 1, 0)), (0, (0, 2, 0)))),
             ((0, 1, 0, 2), ((0, (None, None, 0)), (1, (None, None, 1)), (0, (None, None, 1))))),
        )
        self.assertSame(
            [counts(made(near, QUEUE, 4)), counts(made(near, UNDOING, 4))], [(1, 2, 3, 5, 7), (1, 2, 4, 7, 11)],
        )
        self.assertRaised(Unfit, {}, made, near, QUEUE, 5)

    def test_beside_all_rows_and_deeds(self):
        for teller in drawn_tellers(643, 25, 5, 3, 2):
            for book in TOLD_BOOKS:
                for size in (0, 1, 2, 3) if kinds(teller) == 3 else (2, 4):
                    self.assertSame(made(teller, book, size), slow_made(teller, book, size))

    def test_three_kinds_to_four_letters(self):
        draw = random.Random(644)
        for book in TOLD_BOOKS:
            teller = drawn_teller(draw, 4, 3, 2)
            self.assertSame(made(teller, book, 4), slow_made(teller, book, 4))

    def test_they_are_tables_with_as_many_states_as_needs(self):
        for teller in drawn_tellers(645, 30, 6, 3, 99):
            for book in TOLD_BOOKS:
                table = made(teller, book, 4)
                self.assertSame(table_error(book, kinds(teller), table), None)
                try:
                    wanted = needs(teller, book, 4)
                except ValueError:
                    continue
                self.assertSame(counts(table), wanted)

    def test_sizes_that_are_none(self):
        for size in NO_NUMBERS + (5, 300, 10 ** 399, "4", (4,), "two"):
            with self.subTest(size=size):
                for book in (QUEUE, (), WINDOW, BARE):
                    self.assertRaised(Unfit, {}, made, FOLLOWING, book, size)

    def test_the_bare_book(self):
        for size in (0, 4, 5, None):
            self.assertRaised(Unfit, {}, made, FOLLOWING, BARE, size)

    def test_every_book(self):
        self.assertEqual(len(BOOKS), 17)
        for book in TOLD_BOOKS:
            self.assertSame(made(HOLDING, book, 0)[0][0], (0,))
            self.assertSame(len(made(HOLDING, book, 4)), 5)

    def test_least_tellers_and_others_that_tell_the_same(self):
        draw = random.Random(646)
        for teller in drawn_tellers(647, 15, 5, 3, 2):
            for book in TOLD_BOOKS:
                self.assertSame(made(spread(draw, teller), book, 2), made(teller, book, 2))

    def test_tellers_that_have_too_many_of_something_else(self):
        # Nothing is too many here, even where no need is told.
        for teller in (MIXING, long_turning(12), ring(24, 3, 3), chain(24, 3)):
            for book in TOLD_BOOKS:
                with self.assertQuick(2):
                    table = made(teller, book, 4)
                self.assertSame(table_error(book, kinds(teller), table), None)
                self.assertEqual(len(table), 5)

    def test_counts(self):
        draw = random.Random(648)
        for _ in range(30):
            book = draw.choice(TOLD_BOOKS)
            table = drawn_table(draw, book, 2, draw.randint(0, 4), 9)
            self.assertSame(counts(table), tuple(len(level[1]) for level in table))
        self.assertSame(counts((full_level(100, 1, ()),)), (100,))


class TestTimes(Case):
    def test_the_edges(self):
        draw = random.Random(649)
        for book in (("put left", "put right", "take left", "take right"), WINDOW, QUEUE, ()):
            table = drawn_table(draw, book, 3, 4, 1)
            full = tuple((starts, states * 100) for starts, states in table)
            with self.assertQuick(1):
                self.assertSame(table_error(book, 3, full), None)
