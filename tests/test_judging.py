"""[H4] and [H5]: what a keeper answers by a table, whether a table is right, and tables cut down."""

import itertools
import random

from endkeepers.errors import BadRun, Unfit
from endkeepers.judging import answers, broken, small
from endkeepers.knowntellers import known_teller
from endkeepers.moving import after
from endkeepers.tables import counts, made, table_error
from endkeepers.tellers import kinds, told

from tests.helping import (
    ALL_ENDS, BARE, ENDS, FOLLOWING, NO_TUPLES, QUEUE, TOLD_BOOKS, UNDOING, WINDOW, Case, drawn_teller, drawn_tellers,
    slow_after, slow_told,
)
from tests.keeping import (
    drawn_deeds, drawn_start, drawn_table, part_of, slow_answers, slow_broken, slow_deeds, slow_level, slow_small,
    split_table, spoilt, spots_of,
)

LOG = ("put right",)
ONLY, FIRST = ((0, 1), ((1, (None, None)), (0, (None, None)))), ((0,), ((0, (0, 1)),))
WRONG = (((0,), ((0, (0, 0, None)),)), ((0, 1), ((1, (None, None, 0)), (0, (None, None, 0)))))
SPARE = (
    ((0,), ((0, (0, 1, None)), (1, (0, 0, None)))),
    ((2, 1), ((1, (None, None, 0)), (0, (None, None, 0)), (1, (None, None, 0)))),
)


def long_table(wrong):
    """A table of five levels for an undo list of one kind: up and down, each time in the next state of a level.

    In all states 0 is told, but in the one of the place wrong, along this way, 1 is.
    """
    levels = [[] for _ in range(5)]
    way = []
    up = True
    level = 0
    while len(levels[level]) < 100:
        way.append((level, len(levels[level])))
        levels[level].append(None)
        up = True if level == 0 else False if level == 4 else up
        level += 1 if up else -1
    behind = {here: there for here, there in zip(way, way[1:])}
    table = []
    for level, states in enumerate(levels):
        lines = []
        for state in range(len(states)):
            there = behind.get((level, state), (None, None))
            nexts = tuple(
                None if to not in range(5) else there[1] if there[0] == to else 0 for to in (level + 1, level - 1)
            )
            lines.append((int((level, state) == (way[wrong] if wrong is not None else None)), nexts))
        table.append(((0,), tuple(lines)))
    return tuple(table), len(way)


class TestAnswers(Case):
    def test_examples(self):
        near = known_teller("next", 2)
        self.assertSame(
            answers(QUEUE, 2, made(near, QUEUE, 2), (0,), (("put right", 1), ("take left",), ("put right", 0))),
            (0, 1, 0, 0),
        )
        self.assertSame(answers(LOG, 2, (FIRST, ONLY), (1,), ()), (0,))
        self.assertRaised(
            BadRun, {"place": 1}, answers, LOG, 2, (FIRST, ONLY), (), (("put right", 0), ("put right", 0)),
        )
        self.assertRaised(Unfit, {}, answers, LOG, 2, (FIRST, ONLY), (0, 1), ())

    def test_made_tables_tell_what_the_teller_tells(self):
        draw = random.Random(660)
        for teller in drawn_tellers(661, 30, 5, 3, 9):
            many = kinds(teller)
            for book in TOLD_BOOKS:
                size = draw.randint(0, 4)
                table = made(teller, book, size)
                row = drawn_start(draw, many, size)
                deeds = drawn_deeds(draw, book, many, len(row), size, 40)
                rows = [row]
                for deed in deeds:
                    rows.append(slow_after(rows[-1], deed))
                self.assertSame(answers(book, many, table, row, deeds), tuple(slow_told(teller, row) for row in rows))

    def test_drawn_tables_to_300_deeds(self):
        draw = random.Random(662)
        longest = 0
        for _ in range(200):
            book, many = draw.choice(TOLD_BOOKS), draw.randint(1, 3)
            size = draw.randint(0, 4 if many < 3 else 3)
            table = drawn_table(draw, book, many, size, 6, 99)
            row = drawn_start(draw, many, size)
            deeds = drawn_deeds(draw, book, many, len(row), size, draw.choice((3, 30, 300)))
            longest = max(longest, len(deeds))
            wanted, place = slow_answers(book, many, table, row, deeds)
            self.assertIs(place, None)
            self.assertSame(answers(book, many, table, row, deeds), wanted)
        self.assertGreater(longest, 250)

    def test_thousands_of_deeds(self):
        table = made(ENDS, UNDOING, 1)
        deeds = (("put right", 0), ("take right",)) * 2000
        self.assertSame(answers(UNDOING, 2, table, (), deeds), (0, 1) * 2000 + (0,))
        self.assertRaised(BadRun, {"place": 4000}, answers, UNDOING, 2, table, (), deeds + (("take right",),))

    def test_each_row_begins_where_starts_tell(self):
        for many, size in ((1, 4), (2, 4), (3, 4)):
            # Each row of its level has a state of its own, which tells a number of its own.
            levels = []
            for level in range(size + 1):
                rows = many ** level
                starts = tuple(reversed(range(rows)))
                levels.append((starts, tuple((99 - state, ()) for state in range(rows))))
            for level in range(size + 1):
                for place, row in enumerate(itertools.product(range(many), repeat=level)):
                    self.assertSame(answers((), many, tuple(levels), row, ()), (99 - (many ** level - 1 - place),))

    def test_deeds_that_cannot_be_done(self):
        draw = random.Random(663)
        wrong = NO_TUPLES + (
            (), ("jump",), ("put right",), ("put right", 2), ("put right", True), ("put right", -1), ("put right", 0, 0),
            ("take left", 0), (("put right", 0),), ("slide",), ("slide", 3), [], ["put right", 0], "take left",
            (["put right"], 0), ("put right", [0]), ("put right", {0: 1}),
        )
        for book in TOLD_BOOKS:
            other = [deed for deed in slow_deeds(ALL_ENDS + WINDOW, 2) if deed[0] not in book]
            for _ in range(6):
                size = draw.randint(0, 4)
                table = made(FOLLOWING, book, size)
                row = drawn_start(draw, 2, size)
                deeds = drawn_deeds(draw, book, 2, len(row), size, 12)
                for value in draw.sample(wrong, 6) + draw.sample(other, 1):
                    place = draw.randint(0, len(deeds))
                    for behind in ((), deeds[place:], ("jump", None)):
                        value_run = deeds[:place] + (value,) + behind
                        self.assertRaised(BadRun, {"place": place}, answers, book, 2, table, row, value_run)

    def test_the_empty_row_and_the_last_level(self):
        for book in TOLD_BOOKS:
            for size in range(5):
                table = made(FOLLOWING, book, size)
                for length in range(size + 1):
                    for deed in slow_deeds(book, 2):
                        if slow_level(length, deed, size) is None:
                            self.assertRaised(BadRun, {"place": 0}, answers, book, 2, table, (1,) * length, (deed,))
                        else:
                            self.assertEqual(len(answers(book, 2, table, (1,) * length, (deed,))), 2)

    def test_rows_that_are_too_long(self):
        for book in TOLD_BOOKS:
            for size in range(5):
                table = made(FOLLOWING, book, size)
                self.assertEqual(len(answers(book, 2, table, (0,) * size, ())), 1)
                for length in (size + 1, size + 2, 40):
                    # Ahead of a deed that cannot be done.
                    for deeds in ((), ("jump",), ([],), (("take left",),) * 300):
                        self.assertRaised(Unfit, {}, answers, book, 2, table, (0,) * length, deeds)

    def test_the_bare_book(self):
        for deeds in ((), ("jump",), (("take left",),)):
            for row in ((), (0,), (0, 1)):
                self.assertRaised(Unfit, {}, answers, BARE, 2, (FIRST, ONLY), row, deeds)


class TestBroken(Case):
    def test_examples(self):
        near = known_teller("next", 2)
        self.assertSame(
            [broken(ENDS, UNDOING, WRONG), broken(ENDS, UNDOING, made(ENDS, UNDOING, 1)), broken(near, LOG, (FIRST, ONLY))],
            [((), (("put right", 1),)), None, ((0,), ())],
        )
        self.assertSame(broken(ENDS, UNDOING, SPARE), None)

    def check(self, teller, book, table):
        """What broken tells is right, and no fewer deeds would do."""
        found = broken(teller, book, table)
        wanted = slow_broken(teller, book, table)
        if wanted is None:
            self.assertSame(found, None)
            return None
        row, deeds = found
        self.assertIs(type(found), tuple)
        self.assertIs(type(row), tuple)
        self.assertIs(type(deeds), tuple)
        self.assertEqual(len(deeds), wanted)
        behind = row
        for deed in deeds:
            behind = after(book, kinds(teller), behind, deed)
        self.assertNotEqual(answers(book, kinds(teller), table, row, deeds)[-1], told(teller, behind))
        return wanted

    def test_made_split_and_cut_down_tables_are_right(self):
        draw = random.Random(664)
        for teller in drawn_tellers(665, 20, 5, 3, 3):
            many = kinds(teller)
            for book in TOLD_BOOKS:
                table = made(teller, book, draw.randint(0, 4 if many < 3 else 3))
                for right in (table, split_table(draw, book, many, table), small(book, many, table)):
                    self.assertSame(broken(teller, book, right), None)

    def test_spoilt_tables(self):
        draw = random.Random(666)
        told_by = {}
        for _ in range(700):
            teller = drawn_teller(draw, draw.randint(1, 4), draw.randint(1, 2), 1)
            book, many = draw.choice(TOLD_BOOKS), kinds(teller)
            table = split_table(draw, book, many, made(teller, book, draw.randint(1, 4)))
            for _ in range(draw.choice((1, 1, 2))):
                paths = [path for path in spots_of(table) if isinstance(part_of(table, path), int)]
                value = spoilt(table, draw.choice(paths), draw.randrange(4))
                table = value if table_error(book, many, value) is None else table
            told_by.setdefault(self.check(teller, book, table), []).append(book)
        self.assertGreaterEqual(set(told_by), {None, 0, 1, 2, 3, 4})

    def test_drawn_tables(self):
        draw = random.Random(667)
        for _ in range(150):
            teller = drawn_teller(draw, draw.randint(1, 3), draw.randint(1, 3), 0)
            book = draw.choice(TOLD_BOOKS)
            table = drawn_table(draw, book, kinds(teller), draw.randint(0, 3), 5, 0)
            self.check(teller, book, table)
            self.check(teller, book, spoilt(table, (len(table) - 1, 1, 0, 0), 1))

    def test_right_for_rows_to_its_own_last_level_alone(self):
        # That a 1 stands just behind a 0 is told of no row of one letter.
        never = ((((0, 0),)), (0,))
        self.assertSame(broken(FOLLOWING, UNDOING, made(never, UNDOING, 1)), None)
        found = broken(FOLLOWING, UNDOING, made(never, UNDOING, 2))
        self.assertSame(found, ((0, 1), ()))

    def test_more_than_200_deeds(self):
        never = (((0,),), (0,))
        table, length = long_table(None)
        self.assertSame(broken(never, UNDOING, table), None)
        self.assertGreater(length, 390)
        for wrong in (length - 1, 201, 200, 5):
            table, _ = long_table(wrong)
            with self.assertQuick(2):
                row, deeds = broken(never, UNDOING, table)
            # The table begins in the state 0 of each level: at the places 0 to 4 of the way.
            self.assertEqual((len(row), len(deeds)), (4, wrong - 4))
            self.assertSame(answers(UNDOING, 1, table, row, deeds), (0,) * (wrong - 4) + (1,))

    def test_the_bare_book(self):
        for table in ((FIRST, ONLY), made(ENDS, (), 1), SPARE):
            self.assertRaised(Unfit, {}, broken, ENDS, BARE, table)
            self.assertRaised(Unfit, {}, small, BARE, 2, table)


class TestSmall(Case):
    def test_examples(self):
        near = known_teller("next", 2)
        self.assertSame(
            small(LOG, 2, made(near, LOG, 1)), (((0,), ((0, (0, 0)),)), ((0, 0), ((0, (None, None)),))),
        )
        self.assertSame(
            [counts(small(UNDOING, 2, made(near, UNDOING, 4))), counts(small(QUEUE, 2, made(near, QUEUE, 4)))],
            [(1, 2, 4, 7, 10), (1, 2, 3, 5, 7)],
        )
        self.assertSame(small(UNDOING, 2, SPARE), made(ENDS, UNDOING, 1))

    def test_drawn_tables(self):
        draw = random.Random(668)
        fewer = {}
        for _ in range(400):
            book, many = draw.choice(TOLD_BOOKS), draw.randint(1, 3)
            table = drawn_table(draw, book, many, draw.randint(0, 3), draw.choice((1, 3, 6)), draw.choice((0, 1, 1, 2)))
            if draw.random() < 0.3:
                table = split_table(draw, book, many, table)
            found = small(book, many, table)
            self.assertSame(found, slow_small(book, many, table))
            self.assertSame(table_error(book, many, found), None)
            self.assertSame(small(book, many, found), found)
            fewer[sum(counts(table)) - sum(counts(found))] = True
        self.assertGreater(len(fewer), 10)

    def test_it_answers_the_same(self):
        draw = random.Random(669)
        for _ in range(200):
            book, many = draw.choice(TOLD_BOOKS), draw.randint(1, 2)
            size = draw.randint(0, 4)
            table = drawn_table(draw, book, many, size, 5, 1)
            found = small(book, many, table)
            for _ in range(5):
                row = drawn_start(draw, many, size)
                deeds = drawn_deeds(draw, book, many, len(row), size, 30)
                self.assertSame(answers(book, many, found, row, deeds), answers(book, many, table, row, deeds))

    def test_the_order_of_numbering(self):
        # Starts come first, level by level, and then the nexts of one state behind another, whatever its level.
        table = (
            ((2,), ((0, (3, 1)), (1, (0, 0)), (2, (1, 2)))),
            ((3, 0), ((3, (None, None)), (4, (None, None)), (5, (None, None)), (6, (None, None)))),
        )
        self.assertSame(
            small(LOG, 2, table),
            (((0,), ((2, (2, 3)),)),
             ((0, 1), ((6, (None, None)), (3, (None, None)), (4, (None, None)), (5, (None, None))))),
        )
        # By takes and puts: the state 1 of the level 0 is come to from the level 1 alone, and leads on.
        table = (
            ((0,), ((0, (0, None)), (1, (1, None)), (2, (2, None)))),
            ((0,), ((3, (None, 2)), (4, (None, 1)), (5, (None, 0)))),
        )
        self.assertSame(
            small(UNDOING, 1, table),
            (((0,), ((0, (0, None)), (2, (1, None)))), ((0,), ((3, (None, 1)), (5, (None, 0))))),
        )

    def test_states_that_nothing_leads_to(self):
        table = (((1,), ((0, ()), (0, ()), (1, ()))), ((1, 1), ((9, ()), (8, ()))))
        self.assertSame(small((), 2, table), (((0,), ((0, ()),)), ((0, 0), ((8, ()),))))
        # These lead to one another, but no start leads to them.
        table = (((0,), ((0, (None,)),)), ((0,), ((1, (0,)), (2, (2,)), (3, (1,)))))
        self.assertSame(small(WINDOW, 1, table), (((0,), ((0, (None,)),)), ((0,), ((1, (0,)),))))

    def test_states_told_alike_far_on(self):
        # Around a ring of a hundred, all told alike, but the last one.
        for last in (0, 1):
            states = tuple((last if state == 99 else 0, ((state + 1) % 100,)) for state in range(100))
            table = (((0,), ((0, (None,)),)), ((7,), states))
            with self.assertQuick(3):
                found = small(WINDOW, 1, table)
            self.assertSame(counts(found), (1, 100 if last else 1))
            if last:
                # The start is the state 7 of before, and so on around.
                self.assertSame(found[1][1], tuple((int(state == 92), ((state + 1) % 100,)) for state in range(100)))

    def test_chains_of_a_hundred_states(self):
        for wrong in (True, False):
            states = tuple((int(wrong and state == 99), (min(state + 1, 99),)) for state in range(100))
            table = (((0,), ((0, (None,)),)), ((0,), states))
            with self.assertQuick(3):
                found = small(WINDOW, 1, table)
            self.assertSame(counts(found), (1, 100 if wrong else 1))
            self.assertSame(found, table if wrong else (((0,), ((0, (None,)),)), ((0,), ((0, (0,)),))))

    def test_five_levels_of_a_hundred_states(self):
        draw = random.Random(670)
        table, length = long_table(None)
        with self.assertQuick(3):
            self.assertSame(counts(small(UNDOING, 1, table)), (1,) * 5)
        table, length = long_table(300)
        with self.assertQuick(3):
            found = small(UNDOING, 1, table)
        self.assertSame(small(UNDOING, 1, found), found)
        self.assertSame(table_error(UNDOING, 1, found), None)
        for book, many in ((ALL_ENDS, 3), (WINDOW, 3), (QUEUE, 2)):
            teller = drawn_teller(draw, 24, many, 9)
            table = drawn_table(draw, book, many, 4, 1)
            # The same states a hundred times, each copy leading to some copy.
            full = tuple(
                (starts, tuple((number, tuple(None if there is None else draw.randrange(100) for there in nexts))
                               for number, nexts in states * 100)) for starts, states in table
            )
            with self.assertQuick(3):
                self.assertSame(counts(small(book, many, full)), (1,) * 5)
            with self.assertQuick(3):
                broken(teller, book, full)
            right = tuple((starts, tuple((5, nexts) for _, nexts in states)) for starts, states in full)
            with self.assertQuick(3):
                self.assertSame(broken((((0,) * many,), (5,)), book, right), None)
            row = (0,) * 4
            deeds = drawn_deeds(draw, book, many, 4, 4, 300)
            with self.assertQuick(1):
                answers(book, many, full, row, deeds)
