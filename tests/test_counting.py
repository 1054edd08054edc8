"""[E1] to [E4]: lots of rows, the ways between them, rows that go alike, and the least one of like rows."""

import itertools
import random

from endkeepers.counting import go_alike, least_like, lot_of, ways
from endkeepers.errors import TooMany, Unfit
from endkeepers.histories import history
from endkeepers.knowntellers import known_teller
from endkeepers.tellers import kinds, least

from tests.edges import BOTH_301, LOTS_300, LOTS_301, MARKS_300, MARKS_301, MIXING
from tests.helping import (
    ALL_ENDS, BARE, BOOKS, FOLLOWING, QUEUE, TAKING_BOOKS, UNDOING, WINDOW, Case, chain, drawn_row, drawn_teller,
    drawn_tellers, rows_in_order, slow_class, slow_history, slow_item, spread, states_from,
)

HOLDS, ENDS, PARITY = known_teller("holds", 2), known_teller("ends", 2), known_teller("parity", 2)
UNFIT_BOOKS = tuple(book for book in BOOKS if book not in TAKING_BOOKS)
ONLY_LEFT = ("take left",)


def slow_mark(teller, book, row):
    """The mark of a row, by the table of the document."""
    moves, tells = least(teller)
    ends = tuple(states_from(teller, state, row)[-1] for state in range(len(moves)))
    if "take left" not in book:
        return ends if "put left" in book else ends[0]
    if "take right" not in book:
        return ends if "put right" in book else tuple(tells[state] for state in ends)
    if {"put left", "put right"} <= set(book):
        return ()
    pieces = [row[i:] for i in range(len(row) + 1)] if "put right" in book else [
        row[:i] for i in range(len(row) + 1)
    ]
    return tuple(sorted({slow_class(teller, book, piece) for piece in pieces}))


def longer_rows(book, many, row):
    """The rows with a letter more, as rows grow by the book."""
    if "take right" in book and ("take left" not in book or "put right" in book):
        return [row + (letter,) for letter in range(many)]
    return [(letter,) + row for letter in range(many)]


def slow_lots(teller, book, longest):
    """The lots of all rows, and the steps between them, by rows of at most so many letters.

    Returns None if a lot is not known by rows of fewer letters. Of a lot's rows one for each
    mark is kept: what comes behind a row is known by its mark.
    """
    many = kinds(teller)
    known = {(slow_mark(teller, book, ()),): 0}
    kept = [{slow_mark(teller, book, ()): ()}]
    steps = []
    while len(steps) < len(kept):
        if any(len(row) == longest for row in kept[len(steps)].values()):
            return None
        behind = {}
        for row in kept[len(steps)].values():
            for more in longer_rows(book, many, row):
                item = slow_item(teller, book, more)
                behind.setdefault(item, {})[slow_mark(teller, book, more)] = more
        pairs = []
        for item in sorted(behind):
            lot = tuple(sorted(behind[item]))
            if lot not in known:
                known[lot] = len(known)
                kept.append(behind[item])
            pairs.append((item, known[lot]))
        steps.append(tuple(pairs))
    return tuple(steps)


def lots_by_history(teller, book, length):
    """The lots of all rows of so many letters: for each history the ascending tuple of its rows' marks."""
    lots = {}
    for row in itertools.product(range(kinds(teller)), repeat=length):
        lots.setdefault(slow_history(teller, book, row), set()).add(slow_mark(teller, book, row))
    return {items: tuple(sorted(marks)) for items, marks in lots.items()}


def by_steps(steps, items):
    """The lot to which items lead."""
    here = 0
    for item in items:
        here = dict(steps[here])[item]
    return here


def slow_go_alike(steps, one, other):
    """Whether the same items follow two lots, by going on from both side by side."""
    pairs, seen = [(one, other)], {(one, other)}
    while pairs:
        here, there = (dict(steps[lot]) for lot in pairs.pop())
        if set(here) != set(there):
            return False
        for item in here:
            if (here[item], there[item]) not in seen:
                seen.add((here[item], there[item]))
                pairs.append((here[item], there[item]))
    return True


class TestWays(Case):
    def test_examples(self):
        self.assertSame(ways(FOLLOWING, UNDOING), (((0, 0), (1, 1)), ((1, 1), (2, 2)), ((2, 2),)))
        self.assertSame(ways(FOLLOWING, ("take right",)), (((0, 1),), ((0, 1), (1, 2)), ((1, 2),)))
        self.assertSame(
            ways(ENDS, ("put right", "take left", "take right")),
            ((((0,), 0), ((1,), 1)), (((0, 0), 0), ((1, 1), 1))),
        )
        self.assertSame(ways(FOLLOWING, ALL_ENDS), ((((0, 2, 2), 0), ((1, 1, 2), 0)),))
        self.assertRaised(Unfit, {}, ways, FOLLOWING, ("put right",))

    def test_more_examples_of_the_document(self):
        self.assertSame(
            ways(FOLLOWING, QUEUE),
            (((0, 1), (1, 2)), ((0, 1), (2, 3)), ((1, 4),), ((2, 3),), ((1, 4), (2, 3))),
        )

    def test_unfit_books(self):
        self.assertEqual(len(UNFIT_BOOKS), 6)
        for book in UNFIT_BOOKS:
            for teller in (FOLLOWING, MARKS_301[0][1]):
                with self.subTest(book=book):
                    self.assertRaised(Unfit, {}, ways, teller, book)
                    self.assertRaised(Unfit, {}, lot_of, teller, book, (0,))
                    self.assertRaised(Unfit, {}, go_alike, teller, book, (0,), ())
                    self.assertRaised(Unfit, {}, least_like, teller, book, (0,))

    def test_beside_lots_by_rows(self):
        compared = {book: 0 for book in TAKING_BOOKS}
        for teller in drawn_tellers(380, 60, 4, 3, 2):
            for book in TAKING_BOOKS:
                wanted = slow_lots(teller, book, 9)
                if wanted is not None:
                    compared[book] += len(wanted) > 1
                    with self.subTest(teller=teller, book=book):
                        self.assertSame(ways(teller, book), wanted)
        del compared[ALL_ENDS]
        self.assertGreater(min(compared.values()), 10)

    def test_a_lot_has_the_marks_of_all_rows_of_a_history(self):
        for teller in drawn_tellers(381, 12, 3, 2, 1):
            for book in TAKING_BOOKS:
                steps = ways(teller, book)
                numbers = {}
                for length in range(6):
                    for items, lot in lots_by_history(teller, book, length).items():
                        number = by_steps(steps, items[1:])
                        # Like lots have one number, unlike ones unlike numbers.
                        self.assertEqual(numbers.setdefault(number, lot), lot)
                self.assertEqual(len(set(numbers.values())), len(numbers))

    def test_numbering_and_order_of_steps(self):
        for teller in drawn_tellers(382, 60, 6, 3, 2):
            for book in TAKING_BOOKS:
                try:
                    steps = ways(teller, book)
                except TooMany:
                    continue
                come = [0]
                for pairs in steps:
                    self.assertSame(tuple(sorted(pairs)), pairs)
                    self.assertEqual(len({item for item, _ in pairs}), len(pairs))
                    self.assertGreaterEqual(len(pairs), 1)
                    for _, lot in pairs:
                        come += [lot] if lot not in come else []
                self.assertSame(come, list(range(len(steps))))

    def test_both_takes_and_both_puts(self):
        self.assertSame(ways(HOLDS, ALL_ENDS), ((((0, 1), 0), ((1, 1), 0)),))
        self.assertSame(ways(chain(3, 3), ALL_ENDS), ((((1, 2, 2), 0),),))

    def test_300_lots_and_301(self):
        for book, teller in LOTS_300:
            with self.subTest(book=book):
                self.assertEqual(len(ways(teller, book)), 300)
                self.assertEqual(lot_of(teller, book, ()), 0)
        for book, teller in LOTS_301 + BOTH_301:
            with self.subTest(book=book):
                self.assertRaised(TooMany, {"limit": 300}, ways, teller, book)

    def test_300_marks_and_301(self):
        for book, teller, lots in MARKS_300:
            with self.subTest(book=book):
                self.assertEqual(len(ways(teller, book)), lots)
        for book, teller in MARKS_301:
            with self.subTest(book=book):
                self.assertRaised(TooMany, {"limit": 300}, ways, teller, book)

    def test_too_many_for_all_four(self):
        for book, teller in LOTS_301 + MARKS_301 + BOTH_301:
            self.assertRaised(TooMany, {"limit": 300}, lot_of, teller, book, ())
            self.assertRaised(TooMany, {"limit": 300}, lot_of, teller, book, (0,) * 900)
            self.assertRaised(TooMany, {"limit": 300}, go_alike, teller, book, (), ())
            self.assertRaised(TooMany, {"limit": 300}, least_like, teller, book, ())

    def test_too_many_marks_come_at_once(self):
        # Of letters that mix 24 states there are more marks than could be counted.
        for book in (("put left", "take right"), ("take left",), ("put left", "put right", "take left"), QUEUE,
                     ("put left", "take left", "take right"), ("put right", "take left", "take right")):
            with self.assertQuick(2):
                self.assertRaised(TooMany, {"limit": 300}, ways, MIXING, book)


class TestLotOf(Case):
    def test_examples(self):
        self.assertSame([lot_of(FOLLOWING, UNDOING, row) for row in ((), (1,), (0,), (0, 1))], [0, 0, 1, 2])
        self.assertSame(go_alike(FOLLOWING, UNDOING, (), (1, 1, 1)), True)
        self.assertSame(go_alike(FOLLOWING, UNDOING, (), (0,)), False)

    def test_beside_histories(self):
        draw = random.Random(383)
        for teller in drawn_tellers(384, 60, 5, 3, 2):
            for book in TAKING_BOOKS:
                try:
                    steps = ways(teller, book)
                except TooMany:
                    continue
                for length in (0, 1, 2, 5, 12, 40, 100):
                    row = drawn_row(draw, kinds(teller), length)
                    self.assertSame(lot_of(teller, book, row), by_steps(steps, history(teller, book, row)[1:]))

    def test_900_letters(self):
        counting = known_teller("count", 3)
        for length in (899, 900):
            self.assertSame(lot_of(counting, UNDOING, (1,) * length), 0)
            self.assertSame(lot_of(counting, UNDOING, (1,) * (length - 1) + (0,)), lot_of(counting, UNDOING, (0,)))
            self.assertSame(lot_of(counting, UNDOING, (0,) * length), lot_of(counting, UNDOING, (0,) * 3))
            self.assertSame(lot_of(counting, QUEUE, (0,) + (1,) * (length - 1)), lot_of(counting, QUEUE, (0, 1)))
            self.assertSame(lot_of(PARITY, ONLY_LEFT, (0,) + (1,) * (length - 1)), lot_of(PARITY, ONLY_LEFT, (0,)))
            self.assertSame(lot_of(PARITY, ALL_ENDS, (0, 1) * (length // 2)), 0)

    def test_which_end_grows(self):
        # The row 0 1 grows right by a 1 for the undo list, and left by a 0 for the queue.
        self.assertSame(lot_of(FOLLOWING, UNDOING, (0, 1)), 2)
        self.assertSame(lot_of(FOLLOWING, UNDOING, (1, 0)), 1)
        self.assertSame(lot_of(FOLLOWING, QUEUE, (0, 1)), 3)
        self.assertSame(lot_of(FOLLOWING, QUEUE, (1, 0)), 4)
        for book in TAKING_BOOKS:
            for row in ((0, 0, 1), (1, 0, 0), (0, 1, 1, 0, 1)):
                items = slow_history(FOLLOWING, book, row)[1:]
                self.assertSame(lot_of(FOLLOWING, book, row), by_steps(ways(FOLLOWING, book), items))


class TestGoAlike(Case):
    def test_beside_going_on_side_by_side(self):
        draw = random.Random(385)
        answers = {book: set() for book in TAKING_BOOKS}
        for teller in drawn_tellers(386, 60, 4, 3, 2):
            for book in TAKING_BOOKS:
                try:
                    steps = ways(teller, book)
                except TooMany:
                    continue
                for _ in range(4):
                    # Rows of whatever lengths.
                    one = drawn_row(draw, kinds(teller), draw.randint(0, 5))
                    other = drawn_row(draw, kinds(teller), draw.randint(0, 5))
                    wanted = slow_go_alike(steps, lot_of(teller, book, one), lot_of(teller, book, other))
                    self.assertSame(go_alike(teller, book, one, other), wanted)
                    self.assertSame(go_alike(teller, book, other, one), wanted)
                    answers[book].add(wanted)
        self.assertEqual(answers.pop(ALL_ENDS), {True})
        self.assertEqual([both for both in answers.values() if len(both) < 2], [])

    def test_rows_of_one_lot_go_alike(self):
        draw = random.Random(387)
        for teller in drawn_tellers(388, 40, 4, 2, 1):
            for book in TAKING_BOOKS:
                rows = [drawn_row(draw, kinds(teller), draw.randint(0, 6)) for _ in range(4)]
                for one in rows:
                    for other in rows:
                        if lot_of(teller, book, one) == lot_of(teller, book, other):
                            self.assertSame(go_alike(teller, book, one, other), True)

    def test_unlike_lots_may_go_alike(self):
        # Behind a 1, and behind nothing, an undo list of the parity may go on with whatever it may.
        self.assertNotEqual(lot_of(PARITY, UNDOING, ()), lot_of(PARITY, UNDOING, (0,)))
        self.assertSame(go_alike(PARITY, UNDOING, (), (0,)), True)
        self.assertSame(go_alike(PARITY, UNDOING, (0,) * 900, (1, 0)), True)

    def test_what_follows_is_looked_at_far_on(self):
        # From either side nothing but 0 is told for 10 letters, and then 1 or 2.
        moves = [(1, 12)] + [(min(state + 1, 11),) * 2 for state in range(1, 12)]
        moves += [(min(state + 1, 22),) * 2 for state in range(12, 23)]
        teller = (tuple(moves), (0,) * 11 + (1,) + (0,) * 10 + (2,))
        self.assertSame(go_alike(teller, UNDOING, (0,), (1,)), False)
        self.assertSame(go_alike(teller, ("take right",), (0,), (1,)), True)
        self.assertSame(go_alike(teller, ("take right",), (0,) * 11, (1,) * 11), False)
        self.assertSame(go_alike(teller, ("take right",), (0,) * 11, (0,) * 900), True)


class TestLeastLike(Case):
    def test_examples(self):
        self.assertSame(least_like(FOLLOWING, QUEUE, (1, 1, 0)), (0, 0, 0))
        self.assertSame(least_like(FOLLOWING, UNDOING, (1, 1, 0)), (1, 1, 0))

    def test_beside_all_rows_of_as_many_letters(self):
        draw = random.Random(389)
        for teller in drawn_tellers(390, 50, 4, 3, 1):
            many = kinds(teller)
            for book in TAKING_BOOKS:
                length = draw.randint(0, 7 if many < 3 else 5)
                rows = list(itertools.product(range(many), repeat=length))
                try:
                    ways(teller, book)
                except TooMany:
                    continue
                firsts = {}
                for row in rows:
                    firsts.setdefault(history(teller, book, row), row)
                for row in draw.sample(rows, min(len(rows), 6)):
                    with self.subTest(teller=teller, book=book, row=row):
                        self.assertSame(least_like(teller, book, row), firsts[history(teller, book, row)])

    def test_all_rows(self):
        for teller in (FOLLOWING, ENDS, PARITY, known_teller("count", 2), (((1, 2), (1, 1), (0, 2)), (0, 1, 2))):
            for book in TAKING_BOOKS:
                firsts = {}
                for row in rows_in_order(2, 5):
                    first = firsts.setdefault((len(row), slow_history(teller, book, row)), row)
                    self.assertSame(least_like(teller, book, row), first)

    def test_a_letter_that_would_do_now_but_not_later(self):
        # 0 and 1 both bring 0 now, but only behind a 1 can 2 be told.
        teller = (((1, 2), (1, 1), (2, 3), (3, 3)), (0, 0, 0, 2))
        self.assertSame(least_like(teller, ("take right",), (1, 1, 0)), (1, 1, 0))
        self.assertSame(least_like(teller, ("take right",), (1, 0, 0)), (0, 0, 0))
        turned = known_teller("sorted", 3)
        self.assertSame(least_like(turned, ("take left",), (2, 1, 0)), (0, 1, 0))
        self.assertSame(least_like(turned, ("take left",), (2, 1, 2)), (1, 0, 0))

    def test_900_letters(self):
        self.assertSame(least_like(FOLLOWING, QUEUE, (1,) * 899 + (0,)), (0,) * 900)
        self.assertSame(least_like(FOLLOWING, UNDOING, (1,) * 899 + (0,)), (1,) * 899 + (0,))
        self.assertSame(least_like(FOLLOWING, UNDOING, (0, 1) * 450), (0, 1) + (0,) * 898)
        self.assertSame(least_like(HOLDS, ONLY_LEFT, (1,) * 450 + (0,) + (1,) * 449), (0,) * 451 + (1,) * 449)
        self.assertSame(least_like(known_teller("holds", 3), ALL_ENDS, (2, 0, 1) * 300), (1, 0, 1) * 300)
        self.assertSame(least_like(FOLLOWING, ONLY_LEFT, ()), ())

    def test_has_the_same_history_and_is_its_own_least(self):
        draw = random.Random(391)
        for teller in drawn_tellers(392, 25, 5, 3, 2):
            for book in TAKING_BOOKS:
                row = drawn_row(draw, kinds(teller), draw.choice((9, 30, 60)))
                try:
                    found = least_like(teller, book, row)
                except TooMany:
                    continue
                self.assertSame(history(teller, book, found), history(teller, book, row))
                self.assertLessEqual(found, row)
                self.assertSame(least_like(teller, book, found), found)


class TestSameTellers(Case):
    def test_whatever_tells_the_same(self):
        draw = random.Random(393)
        for teller in drawn_tellers(394, 30, 8, 3, 1):
            other = spread(draw, teller)
            row = drawn_row(draw, kinds(teller), 12)
            for book in TAKING_BOOKS:
                try:
                    steps = ways(teller, book)
                except TooMany:
                    self.assertRaised(TooMany, {"limit": 300}, ways, other, book)
                    continue
                self.assertSame(ways(other, book), steps)
                self.assertSame(least_like(other, book, row), least_like(teller, book, row))


class TestTimes(Case):
    def test_the_edges(self):
        draw = random.Random(395)
        for book, teller in LOTS_300:
            one, other = drawn_row(draw, kinds(teller), 900), drawn_row(draw, kinds(teller), 900)
            with self.assertQuick(2):
                ways(teller, book), lot_of(teller, book, one), go_alike(teller, book, one, other)
            with self.assertQuick(2):
                least_like(teller, book, one)

    def test_24_states(self):
        draw = random.Random(396)
        for _ in range(10):
            teller = drawn_teller(draw, 24, draw.randint(1, 3), draw.randint(0, 3))
            for book in TAKING_BOOKS:
                with self.assertQuick(2):
                    try:
                        ways(teller, book)
                    except TooMany:
                        pass
