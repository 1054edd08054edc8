"""[F5]: rows of rings, which show that a power of the number of letters must be kept."""

import math
import random

from endkeepers.amounts import needs
from endkeepers.books import all_books
from endkeepers.counting import go_alike, ways
from endkeepers.errors import TooMany, Unfit
from endkeepers.grades import grade
from endkeepers.knowntellers import known_teller
from endkeepers.ringpapers import rings, rings_error, rings_least
from endkeepers.tellers import kinds

from tests.edges import BOTH_301, LOTS_300, LOTS_301, MARKS_300, MARKS_301
from tests.helping import (
    ALL_ENDS, BOOKS, FOLLOWING, NO_PAPER_ROWS, NO_TUPLES, QUEUE, TAKING_BOOKS, UNDOING, Case, chain, drawn_tellers,
    slow_history,
)

PAPER = ((), (1,), (1, 0), (1, 0, 0), (1, 0, 0, 1), (1, 0, 0, 1, 0))
UNFIT_BOOKS = tuple(book for book in BOOKS if book not in TAKING_BOOKS)


def slow_rings_error(teller, book, value):
    """What is wrong first with rows, by histories and what follows."""
    items = [slow_history(teller, book, row) for row in value]
    for i in range(len(value) // 2):
        before, behind = items[2 * i], items[2 * i + 1]
        if len(behind) <= len(before) or behind[:len(before)] != before:
            return ("ring", i)
        if not go_alike(teller, book, value[2 * i], value[2 * i + 1]):
            return ("ring", i)
        if 2 * i + 2 < len(value):
            onward = items[2 * i + 2]
            step = onward[len(behind):]
            around = (behind[len(before):] * (len(step) + 1))[:len(step)]
            if onward[:len(behind)] != behind or step == around:
                return ("way", i)
    return None


class TestRings(Case):
    def test_examples(self):
        self.assertSame(len(rings(FOLLOWING, UNDOING)), 6)
        self.assertSame(rings_error(FOLLOWING, UNDOING, rings(FOLLOWING, UNDOING)), None)
        self.assertSame(rings(FOLLOWING, ALL_ENDS), None)

    def check(self, teller, book, paper, power):
        """The paper is a row of rings, with as many as the grade tells."""
        self.assertIs(type(paper), tuple)
        self.assertEqual(len(paper), 2 * power + 2)
        self.assertSame(rings_error(teller, book, paper), None)
        for row in paper:
            self.assertIs(type(row), tuple)
            self.assertLessEqual(len(row), 900)
        if len(paper[-1]) <= 40:
            self.assertSame(slow_rings_error(teller, book, paper), None)

    def test_as_many_as_the_grade_tells(self):
        found = set()
        for teller in drawn_tellers(520, 150, 5, 3, 2):
            for book in TAKING_BOOKS:
                try:
                    power = grade(teller, book)
                except TooMany:
                    self.assertRaised(TooMany, {"limit": 300}, rings, teller, book)
                    continue
                paper = rings(teller, book)
                found.add(power)
                if power is None:
                    self.assertSame(paper, None)
                else:
                    self.check(teller, book, paper, power)
        self.assertGreaterEqual(found, {None, 0, 1, 2})

    def test_known_tellers(self):
        for name, book, power in (
            ("count", UNDOING, 3), ("count", QUEUE, 3), ("sorted", UNDOING, 2), ("holds", ("take left",), 1),
            ("begins", UNDOING, 0), ("length", ALL_ENDS, 0), ("next", ("take left",), 1), ("next", QUEUE, 1),
        ):
            self.check(known_teller(name, 2), book, rings(known_teller(name, 2), book), power)

    def test_many_rings(self):
        # 24 states, each its own ring: 23 is the grade.
        moves = tuple(tuple(min(state + 1, 23) if letter == state % 2 else state for letter in (0, 1))
                      for state in range(24))
        teller = (moves, tuple(range(24)))
        self.check(teller, UNDOING, rings(teller, UNDOING), 23)

    def test_long_rings_and_long_ways_between(self):
        # A ring of 7, a way of 4 lone lots, a ring of 5, and one way past it to a ring of 3 alone.
        moves = [(1, 1), (2, 2), (3, 3), (4, 4), (5, 5), (6, 6), (0, 7)]
        moves += [(8, 19), (9, 9), (10, 10), (11, 11)]
        moves += [(12, 12), (13, 13), (14, 14), (15, 15), (11, 16)]
        moves += [(17, 17), (18, 18), (16, 16), (16, 16)]
        teller = (tuple(moves), tuple(range(20)))
        self.assertSame(grade(teller, UNDOING), 2)
        self.check(teller, UNDOING, rings(teller, UNDOING), 2)
        # Ahead of the first ring 2 letters come, and its round is 3: by an undo list of what is told.
        told = (((1, 1), (2, 2), (3, 3), (4, 4), (2, 5), (5, 5)), (0, 0, 1, 0, 0, 2))
        for book in (UNDOING, ("take right",)):
            self.assertSame(grade(told, book), 1)
            self.check(told, book, rings(told, book), 1)

    def test_300_lots(self):
        for book, teller in LOTS_300 + tuple(case[:2] for case in MARKS_300):
            paper, power = rings(teller, book), grade(teller, book)
            if power is None:
                self.assertSame(paper, None)
            else:
                self.assertEqual(len(paper), 2 * power + 2)
                self.assertSame(rings_error(teller, book, paper), None)

    def test_unfit_books(self):
        for book in UNFIT_BOOKS:
            for teller in [FOLLOWING] + [teller for _, teller in LOTS_301 + MARKS_301]:
                self.assertRaised(Unfit, {}, rings, teller, book)
                for value in (None, PAPER, [], ((), (0,))):
                    self.assertRaised(Unfit, {}, rings_error, teller, book, value)

    def test_too_many_is_ahead_of_what_is_wrong(self):
        for book, teller in LOTS_301 + MARKS_301 + BOTH_301:
            self.assertRaised(TooMany, {"limit": 300}, rings, teller, book)
            for value in (None, PAPER, [], ((), (0,)), ((0,) * 901, ())):
                self.assertRaised(TooMany, {"limit": 300}, rings_error, teller, book, value)


class TestRingsError(Case):
    def test_examples(self):
        values = (
            PAPER[:2], PAPER[:4], PAPER[1:], ((), (0,)), ((), (1,), (1, 1), (1, 1, 1)), ((), (1,), (0,), (0, 0)), ((),),
        )
        self.assertSame(rings_error(FOLLOWING, UNDOING, PAPER), None)
        self.assertSame(
            [rings_error(FOLLOWING, UNDOING, value) for value in values],
            [None, None, "form", ("ring", 0), ("way", 0), ("way", 0), "form"],
        )

    def test_form(self):
        values = NO_TUPLES + ((), ((),), PAPER[:1], PAPER[:3], PAPER[:5], list(PAPER), (list(PAPER), list(PAPER)))
        for wrong in NO_PAPER_ROWS:
            for place in range(6):
                values += (PAPER[:place] + (wrong,) + PAPER[place + 1:],)
            values += (((0,), wrong), (wrong, (0,)), (wrong,))
        for value in values:
            with self.subTest(value=value):
                self.assertSame(rings_error(FOLLOWING, UNDOING, value), "form")
        self.assertSame(rings_error(known_teller("holds", 1), UNDOING, PAPER), "form")

    def test_ring(self):
        for first in (
            ((), ()), ((1,), ()), ((1,), (1,)), ((1,), (0, 0)), ((), (0,)), ((1,), (1, 0)), ((1, 0), (1, 0, 1)),
        ):
            with self.subTest(first=first):
                self.assertSame(rings_error(FOLLOWING, UNDOING, first), ("ring", 0))
                self.assertSame(rings_error(FOLLOWING, UNDOING, first + PAPER[2:]), ("ring", 0))
        self.assertSame(rings_error(FOLLOWING, UNDOING, PAPER[:2] + ((1, 0), (1, 0))), ("ring", 1))
        self.assertSame(rings_error(FOLLOWING, UNDOING, PAPER[:2] + ((1, 0), (1, 0, 1))), ("ring", 1))
        self.assertSame(rings_error(FOLLOWING, UNDOING, PAPER[:4] + ((1, 0, 0, 1), (1, 0, 1, 1))), ("ring", 2))

    def test_way(self):
        # Steps of no items, fewer letters, another beginning, and the round gone again.
        for wrong in ((1,), (), (0,), (0, 0), (0, 1, 1), (1, 1), (1, 1, 1), (1,) * 900):
            with self.subTest(wrong=wrong):
                self.assertSame(rings_error(FOLLOWING, UNDOING, PAPER[:2] + (wrong,) + PAPER[3:]), ("way", 0))
        for wrong in ((1, 0, 0), (1, 0), (1, 0, 0, 0), (1, 1, 0, 1)):
            with self.subTest(wrong=wrong):
                self.assertSame(rings_error(FOLLOWING, UNDOING, PAPER[:4] + (wrong,) + PAPER[5:]), ("way", 1))
        # The way behind the ring 0 is looked at ahead of the ring 1.
        self.assertSame(rings_error(FOLLOWING, UNDOING, PAPER[:2] + ((1,), (0,))), ("way", 0))
        self.assertSame(rings_error(FOLLOWING, UNDOING, ((), (0,), (1,), ())), ("ring", 0))

    def test_far_on_in_a_long_row_of_rings(self):
        # Each 0 leaves a ring, and each 1 goes round.
        many = tuple((min(state + 1, 23), state) for state in range(24)), tuple(range(24))
        rows, row = [], ()
        for number in range(24):
            rows += [row, row + (1,)]
            row = row + (1, 0)
        self.assertSame(rings_error(many, UNDOING, tuple(rows)), None)
        for number in (1, 2, 3, 11, 22, 23):
            wrong = rows[:2 * number] + [rows[2 * number] + (0,)] + rows[2 * number + 1:]
            self.assertSame(rings_error(many, UNDOING, tuple(wrong)), ("ring", number))
            wrong = rows[:2 * number + 1] + [rows[2 * number] + (0,)] + rows[2 * number + 2:]
            answer = ("ring", number) if number < 23 else None
            self.assertSame(rings_error(many, UNDOING, tuple(wrong)), answer)
        for number in (0, 1, 2, 3, 11, 22):
            for more in ((), (1,), (1, 1)):
                before = rows[2 * number + 1] + more
                wrong = rows[:2 * number + 2] + [before, before + (1,)] + rows[2 * number + 4:]
                self.assertSame(rings_error(many, UNDOING, tuple(wrong)), ("way", number))

    def test_a_step_goes_round_and_leaves_later(self):
        # A ring of three: the step may go on with one item, or with all of it, or with more than a round.
        moves = ((1, 1), (2, 2), (0, 3), (3, 3))
        teller = (moves, (0, 1, 2, 3))
        self.assertSame(grade(teller, UNDOING), 1)
        start, around = (), (0, 0, 0)
        for more in (0, 1, 2, 3, 4):
            before = around + around * more + (0, 0, 1)
            self.assertSame(rings_error(teller, UNDOING, (start, around, before, before + (0,))), None)
            for end in range(len(before)):
                value = (start, around, around + before[3:end], before + (0,))
                self.assertEqual(rings_error(teller, UNDOING, value), ("way", 0))
        # A round that is gone twice is a round, too.
        self.assertSame(rings_error(teller, UNDOING, ((0,), (0,) * 7)), None)
        self.assertSame(rings_error(teller, UNDOING, ((0,), (0,) * 6)), ("ring", 0))
        self.assertSame(rings_error(teller, UNDOING, ((0,), (0,) * 7, (0,) * 8 + (1,), (0,) * 8 + (1, 1))), None)

    def test_rows_of_900_letters_and_of_901(self):
        ones = (1,) * 900
        self.assertSame(rings_error(FOLLOWING, UNDOING, ((), ones)), None)
        self.assertSame(rings_error(FOLLOWING, UNDOING, (ones[:899], ones)), None)
        self.assertSame(rings_error(FOLLOWING, UNDOING, ((), ones[:898], ones[:898] + (0,), ones[:898] + (0, 0))), None)
        self.assertSame(rings_error(FOLLOWING, UNDOING, ((), ones + (1,))), "form")
        self.assertSame(rings_error(FOLLOWING, UNDOING, (ones, ones + (1,))), "form")
        self.assertSame(rings_error(FOLLOWING, UNDOING, (ones, ones)), ("ring", 0))

    def test_where_a_ring_branches(self):
        parity = known_teller("parity", 2)
        self.assertSame(rings_error(parity, UNDOING, ((), (1,), (1, 0), (1, 0, 1))), None)
        self.assertSame(rings_error(parity, UNDOING, ((), (1,)) * 1), None)
        self.assertSame(rings_error(parity, UNDOING, ((), (1,), (1, 1), (1, 1, 1))), ("way", 0))

    def test_which_end_grows(self):
        # By a queue the history of holds goes on to the left.
        holds = known_teller("holds", 2)
        paper = ((), (1,), (0, 1), (1, 0, 1))
        self.assertSame(rings_error(holds, QUEUE, paper), None)
        self.assertSame(rings_error(holds, ("take left",), paper), None)
        self.assertSame(rings_error(holds, UNDOING, paper), ("way", 0))
        self.assertSame(rings_error(holds, UNDOING, tuple(row[::-1] for row in paper)), None)

    def test_the_first_that_applies(self):
        draw = random.Random(521)
        answers = set()
        for teller in drawn_tellers(522, 120, 3, 2, 1):
            many = kinds(teller)
            for book in TAKING_BOOKS:
                try:
                    ways(teller, book)
                except TooMany:
                    continue
                for _ in range(5):
                    rows, left = [], "take left" in book and "take right" not in book
                    row = ()
                    for _ in range(draw.choice((2, 4, 4, 6))):
                        more = tuple(draw.randrange(many) for _ in range(draw.choice((0, 1, 1, 1, 2))))
                        row = more + row if left else row + more
                        rows.append(row)
                    wanted = slow_rings_error(teller, book, tuple(rows))
                    self.assertSame(rings_error(teller, book, tuple(rows)), wanted)
                    answers.add(wanted)
        self.assertGreaterEqual(answers, {None, ("ring", 0), ("ring", 1), ("way", 0)})

    def test_what_was_returned(self):
        self.assertSame(rings_error(FOLLOWING, UNDOING, all_books()), "form")
        self.assertSame(rings_error(FOLLOWING, QUEUE, rings(FOLLOWING, QUEUE)), None)
        self.assertSame(rings_error(FOLLOWING, UNDOING, rings(FOLLOWING, UNDOING)[:4]), None)
        self.assertSame(rings_error(FOLLOWING, UNDOING, rings(FOLLOWING, UNDOING)[:3]), "form")


class TestRingsLeast(Case):
    def test_examples(self):
        self.assertSame([rings_least(PAPER, number) for number in range(8)], [1, 1, 1, 3, 6, 10, 15, 21])
        self.assertSame(needs(FOLLOWING, UNDOING, 7)[7], 29)

    def test_the_words_of_the_document(self):
        draw = random.Random(523)
        for _ in range(60):
            d = draw.randint(0, 5)
            lengths = [draw.randint(0, 4)]
            for _ in range(d):
                lengths += [draw.randint(1, 9), draw.randint(1, 5)]
            lengths.append(draw.randint(1, 9))
            rows = tuple((0,) * sum(lengths[:place + 1]) for place in range(2 * d + 2))
            c, r = sum(lengths[0::2]), max(lengths[1::2])
            for number in {0, c - 1, c, c + r - 1, c + r, c + 5 * r, 300, 900}:
                if number >= 0:
                    m = (number - c) // r
                    wanted = 1
                    if number >= c:
                        wanted = math.factorial(m + d) // (math.factorial(m) * math.factorial(d))
                    self.assertSame(rings_least(rows, number), wanted)

    def test_below_at_and_behind_the_edges(self):
        self.assertSame([rings_least(((), (0,)), number) for number in (0, 1, 900)], [1, 1, 1])
        paper = ((0,), (0,) * 4, (0,) * 6, (0,) * 8)
        self.assertSame([rings_least(paper, number) for number in (0, 2, 3, 5, 6, 8, 9, 12)], [1, 1, 1, 1, 2, 2, 3, 4])
        self.assertSame(rings_least(((), (0,), (0, 1), (0, 1, 1)), 900), 900)

    def test_beside_needs(self):
        checked = set()
        known = [known_teller(name, 2) for name in ("count", "next", "sorted")]
        for teller in list(drawn_tellers(524, 80, 5, 3, 2)) + known:
            for book in TAKING_BOOKS:
                try:
                    paper = rings(teller, book)
                except TooMany:
                    continue
                if paper is not None:
                    checked.add(len(paper))
                    for number, found in enumerate(needs(teller, book, 300)):
                        self.assertLessEqual(rings_least(paper, number), found)
        self.assertGreaterEqual(checked, {2, 4, 6, 8})


class TestTimes(Case):
    def test_the_edges(self):
        for book, teller in LOTS_300:
            with self.assertQuick(2):
                paper = rings(teller, book)
            with self.assertQuick(2):
                rings_error(teller, book, paper)
        with self.assertQuick(2):
            rings(chain(24, 3), UNDOING)
        # 40 rings, each beginning longer than the one ahead.
        holds = known_teller("holds", 2)
        rows = tuple((1,) * number for number in range(89))
        with self.assertQuick(2):
            self.assertSame(rings_error(holds, UNDOING, rows[:88]), ("way", 0))
