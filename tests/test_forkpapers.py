"""[F4]: forks, which show that a share of everything must be kept."""

import random

from endkeepers.amounts import needs
from endkeepers.books import all_books
from endkeepers.counting import go_alike, ways
from endkeepers.errors import TooMany, Unfit
from endkeepers.forkpapers import fork, fork_error, fork_least
from endkeepers.grades import grade
from endkeepers.knowntellers import known_teller
from endkeepers.tellers import kinds

from tests.edges import BOTH_301, LOTS_300, LOTS_301, MARKS_300, MARKS_301
from tests.helping import (
    ALL_ENDS, BOOKS, FOLLOWING, NO_PAPER_ROWS, NO_TUPLES, QUEUE, TAKING_BOOKS, UNDOING, Case, drawn_tellers,
    rows_in_order, slow_history,
)

PARITY = known_teller("parity", 2)
UNFIT_BOOKS = tuple(book for book in BOOKS if book not in TAKING_BOOKS)


def slow_fork_error(teller, book, value):
    """What is wrong first with a triple of rows, by histories and what follows."""
    start, one, other = value
    if len(one) != len(other) or len(one) <= len(start):
        return "lengths"
    begin, left, right = (slow_history(teller, book, row) for row in value)
    if left[:len(begin)] != begin or right[:len(begin)] != begin:
        return "begin"
    if left == right:
        return "alike"
    if not go_alike(teller, book, start, one) or not go_alike(teller, book, start, other):
        return "onward"
    return None


class TestFork(Case):
    def test_examples(self):
        self.assertSame(fork(FOLLOWING, UNDOING), None)
        self.assertSame(fork_error(PARITY, UNDOING, fork(PARITY, UNDOING)), None)
        self.assertSame(fork_error(FOLLOWING, ALL_ENDS, fork(FOLLOWING, ALL_ENDS)), None)

    def test_none_exactly_if_the_grade_is_a_number(self):
        answers = {book: set() for book in TAKING_BOOKS}
        for teller in drawn_tellers(500, 120, 5, 3, 2):
            for book in TAKING_BOOKS:
                try:
                    power = grade(teller, book)
                except TooMany:
                    self.assertRaised(TooMany, {"limit": 300}, fork, teller, book)
                    continue
                paper = fork(teller, book)
                self.assertEqual(paper is None, power is not None)
                answers[book].add(paper is None)
                if paper is not None:
                    self.check(teller, book, paper)
        self.assertEqual([both for both in answers.values() if both != {True, False}], [])

    def check(self, teller, book, paper):
        """The paper is a fork."""
        self.assertSame(fork_error(teller, book, paper), None)
        if len(paper[1]) <= 60:
            self.assertSame(slow_fork_error(teller, book, paper), None)
        self.assertIs(type(paper), tuple)
        for row in paper:
            self.assertLessEqual(len(row), 900)

    def test_300_lots(self):
        for book, teller in LOTS_300 + tuple(case[:2] for case in MARKS_300):
            paper = fork(teller, book)
            self.assertEqual(paper is None, grade(teller, book) is not None)
            if paper is not None:
                self.assertSame(fork_error(teller, book, paper), None)

    def test_rounds_of_unlike_lengths_far_from_the_beginning(self):
        # Behind 10 letters two rounds begin, of 3 letters and of 11.
        moves = tuple((state + 1,) * 2 for state in range(10)) + ((11, 13),)
        moves += ((12,) * 2, (10,) * 2) + tuple((state + 1,) * 2 for state in range(13, 22)) + ((10, 10),)
        teller = (moves, tuple(range(23)))
        paper = fork(teller, UNDOING)
        self.assertSame([len(row) for row in paper], [10, 24, 24])
        self.check(teller, UNDOING, paper)
        # The same, told of the ends of rows.
        turned = (((1, 1), (2, 2), (0, 3), (4, 4), (0, 0)), (0, 1, 2, 3, 4))
        self.assertSame([len(row) for row in fork(turned, UNDOING)], [2, 10, 10])
        self.check(turned, UNDOING, fork(turned, UNDOING))

    def test_unfit_books(self):
        self.assertEqual(len(UNFIT_BOOKS), 6)
        for book in UNFIT_BOOKS:
            for teller in [FOLLOWING] + [teller for _, teller in LOTS_301 + MARKS_301]:
                self.assertRaised(Unfit, {}, fork, teller, book)
                for value in (None, ((), (0,), (1,)), [], ((), (), ())):
                    self.assertRaised(Unfit, {}, fork_error, teller, book, value)

    def test_too_many_is_ahead_of_what_is_wrong(self):
        for book, teller in LOTS_301 + MARKS_301 + BOTH_301:
            self.assertRaised(TooMany, {"limit": 300}, fork, teller, book)
            for value in (None, ((), (0,), (1,)), [], ((), (), ()), ((), (0,) * 901, ())):
                self.assertRaised(TooMany, {"limit": 300}, fork_error, teller, book, value)


class TestForkError(Case):
    def test_examples(self):
        values = (
            ((), (0,), (1,)), ((0,), (0, 1, 1), (0, 0, 0)), ((), (0, 0), (1,)), ((), (0, 0), (0, 0)),
            ((0,), (1, 0, 0), (0, 1, 1)), [(), (0, 0), (1, 1)],
        )
        self.assertSame(
            [fork_error(PARITY, UNDOING, value) for value in values],
            [None, None, "lengths", "alike", "begin", "form"],
        )
        self.assertSame(fork_error(PARITY, UNDOING, ((), (0, 0), (1, 1))), None)
        self.assertSame(fork_error(FOLLOWING, UNDOING, ((), (0, 1), (1, 1))), "onward")

    def test_form(self):
        good = ((), (0, 0), (1, 1))
        values = NO_TUPLES + ((), ((),), ((), (0,)), good + ((),), (good,), list(good), (list(good),) * 3)
        for wrong in NO_PAPER_ROWS:
            for place in range(3):
                values += (good[:place] + (wrong,) + good[place + 1:],)
        for value in values:
            with self.subTest(value=value):
                self.assertSame(fork_error(PARITY, UNDOING, value), "form")
        self.assertSame(fork_error(known_teller("parity", 1), UNDOING, good), "form")
        self.assertSame(fork_error(known_teller("parity", 3), UNDOING, ((), (0, 2), (2, 1))), None)

    def test_rows_of_900_letters_and_of_901(self):
        zeros, one = (0,) * 900, (0,) * 899 + (1,)
        self.assertSame(fork_error(PARITY, UNDOING, ((), zeros, one)), None)
        self.assertSame(fork_error(PARITY, UNDOING, (zeros[:899], zeros, one)), None)
        self.assertSame(fork_error(PARITY, UNDOING, (zeros, zeros, one)), "lengths")
        self.assertSame(fork_error(PARITY, UNDOING, (zeros + (0,), zeros, one)), "form")
        self.assertSame(fork_error(PARITY, UNDOING, ((), zeros + (0,), one + (0,))), "form")
        self.assertSame(fork_error(PARITY, QUEUE, ((), zeros, zeros[:899] + (1,))), None)

    def test_lengths(self):
        for value in (((), (), ()), ((0,), (0,), (1,)), ((0, 0), (0,), (1,)), ((), (0,), ()), ((), (), (0,)),
                      ((), (0, 0), (1, 1, 1)), ((1,), (1,), (1,))):
            with self.subTest(value=value):
                self.assertSame(fork_error(PARITY, UNDOING, value), "lengths")

    def test_the_first_that_applies(self):
        answers = {}
        draw = random.Random(502)
        for teller in drawn_tellers(503, 60, 3, 2, 1):
            rows = list(rows_in_order(kinds(teller), 4))
            for book in TAKING_BOOKS:
                try:
                    ways(teller, book)
                except TooMany:
                    continue
                for _ in range(12):
                    start = draw.choice(rows[:6])
                    longer = [row for row in rows if len(row) == len(start) + draw.choice((0, 1, 1, 1, 2))]
                    value = (start, draw.choice(longer or rows), draw.choice(longer or rows))
                    wanted = slow_fork_error(teller, book, value)
                    self.assertSame(fork_error(teller, book, value), wanted)
                    answers.setdefault(book, set()).add(wanted)
        answers.pop(ALL_ENDS)
        # With both takes and a put a share is needed, or nothing.
        self.assertEqual(
            set.union(*answers.values()), {None, "lengths", "begin", "alike", "onward"},
        )
        for book, found in answers.items():
            self.assertGreaterEqual(len(found), 4, book)

    def test_begin_of_one_and_of_other(self):
        # The history of (0,) for the parity by an undo list is 0, 1.
        self.assertSame(fork_error(PARITY, UNDOING, ((0,), (0, 1), (1, 0))), "begin")
        self.assertSame(fork_error(PARITY, UNDOING, ((0,), (1, 0), (0, 1))), "begin")
        self.assertSame(fork_error(PARITY, UNDOING, ((0,), (0, 1), (0, 0))), None)
        # By the left end it is the last letter that comes first.
        self.assertSame(fork_error(PARITY, QUEUE, ((0,), (0, 1), (0, 0))), "begin")
        self.assertSame(fork_error(PARITY, QUEUE, ((0,), (1, 0), (0, 0))), None)

    def test_onward_of_one_and_of_other(self):
        holds = known_teller("holds", 2)
        self.assertSame(fork_error(holds, UNDOING, ((), (1, 1), (1, 0))), "onward")
        self.assertSame(fork_error(holds, UNDOING, ((), (1, 0), (1, 1))), "onward")
        self.assertSame(fork_error(holds, UNDOING, ((1,), (1, 1, 0), (1, 1, 1))), "onward")

    def test_rows_need_not_begin_with_the_start(self):
        count = known_teller("parity", 3)
        self.assertSame(fork_error(count, UNDOING, ((1,), (2, 0), (2, 1))), None)
        self.assertSame(fork_error(count, QUEUE, ((1,), (0, 2), (1, 2))), None)

    def test_what_was_returned(self):
        self.assertSame(fork_error(PARITY, UNDOING, all_books()), "form")
        self.assertSame(fork_error(PARITY, UNDOING, fork(PARITY, UNDOING) + ((),)), "form")
        self.assertSame(fork_error(FOLLOWING, UNDOING, fork(PARITY, UNDOING)), "onward")


class TestForkLeast(Case):
    def test_examples(self):
        paper = ((), (0, 0), (1, 1))
        self.assertSame([fork_least(paper, number) for number in (0, 1, 2, 3, 8)], [1, 1, 2, 2, 16])

    def test_below_at_and_behind_the_edges(self):
        for start, more in ((0, 1), (3, 2), (7, 5), (300, 600), (899, 1)):
            paper = ((0,) * start, (0,) * (start + more), (1,) * (start + more))
            for number in (0, start - 1, start, start + 1, start + more - 1, start + more, start + 2 * more, 899, 900):
                if 0 <= number <= 900:
                    wanted = 2 ** ((number - start) // more) if number >= start else 1
                    self.assertSame(fork_least(paper, number), wanted)
        self.assertSame(fork_least(((), (0,), (1,)), 900), 2 ** 900)

    def test_beside_needs(self):
        checked = 0
        for teller in drawn_tellers(504, 80, 4, 3, 2):
            for book in TAKING_BOOKS:
                try:
                    paper = fork(teller, book)
                except TooMany:
                    continue
                if paper is not None:
                    checked += 1
                    for number, found in enumerate(needs(teller, book, 300)):
                        self.assertLessEqual(fork_least(paper, number), found)
        self.assertGreater(checked, 100)


class TestTimes(Case):
    def test_the_edges(self):
        for book, teller in LOTS_300:
            with self.assertQuick(2):
                paper = fork(teller, book)
            long = (0, 1) * 450
            with self.assertQuick(2):
                fork_error(teller, book, paper)
            with self.assertQuick(2):
                fork_error(teller, book, ((), long, long[::-1]))
